import PyProof.Rows.All
import Wide.All
import OpenK.AllK
import Wide.FinOn
import Lean
import PyProof.EqAt
import PyProof.EqKinds
import PyProof.TupleCall
import PySem.Challenge.RW_rowsbeneath_k18_steps_refused
set_option Elab.async false
set_option linter.all false
set_option maxRecDepth 100000
namespace L2
open PySem PySem.Spec PyProof.Rows
abbrev Key := Sum Int Str
def keyIs : Key → Value → Bool
  | .inl k, v => Value.isInt k v
  | .inr x, v => Value.isStrOf x v
def keyH (w : World) : Key → Int
  | .inl k => hashInt k
  | .inr x => hashStr w x
theorem keyIs_shape : ∀ {k : Key} {v : Value}, keyIs k v = true → (∃ i t, k = Sum.inl i ∧ v = Value.int i t) ∨ (∃ x t, k = Sum.inr x ∧ v = Value.str x t)
  | .inl i, v, h => by
    obtain ⟨t, e⟩ := Value.isInt_shape (k := i) (v := v) h
    exact .inl ⟨i, t, rfl, e⟩
  | .inr x, v, h => by
    obtain ⟨t, e⟩ := Value.isStrOf_shape (x := x) (v := v) h
    exact .inr ⟨x, t, rfl, e⟩
theorem keyIs_int (i : Int) (t : Tok) : keyIs (.inl i) (.int i t) = true := by simp [keyIs, Value.isInt]
theorem keyIs_str (x : Str) (t : Tok) : keyIs (.inr x) (.str x t) = true := by simp [keyIs, Value.isStrOf]
theorem key_ll (a b : Int) : decide ((Sum.inl a : Key) = Sum.inl b) = (a == b) := by
  by_cases e : a = b
  · subst e; simp
  · have h : ¬ (Sum.inl a : Key) = Sum.inl b := fun q => e (Sum.inl.inj q)
    rw [decide_eq_false h]
    exact (beq_eq_false_iff_ne.mpr e).symm
theorem key_rr (a b : Str) : decide ((Sum.inr a : Key) = Sum.inr b) = decide (a = b) := by
  by_cases e : a = b
  · subst e; simp
  · have h : ¬ (Sum.inr a : Key) = Sum.inr b := fun q => e (Sum.inr.inj q)
    rw [decide_eq_false h, decide_eq_false e]
theorem key_lr (a : Int) (b : Str) : decide ((Sum.inl a : Key) = Sum.inr b) = false := decide_eq_false (fun q => nomatch q)
theorem key_rl (a : Str) (b : Int) : decide ((Sum.inr a : Key) = Sum.inl b) = false := decide_eq_false (fun q => nomatch q)
def mixKind (prog : Program) (w : World) : PySem.KeyKind prog w Key where
  is := keyIs
  hash := keyH w
  inj := fun v a b ha hb => by
    rcases keyIs_shape ha with ⟨i, t, rfl, rfl⟩ | ⟨x, t, rfl, rfl⟩
    · rcases keyIs_shape hb with ⟨j, u, rfl, e⟩ | ⟨y, u, rfl, e⟩
      · injection e with e1 _; rw [e1]
      · exact nomatch e
    · rcases keyIs_shape hb with ⟨j, u, rfl, e⟩ | ⟨y, u, rfl, e⟩
      · exact nomatch e
      · injection e with e1 _; rw [e1]
  byValue := fun k v h => by
    rcases keyIs_shape h with ⟨i, t, rfl, rfl⟩ | ⟨x, t, rfl, rfl⟩ <;> rfl
  pyHash := fun hv h => by
    rcases keyIs_shape hv with ⟨i, t, rfl, rfl⟩ | ⟨x, t, rfl, rfl⟩
    · exact wpAny_pyHash_int h
    · exact wpAny_pyHash_str h
  eqBool := fun hu hv h => by
    rcases keyIs_shape hu with ⟨i, t, rfl, rfl⟩ | ⟨x, t, rfl, rfl⟩
    · rcases keyIs_shape hv with ⟨j, u, rfl, rfl⟩ | ⟨y, u, rfl, rfl⟩
      · rw [key_ll] at h; exact wpAny_eqBool_int h
      · rw [key_lr] at h; exact SeqAt.EqAt.int_str i t y u _ _ _ _ h
    · rcases keyIs_shape hv with ⟨j, u, rfl, rfl⟩ | ⟨y, u, rfl, rfl⟩
      · rw [key_rl] at h; exact SeqAt.EqAt.str_int x t j u _ _ _ _ h
      · rw [key_rr] at h; exact wpAny_eqBool_str h
  «strs» := fun k x t v h => by
    rcases keyIs_shape h with ⟨i, u, rfl, e⟩ | ⟨y, u, rfl, e⟩
    · exact nomatch e
    · injection e with e1 _
      subst e1
      cases v <;> rfl
theorem mixKind_int (prog : Program) (w : World) (i : Int) (t : Tok) : (mixKind prog w).is (.inl i) (.int i t) = true := keyIs_int i t
theorem mixKind_str (prog : Program) (w : World) (x : Str) (t : Tok) : (mixKind prog w).is (.inr x) (.str x t) = true := keyIs_str x t
end L2
namespace L2
open PySem PySem.Spec PyProof.Rows
inductive V where
  | non | bl (b : Bool) | int (i : Int) | str (x : Str) | byt (b : Array UInt8) | flt (b : UInt64) | ref (a : Addr) | ty (n : String)
  deriving DecidableEq
def RelV : V → Value → Prop
  | .non, u => u = Value.none
  | .bl b, u => u = Value.bool b
  | .int i, u => ∃ t, u = Value.int i t
  | .str x, u => ∃ t, u = Value.str x t
  | .byt b, u => ∃ t, u = Value.bytes b t
  | .flt b, u => ∃ t, u = Value.float b t
  | .ref a, u => u = Value.ref a
  | .ty n, u => u = Value.type n
abbrev Vals : List V → List Value → Prop := Paired RelV
theorem Vals.length {xs : List V} {us : List Value} (r : Vals xs us) : xs.length = us.length := Paired.length r
theorem Vals.get : ∀ {xs : List V} {us : List Value} {i : Nat} {x : V}, Vals xs us → xs[i]? = some x → ∃ u, us[i]? = some u ∧ RelV x u
  | _, _, _, _, .nil, e => by simp at e
  | _, _, 0, _, .cons r _, e => by simp at e; subst e; exact ⟨_, rfl, r⟩
  | _, _, i + 1, x, .cons _ t, e => by
    obtain ⟨u, h1, h2⟩ := Vals.get (i := i) (x := x) t (by simpa using e)
    exact ⟨u, by simpa using h1, h2⟩
theorem Vals.set {x : V} {u : Value} (r : RelV x u) : ∀ {xs : List V} {us : List Value} (i : Nat), Vals xs us → Vals (xs.set i x) (us.set i u)
  | _, _, _, .nil => .nil
  | _, _, 0, .cons _ t => .cons r t
  | _, _, i + 1, .cons q t => .cons q (Vals.set r i t)
theorem Vals.append : ∀ {xs ys : List V} {us ws : List Value}, Vals xs us → Vals ys ws → Vals (xs ++ ys) (us ++ ws)
  | _, _, _, _, .nil, s => s
  | _, _, _, _, .cons r t, s => .cons r (Vals.append t s)
theorem Vals.take : ∀ {xs : List V} {us : List Value} (n : Nat), Vals xs us → Vals (xs.take n) (us.take n)
  | _, _, 0, _ => .nil
  | _, _, _ + 1, .nil => .nil
  | _, _, n + 1, .cons r t => .cons r (Vals.take n t)
theorem Vals.drop : ∀ {xs : List V} {us : List Value} (n : Nat), Vals xs us → Vals (xs.drop n) (us.drop n)
  | _, _, 0, r => r
  | _, _, _ + 1, .nil => .nil
  | _, _, n + 1, .cons _ t => Vals.drop n t
def RelO : Option V → Option Value → Prop
  | some v, some u => RelV v u
  | none, none => True
  | _, _ => False
def KV {κ : Type} : List (κ × V) → List (κ × Value) → Prop := Paired fun (p : κ × V) (q : κ × Value) => p.1 = q.1 ∧ RelV p.2 q.2
def kV : Key → V
  | .inl i => .int i
  | .inr x => .str x
inductive HO where
  /-- a list -/
  | lst (xs : List V)
  /-- a tuple (never changes) -/
  | tup (xs : List V)
  /-- a dict whose keys are ints and texts; one whose keys are tuples of ints and texts (the empty one is both) -/
  | dK (kvs : List (Key × V)) | dT (kvs : List (List Key × V))
  /-- a set of ints: its members, its size -/
  | set (S : Int → Bool) (n : Nat)
  /-- an instance of the class at C, its dict at dx, its attributes -/
  | ins (C dx : Addr) (fs : List (Str × V))
  /-- the dict of the instance at x -/
  | own (x : Addr)
  /-- the dict of an exception -/
  | xd (fs : List (Str × V))
  /-- a bound method, f of x -/
  | met (f x : Addr)
  /-- a range object lo, lo + 1, .. below hi -/
  | rng (lo hi : Int)
  /-- a thing that is known to the object (the script; a dict while a loop walks it): read, never written while it is so -/
  | frz (o : Obj) (u : HO)
  /-- a code object's table -/
  | tbl (ps : Array Value)
  /-- any other thing, by what is true of its one object (a def of one's own: SetO a S n := HO.ext fun h => ..) -/
  | ext (φ : Heap → Prop)
abbrev Hp := Addr → Option HO
def upd (H : Hp) (a : Addr) (o : HO) : Hp := fun b => if b = a then some o else H b
theorem upd_same {H : Hp} {a : Addr} {o : HO} : upd H a o a = some o := by unfold upd; rw [if_pos rfl]
theorem upd_ne {H : Hp} {a b : Addr} {o : HO} (h : b ≠ a) : upd H a o b = H b := by unfold upd; rw [if_neg h]
theorem ne_of_none {H : Hp} {a b : Addr} {o : HO} (h : H a = some o) (h' : H b = none) : a ≠ b := by
  intro e; subst e; rw [h] at h'; cases h'
def TupP (h : Heap) (a : Addr) (items : Array Value) : Prop := ∃ o, h.get? a = some o ∧ (o.cls, o.dict) = (Value.type "tuple", none) ∧ ∃ n, o.data = Data.seq items n
theorem TupP.up {h : Heap} {a : Addr} {items : Array Value} (p : TupP h a items) : IsTup h a items := let ⟨o, e, c, d⟩ := p; ⟨o, e, (Prod.mk.inj c).1, d⟩
theorem TupP.lt {h : Heap} {a : Addr} {items : Array Value} (p : TupP h a items) : a < h.objs.size := let ⟨_, e, _⟩ := p; Heap.lt_size e
theorem TupP.new (h : Heap) (items : Array Value) : TupP (h.push { cls := .type "tuple", data := .seq items }) h.objs.size items := ⟨_, Heap.get?_push_size _ rfl, rfl, _, rfl⟩
section
variable (P : Program) (w : World)
def ObjOk (H : Hp) (h : Heap) (a : Addr) : HO → Prop
  | .lst xs => xs.length ≤ sizeLine ∧ ∃ (its : List Value) (n : Nat), Vals xs its ∧ h.get? a = some { cls := .type "list", data := .seq its.toArray n }
  | .tup xs => xs.length ≤ sizeLine ∧ ∃ its : List Value, Vals xs its ∧ TupP h a its.toArray
  | .dK kvs => kvs.length ≤ sizeLine ∧ (a == sysModules) = false ∧ ∃ vs, KV kvs vs ∧ h.DictOf (mixKind P w) a vs
  | .dT kvs => kvs.length ≤ sizeLine ∧ (a == sysModules) = false ∧ ∃ xs : List (List Key × Addr × Value),
      Paired (fun (p : List Key × V) (q : List Key × Addr × Value) => p.1 = q.1 ∧ H q.2.1 = some (.tup (p.1.map kV)) ∧ RelV p.2 q.2.2) kvs xs ∧
      ∃ o es ep, h.get? a = some o ∧ o.ExactDict ∧ o.data = .dict es ep ∧ es.toList = xs.map (entryOfKey (tupleKind (mixKind P w))) ∧ (xs.map (·.1)).Nodup
  | .set S n => h.SetOf (intKind P w) a S n
  | .ins C dx fs => H dx = some (.own a) ∧ fs.length ≤ 1000 ∧ dx ≠ a ∧ h.get? a = some (PySem.W.instObj C dx) ∧
      ∃ mA, h.Ns1 dx mA ∧ (∀ f, RelO (fs.lookup f) (mA f)) ∧ PySem.Within mA (fs.map (·.1))
  | .own _ => ∃ o, h.get? a = some o
  | .xd fs => ∃ mA, h.Ns1 a mA ∧ ∀ f, RelO (fs.lookup f) (mA f)
  | .rng lo hi => ∃ t u v, h.get? a = some { cls := .type "range", data := .fields #[.int lo t, .int hi u, .int 1 v] }
  | .frz o u => h.get? a = some o ∧ ObjOk H h a u
  | .tbl ps => h.get? a = some { cls := .none, data := .fields ps }
  | .met f x => h.get? a = some (PySem.W.methodObj (.ref f) (.ref x))
  | .ext φ => φ h ∧ (∃ o, h.get? a = some o) ∧ ∀ h1 h2 : Heap, φ h1 → (∀ o, h1.get? a = some o → h2.get? a = some o) → φ h2
def HOk (H : Hp) (h : Heap) : Prop := ∀ a o, H a = some o → ObjOk P w H h a o
end
section
variable {P : Program} {w : World} {H H' : Hp} {h h' : Heap} {a : Addr} {o : HO}
theorem ObjOk.lt (x : ObjOk P w H h a o) : a < h.objs.size := by
  cases o with
  | lst xs => obtain ⟨_, _, _, _, e⟩ := x; exact Heap.lt_size e
  | tup xs => obtain ⟨_, _, _, p⟩ := x; exact p.lt
  | dK kvs => obtain ⟨_, _, _, _, o, _, _, e, _⟩ := x; exact Heap.lt_size e
  | dT kvs => obtain ⟨_, _, _, _, o, _, _, e, _⟩ := x; exact Heap.lt_size e
  | set S n => obtain ⟨o, _, _, _, e, _⟩ := x; exact Heap.lt_size e
  | ins C dx fs => obtain ⟨_, _, _, e, _⟩ := x; exact Heap.lt_size e
  | own y => obtain ⟨_, e⟩ := x; exact Heap.lt_size e
  | xd fs => obtain ⟨_, ⟨_, _, _, e, _⟩, _⟩ := x; exact Heap.lt_size e
  | rng lo hi => obtain ⟨_, _, _, e⟩ := x; exact Heap.lt_size e
  | frz ob u => obtain ⟨e, _⟩ := x; exact Heap.lt_size e
  | tbl ps => exact Heap.lt_size (show h.get? a = some _ from x)
  | met f y => exact Heap.lt_size (show h.get? a = some _ from x)
  | ext φ => obtain ⟨_, ⟨_, e⟩, _⟩ := x; exact Heap.lt_size e
theorem Paired.mapP {α β : Type} {F G : α → β → Prop} : ∀ {l₁ : List α} {l₂ : List β}, Paired F l₁ l₂ → (∀ a b, F a b → G a b) → Paired G l₁ l₂
  | _, _, .nil, _ => .nil
  | _, _, .cons r t, f => .cons (f _ _ r) (Paired.mapP t f)
theorem ObjOk.stay (x : ObjOk P w H h a o) (k : ∀ b u, (b = a ∨ H b = some (.own a)) → h.get? b = some u → h'.get? b = some u)
    (ho : ∀ b, H b = some (.own a) → H' b = some (.own a)) (ht : ∀ b xs, H b = some (.tup xs) → H' b = some (.tup xs)) : ObjOk P w H' h' a o := by
  induction o with
  | lst xs => obtain ⟨z, its, n, r, e⟩ := x; exact ⟨z, its, n, r, k _ _ (.inl rfl) e⟩
  | tup xs => obtain ⟨z, its, r, ob, e, c⟩ := x; exact ⟨z, its, r, ob, k _ _ (.inl rfl) e, c⟩
  | dK kvs => obtain ⟨z, y, vs, r, ob, es, ep, e, c⟩ := x; exact ⟨z, y, vs, r, ob, es, ep, k _ _ (.inl rfl) e, c⟩
  | dT kvs =>
    obtain ⟨z, y, xs, r, ob, es, ep, e, c⟩ := x
    exact ⟨z, y, xs, Paired.mapP r fun p q z => ⟨z.1, ht _ _ z.2.1, z.2.2⟩, ob, es, ep, k _ _ (.inl rfl) e, c⟩
  | set S n => obtain ⟨ob, es, ep, t, e, c⟩ := x; exact ⟨ob, es, ep, t, k _ _ (.inl rfl) e, c⟩
  | ins C dx fs =>
    obtain ⟨d, z, ne, e, mA, ⟨od, es, ep, e2, c⟩, r⟩ := x
    exact ⟨ho _ d, z, ne, k _ _ (.inl rfl) e, mA, ⟨od, es, ep, k _ _ (.inr d) e2, c⟩, r⟩
  | own y => obtain ⟨ob, e⟩ := x; exact ⟨ob, k _ _ (.inl rfl) e⟩
  | xd fs => obtain ⟨mA, ⟨od, es, ep, e, c⟩, r⟩ := x; exact ⟨mA, ⟨od, es, ep, k _ _ (.inl rfl) e, c⟩, r⟩
  | rng lo hi => obtain ⟨t, u, v, e⟩ := x; exact ⟨t, u, v, k _ _ (.inl rfl) e⟩
  | frz ob u ih => obtain ⟨e, q⟩ := x; exact ⟨k _ _ (.inl rfl) e, ih q⟩
  | tbl ps =>
    have e : h.get? a = some { cls := .none, data := .fields ps } := x
    show h'.get? a = some { cls := .none, data := .fields ps }
    exact k a _ (.inl rfl) e
  | met f y =>
    have e : h.get? a = some (PySem.W.methodObj (.ref f) (.ref y)) := x
    show h'.get? a = some (PySem.W.methodObj (.ref f) (.ref y))
    exact k a _ (.inl rfl) e
  | ext φ => obtain ⟨p, ⟨o, e⟩, st⟩ := x; exact ⟨st _ _ p fun o q => k _ _ (.inl rfl) q, ⟨o, k _ _ (.inl rfl) e⟩, st⟩
theorem HOk.lt (x : HOk P w H h) (e : H a = some o) : a < h.objs.size := (x a o e).lt
theorem HOk.fresh (x : HOk P w H h) (e : h.objs.size ≤ a) : H a = none := by
  cases q : H a with
  | none => rfl
  | some u => exact absurd (Nat.lt_of_lt_of_le (x.lt q) e) (Nat.lt_irrefl _)
theorem HOk.kept (x : HOk P w H h) (k : ∀ b u, h.get? b = some u → h'.get? b = some u) : HOk P w H h' := fun a o e =>
  (x a o e).stay (fun b u _ q => k b u q) (fun _ q => q) fun _ _ q => q
theorem HOk.laid (x : HOk P w H h) (k : ∀ b u, h.get? b = some u → h'.get? b = some u) (hp : h.objs.size ≤ a) (new : ObjOk P w (upd H a o) h' a o) : HOk P w (upd H a o) h' := fun b u e => by
  have hn := x.fresh hp
  by_cases hb : b = a
  · subst hb; rw [upd_same] at e; cases e; exact new
  · rw [upd_ne hb] at e
    exact (x b u e).stay (fun c v _ q => k c v q) (fun c q => by rw [upd_ne (ne_of_none q hn)]; exact q) fun c xs q => by rw [upd_ne (ne_of_none q hn)]; exact q
end
def Rd (H : Hp) (a : Addr) (u : HO) : Prop := H a = some u ∨ ∃ o, H a = some (.frz o u)
theorem Rd.ok {P : Program} {w : World} {H : Hp} {h : Heap} {a : Addr} {u : HO} (r : Rd H a u) (x : HOk P w H h) : ObjOk P w H h a u := by
  rcases r with r | ⟨o, r⟩
  · exact x a u r
  · obtain ⟨_, q⟩ := x a _ r
    exact q
def Mut : Option HO → Prop
  | some (.lst _) => True
  | some (.dK _) => True
  | some (.dT _) => True
  | some (.set _ _) => True
  | some (.ins _ _ _) => True
  | some (.ext _) => True
  | _ => False
section
variable {P : Program} {w : World} {H : Hp} {h h' : Heap} {x e : Addr} {o' : HO}
theorem HOk.write (ok : HOk P w H h) (mu : Mut (H x)) (he : e = x ∨ H e = some (.own x)) (k : ∀ b u, b ≠ e → h.get? b = some u → h'.get? b = some u) (heo : ∃ u, h'.get? e = some u)
    (new : ObjOk P w (upd H x o') h' x o') : HOk P w (upd H x o') h' := fun b u q => by
  have nown : ∀ c y, H c = some (.own y) → c ≠ x := fun c y r z => by subst z; rw [r] at mu; exact mu
  have ntup : ∀ c xs, H c = some (.tup xs) → c ≠ x := fun c xs r z => by subst z; rw [r] at mu; exact mu
  by_cases hb : b = x
  · subst hb; rw [upd_same] at q; cases q; exact new
  · rw [upd_ne hb] at q
    by_cases hbe : b = e
    · have q' : H b = some (.own x) := by
        rcases he with z | z
        · exact absurd (hbe.trans z) hb
        · rw [hbe]; exact z
      rw [q] at q'; cases q'
      obtain ⟨v, hv⟩ := heo
      exact ⟨v, by rw [hbe]; exact hv⟩
    · refine (ok b u q).stay (fun c v hc r => k c v ?_ r) (fun c r => by rw [upd_ne (nown c b r)]; exact r) fun c xs r => by rw [upd_ne (ntup c xs r)]; exact r
      rcases hc with rfl | hc
      · exact hbe
      · rintro rfl
        rcases he with z | z
        · exact nown c b hc z
        · rw [hc] at z; cases z; exact hb rfl
end
structure Un (fs ex : List Addr) (H H' : Hp) (h h' : Heap) : Prop where
  keep : ∀ b o, h.get? b = some o → H b = none → b ∉ fs → b ∉ ex → h'.get? b = some o
  slot : ∀ b o, h.get? b = some o → H b = none → b ∈ fs → b ∉ ex → ∃ sl, h'.get? b = some { o with slots := sl }
  free : ∀ b o, h.get? b = some o → H b = none → b ∉ ex → H' b = none
  there : ∀ b o, h.get? b = some o → b ∉ ex → ∃ o', h'.get? b = some o'
  tups : ∀ b xs, H b = some (.tup xs) → H' b = some (.tup xs)
  frzs : ∀ b o u, H b = some (.frz o u) → H' b = some (.frz o u)
  tbls : ∀ b ps, H b = some (.tbl ps) → ∃ more, H' b = some (.tbl (ps ++ more))
section
variable {fs fs' ex ex' : List Addr} {H H1 H2 : Hp} {h h1 h2 h' : Heap} {a x e : Addr} {o : HO}
theorem Un.any (u : Un fs ex H H1 h h1) {b : Addr} {ob : Obj} (q : h.get? b = some ob) (n : H b = none) (hx : b ∉ ex) : ∃ sl, h1.get? b = some { ob with slots := sl } := by
  by_cases hb : b ∈ fs
  · exact u.slot b ob q n hb hx
  · exact ⟨ob.slots, u.keep b ob q n hb hx⟩
theorem Un.kept (k : ∀ b u, h.get? b = some u → h'.get? b = some u) : Un fs ex H H h h' :=
  ⟨fun b ob q _ _ _ => k b ob q, fun b ob q _ _ _ => ⟨ob.slots, k b ob q⟩, fun _ _ _ n _ => n, fun b ob q _ => ⟨ob, k b ob q⟩, fun _ _ q => q, fun _ _ _ q => q, fun _ ps q => ⟨#[], by rw [q]; simp⟩⟩
theorem Un.refl : Un fs ex H H h h := Un.kept fun _ _ q => q
theorem Un.laid (k : ∀ b u, h.get? b = some u → h'.get? b = some u) (hp : h.objs.size ≤ a) (hn : H a = none) : Un fs ex H (upd H a o) h h' where
  keep := fun b u q _ _ _ => k b u q
  slot := fun b u q _ _ _ => ⟨u.slots, k b u q⟩
  free := fun b u q n _ => by rw [upd_ne (Nat.ne_of_lt (Nat.lt_of_lt_of_le (Heap.lt_size q) hp))]; exact n
  there := fun b u q _ => ⟨u, k b u q⟩
  tups := fun b xs q => by rw [upd_ne (ne_of_none q hn)]; exact q
  frzs := fun b u xs q => by rw [upd_ne (ne_of_none q hn)]; exact q
  tbls := fun b ps q => ⟨#[], by rw [upd_ne (ne_of_none q hn), q]; simp⟩
theorem Un.write (mu : Mut (H x)) (he : e = x ∨ H e = some (.own x)) (k : ∀ b u, b ≠ e → h.get? b = some u → h'.get? b = some u) (heo : ∃ u, h'.get? e = some u) : Un fs ex H (upd H x o) h h' := by
  have hx : ∀ b, H b = none → b ≠ x := fun b n z => by subst z; rw [n] at mu; exact mu
  have hb : ∀ b, H b = none → b ≠ e := fun b n z => by
    subst z
    rcases he with r | r
    · exact hx b n r
    · rw [n] at r; cases r
  have hm : ∀ b u, H b = some u → ¬ Mut (some u) → b ≠ x := fun b u q nm z => by subst z; rw [q] at mu; exact nm mu
  refine ⟨fun b u q n _ _ => k b u (hb b n) q, fun b u q n _ _ => ⟨u.slots, k b u (hb b n) q⟩, fun b u q n _ => by rw [upd_ne (hx b n)]; exact n, fun b u q _ => ?_,
    fun b xs q => by rw [upd_ne (hm b _ q fun z => z)]; exact q, fun b u xs q => by rw [upd_ne (hm b _ q fun z => z)]; exact q, fun b ps q => ⟨#[], by rw [upd_ne (hm b _ q fun z => z), q]; simp⟩⟩
  by_cases hbe : b = e
  · subst hbe; exact heo
  · exact ⟨u, k b u hbe q⟩
end
def trk (h : Heap) (H : Hp) : List Addr := (List.range h.objs.size).filter fun a => (H a).isSome
def hidT (h : Heap) (H : Hp) : Heap := PySem.W.hideAll h (trk h H)
theorem hidT_size (h : Heap) (H : Hp) : (hidT h H).objs.size = h.objs.size := PySem.W.hideAll_size _ _
theorem hidT_get {h : Heap} {H : Hp} {b : Addr} {o : Obj} (e : h.get? b = some o) (n : H b = none) : (hidT h H).get? b = some o :=
  PySem.W.hideAll_get _ e fun hm => by
    have q : (H b).isSome = true := (List.mem_filter.mp hm).2
    rw [n] at q; simp at q
theorem of_hidT {h : Heap} {H : Hp} {b : Addr} {o : Obj} (e : (hidT h H).get? b = some o) : h.get? b = some o ∧ H b = none := by
  have e' : h.get? b = some o := PySem.W.of_hideAll (trk h H) e
  refine ⟨e', ?_⟩
  cases q : H b with
  | none => rfl
  | some x =>
    have hm : b ∈ trk h H := List.mem_filter.mpr ⟨List.mem_range.mpr (Heap.lt_size e'), by simp [q]⟩
    have z : (hidT h H).get? b = none := PySem.W.hideAll_none (trk h H) hm
    rw [z] at e; cases e
end L2
namespace L2
open PySem PySem.Spec PyProof.Rows
structure Mod (K : PySem.W.Frag) (mg : Str → Option Value) (base : Heap) : Prop where
  kin : K.In base
  glob : base.Ns mainGlobals mg
  blt : ∃ mb, base.Ns builtinsNs mb ∧ ∀ x : Str, x ≠ "__name__" → mb x = bootBuiltins x
  nolimit : base.NoLimit
structure Cx where
  prog : Program
  w : World
  K : PySem.W.Frag
  mg : Str → Option Value
  base : Heap
  A : Around
  N : List Str
  s₀ : Shared
  H₀ : Hp
  env : Env
  outer : List Env
  stack : List Env
  ex : List Addr
  fn : Str → Bool
  calm : Bool
  pn : List (Addr × Obj)
  xe : Value → Shared → Prop
def frs (l : List Env) : List Addr := l.filterMap (·.frame)
abbrev Cx.fs (X : Cx) : List Addr := frs X.outer
def Vis (sc : Scope) (x : Str) : Prop := sc.names.lookup x = some .local ∨ sc.names.lookup x = some .cell ∨ sc.names.lookup x = some .free
def Loc (sc : Scope) (x : Str) : Prop := sc.names.lookup x = some .local ∨ sc.names.lookup x = some .cell
def Look (env : Env) (h : Heap) (m : Str → Option Value) (x : Str) (u : Value) : Prop :=
  (env.kindOf x = some .local ∧ m x = some u) ∨ ((env.kindOf x = some .cell ∨ env.kindOf x = some .free) ∧ ∃ c, env.cells.lookup x = some c ∧ h.IsCell c (some u))
structure Cx.Ok (X : Cx) : Prop where
  mod : Mod X.K X.mg X.base
  kind : X.env.scope.kind = .function
  glob : X.env.globals = mainGlobals
  blt : X.env.builtins = builtinsNs
  above : X.s₀.heap.objs.size ≤ X.env.locals
  inj : ∀ x y c, X.env.cells.lookup x = some c → X.env.cells.lookup y = some c → x = y
  has : ∀ x, (X.env.kindOf x = some .cell ∨ X.env.kindOf x = some .free) → ∃ c, X.env.cells.lookup x = some c
  cab : ∀ x c, X.fn x = true → X.env.cells.lookup x = some c → X.s₀.heap.objs.size ≤ c
  hd : X.calm = true → X.A.handled = none
  frames : X.A.frames = some X.stack
  stk : X.stack = X.outer ∨ (X.stack = X.env :: X.outer ∧ X.env.frame = some X.env.locals)
  exf : ∀ b ∈ X.ex, b ≠ X.env.locals ∧ ∀ x c, X.env.cells.lookup x = some c → c ≠ b
  bs : ∀ b o, X.base.get? b = some o → X.s₀.heap.get? b = some o ∧ X.H₀ b = none
  bsz : X.base.objs.size ≤ X.s₀.heap.objs.size
  noex : ∀ b o, X.base.get? b = some o → b ∉ X.ex
  exfs : ∀ b ∈ X.ex, b ∉ X.fs
  funs : X.s₀.heap.FunFrames X.base X.outer
  frf : ∀ b ∈ X.fs, X.H₀ b = none
structure Inv (X : Cx) (pins : List (Addr × Obj)) (σ : List (Option V)) (H : Hp) (s : Shared) : Prop where
  ok : X.Ok
  os : s.os = X.s₀.os
  bare : AllBare s.gens
  base : Un X.fs X.ex X.H₀ H X.s₀.heap s.heap
  loc : ∃ m, s.heap.Ns X.env.locals m ∧ ∀ (i : Nat) (x : Str) (v : V), X.N[i]? = some x → σ[i]? = some (some v) → Vis X.env.scope x → ∃ u, RelV v u ∧ Look X.env s.heap m x u
  cell : ∀ x c, X.env.cells.lookup x = some c → ∃ v, s.heap.IsCell c v
  free : H X.env.locals = none
  freeC : ∀ x c, X.env.cells.lookup x = some c → H c = none
  pin : ∀ p ∈ X.pn ++ pins, s.heap.get? p.1 = some p.2 ∧ H p.1 = none ∧ p.1 ≠ X.env.locals ∧ p.1 ∉ X.fs ∧ ∀ v, p.2.data ≠ .cell v
  hok : HOk X.prog X.w H s.heap
  len : σ.length = X.N.length
section
variable {X : Cx} {pins : List (Addr × Obj)} {σ : List (Option V)} {H H' : Hp} {s : Shared} {h' : Heap}
theorem Cx.Ok.nofr (ok : X.Ok) {b : Addr} {o : Obj} (e : X.base.get? b = some o) : b ∉ X.fs := fun hb => by
  have := (ok.funs.mem hb).1
  rw [e] at this; cases this
theorem Inv.bs (I : Inv X pins σ H s) : ∀ b o, X.base.get? b = some o → s.heap.get? b = some o ∧ H b = none := fun b o e =>
  ⟨I.base.keep b o (I.ok.bs b o e).1 (I.ok.bs b o e).2 (I.ok.nofr e) (I.ok.noex b o e), I.base.free b o (I.ok.bs b o e).1 (I.ok.bs b o e).2 (I.ok.noex b o e)⟩
theorem Inv.bk (I : Inv X pins σ H s) : ∀ b o, X.base.get? b = some o → s.heap.get? b = some o := fun b o e => (I.bs b o e).1
theorem Inv.mod (I : Inv X pins σ H s) : Mod X.K X.mg X.base := I.ok.mod
theorem Inv.kIn (I : Inv X pins σ H s) : X.K.In s.heap := I.ok.mod.kin.keeps I.bk
theorem Inv.lt (I : Inv X pins σ H s) : X.env.locals < s.heap.objs.size := let ⟨_, hn, _⟩ := I.loc; hn.lt
theorem Inv.sz (I : Inv X pins σ H s) : X.s₀.heap.objs.size ≤ s.heap.objs.size := Nat.le_trans I.ok.above (Nat.le_of_lt I.lt)
theorem Inv.nofs (I : Inv X pins σ H s) {a : Addr} (h : s.heap.objs.size ≤ a) : a ∉ X.fs := fun hb => by
  obtain ⟨_, o, ho, _⟩ := I.ok.funs.mem hb
  exact absurd (Nat.lt_of_lt_of_le (Heap.lt_size ho) (Nat.le_trans I.sz h)) (Nat.lt_irrefl _)
theorem Inv.cne (I : Inv X pins σ H s) : ∀ x c, X.env.cells.lookup x = some c → c ≠ X.env.locals := fun x c e z => by
  obtain ⟨v, o, ho, hd⟩ := I.cell x c e
  obtain ⟨m, ⟨o', es, ep, ho', hd', _⟩, _⟩ := I.loc
  rw [z, ho'] at ho; cases ho; rw [hd'] at hd; cases hd
theorem Inv.funs (I : Inv X pins σ H s) : s.heap.FunFrames X.base X.outer := by
  have all : ∀ (l : List Env), (∀ b ∈ frs l, b ∈ X.fs) → X.s₀.heap.FunFrames X.base l → s.heap.FunFrames X.base l := by
    intro l
    induction l with
    | nil => intro _ _; trivial
    | cons env r ih =>
      intro hs hl
      obtain ⟨hk, ⟨L, o, hf, hn, ho, hd⟩, hr⟩ := hl
      have hL : L ∈ X.fs := hs L (by unfold frs; rw [List.filterMap_cons, hf]; exact List.mem_cons_self)
      obtain ⟨sl, e⟩ := I.base.slot L o ho (I.ok.frf L hL) hL fun z => I.ok.exfs L z hL
      exact ⟨hk, ⟨L, _, hf, hn, e, hd⟩, ih (fun b hb => hs b (by unfold frs; rw [List.filterMap_cons, hf]; exact List.mem_cons_of_mem _ hb)) hr⟩
  exact all X.outer (fun _ hb => hb) I.ok.funs
theorem Inv.stack (I : Inv X pins σ H s) : s.heap.FunFrames X.base X.stack := by
  rcases I.ok.stk with e | ⟨e, hf⟩
  · rw [e]; exact I.funs
  · rw [e]
    obtain ⟨m, hn, _⟩ := I.loc
    refine .cons (by rw [I.ok.kind]; decide) hf hn ?_ I.funs
    exact Heap.get?_none_of_le (Nat.le_trans I.ok.bsz I.ok.above)
theorem Inv.stkSub (I : Inv X pins σ H s) : ∀ b ∈ frs X.stack, b ∈ X.env.locals :: X.fs := fun b hb => by
  rcases I.ok.stk with e | ⟨e, hf⟩
  · rw [e] at hb; exact List.mem_cons_of_mem _ hb
  · rw [e] at hb
    unfold frs at hb
    rw [List.filterMap_cons, hf] at hb
    exact hb
theorem Inv.stkFree (I : Inv X pins σ H s) : ∀ b ∈ frs X.stack, H b = none := fun b hb => by
  rcases List.mem_cons.mp (I.stkSub b hb) with e | hb
  · rw [e]; exact I.free
  · obtain ⟨_, o, ho, _⟩ := I.ok.funs.mem hb
    exact I.base.free b o ho (I.ok.frf b hb) fun z => I.ok.exfs b z hb
theorem Inv.step {g' : Array GenState} {t' : Nat} {d' : Drawn} {ch : List Addr} (I : Inv X pins σ H s)
    (hch : ∀ b ∈ ch, (b ∈ X.ex ∨ X.s₀.heap.objs.size ≤ b) ∧ b ≠ X.env.locals ∧ (∀ x c, X.env.cells.lookup x = some c → c ≠ b) ∧ ∀ p ∈ X.pn ++ pins, p.1 ≠ b)
    (keep : ∀ b o, b ≠ X.env.locals → b ∉ X.fs → b ∉ ch → s.heap.get? b = some o → H b = none → h'.get? b = some o)
    (slot : ∀ b o, b ≠ X.env.locals → b ∈ X.fs → b ∉ ch → s.heap.get? b = some o → H b = none → ∃ sl, h'.get? b = some { o with slots := sl }) (free : ∀ b o, b ∉ ch → s.heap.get? b = some o → H b = none → H' b = none)
    (there : ∀ b o, b ∉ ch → s.heap.get? b = some o → ∃ o', h'.get? b = some o')
    (tups : ∀ b xs, H b = some (.tup xs) → H' b = some (.tup xs)) (frzs : ∀ b o u, H b = some (.frz o u) → H' b = some (.frz o u)) (tbls : ∀ b ps, H b = some (.tbl ps) → ∃ more, H' b = some (.tbl (ps ++ more)))
    (ns : ∀ m, s.heap.Ns X.env.locals m → h'.Ns X.env.locals m) (hok : HOk X.prog X.w H' h') (hg : AllBare g') :
    Inv X pins σ H' { s with heap := h', gens := g', drawn := d', toks := t' } := by
  have neL : ∀ b o, X.s₀.heap.get? b = some o → b ≠ X.env.locals := fun b o e => Nat.ne_of_lt (Nat.lt_of_lt_of_le (Heap.lt_size e) I.ok.above)
  have neC : ∀ b o, X.s₀.heap.get? b = some o → b ∉ X.ex → b ∉ ch := fun b o e hx hb => by
    rcases (hch b hb).1 with z | z
    · exact hx z
    · exact absurd (Nat.lt_of_lt_of_le (Heap.lt_size e) z) (Nat.lt_irrefl _)
  have cellK : ∀ x c, X.env.cells.lookup x = some c → ∀ v, s.heap.IsCell c v → h'.IsCell c v := fun x c e v ⟨o, ho, hd⟩ => by
    have nch : c ∉ ch := fun z => (hch c z).2.2.1 x c e rfl
    by_cases hc : c ∈ X.fs
    · obtain ⟨sl, q⟩ := slot c o (I.cne x c e) hc nch ho (I.freeC x c e)
      exact ⟨_, q, hd⟩
    · exact ⟨o, keep c o (I.cne x c e) hc nch ho (I.freeC x c e), hd⟩
  refine ⟨I.ok, I.os, hg, ⟨fun b o e n hb hx => ?_, fun b o e n hb hx => ?_, fun b o e n hx => ?_, fun b o e hx => ?_, fun b xs e => tups b xs (I.base.tups b xs e), fun b o xs e => frzs b o xs (I.base.frzs b o xs e), fun b ps e => ?_⟩, ?_, fun x c e => ?_, ?_, fun x c e => ?_, fun p hp => ?_, hok, I.len⟩
  · exact keep b o (neL b o e) hb (neC b o e hx) (I.base.keep b o e n hb hx) (I.base.free b o e n hx)
  · obtain ⟨sl, e1⟩ := I.base.slot b o e n hb hx
    obtain ⟨sl', e2⟩ := slot b _ (neL b o e) hb (neC b o e hx) e1 (I.base.free b o e n hx)
    exact ⟨sl', e2⟩
  · obtain ⟨o', e1⟩ := I.base.there b o e hx
    exact free b o' (neC b o e hx) e1 (I.base.free b o e n hx)
  · obtain ⟨o', e1⟩ := I.base.there b o e hx
    exact there b o' (neC b o e hx) e1
  · obtain ⟨m1, e1⟩ := I.base.tbls b ps e
    obtain ⟨m2, e2⟩ := tbls b _ e1
    exact ⟨m1 ++ m2, by rw [e2, Array.append_assoc]⟩
  · obtain ⟨m, hn, hl⟩ := I.loc
    refine ⟨m, ns m hn, fun i x v e1 e2 e3 => ?_⟩
    obtain ⟨u, r, l⟩ := hl i x v e1 e2 e3
    refine ⟨u, r, ?_⟩
    rcases l with l | ⟨k, c, e, z⟩
    · exact .inl l
    · exact .inr ⟨k, c, e, cellK x c e _ z⟩
  · obtain ⟨v, z⟩ := I.cell x c e
    exact ⟨v, cellK x c e v z⟩
  · obtain ⟨m, ⟨o, _, _, ho, _⟩, _⟩ := I.loc
    exact free _ o (fun z => (hch _ z).2.1 rfl) ho I.free
  · obtain ⟨v, o, ho, hd⟩ := I.cell x c e
    exact free c o (fun z => (hch c z).2.2.1 x c e rfl) ho (I.freeC x c e)
  · obtain ⟨e, n, ne, nf, d⟩ := I.pin p hp
    have nch : p.1 ∉ ch := fun z => (hch p.1 z).2.2.2 p hp rfl
    exact ⟨keep p.1 p.2 ne nf nch e n, free p.1 p.2 nch e n, ne, nf, d⟩
theorem Inv.un {t' : Nat} (I : Inv X pins σ H s) (u : Un X.fs [] H H' s.heap h') (hok : HOk X.prog X.w H' h') : Inv X pins σ H' { s with heap := h', toks := t' } := by
  obtain ⟨m, ⟨o, es, ep, ho, r⟩, _⟩ := id I.loc
  obtain ⟨sl, hL⟩ := u.any ho I.free (by simp)
  exact I.step (g' := s.gens) (d' := s.drawn) (ch := []) (fun _ z => nomatch z) (fun b o _ hb _ e n => u.keep b o e n hb (by simp)) (fun b o _ hb _ e n => u.slot b o e n hb (by simp)) (fun b o _ e n => u.free b o e n (by simp)) (fun b o _ e => u.there b o e (by simp)) u.tups u.frzs u.tbls (fun m' hm => by
    obtain ⟨o', es', ep', ho', r'⟩ := hm
    rw [ho] at ho'; cases ho'
    exact ⟨_, es', ep', hL, r'⟩) hok I.bare
theorem Inv.call {g' : Array GenState} {t' : Nat} {d' : Drawn} {ch : List Addr} (I : Inv X pins σ H s) (u : Un (frs X.stack) ch H H' s.heap h') (hok : HOk X.prog X.w H' h') (hg : AllBare g')
    (hch : ∀ b ∈ ch, (b ∈ X.ex ∨ X.s₀.heap.objs.size ≤ b) ∧ b ≠ X.env.locals ∧ (∀ x c, X.env.cells.lookup x = some c → c ≠ b) ∧ ∀ p ∈ X.pn ++ pins, p.1 ≠ b) :
    Inv X pins σ H' { s with heap := h', gens := g', drawn := d', toks := t' } := by
  obtain ⟨m, ⟨o, es, ep, ho, r⟩, _⟩ := id I.loc
  obtain ⟨sl, hL⟩ := u.any ho I.free fun z => (hch _ z).2.1 rfl
  exact I.step (ch := ch) hch (fun b o hL hb hc e n => u.keep b o e n (fun z => (List.mem_cons.mp (I.stkSub b z)).elim hL hb) hc) (fun b o _ _ hc e n => u.any e n hc) (fun b o hc e n => u.free b o e n hc) (fun b o hc e => u.there b o e hc) u.tups u.frzs u.tbls (fun m' hm => by
    obtain ⟨o', es', ep', ho', r'⟩ := hm
    rw [ho] at ho'; cases ho'
    exact ⟨_, es', ep', hL, r'⟩) hok hg
theorem Inv.turned {t' : Nat} {it : Addr} (I : Inv X pins σ H s) (k : ∀ b o, b ≠ it → s.heap.get? b = some o → h'.get? b = some o) (hn : H it = none) (hL : it ≠ X.env.locals)
    (h1 : it ∈ X.ex ∨ X.s₀.heap.objs.size ≤ it) (h2 : ∀ x c, X.env.cells.lookup x = some c → c ≠ it) (h3 : ∀ p ∈ X.pn ++ pins, p.1 ≠ it) : Inv X pins σ H { s with heap := h', toks := t' } := by
  have nit : ∀ b u, H b = some u → b ≠ it := fun b u e z => by rw [z, hn] at e; cases e
  refine I.step (g' := s.gens) (d' := s.drawn) (ch := [it]) (fun b hb => ?_) (fun b o _ _ hc e _ => k b o (fun z => hc (by simp [z])) e) (fun b o _ _ hc e _ => ⟨o.slots, k b o (fun z => hc (by simp [z])) e⟩) (fun _ _ _ _ n => n)
    (fun b o hc e => ⟨o, k b o (fun z => hc (by simp [z])) e⟩) (fun _ _ e => e) (fun _ _ _ e => e) (fun b ps e => ⟨#[], by rw [e]; simp⟩) (fun m hm => ?_) (fun b u e => ?_) I.bare
  · have e : b = it := by simpa using hb
    subst e
    exact ⟨h1, hL, h2, h3⟩
  · obtain ⟨o, es, ep, ho, r⟩ := hm
    exact ⟨o, es, ep, k _ o (Ne.symm hL) ho, r⟩
  · refine (I.hok b u e).stay (fun c v hc q => k c v ?_ q) (fun _ q => q) fun _ _ q => q
    rcases hc with z | z
    · rw [z]; exact nit b u e
    · exact nit c _ z
theorem Inv.tok (I : Inv X pins σ H s) (t : Nat) : Inv X pins σ H { s with toks := t } := I.un (h' := s.heap) (t' := t) Un.refl I.hok
theorem Inv.kept {t' : Nat} (I : Inv X pins σ H s) (k : ∀ b u, s.heap.get? b = some u → h'.get? b = some u) : Inv X pins σ H { s with heap := h', toks := t' } := I.un (Un.kept k) (I.hok.kept k)
theorem Inv.laid {a : Addr} {o : HO} {t' : Nat} (I : Inv X pins σ H s) (k : ∀ b u, s.heap.get? b = some u → h'.get? b = some u) (hp : s.heap.objs.size ≤ a) (new : ObjOk X.prog X.w (upd H a o) h' a o) :
    Inv X pins σ (upd H a o) { s with heap := h', toks := t' } := I.un (Un.laid k hp (I.hok.fresh hp)) (I.hok.laid k hp new)
theorem Inv.write {x e : Addr} {o : HO} {t' : Nat} (I : Inv X pins σ H s) (mu : Mut (H x)) (he : e = x ∨ H e = some (.own x)) (k : ∀ b u, b ≠ e → s.heap.get? b = some u → h'.get? b = some u) (heo : ∃ u, h'.get? e = some u)
    (new : ObjOk X.prog X.w (upd H x o) h' x o) : Inv X pins σ (upd H x o) { s with heap := h', toks := t' } := I.un (Un.write mu he k heo) (I.hok.write mu he k heo new)
theorem Inv.weak {σ' : List (Option V)} (I : Inv X pins σ H s) (hl : σ'.length = σ.length) (w : ∀ (i : Nat) v, σ'[i]? = some (some v) → σ[i]? = some (some v)) : Inv X pins σ' H s :=
  ⟨I.ok, I.os, I.bare, I.base, let ⟨m, hn, hl'⟩ := I.loc; ⟨m, hn, fun i x v e1 e2 e3 => hl' i x v e1 (w i v e2) e3⟩, I.cell, I.free, I.freeC, I.pin, I.hok, hl.trans I.len⟩
theorem Inv.pins_of {pins' : List (Addr × Obj)} (I : Inv X pins σ H s) (h : ∀ p ∈ pins', s.heap.get? p.1 = some p.2 ∧ H p.1 = none ∧ p.1 ≠ X.env.locals ∧ p.1 ∉ X.fs ∧ ∀ v, p.2.data ≠ .cell v) : Inv X pins' σ H s :=
  ⟨I.ok, I.os, I.bare, I.base, I.loc, I.cell, I.free, I.freeC, fun p hp => (List.mem_append.mp hp).elim (fun z => I.pin p (List.mem_append_left _ z)) (h p), I.hok, I.len⟩
theorem nodup_ix {N : List Str} (hN : N.Nodup) {i j : Nat} {x : Str} (a : N[i]? = some x) (b : N[j]? = some x) : i = j := by
  obtain ⟨h1, e1⟩ := List.getElem?_eq_some_iff.mp a
  obtain ⟨h2, e2⟩ := List.getElem?_eq_some_iff.mp b
  exact (List.getElem_inj hN).mp (e1.trans e2.symm)
theorem store_ok2 {M : Model} {A : Around} {E : Value → Shared → Prop} {i : Nat} {x : Str} {v : V} {u : Value} {Q : Unit → Shared → Prop} (I : Inv X pins σ H s) (hN : X.N.Nodup) (hi : X.N[i]? = some x) (hx : Loc X.env.scope x) (r : RelV v u)
    (h : ∀ s', Inv X pins (σ.set i (some v)) H s' → (∃ a, Heap.SameBut a s.heap s'.heap ∧ (a = X.env.locals ∨ X.env.cells.lookup x = some a)) → Q () s') (hf : X.fn x = true ∨ X.env.scope.names.lookup x = some .local := by first | exact .inl rfl | exact .inr rfl | assumption) : wpAny M A (storeName X.env x u) Q E s := by
  obtain ⟨m, hn, hl⟩ := id I.loc
  have hcls : (X.env.scope.kind == .class || (X.env.scope.kind == .module && X.env.locals != X.env.globals)) = false := by rw [I.ok.kind]; rfl
  have hiσ : i < σ.length := by rw [I.len]; exact (List.getElem?_eq_some_iff.mp hi).1
  have cne := I.cne
  have tracked : ∀ {a : Addr} {h' : Heap}, (∃ o, s.heap.get? a = some o ∧ H a = none) → Heap.SameBut a s.heap h' → HOk X.prog X.w H h' := fun {a h'} ha hs b ob e => by
    obtain ⟨_, _, hfree⟩ := ha
    refine (I.hok b ob e).stay (fun c w' hc q => (hs.2 c ?_).trans q) (fun _ q => q) fun _ _ q => q
    rintro rfl
    rcases hc with rfl | hc
    · rw [hfree] at e; cases e
    · rw [hfree] at hc; cases hc
  rcases hx with hk | hk
  · refine wpAny_storeName_local hk hn (fun h' hn' hs => ?_) hcls
    obtain ⟨oL, _, _, hoL, _⟩ := id hn
    refine h _ ⟨I.ok, I.os, I.bare, ⟨fun b o e n hb hx => ?_, fun b o e n hb hx => ?_, I.base.free, fun b o e hx => ?_, I.base.tups, I.base.frzs, I.base.tbls⟩, ⟨_, hn', fun j y v' e1 e2 e3 => ?_⟩, fun y c e => ?_, I.free, I.freeC, fun p hp => ?_, tracked ⟨oL, hoL, I.free⟩ hs, by simpa using I.len⟩ ⟨_, hs, .inl rfl⟩
    · exact (hs.2 b (Nat.ne_of_lt (Nat.lt_of_lt_of_le (Heap.lt_size e) I.ok.above))).trans (I.base.keep b o e n hb hx)
    · obtain ⟨sl, e1⟩ := I.base.slot b o e n hb hx
      exact ⟨sl, (hs.2 b (Nat.ne_of_lt (Nat.lt_of_lt_of_le (Heap.lt_size e) I.ok.above))).trans e1⟩
    · obtain ⟨o', e1⟩ := I.base.there b o e hx
      exact ⟨o', (hs.2 b (Nat.ne_of_lt (Nat.lt_of_lt_of_le (Heap.lt_size e) I.ok.above))).trans e1⟩
    · by_cases hj : j = i
      · subst hj
        rw [hi] at e1; cases e1
        rw [List.getElem?_set_self hiσ] at e2
        cases e2
        exact ⟨u, r, .inl ⟨hk, by simp⟩⟩
      · rw [List.getElem?_set_ne (Ne.symm hj)] at e2
        obtain ⟨u', r', q⟩ := hl j y v' e1 e2 e3
        refine ⟨u', r', ?_⟩
        rcases q with ⟨k, e⟩ | ⟨k, c, e, z⟩
        · refine .inl ⟨k, ?_⟩
          have : y ≠ x := fun e => hj (nodup_ix hN e1 (e ▸ hi))
          simp [this, e]
        · exact .inr ⟨k, c, e, z.sameBut hs (cne y c e)⟩
    · obtain ⟨w', z⟩ := I.cell y c e
      exact ⟨w', z.sameBut hs (cne y c e)⟩
    · obtain ⟨e, n, ne, nf, d⟩ := I.pin p hp
      exact ⟨(hs.2 p.1 ne).trans e, n, ne, nf, d⟩
  · have hfn : X.fn x = true := by
      rcases hf with z | z
      · exact z
      · rw [z] at hk; cases hk
    obtain ⟨c, hc⟩ := I.ok.has x (.inl hk)
    obtain ⟨w', z⟩ := I.cell x c hc
    refine wpAny_storeName_cell I.ok.kind hk hc z (fun h' hc' hs => ?_)
    obtain ⟨oc, hoc, hocd⟩ := id z
    refine h { s with heap := h' } ⟨I.ok, I.os, I.bare, ⟨fun b o e n hb hx => ?_, fun b o e n hb hx => ?_, I.base.free, fun b o e hx => ?_, I.base.tups, I.base.frzs, I.base.tbls⟩, ⟨m, hn.sameBut hs (Ne.symm (cne x c hc)), fun j y v' e1 e2 e3 => ?_⟩, fun y c' e => ?_, I.free, I.freeC, fun p hp => ?_, tracked ⟨oc, hoc, I.freeC x c hc⟩ hs, by simpa using I.len⟩ ⟨c, hs, .inr hc⟩
    · exact (hs.2 b (Nat.ne_of_lt (Nat.lt_of_lt_of_le (Heap.lt_size e) (I.ok.cab x c hfn hc)))).trans (I.base.keep b o e n hb hx)
    · obtain ⟨sl, e1⟩ := I.base.slot b o e n hb hx
      exact ⟨sl, (hs.2 b (Nat.ne_of_lt (Nat.lt_of_lt_of_le (Heap.lt_size e) (I.ok.cab x c hfn hc)))).trans e1⟩
    · obtain ⟨o', e1⟩ := I.base.there b o e hx
      exact ⟨o', (hs.2 b (Nat.ne_of_lt (Nat.lt_of_lt_of_le (Heap.lt_size e) (I.ok.cab x c hfn hc)))).trans e1⟩
    · by_cases hj : j = i
      · subst hj
        rw [hi] at e1; cases e1
        rw [List.getElem?_set_self hiσ] at e2
        cases e2
        exact ⟨u, r, .inr ⟨.inl hk, c, hc, hc'⟩⟩
      · rw [List.getElem?_set_ne (Ne.symm hj)] at e2
        obtain ⟨u', r', q⟩ := hl j y v' e1 e2 e3
        refine ⟨u', r', ?_⟩
        rcases q with q | ⟨k, c', e, z'⟩
        · exact .inl q
        · refine .inr ⟨k, c', e, z'.sameBut hs ?_⟩
          rintro rfl
          exact hj (nodup_ix hN e1 (I.ok.inj _ _ _ e hc ▸ hi))
    · by_cases hcc : c' = c
      · subst hcc; exact ⟨_, hc'⟩
      · obtain ⟨w2, z2⟩ := I.cell y c' e
        exact ⟨w2, z2.sameBut hs hcc⟩
    · obtain ⟨e, n, ne, nf, d⟩ := I.pin p hp
      refine ⟨(hs.2 p.1 ?_).trans e, n, ne, nf, d⟩
      intro q
      rw [q, hoc] at e
      have q' : oc = p.2 := Option.some.inj e
      exact d w' (by rw [← q']; exact hocd)
theorem store_ok {M : Model} {A : Around} {E : Value → Shared → Prop} {i : Nat} {x : Str} {v : V} {u : Value} {Q : Unit → Shared → Prop} (I : Inv X pins σ H s) (hN : X.N.Nodup) (hi : X.N[i]? = some x) (hx : Loc X.env.scope x) (r : RelV v u)
    (h : ∀ s', Inv X pins (σ.set i (some v)) H s' → Q () s') (hf : X.fn x = true ∨ X.env.scope.names.lookup x = some .local := by first | exact .inl rfl | exact .inr rfl | assumption) : wpAny M A (storeName X.env x u) Q E s :=
  store_ok2 I hN hi hx r (fun s' I' _ => h s' I') hf
theorem Inv.call' {s' : Shared} {ch : List Addr} (I : Inv X pins σ H s) (ho : s'.os = s.os) (u : Un (frs X.stack) ch H H' s.heap s'.heap) (hok : HOk X.prog X.w H' s'.heap) (hg : AllBare s'.gens)
    (hch : ∀ b ∈ ch, (b ∈ X.ex ∨ X.s₀.heap.objs.size ≤ b) ∧ b ≠ X.env.locals ∧ (∀ x c, X.env.cells.lookup x = some c → c ≠ b) ∧ ∀ p ∈ X.pn ++ pins, p.1 ≠ b) : Inv X pins σ H' s' := by
  obtain ⟨h', g', d', t', o'⟩ := s'
  have e : o' = s.os := ho
  subst e
  exact I.call (g' := g') (t' := t') (d' := d') u hok hg hch
end
abbrev XK := Value → Option Addr → Hp → Prop
abbrev St := List (Option V)
abbrev VK := V → Hp → Prop
abbrev TE := St → Hp → VK → Prop
abbrev TT := St → Hp → (Bool → Hp → Prop) → Prop
abbrev TA := St → Hp → (List V → Hp → Prop) → Prop
structure Ends where
  nx : St → Hp → Prop
  rt : VK
  bk : St → Hp → Prop := fun _ _ => False
  ct : St → Hp → Prop := fun _ _ => False
abbrev TS := Ends → St → Hp → Prop
inductive EP (X : Cx) (pins : List (Addr × Obj)) (σ : St) (Q : VK) (u : Value) (s' : Shared) : Prop
  | mk (v H' : _) : Inv X pins σ H' s' → RelV v u → Q v H' → EP X pins σ Q u s'
def TP (X : Cx) (pins : List (Addr × Obj)) (σ : St) (Q : Bool → Hp → Prop) (b : Bool) (s' : Shared) : Prop := ∃ H', Inv X pins σ H' s' ∧ Q b H'
inductive AP (X : Cx) (pins : List (Addr × Obj)) (σ : St) (Q : List V → Hp → Prop) (us : List Value) (s' : Shared) : Prop
  | mk (vs H' : _) : Inv X pins σ H' s' → Vals vs us → Q vs H' → AP X pins σ Q us s'
def SP (X : Cx) (pins : List (Addr × Obj)) (D : Ends) (f : Flow) (s' : Shared) : Prop :=
  match f with
  | .next => ∃ σ' H', Inv X pins σ' H' s' ∧ D.nx σ' H'
  | .brk => ∃ σ' H', Inv X pins σ' H' s' ∧ D.bk σ' H'
  | .cont => ∃ σ' H', Inv X pins σ' H' s' ∧ D.ct σ' H'
  | .ret u => ∃ v σ' H', Inv X pins σ' H' s' ∧ RelV v u ∧ D.rt v H'
structure PE (X : Cx) (e : Expr) (t : TE) : Prop where
  run : ∀ (pins : List (Addr × Obj)) (s : Shared) (σ : St) (H : Hp) (Q : VK), Inv X pins σ H s → t σ H Q → wpAny (model X.prog X.w) X.A (eval e X.env) (EP X pins σ Q) X.xe s
instance {X : Cx} {e : Expr} {t : TE} : CoeFun (PE X e t) fun _ => ∀ (pins : List (Addr × Obj)) (s : Shared) (σ : St) (H : Hp) (Q : VK), Inv X pins σ H s → t σ H Q → wpAny (model X.prog X.w) X.A (eval e X.env) (EP X pins σ Q) X.xe s := ⟨PE.run⟩
structure PT (X : Cx) (e : Expr) (t : TT) : Prop where
  run : ∀ (pins : List (Addr × Obj)) (s : Shared) (σ : St) (H : Hp) (Q : Bool → Hp → Prop), Inv X pins σ H s → t σ H Q → wpAny (model X.prog X.w) X.A (isTrue e X.env (eval e X.env)) (TP X pins σ Q) X.xe s
instance {X : Cx} {e : Expr} {t : TT} : CoeFun (PT X e t) fun _ => ∀ (pins : List (Addr × Obj)) (s : Shared) (σ : St) (H : Hp) (Q : Bool → Hp → Prop), Inv X pins σ H s → t σ H Q → wpAny (model X.prog X.w) X.A (isTrue e X.env (eval e X.env)) (TP X pins σ Q) X.xe s := ⟨PT.run⟩
structure PW (X : Cx) (e : Expr) (t : TT) : Prop where
  run : ∀ (whole : Sem Value) (pins : List (Addr × Obj)) (s : Shared) (σ : St) (H : Hp) (Q : Bool → Hp → Prop), Inv X pins σ H s → t σ H Q → wpAny (model X.prog X.w) X.A (isTrue e X.env whole) (TP X pins σ Q) X.xe s
instance {X : Cx} {e : Expr} {t : TT} : CoeFun (PW X e t) fun _ => ∀ (whole : Sem Value) (pins : List (Addr × Obj)) (s : Shared) (σ : St) (H : Hp) (Q : Bool → Hp → Prop), Inv X pins σ H s → t σ H Q → wpAny (model X.prog X.w) X.A (isTrue e X.env whole) (TP X pins σ Q) X.xe s := ⟨PW.run⟩
theorem PW.pt {X : Cx} {e : Expr} {t : TT} (h : PW X e t) : PT X e t := ⟨fun pins s σ H Q I q => h _ pins s σ H Q I q⟩
structure PA (X : Cx) (es : List Expr) (t : TA) : Prop where
  run : ∀ (pos : Pos) (pins : List (Addr × Obj)) (s : Shared) (σ : St) (H : Hp) (Q : List V → Hp → Prop), Inv X pins σ H s → t σ H Q → wpAny (model X.prog X.w) X.A (spliced (backTo pos (starEach es X.env))) (AP X pins σ Q) X.xe s
instance {X : Cx} {es : List Expr} {t : TA} : CoeFun (PA X es t) fun _ => ∀ (pos : Pos) (pins : List (Addr × Obj)) (s : Shared) (σ : St) (H : Hp) (Q : List V → Hp → Prop), Inv X pins σ H s → t σ H Q → wpAny (model X.prog X.w) X.A (spliced (backTo pos (starEach es X.env))) (AP X pins σ Q) X.xe s := ⟨PA.run⟩
structure PS (X : Cx) (st : Stmt) (t : TS) : Prop where
  run : ∀ (pins : List (Addr × Obj)) (s : Shared) (σ : St) (H : Hp) (D : Ends), Inv X pins σ H s → t D σ H → wpAny (model X.prog X.w) X.A (exec st X.env) (SP X pins D) X.xe s
instance {X : Cx} {st : Stmt} {t : TS} : CoeFun (PS X st t) fun _ => ∀ (pins : List (Addr × Obj)) (s : Shared) (σ : St) (H : Hp) (D : Ends), Inv X pins σ H s → t D σ H → wpAny (model X.prog X.w) X.A (exec st X.env) (SP X pins D) X.xe s := ⟨PS.run⟩
structure PSs (X : Cx) (st : List Stmt) (t : TS) : Prop where
  run : ∀ (pins : List (Addr × Obj)) (s : Shared) (σ : St) (H : Hp) (D : Ends), Inv X pins σ H s → t D σ H → wpAny (model X.prog X.w) X.A (execs st X.env) (SP X pins D) X.xe s
instance {X : Cx} {st : List Stmt} {t : TS} : CoeFun (PSs X st t) fun _ => ∀ (pins : List (Addr × Obj)) (s : Shared) (σ : St) (H : Hp) (D : Ends), Inv X pins σ H s → t D σ H → wpAny (model X.prog X.w) X.A (execs st X.env) (SP X pins D) X.xe s := ⟨PSs.run⟩
theorem thn {α : Type} {t : Sem α} {Q Q' : α → Shared → Prop} {M : Model} {A : Around} {E : Value → Shared → Prop} {s : Shared} (h : wpAny M A t Q E s) (hQ : ∀ a s, Q a s → Q' a s) : wpAny M A t Q' E s := wpAny_mono h hQ fun _ _ x => x
end L2
namespace L2
open PySem PySem.Spec PyProof.Rows
section
variable {X : Cx}
inductive tVar (i : Nat) (σ : St) (H : Hp) (Q : VK) : Prop
  | mk (v : _) : σ[i]? = some (some v) → Q v H → tVar i σ H Q
def tC (v : V) : TE := fun _ H Q => Q v H
theorem pe_var {i : Nat} {x : Str} {pos : Pos} (hN : X.N[i]? = some x) (hv : Vis X.env.scope x) (hd : (x == ("__debug__" : Str)) = false := by decide) (hcd : (x == ("__classdict__" : Str)) = false := by decide) : PE X (.Name x pos) (tVar i) := by
  refine ⟨?_⟩
  intro pins s σ H Q I h
  obtain ⟨v, e, h⟩ := h
  obtain ⟨m, hn, hl⟩ := I.loc
  obtain ⟨u, r, l⟩ := hl i x v hN e hv
  have fin : EP X pins σ Q u s := ⟨v, H, I, r, h⟩
  rcases l with ⟨hk, hm⟩ | ⟨hk, c, hc, hcell⟩
  · exact wpAny_Name (wpAny_loadName_local I.ok.kind hk hn hm fin) hd
  · rcases hk with hk | hk
    · exact wpAny_Name (wpAny_loadName_cell I.ok.kind hk hc hcell fin) hd
    · exact wpAny_Name (wpAny_loadName_free I.ok.kind hk hc hcell fin hcd) hd
theorem pe_int {i j pos} : PE X (.Constant (.int i) j pos) (tC (.int i)) := ⟨fun _ _ _ H _ I h => wpAny_Constant_int ⟨.int i, H, I.tok _, ⟨_, rfl⟩, h⟩⟩
theorem pe_bl {b j pos} : PE X (.Constant (.bool b) j pos) (tC (.bl b)) := ⟨fun _ _ _ H _ I h => Constant_bool ⟨.bl b, H, I, rfl, h⟩⟩
theorem pe_non {j pos} : PE X (.Constant .none j pos) (tC .non) := ⟨fun _ _ _ H _ I h => Constant_none ⟨.non, H, I, rfl, h⟩⟩
theorem pe_str {x j pos} : PE X (.Constant (.str x) j pos) (tC (.str x)) := ⟨fun _ _ _ H _ I h => Calls.Constant_str ⟨.str x, H, I.tok _, ⟨_, rfl⟩, h⟩⟩
def Gl (X : Cx) (x : Str) : Prop := X.env.kindOf x = some .globalImplicit
theorem ld_glob {E : Value → Shared → Prop} {pins : List (Addr × Obj)} {s : Shared} {σ : St} {H : Hp} {x : Str} {u : Value} {pos : Pos} {Q : Value → Shared → Prop} (I : Inv X pins σ H s) (hg : Gl X x) (hm : X.mg x = some u) (h : Q u s)
    (hd : (x == ("__debug__" : Str)) = false := by decide) : wpAny (model X.prog X.w) X.A (eval (.Name x pos) X.env) Q E s :=
  Calls.Name_function_global I.ok.kind hg (Calls.loadGlobal_global (by rw [I.ok.glob]; exact I.mod.glob.keeps I.bk) hm h) hd
theorem ld_blt {E : Value → Shared → Prop} {pins : List (Addr × Obj)} {s : Shared} {σ : St} {H : Hp} {x : Str} {u : Value} {pos : Pos} {Q : Value → Shared → Prop} (I : Inv X pins σ H s) (hg : Gl X x) (hm : X.mg x = none) (hv : bootBuiltins x = some u) (h : Q u s)
    (hn : x ≠ "__name__" := by decide) (hd : (x == ("__debug__" : Str)) = false := by decide) : wpAny (model X.prog X.w) X.A (eval (.Name x pos) X.env) Q E s := by
  obtain ⟨mb, h1, h2⟩ := I.mod.blt
  exact Calls.Name_function_global I.ok.kind hg (Calls.loadGlobal_builtin (by rw [I.ok.glob]; exact I.mod.glob.keeps I.bk) hm (by rw [I.ok.blt]; exact h1.keeps I.bk) ((h2 x hn).trans hv) h) hd
theorem pe_glob {x : Str} {v : V} {u : Value} {pos : Pos} (hg : Gl X x) (hm : X.mg x = some u) (r : RelV v u) (hd : (x == ("__debug__" : Str)) = false := by decide) : PE X (.Name x pos) (tC v) :=
  ⟨fun _ _ _ H _ I h => ld_glob I hg hm ⟨v, H, I, r, h⟩ hd⟩
theorem pe_bltn {x : Str} {v : V} {u : Value} {pos : Pos} (hg : Gl X x) (hm : X.mg x = none) (hv : bootBuiltins x = some u) (r : RelV v u) (hn : x ≠ "__name__" := by decide) (hd : (x == ("__debug__" : Str)) = false := by decide) : PE X (.Name x pos) (tC v) :=
  ⟨fun _ _ _ H _ I h => ld_blt I hg hm hv ⟨v, H, I, r, h⟩ hn hd⟩
variable {a b : Expr} {ta tb : TE} {pos : Pos}
inductive tBI (Q : Bool → Hp → Prop) (x : V) (H1 : Hp) : Prop
  | mk (c : _) : x = .bl c → Q c H1 → tBI Q x H1
def tB (t : TE) : TT := fun σ H Q => t σ H fun x H1 => tBI Q x H1
theorem pt_val {e : Expr} {t : TE} (h : PE X e t) (he : ∀ whole, isTrue e X.env whole = (do let v ← whole; standAt e.pos; holding [v] (truthy v)) := by intro _; rfl) : PT X e (tB t) := by
  refine ⟨?_⟩
  intro pins s σ H Q I hw
  refine isTrue_plain (thn (h pins s σ H _ I hw) fun v s1 ⟨x, H1, I1, r1, q1⟩ => ?_) (he _)
  obtain ⟨d, rfl, q⟩ := q1
  cases r1
  exact wpAny_truthy_bool ⟨H1, I1, q⟩
variable {tA tB' : TT} {rest : List Expr}
def tOr (t u : TT) : TT := fun σ H Q => t σ H fun c H1 => if c = true then Q true H1 else u σ H1 Q
def tNot (t : TT) : TT := fun σ H Q => t σ H fun c H1 => Q (!c) H1
theorem pw_or1 (ha : PT X a tA) : PW X (.BoolOp .Or [a] pos) tA := by
  refine ⟨?_⟩
  intro wh pins s σ H Q I h
  refine isTrue_or (thn (ha pins s σ H Q I h) fun c s1 e => ?_)
  cases c with
  | false => exact isTrue_or_nil e
  | true => exact e
theorem pw_or (ha : PT X a tA) (hb : PW X (.BoolOp .Or (b :: rest) pos) tB') : PW X (.BoolOp .Or (a :: b :: rest) pos) (tOr tA tB') := by
  refine ⟨?_⟩
  intro wh pins s σ H Q I h
  refine isTrue_or (thn (ha pins s σ H _ I h) fun c s1 ⟨H1, I1, q1⟩ => ?_)
  cases c with
  | true => exact ⟨H1, I1, q1⟩
  | false => exact hb wh pins s1 σ H1 Q I1 q1
theorem pt_not (ha : PT X a tA) : PT X (.UnaryOp .Not a pos) (tNot tA) := by
  refine ⟨?_⟩
  intro pins s σ H Q I h
  exact isTrue_not (ha pins s σ H (fun c H1 => Q (!c) H1) I h)
inductive tAndVI (tb : TE) (σ : St) (Q : VK) (x : V) (H1 : Hp) : Prop
  | mk (c : _) : x = .bl c → (if c = true then tb σ H1 Q else Q (.bl false) H1) → tAndVI tb σ Q x H1
def tAndV (ta tb : TE) : TE := fun σ H Q => ta σ H fun x H1 => tAndVI tb σ Q x H1
inductive tOrVI (tb : TE) (σ : St) (Q : VK) (x : V) (H1 : Hp) : Prop
  | mk (c : _) : x = .bl c → (if c = true then Q (.bl true) H1 else tb σ H1 Q) → tOrVI tb σ Q x H1
def tOrV (ta tb : TE) : TE := fun σ H Q => ta σ H fun x H1 => tOrVI tb σ Q x H1
inductive tNotVI (Q : VK) (x : V) (H1 : Hp) : Prop
  | mk (c : _) : x = .bl c → Q (.bl (!c)) H1 → tNotVI Q x H1
def tNotV (ta : TE) : TE := fun σ H Q => ta σ H fun x H1 => tNotVI Q x H1
theorem pe_one {op} {t : TE} (h : PE X a t) : PE X (.BoolOp op [a] pos) t := ⟨fun pins s σ H Q I hw => BoolOp_one (h pins s σ H Q I hw)⟩
theorem pe_and (ha : PE X a ta) (hb : PE X (.BoolOp .And (b :: rest) pos) tb) : PE X (.BoolOp .And (a :: b :: rest) pos) (tAndV ta tb) := by
  refine ⟨?_⟩
  intro pins s σ H Q I h
  refine BoolOp_and (thn (ha pins s σ H _ I h) fun v s1 ⟨x, H1, I1, r1, q1⟩ => ?_)
  obtain ⟨c, rfl, q1⟩ := q1
  cases r1
  refine wpAny_truthy_bool ?_
  cases c with
  | true => exact hb pins s1 σ H1 Q I1 q1
  | false => exact ⟨.bl false, H1, I1, rfl, q1⟩
theorem pe_or (ha : PE X a ta) (hb : PE X (.BoolOp .Or (b :: rest) pos) tb) : PE X (.BoolOp .Or (a :: b :: rest) pos) (tOrV ta tb) := by
  refine ⟨?_⟩
  intro pins s σ H Q I h
  refine BoolOp_or (thn (ha pins s σ H _ I h) fun v s1 ⟨x, H1, I1, r1, q1⟩ => ?_)
  obtain ⟨c, rfl, q1⟩ := q1
  cases r1
  refine wpAny_truthy_bool ?_
  cases c with
  | false => exact hb pins s1 σ H1 Q I1 q1
  | true => exact ⟨.bl true, H1, I1, rfl, q1⟩
theorem pe_not (ha : PE X a ta) : PE X (.UnaryOp .Not a pos) (tNotV ta) := by
  refine ⟨?_⟩
  intro pins s σ H Q I h
  refine UnaryOp_ (thn (ha pins s σ H _ I h) fun v s1 ⟨x, H1, I1, r1, q1⟩ => ?_)
  obtain ⟨c, rfl, q1⟩ := q1
  cases r1
  exact not_of (wpAny_truthy_bool ⟨.bl (!c), H1, I1, rfl, q1⟩)
end
end L2
namespace L2
open PySem PySem.Spec PyProof.Rows
def SqL (K : PySem.W.Frag) (H : Hp) (a : Addr) (xs : List V) : Prop :=
  Rd H a (.lst xs) ∨
    ∃ (o : Obj) (its : Array Value) (n : Nat), K.lookup a = some o ∧ o.cls = .type "list" ∧ o.dict = none ∧ o.data = .seq its n ∧ its.size ≤ sizeLine ∧ Vals xs its.toList
def SqT (K : PySem.W.Frag) (H : Hp) (a : Addr) (xs : List V) : Prop :=
  Rd H a (.tup xs) ∨
    ∃ (o : Obj) (its : Array Value) (n : Nat), K.lookup a = some o ∧ o.cls = .type "tuple" ∧ o.data = .seq its n ∧ its.size ≤ sizeLine ∧ Vals xs its.toList
def absV : Value → Option V
  | .none => some .non
  | .bool b => some (.bl b)
  | .int i _ => some (.int i)
  | .str x _ => some (.str x)
  | .bytes b _ => some (.byt b)
  | .float b _ => some (.flt b)
  | .ref a => some (.ref a)
  | .type n => some (.ty n)
  | _ => none
theorem RelV.abs {x : V} {u : Value} (r : RelV x u) : absV u = some x := by
  cases x with
  | non => cases r; rfl
  | bl _ => cases r; rfl
  | int _ => obtain ⟨t, rfl⟩ := r; rfl
  | str _ => obtain ⟨t, rfl⟩ := r; rfl
  | byt _ => obtain ⟨t, rfl⟩ := r; rfl
  | flt _ => obtain ⟨t, rfl⟩ := r; rfl
  | ref _ => cases r; rfl
  | ty _ => cases r; rfl
theorem RelV.inj {x y : V} {u : Value} (r : RelV x u) (q : RelV y u) : x = y := Option.some.inj (r.abs.symm.trans q.abs)
theorem Vals.inj : ∀ {xs ys : List V} {us : List Value}, Vals xs us → Vals ys us → xs = ys
  | _, _, _, .nil, .nil => rfl
  | _, _, _, .cons r t, .cons r' t' => by rw [r.inj r', Vals.inj t t']
section
variable {X : Cx} {pins : List (Addr × Obj)} {σ : St} {H : Hp} {s : Shared} {a : Addr} {xs ys : List V}
theorem SqL.of {K : PySem.W.Frag} (h : H a = some (.lst xs)) : SqL K H a xs := .inl (.inl h)
theorem SqT.of {K : PySem.W.Frag} (h : H a = some (.tup xs)) : SqT K H a xs := .inl (.inl h)
theorem Inv.list (I : Inv X pins σ H s) (h : SqL X.K H a xs) : ∃ its : List Value, Vals xs its ∧ PlainL s.heap a its.toArray ∧ xs.length ≤ sizeLine := by
  rcases h with h | ⟨o, its, n, hk, hc, hd, hs, hz, r⟩
  · obtain ⟨z, its, n, r, e⟩ := h.ok I.hok
    exact ⟨its, r, ⟨_, n, e, rfl, rfl, rfl⟩, z⟩
  · refine ⟨its.toList, r, ⟨o, n, I.kIn a o hk, hc, hd, by simpa using hs⟩, ?_⟩
    have e := r.length
    simp only [Array.length_toList] at e
    lia
theorem Inv.tuple (I : Inv X pins σ H s) (h : SqT X.K H a xs) : ∃ its : List Value, Vals xs its ∧ IsTup s.heap a its.toArray ∧ xs.length ≤ sizeLine := by
  rcases h with h | ⟨o, its, n, hk, hc, hs, hz, r⟩
  · obtain ⟨z, its, r, p⟩ := h.ok I.hok
    exact ⟨its, r, p.up, z⟩
  · refine ⟨its.toList, r, ⟨o, I.kIn a o hk, hc, n, by simpa using hs⟩, ?_⟩
    have e := r.length
    simp only [Array.length_toList] at e
    lia
theorem Inv.list_inj (I : Inv X pins σ H s) (h : SqL X.K H a xs) (h' : SqL X.K H a ys) : xs = ys := by
  obtain ⟨its, r, ⟨o, n, e, _, _, d⟩, _⟩ := I.list h
  obtain ⟨its', r', ⟨o', n', e', _, _, d'⟩, _⟩ := I.list h'
  rw [e] at e'; cases e'
  rw [d] at d'
  injection d' with d1 _
  have : its = its' := by simpa using congrArg Array.toList d1
  subst this
  exact r.inj r'
theorem Inv.tuple_inj (I : Inv X pins σ H s) (h : SqT X.K H a xs) (h' : SqT X.K H a ys) : xs = ys := by
  obtain ⟨its, r, ⟨o, e, _, n, d⟩, _⟩ := I.tuple h
  obtain ⟨its', r', ⟨o', e', _, n', d'⟩, _⟩ := I.tuple h'
  rw [e] at e'; cases e'
  rw [d] at d'
  injection d' with d1 _
  have : its = its' := by simpa using congrArg Array.toList d1
  subst this
  exact r.inj r'
end
abbrev Cx.wish (X : Cx) (E : Value → Shared → Prop) : Cx := { X with xe := E }
abbrev Cx.nox (X : Cx) : Cx := X.wish fun _ _ => False
theorem Cx.Ok.wish {X : Cx} (ok : X.Ok) (E : Value → Shared → Prop) : (X.wish E).Ok :=
  ⟨ok.mod, ok.kind, ok.glob, ok.blt, ok.above, ok.inj, ok.has, ok.cab, ok.hd, ok.frames, ok.stk, ok.exf, ok.bs, ok.bsz, ok.noex, ok.exfs, ok.funs, ok.frf⟩
theorem Cx.Ok.unwish {X : Cx} {E : Value → Shared → Prop} (ok : (X.wish E).Ok) : X.Ok :=
  ⟨ok.mod, ok.kind, ok.glob, ok.blt, ok.above, ok.inj, ok.has, ok.cab, ok.hd, ok.frames, ok.stk, ok.exf, ok.bs, ok.bsz, ok.noex, ok.exfs, ok.funs, ok.frf⟩
section
variable {X : Cx} {pins : List (Addr × Obj)} {σ : St} {H : Hp} {s : Shared} {E : Value → Shared → Prop}
theorem Inv.wish (I : Inv X pins σ H s) (E : Value → Shared → Prop) : Inv (X.wish E) pins σ H s := ⟨I.ok.wish E, I.os, I.bare, I.base, I.loc, I.cell, I.free, I.freeC, I.pin, I.hok, I.len⟩
theorem Inv.unwish (I : Inv (X.wish E) pins σ H s) : Inv X pins σ H s := ⟨I.ok.unwish, I.os, I.bare, I.base, I.loc, I.cell, I.free, I.freeC, I.pin, I.hok, I.len⟩
theorem SP.unwish {D : Ends} {f : Flow} {s' : Shared} (h : SP (X.wish E) pins D f s') : SP X pins D f s' := by
  cases f with
  | next => obtain ⟨σ', H', I, q⟩ := h; exact ⟨σ', H', I.unwish, q⟩
  | brk => obtain ⟨σ', H', I, q⟩ := h; exact ⟨σ', H', I.unwish, q⟩
  | cont => obtain ⟨σ', H', I, q⟩ := h; exact ⟨σ', H', I.unwish, q⟩
  | ret u => obtain ⟨v, σ', H', I, r, q⟩ := h; exact ⟨v, σ', H', I.unwish, r, q⟩
theorem PSs.nox {st : List Stmt} {t : TS} (h : PSs X.nox st t) : PSs X st t := ⟨fun pins s σ H D I hw =>
  wpAny_mono (h pins s σ H D (I.wish _) hw) (fun _ _ q => q.unwish) fun _ _ z => False.elim z⟩
end
section
variable {X : Cx} {st : Stmt} {rest : List Stmt} {t u : TS} {e : Expr} {te : TE} {pos : Pos}
def tNext : TS := fun D σ H => D.nx σ H
def tSeq (t u : TS) : TS := fun D σ H => t { D with nx := u D } σ H
theorem pss_nil : PSs X [] tNext := ⟨fun _ _ σ H _ I h => wpAny_execs_nil ⟨σ, H, I, h⟩⟩
theorem pss_cons (h1 : PS X st t) (h2 : PSs X rest u) : PSs X (st :: rest) (tSeq t u) := by
  refine ⟨?_⟩
  intro pins s σ H D I h
  refine wpAny_execs_cons (thn (h1 pins s σ H { D with nx := u D } I h) fun f s1 q => ?_)
  cases f with
  | next =>
    obtain ⟨σ', H', I', q⟩ := q
    exact h2 pins s1 σ' H' D I' q
  | ret v => exact q
  | brk => exact q
  | cont => exact q
theorem pss_one (h1 : PS X st t) : PSs X [st] t := by
  refine ⟨?_⟩
  intro pins s σ H D I h
  refine wpAny_execs_cons (thn (h1 pins s σ H D I h) fun f s1 q => ?_)
  cases f with
  | next => exact wpAny_execs_nil q
  | ret v => exact q
  | brk => exact q
  | cont => exact q
theorem Inv.quiet {pins : List (Addr × Obj)} {σ : St} {H : Hp} {s : Shared} (I : Inv X pins σ H s) : interactive X.env = false := by simp [interactive, I.ok.kind]
def tDrop (te : TE) : TS := fun D σ H => te σ H fun _ H1 => D.nx σ H1
theorem ps_expr (he : PE X e te) (hs : swapsWith e none pos.line X.env = pure false := by rfl) : PS X (.Expr e pos) (tDrop te) := by
  refine ⟨?_⟩
  intro pins s σ H D I h
  exact wpAny_Expr_any (thn (he pins s σ H _ I h) fun v s1 ⟨x, H1, I1, r1, q1⟩ => ⟨σ, H1, I1, q1⟩) I.quiet hs
def tRet (te : TE) : TS := fun D σ H => te σ H D.rt
theorem ps_ret (he : PE X e te) : PS X (.Return (some e) pos) (tRet te) := by
  refine ⟨?_⟩
  intro pins s σ H D I h
  exact wpAny_Return_some (thn (he pins s σ H _ I h) fun v s1 ⟨x, H1, I1, r1, q1⟩ => ⟨x, σ, H1, I1, r1, q1⟩)
def tIfS (c : TT) (t u : TS) : TS := fun D σ H => c σ H fun b H1 => if b = true then t D σ H1 else u D σ H1
theorem ps_if {c : Expr} {a b : List Stmt} {tc : TT} (hc : PT X c tc) (ha : PSs X a t) (hb : PSs X b u) : PS X (.If c a b pos) (tIfS tc t u) := by
  refine ⟨?_⟩
  intro pins s σ H D I h
  refine wpAny_If (thn (hc pins s σ H _ I h) fun d s1 ⟨H1, I1, q1⟩ => ?_)
  cases d with
  | true => exact ha pins s1 σ H1 D I1 q1
  | false => exact hb pins s1 σ H1 D I1 q1
end
abbrev TG := V → St → Hp → (St → Hp → Prop) → Prop
abbrev TGs := List V → St → Hp → (St → Hp → Prop) → Prop
def PG (X : Cx) (target : Expr) (t : TG) : Prop :=
  ∀ (pins : List (Addr × Obj)) (s : Shared) (σ : St) (H : Hp) (v : V) (u : Value) (Q : St → Hp → Prop), Inv X pins σ H s → RelV v u → t v σ H Q →
    wpAny (model X.prog X.w) X.A (assign target X.env u) (fun _ s' => ∃ σ' H', Inv X pins σ' H' s' ∧ Q σ' H') X.xe s
def PGs (X : Cx) (ts : List Expr) (t : TGs) : Prop :=
  ∀ (pins : List (Addr × Obj)) (s : Shared) (σ : St) (H : Hp) (vs : List V) (us : List Value) (Q : St → Hp → Prop), Inv X pins σ H s → Vals vs us → t vs σ H Q →
    wpAny (model X.prog X.w) X.A (assignInOrder ((assignEach ts X.env).map (·.2)) us) (fun _ s' => ∃ σ' H', Inv X pins σ' H' s' ∧ Q σ' H') X.xe s
abbrev TSet := V → V → V → Hp → (Hp → Prop) → Prop
def PSet (X : Cx) (t : TSet) : Prop :=
  ∀ (pins : List (Addr × Obj)) (s : Shared) (σ : St) (H : Hp) (o i v : V) (ov iv u : Value) (Q : Hp → Prop), Inv X pins σ H s → RelV o ov → RelV i iv → RelV v u → t o i v H Q →
    wpAny (model X.prog X.w) X.A (setItem ov iv u) (fun _ s' => ∃ H', Inv X pins σ H' s' ∧ Q H') X.xe s
section
variable {X : Cx} {pos : Pos}
def gName (i : Nat) : TG := fun v σ H Q => Q (σ.set i (some v)) H
theorem pg_name {i : Nat} {x : Str} (hN : X.N.Nodup) (hi : X.N[i]? = some x) (hx : Loc X.env.scope x) (hf : X.fn x = true ∨ X.env.scope.names.lookup x = some .local := by first | exact .inl rfl | exact .inr rfl | assumption) : PG X (.Name x pos) (gName i) := by
  intro pins s σ H v u Q I r h
  exact wpAny_assign_Name (store_ok I hN hi hx r (fun s' I' => ⟨_, H, I', h⟩) hf)
def gNil : TGs := fun vs σ H Q => vs = [] ∧ Q σ H
inductive gCons (t : TG) (u : TGs) (vs : List V) (σ : St) (H : Hp) (Q : St → Hp → Prop) : Prop
  | mk (v r : _) : vs = v :: r → (t v σ H fun σ' H' => u r σ' H' Q) → gCons t u vs σ H Q
theorem pgs_nil : PGs X [] gNil := by
  intro pins s σ H vs us Q I r h
  obtain ⟨e, h⟩ := h
  subst e
  cases r
  exact assignInOrder_nil ⟨σ, H, I, h⟩
theorem pgs_cons {e : Expr} {es : List Expr} {t : TG} {u : TGs} (h1 : PG X e t) (h2 : PGs X es u)
    (hs : (assignEach (e :: es) X.env).map (·.2) = assign e X.env :: (assignEach es X.env).map (·.2) := by rfl) : PGs X (e :: es) (gCons t u) := by
  intro pins s σ H vs us Q I r h
  obtain ⟨v, vr, e1, h⟩ := h
  subst e1
  cases r with
  | cons r rr =>
    rw [hs]
    refine assignInOrder_cons (thn (h1 pins s σ H _ _ _ I r h) fun _ s1 ⟨σ1, H1, I1, q1⟩ => ?_)
    exact h2 pins s1 σ1 H1 _ _ Q I1 rr q1
inductive gTup (K : PySem.W.Frag) (n : Nat) (t : TGs) (v : V) (σ : St) (H : Hp) (Q : St → Hp → Prop) : Prop
  | mk (a xs : _) : v = .ref a → SqT K H a xs → xs.length = n → t xs σ H Q → gTup K n t v σ H Q
theorem pg_tup {es : List Expr} {k : Nat} {t : TGs} {n : Nat} (hc : X.calm = true) (h : PGs X es t)
    (hn : (assignEach es X.env).length = n := by rfl) (hst : (assignEach es X.env).findIdx? (·.1) = none := by rfl) : PG X (.Tuple es k pos) (gTup X.K n t) := by
  intro pins s σ H v u Q I r hw
  obtain ⟨a, xs, e1, hq, hl, hw⟩ := hw
  subst e1
  cases r
  obtain ⟨its, rv, ht, hz⟩ := I.tuple hq
  refine assign_Tuple_tuple (I.ok.hd hc) ht (by simp [hn, ← hl, rv.length]) hst fun h' hx => ?_
  have I1 : Inv X pins σ H { s with heap := h' } := I.kept (t' := s.toks) fun b o e => hx b o (Nat.ne_of_lt (Heap.lt_size e)) e
  exact h pins _ σ H xs _ Q I1 (by simpa using rv) hw
def gSub (to ti : TE) (t : TSet) : TG := fun v σ H Q => to σ H fun o H1 => ti σ H1 fun i H2 => t o i v H2 fun H3 => Q σ H3
theorem pg_sub {o i : Expr} {to ti : TE} {t : TSet} (ho : PE X o to) (hi : PE X i ti) (hs : PSet X t)
    (ha : ∀ v, assign (.Subscript o i pos) X.env v = (do
      let ov ← holding [v] (eval o X.env)
      let iv ← holding [v, ov] (eval i X.env)
      standAt pos
      holding [v, ov, iv] (setItem ov iv v)
      release [v, ov, iv] []) := by intro _; rfl) : PG X (.Subscript o i pos) (gSub to ti t) := by
  intro pins s σ H v u Q I r h
  rw [ha]
  refine wpAny_bind (wpAny_holding (thn (ho pins s σ H _ I h) fun ov s1 ⟨x, H1, I1, r1, q1⟩ => ?_))
  refine wpAny_bind (wpAny_holding (thn (hi pins s1 σ H1 _ I1 q1) fun iv s2 ⟨y, H2, I2, r2, q2⟩ => ?_))
  refine wpAny_bind (wpAny_standAt (wpAny_bind (wpAny_holding (thn (hs pins s2 σ H2 x y v ov iv u _ I2 r1 r2 r q2) fun _ s3 ⟨H3, I3, q3⟩ => ?_))))
  exact wpAny_release ⟨σ, H3, I3, q3⟩
def tAsg (te : TE) (g : TG) : TS := fun D σ H => te σ H fun x H1 => g x σ H1 D.nx
theorem ps_asg {tg e : Expr} {te : TE} {g : TG} (he : PE X e te) (hg : PG X tg g) (hs : swapsWithSole [tg] e pos.line X.env = pure false := by rfl) (hw : swappedStores [tg] e X.env = pure none := by rfl)
    (h1 : (assignEach [tg] X.env).map (·.2) = [assign tg X.env] := by rfl) : PS X (.Assign [tg] e pos) (tAsg te g) := by
  refine ⟨?_⟩
  intro pins s σ H D I h
  refine wpAny_Assign_stores (thn (he pins s σ H _ I h) fun v s1 ⟨x, H1, I1, r1, q1⟩ => ?_) hs hw
  rw [h1]
  exact thn (hg pins s1 σ H1 x v _ I1 r1 q1) fun _ s2 q => q
theorem ps_set {i : Nat} {x : Str} {e : Expr} {te : TE} {pos' : Pos} (hN : X.N.Nodup) (hi : X.N[i]? = some x) (hx : Loc X.env.scope x) (he : PE X e te) (hs : swapsWith e (some (.Name x pos')) pos.line X.env = pure false := by rfl) (hf : X.fn x = true ∨ X.env.scope.names.lookup x = some .local := by first | exact .inl rfl | exact .inr rfl | assumption) :
    PS X (.Assign [.Name x pos'] e pos) (tAsg te (gName i)) := by
  refine ⟨?_⟩
  intro pins s σ H D I h
  refine wpAny_Assign_Name (thn (he pins s σ H _ I h) fun v s1 ⟨y, H1, I1, r1, q1⟩ => ?_) hs
  exact store_ok I1 hN hi hx r1 (fun s2 I2 => ⟨_, H1, I2, q1⟩) hf
end
structure It where
  go : Nat → Hp → Prop
  yld : Nat → Hp → V → Hp → Prop
  stop : Nat → Hp → Prop
def FpOk (X : Cx) (pins : List (Addr × Obj)) (H : Hp) (b : Addr) : Prop :=
  H b = none ∧ b ≠ X.env.locals ∧ b ∉ X.fs ∧ (b ∈ X.ex ∨ X.s₀.heap.objs.size ≤ b) ∧ (∀ x c, X.env.cells.lookup x = some c → c ≠ b) ∧ ∀ p ∈ X.pn ++ pins, p.1 ≠ b
theorem Inv.fpOk {X : Cx} {pins : List (Addr × Obj)} {σ : St} {H H' : Hp} {s : Shared} {b : Addr} (I : Inv X pins σ H s) (hb : s.heap.objs.size ≤ b) (hn : H' b = none) : FpOk X pins H' b := by
  refine ⟨hn, Nat.ne_of_gt (Nat.lt_of_lt_of_le I.lt hb), I.nofs hb, .inr (Nat.le_trans I.sz hb), fun x c e z => ?_, fun p hp z => ?_⟩
  · obtain ⟨v, q⟩ := I.cell x c e
    exact absurd (Nat.lt_of_lt_of_le q.lt (by rw [z]; exact hb)) (Nat.lt_irrefl _)
  · exact absurd (Nat.lt_of_lt_of_le (Heap.lt_size (I.pin p hp).1) (by rw [z]; exact hb)) (Nat.lt_irrefl _)
structure Turn (P : Program) (w : World) (K : PySem.W.Frag) (tg : Expr) (J : It) (fp : List Addr) (it : Addr) (tn : Nat → Heap → Prop) : Prop where
  mem : it ∈ fp
  obj : ∀ i h, tn i h → ∀ b ∈ fp, ∃ o, h.get? b = some o ∧ ∀ v, o.data ≠ .cell v
  keep : ∀ i h h', tn i h → (∀ b ∈ fp, ∀ o, h.get? b = some o → h'.get? b = some o) → tn i h'
  item : ∀ (X : Cx), X.prog = P → X.w = w → X.K = K → X.calm = true → ∀ (i : Nat) (pins : List (Addr × Obj)) (s : Shared) (σ : St) (H : Hp) (E : Value → Shared → Prop), Inv X pins σ H s → (∀ b ∈ fp, FpOk X pins H b) → tn i s.heap → J.go i H →
    wpAny (model P w) X.A (pyNext (.ref it)) (fun r s1 => ∃ u, r = some u ∧
      wpAny (model P w) X.A (letOwnedTupleGo tg (.ref it) u) (fun _ s2 => ∃ x H', Inv X pins σ H' s2 ∧ RelV x u ∧ J.yld i H x H' ∧ tn (i + 1) s2.heap ∧ ∀ b ∈ fp, H' b = none) E s1) E s
  done : ∀ (X : Cx), X.prog = P → X.w = w → X.K = K → X.calm = true → ∀ (i : Nat) (pins : List (Addr × Obj)) (s : Shared) (σ : St) (H : Hp) (E : Value → Shared → Prop), Inv X pins σ H s → (∀ b ∈ fp, FpOk X pins H b) → tn i s.heap → J.stop i H →
    wpAny (model P w) X.A (pyNext (.ref it)) (fun r s1 => r = none ∧ Inv X pins σ H s1) E s
  self : ∀ (A : Around) (i : Nat) (s : Shared) (Q : Value → Shared → Prop) (E : Value → Shared → Prop), tn i s.heap → Q (.ref it) s → wpAny (model P w) A (pyIter (.ref it)) Q E s
abbrev TI := St → Hp → (It → Hp → Prop) → Prop
inductive PIE (X : Cx) (pins : List (Addr × Obj)) (σ : St) (tg : Expr) (R : It → Hp → Prop) (itv : Value) (s2 : Shared) : Prop
  | mk (it : Addr) (fp : List Addr) (tn : Nat → Heap → Prop) (J : It) (H' : Hp) : itv = .ref it → Inv X pins σ H' s2 → Turn X.prog X.w X.K tg J fp it tn → tn 0 s2.heap → (∀ b ∈ fp, FpOk X pins H' b) → R J H' → PIE X pins σ tg R itv s2
structure PI (X : Cx) (tg iter : Expr) (wi : TI) : Prop where
  run : ∀ (pins : List (Addr × Obj)) (s : Shared) (σ : St) (H : Hp) (R : It → Hp → Prop), Inv X pins σ H s → wi σ H R →
    wpAny (model X.prog X.w) X.A (eval iter X.env) (fun v s1 => wpAny (model X.prog X.w) X.A (pyIter v) (PIE X pins σ tg R) X.xe s1) X.xe s
instance {X : Cx} {tg iter : Expr} {wi : TI} : CoeFun (PI X tg iter wi) fun _ => ∀ (pins : List (Addr × Obj)) (s : Shared) (σ : St) (H : Hp) (R : It → Hp → Prop), Inv X pins σ H s → wi σ H R →
    wpAny (model X.prog X.w) X.A (eval iter X.env) (fun v s1 => wpAny (model X.prog X.w) X.A (pyIter v) (PIE X pins σ tg R) X.xe s1) X.xe s := ⟨PI.run⟩
theorem go_of {M : Model} {A : Around} {E : Value → Shared → Prop} {s : Shared} {tg : Expr} {it : Addr} {u : Value} {o : Obj} {n : String} {vs : Array Value} {Q : Unit → Shared → Prop} (ho : s.heap.get? it = some o) (hc : o.cls = .type n) (hd : o.data = .fields vs)
    (hn : ["enumerate", "zip", "dict_itemiterator", "dict_reverseitemiterator", "odict_iterator", "itertools.zip_longest", "itertools.pairwise"].contains n = false) (hQ : Q () s) : wpAny M A (letOwnedTupleGo tg (.ref it) u) Q E s := by
  unfold letOwnedTupleGo
  cases tg <;> first
    | exact wpAny_pure hQ
    | (cases u <;> first
        | exact wpAny_pure hQ
        | (refine wpAny_bind (wpAny_load ho ?_)
           rw [hc, hd]
           show wpAny M A (if (["enumerate", "zip", "dict_itemiterator", "dict_reverseitemiterator", "odict_iterator", "itertools.zip_longest", "itertools.pairwise"].contains n && vs[0]? == some (rawInt _)) = true then _ else _) Q E s
           rw [if_neg (by intro h; rw [hn, Bool.false_and] at h; cases h)]
           exact wpAny_pure hQ))
def Itl (K : PySem.W.Frag) (a : Addr) : It :=
  ⟨fun i H => ∃ xs x, SqL K H a xs ∧ xs[i]? = some x, fun i H x H' => H' = H ∧ ∀ xs, SqL K H a xs → xs[i]? = some x, fun i H => ∃ xs, SqL K H a xs ∧ xs.length ≤ i⟩
def Itt (K : PySem.W.Frag) (a : Addr) : It :=
  ⟨fun i H => ∃ xs x, SqT K H a xs ∧ xs[i]? = some x, fun i H x H' => H' = H ∧ ∀ xs, SqT K H a xs → xs[i]? = some x, fun i H => ∃ xs, SqT K H a xs ∧ xs.length ≤ i⟩
def Itr (lo : Int) (n : Nat) : It := ⟨fun i _ => i < n, fun i H x H' => H' = H ∧ x = .int (lo + i), fun i _ => n ≤ i⟩
theorem turn_list {P : Program} {w : World} {K : PySem.W.Frag} {tg : Expr} (a it : Addr) : Turn P w K tg (Itl K a) [it] it (fun i h => h.IsListIter it a i) where
  mem := by simp
  obj := fun i h st b hb => by
    have e : b = it := by simpa using hb
    subst e
    obtain ⟨o, e, c, d⟩ := st
    exact ⟨o, e, fun v z => by rw [d] at z; cases z⟩
  keep := fun i h h' st k => st.at fun o e => k it (by simp) o e
  item := by
    intro X hP hw hK hc i pins s σ H E I hf st hg
    subst hP hw hK
    obtain ⟨xs, x, hq, hx⟩ := hg
    obtain ⟨its, rv, p, hz⟩ := I.list hq
    obtain ⟨u, hu, ru⟩ := rv.get hx
    obtain ⟨f0, f1, f2, f3, f4, f5⟩ := hf it (by simp)
    refine wpAny_pyNext_list_item st p.isList (x := u) (by simpa using hu) fun h' st' sb => ?_
    have I1 : Inv X pins σ H { s with heap := h' } := I.turned (t' := s.toks) (fun b o hb e => (sb.2 b hb).trans e) f0 f1 f3 f4 f5
    obtain ⟨o, e, c, d⟩ := id st'
    exact ⟨u, rfl, go_of (s := { s with heap := h' }) e c d (by decide) ⟨x, H, I1, ru, ⟨rfl, fun ys hy => by rw [I.list_inj hy hq]; exact hx⟩, st', fun b hb => (hf b hb).1⟩⟩
  done := by
    intro X hP hw hK hc i pins s σ H E I hf st hg
    subst hP hw hK
    obtain ⟨xs, hq, hx⟩ := hg
    obtain ⟨its, rv, p, hz⟩ := I.list hq
    obtain ⟨f0, f1, f2, f3, f4, f5⟩ := hf it (by simp)
    have hl := rv.length
    exact wpAny_pyNext_list_end (I.ok.hd hc) st p.isList (by simp; lia) fun h' eb => ⟨rfl, I.turned (t' := s.toks) (fun b o hb e => eb b o hb e) f0 f1 f3 f4 f5⟩
  self := fun _ _ _ _ _ st h => wpAny_pyIter_listiter st h
theorem turn_tuple {P : Program} {w : World} {K : PySem.W.Frag} {tg : Expr} (a it : Addr) : Turn P w K tg (Itt K a) [it] it (fun i h => h.IsTupleIter it a i) where
  mem := by simp
  obj := fun i h st b hb => by
    have e : b = it := by simpa using hb
    subst e
    obtain ⟨o, e, c, d⟩ := st
    exact ⟨o, e, fun v z => by rw [d] at z; cases z⟩
  keep := fun i h h' st k => st.at fun o e => k it (by simp) o e
  item := by
    intro X hP hw hK hc i pins s σ H E I hf st hg
    subst hP hw hK
    obtain ⟨xs, x, hq, hx⟩ := hg
    obtain ⟨its, rv, p, hz⟩ := I.tuple hq
    obtain ⟨u, hu, ru⟩ := rv.get hx
    obtain ⟨f0, f1, f2, f3, f4, f5⟩ := hf it (by simp)
    refine wpAny_pyNext_tuple_item st (show s.heap.IsTuple a its.toArray from p) (x := u) (by simpa using hu) fun h' st' sb => ?_
    have I1 : Inv X pins σ H { s with heap := h' } := I.turned (t' := s.toks) (fun b o hb e => (sb.2 b hb).trans e) f0 f1 f3 f4 f5
    obtain ⟨o, e, c, d⟩ := id st'
    exact ⟨u, rfl, go_of (s := { s with heap := h' }) e c d (by decide) ⟨x, H, I1, ru, ⟨rfl, fun ys hy => by rw [I.tuple_inj hy hq]; exact hx⟩, st', fun b hb => (hf b hb).1⟩⟩
  done := by
    intro X hP hw hK hc i pins s σ H E I hf st hg
    subst hP hw hK
    obtain ⟨xs, hq, hx⟩ := hg
    obtain ⟨its, rv, p, hz⟩ := I.tuple hq
    obtain ⟨f0, f1, f2, f3, f4, f5⟩ := hf it (by simp)
    have hl := rv.length
    exact wpAny_pyNext_tuple_end (I.ok.hd hc) st (show s.heap.IsTuple a its.toArray from p) (by simp; lia) fun h' eb => ⟨rfl, I.turned (t' := s.toks) (fun b o hb e => eb b o hb e) f0 f1 f3 f4 f5⟩
  self := fun _ _ _ _ _ st h => wpAny_pyIter_tupleiter st h
theorem turn_range {P : Program} {w : World} {K : PySem.W.Frag} {tg : Expr} (it : Addr) (lo : Int) (n : Nat) : Turn P w K tg (Itr lo n) [it] it (fun i h => IsRangeIter h it (lo + (i : Nat) * 1) ((n : Int) - (i : Nat)) 1) where
  mem := by simp
  obj := fun i h st b hb => by
    have e : b = it := by simpa using hb
    subst e
    exact ⟨_, st, fun v z => by
      have z' : Data.fields _ = Data.cell v := z
      cases z'⟩
  keep := fun i h h' st k => k it (by simp) _ st
  item := by
    intro X hP hw hK hc i pins s σ H E I hf st hg
    subst hP hw hK
    obtain ⟨f0, f1, f2, f3, f4, f5⟩ := hf it (by simp)
    have W := Walks.range (prog := X.prog) (w := X.w) (I.ok.hd hc) it lo 1 n
    refine W.item i s _ _ hg st fun v h' tk hv st' kk => ?_
    obtain ⟨t, rfl⟩ := hv
    have I1 : Inv X pins σ H { s with heap := h', toks := tk } := I.turned (fun b o hb e => kk b o (by simpa using hb) e) f0 f1 f3 f4 f5
    refine ⟨_, rfl, go_of (s := { s with heap := h', toks := tk }) (n := "range_iterator") st' rfl rfl (by decide) ⟨.int (lo + i), H, I1, ⟨t, ?_⟩, ⟨rfl, rfl⟩, st', fun b hb => (hf b hb).1⟩⟩
    rw [Int.mul_one]
  done := by
    intro X hP hw hK hc i pins s σ H E I hf st hg
    subst hP hw hK
    obtain ⟨f0, f1, f2, f3, f4, f5⟩ := hf it (by simp)
    exact wpAny_pyNext_range_end (I.ok.hd hc) st (by have : n ≤ i := hg; lia) fun h' eb => ⟨rfl, I.turned (t' := s.toks) (fun b o hb e => eb b o hb e) f0 f1 f3 f4 f5⟩
  self := fun _ _ _ _ _ st h => wpAny_pyIter_rangeiter st h
end L2
namespace L2
open PySem PySem.Spec PyProof.Rows
section
variable {X : Cx} {tg : Expr}
inductive iListI (K : PySem.W.Frag) (R : It → Hp → Prop) (x : V) (H1 : Hp) : Prop
  | mk (a : _) : x = .ref a → (∃ xs, SqL K H1 a xs) → R (Itl K a) H1 → iListI K R x H1
def iList (K : PySem.W.Frag) (tl : TE) : TI := fun σ H R => tl σ H fun x H1 => iListI K R x H1
inductive iTupI (K : PySem.W.Frag) (R : It → Hp → Prop) (x : V) (H1 : Hp) : Prop
  | mk (a : _) : x = .ref a → (∃ xs, SqT K H1 a xs) → R (Itt K a) H1 → iTupI K R x H1
def iTup (K : PySem.W.Frag) (tl : TE) : TI := fun σ H R => tl σ H fun x H1 => iTupI K R x H1
theorem pi_list {l : Expr} {tl : TE} (hl : PE X l tl) : PI X tg l (iList X.K tl) := by
  refine ⟨?_⟩
  intro pins s σ H R I h
  refine thn (hl pins s σ H _ I h) fun v s1 ⟨x, H1, I1, r1, q1⟩ => ?_
  obtain ⟨a, e, ⟨xs, hq⟩, q⟩ := q1
  subst e
  cases r1
  obtain ⟨its, rv, p, hz⟩ := I1.list hq
  refine wpAny_pyIter_list p.isList ?_
  refine ⟨s1.heap.objs.size, [s1.heap.objs.size], _, _, H1, rfl, I1.kept (t' := s1.toks) fun b o e => Heap.get?_push_of_some _ e, turn_list a _, ⟨_, Heap.get?_push_size _ rfl, rfl, rfl⟩, fun b hb => ?_, q⟩
  have e : b = s1.heap.objs.size := by simpa using hb
  subst e
  exact I1.fpOk (Nat.le_refl _) (I1.hok.fresh (Nat.le_refl _))
theorem pi_tup {l : Expr} {tl : TE} (hl : PE X l tl) : PI X tg l (iTup X.K tl) := by
  refine ⟨?_⟩
  intro pins s σ H R I h
  refine thn (hl pins s σ H _ I h) fun v s1 ⟨x, H1, I1, r1, q1⟩ => ?_
  obtain ⟨a, e, ⟨xs, hq⟩, q⟩ := q1
  subst e
  cases r1
  obtain ⟨its, rv, p, hz⟩ := I1.tuple hq
  refine wpAny_pyIter_tuple (show s1.heap.IsTuple a its.toArray from p) ?_
  refine ⟨s1.heap.objs.size, [s1.heap.objs.size], _, _, H1, rfl, I1.kept (t' := s1.toks) fun b o e => Heap.get?_push_of_some _ e, turn_tuple a _, ⟨_, Heap.get?_push_size _ rfl, rfl, rfl⟩, fun b hb => ?_, q⟩
  have e : b = s1.heap.objs.size := by simpa using hb
  subst e
  exact I1.fpOk (Nat.le_refl _) (I1.hok.fresh (Nat.le_refl _))
theorem range_it {pins : List (Addr × Obj)} {σ : St} {H : Hp} {s : Shared} {R : It → Hp → Prop} {E : Value → Shared → Prop} {lo hi : Int} {t u v : Tok} {tk : Nat} (I : Inv X pins σ H s) (h1 : -(2 ^ 62) ≤ lo) (h2 : lo < 2 ^ 62) (h3 : -(2 ^ 62) ≤ hi) (h4 : hi < 2 ^ 62)
    (q : R (Itr lo (hi - lo).toNat) H) : wpAny (model X.prog X.w) X.A (pyIter (.ref s.heap.objs.size)) (PIE X pins σ tg R) E { s with heap := s.heap.push { cls := .type "range", data := .fields #[.int lo t, .int hi u, .int 1 v] }, toks := tk } := by
  refine wpAny_pyIter_range (IsRange.new ..) (small_one h1 h2 h3 h4) ?_
  have I1 : Inv X pins σ H { s with heap := s.heap.push { cls := .type "range", data := .fields #[.int lo t, .int hi u, .int 1 v] }, toks := tk } := I.kept fun b o e => Heap.get?_push_of_some _ e
  refine ⟨(s.heap.push { cls := .type "range", data := .fields #[.int lo t, .int hi u, .int 1 v] }).objs.size, [(s.heap.push { cls := .type "range", data := .fields #[.int lo t, .int hi u, .int 1 v] }).objs.size], _, _, H, rfl,
    I1.kept (t' := tk) fun b o e => Heap.get?_push_of_some _ e, turn_range _ lo (hi - lo).toNat, ?_, fun b hb => ?_, q⟩
  · have e1 : lo + ((0 : Nat) : Int) * 1 = lo := by simp
    have e2 : (((hi - lo).toNat : Nat) : Int) - ((0 : Nat) : Int) = Builtin.Range.rangeSize lo hi 1 := by rw [rangeSize_one]; split <;> lia
    show IsRangeIter _ _ (lo + ((0 : Nat) : Int) * 1) ((((hi - lo).toNat : Nat) : Int) - ((0 : Nat) : Int)) 1
    rw [e1, e2]
    exact Heap.get?_push_size _ rfl
  · have e : b = (s.heap.push { cls := .type "range", data := .fields #[.int lo t, .int hi u, .int 1 v] }).objs.size := by simpa using hb
    subst e
    exact I1.fpOk (Nat.le_refl _) (I1.hok.fresh (Nat.le_refl _))
inductive iRng1I (R : It → Hp → Prop) (vs : List V) (H1 : Hp) : Prop
  | mk (j : Int) : vs = [.int j] → -(2 ^ 62) ≤ j → j < 2 ^ 62 → R (Itr 0 j.toNat) H1 → iRng1I R vs H1
def iRng1 (ta : TA) : TI := fun σ H R => ta σ H fun vs H1 => iRng1I R vs H1
theorem pi_range1 {a : Expr} {ta : TA} {p pos : Pos} (hg : Gl X "range") (hm : X.mg "range" = none) (ha : PA X [a] ta) (hs : starEach [a] X.env = [(false, eval a X.env)] := by rfl) : PI X tg (.Call (.Name "range" p) [a] [] pos) (iRng1 ta) := by
  refine ⟨?_⟩
  intro pins s σ H R I h
  refine Call_ (ld_blt I hg hm boot_range (PyProof.Rows.callWith_type1 (thn (ha pos pins s σ H _ I h) fun us s1 ⟨vs, H1, I1, r1, q1⟩ => ?_) hs rfl))
  obtain ⟨j, e, q1, q2, q⟩ := q1
  subst e
  cases r1 with
  | cons r rr =>
    cases rr
    obtain ⟨t, rfl⟩ := r
    exact call_range_1 (range_it I1 (by lia) (by lia) q1 q2 (by simpa using q))
def tFor (wi : TI) (g : TG) (tb : TS) : TS := fun D σ H => wi σ H fun J H1 => ∃ W : Nat → Nat → St → Hp → Prop, (∃ m, W 0 m σ H1) ∧ ∀ i m σ H, W i m σ H →
  (J.stop i H ∧ D.nx σ H) ∨ (J.go i H ∧ ∃ N : St → Hp → Prop, (∀ σ' H', N σ' H' → ∃ m', m' < m ∧ W (i + 1) m' σ' H') ∧ ∀ x H', J.yld i H x H' → g x σ H' fun σ2 H2 => tb { D with nx := N, ct := N, bk := D.nx } σ2 H2)
def pinsAt (fp : List Addr) (h : Heap) : List (Addr × Obj) := fp.filterMap fun b => (h.get? b).map fun o => (b, o)
theorem mem_pinsAt {fp : List Addr} {h : Heap} {b : Addr} {o : Obj} (hb : b ∈ fp) (e : h.get? b = some o) : (b, o) ∈ pinsAt fp h := List.mem_filterMap.mpr ⟨b, hb, by rw [e]; rfl⟩
theorem of_pinsAt {fp : List Addr} {h : Heap} {p : Addr × Obj} (hp : p ∈ pinsAt fp h) : p.1 ∈ fp ∧ h.get? p.1 = some p.2 := by
  obtain ⟨b, hb, e⟩ := List.mem_filterMap.mp hp
  cases q : h.get? b with
  | none => rw [q] at e; cases e
  | some o =>
    rw [q] at e
    have e' : (b, o) = p := Option.some.inj e
    subst e'
    exact ⟨hb, q⟩
theorem Inv.pinned {pins : List (Addr × Obj)} {σ : St} {H : Hp} {s : Shared} {fp : List Addr} (I : Inv X pins σ H s) (hf : ∀ b ∈ fp, FpOk X pins H b) (ho : ∀ b ∈ fp, ∃ o, s.heap.get? b = some o ∧ ∀ v, o.data ≠ .cell v) : Inv X (pins ++ pinsAt fp s.heap) σ H s :=
  I.pins_of fun p hp => (List.mem_append.mp hp).elim (fun z => I.pin p (List.mem_append_right _ z)) fun z => by
    obtain ⟨hb, e⟩ := of_pinsAt z
    obtain ⟨f0, f1, f2, _⟩ := hf p.1 hb
    obtain ⟨o, e', d⟩ := ho p.1 hb
    rw [e] at e'; cases e'
    exact ⟨e, f0, f1, f2, d⟩
theorem Inv.unpinned {pins pl : List (Addr × Obj)} {σ : St} {H : Hp} {s : Shared} (I : Inv X (pins ++ pl) σ H s) : Inv X pins σ H s := I.pins_of fun p hp => I.pin p (List.mem_append_right _ (List.mem_append_left _ hp))
theorem ps_for {iter : Expr} {body : List Stmt} {wi : TI} {g : TG} {tb : TS} {pos : Pos} (hp : PassesOwn (model X.prog X.w) X.A X.env X.xe) (hc : X.calm = true) (hi : PI X tg iter wi) (hg : PG X tg g) (hb : PSs X body tb)
    (hs : ∀ x, foldedSetIterable iter X.env x = pure x := by intro _; rfl) : PS X (.For tg iter body [] pos) (tFor wi g tb) := by
  refine ⟨?_⟩
  intro pins s σ H D I h
  refine wpAny_For (thn (hi pins s σ H _ I h) fun v s1 h1 => thn h1 fun itv s2 h2 => ?_) hs
  obtain ⟨it, fp, tn, J, H2, e, I2, T, st2, f2, W, ⟨m0, w0⟩, turn⟩ := h2
  subst e
  -- what stays true of the iterator's objects through the loop
  have stat : ∀ {H' : Hp}, (∀ b ∈ fp, H' b = none) → ∀ b ∈ fp, FpOk X pins H' b := fun hn b hb => ⟨hn b hb, (f2 b hb).2⟩
  refine codeAny_forLoop_any (fun n s' => ∃ i σ' H', Inv X pins σ' H' s' ∧ tn i s'.heap ∧ (∀ b ∈ fp, H' b = none) ∧ W i n σ' H') ?_ m0 ⟨0, σ, H2, I2, st2, fun b hb => (f2 b hb).1, w0⟩
  rintro n s3 ⟨i, σ3, H3, I3, st3, fr3, w3⟩
  rcases turn i n σ3 H3 w3 with ⟨stop, qn⟩ | ⟨go, N, hN, step⟩
  · refine wpAny_passesOwn hp (thn (T.done X rfl rfl rfl hc i pins s3 σ3 H3 X.xe I3 (stat fr3) st3 stop) fun r s4 ⟨hr, I4⟩ => ?_)
    subst hr
    exact wpAny_execs_nil ⟨σ3, H3, I4, qn⟩
  · refine wpAny_passesOwn hp (thn (T.item X rfl rfl rfl hc i pins s3 σ3 H3 X.xe I3 (stat fr3) st3 go) fun r s4 ⟨u, hr, h4⟩ => ?_)
    subst hr
    refine wpAny_passesOwn hp (thn h4 fun _ s5 ⟨x, H5, I5, r5, y5, st5, fr5⟩ => ?_)
    have I5' := I5.pinned (stat fr5) (T.obj _ _ st5)
    refine wpAny_passesOwn hp (thn (hg _ s5 σ3 H5 x u _ I5' r5 (step x H5 y5)) fun _ s6 ⟨σ6, H6, I6, q6⟩ => ?_)
    refine wpAny_passesOwn hp (thn (hb _ s6 σ6 H6 _ I6 q6) fun f s7 q7 => ?_)
    have again : ∀ {σ7 : St} {H7 : Hp}, Inv X (pins ++ pinsAt fp s5.heap) σ7 H7 s7 → N σ7 H7 → ∃ m, m < n ∧ ∃ i σ' H', Inv X pins σ' H' s7 ∧ tn i s7.heap ∧ (∀ b ∈ fp, H' b = none) ∧ W i m σ' H' := fun {σ7 H7} I7 n7 => by
      obtain ⟨m', hm, w7⟩ := hN σ7 H7 n7
      refine ⟨m', hm, i + 1, σ7, H7, I7.unpinned, T.keep _ _ _ st5 fun b hb o e => (I7.pin (b, o) (List.mem_append_right _ (List.mem_append_right _ (mem_pinsAt hb e)))).1, fun b hb => ?_, w7⟩
      obtain ⟨o, e, d⟩ := T.obj _ _ st5 b hb
      exact (I7.pin (b, o) (List.mem_append_right _ (List.mem_append_right _ (mem_pinsAt hb e)))).2.1
    cases f with
    | next => obtain ⟨σ7, H7, I7, n7⟩ := q7; exact again I7 n7
    | cont => obtain ⟨σ7, H7, I7, n7⟩ := q7; exact again I7 n7
    | brk => obtain ⟨σ7, H7, I7, q7⟩ := q7; exact ⟨σ7, H7, I7.unpinned, q7⟩
    | ret v => obtain ⟨x7, σ7, H7, I7, r7, q7⟩ := q7; exact ⟨x7, σ7, H7, I7.unpinned, r7, q7⟩
end
theorem for_list {K : PySem.W.Frag} {a : Addr} {xs : List V} {g : TG} {tb : TS} {D : Ends} {σ : St} {H : Hp} (Pv : Nat → St → Hp → Prop) (h0 : Pv 0 σ H) (hl : ∀ i σ H, i ≤ xs.length → Pv i σ H → SqL K H a xs)
    (hs : ∀ i x σ H, xs[i]? = some x → Pv i σ H → g x σ H fun σ2 H2 => tb { D with nx := Pv (i + 1), ct := Pv (i + 1), bk := D.nx } σ2 H2) (hd : ∀ σ H, Pv xs.length σ H → D.nx σ H) :
    ∃ W : Nat → Nat → St → Hp → Prop, (∃ m, W 0 m σ H) ∧ ∀ i m σ H, W i m σ H →
      ((Itl K a).stop i H ∧ D.nx σ H) ∨ ((Itl K a).go i H ∧ ∃ N : St → Hp → Prop, (∀ σ' H', N σ' H' → ∃ m', m' < m ∧ W (i + 1) m' σ' H') ∧ ∀ x H', (Itl K a).yld i H x H' → g x σ H' fun σ2 H2 => tb { D with nx := N, ct := N, bk := D.nx } σ2 H2) := by
  refine ⟨fun i m σ H => m = xs.length - i ∧ i ≤ xs.length ∧ Pv i σ H, ⟨xs.length, by simp, Nat.zero_le _, h0⟩, ?_⟩
  rintro i m σ H ⟨rfl, hi, p⟩
  have q := hl i σ H hi p
  by_cases hlt : i < xs.length
  · refine .inr ⟨⟨xs, xs[i], q, by simp [hlt]⟩, Pv (i + 1), fun σ' H' p' => ⟨xs.length - (i + 1), by lia, rfl, hlt, p'⟩, fun x H' y => ?_⟩
    obtain ⟨e, y⟩ := y
    subst e
    exact hs i x σ _ (y xs q) p
  · have e : i = xs.length := by lia
    subst e
    exact .inl ⟨⟨xs, q, Nat.le_refl _⟩, hd σ H p⟩
theorem for_range {lo : Int} {n : Nat} {g : TG} {tb : TS} {D : Ends} {σ : St} {H : Hp} (Pv : Nat → St → Hp → Prop) (h0 : Pv 0 σ H)
    (hs : ∀ i σ H, i < n → Pv i σ H → g (.int (lo + i)) σ H fun σ2 H2 => tb { D with nx := Pv (i + 1), ct := Pv (i + 1), bk := D.nx } σ2 H2) (hd : ∀ σ H, Pv n σ H → D.nx σ H) :
    ∃ W : Nat → Nat → St → Hp → Prop, (∃ m, W 0 m σ H) ∧ ∀ i m σ H, W i m σ H →
      ((Itr lo n).stop i H ∧ D.nx σ H) ∨ ((Itr lo n).go i H ∧ ∃ N : St → Hp → Prop, (∀ σ' H', N σ' H' → ∃ m', m' < m ∧ W (i + 1) m' σ' H') ∧ ∀ x H', (Itr lo n).yld i H x H' → g x σ H' fun σ2 H2 => tb { D with nx := N, ct := N, bk := D.nx } σ2 H2) := by
  refine ⟨fun i m σ H => m = n - i ∧ i ≤ n ∧ Pv i σ H, ⟨n, by simp, Nat.zero_le _, h0⟩, ?_⟩
  rintro i m σ H ⟨rfl, hi, p⟩
  by_cases hlt : i < n
  · refine .inr ⟨hlt, Pv (i + 1), fun σ' H' p' => ⟨n - (i + 1), by lia, rfl, hlt, p'⟩, fun x H' y => ?_⟩
    obtain ⟨e, y⟩ := y
    subst e y
    exact hs i σ _ hlt p
  · have e : i = n := by lia
    subst e
    exact .inl ⟨Nat.le_refl _, hd σ H p⟩
end L2
namespace L2
open PySem PySem.Spec PyProof.Rows
abbrev R2 := V → V → Hp → VK → Prop
def OpR (X : Cx) (f : Value → Value → Sem Value) (r : R2) : Prop :=
  ∀ (pins : List (Addr × Obj)) (s : Shared) (σ : St) (H : Hp) (x y : V) (v u : Value) (Q : VK), Inv X pins σ H s → RelV x v → RelV y u → r x y H Q →
    wpAny (model X.prog X.w) X.A (f v u) (EP X pins σ Q) X.xe s
def UnR (X : Cx) (f : Value → Sem Value) (r : V → Hp → VK → Prop) : Prop :=
  ∀ (pins : List (Addr × Obj)) (s : Shared) (σ : St) (H : Hp) (x : V) (v : Value) (Q : VK), Inv X pins σ H s → RelV x v → r x H Q →
    wpAny (model X.prog X.w) X.A (f v) (EP X pins σ Q) X.xe s
def CallR (X : Cx) (f : Value) (r : List V → Hp → VK → Prop) : Prop :=
  ∀ (pins : List (Addr × Obj)) (s : Shared) (σ : St) (H : Hp) (xs : List V) (us : List Value) (Q : VK), Inv X pins σ H s → Vals xs us → r xs H Q →
    wpAny (model X.prog X.w) X.A (call f us) (EP X pins σ Q) X.xe s
def tOp (r : R2) (ta tb : TE) : TE := fun σ H Q => ta σ H fun x H1 => tb σ H1 fun y H2 => r x y H2 Q
def tUn (r : V → Hp → VK → Prop) (ta : TE) : TE := fun σ H Q => ta σ H fun x H1 => r x H1 Q
inductive rI (C : Int → Int → Prop) (g : Int → Int → V) (x : V) (y : V) (H : Hp) (Q : VK) : Prop
  | mk (i j : _) : x = .int i → y = .int j → C i j → Q (g i j) H → rI C g x y H Q
inductive rI0 (g : Int → Int → V) (x : V) (y : V) (H : Hp) (Q : VK) : Prop
  | mk (i j : _) : x = .int i → y = .int j → Q (g i j) H → rI0 g x y H Q
inductive rU (g : Int → V) (x : V) (H : Hp) (Q : VK) : Prop
  | mk (i : _) : x = .int i → Q (g i) H → rU g x H Q
section
variable {X : Cx} {a b c : Expr} {ta tb tc : TE} {pos : Pos}
theorem binT (ha : PE X a ta) (hb : PE X b tb) {pins : List (Addr × Obj)} {s : Shared} {σ : St} {H : Hp} {R : V → V → Hp → Prop} (I : Inv X pins σ H s)
    (h : ta σ H fun x H1 => tb σ H1 fun y H2 => R x y H2) {Q : Value → Shared → Prop} {f : Value → Value → Sem Value}
    (hf : ∀ v u s2 x y H2, Inv X pins σ H2 s2 → RelV x v → RelV y u → R x y H2 → wpAny (model X.prog X.w) X.A (f v u) Q X.xe s2) :
    wpAny (model X.prog X.w) X.A (eval a X.env) (fun v s₁ => wpAny (model X.prog X.w) X.A (eval b X.env) (fun u s₂ => wpAny (model X.prog X.w) X.A (f v u) Q X.xe s₂) X.xe s₁) X.xe s := by
  refine thn (ha pins s σ H _ I h) fun v s1 ⟨x, H1, I1, r1, q1⟩ => ?_
  refine thn (hb pins s1 σ H1 _ I1 q1) fun u s2 ⟨y, H2, I2, r2, q2⟩ => ?_
  exact hf v u s2 x y H2 I2 r1 r2 q2
theorem pe_op {op : Operator} {r : R2} (ho : OpR X (binaryOp op) r) (ha : PE X a ta) (hb : PE X b tb) : PE X (.BinOp a op b pos) (tOp r ta tb) := by
  refine ⟨?_⟩
  intro pins s σ H Q I h
  exact wpAny_BinOp (binT ha hb I h fun v u s2 x y H2 I2 rx ry q => ho pins s2 σ H2 x y v u Q I2 rx ry q)
theorem pe_un {op : UnaryOp} {r : V → Hp → VK → Prop} (ho : UnR X (unaryOp op) r) (ha : PE X a ta) : PE X (.UnaryOp op a pos) (tUn r ta) := by
  refine ⟨?_⟩
  intro pins s σ H Q I h
  exact UnaryOp_ (thn (ha pins s σ H _ I h) fun v s1 ⟨x, H1, I1, r1, q1⟩ => ho pins s1 σ H1 x v Q I1 r1 q1)
theorem opI {f : Value → Value → Sem Value} {C : Int → Int → Prop} {g : Int → Int → Int}
    (rule : ∀ (i j : Int) (t u : Tok) (s : Shared) (Q : Value → Shared → Prop) (E : Value → Shared → Prop), C i j → Q (.int (g i j) s.toks) { s with toks := s.toks + 1 } → wpAny (model X.prog X.w) X.A (f (.int i t) (.int j u)) Q E s) :
    OpR X f (rI C fun i j => .int (g i j)) := by
  intro pins s σ H x y v u Q I rx ry h
  obtain ⟨i, j, rfl, rfl, hc, q⟩ := h
  obtain ⟨t, rfl⟩ := rx
  obtain ⟨t', rfl⟩ := ry
  exact rule i j t t' s _ _ hc ⟨.int (g i j), H, I.tok _, ⟨_, rfl⟩, q⟩
theorem opI0 {f : Value → Value → Sem Value} {g : Int → Int → Int}
    (rule : ∀ (i j : Int) (t u : Tok) (s : Shared) (Q : Value → Shared → Prop) (E : Value → Shared → Prop), Q (.int (g i j) s.toks) { s with toks := s.toks + 1 } → wpAny (model X.prog X.w) X.A (f (.int i t) (.int j u)) Q E s) :
    OpR X f (rI0 fun i j => .int (g i j)) := by
  intro pins s σ H x y v u Q I rx ry h
  obtain ⟨i, j, rfl, rfl, q⟩ := h
  obtain ⟨t, rfl⟩ := rx
  obtain ⟨t', rfl⟩ := ry
  exact rule i j t t' s _ _ ⟨.int (g i j), H, I.tok _, ⟨_, rfl⟩, q⟩
theorem opB0 {f : Value → Value → Sem Value} {g : Int → Int → Bool}
    (rule : ∀ (i j : Int) (t u : Tok) (s : Shared) (Q : Value → Shared → Prop) (E : Value → Shared → Prop), Q (.bool (g i j)) s → wpAny (model X.prog X.w) X.A (f (.int i t) (.int j u)) Q E s) :
    OpR X f (rI0 fun i j => .bl (g i j)) := by
  intro pins s σ H x y v u Q I rx ry h
  obtain ⟨i, j, rfl, rfl, q⟩ := h
  obtain ⟨t, rfl⟩ := rx
  obtain ⟨t', rfl⟩ := ry
  exact rule i j t t' s _ _ ⟨.bl (g i j), H, I, rfl, q⟩
def CDiv (i j : Int) : Prop := 0 < j ∧ j < 1073741824
def CPow (i j : Int) : Prop := 0 ≤ j ∧ j ≤ 1000000 ∧ i.natAbs < 2 ^ 64
def CMul (i j : Int) : Prop := (-(2 ^ 64) < i ∧ i < 2 ^ 64) ∨ (-(2 ^ 64) < j ∧ j < 2 ^ 64)
theorem CMul.ok {i j : Int} (h : CMul i j) : IntMulOk i j := by
  rcases h with ⟨h1, h2⟩ | ⟨h1, h2⟩
  · exact .of_left (intBits_le_64 h1 h2)
  · exact .of_right (intBits_le_64 h1 h2)
theorem op_add : OpR X (binaryOp .Add) (rI0 fun i j => .int (i + j)) := opI0 fun _ _ _ _ _ _ _ q => add_int q
theorem op_sub : OpR X (binaryOp .Sub) (rI0 fun i j => .int (i - j)) := opI0 fun _ _ _ _ _ _ _ q => sub_int q
theorem op_mul : OpR X (binaryOp .Mult) (rI CMul fun i j => .int (i * j)) := opI fun _ _ _ _ _ _ _ hc q => mul_int q hc.ok
theorem op_fdiv : OpR X (binaryOp .FloorDiv) (rI CDiv fun i j => .int (i / j)) := opI fun i j _ _ _ _ _ hc q => by
  have h1 : (0 : Int) < j := hc.1
  have h2 : j < 1073741824 := hc.2
  exact floordiv_int (by lia) (by rw [Int.fdiv_eq_ediv_of_nonneg i (by lia)]; exact q) (.inl (PyProof.noPylong_small (by lia)))
theorem op_mod : OpR X (binaryOp .Mod) (rI (fun _ j => 0 < j) fun i j => .int (i % j)) := opI fun i j _ _ _ _ _ hc q => by
  have h1 : (0 : Int) < j := hc
  exact mod_int' (by lia) (by rw [Int.fmod_eq_emod_of_nonneg i (by lia)]; exact q)
theorem op_pow : OpR X (binaryOp .Pow) (rI CPow fun i j => .int (i ^ j.toNat)) := opI fun _ _ _ _ _ _ _ hc q => pow_int_small hc.1 hc.2.1 hc.2.2 q
theorem op_shl : OpR X (binaryOp .LShift) (rI CPow fun i j => .int (i * 2 ^ j.toNat)) := opI fun _ _ _ _ _ _ _ hc q => lshift_int_small hc.1 hc.2.1 hc.2.2 q
theorem unI {f : Value → Sem Value} {g : Int → Int}
    (rule : ∀ (i : Int) (t : Tok) (s : Shared) (Q : Value → Shared → Prop) (E : Value → Shared → Prop), Q (.int (g i) s.toks) { s with toks := s.toks + 1 } → wpAny (model X.prog X.w) X.A (f (.int i t)) Q E s) :
    UnR X f (rU fun i => .int (g i)) := by
  intro pins s σ H x v Q I rx h
  obtain ⟨i, rfl, q⟩ := h
  obtain ⟨t, rfl⟩ := rx
  exact rule i t s _ _ ⟨.int (g i), H, I.tok _, ⟨_, rfl⟩, q⟩
theorem un_neg : UnR X (unaryOp .USub) (rU fun i => .int (-i)) := unI fun _ _ _ _ _ q => neg_int q
end
def scal : V → V → Bool
  | .non, .non => true | .non, .int _ => true | .int _, .non => true | .non, .bl _ => true | .bl _, .non => true | .non, .str _ => true | .str _, .non => true
  | .int _, .int _ => true | .bl _, .bl _ => true | .str _, .str _ => true | .byt _, .byt _ => true
  | .int _, .str _ => true | .str _, .int _ => true | .bl _, .str _ => true | .str _, .bl _ => true
  | _, _ => false
def rEq : R2 := fun x y H Q => scal x y = true ∧ Q (.bl (decide (x = y))) H
def rNe : R2 := fun x y H Q => scal x y = true ∧ Q (.bl (!decide (x = y))) H
theorem dec_int {i j : Int} : decide (V.int i = V.int j) = (i == j) := by
  rw [Bool.eq_iff_iff]
  simp
theorem dec_bl {i j : Bool} : decide (V.bl i = V.bl j) = (i == j) := by
  rw [Bool.eq_iff_iff]
  simp
theorem dec_str {i j : Str} : decide (V.str i = V.str j) = (i == j) := by
  rw [Bool.eq_iff_iff]
  simp
theorem dec_byt {i j : Array UInt8} : decide (V.byt i = V.byt j) = (i.toList == j.toList) := by
  rw [Bool.eq_iff_iff]
  cases i
  cases j
  simp
section
variable {X : Cx} {a b c : Expr} {ta tb tc : TE} {pos : Pos}
theorem fin_bl {pins : List (Addr × Obj)} {σ : St} {H : Hp} {s : Shared} {Q : VK} {k k' : Bool} (I : Inv X pins σ H s) (q : Q (.bl k) H) (e : k = k') : EP X pins σ Q (.bool k') s := by
  subst e
  exact ⟨.bl k, H, I, rfl, q⟩
theorem op_eq : OpR X (compareOp .Eq) rEq := by
  intro pins s σ H x y v u Q I rx ry h
  obtain ⟨hs, q⟩ := h
  cases x with
  | non =>
    cases rx
    cases y with
    | non => cases ry; exact PySem.EqNone.eq_none_none (fin_bl I q (by simp))
    | bl j => cases ry; exact PySem.EqNone.eq_none_bool (fin_bl I q (by simp))
    | int j => obtain ⟨t', rfl⟩ := ry; exact PySem.EqNone.eq_none_int (fin_bl I q (by simp))
    | str j => obtain ⟨t', rfl⟩ := ry; exact PySem.EqNone.eq_none_str (fin_bl I q (by simp))
    | _ => exact absurd (show false = true from hs) Bool.false_ne_true
  | bl i =>
    cases rx
    cases y with
    | non => cases ry; exact PySem.EqNone.eq_bool_none (fin_bl I q (by simp))
    | bl j => cases ry; exact eq_bool (fin_bl I q dec_bl)
    | str j => obtain ⟨t', rfl⟩ := ry; exact PySem.EqMixed.eq_bool_str (fin_bl I q (by simp))
    | _ => exact absurd (show false = true from hs) Bool.false_ne_true
  | int i =>
    obtain ⟨t, rfl⟩ := rx
    cases y with
    | non => cases ry; exact PySem.EqNone.eq_int_none (fin_bl I q (by simp))
    | int j => obtain ⟨t', rfl⟩ := ry; exact eq_int (fin_bl I q dec_int)
    | str j => obtain ⟨t', rfl⟩ := ry; exact PySem.EqMixed.eq_int_str (fin_bl I q (by simp))
    | _ => exact absurd (show false = true from hs) Bool.false_ne_true
  | str i =>
    obtain ⟨t, rfl⟩ := rx
    cases y with
    | non => cases ry; exact PySem.EqNone.eq_str_none (fin_bl I q (by simp))
    | bl j => cases ry; exact PySem.EqMixed.eq_str_bool (fin_bl I q (by simp))
    | int j => obtain ⟨t', rfl⟩ := ry; exact PySem.EqMixed.eq_str_int (fin_bl I q (by simp))
    | str j => obtain ⟨t', rfl⟩ := ry; exact eq_str (fin_bl I q dec_str)
    | _ => exact absurd (show false = true from hs) Bool.false_ne_true
  | byt i =>
    obtain ⟨t, rfl⟩ := rx
    cases y with
    | byt j => obtain ⟨t', rfl⟩ := ry; exact PySem.W.eq_bytes (fin_bl I q dec_byt)
    | _ => exact absurd (show false = true from hs) Bool.false_ne_true
  | _ => cases y <;> exact absurd (show false = true from hs) Bool.false_ne_true
theorem op_ne : OpR X (compareOp .NotEq) rNe := by
  intro pins s σ H x y v u Q I rx ry h
  obtain ⟨hs, q⟩ := h
  cases x with
  | non =>
    cases rx
    cases y with
    | non => cases ry; exact PySem.EqNone.ne_none_none (fin_bl I q (by simp))
    | bl j => cases ry; exact PySem.EqNone.ne_none_bool (fin_bl I q (by simp))
    | int j => obtain ⟨t', rfl⟩ := ry; exact PySem.EqNone.ne_none_int (fin_bl I q (by simp))
    | str j => obtain ⟨t', rfl⟩ := ry; exact PySem.EqNone.ne_none_str (fin_bl I q (by simp))
    | _ => exact absurd (show false = true from hs) Bool.false_ne_true
  | bl i =>
    cases rx
    cases y with
    | non => cases ry; exact PySem.EqNone.ne_bool_none (fin_bl I q (by simp))
    | bl j => cases ry; exact ne_bool (fin_bl I q (congrArg not dec_bl))
    | str j => obtain ⟨t', rfl⟩ := ry; exact PySem.EqMixed.ne_bool_str (fin_bl I q (by simp))
    | _ => exact absurd (show false = true from hs) Bool.false_ne_true
  | int i =>
    obtain ⟨t, rfl⟩ := rx
    cases y with
    | non => cases ry; exact PySem.EqNone.ne_int_none (fin_bl I q (by simp))
    | int j => obtain ⟨t', rfl⟩ := ry; exact ne_int (fin_bl I q (congrArg not dec_int))
    | str j => obtain ⟨t', rfl⟩ := ry; exact PySem.EqMixed.ne_int_str (fin_bl I q (by simp))
    | _ => exact absurd (show false = true from hs) Bool.false_ne_true
  | str i =>
    obtain ⟨t, rfl⟩ := rx
    cases y with
    | non => cases ry; exact PySem.EqNone.ne_str_none (fin_bl I q (by simp))
    | bl j => cases ry; exact PySem.EqMixed.ne_str_bool (fin_bl I q (by simp))
    | int j => obtain ⟨t', rfl⟩ := ry; exact PySem.EqMixed.ne_str_int (fin_bl I q (by simp))
    | str j => obtain ⟨t', rfl⟩ := ry; exact ne_str (fin_bl I q (congrArg not dec_str))
    | _ => exact absurd (show false = true from hs) Bool.false_ne_true
  | byt i =>
    obtain ⟨t, rfl⟩ := rx
    cases y with
    | byt j => obtain ⟨t', rfl⟩ := ry; exact PySem.W.ne_bytes (fin_bl I q (congrArg not dec_byt))
    | _ => exact absurd (show false = true from hs) Bool.false_ne_true
  | _ => cases y <;> exact absurd (show false = true from hs) Bool.false_ne_true
theorem op_lt : OpR X (compareOp .Lt) (rI0 fun i j => .bl (decide (i < j))) := opB0 fun _ _ _ _ _ _ _ q => lt_int q
theorem op_le : OpR X (compareOp .LtE) (rI0 fun i j => .bl (decide (i ≤ j))) := opB0 fun _ _ _ _ _ _ _ q => le_int q
theorem op_gt : OpR X (compareOp .Gt) (rI0 fun i j => .bl (decide (j < i))) := opB0 fun _ _ _ _ _ _ _ q => gt_int q
theorem op_ge : OpR X (compareOp .GtE) (rI0 fun i j => .bl (decide (j ≤ i))) := opB0 fun _ _ _ _ _ _ _ q => ge_int q
theorem op_in_str : OpR X (compareOp .In) (fun x y H Q => ∃ i j, x = .str i ∧ y = .str j ∧ Q (.bl (!(Builtin.Str.occurrences j i 0 j.length 1).isEmpty)) H) := by
  intro pins s σ H x y v u Q I rx ry h
  obtain ⟨i, j, rfl, rfl, q⟩ := h
  obtain ⟨t, rfl⟩ := rx
  obtain ⟨t', rfl⟩ := ry
  exact in_str (fin_bl I q rfl)
theorem op_isN : OpR X (compareOp .Is) (fun x y H Q => y = .non ∧ Q (.bl (decide (x = .non))) H) := by
  intro pins s σ H x y v u Q I rx ry h
  obtain ⟨rfl, q⟩ := h
  cases ry
  refine is_none_gen (fin_bl I q ?_)
  cases x <;> first
    | (cases rx; rfl)
    | (obtain ⟨t, rfl⟩ := rx; rfl)
theorem op_notN : OpR X (compareOp .IsNot) (fun x y H Q => y = .non ∧ Q (.bl (!decide (x = .non))) H) := by
  intro pins s σ H x y v u Q I rx ry h
  obtain ⟨rfl, q⟩ := h
  cases ry
  refine isnot_none_gen (fin_bl I q ?_)
  cases x <;> first
    | (cases rx; rfl)
    | (obtain ⟨t, rfl⟩ := rx; rfl)
theorem nomark (b : Expr) {op : CmpOp} (h : op ≠ .In := by decide) (h2 : op ≠ .NotIn := by decide) : behindInMarks op b = false := by
  have e1 : (op == CmpOp.In) = false := by cases op <;> first | rfl | exact absurd rfl h
  have e2 : (op == CmpOp.NotIn) = false := by cases op <;> first | rfl | exact absurd rfl h2
  cases b <;> simp [behindInMarks, e1, e2]
theorem pe_cmpR {op : CmpOp} {r : R2} (ho : OpR X (compareOp op) r) (ha : PE X a ta) (hb : PE X b tb) (hm : behindInMarks op b = false) : PE X (.Compare a [op] [b] pos) (tOp r ta tb) := by
  refine ⟨?_⟩
  intro pins s σ H Q I h
  exact wpAny_Compare1 (binT ha hb I h fun v u s2 x y H2 I2 rx ry q => ho pins s2 σ H2 x y v u Q I2 rx ry q) hm
inductive tTestI (Q : Bool → Hp → Prop) (x : V) (H' : Hp) : Prop
  | mk (k : _) : x = .bl k → Q k H' → tTestI Q x H'
def tTest (t : TE) : TT := fun σ H Q => t σ H fun x H' => tTestI Q x H'
theorem pt_cmpR {op : CmpOp} {r : R2} (ho : OpR X (compareOp op) r) (ha : PE X a ta) (hb : PE X b tb) (hm : behindInMarks op b = false) : PT X (.Compare a [op] [b] pos) (tTest (tOp r ta tb)) := by
  refine ⟨?_⟩
  intro pins s σ H Q I h
  refine wpAny_isTrue_Compare1 (thn (ha pins s σ H _ I h) fun v s1 ⟨x, H1, I1, r1, q1⟩ => thn (hb pins s1 σ H1 _ I1 q1) fun u s2 ⟨y, H2, I2, r2, q2⟩ =>
    thn (ho pins s2 σ H2 x y v u _ I2 r1 r2 q2) fun c s3 ⟨z, H3, I3, r3, k, e, q3⟩ => ?_) hm
  subst e
  cases r3
  exact wpAny_truthy_bool ⟨H3, I3, q3⟩
inductive tChainI (r' : R2) (tc : TE) (σ : St) (Q : VK) (y : V) (z : V) (H3 : Hp) : Prop
  | mk (k : _) : z = .bl k → (if k = true then tc σ H3 fun w' H4 => r' y w' H4 Q else Q (.bl false) H3) → tChainI r' tc σ Q y z H3
def tChain (r r' : R2) (ta tb tc : TE) : TE := fun σ H Q => ta σ H fun x H1 => tb σ H1 fun y H2 => r x y H2 fun z H3 => tChainI r' tc σ Q y z H3
theorem pe_chain {op op' : CmpOp} {r r' : R2} (ho : OpR X (compareOp op) r) (ho' : OpR X (compareOp op') r') (ha : PE X a ta) (hb : PE X b tb) (hc : PE X c tc)
    (hm : lastMarks [op, op'] [b, c] = false := by with_unfolding_all rfl) : PE X (.Compare a [op, op'] [b, c] pos) (tChain r r' ta tb tc) := by
  refine ⟨?_⟩
  intro pins s σ H Q I h
  refine Compare_chain (thn (ha pins s σ H _ I h) fun v s1 ⟨x, H1, I1, r1, q1⟩ => chain_link (thn (hb pins s1 σ H1 _ I1 q1) fun u s2 ⟨y, H2, I2, r2, q2⟩ =>
    thn (ho pins s2 σ H2 x y v u _ I2 r1 r2 q2) fun d s3 ⟨z, H3, I3, r3, k, e, q3⟩ => ?_)) hm
  subst e
  cases r3
  refine wpAny_truthy_bool ?_
  cases k with
  | false => exact ite_ff ⟨.bl false, H3, I3, rfl, q3⟩
  | true => exact ite_tt (chain_last (thn (hc pins s3 σ H3 _ I3 q3) fun w' s4 ⟨z', H4, I4, r4, q4⟩ => ho' pins s4 σ H4 y z' u w' Q I4 r2 r4 q4))
theorem line63 : (sizeLine : Nat) < 2 ^ 63 := by rw [sizeLine_eq]; decide
theorem vals1 {x : V} {us : List Value} (r : Vals [x] us) : ∃ u, us = [u] ∧ RelV x u := by
  cases r with
  | cons r1 r2 => cases r2; exact ⟨_, rfl, r1⟩
theorem vals2 {x y : V} {us : List Value} (r : Vals [x, y] us) : ∃ u w', us = [u, w'] ∧ RelV x u ∧ RelV y w' := by
  cases r with
  | cons r1 r2 =>
    cases r2 with
    | cons r3 r4 => cases r4; exact ⟨_, _, rfl, r1, r3⟩
theorem call_max2 (hc : X.calm = true) : CallR X (.builtin "max") (fun xs H Q => ∃ i j, xs = [.int i, .int j] ∧ Q (.int (if j > i then j else i)) H) := by
  intro pins s σ H xs us Q I r h
  obtain ⟨i, j, rfl, q⟩ := h
  obtain ⟨u, w', rfl, ⟨t, rfl⟩, ⟨t', rfl⟩⟩ := vals2 r
  refine max_two_ints (I.ok.hd hc) fun h' tk k => ⟨_, H, I.kept k, ?_, q⟩
  by_cases hj : j > i
  · rw [if_pos hj, if_pos hj]; exact ⟨_, rfl⟩
  · rw [if_neg hj, if_neg hj]; exact ⟨_, rfl⟩
theorem call_min2 (hc : X.calm = true) : CallR X (.builtin "min") (fun xs H Q => ∃ i j, xs = [.int i, .int j] ∧ Q (.int (if j < i then j else i)) H) := by
  intro pins s σ H xs us Q I r h
  obtain ⟨i, j, rfl, q⟩ := h
  obtain ⟨u, w', rfl, ⟨t, rfl⟩, ⟨t', rfl⟩⟩ := vals2 r
  refine min_two_ints (I.ok.hd hc) fun h' tk k => ⟨_, H, I.kept k, ?_, q⟩
  by_cases hj : j < i
  · rw [if_pos hj, if_pos hj]; exact ⟨_, rfl⟩
  · rw [if_neg hj, if_neg hj]; exact ⟨_, rfl⟩
theorem call_int1 : CallR X (.type "int") (fun xs H Q => (∃ i, xs = [.int i] ∧ Q (.int i) H) ∨ ∃ k, xs = [.bl k] ∧ Q (.int (if k then 1 else 0)) H) := by
  intro pins s σ H xs us Q I r h
  rcases h with ⟨i, rfl, q⟩ | ⟨k, rfl, q⟩
  · obtain ⟨u, rfl, t, rfl⟩ := vals1 r
    exact call_int_int ⟨.int i, H, I, ⟨_, rfl⟩, q⟩
  · obtain ⟨u, rfl, r1⟩ := vals1 r
    cases r1
    exact call_int_bool ⟨.int (if k then 1 else 0), H, I.tok _, ⟨_, rfl⟩, q⟩
end
end L2
namespace L2
open PySem PySem.Spec PyProof.Rows
structure ObjM (h : Heap) (x dx C : Addr) (mA : Str → Option Value) : Prop where
  obj : h.get? x = some (PySem.W.instObj C dx)
  ns : h.Ns1 dx mA
  ne : dx ≠ x
theorem lookIn_ns {h : Heap} {dx : Addr} {mA : Str → Option Value} (n : h.Ns1 dx mA) : ∃ od, h.get? dx = some od ∧ ∀ name, PySem.W.lookIn name od = some (mA name) := by
  obtain ⟨o, es, ep, ho, hd, hk, _, hm⟩ := n
  refine ⟨o, ho, fun name => ?_⟩
  have e := hm name
  unfold nsFind findBy at e
  rw [← Array.find?_toList] at e
  unfold PySem.W.lookIn
  rw [hd]
  dsimp only
  split
  · rename_i y q
    rw [q] at e
    exact congrArg some e
  · rename_i q
    rw [q] at e
    have a : es.toList.any (·.refKey) = false := by
      rw [List.any_eq_false]
      intro y hy
      obtain ⟨z, t, hkey⟩ := hk y (Array.mem_toList_iff.mp hy)
      simp [DictEntry.refKey, hkey]
    have a' : ¬ es.toList.any (·.refKey) = true := by rw [a]; exact Bool.false_ne_true
    rw [if_neg a']
    exact congrArg some e
theorem ObjM.look {h : Heap} {x dx C : Addr} {mA : Str → Option Value} (I : ObjM h x dx C mA) : ∃ od, PySem.W.InstAt h x (PySem.W.instObj C dx) C (some od) ∧ ∀ name, PySem.W.lookIn name od = some (mA name) :=
  let ⟨od, ho, hl⟩ := lookIn_ns I.ns
  ⟨od, ⟨I.obj, rfl, rfl, ho⟩, hl⟩
section
variable {prog : Program} {w : World} {A : Around} {E : Value → Shared → Prop} {s : Shared} {K : PySem.W.Frag} {x dx C f : Addr} {mA : Str → Option Value} {name : Str} {v : Value}
theorem set_map {ns : List Str} {Q : Unit → Shared → Prop} (X : K.In s.heap) (I : ObjM s.heap x dx C mA)
    (hs : PySem.W.findIn K (.ref C) "__setattr__" = some (some (.builtin "object.__setattr__"))) (hp : PySem.W.plainOver K C = true) (ht : PySem.W.takerIn K C name = some none) (hh : PySem.W.hasDictIn K C = true)
    (hw : PySem.Within mA ns) (hsz : ns.length ≤ sizeLine)
    (h : ∀ h', ObjM h' x dx C (fun y => if y = name then some v else mA y) → Heap.SameBut dx s.heap h' → Q () { s with heap := h', toks := s.toks + 2 }) :
    wpAny (model prog w) A (setAttr (.ref x) name v) Q E s := by
  obtain ⟨od, J, hl⟩ := I.look
  refine PySem.W.set_plain X J hs (PySem.W.osa_open (s := { s with toks := s.toks + 1 }) (r := none) X J hp ht fun b => ?_)
  obtain ⟨cd, hc, hd'⟩ := PySem.W.any_some hh
  have hx : s.heap.get? x = some ⟨.ref C, some dx, .plain, #[]⟩ := I.obj
  refine wpAny_bind (wpAny_pure (wpAny_bind (wpAny_bind (wpAny_loadPart hx (wpAny_bind (PySem.W.Looks.here (s := { s with toks := s.toks + 1 }) (PySem.W.looks_clsIn X hc) ?_))))))
  rw [hd']
  refine wpAny_pure (a := some dx) (wpAny_bind (wpAny_pure (wpAny_bind ?_)))
  refine wpAny_nsSet1 (s := { s with toks := s.toks + 1 }) I.ns fun h' hn2 hs2 => ?_
  obtain ⟨oD, esD, epD, hoD, hdD, hcD⟩ := hn2.count (PySem.Within.cons name v hw)
  refine wpAny_bind (wpAny_lookBehind hoD (by rw [hdD]; exact pastItsLine_dict (Nat.le_trans hcD (by rw [List.length_cons]; lia))) ?_)
  exact wpAny_pure (h _ ⟨(hs2.2 _ (Ne.symm I.ne)).trans I.obj, hn2, I.ne⟩ hs2)
theorem make_map {R : Result → Shared → Prop} {vs : List Value} {kw : List (Str × Value)} (X : K.In s.heap) (hm : PySem.W.makesIn K C = true)
    (hi : PySem.W.findIn K (.ref C) "__init__" = some (some (.ref f))) (hf : PySem.W.typeIn K (.ref f) = some (.type "function"))
    (h : codeAny (model prog w) (A.under (.builtin "type.__call__" ⟨.ref C :: vs, kw⟩)) (.call (.ref f) ⟨.ref (s.heap.objs.size + 1) :: vs, kw⟩) (PySem.W.InitBack (s.heap.objs.size + 1) R)
      { s with heap := (s.heap.push PySem.W.emptyDict).push (PySem.W.instObj C s.heap.objs.size) }) :
    codeAny (model prog w) A (.call (.ref C) ⟨vs, kw⟩) R s := by
  obtain ⟨hh, g, d, t, os⟩ := s
  exact PySem.W.make_core (PySem.W.makes_of X hm) (PySem.W.looks_findIn X hi) (fun self => PySem.W.bind_fn X self hf) (.inl rfl) h
end
def putF (f : Str) (v : V) : List (Str × V) → List (Str × V)
  | [] => [(f, v)]
  | (g, x) :: r => if g = f then (g, v) :: r else (g, x) :: putF f v r
theorem lookup_putF (f g : Str) (v : V) : ∀ fs : List (Str × V), (putF f v fs).lookup g = if g = f then some v else fs.lookup g
  | [] => by
    show List.lookup g [(f, v)] = _
    by_cases h : g = f
    · have hb : (g == f) = true := beq_iff_eq.mpr h
      simp only [List.lookup, hb, if_pos h]
    · have hb : (g == f) = false := beq_eq_false_iff_ne.mpr h
      simp only [List.lookup, hb, if_neg h]
  | (k, x) :: r => by
    have ih := lookup_putF f g v r
    rw [show putF f v ((k, x) :: r) = (if k = f then (k, v) :: r else (k, x) :: putF f v r) from rfl]
    by_cases hk : k = f
    · rw [if_pos hk]
      by_cases h : g = k
      · have hb : (g == k) = true := beq_iff_eq.mpr h
        simp only [List.lookup, hb, if_pos (h.trans hk)]
      · have hb : (g == k) = false := beq_eq_false_iff_ne.mpr h
        simp only [List.lookup, hb, if_neg (fun e : g = f => h (e.trans hk.symm))]
    · rw [if_neg hk]
      by_cases h : g = k
      · have hb : (g == k) = true := beq_iff_eq.mpr h
        simp only [List.lookup, hb, if_neg (fun e : g = f => hk (h.symm.trans e))]
      · have hb : (g == k) = false := beq_eq_false_iff_ne.mpr h
        simp only [List.lookup, hb]
        exact ih
theorem keys_putF (f : Str) (v : V) : ∀ fs : List (Str × V), f ∈ (putF f v fs).map (·.1) ∧ ∀ g, g ∈ fs.map (·.1) → g ∈ (putF f v fs).map (·.1)
  | [] => ⟨by simp [putF], fun g h => by simp at h⟩
  | (k, x) :: r => by
    obtain ⟨i1, i2⟩ := keys_putF f v r
    rw [show putF f v ((k, x) :: r) = (if k = f then (k, v) :: r else (k, x) :: putF f v r) from rfl]
    by_cases hk : k = f
    · rw [if_pos hk]
      subst hk
      exact ⟨by simp, fun g h => by simpa using h⟩
    · rw [if_neg hk]
      refine ⟨?_, fun g h => ?_⟩
      · rw [List.map_cons]
        exact List.mem_cons_of_mem _ i1
      · rw [List.map_cons] at h ⊢
        rcases List.mem_cons.mp h with e | e
        · exact List.mem_cons.mpr (.inl e)
        · exact List.mem_cons_of_mem _ (i2 g e)
theorem length_putF (f : Str) (v : V) : ∀ fs : List (Str × V), (putF f v fs).length ≤ fs.length + 1
  | [] => by simp [putF]
  | (k, x) :: r => by
    have ih := length_putF f v r
    rw [show putF f v ((k, x) :: r) = (if k = f then (k, v) :: r else (k, x) :: putF f v r) from rfl]
    by_cases hk : k = f
    · rw [if_pos hk, List.length_cons, List.length_cons]; lia
    · rw [if_neg hk, List.length_cons, List.length_cons]; lia
theorem RelO.some_of {v : V} {o : Option Value} (r : RelO (some v) o) : ∃ u, o = some u ∧ RelV v u := by
  cases o with
  | none => exact (show False from r).elim
  | some u => exact ⟨u, rfl, r⟩
theorem handed_of {v : V} {u : Value} (r : RelV v u) : PySem.W.handedIn u = true := by
  cases v with
  | non => cases (show u = Value.none from r); rfl
  | bl b => cases (show u = Value.bool b from r); rfl
  | int i => obtain ⟨t, e⟩ := (show ∃ t, u = Value.int i t from r); cases e; rfl
  | str x => obtain ⟨t, e⟩ := (show ∃ t, u = Value.str x t from r); cases e; rfl
  | byt b => obtain ⟨t, e⟩ := (show ∃ t, u = Value.bytes b t from r); cases e; rfl
  | flt b => obtain ⟨t, e⟩ := (show ∃ t, u = Value.float b t from r); cases e; rfl
  | ref a => cases (show u = Value.ref a from r); rfl
  | ty n => cases (show u = Value.type n from r); rfl
section
variable {P : Program} {w : World} {H H' : Hp} {h h' : Heap} {a C dx : Addr} {fs fs' : List (Str × V)}
theorem ins_get (hok : HOk P w H h) (e : H a = some (.ins C dx fs)) : ∃ mA, ObjM h a dx C mA ∧ (∀ f, RelO (fs.lookup f) (mA f)) ∧ PySem.Within mA (fs.map (·.1)) ∧ fs.length ≤ 1000 ∧ H dx = some (.own a) := by
  obtain ⟨d, z, ne, ob, mA, n, r, q⟩ := (show ObjOk P w H h a (.ins C dx fs) from hok a _ e)
  exact ⟨mA, ⟨ob, n, ne⟩, r, q, z, d⟩
end
structure Cls (K : PySem.W.Frag) (C : Addr) : Prop where
  pg : PySem.W.plainGet K C Str.empty = true
  hd : PySem.W.hasDictIn K C = true
  po : PySem.W.plainOver K C = true
  sa : PySem.W.findIn K (.ref C) "__setattr__" = some (some (.builtin "object.__setattr__"))
theorem Cls.get {K : PySem.W.Frag} {C : Addr} (c : Cls K C) (f : Str) : PySem.W.plainGet K C f = true := c.pg
def NoAttr (K : PySem.W.Frag) (C : Addr) (f : Str) : Prop := PySem.W.findIn K (.ref C) f = some none
theorem NoAttr.taker {K : PySem.W.Frag} {C : Addr} {f : Str} (n : NoAttr K C f) : PySem.W.takerIn K C f = some none := by
  unfold PySem.W.takerIn
  rw [show PySem.W.findIn K (.ref C) f = some none from n]
  rfl
section
variable {X : Cx} {pins : List (Addr × Obj)} {σ : St} {H : Hp} {s : Shared} {a C dx : Addr} {fs : List (Str × V)} {f : Str} {v : V} {A : Around} {E : Value → Shared → Prop}
theorem setattr_ok {y : V} {u : Value} {Q : Unit → Shared → Prop} (I : Inv X pins σ H s) (e : H a = some (.ins C dx fs)) (c : Cls X.K C) (n : NoAttr X.K C f) (hl : fs.length < 1000) (ry : RelV y u)
    (h : ∀ s', Inv X pins σ (upd H a (.ins C dx (putF f y fs))) s' → Q () s') : wpAny (model X.prog X.w) A (setAttr (.ref a) f u) Q E s := by
  obtain ⟨mA, O, r, wi, _, ho⟩ := ins_get I.hok e
  have hz : (fs.map (·.1)).length ≤ sizeLine := by rw [List.length_map, sizeLine_eq]; lia
  refine set_map I.kIn O c.sa c.po n.taker c.hd wi hz fun h' O' sb => h _ ?_
  have hd : ∃ o, h'.get? dx = some o := let ⟨o, _, _, e', _⟩ := O'.ns; ⟨o, e'⟩
  refine I.write (x := a) (e := dx) (by rw [e]; exact True.intro) (.inr ho) (fun b q hb z => (sb.2 b hb).trans z) hd ?_
  refine ⟨by rw [upd_ne O.ne]; exact ho, ?_, O.ne, O'.obj, _, O'.ns, fun g => ?_, fun g hg => ?_⟩
  · have := length_putF f y fs; lia
  · show RelO ((putF f y fs).lookup g) (if g = f then some u else mA g)
    rw [lookup_putF]
    by_cases q : g = f
    · rw [if_pos q, if_pos q]; exact ry
    · rw [if_neg q, if_neg q]; exact r g
  · by_cases q : g = f
    · rw [q]; exact (keys_putF f y fs).1
    · refine (keys_putF f y fs).2 g (wi g fun z => hg ?_)
      show (if g = f then some u else mA g) = none
      rw [if_neg q]; exact z
theorem Inv.made (I : Inv X pins σ H s) : Inv X pins σ (upd (upd H s.heap.objs.size (.own (s.heap.objs.size + 1))) (s.heap.objs.size + 1) (.ins C s.heap.objs.size []))
    { s with heap := (s.heap.push PySem.W.emptyDict).push (PySem.W.instObj C s.heap.objs.size) } := by
  have e1 : (s.heap.push PySem.W.emptyDict).get? s.heap.objs.size = some PySem.W.emptyDict := Heap.get?_push_size s.heap rfl
  have e2 : ((s.heap.push PySem.W.emptyDict).push (PySem.W.instObj C s.heap.objs.size)).get? (s.heap.objs.size + 1) = some (PySem.W.instObj C s.heap.objs.size) := by
    have := Heap.get?_push_size (s.heap.push PySem.W.emptyDict) (o := PySem.W.instObj C s.heap.objs.size) rfl
    rwa [Heap.size_push] at this
  have e3 : (s.heap.push PySem.W.emptyDict).Ns s.heap.objs.size (fun _ => none) := ⟨PySem.W.emptyDict, #[], _, e1, rfl, (fun e he => absurd he (by simp)), fun _ => rfl⟩
  have I1 := I.laid (a := s.heap.objs.size) (o := .own (s.heap.objs.size + 1)) (h' := s.heap.push PySem.W.emptyDict) (t' := s.toks) (fun b u q => Heap.get?_push_of_some _ q) (Nat.le_refl _) ⟨_, e1⟩
  refine I1.laid (a := s.heap.objs.size + 1) (o := .ins C s.heap.objs.size []) (t' := s.toks) (fun b u q => Heap.get?_push_of_some _ q) (Nat.le_of_eq (Heap.size_push _ _)) ?_
  have ne : s.heap.objs.size ≠ s.heap.objs.size + 1 := Nat.ne_of_lt (Nat.lt_succ_self _)
  refine ⟨by rw [upd_ne ne, upd_same], Nat.zero_le _, ne, e2, fun _ => none, (Heap.Ns1.of_empty e3).at fun o q => Heap.get?_push_of_some _ q, fun _ => True.intro, fun y hy => absurd rfl hy⟩
theorem attr_of {prog : Program} {w : World} {env : Env} {e : Expr} {f : Str} {pos : Pos} {s : Shared} {Q : Value → Shared → Prop} (hb : attributeBase e f env (eval e env) = eval e env)
    (h : wpAny (model prog w) A (eval e env) (fun o s₁ => wpAny (model prog w) A (getAttr o f true) Q E s₁) E s) : wpAny (model prog w) A (eval (.Attribute e f pos) env) Q E s :=
  Attribute_any_ h (by rw [arm_eval_Attribute, hb])
end
inductive sFldI (K : PySem.W.Frag) (f : Str) (D : Ends) (σ : St) (y : V) (x : V) (H2 : Hp) : Prop
  | mk (a C dx fs : _) : x = .ref a → H2 a = some (.ins C dx fs) → Cls K C → NoAttr K C f → fs.length < 1000 → D.nx σ (upd H2 a (.ins C dx (putF f y fs))) → sFldI K f D σ y x H2
def sFld (K : PySem.W.Frag) (ta tv : TE) (f : Str) : TS := fun D σ H => tv σ H fun y H1 => ta σ H1 fun x H2 => sFldI K f D σ y x H2
section
variable {X : Cx} {o e value : Expr} {f : Str} {pos pos' tpos : Pos} {ta tv : TE}
theorem ps_fld (ha : PE X o ta) (hv : PE X value tv) (hs : swapsWith value (some (.Attribute o f pos')) pos.line X.env = pure false) : PS X (.Assign [.Attribute o f pos'] value pos) (sFld X.K ta tv f) := by
  refine ⟨?_⟩
  intro pins s σ H D I h
  refine plainObj_wpAny_Assign_Attribute (thn (hv pins s σ H _ I h) fun u s1 ⟨y, H1, I1, ry, q⟩ => thn (ha pins s1 σ H1 _ I1 q) fun ov s2 ⟨x, H2, I2, rx, a, C, dx, fs, ex, ea, c, n, l, q2⟩ => ?_) hs
  subst ex
  obtain rfl : ov = Value.ref a := rx
  exact setattr_ok I2 ea c n l ry fun s3 I3 => ⟨σ, _, I3, q2⟩
end
section
variable {X : Cx} {pins : List (Addr × Obj)} {σ : St} {H : Hp} {s : Shared} {A : Around} {E : Value → Shared → Prop} {Q : Value → Shared → Prop} {c : Value} {b : Bool}
inductive TyOf (K : PySem.W.Frag) (H : Hp) : V → Value → Prop where
  | non : TyOf K H .non (.type "NoneType")
  | bl (x : Bool) : TyOf K H (.bl x) (.type "bool")
  | int (i : Int) : TyOf K H (.int i) (.type "int")
  | str (x : Str) : TyOf K H (.str x) (.type "str")
  | flt (x : UInt64) : TyOf K H (.flt x) (.type "float")
  | lst {a : Addr} {xs : List V} (e : H a = some (.lst xs)) : TyOf K H (.ref a) (.type "list")
  | frz {a : Addr} {o : Obj} {xs : List V} (e : H a = some (.frz o (.lst xs))) : TyOf K H (.ref a) (.type "list")
  | tup {a : Addr} {xs : List V} (e : H a = some (.tup xs)) : TyOf K H (.ref a) (.type "tuple")
  | dK {a : Addr} {kvs : List (Key × V)} (e : H a = some (.dK kvs)) : TyOf K H (.ref a) (.type "dict")
  | dT {a : Addr} {kvs : List (List Key × V)} (e : H a = some (.dT kvs)) : TyOf K H (.ref a) (.type "dict")
  | ins {a C dx : Addr} {fs : List (Str × V)} (e : H a = some (.ins C dx fs)) (cl : Cls K C) (ha : PySem.W.findIn K (.ref C) "__class__" = some (some (.builtin "object.__class__")))
      (hn : PySem.W.specialIn K (.builtin "object.__class__") "__get__" = some (some (.builtin "getset_descriptor.__get__"))) (htk : PySem.W.takesIn K (.builtin "object.__class__") = some true)
      (hm : PySem.W.mroIn K C (.type "object") = some true) : TyOf K H (.ref a) (.ref C)
theorem isinst_ok {x : V} {u t : Value} (I : Inv X pins σ H s) (rx : RelV x u) (ty : TyOf X.K H x t) (e : PySem.W.kitOne X.K t c = some b) (h : ∀ tk, Q (.bool b) { s with toks := tk }) :
    wpAny (model X.prog X.w) A (call (.builtin "isinstance") [u, c]) Q E s := by
  cases ty with
  | non => cases (show u = Value.none from rx); exact PySem.W.kia_one PySem.W.kitx_none I.kIn True.intro e (fun z => nomatch z) h
  | bl y => cases (show u = Value.bool y from rx); exact PySem.W.kia_one PySem.W.kitx_bool I.kIn True.intro e (fun z => nomatch z) h
  | int i => obtain ⟨t, q⟩ := (show ∃ t, u = Value.int i t from rx); cases q; exact PySem.W.kia_one PySem.W.kitx_int I.kIn True.intro e (fun z => nomatch z) h
  | str y => obtain ⟨t, q⟩ := (show ∃ t, u = Value.str y t from rx); cases q; exact PySem.W.kia_one PySem.W.kitx_str I.kIn True.intro e (fun z => nomatch z) h
  | flt y => obtain ⟨t, q⟩ := (show ∃ t, u = Value.float y t from rx); cases q; exact PySem.W.kia_one PySem.W.kitx_float I.kIn True.intro e (fun z => nomatch z) h
  | @lst a xs ea =>
    cases (show u = Value.ref a from rx)
    obtain ⟨_, _, n, _, h1⟩ := (show ObjOk X.prog X.w H s.heap a (.lst xs) from I.hok a _ ea)
    exact PySem.W.kia_one PySem.W.kitx_list I.kIn ⟨_, h1, rfl⟩ e (fun z => nomatch z) h
  | @frz a ob xs ea =>
    cases (show u = Value.ref a from rx)
    obtain ⟨_, _, _, n, _, h1⟩ := (show ObjOk X.prog X.w H s.heap a (.frz ob (.lst xs)) from I.hok a _ ea)
    exact PySem.W.kia_one PySem.W.kitx_list I.kIn ⟨_, h1, rfl⟩ e (fun z => nomatch z) h
  | @tup a xs ea =>
    cases (show u = Value.ref a from rx)
    obtain ⟨_, _, _, p⟩ := (show ObjOk X.prog X.w H s.heap a (.tup xs) from I.hok a _ ea)
    obtain ⟨o, h1, h2, _⟩ := p
    exact PySem.W.kia_one PySem.W.kitx_tuple I.kIn ⟨o, h1, (Prod.mk.inj h2).1⟩ e (fun z => nomatch z) h
  | @dK a kvs ea =>
    cases (show u = Value.ref a from rx)
    obtain ⟨_, _, vs, _, p⟩ := (show ObjOk X.prog X.w H s.heap a (.dK kvs) from I.hok a _ ea)
    obtain ⟨o, es, ep, h1, h2, _⟩ := p
    exact PySem.W.kia_one PySem.W.kitx_dict I.kIn ⟨o, h1, h2.1⟩ e (fun z => nomatch z) h
  | @dT a kvs ea =>
    cases (show u = Value.ref a from rx)
    obtain ⟨_, _, xs, _, o, es, ep, h1, h2, _⟩ := (show ObjOk X.prog X.w H s.heap a (.dT kvs) from I.hok a _ ea)
    exact PySem.W.kia_one PySem.W.kitx_dict I.kIn ⟨o, h1, h2.1⟩ e (fun z => nomatch z) h
  | @ins a C dx fs ea cl ha hn htk hm =>
    cases (show u = Value.ref a from rx)
    obtain ⟨mA, O, _⟩ := ins_get I.hok ea
    obtain ⟨od, J, _⟩ := O.look
    exact PySem.W.kia_one (PySem.W.kitx_own (cl.get _) cl.hd ha hn htk hm) I.kIn J e (fun z => nomatch z) h
end
end L2
namespace L2
open PySem PySem.Spec PyProof.Rows
structure Room (k : Nat) (A : Around) : Prop where
  hd : A.handled = none
  dp : A.depth + 3 * k + 5 < recursionLimit
  un : A.units + 16 * k + 200 < cLine
theorem Room.mono {j k : Nat} {A : Around} (r : Room k A) (h : j ≤ k) : Room j A := ⟨r.hd, by have := r.dp; lia, by have := r.un; lia⟩
theorem Room.deeper {k : Nat} {A : Around} (r : Room (k + 1) A) (env : Env) : Room k (A.deeper env) :=
  ⟨r.hd, by have := r.dp; show A.depth + 1 + 3 * k + 5 < _; lia, by have := r.un; show A.units + 3 + 16 * k + 200 < _; lia⟩
theorem make_depth {A : Around} {C : Addr} {us : List Value} {kw : List (Str × Value)} : (A.under (.builtin "type.__call__" ⟨.ref C :: us, kw⟩)).depth = A.depth + 1 := by
  first | rfl | simp [Around.under, Code.weight, Code.isCreation, Code.isGuard, Code.isCaller, Code.frames, Code.isFrame, guardIds]
theorem make_units {A : Around} {C : Addr} {us : List Value} {kw : List (Str × Value)} : (A.under (.builtin "type.__call__" ⟨.ref C :: us, kw⟩)).units = A.units + 1 := by
  first | rfl | simp [Around.under, Code.cUnits, Code.frames, Code.isFrame]
theorem Room.make {k : Nat} {A : Around} (r : Room (k + 1) A) (C : Addr) (us : List Value) (kw : List (Str × Value)) : Room k (A.under (.builtin "type.__call__" ⟨.ref C :: us, kw⟩)) :=
  ⟨r.hd, by have := r.dp; rw [make_depth]; lia, by have := r.un; rw [make_units]; lia⟩
theorem Room.depth {k : Nat} {A : Around} (r : Room k A) : A.depth < recursionLimit := by have := r.dp; lia
theorem Room.units {k : Nat} {A : Around} (r : Room k A) : A.units + 64 < cLine := by have := r.un; lia
def tNil : TA := fun _ H Q => Q [] H
def tCons (ta : TE) (tr : TA) : TA := fun σ H Q => ta σ H fun x H1 => tr σ H1 fun xs H2 => Q (x :: xs) H2
section
variable {X : Cx} {e : Expr} {es : List Expr} {te : TE} {t : TA} {pos : Pos}
theorem pa_nil : PA X [] tNil := ⟨fun _ _ _ _ H Q I h => Calls.spliced_nil ⟨[], H, I, .nil, h⟩⟩
theorem pa_cons (ha : PE X e te) (hr : PA X es t) (hs : starEach (e :: es) X.env = (false, eval e X.env) :: starEach es X.env := by rfl) : PA X (e :: es) (tCons te t) := by
  refine ⟨?_⟩
  intro pos pins s σ H Q I h
  rw [hs]
  show wpAny _ _ (spliced ((false, eval e X.env) :: backTo pos (starEach es X.env))) _ _ s
  refine Calls.spliced_cons (thn (ha pins s σ H _ I h) fun u s1 ⟨x, H1, I1, r1, q1⟩ => ?_)
  exact thn (hr pos pins s1 σ H1 _ I1 q1) fun us s2 ⟨xs, H2, I2, r2, q2⟩ => ⟨x :: xs, H2, I2, .cons r1 r2, q2⟩
def tTup (t : TA) : TE := fun σ H Q => t σ H fun xs H1 => xs.length ≤ sizeLine ∧ ∀ p, H1 p = none → Q (.ref p) (upd H1 p (.tup xs))
def tLst (t : TA) : TE := fun σ H Q => t σ H fun xs H1 => xs.length ≤ sizeLine ∧ ∀ p, H1 p = none → Q (.ref p) (upd H1 p (.lst xs))
theorem pe_tup {x1} (h : PA X es t) : PE X (.Tuple es x1 pos) (tTup t) := by
  refine ⟨?_⟩
  intro pins s σ H Q I hq
  refine wpAny_Tuple_spliced (thn (h pos pins s σ H _ I hq) fun us s1 ⟨xs, H1, I1, r, z, q⟩ => ⟨by rw [← r.length]; exact z, ?_⟩)
  have hf : H1 s1.heap.objs.size = none := I1.hok.fresh (Nat.le_refl _)
  refine ⟨.ref s1.heap.objs.size, upd H1 s1.heap.objs.size (.tup xs), I1.laid (t' := s1.toks) (fun b u e => Heap.get?_push_of_some _ e) (Nat.le_refl _) ?_, rfl, q _ hf⟩
  exact ⟨z, us, r, ⟨_, Heap.get?_push_size _ rfl, rfl, _, rfl⟩⟩
theorem pe_lst (h : PA X es t) : PE X (.List es pos) (tLst t) := by
  refine ⟨?_⟩
  intro pins s σ H Q I hq
  refine wpAny_List_spliced (thn (h pos pins s σ H _ I hq) fun us s1 ⟨xs, H1, I1, r, z, q⟩ => ⟨by rw [← r.length]; exact z, ?_⟩)
  have hf : H1 s1.heap.objs.size = none := I1.hok.fresh (Nat.le_refl _)
  refine ⟨.ref s1.heap.objs.size, upd H1 s1.heap.objs.size (.lst xs), I1.laid (t' := s1.toks) (fun b u e => Heap.get?_push_of_some _ e) (Nat.le_refl _) ?_, rfl, q _ hf⟩
  exact ⟨z, us, 0, r, Heap.get?_push_size _ rfl⟩
end
abbrev Sp := List V → Hp → VK → XK → Prop
abbrev CXT := List Env → Hp → Shared → XK → Value → Shared → Prop
structure Env0 (P : Program) (w : World) (K : PySem.W.Frag) (mg : Str → Option Value) (base : Heap) (A : Around) (outer : List Env) (s : Shared) (H : Hp) : Prop where
  frames : A.frames = some outer
  mod : Mod K mg base
  bs : ∀ b o, base.get? b = some o → s.heap.get? b = some o ∧ H b = none
  bsz : base.objs.size ≤ s.heap.objs.size
  funs : s.heap.FunFrames base outer
  frf : ∀ b ∈ frs outer, H b = none
  hok : HOk P w H s.heap
  bare : AllBare s.gens
inductive CE (outer : List Env) (P : Program) (w : World) (H : Hp) (s : Shared) (Q : VK) (u : Value) (s' : Shared) : Prop
  | mk (v H' : _) : s'.os = s.os → AllBare s'.gens → Un (frs outer) [] H H' s.heap s'.heap → HOk P w H' s'.heap → RelV v u → Q v H' → CE outer P w H s Q u s'
def CR (CX : CXT) (outer : List Env) (P : Program) (w : World) (H : Hp) (s : Shared) (Q : VK) (E : XK) (r : Result) (s' : Shared) : Prop :=
  match r with
  | .ok (.ret u) => CE outer P w H s Q u s'
  | .ok _ => False
  | .error e => CX outer H s E e s'
structure FnOk (P : Program) (w : World) (K : PySem.W.Frag) (mg : Str → Option Value) (base : Heap) (CX : CXT) (k : Nat) (f : Addr) (fd : FuncData) (ps : List Str) (sp : Sp) : Prop where
  len : ∀ vs H Q E, sp vs H Q E → vs.length = ps.length
  run : ∀ (A : Around) (outer : List Env) (s : Shared) (H : Hp) (args : Args) (us : List Value) (vs : List V) (Q : VK) (E : XK), Room k A → Env0 P w K mg base A outer s H → BindsTo s fd args (ps.zip us) → Vals vs us → sp vs H Q E →
    codeAny (model P w) A (.call (.ref f) args) (CR CX outer P w H s Q E) s
theorem Env0.make {P : Program} {w : World} {K : PySem.W.Frag} {mg : Str → Option Value} {base : Heap} {A : Around} {outer : List Env} {s : Shared} {H : Hp} (e : Env0 P w K mg base A outer s H) (C : Addr) (us : List Value) (kw : List (Str × Value)) :
    Env0 P w K mg base (A.under (.builtin "type.__call__" ⟨.ref C :: us, kw⟩)) outer s H := ⟨by first | exact e.frames | (simpa [Around.under, Code.envs, Code.isFrame, pushEnvs] using e.frames), e.mod, e.bs, e.bsz, e.funs, e.frf, e.hok, e.bare⟩
section
variable {X : Cx} {pins : List (Addr × Obj)} {σ : St} {H : Hp} {s s' : Shared}
theorem Inv.env0 (I : Inv X pins σ H s) : Env0 X.prog X.w X.K X.mg X.base X.A X.stack s H :=
  ⟨I.ok.frames, I.ok.mod, I.bs, Nat.le_trans I.ok.bsz I.sz, I.stack, I.stkFree, I.hok, I.bare⟩
theorem Inv.after {Q : VK} {u : Value} (I : Inv X pins σ H s) (h : CE X.stack X.prog X.w H s Q u s') : EP X pins σ Q u s' := by
  obtain ⟨v, H', os, bare, un, hok, r, q⟩ := h
  obtain ⟨hh, g, d, t, os'⟩ := s'
  obtain rfl : os' = s.os := os
  exact ⟨v, H', I.call (h' := hh) (g' := g) (d' := d) (t' := t) (ch := []) un hok bare (fun b z => absurd z (by simp)), r, q⟩
end
def tCall (sp : Sp) (dvs : List V) (E : XK) (t : TA) : TE := fun σ H Q => t σ H fun vs H1 => sp (vs ++ dvs) H1 Q E
def tMake (C : Addr) (sp : Sp) (dvs : List V) (E : XK) (t : TA) : TE := fun σ H Q => t σ H fun vs H1 => ∀ x dx, H1 x = none → H1 dx = none → dx ≠ x →
  sp (.ref x :: (vs ++ dvs)) (upd (upd H1 dx (.own x)) x (.ins C dx [])) (fun v H2 => v = .non ∧ Q (.ref x) H2) E
def Binds (K : PySem.W.Frag) (fd : FuncData) (ps : List Str) (ds : List Value) : Prop :=
  ∀ (s : Shared) (us : List Value), K.In s.heap → (us ++ ds).length = ps.length → BindsTo s fd ⟨us, []⟩ (ps.zip (us ++ ds))
theorem Binds.all {K : PySem.W.Frag} {fd : FuncData} {ps : List Str} (h : ∀ us : List Value, us.length = ps.length → bindArgs fd ⟨us, []⟩ = pure (ps.zip us)) : Binds K fd ps [] := fun s us _ hl => by
  rw [List.append_nil] at hl ⊢
  exact .of_eq (h us hl)
def Passes (CX : CXT) (X : Cx) (E : XK) : Prop := ∀ (pins : List (Addr × Obj)) (σ : St) (H : Hp) (s : Shared) (e : Value) (s' : Shared), Inv X pins σ H s → CX X.stack H s E e s' → X.xe e s'
section
variable {X : Cx} {CX : CXT} {k : Nat} {f C : Addr} {fd : FuncData} {ps : List Str} {sp : Sp} {dvs : List V} {ds : List Value} {E : XK} {x m : Str} {p pos apos : Pos} {e o : Expr} {es : List Expr} {ta : TE} {t : TA}
theorem run_fn {pins : List (Addr × Obj)} {σ : St} {H : Hp} {s : Shared} {Q : VK} {us : List Value} {vs : List V} (F : FnOk X.prog X.w X.K X.mg X.base CX k f fd ps sp) (hr : Room k X.A) (hb : Binds X.K fd ps ds) (hd : Vals dvs ds) (hx : Passes CX X E)
    (I : Inv X pins σ H s) (r : Vals vs us) (h : sp (vs ++ dvs) H Q E) : wpAny (model X.prog X.w) X.A (call (.ref f) us) (EP X pins σ Q) X.xe s := by
  have r2 : Vals (vs ++ dvs) (us ++ ds) := r.append hd
  have hl : (us ++ ds).length = ps.length := by rw [← r2.length]; exact F.len _ _ _ _ h
  refine wpAny_call (codeAny_mono (F.run X.A X.stack s H ⟨us, []⟩ (us ++ ds) (vs ++ dvs) Q E hr I.env0 (hb s us I.kIn hl) r2 h) fun r s' hq => ?_)
  cases r with
  | error e => exact hx pins σ H s e s' I hq
  | ok fl =>
    cases fl with
    | ret u => exact I.after hq
    | next => exact False.elim hq
    | brk => exact False.elim hq
    | cont => exact False.elim hq
theorem pe_call (F : FnOk X.prog X.w X.K X.mg X.base CX k f fd ps sp) (hr : Room k X.A) (hg : Gl X x) (hm : X.mg x = some (.ref f)) (hk : PySem.W.keepIn X.K (.ref f) = true) (hb : Binds X.K fd ps ds) (hd : Vals dvs ds) (hx : Passes CX X E)
    (ha : PA X (e :: es) t) (hdb : (x == ("__debug__" : Str)) = false := by decide) (he : starEach (e :: es) X.env = (false, eval e X.env) :: starEach es X.env := by rfl) (hpl : (backTo pos (starEach es X.env)).any (·.1) = false := by rfl) :
    PE X (.Call (.Name x p) (e :: es) [] pos) (tCall sp dvs E t) := by
  refine ⟨?_⟩
  intro pins s σ H Q I h
  refine wpAny_Call_Name_kw (ld_glob I hg hm ?_ hdb)
  refine PySem.W.callWith_K (h₀ := X.base) I.ok.mod.kin hk (thn (ha pos pins s σ H _ I h) fun us s1 ⟨vs, H1, I1, r, q⟩ => ⟨I1.kIn, ?_⟩) he hpl
  exact run_fn F hr hb hd hx I1 r q
theorem pe_call0 (F : FnOk X.prog X.w X.K X.mg X.base CX k f fd ps sp) (hr : Room k X.A) (hg : Gl X x) (hm : X.mg x = some (.ref f)) (hk : PySem.W.keepIn X.K (.ref f) = true) (hb : Binds X.K fd ps ds) (hd : Vals dvs ds) (hx : Passes CX X E)
    (hdb : (x == ("__debug__" : Str)) = false := by decide) : PE X (.Call (.Name x p) [] [] pos) (tCall sp dvs E tNil) := by
  refine ⟨?_⟩
  intro pins s σ H Q I h
  refine wpAny_Call_Name_kw (ld_glob I hg hm ?_ hdb)
  exact PySem.W.callWith_K0 I.kIn hk (run_fn (us := []) F hr hb hd hx I .nil h)
structure Mk (K : PySem.W.Frag) (C f : Addr) : Prop where
  makes : PySem.W.makesIn K C = true
  init : PySem.W.findIn K (.ref C) "__init__" = some (some (.ref f))
  fn : PySem.W.isFn K (.ref f) = true
  kp : PySem.W.keepIn K (.ref C) = true
theorem run_make {pins : List (Addr × Obj)} {σ : St} {H : Hp} {s : Shared} {Q : VK} {us : List Value} {vs : List V} (M : Mk X.K C f) (F : FnOk X.prog X.w X.K X.mg X.base CX k f fd ps sp) (hr : Room (k + 1) X.A) (hb : Binds X.K fd ps ds) (hd : Vals dvs ds)
    (hx : Passes CX X E) (I : Inv X pins σ H s) (r : Vals vs us)
    (h : ∀ x dx, H x = none → H dx = none → dx ≠ x → sp (.ref x :: (vs ++ dvs)) (upd (upd H dx (.own x)) x (.ins C dx [])) (fun v H2 => v = .non ∧ Q (.ref x) H2) E) :
    wpAny (model X.prog X.w) X.A (call (.ref C) us) (EP X pins σ Q) X.xe s := by
  have hq := h (s.heap.objs.size + 1) s.heap.objs.size (I.hok.fresh (Nat.le_succ _)) (I.hok.fresh (Nat.le_refl _)) (Nat.ne_of_lt (Nat.lt_succ_self _))
  have I2 := Inv.made (C := C) I
  have r2 : Vals (V.ref (s.heap.objs.size + 1) :: (vs ++ dvs)) (Value.ref (s.heap.objs.size + 1) :: (us ++ ds)) := .cons rfl (r.append hd)
  have hl : (Value.ref (s.heap.objs.size + 1) :: us ++ ds).length = ps.length := by
    have e := r2.length
    rw [F.len _ _ _ _ hq] at e
    exact e.symm
  refine wpAny_call (make_map (f := f) I.kIn M.makes M.init (beq_iff_eq.mp M.fn) (codeAny_mono (F.run _ X.stack _ _ ⟨Value.ref (s.heap.objs.size + 1) :: us, []⟩ (Value.ref (s.heap.objs.size + 1) :: (us ++ ds)) _ _ E (hr.make C us [])
    (I2.env0.make C us []) (hb _ (Value.ref (s.heap.objs.size + 1) :: us) I2.kIn hl) r2 hq) fun r s' hq' => ?_))
  cases r with
  | error e => exact hx pins σ _ _ e s' I2 hq'
  | ok fl =>
    cases fl with
    | ret u =>
      obtain ⟨v, H', I3, rv, ev, q3⟩ := I2.after hq'
      subst ev
      exact ⟨rv, ⟨V.ref (s.heap.objs.size + 1), H', I3, rfl, q3⟩⟩
    | next => exact False.elim hq'
    | brk => exact False.elim hq'
    | cont => exact False.elim hq'
theorem pe_make (M : Mk X.K C f) (F : FnOk X.prog X.w X.K X.mg X.base CX k f fd ps sp) (hr : Room (k + 1) X.A) (hg : Gl X x) (hm : X.mg x = some (.ref C)) (hb : Binds X.K fd ps ds) (hd : Vals dvs ds) (hx : Passes CX X E)
    (ha : PA X (e :: es) t) (hdb : (x == ("__debug__" : Str)) = false := by decide) (he : starEach (e :: es) X.env = (false, eval e X.env) :: starEach es X.env := by rfl) (hpl : (backTo pos (starEach es X.env)).any (·.1) = false := by rfl) :
    PE X (.Call (.Name x p) (e :: es) [] pos) (tMake C sp dvs E t) := by
  refine ⟨?_⟩
  intro pins s σ H Q I h
  refine wpAny_Call_Name_kw (ld_glob I hg hm ?_ hdb)
  refine PySem.W.callWith_K (h₀ := X.base) I.ok.mod.kin M.kp (thn (ha pos pins s σ H _ I h) fun us s1 ⟨vs, H1, I1, r, q⟩ => ⟨I1.kIn, ?_⟩) he hpl
  exact run_make M F hr hb hd hx I1 r q
end
structure FnScope (N P : List Str) (sc : Scope) : Prop where
  kind : sc.kind = .function
  co : sc.isCoroutine = false
  gen : sc.isGenerator = false
  nd : N.Nodup
  pre : N.take P.length = P
  par : ∀ x ∈ P, sc.names.lookup x = some .local ∨ sc.names.lookup x = some .cell
  nofree : ∀ y ∈ sc.names, y.2 ≠ .free
theorem bindL_out {kindOf : Str → Option NameKind} {x : Str} : ∀ {binds : List (Str × Value)} {m : Str → Option Value}, (∀ v, (x, v) ∉ binds) → bindL kindOf binds m x = m x
  | [], _, _ => rfl
  | (n, v) :: r, m, h => by
    unfold bindL
    rw [bindL_out fun w hw => h w (List.mem_cons_of_mem _ hw)]
    split
    · have : x ≠ n := by rintro rfl; exact h v List.mem_cons_self
      simp [this]
    · rfl
theorem bindC_out {kindOf : Str → Option NameKind} {x : Str} : ∀ {binds : List (Str × Value)} {m : Str → Option Value}, (∀ v, (x, v) ∉ binds) → bindC kindOf binds m x = m x
  | [], _, _ => rfl
  | (n, v) :: r, m, h => by
    unfold bindC
    rw [bindC_out fun w hw => h w (List.mem_cons_of_mem _ hw)]
    split
    · rfl
    · have : x ≠ n := by rintro rfl; exact h v List.mem_cons_self
      simp [this]
theorem bindL_get {kindOf : Str → Option NameKind} {x : Str} {v : Value} : ∀ {P : List Str} {vs : List Value} {i : Nat} {m : Str → Option Value}, P.Nodup → P[i]? = some x → vs[i]? = some v → kindOf x = some .local →
    bindL kindOf (P.zip vs) m x = some v
  | [], _, _, _, _, h, _, _ => by simp at h
  | _ :: _, [], _, _, _, _, h, _ => by simp at h
  | p :: P, w :: vs, 0, m, nd, h1, h2, hk => by
    simp at h1 h2; subst h1; subst h2
    show bindL kindOf ((p, w) :: P.zip vs) m p = _
    unfold bindL
    rw [bindL_out fun v hv => (List.nodup_cons.mp nd).1 (List.of_mem_zip hv).1, if_pos hk]
    simp
  | p :: P, w :: vs, i + 1, m, nd, h1, h2, hk => by
    show bindL kindOf ((p, w) :: P.zip vs) m x = _
    unfold bindL
    exact bindL_get (i := i) (List.nodup_cons.mp nd).2 (by simpa using h1) (by simpa using h2) hk
theorem bindC_get {kindOf : Str → Option NameKind} {x : Str} {v : Value} : ∀ {P : List Str} {vs : List Value} {i : Nat} {m : Str → Option Value}, P.Nodup → P[i]? = some x → vs[i]? = some v → kindOf x ≠ some .local →
    bindC kindOf (P.zip vs) m x = some v
  | [], _, _, _, _, h, _, _ => by simp at h
  | _ :: _, [], _, _, _, _, h, _ => by simp at h
  | p :: P, w :: vs, 0, m, nd, h1, h2, hk => by
    simp at h1 h2; subst h1; subst h2
    show bindC kindOf ((p, w) :: P.zip vs) m p = _
    unfold bindC
    rw [bindC_out fun v hv => (List.nodup_cons.mp nd).1 (List.of_mem_zip hv).1, if_neg hk]
    simp
  | p :: P, w :: vs, i + 1, m, nd, h1, h2, hk => by
    show bindC kindOf ((p, w) :: P.zip vs) m x = _
    unfold bindC
    exact bindC_get (i := i) (List.nodup_cons.mp nd).2 (by simpa using h1) (by simpa using h2) hk
def start (N : List Str) (vs : List V) : St := vs.map some ++ List.replicate (N.length - vs.length) none
def cxOf (CX : CXT) (P : Program) (w : World) (K : PySem.W.Frag) (mg : Str → Option Value) (base : Heap) (N : List Str) (qual : Str) (scope : Scope) (f : Addr) (cd : Value) (A : Around) (outer : List Env) (s : Shared) (H : Hp) (E : XK) : Cx where
  prog := P
  w := w
  K := K
  mg := mg
  base := base
  A := A.deeper (envOfC qual scope s.heap.objs.size f cd)
  N := N
  s₀ := s
  H₀ := H
  env := envOfC qual scope s.heap.objs.size f cd
  outer := outer
  stack := envOfC qual scope s.heap.objs.size f cd :: outer
  ex := []
  calm := true
  fn := fun _ => true
  pn := []
  xe := fun e s' => wpAny (model P w) (A.deeper (envOfC qual scope s.heap.objs.size f cd)) (leaving (envOfC qual scope s.heap.objs.size f cd) e) (fun _ s'' => CX outer H s E e s'') (fun e' s'' => CX outer H s E e' s'') s'
theorem cell_has {sc : Scope} {n : Nat} {x : Str} (h : sc.names.lookup x = some .cell) : ∃ c, (cellsFrom n sc.names []).lookup x = some c := by
  have q := PySem.W.cellsFrom_some sc.names n [] (.inl h)
  exact Option.isSome_iff_exists.mp q
theorem inv_start {CX : CXT} {P : Program} {w : World} {K : PySem.W.Frag} {mg : Str → Option Value} {base : Heap} {N ps : List Str} {qual : Str} {scope : Scope} {f : Addr} {cd : Value} {A : Around} {outer : List Env} {s s1 : Shared} {H : Hp} {E : XK} {us : List Value} {vs : List V}
    (S : FnScope N ps scope) (hd : A.handled = none) (e0 : Env0 P w K mg base A outer s H) (hl : vs.length = ps.length) (r : Vals vs us)
    (x : InCallC s s.heap.objs.size (bindL (envOfC qual scope s.heap.objs.size f cd).kindOf (ps.zip us) fun _ => none) (cellsFrom (s.heap.objs.size + 1) scope.names []) (bindC (envOfC qual scope s.heap.objs.size f cd).kindOf (ps.zip us) fun _ => none) s1) :
    Inv (cxOf CX P w K mg base N qual scope f cd A outer s H E) [] (start N vs) H s1 := by
  have hpl : ps.length ≤ N.length := by have := congrArg List.length S.pre; rw [List.length_take] at this; lia
  obtain ⟨h1, tk, rfl, hk⟩ := x.done
  have noA : ∀ b : Addr, b ∉ (cxOf CX P w K mg base N qual scope f cd A outer s H E).ex := fun b z => absurd (show b ∈ ([] : List Addr) from z) (by simp)
  refine ⟨⟨e0.mod, S.kind, rfl, rfl, Nat.le_refl _, fun y z c h1 h2 => ?_, fun y hy => ?_, fun y c _ h => ?_, fun _ => hd, Around.frames_deeper e0.frames, .inr ⟨rfl, rfl⟩, fun b z => absurd z (noA b), e0.bs, e0.bsz, fun b _ _ => noA b, fun b z => absurd z (noA b), e0.funs, e0.frf⟩,
    rfl, e0.bare, Un.kept hk, ⟨_, x.toInCall.ns, fun i y v h1 h2 h3 => ?_⟩, fun y c h => ⟨_, x.cell y c h⟩, e0.hok.fresh (Nat.le_refl _), fun y c h => ?_, fun p hp => absurd (show p ∈ ([] : List (Addr × Obj)) from hp) (by simp), e0.hok.kept hk, ?_⟩
  · exact name_of_addr x.apart (PySem.mem_of_lookup h1) (PySem.mem_of_lookup h2)
  · have hy : scope.names.lookup y = some .cell ∨ scope.names.lookup y = some .free := hy
    rcases hy with hy | hy
    · exact cell_has hy
    · exact absurd rfl (S.nofree _ (PySem.mem_of_lookup hy))
  · exact Nat.le_of_lt (x.above y c (PySem.mem_of_lookup h))
  · have hi : i < vs.length := by
      unfold start at h2
      by_cases hi : i < vs.length
      · exact hi
      · rw [List.getElem?_append_right (by simpa using hi)] at h2
        rw [List.getElem?_replicate] at h2
        split at h2 <;> cases h2
    have ha : vs[i]? = some v := by
      unfold start at h2
      rw [List.getElem?_append_left (by simpa using hi), List.getElem?_map] at h2
      cases e : vs[i]? with
      | none => rw [e] at h2; cases h2
      | some a => rw [e] at h2; cases h2; rfl
    obtain ⟨u, hu, rv⟩ := r.get ha
    have hp : ps[i]? = some y := by
      rw [← S.pre, List.getElem?_take_of_lt (by lia)]; exact h1
    have ndP : ps.Nodup := by rw [← S.pre]; exact S.nd.sublist (List.take_sublist _ _)
    refine ⟨u, rv, ?_⟩
    rcases S.par y (List.mem_of_getElem? hp) with k | k
    · exact .inl ⟨k, bindL_get ndP hp hu k⟩
    · obtain ⟨c, e⟩ := cell_has (n := s.heap.objs.size + 1) k
      refine .inr ⟨.inl k, c, e, ?_⟩
      have q := x.cell y c e
      rw [bindC_get ndP hp hu (by show scope.names.lookup y ≠ _; rw [k]; decide)] at q
      exact q
  · exact e0.hok.fresh (Nat.le_of_lt (x.above y c (PySem.mem_of_lookup h)))
  · unfold start
    show _ = N.length
    rw [List.length_append, List.length_map, List.length_replicate]
    lia
theorem fn_of {CX : CXT} {P : Program} {w : World} {K : PySem.W.Frag} {mg : Str → Option Value} {base : Heap} {k : Nat} {f : Addr} {name qual : Str} {params : Arguments} {body : List Stmt} {scope : Scope} {dV kV doc pm cdv ct oc : Value} {an od : Option Addr}
    {osl : Array (Option Value)} {N ps : List Str} {sp : Sp} (lk : K.lookup f = some ⟨oc, od, .func (PySem.W.fnOf name qual params body scope dV kV doc pm an cdv ct), osl⟩) (hcd : PySem.W.codeIn K cdv qual = true) (S : FnScope N ps scope)
    (len : ∀ vs H Q E, sp vs H Q E → vs.length = ps.length)
    (hbody : ∀ (A : Around) (outer : List Env) (s : Shared) (H : Hp) (vs : List V) (Q : VK) (E : XK), Room k (A.deeper (envOfC qual scope s.heap.objs.size f cdv)) → sp vs H Q E →
      ∃ t, PSs (cxOf CX P w K mg base N qual scope f cdv A outer s H E) body t ∧ t { nx := fun _ H' => Q .non H', rt := Q } (start N vs) H) :
    FnOk P w K mg base CX (k + 1) f (PySem.W.fnOf name qual params body scope dV kV doc pm an cdv ct) ps sp := by
  refine ⟨len, fun A outer s H args us vs Q E hr e0 hb r hsp => ?_⟩
  have hl := len _ _ _ _ hsp
  have KX : K.In s.heap := e0.mod.kin.keeps fun b o e => (e0.bs b o e).1
  have lim : s.heap.NoLimit := e0.mod.nolimit.keeps fun b o e => (e0.bs b o e).1
  have hkind : ∀ y ∈ ps.zip us, scope.names.lookup y.1 = some .local ∨ (scope.names.lookup y.1 = some .cell ∧ ((cellsFrom (s.heap.objs.size + 1) scope.names []).lookup y.1).isSome = true) := fun ⟨n, v⟩ hy => by
    rcases S.par n (List.of_mem_zip hy).1 with q | q
    · exact .inl q
    · exact .inr ⟨q, PySem.W.cellsFrom_some _ _ _ (.inl q)⟩
  refine codeAny_call_function hr.depth (KX _ _ lk) rfl S.co S.gen rfl (PySem.W.codeRec_of KX hcd) (hb _ _ _ _ ?_)
  refine wpAny_newFunctionEnv_cells S.kind hkind fun env he s1 x => ?_
  subst he
  refine ⟨lim.keeps x.toInCall.keep, codeAny_func ?_⟩
  obtain ⟨t, ht, hq⟩ := hbody A outer s H vs Q E (hr.deeper _) hsp
  have I : Inv (cxOf CX P w K mg base N qual scope f cdv A outer s H E) [] (start N vs) H s1 := inv_start S hr.hd e0 hl r x
  refine wpAny_mono (ht [] s1 (start N vs) H _ I hq) (fun fl s' hs => ?_) fun e s' hs => hs
  have fin : ∀ {σ' : St} {H' : Hp} {v : V} {u : Value}, Inv (cxOf CX P w K mg base N qual scope f cdv A outer s H E) [] σ' H' s' → RelV v u → Q v H' → CE outer P w H s Q u s' :=
    fun {σ' H' v u} J rv q => ⟨v, H', J.os, J.bare, J.base, J.hok, rv, q⟩
  cases fl with
  | ret u =>
    obtain ⟨v, σ', H', J, rv, q⟩ := hs
    exact fin J rv q
  | next =>
    obtain ⟨σ', H', J, q⟩ := hs
    exact fin (v := V.non) (u := Value.none) J rfl q
  | brk =>
    obtain ⟨_, _, _, q⟩ := hs
    exact False.elim q
  | cont =>
    obtain ⟨_, _, _, q⟩ := hs
    exact False.elim q
end L2
namespace L2
open PySem PySem.Spec PyProof.Rows
section
variable {X : Cx} {x : Str} {p pos : Pos} {e : Expr} {es : List Expr} {t : TA} {id T : String} {r : List V → Hp → VK → Prop}
def tCB (r : List V → Hp → VK → Prop) (t : TA) : TE := fun σ H Q => t σ H fun vs H1 => r vs H1 Q
theorem pe_callB (hc : CallR X (.builtin id) r) (hg : Gl X x) (hm : X.mg x = none) (hv : bootBuiltins x = some (.builtin id)) (ha : PA X (e :: es) t) (hn : x ≠ "__name__" := by decide) (hdb : (x == ("__debug__" : Str)) = false := by decide)
    (he : starEach (e :: es) X.env = (false, eval e X.env) :: starEach es X.env := by rfl) (hpl : (backTo pos (starEach es X.env)).any (·.1) = false := by rfl) : PE X (.Call (.Name x p) (e :: es) [] pos) (tCB r t) := by
  refine ⟨?_⟩
  intro pins s σ H Q I h
  refine wpAny_Call_Name_kw (ld_blt I hg hm hv ?_ hn hdb)
  exact PyProof.Rows.callWith_builtin1 (thn (ha pos pins s σ H _ I h) fun us s1 ⟨vs, H1, I1, r1, q1⟩ => hc pins s1 σ H1 vs us Q I1 r1 q1) he hpl
theorem pe_callTy (hc : CallR X (.type T) r) (hg : Gl X x) (hm : X.mg x = none) (hv : bootBuiltins x = some (.type T)) (ha : PA X (e :: es) t) (hn : x ≠ "__name__" := by decide) (hdb : (x == ("__debug__" : Str)) = false := by decide)
    (he : starEach (e :: es) X.env = (false, eval e X.env) :: starEach es X.env := by rfl) (hpl : (backTo pos (starEach es X.env)).any (·.1) = false := by rfl) : PE X (.Call (.Name x p) (e :: es) [] pos) (tCB r t) := by
  refine ⟨?_⟩
  intro pins s σ H Q I h
  refine wpAny_Call_Name_kw (ld_blt I hg hm hv ?_ hn hdb)
  exact PyProof.Rows.callWith_type1 (thn (ha pos pins s σ H _ I h) fun us s1 ⟨vs, H1, I1, r1, q1⟩ => hc pins s1 σ H1 vs us Q I1 r1 q1) he hpl
end
end L2
namespace HT
open PySem PyProof.Rows
section
open PySem.SeqAt
open PySem.AutoSeq1 (wpAny_loadPart')
open PySem.MeetsSeq PySem.MeetsSeq2 PySem.MeetsSeq3
end
section
variable {prog : Program} {w : World} {A : Around} {E : Value → Shared → Prop} {s : Shared}
theorem cat_tup {t b : Addr} {vs ws : List Value} {Q : Value → Shared → Prop} (ht : IsTup s.heap t vs.toArray) (hb : IsTup s.heap b ws.toArray) (hv : vs ≠ [])
    (h1 : ws = [] → Q (.ref t) s) (h2 : ws ≠ [] → Q (.ref s.heap.objs.size) { s with heap := s.heap.push { cls := .type "tuple", data := .seq (vs ++ ws).toArray } })
    (hsz : vs.length + ws.length ≤ sizeLine) : wpAny (model prog w) A (binaryOp .Add (.ref t) (.ref b)) Q E s := by
  obtain ⟨⟨cls, dd, data, sl⟩, ho, hc, n, hd⟩ := id ht
  obtain ⟨⟨cls2, dd2, data2, sl2⟩, ho2, hc2, n2, hd2⟩ := id hb
  simp only at hc hd hc2 hd2
  subst hc hd hc2 hd2
  have e : vs.toArray ++ ws.toArray = (vs ++ ws).toArray := by simp
  by_cases hw : ws = []
  · exact concat_meets ⟨_, ho, rfl⟩ ⟨_, ho2, rfl⟩ noFill_tuple_add seq_tuple_add PySem.F.slot_tuple_add PySem.F.entry_tuple_add (PySem.F.args_tuple_add_2 _ _)
      (tuple_addW1 t b vs.toArray ws.toArray n n2 dd dd2 sl sl2 (by simpa using hv) (by simp [hw])) ⟨ho, ho2, h1 hw⟩
  · refine concat_meets ⟨_, ho, rfl⟩ ⟨_, ho2, rfl⟩ noFill_tuple_add seq_tuple_add PySem.F.slot_tuple_add PySem.F.entry_tuple_add (PySem.F.args_tuple_add_2 _ _)
      (tuple_addW2 t b vs.toArray ws.toArray n n2 dd dd2 sl sl2 (by simpa using hv) (by simpa using hw) (by rw [List.size_toArray, List.size_toArray]; exact hsz)) ⟨ho, ho2, ?_⟩
    rw [e]
    exact h2 hw
def sIx (n d : Nat) : Option Int → Nat
  | none => d
  | some v => if v < 0 then (v + (n : Int)).toNat else min v.toNat n
theorem sIx_none (n d : Nat) : sIx n d none = d := rfl
theorem sIx_nat (n d k : Nat) : sIx n d (some (k : Int)) = min k n := by
  show (if (k : Int) < 0 then ((k : Int) + (n : Int)).toNat else min (k : Int).toNat n) = min k n
  rw [if_neg (by lia), Int.toNat_natCast]
theorem sIx_le (n d : Nat) (hd : d ≤ n) (o : Option Int) : sIx n d o ≤ n := by
  cases o with
  | none => exact hd
  | some v =>
    show (if v < 0 then (v + (n : Int)).toNat else min v.toNat n) ≤ n
    by_cases hv : v < 0
    · rw [if_pos hv]; lia
    · rw [if_neg hv]; exact Nat.min_le_right _ _
theorem clip_eq (v : Int) (n d : Nat) : (if v < 0 then max (v + (n : Int)) 0 else min v (n : Int)) = ((sIx n d (some v) : Nat) : Int) := by
  show (if v < 0 then max (v + (n : Int)) 0 else min v (n : Int)) = (((if v < 0 then (v + (n : Int)).toNat else min v.toNat n) : Nat) : Int)
  by_cases hv : v < 0
  · simp only [if_pos hv]; lia
  · simp only [if_neg hv]; lia
theorem adjust_gen (lo hi : Option Int) (n : Nat) : Builtin.Slice.sliceAdjust lo hi 1 (n : Int) = (((sIx n 0 lo : Nat) : Int), ((sIx n n hi : Nat) : Int)) := by
  have h1 : ¬ ((1 : Int) < 0) := by lia
  unfold Builtin.Slice.sliceAdjust
  simp only [h1, if_false]
  refine Prod.ext ?_ ?_
  · cases lo with
    | none => rfl
    | some v => exact clip_eq v n 0
  · cases hi with
    | none => rfl
    | some v => exact clip_eq v n n
theorem places_gen (i j : Nat) : Builtin.Slice.slicePlaces (i : Int) (j : Int) 1 = j - i := by
  unfold Builtin.Slice.slicePlaces
  have h1 : (1 : Int) > 0 := by lia
  simp only [h1, if_true, Int.ediv_one]
  split <;> lia
theorem slicePart_ {v : Value} {o : Option Int} {Q : Option Int → Shared → Prop} (p : IsPart v o) (h : Q o s) : wpAny (model prog w) A (Builtin.Slice.slicePartIndex v) Q E s := by
  cases p with
  | none => exact slicePart_none h
  | int i t => exact slicePart_int h
theorem sliceApplied_gen {sl : Addr} {vl vu : Value} {lo hi : Option Int} {n : Nat} {Q : Int × Int × Nat → Shared → Prop} (hs : s.heap.IsSliceOf sl vl vu .none) (pl : IsPart vl lo) (pu : IsPart vu hi)
    (h : Q (((sIx n 0 lo : Nat) : Int), 1, sIx n n hi - sIx n 0 lo) s) : wpAny (model prog w) A (Builtin.Slice.sliceApplied (.ref sl) (pure (n : Int))) Q E s := by
  obtain ⟨os, hos, hcs, hds⟩ := id hs
  unfold Builtin.Slice.sliceApplied Builtin.Slice.sliceFields
  refine wpAny_bind (wpAny_bind (wpAny_field hos hds (x := vl) rfl (wpAny_bind (wpAny_field hos hds (x := vu) rfl (wpAny_bind (wpAny_field hos hds (x := .none) rfl (wpAny_pure ?_)))))))
  refine wpAny_bind (slicePart_none ?_)
  show wpAny _ _ (if ((1 : Int) == 0) = true then _ else _) _ _ s
  rw [if_neg (by decide)]
  refine wpAny_bind (slicePart_ pl (wpAny_bind (slicePart_ pu (wpAny_bind (wpAny_pure ?_)))))
  show wpAny _ _ (match Builtin.Slice.sliceAdjust lo hi 1 (n : Int) with | (lo, hi) => pure (lo, (1 : Int), Builtin.Slice.slicePlaces lo hi 1)) _ _ s
  rw [adjust_gen lo hi n]
  show wpAny _ _ (pure (((sIx n 0 lo : Nat) : Int), (1 : Int), Builtin.Slice.slicePlaces ((sIx n 0 lo : Nat) : Int) ((sIx n n hi : Nat) : Int) 1)) _ _ s
  rw [places_gen]
  exact wpAny_pure h
theorem pick_gen (xs : Array Value) (i k : Nat) : ((List.range k).filterMap fun (m : Nat) => xs[((i : Int) + (m : Int) * 1).toNat]?).toArray = ((xs.toList.drop i).take k).toArray := by
  have e : (fun (m : Nat) => xs[((i : Int) + (m : Int) * 1).toNat]?) = fun m => xs[i + m]? := by
    funext m
    have : ((i : Int) + (m : Int) * 1).toNat = i + m := by lia
    rw [this]
  rw [e]
  have := pick_run xs i k
  rw [List.filterMap_map] at this
  have e2 : ((fun x => xs[x]?) ∘ fun x => i + x) = fun m => xs[i + m]? := rfl
  rw [e2] at this
  rw [this]
theorem getItem_tuple_cut {t sl : Addr} {items : Array Value} {vl vu : Value} {lo hi : Option Int} {Q : Value → Shared → Prop} (ht : IsTup s.heap t items) (hs : s.heap.IsSliceOf sl vl vu .none) (pl : IsPart vl lo) (pu : IsPart vu hi)
    (hw : ¬ (sIx items.size 0 lo = 0 ∧ sIx items.size items.size hi = items.size))
    (h : Q (.ref s.heap.objs.size) { s with heap := s.heap.push { cls := .type "tuple", data := .seq ((items.toList.drop (sIx items.size 0 lo)).take (sIx items.size items.size hi - sIx items.size 0 lo)).toArray } })
    (hsz : items.size ≤ sizeLine) : wpAny (model prog w) A (getItem (.ref t) (.ref sl)) Q E s := by
  have htake : sizeOk (.seq ((items.toList.drop (sIx items.size 0 lo)).take (sIx items.size items.size hi - sIx items.size 0 lo)).toArray) := by
    show ((items.toList.drop (sIx items.size 0 lo)).take (sIx items.size items.size hi - sIx items.size 0 lo)).toArray.size ≤ sizeLine
    rw [List.size_toArray, List.length_take, List.length_drop, Array.length_toList]
    lia
  have hj : sIx items.size items.size hi ≤ items.size := sIx_le _ _ (Nat.le_refl _) hi
  obtain ⟨os, hos, hcs, hds⟩ := id hs
  have hTs : s.TypeIs (.ref sl) "slice" := ⟨os, hos, hcs⟩
  unfold getItem
  try with_reducible refine wpAny_holding ?_
  first | refine wpAny_bind (wpAny_pure ?_) | skip
  refine wpAny_bind (wpAny_sequenceKey ht.typeIs (by decide) ?_)
  refine wpAny_bind (wpAny_callSpecial?_slot (name := Str.ofString "__getitem__") ht.typeIs PyProof.Rows.slot_tuple_getitem
    (wpAny_call_entry PyProof.Rows.slot_tuple_getitem ht.typeIs entry_tuple_getitem ?_ (args_tuple_getitem _ _)))
  show wpAny _ _ (Builtin.Tuple.tupleItemsOf (.ref t) >>= _) _ _ s
  refine wpAny_bind (tupleItemsOf_ ht ?_)
  refine wpAny_bind (wpAny_typeOf hTs ?_)
  rw [if_pos (by decide)]
  refine wpAny_bind (sliceApplied_gen hs pl pu ?_)
  have hno : ¬ ((((sIx items.size 0 lo : Nat) : Int) == 0 && (1 : Int) == 1 && (sIx items.size items.size hi - sIx items.size 0 lo) == items.size) = true) := by
    intro q
    rw [Bool.and_eq_true, Bool.and_eq_true] at q
    have q1 : ((sIx items.size 0 lo : Nat) : Int) = 0 := eq_of_beq q.1.1
    have q2 : sIx items.size items.size hi - sIx items.size 0 lo = items.size := eq_of_beq q.2
    exact hw ⟨by lia, by lia⟩
  show wpAny _ _ (if (((sIx items.size 0 lo : Nat) : Int) == 0 && (1 : Int) == 1 && (sIx items.size items.size hi - sIx items.size 0 lo) == items.size) = true then _ else _) _ _ s
  rw [if_neg hno, pick_gen]
  first
    | exact wpAny_bind (m := Builtin.Tuple.tupleExact _) (wpAny_newObj_type (wpAny_pure ⟨_, rfl, wpAny_pure h⟩) htake)
    | exact wpAny_bind (m := Builtin.Tuple.tupleExact _) (wpAny_newObj_type (wpAny_bind (wpAny_pure (wpAny_pure ⟨_, rfl, wpAny_pure h⟩))) htake)
    | exact wpAny_bind (wpAny_bind (m := Builtin.Tuple.tupleExact _) (wpAny_newObj_type (wpAny_pure (wpAny_pure ⟨_, rfl, wpAny_pure h⟩)) htake))
    | exact wpAny_bind (wpAny_bind (m := Builtin.Tuple.tupleExact _) (wpAny_newObj_type (wpAny_pure ⟨_, rfl, wpAny_pure h⟩) htake))
end
end HT
namespace L2
open PySem PySem.Spec PyProof.Rows
abbrev TO := St → Hp → (Option Int → Hp → Prop) → Prop
structure PO (X : Cx) (e : Option Expr) (t : TO) : Prop where
  run : ∀ (pins : List (Addr × Obj)) (s : Shared) (σ : St) (H : Hp) (Q : Option Int → Hp → Prop), Inv X pins σ H s → t σ H Q →
    wpAny (model X.prog X.w) X.A (evalPart e X.env) (fun u s' => ∃ o H', Inv X pins σ H' s' ∧ IsPart u o ∧ Q o H') X.xe s
instance {X : Cx} {e : Option Expr} {t : TO} : CoeFun (PO X e t) fun _ => ∀ (pins : List (Addr × Obj)) (s : Shared) (σ : St) (H : Hp) (Q : Option Int → Hp → Prop), Inv X pins σ H s → t σ H Q →
    wpAny (model X.prog X.w) X.A (evalPart e X.env) (fun u s' => ∃ o H', Inv X pins σ H' s' ∧ IsPart u o ∧ Q o H') X.xe s := ⟨PO.run⟩
def tNoPart : TO := fun _ H Q => Q none H
inductive tPartI (Q : Option Int → Hp → Prop) (x : V) (H1 : Hp) : Prop
  | mk (i : _) : x = .int i → Q (some i) H1 → tPartI Q x H1
def tPart (t : TE) : TO := fun σ H Q => t σ H fun x H1 => tPartI Q x H1
section
variable {X : Cx} {e : Expr} {te : TE} {lo hi : Option Expr} {tl th : TO} {pos p2 : Pos}
theorem po_none : PO X none tNoPart := by
  refine ⟨?_⟩
  intro pins s σ H Q I h
  rw [evalPart_none]
  exact wpAny_pure ⟨none, H, I, .none, h⟩
theorem po_some (h : PE X e te) : PO X (some e) (tPart te) := by
  refine ⟨?_⟩
  intro pins s σ H Q I hw
  rw [evalPart_some]
  refine thn (h pins s σ H _ I hw) fun u s1 ⟨x, H1, I1, r1, q1⟩ => ?_
  obtain ⟨i, rfl, q⟩ := q1
  obtain ⟨t, rfl⟩ := r1
  exact ⟨some i, H1, I1, .int i t, q⟩
def SlR (X : Cx) (r : V → Option Int → Option Int → Hp → VK → Prop) : Prop :=
  ∀ (pins : List (Addr × Obj)) (s : Shared) (σ : St) (H : Hp) (x : V) (v vl vu : Value) (lo hi : Option Int) (sl : Addr) (Q : VK), Inv X pins σ H s → RelV x v → s.heap.IsSliceOf sl vl vu .none → IsPart vl lo → IsPart vu hi → r x lo hi H Q →
    ∃ T id, typeLookup (.type T) "__getitem__" = pure (some (.builtin id)) ∧ s.TypeIs v T ∧ wpAny (model X.prog X.w) X.A (getItem v (.ref sl)) (EP X pins σ Q) X.xe s
def tSl (r : V → Option Int → Option Int → Hp → VK → Prop) (te : TE) (tl th : TO) : TE := fun σ H Q => te σ H fun x H1 => tl σ H1 fun l H2 => th σ H2 fun u H3 => r x l u H3 Q
theorem pe_slice {r : V → Option Int → Option Int → Hp → VK → Prop} (hr : SlR X r) (he : PE X e te) (hl : PO X lo tl) (hu : PO X hi th) : PE X (.Subscript e (.Slice lo hi none p2) pos) (tSl r te tl th) := by
  refine ⟨?_⟩
  intro pins s σ H Q I h
  refine Subscript_ (thn (he pins s σ H _ I h) fun v s1 ⟨x, H1, I1, r1, q1⟩ => ?_)
  refine wpAny_Slice (thn (hl pins s1 σ H1 _ I1 q1) fun vl s2 ⟨l, H2, I2, pl, q2⟩ => thn (hu pins s2 σ H2 _ I2 q2) fun vu s3 ⟨u, H3, I3, pu, q3⟩ => ?_)
  rw [evalPart_none]
  refine wpAny_pure ?_
  have I4 : Inv X pins σ H3 { s3 with heap := s3.heap.push { cls := .type "slice", data := .fields #[vl, vu, .none] } } := I3.kept (t' := s3.toks) fun b ob q => Heap.get?_push_of_some _ q
  obtain ⟨T, id, hT, ht, hg⟩ := hr pins { s3 with heap := s3.heap.push { cls := .type "slice", data := .fields #[vl, vu, .none] } } σ H3 x v vl vu l u s3.heap.objs.size Q I4 r1 (Heap.IsSliceOf.new ..) pl pu q3
  show wpAny (model X.prog X.w) X.A (subscriptTail e (.Slice lo hi none p2) v (.ref s3.heap.objs.size)) (EP X pins σ Q) X.xe { s3 with heap := s3.heap.push { cls := .type "slice", data := .fields #[vl, vu, .none] } }
  exact tail_any (ops := [.ref s3.heap.objs.size, v]) ht hT hg (by with_unfolding_all rfl)
def cutV (xs : List V) (lo hi : Option Int) : List V := (xs.drop (HT.sIx xs.length 0 lo)).take (HT.sIx xs.length xs.length hi - HT.sIx xs.length 0 lo)
theorem cutV_length (xs : List V) (lo hi : Option Int) : (cutV xs lo hi).length ≤ xs.length := by
  unfold cutV
  rw [List.length_take, List.length_drop]
  lia
inductive rSlT (K : PySem.W.Frag) (x : V) (lo : Option Int) (hi : Option Int) (H : Hp) (Q : VK) : Prop
  | mk (a xs : _) : x = .ref a → SqT K H a xs → ¬ (HT.sIx xs.length 0 lo = 0 ∧ HT.sIx xs.length xs.length hi = xs.length) → (∀ p, H p = none → Q (.ref p) (upd H p (.tup (cutV xs lo hi)))) → rSlT K x lo hi H Q
theorem sl_tup : SlR X (rSlT X.K) := by
  intro pins s σ H x v vl vu lo hi sl Q I rx hs pl pu h
  obtain ⟨a, xs, rfl, hx, hw, q⟩ := h
  cases rx
  obtain ⟨its, r, ht, hz⟩ := I.tuple hx
  have hlen : its.toArray.size = xs.length := by rw [List.size_toArray]; exact r.length.symm
  refine ⟨"tuple", _, PyProof.Rows.slot_tuple_getitem.lookup, ht.typeIs, ?_⟩
  refine HT.getItem_tuple_cut ht hs pl pu (by rw [hlen]; exact hw) ?_ (by rw [hlen]; exact hz)
  rw [hlen]
  refine ⟨.ref s.heap.objs.size, _, I.laid (t' := s.toks) (o := .tup (cutV xs lo hi)) (fun b ob q => Heap.get?_push_of_some _ q) (Nat.le_refl _) ?_, rfl, q _ (I.hok.fresh (Nat.le_refl _))⟩
  exact ⟨Nat.le_trans (cutV_length xs lo hi) hz, _, (r.drop (HT.sIx xs.length 0 lo)).take (HT.sIx xs.length xs.length hi - HT.sIx xs.length 0 lo), TupP.new _ _⟩
inductive rCatT (K : PySem.W.Frag) (x : V) (y : V) (H : Hp) (Q : VK) : Prop
  | mk (a b xs ys : _) : x = .ref a → y = .ref b → SqT K H a xs → SqT K H b ys → xs ≠ [] → xs.length + ys.length ≤ sizeLine → (ys = [] → Q (.ref a) H) → (ys ≠ [] → ∀ p, H p = none → Q (.ref p) (upd H p (.tup (xs ++ ys)))) → rCatT K x y H Q
theorem Vals.nil_iff {xs : List V} {us : List Value} (r : Vals xs us) : us = [] ↔ xs = [] := by
  cases r with
  | nil => simp
  | cons _ _ => simp
theorem op_catT : OpR X (binaryOp .Add) (rCatT X.K) := by
  intro pins s σ H x y v u Q I rx ry h
  obtain ⟨a, b, xs, ys, rfl, rfl, ha, hb, hx, hz, q1, q2⟩ := h
  cases rx
  cases ry
  obtain ⟨its, r1, p1, _⟩ := I.tuple ha
  obtain ⟨its2, r2, p2, _⟩ := I.tuple hb
  refine HT.cat_tup p1 p2 (fun z => hx (r1.nil_iff.mp z)) (fun z => ⟨.ref a, H, I, rfl, q1 (r2.nil_iff.mp z)⟩) (fun z => ?_) (by rw [← r1.length, ← r2.length]; exact hz)
  refine ⟨.ref s.heap.objs.size, _, I.laid (t' := s.toks) (o := .tup (xs ++ ys)) (fun b ob q => Heap.get?_push_of_some _ q) (Nat.le_refl _) ?_, rfl, q2 (fun w => z (r2.nil_iff.mpr w)) _ (I.hok.fresh (Nat.le_refl _))⟩
  exact ⟨by rw [List.length_append]; exact hz, _, r1.append r2, TupP.new _ _⟩
end
end L2
namespace L2
open PySem PySem.Spec PyProof.Rows
def ixN (n : Nat) (i : Int) : Option Nat := if 0 ≤ i then (if i < n then some i.toNat else none) else if -(n : Int) ≤ i then some (i + n).toNat else none
def atI {α : Type} (xs : List α) (i : Int) : Option α := (ixN xs.length i).bind fun j => xs[j]?
theorem ixN_seq {n : Nat} {i : Int} {j : Nat} (h : ixN n i = some j) : seqIndex? i n = some j ∧ j < n ∧ -(n : Int) ≤ i ∧ i < n := by
  unfold ixN at h
  by_cases h0 : 0 ≤ i
  · rw [if_pos h0] at h
    by_cases h1 : i < n
    · rw [if_pos h1] at h
      have e : i.toNat = j := Option.some.inj h
      exact ⟨by rw [seqIndex_of h0 h1, e], by lia, by lia, h1⟩
    · rw [if_neg h1] at h; cases h
  · rw [if_neg h0] at h
    by_cases h1 : -(n : Int) ≤ i
    · rw [if_pos h1] at h
      have e : (i + n).toNat = j := Option.some.inj h
      exact ⟨by rw [seqIndex_neg (by lia) h1, e], by lia, h1, by lia⟩
    · rw [if_neg h1] at h; cases h
theorem atI_get {α : Type} {xs : List α} {i : Int} {v : α} (h : atI xs i = some v) : ∃ j, seqIndex? i xs.length = some j ∧ xs[j]? = some v ∧ j < xs.length ∧ -(xs.length : Int) ≤ i ∧ i < xs.length := by
  unfold atI at h
  cases e : ixN xs.length i with
  | none => rw [e] at h; cases h
  | some j =>
    rw [e] at h
    obtain ⟨h1, h2, h3, h4⟩ := ixN_seq e
    exact ⟨j, h1, h, h2, h3, h4⟩
theorem atI_nat {α : Type} {xs : List α} {j : Nat} {v : α} (h : xs[j]? = some v) : atI xs (j : Int) = some v := by
  have hj : j < xs.length := (List.getElem?_eq_some_iff.mp h).1
  have e : ixN xs.length (j : Int) = some j := by
    unfold ixN
    rw [if_pos (by lia), if_pos (by lia)]; simp
  unfold atI; rw [e]; exact h
theorem atI_last {α : Type} (xs : List α) (v : α) : atI (xs ++ [v]) (-1) = some v := by
  have hl : (xs ++ [v]).length = xs.length + 1 := by simp
  have e : ixN (xs ++ [v]).length (-1) = some xs.length := by
    unfold ixN
    rw [hl, if_neg (by decide), if_pos (by lia)]
    congr 1
    lia
  unfold atI
  rw [e]
  show (xs ++ [v])[xs.length]? = some v
  simp
def PlainIx (b : Expr) : Prop := ∀ o i, subscripted b false o i = operate [o, i] (getItem o i)
def IxR (X : Cx) (r : R2) : Prop :=
  ∀ (value slice : Expr) (pins : List (Addr × Obj)) (s : Shared) (σ : St) (H : Hp) (x y : V) (v u : Value) (Q : VK), Inv X pins σ H s → RelV x v → RelV y u → r x y H Q →
    subscripted slice false v u = operate [v, u] (getItem v u) → wpAny (model X.prog X.w) X.A (subscriptTail value slice v u) (EP X pins σ Q) X.xe s
def MtR (X : Cx) (id : String) (r : V → List V → Hp → VK → Prop) : Prop :=
  ∀ (pins : List (Addr × Obj)) (s : Shared) (σ : St) (H : Hp) (x : V) (xs : List V) (v : Value) (us : List Value) (Q : VK), Inv X pins σ H s → RelV x v → Vals xs us → r x xs H Q →
    wpAny (model X.prog X.w) X.A (call (.builtin id) (v :: us)) (EP X pins σ Q) X.xe s
section
variable {X : Cx} {a b : Expr} {ta tb : TE} {pos : Pos}
theorem pe_ix {r : R2} (hr : IxR X r) (ha : PE X a ta) (hb : PE X b tb) (hs : PlainIx b) : PE X (.Subscript a b pos) (tOp r ta tb) := by
  refine ⟨?_⟩
  intro pins s σ H Q I h
  exact Subscript_ (binT ha hb I h fun v u s2 x y H2 I2 rx ry q => hr a b pins s2 σ H2 x y v u Q I2 rx ry q (hs _ _))
inductive rIxL (K : PySem.W.Frag) (x : V) (y : V) (H : Hp) (Q : VK) : Prop
  | mk (p xs i v : _) : x = .ref p → y = .int i → SqL K H p xs → atI xs i = some v → Q v H → rIxL K x y H Q
inductive rIxT (K : PySem.W.Frag) (x : V) (y : V) (H : Hp) (Q : VK) : Prop
  | mk (p xs i v : _) : x = .ref p → y = .int i → SqT K H p xs → atI xs i = some v → Q v H → rIxT K x y H Q
theorem ix_list : IxR X (rIxL X.K) := by
  intro value slice pins s σ H x y v u Q I rx ry h hs
  obtain ⟨p, xs, i, z, rfl, rfl, hq, he, q⟩ := h
  cases rx
  obtain ⟨t, rfl⟩ := ry
  obtain ⟨its, r, pl, hz⟩ := I.list hq
  obtain ⟨j, h1, h2, h3, h4, h5⟩ := atI_get he
  obtain ⟨w, ew, rw'⟩ := r.get h2
  have hl := r.length
  have hn := line63
  have fin : EP X pins σ Q w s := ⟨z, H, I, rw', q⟩
  by_cases h0 : 0 ≤ i
  · have hj : i.toNat = j := by
      rw [seqIndex_of h0 h5] at h1
      exact Option.some.inj h1
    exact item_listR pl.isList h0 (by lia) (by rw [hj]; simpa using ew) fin hs
  · have hj : (i + (its.toArray.size : Int)).toNat = j := by
      rw [seqIndex_neg (by lia) h4] at h1
      rw [List.size_toArray, ← hl]
      exact Option.some.inj h1
    exact subscriptTail_builtinR (x := w) pl.isList.typeIs slot_list_getitem.lookup
      (wpAny_getItem_list_neg (Q := fun r s' => r = w ∧ EP X pins σ Q r s') pl.isList (by lia) (by rw [List.size_toArray] <;> lia) (by lia) (by rw [hj]; simpa using ew) ⟨rfl, fin⟩) hs
theorem ix_tup : IxR X (rIxT X.K) := by
  intro value slice pins s σ H x y v u Q I rx ry h hs
  obtain ⟨p, xs, i, z, rfl, rfl, hq, he, q⟩ := h
  cases rx
  obtain ⟨t, rfl⟩ := ry
  obtain ⟨its, r, pl, hz⟩ := I.tuple hq
  obtain ⟨j, h1, h2, h3, h4, h5⟩ := atI_get he
  obtain ⟨w, ew, rw'⟩ := r.get h2
  have hl := r.length
  have hn := line63
  have fin : EP X pins σ Q w s := ⟨z, H, I, rw', q⟩
  exact subscriptTail_builtinR (x := w) pl.typeIs slot_tuple_getitem.lookup
    (getItem_tuple (j := j) (Q := fun r s' => r = w ∧ EP X pins σ Q r s') pl (by lia) (by lia) (by rw [List.size_toArray, ← hl]; exact h1) (by simpa using ew) ⟨rfl, fin⟩) hs
theorem mapSeq_set (its : List Value) (n j : Nat) (u : Value) : Obj.mapSeq (·.setIfInBounds j u) { cls := .type "list", data := .seq its.toArray n } = { cls := .type "list", data := .seq (its.set j u).toArray n } := by
  simp [Obj.mapSeq]
theorem Inv.lst {pins : List (Addr × Obj)} {σ : St} {H : Hp} {s : Shared} {p : Addr} {xs : List V} (I : Inv X pins σ H s) (h : H p = some (.lst xs)) :
    ∃ (its : List Value) (n : Nat), Vals xs its ∧ s.heap.get? p = some { cls := .type "list", data := .seq its.toArray n } ∧ xs.length ≤ sizeLine := by
  obtain ⟨z, its, n, r, e⟩ := I.hok p _ h
  exact ⟨its, n, r, e, z⟩
theorem Inv.lstUpd {pins : List (Addr × Obj)} {σ : St} {H : Hp} {s : Shared} {p : Addr} {xs ys : List V} {its its' : List Value} {n n' : Nat} {f : Obj → Obj} (I : Inv X pins σ H s) (h : H p = some (.lst xs))
    (ho : s.heap.get? p = some { cls := .type "list", data := .seq its.toArray n }) (hf : f { cls := .type "list", data := .seq its.toArray n } = { cls := .type "list", data := .seq its'.toArray n' }) (r : Vals ys its') (hz : ys.length ≤ sizeLine) (t : Nat) :
    Inv X pins σ (upd H p (.lst ys)) { s with heap := s.heap.update p f, toks := t } := by
  have e : (s.heap.update p f).get? p = some { cls := .type "list", data := .seq its'.toArray n' } := by
    rw [Heap.get?_update_self f ho (by rw [hf] <;> rfl), hf]
  refine I.write (x := p) (e := p) (by rw [h]; trivial) (.inl rfl) (fun b u hb q => (Heap.get?_update_other _ _ (Ne.symm hb)).trans q) ⟨_, e⟩ ?_
  exact ⟨hz, its', n', r, e⟩
inductive rSetL (o : V) (i : V) (v : V) (H : Hp) (Q : Hp → Prop) : Prop
  | mk (p xs k j : _) : o = .ref p → i = .int k → H p = some (.lst xs) → ixN xs.length k = some j → Q (upd H p (.lst (xs.set j v))) → rSetL o i v H Q
theorem set_list : PSet X rSetL := by
  intro pins s σ H o i v ov iv u Q I ro ri rv h
  obtain ⟨p, xs, k, j, rfl, rfl, hp, hj, q⟩ := h
  cases ro
  obtain ⟨t, rfl⟩ := ri
  obtain ⟨its, n, r, ho, hz⟩ := I.lst hp
  obtain ⟨h1, h2, h3, h4⟩ := ixN_seq hj
  have hl := r.length
  have hn := line63
  have I' : Inv X pins σ (upd H p (.lst (xs.set j v))) { s with heap := s.heap.update p (Obj.mapSeq (·.setIfInBounds j u)) } :=
    I.lstUpd hp ho (mapSeq_set its n j u) (r.set rv j) (by rw [List.length_set]; exact hz) s.toks
  by_cases h0 : 0 ≤ k
  · have hk : k.toNat = j := by
      rw [seqIndex_of h0 h4] at h1
      exact Option.some.inj h1
    exact PySem.W.ki_setAt ho h0 (by lia) (by rw [List.size_toArray, ← hl]; exact h4) (by rw [hk]; exact ⟨_, I', q⟩)
  · have hk : (k + (its.toArray.size : Int)).toNat = j := by
      rw [seqIndex_neg (by lia) h3] at h1
      rw [List.size_toArray, ← hl]
      exact Option.some.inj h1
    exact PySem.W.ki_setBack ho (by lia) (by rw [List.size_toArray, ← hl]; exact h3) (by lia) (by rw [hk]; exact ⟨_, I', q⟩)
theorem slice_bounds (lo hi : Option Int) (n : Nat) : (sliceBounds lo hi none n).1 = ((HT.sIx n 0 lo : Nat) : Int) ∧ (sliceBounds lo hi none n).2.1 = ((HT.sIx n n hi : Nat) : Int) ∧ (sliceBounds lo hi none n).2.2 = 1 := by
  refine ⟨?_, ?_, rfl⟩
  · cases lo with
    | none => simp [sliceBounds, HT.sIx]
    | some i =>
      simp only [sliceBounds, HT.sIx, Option.getD_none, show (1 : Int) > 0 by decide, if_true]
      by_cases h : i < 0
      · simp only [h, if_true] <;> lia
      · simp only [h, if_false] <;> lia
  · cases hi with
    | none => simp [sliceBounds, HT.sIx]
    | some i =>
      simp only [sliceBounds, HT.sIx, Option.getD_none, show (1 : Int) > 0 by decide, if_true]
      by_cases h : i < 0
      · simp only [h, if_true] <;> lia
      · simp only [h, if_false] <;> lia
theorem slicePick_cut (its : List Value) (lo hi : Option Int) : slicePick its.toArray lo hi none = ((its.drop (HT.sIx its.length 0 lo)).take (HT.sIx its.length its.length hi - HT.sIx its.length 0 lo)).toArray := by
  obtain ⟨h1, h2, h3⟩ := slice_bounds lo hi its.toArray.size
  unfold slicePick
  rw [h1, h2, h3]
  simp only [sliceRange_one, pick_run, List.size_toArray] <;> rfl
inductive rSlL (K : PySem.W.Frag) (x : V) (lo : Option Int) (hi : Option Int) (H : Hp) (Q : VK) : Prop
  | mk (a xs : _) : x = .ref a → SqL K H a xs → (∀ p, H p = none → Q (.ref p) (upd H p (.lst (cutV xs lo hi)))) → rSlL K x lo hi H Q
theorem sl_list : SlR X (rSlL X.K) := by
  intro pins s σ H x v vl vu lo hi sl Q I rx hs pl pu h
  obtain ⟨a, xs, rfl, hx, q⟩ := h
  cases rx
  obtain ⟨its, r, ht, hz⟩ := I.list hx
  have hlen := r.length
  refine ⟨"list", _, slot_list_getitem.lookup, ht.isList.typeIs, ?_⟩
  refine wpAny_getItem_list_slice ht.isList hs pl pu .none (by simp) ?_ (by rw [List.size_toArray] <;> lia)
  rw [slicePick_cut, ← hlen]
  refine ⟨.ref s.heap.objs.size, _, I.laid (t' := s.toks) (o := .lst (cutV xs lo hi)) (fun b ob q => Heap.get?_push_of_some _ q) (Nat.le_refl _) ?_, rfl, q _ (I.hok.fresh (Nat.le_refl _))⟩
  exact ⟨Nat.le_trans (cutV_length xs lo hi) hz, _, 0, (r.drop (HT.sIx xs.length 0 lo)).take (HT.sIx xs.length xs.length hi - HT.sIx xs.length 0 lo), Heap.get?_push_size _ rfl⟩
def flatV : V → Bool
  | .non => true
  | .bl _ => true
  | .int _ => true
  | .str _ => true
  | _ => false
def eqV : V → V → Bool
  | .non, .non => true
  | .bl a, .bl b => a == b
  | .bl a, .int b => (if a then 1 else 0) == b
  | .int a, .bl b => a == (if b then 1 else 0)
  | .int a, .int b => a == b
  | .str a, .str b => a == b
  | _, _ => false
theorem eqAt_V {A : Around} {s : Shared} {y x : V} {u v : Value} (ry : RelV y u) (rx : RelV x v) (fy : flatV y = true) (fx : flatV x = true) : SeqAt.EqAt A s u v (eqV y x) := by
  cases y with
  | non =>
    cases ry
    cases x with
    | non => cases rx; exact SeqAt.EqAt.same _
    | bl b => cases rx; exact SeqAt.EqAt.none_bool b
    | int b => obtain ⟨t, rfl⟩ := rx; exact SeqAt.EqAt.none_int b t
    | str b => obtain ⟨t, rfl⟩ := rx; exact SeqAt.EqAt.none_str b t
    | _ => exact absurd (show false = true from fx) Bool.false_ne_true
  | bl a =>
    cases ry
    cases x with
    | non => cases rx; exact SeqAt.EqAt.bool_none a
    | bl b => cases rx; exact SeqAt.EqAt.bool_bool a b
    | int b => obtain ⟨t, rfl⟩ := rx; exact SeqAt.EqAt.bool_int a b t
    | str b => obtain ⟨t, rfl⟩ := rx; exact SeqAt.EqAt.bool_str a b t
    | _ => exact absurd (show false = true from fx) Bool.false_ne_true
  | int a =>
    obtain ⟨t', rfl⟩ := ry
    cases x with
    | non => cases rx; exact SeqAt.EqAt.int_none a t'
    | bl b => cases rx; exact SeqAt.EqAt.int_bool a t' b
    | int b => obtain ⟨t, rfl⟩ := rx; exact SeqAt.EqAt.int_int a t' b t
    | str b => obtain ⟨t, rfl⟩ := rx; exact SeqAt.EqAt.int_str a t' b t
    | _ => exact absurd (show false = true from fx) Bool.false_ne_true
  | str a =>
    obtain ⟨t', rfl⟩ := ry
    cases x with
    | non => cases rx; exact SeqAt.EqAt.str_none a t'
    | bl b => cases rx; exact SeqAt.EqAt.str_bool a t' b
    | int b => obtain ⟨t, rfl⟩ := rx; exact SeqAt.EqAt.str_int a t' b t
    | str b => obtain ⟨t, rfl⟩ := rx; exact SeqAt.EqAt.str_str a t' b t
    | _ => exact absurd (show false = true from fx) Bool.false_ne_true
  | _ => exact absurd (show false = true from fy) Bool.false_ne_true
def eqU (x : V) (u : Value) : Bool := match u with
  | .none => eqV .non x
  | .bool b => eqV (.bl b) x
  | .int i _ => eqV (.int i) x
  | .str z _ => eqV (.str z) x
  | _ => false
theorem eqU_of {x y : V} {u : Value} (r : RelV y u) (f : flatV y = true) : eqU x u = eqV y x := by
  cases y with
  | non => cases r; rfl
  | bl b => cases r; rfl
  | int i => obtain ⟨t, rfl⟩ := r; rfl
  | str z => obtain ⟨t, rfl⟩ := r; rfl
  | _ => exact absurd (show false = true from f) Bool.false_ne_true
theorem any_eqU {x : V} : ∀ {xs : List V} {us : List Value}, Vals xs us → xs.all flatV = true → us.any (eqU x) = xs.any fun y => eqV y x
  | _, _, .nil, _ => rfl
  | y :: xs, u :: us, .cons r t, f => by
    rw [List.all_cons, Bool.and_eq_true] at f
    rw [List.any_cons, List.any_cons, eqU_of r f.1, any_eqU t f.2]
theorem mem_eqAt {A : Around} {s : Shared} {x : V} {v : Value} (rx : RelV x v) (fx : flatV x = true) : ∀ {xs : List V} {us : List Value}, Vals xs us → xs.all flatV = true → ∀ u ∈ us, SeqAt.EqAt A s u v (eqU x u)
  | _, _, .nil, _ => fun u hu => by cases hu
  | y :: xs, u :: us, .cons r t, f => fun u' hu => by
    rw [List.all_cons, Bool.and_eq_true] at f
    rcases List.mem_cons.mp hu with rfl | hu
    · rw [eqU_of r f.1]; exact eqAt_V r rx f.1 fx
    · exact mem_eqAt rx fx t f.2 u' hu
def inV (x : V) (xs : List V) : Bool := xs.any fun y => eqV y x
inductive rIn (K : PySem.W.Frag) (neg : Bool) (x : V) (y : V) (H : Hp) (Q : VK) : Prop
  | mk (p xs : _) : y = .ref p → (SqL K H p xs ∨ SqT K H p xs) → flatV x = true → xs.all flatV = true → Q (.bl (if neg then !inV x xs else inV x xs)) H → rIn K neg x y H Q
theorem op_in_seq : OpR X (compareOp .In) (rIn X.K false) := by
  intro pins s σ H x y v u Q I rx ry h
  obtain ⟨p, xs, rfl, hq, fx, fs, q⟩ := h
  cases ry
  rcases hq with hq | hq
  · obtain ⟨its, r, pl, hz⟩ := I.list hq
    refine SeqAt.in_listAt (eqU x) pl.isList (fun w hw => mem_eqAt rx fx r fs w (by simpa using hw)) ⟨.bl _, H, I, rfl, ?_⟩
    rw [show its.toArray.any (eqU x) = its.any (eqU x) by simp, any_eqU r fs]
    exact q
  · obtain ⟨its, r, pl, hz⟩ := I.tuple hq
    refine SeqAt.in_tupleAt (eqU x) pl (fun w hw => mem_eqAt rx fx r fs w (by simpa using hw)) ⟨.bl _, H, I, rfl, ?_⟩
    rw [show its.toArray.any (eqU x) = its.any (eqU x) by simp, any_eqU r fs]
    exact q
theorem op_notIn_seq : OpR X (compareOp .NotIn) (rIn X.K true) := by
  intro pins s σ H x y v u Q I rx ry h
  obtain ⟨p, xs, rfl, hq, fx, fs, q⟩ := h
  cases ry
  rcases hq with hq | hq
  · obtain ⟨its, r, pl, hz⟩ := I.list hq
    refine SeqAt.notIn_listAt (eqU x) pl.isList (fun w hw => mem_eqAt rx fx r fs w (by simpa using hw)) ⟨.bl _, H, I, rfl, ?_⟩
    rw [show its.toArray.any (eqU x) = its.any (eqU x) by simp, any_eqU r fs]
    exact q
  · obtain ⟨its, r, pl, hz⟩ := I.tuple hq
    refine SeqAt.notIn_tupleAt (eqU x) pl (fun w hw => mem_eqAt rx fx r fs w (by simpa using hw)) ⟨.bl _, H, I, rfl, ?_⟩
    rw [show its.toArray.any (eqU x) = its.any (eqU x) by simp, any_eqU r fs]
    exact q
theorem call_len_seq : CallR X (.builtin "len") (fun xs H Q => ∃ p ys, xs = [.ref p] ∧ (SqL X.K H p ys ∨ SqT X.K H p ys) ∧ Q (.int ys.length) H) := by
  intro pins s σ H xs us Q I r h
  obtain ⟨p, ys, rfl, hq, q⟩ := h
  obtain ⟨u, rfl, rx⟩ := vals1 r
  cases rx
  have hn := line63
  rcases hq with hq | hq
  · obtain ⟨its, r', pl, hz⟩ := I.list hq
    have hlen := r'.length
    exact Calls.call_len_list pl.isList (by simp only [List.size_toArray] <;> lia) ⟨.int ys.length, H, I.tok _, ⟨s.toks + 1, by rw [List.size_toArray, hlen]⟩, q⟩
  · obtain ⟨its, r', pl, hz⟩ := I.tuple hq
    have hlen := r'.length
    exact len_tuple pl (by simp only [List.size_toArray] <;> lia) ⟨.int ys.length, H, I.tok _, ⟨s.toks + 1, by rw [List.size_toArray, hlen]⟩, q⟩
theorem call_len_str : CallR X (.builtin "len") (fun xs H Q => ∃ z, xs = [.str z] ∧ z.length ≤ sizeLine ∧ Q (.int z.length) H) := by
  intro pins s σ H xs us Q I r h
  obtain ⟨z, rfl, hz, q⟩ := h
  obtain ⟨u, rfl, t, rfl⟩ := vals1 r
  have hn := line63
  exact len_str (by lia) ⟨.int z.length, H, I.tok _, ⟨_, rfl⟩, q⟩
theorem call_list_of : CallR X (.type "list") (fun xs H Q => ∃ p ys, xs = [.ref p] ∧ (SqL X.K H p ys ∨ SqT X.K H p ys) ∧ ∀ l, H l = none → Q (.ref l) (upd H l (.lst ys))) := by
  intro pins s σ H xs us Q I r h
  obtain ⟨p, ys, rfl, hq, q⟩ := h
  obtain ⟨u, rfl, rx⟩ := vals1 r
  cases rx
  have fin : ∀ (its : List Value), Vals ys its → ys.length ≤ sizeLine → ∀ (h' : Heap) (c' : Nat), (∀ b o', s.heap.get? b = some o' → h'.get? b = some o') →
      h'.get? s.heap.objs.size = some { cls := .type "list", dict := none, data := .seq its.toArray c', slots := #[] } → EP X pins σ Q (.ref s.heap.objs.size) { s with heap := h' } := fun its r' hz h' c' kp e =>
    ⟨.ref s.heap.objs.size, _, I.laid (t' := s.toks) kp (Nat.le_refl _) (show ObjOk X.prog X.w _ h' _ (.lst ys) from ⟨hz, its, c', r', e⟩), rfl, q _ (I.hok.fresh (Nat.le_refl _))⟩
  rcases hq with hq | hq
  · obtain ⟨its, r', pl, hz⟩ := I.list hq
    have hlen := r'.length
    obtain ⟨o, ho, hc, n, hd⟩ := pl.isList
    exact call_list_seq p (.inl rfl) ho hc hd (fun h' c' kp e => fin its r' hz h' c' kp e) (by simp only [List.size_toArray] <;> lia)
  · obtain ⟨its, r', pl, hz⟩ := I.tuple hq
    have hlen := r'.length
    obtain ⟨o, ho, hc, n, hd⟩ := pl
    exact call_list_seq p (.inr rfl) ho hc hd (fun h' c' kp e => fin its r' hz h' c' kp e) (by simp only [List.size_toArray] <;> lia)
theorem call_tuple_of : CallR X (.type "tuple") (fun xs H Q => ∃ p ys, xs = [.ref p] ∧ ((SqL X.K H p ys ∧ ∀ l, H l = none → Q (.ref l) (upd H l (.tup ys))) ∨ (SqT X.K H p ys ∧ Q (.ref p) H))) := by
  intro pins s σ H xs us Q I r h
  obtain ⟨p, ys, rfl, h⟩ := h
  obtain ⟨u, rfl, rx⟩ := vals1 r
  cases rx
  rcases h with ⟨hq, q⟩ | ⟨hq, q⟩
  · obtain ⟨its, r', pl, hz⟩ := I.list hq
    have hlen := r'.length
    refine call_tuple_list pl.isList (fun h' kp => ?_) (by simp only [List.size_toArray] <;> lia)
    have I1 : Inv X pins σ H { s with heap := h' } := I.kept (t' := s.toks) kp
    have I2 : Inv X pins σ (upd H h'.objs.size (.tup ys)) { s with heap := h'.push { cls := .type "tuple", data := .seq its.toArray } } :=
      I1.laid (t' := s.toks) (fun b o e => Heap.get?_push_of_some _ e) (Nat.le_refl _) (show ObjOk X.prog X.w _ _ _ (.tup ys) from ⟨hz, its, r', TupP.new _ _⟩)
    exact ⟨.ref h'.objs.size, _, I2, rfl, q _ (I1.hok.fresh (Nat.le_refl _))⟩
  · obtain ⟨its, r', pl, hz⟩ := I.tuple hq
    exact call_tuple_same pl ⟨.ref p, H, I, rfl, q⟩
def tyV (K : PySem.W.Frag) (T : String) (x : V) (H : Hp) : Prop := match x with
  | .str _ => T = "str"
  | .int _ => T = "int"
  | .ref p => (T = "list" ∧ ∃ xs, SqL K H p xs) ∨ (T = "tuple" ∧ ∃ o, K.lookup p = some o ∧ o.cls = .type "tuple" ∧ o.dict = none) ∨
      (T = "dict" ∧ ((∃ kvs, H p = some (.dK kvs)) ∨ ∃ kvs, H p = some (.dT kvs))) ∨ (T = "set" ∧ ∃ S n, H p = some (.set S n))
  | _ => False
theorem tyV_is {pins : List (Addr × Obj)} {σ : St} {H : Hp} {s : Shared} {T : String} {x : V} {v : Value} (I : Inv X pins σ H s) (r : RelV x v) (ty : tyV X.K T x H) :
    s.TypeIs v T ∧ ∀ a, v = .ref a → ∃ ob, s.heap.get? a = some ob ∧ ob.dict = none := by
  cases x with
  | str z =>
    obtain ⟨t, rfl⟩ := r
    cases (show T = "str" from ty)
    exact ⟨typeIs_str s z t, fun _ e => nomatch e⟩
  | int i =>
    obtain ⟨t, rfl⟩ := r
    cases (show T = "int" from ty)
    exact ⟨typeIs_int s i t, fun _ e => nomatch e⟩
  | ref p =>
    cases r
    rcases ty with ⟨rfl, xs, hq⟩ | ⟨rfl, o, hk, hc, hd⟩ | ⟨rfl, hk⟩ | ⟨rfl, S, n, hk⟩
    · obtain ⟨its, _, pl, _⟩ := I.list hq
      refine ⟨pl.isList.typeIs, fun a e => ?_⟩
      cases e
      obtain ⟨o, n, e, c, hd, _⟩ := pl
      exact ⟨o, e, hd⟩
    · refine ⟨⟨o, I.kIn p o hk, hc⟩, fun a e => ?_⟩
      cases e
      exact ⟨o, I.kIn _ o hk, hd⟩
    · have z : ∃ o, s.heap.get? p = some o ∧ o.ExactDict := by
        rcases hk with ⟨kvs, hk⟩ | ⟨kvs, hk⟩
        · obtain ⟨_, _, _, _, o, _, _, e, ex, _⟩ := I.hok p _ hk
          exact ⟨o, e, ex⟩
        · obtain ⟨_, _, _, _, o, _, _, e, ex, _⟩ := I.hok p _ hk
          exact ⟨o, e, ex⟩
      obtain ⟨o, e, ex⟩ := z
      refine ⟨⟨o, e, ex.1⟩, fun a e2 => ?_⟩
      cases e2
      exact ⟨o, e, ex.2.1⟩
    · obtain ⟨o, _, _, _, e, ex, _⟩ := I.hok p _ hk
      refine ⟨⟨o, e, ex.1⟩, fun a e2 => ?_⟩
      cases e2
      exact ⟨o, e, ex.2.1⟩
  | _ => exact False.elim ty
def tBM (K : PySem.W.Frag) (T : String) (r : V → List V → Hp → VK → Prop) (to : TE) (t : TA) : TE := fun σ H Q => to σ H fun x H1 => tyV K T x H1 ∧ t σ H1 fun xs H2 => r x xs H2 Q
variable {o e : Expr} {es : List Expr} {to : TE} {t : TA} {name : Str} {apos cpos : Pos} {T id : String} {r : V → List V → Hp → VK → Prop}
theorem pe_bm (pa : PlainAttrs T) (slot : Slot T name id) (hty : typeOf (.builtin id) = pure (.type "method_descriptor")) (hm : MtR X id r) (ho : PE X o to) (ha : PA X (e :: es) t)
    (hbase : attributeBase o name X.env (eval o X.env) = eval o X.env := by rfl)
    (hfew : ((backTo cpos (starEach (e :: es) X.env)).all (fun x => !x.1) && (backToKw cpos (keywordEach [] X.env)).all (fun x => x.1.isSome)
      && decide ((e :: es).length + ([] : List Keyword).length + (if ([] : List Keyword).isEmpty then 0 else 1) < 30)) = true := by rfl)
    (hline : (apos.endLine == cpos.line) = true := by rfl) (hs : starEach (e :: es) X.env = (false, eval e X.env) :: starEach es X.env := by rfl) (hplain : (backTo cpos (starEach es X.env)).any (·.1) = false := by rfl) :
    PE X (.Call (.Attribute o name apos) (e :: es) [] cpos) (tBM X.K T r to t) := by
  refine ⟨?_⟩
  intro pins s σ H Q I h
  refine wpAny_Call_method_late hbase hfew hline rfl (thn (ho pins s σ H _ I h) fun v s1 ⟨x, H1, I1, r1, ty, q1⟩ => ?_)
  obtain ⟨h1, h2⟩ := tyV_is I1 r1 ty
  refine ⟨T, id, pa, slot, hty, h1, h2, ?_⟩
  have hA := ha cpos pins s1 σ H1 _ I1 q1
  rw [hs] at hA ⊢
  refine Calls.callWith_builtin (by show (false || (backTo cpos (starEach es X.env)).any (·.1)) = false; rw [hplain] <;> rfl) (Calls.evalArgs_plain ?_)
  exact thn hA fun us s2 ⟨vs, H2, I2, r2, q2⟩ => hm pins s2 σ H2 x vs v us Q I2 r1 r2 q2
/- xs.append(e), list.index on a module's tuple .. are MtR facts of 06m -/
end
end L2
namespace L2
open PySem PySem.Spec PyProof.Rows
def MtM (X : Cx) (id : String) (r : V → List V → Hp → VK → Prop) : Prop :=
  ∀ (pins : List (Addr × Obj)) (s : Shared) (σ : St) (H : Hp) (x : V) (xs : List V) (v : Value) (us : List Value) (Q : VK), Inv X pins σ H s → RelV x v → Vals xs us → r x xs H Q →
    wpAny (model X.prog X.w) X.A (call (.builtin id) (v :: us)) (EP X pins σ Q) X.xe s
theorem Vals.one : ∀ {x : V} {us : List Value}, Vals [x] us → ∃ u, us = [u] ∧ RelV x u
  | _, _, .cons r .nil => ⟨_, rfl, r⟩
section
variable {X : Cx} {pins : List (Addr × Obj)} {σ : St} {H : Hp} {s : Shared} {l b : Addr} {xs ys zs : List V}
theorem Inv.lset {its its' : List Value} {n : Nat} {f : Array Value → Array Value} {t' : Nat} (I : Inv X pins σ H s) (hH : H l = some (.lst xs))
    (e : s.heap.get? l = some { cls := .type "list", data := .seq its.toArray n }) (hf : f its.toArray = its'.toArray) (hv : Vals ys its') (hz : ys.length ≤ sizeLine) :
    Inv X pins σ (upd H l (.lst ys)) { s with heap := s.heap.update l (Obj.mapSeq f), toks := t' } := by
  have q := PySem.IsL.update e f
  rw [hf] at q
  refine I.write (x := l) (e := l) (by rw [hH]; exact trivial) (.inl rfl) (fun b' u hb hu => (Heap.get?_update_other s.heap (Obj.mapSeq f) (Ne.symm hb)).trans hu) ⟨_, q⟩ ?_
  exact ⟨hz, its', _, hv, q⟩
theorem Inv.lnew {its : List Value} {t' : Nat} (I : Inv X pins σ H s) (hv : Vals ys its) (hz : ys.length ≤ sizeLine) :
    Inv X pins σ (upd H s.heap.objs.size (.lst ys)) { s with heap := s.heap.push { cls := .type "list", data := .seq its.toArray }, toks := t' } :=
  I.laid (fun _ _ q => Heap.get?_push_of_some _ q) (Nat.le_refl _) ⟨hz, its, 0, hv, Heap.get?_push_size _ rfl⟩
theorem Inv.fresh (I : Inv X pins σ H s) : H s.heap.objs.size = none := I.hok.fresh (Nat.le_refl _)
theorem Inv.lstM (I : Inv X pins σ H s) (hH : H l = some (.lst xs)) : xs.length ≤ sizeLine ∧ ∃ (its : List Value) (n : Nat), Vals xs its ∧ xs.length = its.length ∧ s.heap.get? l = some { cls := .type "list", data := .seq its.toArray n } := by
  obtain ⟨z, its, n, r, e⟩ := I.hok l _ hH
  exact ⟨z, its, n, r, r.length, e⟩
end
section
variable {X : Cx}
inductive rAppend (x : V) (vs : List V) (H : Hp) (Q : VK) : Prop
  | mk (l xs y : _) : x = .ref l → vs = [y] → H l = some (.lst xs) → xs.length < sizeLine → Q .non (upd H l (.lst (xs ++ [y]))) → rAppend x vs H Q
theorem mt_append : MtM X "list.append" rAppend := by
  intro pins s σ H x vs v us Q I rx rv h
  obtain ⟨l, xs, y, rfl, rfl, hH, hz, q⟩ := h
  cases rx
  obtain ⟨u, rfl, ru⟩ := rv.one
  obtain ⟨z, its, n, r, hl, e⟩ := I.lstM hH
  refine call_meets F.slot_list_append ⟨_, e, rfl⟩ F.entry_list_append (F.args_list_append_2 _ _) (PySem.list_append l its.toArray n u (by rw [List.size_toArray]; lia)) ⟨e, ?_⟩
  refine ⟨.non, _, I.lset (its' := its ++ [u]) hH e (by simp) (r.append (.cons ru .nil)) ?_, rfl, q⟩
  rw [List.length_append, List.length_singleton]
  lia
inductive rCat (x : V) (y : V) (H : Hp) (Q : VK) : Prop
  | mk (l b xs zs : _) : x = .ref l → y = .ref b → H l = some (.lst xs) → H b = some (.lst zs) → xs.length + zs.length ≤ sizeLine → (∀ p, H p = none → Q (.ref p) (upd H p (.lst (xs ++ zs)))) → rCat x y H Q
theorem op_cat : OpR X (binaryOp .Add) rCat := by
  intro pins s σ H x y v u Q I rx ry h
  obtain ⟨l, b, xs, zs, rfl, rfl, hH, hB, hz, q⟩ := h
  cases rx
  cases ry
  obtain ⟨z, its, n, r, hl, e⟩ := I.lstM hH
  obtain ⟨z2, its2, n2, r2, hl2, e2⟩ := I.lstM hB
  refine PySem.P.add_list e e2 ?_ (by rw [List.size_toArray, List.size_toArray]; lia)
  have ea : its.toArray ++ its2.toArray = (its ++ its2).toArray := by simp
  rw [ea]
  exact ⟨.ref _, _, I.lnew (t' := s.toks) (r.append r2) (by rw [List.length_append]; lia), rfl, q _ I.fresh⟩
end
end L2
namespace Att
open PySem PySem.W PySem.Calls PyProof.Rows
theorem ints_of_wellAll {P : Params} {h : Heap} : ∀ (ns : List Int) (vs : List Value), WellAll P h vs (ns.map WData.int) → IntsAre vs ns := by
  intro ns
  induction ns with
  | nil =>
    intro vs w
    rw [List.map_nil] at w
    cases w
    exact .nil
  | cons n ns ih =>
    intro vs w
    rw [List.map_cons] at w
    cases w with
    | cons a b =>
      cases a
      exact .cons _ _ (ih _ b)
theorem script_of {l : OpenLaw} {n : Nat} (hn : l.most = some n) {P : Params} {h : Heap} {args : List WData} {vals : List Value}
    (hpre : l.row.toRowW.claim.pre args = true) (hwl : WellAll P h vals args) :
    ∃ a vs ns, vals = [Value.ref a] ∧ args = [WData.list (ns.map WData.int)] ∧ h.get? a = some { cls := .type "list", data := .seq vs.toArray } ∧ IntsAre vs ns ∧ ns.length ≤ n := by
  have hsh : WShape.hasAll [] args [.list .int] = true := (pre_splitW hpre).1
  have hc : l.pre.holds [] { args := args } = true := (pre_splitW hpre).2
  obtain ⟨d, r, rfl, h1, h2⟩ := hasAllW_cons hsh
  obtain rfl := hasAllW_nil h2
  obtain ⟨xs, rfl, h3⟩ := hasW_list h1
  obtain ⟨ns, rfl⟩ := items_int h3
  have hlen : ns.length ≤ n := by
    unfold OpenLaw.pre at hc
    have h4 : (WTm.not (.lt (.lit (.int (n : Int))) (.len (.arg 0)))).holds [] { args := [.list (ns.map .int)] } = true := by
      have h4 := (holds_andW hc).1
      rw [hn] at h4
      exact h4
    have h5 := condW_of h4 (w_not (w_lt w_lit (w_len_list (w_arg rfl))))
    rw [List.length_map] at h5
    refine Nat.le_of_not_lt fun q => ?_
    have q' : (n : Int) < ((ns.length : Nat) : Int) := by lia
    first
      | (rw [decide_eq_true q'] at h5; exact absurd h5 (by decide))
      | (simp at h5; lia)
  cases hwl with
  | cons w1 w2 =>
    cases w2
    cases w1 with
    | list ho hall => exact ⟨_, _, ns, rfl, rfl, ho, ints_of_wellAll ns _ hall, hlen⟩
theorem post_true (l : OpenLaw) (args : List WData) : l.row.toRowW.claim.post args (.bool true) args = true :=
  postW_of (r := l.row.toRowW) (X := (true == true))
    (show WShape.has [] (.bool true) .bool = true by first | rfl | decide | simp [WShape.has, WShape.arms, WShape.armsAll])
    (show (WTm.eq .res (.lit (.bool true))).value [] { args := args, res := some (.bool true), after := args } = some (.bool (true == true)) from w_eq_bool (w_res rfl) w_lit) rfl
theorem attach_call {l : OpenLaw} {n : Nat} {q : Program} {loose : List Str} {XP : (Str → Option Value) → Heap → Prop} {YP : World → Heap → Prop} {d : DefRec}
    (hn : l.most = some n) (hdf : d.params.defaults = [])
    (call : ∀ (w : World) (s₀ s₁ : Shared) (mg mb : Str → Option Value) (fa : Addr) (o : Obj) (pm cd doc : Value) (a : Addr) (vs : List Value) (ns : List Int),
      Ground q loose [] XP w s₀ mg mb s₁.heap → YP w s₁.heap →
      s₁.heap.get? fa = some o → o.data = .func (docDef d.name d.params d.body d.scope pm cd doc) → s₁.heap.CodeRec cd d.name → mg d.name = some (.ref fa) →
      s₁.heap.get? a = some { cls := .type "list", data := .seq vs.toArray } → IntsAre vs ns → ns.length ≤ n → s₁.gens = #[] →
      codeAny (model l.prog w) callerA (.call (.ref fa) ⟨[.ref a], []⟩) (fun r s' => r = .ok (.ret (.bool true)) ∧ OldK s₁.heap s'.heap ∧ s'.os = s₁.os ∧ AllBare s'.gens) s₁) :
    WalkO q loose XP YP l.row.toRowW d [] (fun f vs => PySem.call f vs) := by
  intro w s₀ s₁ mg mb G Y fa o pm cd doc dV kV ho hd hcd hD hmg hg args vals as hpre hlay hrd hwl hlo
  obtain rfl : dV = .none := Dflts.none hD hdf
  obtain rfl : kV = .none := Dflts.noKw hD
  obtain ⟨a, vs, ns, rfl, rfl, hobj, hints, hlen⟩ := script_of hn hpre hwl
  refine enter_call (codeAny_mono (call w s₀ s₁ mg mb fa o pm cd doc a vs ns G Y ho (fd_plain hd) hcd hmg hobj hints hlen hg) fun r s' hq => ?_)
  obtain ⟨rfl, h2, h3, h4⟩ := hq
  exact ⟨.inl ⟨.bool true, .bool true, [], rfl, fun _ => rfl, .bool true, post_true l _, fun _ => ⟨List.Pairwise.nil, fun _ hm => (nomatch hm)⟩⟩, h2, h3, h4⟩
section
variable {prog : Program} {w : World} {A : Around} {E : Value → Shared → Prop} {s : Shared} {K : Frag}
end
end Att
namespace L2
open PySem PySem.Spec PyProof.Rows
theorem vals_ints : ∀ {vs : List Value} {ns : List Int}, IntsAre vs ns → Vals (ns.map V.int) vs
  | _, _, .nil => .nil
  | _, _, .cons n t h => .cons ⟨t, rfl⟩ (vals_ints h)
def Only (H : Hp) : Prop := ∀ b, H b = none ∨ ∃ o xs, H b = some (.frz o (.lst xs))
theorem law_call {P : Program} {w : World} {K : PySem.W.Frag} {mg mb : Str → Option Value} {CX : CXT} {k : Nat} {fa a : Addr} {fd : FuncData} {x : Str} {sp : Sp} {s₁ : Shared} {vs : List Value} {ns : List Int}
    (KX : K.In s₁.heap) (hns : s₁.heap.Ns mainGlobals mg) (hb : s₁.heap.Ns builtinsNs mb) (hbb : ∀ x : Str, x ≠ "__name__" → mb x = bootBuiltins x) (hlim : s₁.heap.NoLimit) (hg : s₁.gens = #[])
    (ha : s₁.heap.get? a = some { cls := .type "list", data := .seq vs.toArray }) (hi : IntsAre vs ns) (hl : ns.length ≤ sizeLine) (hr : Room k callerA)
    (F : ∀ base : Heap, K.In base → base.Ns mainGlobals mg → FnOk P w K mg base CX k fa fd [x] sp) (hbind : ∀ (s : Shared) (u : Value), BindsTo s fd ⟨[u], []⟩ [(x, u)])
    (hsp : ∀ H : Hp, Only H → SqL K H a (ns.map V.int) → sp [.ref a] H (fun v _ => v = .bl true) fun _ _ _ => False)
    (hCX : ∀ H e s', CX [] H s₁ (fun _ _ _ => False) e s' → False) :
    codeAny (model P w) callerA (.call (.ref fa) ⟨[.ref a], []⟩) (fun r s' => r = .ok (.ret (.bool true)) ∧ OldK s₁.heap s'.heap ∧ s'.os = s₁.os ∧ AllBare s'.gens) s₁ := by
  have rv := vals_ints hi
  have lenV := hi.length
  -- from an abstract heap in which nothing but the script may be tracked
  have core : ∀ H : Hp, Only H → SqL K H a (ns.map V.int) → HOk P w H s₁.heap → (∀ b, H b ≠ none → b = a) → (H a ≠ none → K.lookup a = none) →
      codeAny (model P w) callerA (.call (.ref fa) ⟨[.ref a], []⟩) (fun r s' => r = .ok (.ret (.bool true)) ∧ OldK s₁.heap s'.heap ∧ s'.os = s₁.os ∧ AllBare s'.gens) s₁ := by
    intro H hO hS hok hA hK
    have base_of : ∀ {b : Addr} {o : Obj}, s₁.heap.get? b = some o → H b = none → (hidT s₁.heap H).get? b = some o := fun e n => hidT_get e n
    have noA : ∀ {b : Addr} {o : Obj} {es : Array DictEntry} {ep : Nat}, s₁.heap.get? b = some o → o.data = .dict es ep → H b = none := fun {b o es ep} e d => by
      cases q : H b with
      | none => rfl
      | some u =>
        have e' : b = a := hA b (by rw [q]; simp)
        subst e'
        rw [ha] at e; cases e
        have d' : Data.seq vs.toArray _ = Data.dict es ep := d
        cases d'
    have nsK : ∀ {b : Addr} {m : Str → Option Value}, s₁.heap.Ns b m → (hidT s₁.heap H).Ns b m := fun {b m} ⟨o, es, ep, e, d, r⟩ => ⟨o, es, ep, base_of e (noA e d), d, r⟩
    have hKb : K.In (hidT s₁.heap H) := fun b o e => base_of (KX b o e) (by
      cases q : H b with
      | none => rfl
      | some u =>
        have e' : b = a := hA b (by rw [q]; simp)
        subst e'
        rw [hK (by rw [q]; simp)] at e; cases e)
    have hM : Mod K mg (hidT s₁.heap H) := ⟨hKb, nsK hns, ⟨mb, nsK hb, hbb⟩, let ⟨mc, h1, h2⟩ := hlim; ⟨mc, nsK h1, h2⟩⟩
    have e0 : Env0 P w K mg (hidT s₁.heap H) callerA [] s₁ H := ⟨rfl, hM, fun b o e => of_hidT e, Nat.le_of_eq (hidT_size _ _), trivial, fun b hb => absurd (show b ∈ ([] : List Addr) from hb) (by simp), hok, .of_eq hg⟩
    refine codeAny_mono ((F _ hKb (nsK hns)).run callerA [] s₁ H ⟨[.ref a], []⟩ [.ref a] [.ref a] _ _ hr e0 (hbind s₁ (.ref a)) (.cons rfl .nil) (hsp H hO hS)) fun r s' h => ?_
    cases r with
    | error e => exact (hCX H e s' h).elim
    | ok fl =>
      cases fl with
      | next => exact False.elim h
      | brk => exact False.elim h
      | cont => exact False.elim h
      | ret u =>
        obtain ⟨v, H', os, bare, un, hok', r', q⟩ := h
        have q' : v = .bl true := q
        subst q'
        obtain rfl : u = Value.bool true := r'
        refine ⟨rfl, OldK.of_keep fun b o e => ?_, os, bare⟩
        cases q : H b with
        | none => exact un.keep b o e q (by intro z; exact absurd (show b ∈ ([] : List Addr) from z) (by simp)) (by simp)
        | some u =>
          rcases hO b with z | ⟨ob, xs, z⟩
          · rw [q] at z; cases z
          · have z2 := un.frzs b ob _ z
            obtain ⟨e1, _⟩ := hok b _ z
            obtain ⟨e2, _⟩ := hok' b _ z2
            rw [e] at e1; cases e1
            exact e2
  cases hk : K.lookup a with
  | some o =>
    -- the script is one of the module's own objects
    have e := KX a o hk
    rw [ha] at e
    cases e
    refine core (fun _ => none) (fun _ => .inl rfl) (.inr ⟨_, vs.toArray, _, hk, rfl, rfl, rfl, by rw [List.size_toArray, lenV]; exact hl, by simpa using rv⟩) (fun b u z => by have z' : (none : Option HO) = some u := z; cases z') (fun b z => absurd rfl z) fun z => absurd rfl z
  | none =>
    refine core (fun b => if b = a then some (.frz { cls := .type "list", data := .seq vs.toArray } (.lst (ns.map V.int))) else none) (fun b => ?_) (.inl (.inr ⟨{ cls := .type "list", data := .seq vs.toArray }, if_pos rfl⟩)) (fun b u z => ?_) (fun b z => ?_) fun _ => hk
    · by_cases hb : b = a
      · exact .inr ⟨_, _, if_pos hb⟩
      · exact .inl (if_neg hb)
    · by_cases hb : b = a
      · have z' := (if_pos hb).symm.trans z
        cases z'
        subst hb
        exact ⟨ha, by rw [List.length_map]; exact hl, vs, _, rv, ha⟩
      · have z' := (if_neg hb).symm.trans z
        cases z'
    · by_cases hb : b = a
      · exact hb
      · exact absurd (if_neg hb) z
end L2
namespace L2
open PySem PySem.Spec PyProof.Rows
theorem walk_of {l : PySem.W.OpenLaw} {n k : Nat} {q : Program} {loose : List Str} {XP : (Str → Option Value) → Heap → Prop} {YP : World → Heap → Prop} {d : DefRec} {K : Params → PySem.W.Frag} {CX : World → CXT} {sp : World → Sp} {x : Str}
    (hn : l.most = some n) (hn2 : n ≤ sizeLine) (hdf : d.params.defaults = []) (hr : Room k callerA)
    (hY : ∀ (w : World) (h : Heap), YP w h → (K w.params).In h)
    (F : ∀ (w : World) (mg : Str → Option Value) (fa : Addr) (h : Heap), (K w.params).In h → h.Ns mainGlobals mg → mg d.name = some (.ref fa) →
      ∃ fd : FuncData, (∀ (s : Shared) (u : Value), BindsTo s fd ⟨[u], []⟩ [(x, u)]) ∧
        ∀ base : Heap, (K w.params).In base → base.Ns mainGlobals mg → FnOk l.prog w (K w.params) mg base (CX w) k fa fd [x] (sp w))
    (hsp : ∀ (w : World) (H : Hp) (a : Addr) (ns : List Int), ns.length ≤ n → Only H → SqL (K w.params) H a (ns.map V.int) → sp w [.ref a] H (fun v _ => v = .bl true) fun _ _ _ => False)
    (hCX : ∀ (w : World) (H : Hp) (s : Shared) (e : Value) (s' : Shared), CX w [] H s (fun _ _ _ => False) e s' → False) :
    PySem.W.WalkO q loose XP YP l.row.toRowW d [] (fun f vs => PySem.call f vs) := by
  refine Att.attach_call hn hdf fun w s₀ s₁ mg mb fa o pm cd doc a vs ns G Y ho hd hcd hmg hobj hints hlen hg => ?_
  have KX := hY w _ Y
  obtain ⟨fd, hb, hF⟩ := F w mg fa _ KX G.T.g hmg
  exact law_call KX G.T.g G.T.b G.T.builtins G.T.nolimit hg hobj hints (Nat.le_trans hlen hn2) hr hF hb (fun H hO hS => hsp w H a ns hlen hO hS) fun H e s' => hCX w H s₁ e s'
theorem walk_ofK {l : PySem.W.OpenLaw} {n k : Nat} {q : Program} {loose : List Str} {XP : (Str → Option Value) → Heap → Prop} {YP : World → Heap → Prop} {d : DefRec} {K : Params → PySem.W.Frag} {CX : CXT} {sp : PySem.W.Frag → Sp} {x : Str}
    (hn : l.most = some n) (hn2 : n ≤ sizeLine) (hdf : d.params.defaults = []) (hr : Room k callerA)
    (hY : ∀ (w : World) (h : Heap), YP w h → (K w.params).In h)
    (F : ∀ (w : World) (mg : Str → Option Value) (fa : Addr) (h : Heap), (K w.params).In h → h.Ns mainGlobals mg → mg d.name = some (.ref fa) →
      ∃ fd : FuncData, (∀ (s : Shared) (u : Value), BindsTo s fd ⟨[u], []⟩ [(x, u)]) ∧
        ∀ base : Heap, (K w.params).In base → base.Ns mainGlobals mg → FnOk l.prog w (K w.params) mg base CX k fa fd [x] (sp (K w.params)))
    (hsp : ∀ (K : PySem.W.Frag) (H : Hp) (a : Addr) (ns : List Int), ns.length ≤ n → Only H → SqL K H a (ns.map V.int) → sp K [.ref a] H (fun v _ => v = .bl true) fun _ _ _ => False)
    (hCX : ∀ (H : Hp) (s : Shared) (e : Value) (s' : Shared), CX [] H s (fun _ _ _ => False) e s' → False) :
    PySem.W.WalkO q loose XP YP l.row.toRowW d [] (fun f vs => PySem.call f vs) :=
  walk_of (K := K) (CX := fun _ => CX) (sp := fun w => sp (K w.params)) hn hn2 hdf hr hY F (fun w H a ns h1 h2 h3 => hsp (K w.params) H a ns h1 h2 h3) fun _ H s e s' => hCX H s e s'
end L2
/- THE LAST THEOREM (shape; LID, My.* are yours):
   My.Adr: a structure of the addresses that your layer names (classes, functions); My.Txt K t: a structure (Prop) of the equations over K;
   My.txt_mk : {K} {implicit addresses ..} (e1 : nsIn K mainGlobals "law" = some (some (.ref f))) (e2 : K.lookup f = some ⟨oc, od, .func (fnOf "law" "law" params body scope dV kV doc pm an cdv ct), sl⟩) (e3 : codeIn K cdv "law" = true) .. : ∃ t, My.Txt K t
set_option maxRecDepth 100000 in
set_option maxHeartbeats 0 in
theorem PySem.Challenge.cw_LID_holds : PySem.Challenge.rw_LID.Holds := by
  w_on; o_law; k_head; (case hw => w_witness2)
  k_fill
  refine L2.walk_of (l := PySem.Challenge.rw_LID) (n := 63) (k := 40) (x := "script") (CX := fun w => ..) (sp := fun _ => My.sp_law) rfl (by decide) rfl ⟨rfl, by decide, by decide⟩ (fun w h Y => PySem.W.kIn_of Y) ?F ?S ?C
  case F =>
    intro w mg fa h KX G hmg
    have T : ∃ t, My.Txt (L2.KOf KX) t := by
      dsimp only [L2.KOf]                          -- K must stand as «<heap const> w.params» for k_is
      refine' My.txt_mk ?e1 ?e2 ?e3 ..
      (case e1 => PySem.W.k_is)                    -- in the order: a name -> its address -> its object -> its parts
      (case e2 => PySem.W.k_is)
      ..
    obtain ⟨t, T⟩ := T
    have e0 := hmg.symm.trans (PySem.W.mg_of KX G T.law)
    cases e0                                       -- fa is the law's own address
    exact ⟨_, fun s u => .of_eq rfl, fun base kb nb => My.law_fn T kb nb⟩     -- if «.of_eq rfl» comes too early: refine' ⟨_, ?b, fun base kb nb => My.law_fn T kb nb⟩; exact fun s u => .of_eq rfl
  case S => exact fun w H a ns hl hO hS => ..
  case C => exact ..
(the tactic k_is has no namespace: write k_is) -/
namespace L2
open PySem PySem.Spec PyProof.Rows
def inClass (s : Stmt) (j : Nat) : Stmt := match s with
  | .ClassDef _ _ _ body _ _ _ _ _ _ _ => body.getD j (.Pass ⟨0, 0, 0, 0⟩)
  | _ => .Pass ⟨0, 0, 0, 0⟩
def defArgs (s : Stmt) : Arguments := match s with
  | .FunctionDef _ a _ _ _ _ _ _ _ _ => a
  | _ => { posonlyargs := [], args := [], vararg := none, kwonlyargs := [], kw_defaults := [], kwarg := none, defaults := [] }
def defBody (s : Stmt) : List Stmt := match s with
  | .FunctionDef _ _ b _ _ _ _ _ _ _ => b
  | _ => []
def defScope (s : Stmt) : Scope := match s with
  | .FunctionDef _ _ _ _ _ _ sc _ _ _ => sc
  | _ => { kind := .function, names := [], isGenerator := false, isCoroutine := false }
abbrev CX0 : CXT := fun _ _ _ _ _ _ => False
abbrev E0 : XK := fun _ _ _ => False
theorem pass0 {X : Cx} : Passes CX0 X E0 := fun _ _ _ _ _ _ _ h => h.elim
structure Fun (K : PySem.W.Frag) (x qual : Str) (st : Stmt) (f : Addr) (fd : FuncData) : Prop where
  ex : ∃ (oc : Value) (od : Option Addr) (kV doc pm : Value) (an : Option Addr) (cdv ct : Value) (osl : Array (Option Value)),
    fd = PySem.W.fnOf x qual (defArgs st) (defBody st) (defScope st) .none kV doc pm an cdv ct ∧ K.lookup f = some ⟨oc, od, .func fd, osl⟩ ∧ PySem.W.codeIn K cdv qual = true
  kp : PySem.W.keepIn K (.ref f) = true
section
variable {P : Program} {w : World} {K : PySem.W.Frag} {mg : Str → Option Value} {base : Heap}
theorem Fun.ok {x qual : Str} {st : Stmt} {f : Addr} {fd : FuncData} {N ps : List Str} {k : Nat} {sp : Sp} (F : Fun K x qual st f fd) (S : FnScope N ps (defScope st)) (len : ∀ vs H Q E, sp vs H Q E → vs.length = ps.length)
    (hbody : ∀ (cdv : Value) (A : Around) (outer : List Env) (s : Shared) (H : Hp) (vs : List V) (Q : VK) (E : XK), Room k (A.deeper (envOfC qual (defScope st) s.heap.objs.size f cdv)) → sp vs H Q E →
      ∃ t, PSs (cxOf CX0 P w K mg base N qual (defScope st) f cdv A outer s H E).nox (defBody st) t ∧ t { nx := fun _ H' => Q .non H', rt := Q } (start N vs) H) : FnOk P w K mg base CX0 (k + 1) f fd ps sp := by
  obtain ⟨oc, od, kV, doc, pm, an, cdv, ct, osl, rfl, lk, hcd⟩ := F.ex
  refine fn_of lk hcd S len fun A outer s H vs Q E hr hsp => ?_
  obtain ⟨t, h, q⟩ := hbody cdv A outer s H vs Q E hr hsp
  exact ⟨t, h.nox, q⟩
theorem Fun.binds {x qual : Str} {st : Stmt} {f : Addr} {fd : FuncData} {ps : List Str} (F : Fun K x qual st f fd)
    (h : ∀ (kV doc pm : Value) (an : Option Addr) (cdv ct : Value) (us : List Value), us.length = ps.length → bindArgs (PySem.W.fnOf x qual (defArgs st) (defBody st) (defScope st) .none kV doc pm an cdv ct) ⟨us, []⟩ = pure (ps.zip us)) : Binds K fd ps [] := by
  obtain ⟨oc, od, kV, doc, pm, an, cdv, ct, osl, rfl, lk, hcd⟩ := F.ex
  exact .all (h kV doc pm an cdv ct)
theorem fun_mk {x qual : Str} {st : Stmt} {f : Addr} {oc : Value} {od an : Option Addr} {osl : Array (Option Value)} {kV doc pm cdv ct : Value} (l : K.lookup f = some ⟨oc, od, .func (PySem.W.fnOf x qual (defArgs st) (defBody st) (defScope st) .none kV doc pm an cdv ct), osl⟩)
    (c : PySem.W.codeIn K cdv qual = true) (k : PySem.W.keepIn K (.ref f) = true) : Fun K x qual st f (PySem.W.fnOf x qual (defArgs st) (defBody st) (defScope st) .none kV doc pm an cdv ct) := ⟨⟨oc, od, kV, doc, pm, an, cdv, ct, osl, rfl, l, c⟩, k⟩
end
theorem hu_of {A : Around} {k : Nat} (hr : Room k A) : A.units + 1 < cLine := Nat.lt_of_le_of_lt (Nat.add_le_add_left (by decide : 1 ≤ 64) _) hr.units
section
variable {X : Cx}
theorem pv (i : Nat) {x : Str} {pos : Pos} (hN : X.N[i]? = some x := by rfl) (hv : Vis X.env.scope x := by first | exact Or.inl rfl | exact Or.inr (Or.inl rfl) | exact Or.inr (Or.inr rfl)) (hd : (x == ("__debug__" : Str)) = false := by decide)
    (hcd : (x == ("__classdict__" : Str)) = false := by decide) : PE X (.Name x pos) (tVar i) := pe_var hN hv hd hcd
end
theorem iteF {A B : Prop} (h : B) : if false = true then A else B := by
  rw [if_neg Bool.false_ne_true]
  exact h
theorem iteT {A B : Prop} (h : A) : if true = true then A else B := by
  rw [if_pos rfl]
  exact h
theorem ite2 {c A B : Prop} [Decidable c] (h1 : c → A) (h2 : ¬ c → B) : if c then A else B := by
  by_cases h : c
  · rw [if_pos h]
    exact h1 h
  · rw [if_neg h]
    exact h2 h
def Same (H H' : Hp) : Prop := ∀ b o, H b = some o → H' b = some o
theorem Same.refl (H : Hp) : Same H H := fun _ _ h => h
theorem Same.trans {H H1 H2 : Hp} (a : Same H H1) (b : Same H1 H2) : Same H H2 := fun c o h => b c o (a c o h)
theorem Same.free {H H' : Hp} (e : Same H H') {l : Addr} (h : H' l = Option.none) : H l = Option.none := by
  cases q : H l with
  | none => rfl
  | some o =>
    rw [e l o q] at h
    cases h
theorem Same.seq {K : PySem.W.Frag} {H H' : Hp} {a : Addr} {xs : List V} (e : Same H H') (h : SqL K H a xs) : SqL K H' a xs := by
  rcases h with (h | ⟨o, h⟩) | h
  · exact .inl (.inl (e _ _ h))
  · exact .inl (.inr ⟨o, e _ _ h⟩)
  · exact .inr h
end L2
namespace L2
open PySem PySem.Spec PyProof.Rows
theorem closure_go (env : Env) : ∀ (names : List (Str × NameKind)) (cs : List (Str × Addr)), (∀ x ∈ names, x.2 = .free → ∃ c, env.cells.lookup x.1 = some c) → (∀ x c, cs.lookup x = some c → env.cells.lookup x = some c) →
    ∃ cl, (forIn names cs fun (p : Str × NameKind) (r : List (Str × Addr)) => (if (p.2 == NameKind.free) = true then do let c ← cellOf env p.1; pure (ForInStep.yield ((p.1, c) :: r)) else pure (ForInStep.yield r) : Sem (ForInStep (List (Str × Addr))))) = (pure cl : Sem (List (Str × Addr))) ∧
      (∀ x c, cl.lookup x = some c → env.cells.lookup x = some c) ∧ (∀ x, (∃ c, cs.lookup x = some c) → ∃ c, cl.lookup x = some c) ∧ ∀ x ∈ names, x.2 = .free → ∃ c, cl.lookup x.1 = some c
  | [], cs, _, h => ⟨cs, rfl, h, fun _ z => z, fun _ z => nomatch z⟩
  | (n, k) :: r, cs, hn, h => by
    by_cases e : k = .free
    · subst e
      obtain ⟨c, hc⟩ := hn (n, .free) List.mem_cons_self rfl
      have h' : ∀ x c', ((n, c) :: cs).lookup x = some c' → env.cells.lookup x = some c' := fun x c' q => by
        rw [List.lookup_cons] at q
        cases ex : x == n with
        | true =>
          rw [ex] at q
          have : x = n := by simpa using ex
          subst this
          cases q
          exact hc
        | false => rw [ex] at q; exact h x c' q
      obtain ⟨cl, e1, e2, e3, e4⟩ := closure_go env r ((n, c) :: cs) (fun x hx => hn x (List.mem_cons_of_mem _ hx)) h'
      refine ⟨cl, ?_, e2, fun x ⟨c', q⟩ => e3 x ?_, fun x hx hf => ?_⟩
      · rw [List.forIn_cons]
        rw [if_pos (show (((n, NameKind.free) : Str × NameKind).2 == NameKind.free) = true from by rfl)]
        unfold cellOf
        rw [hc]
        exact e1
      · rw [List.lookup_cons]
        cases ex : x == n with
        | true => exact ⟨c, rfl⟩
        | false => exact ⟨c', q⟩
      · rcases List.mem_cons.mp hx with z | z
        · subst z
          exact e3 n ⟨c, by rw [List.lookup_cons]; simp⟩
        · exact e4 x z hf
    · obtain ⟨cl, e1, e2, e3, e4⟩ := closure_go env r cs (fun x hx => hn x (List.mem_cons_of_mem _ hx)) h
      refine ⟨cl, ?_, e2, e3, fun x hx hf => ?_⟩
      · rw [List.forIn_cons]
        rw [if_neg (show ¬ (((n, k) : Str × NameKind).2 == NameKind.free) = true by simpa using e)]
        exact e1
      · rcases List.mem_cons.mp hx with z | z
        · subst z
          exact absurd hf e
        · exact e4 x z hf
theorem closure_ex {env : Env} {sc : Scope} (hn : ∀ x ∈ sc.names, x.2 = .free → ∃ c, env.cells.lookup x.1 = some c) :
    ∃ cl, closureFor sc env = pure cl ∧ (∀ x c, cl.lookup x = some c → env.cells.lookup x = some c) ∧ ∀ x ∈ sc.names, x.2 = .free → ∃ c, cl.lookup x.1 = some c := by
  obtain ⟨cl, e1, e2, _, e4⟩ := closure_go env sc.names [] hn (fun x c z => by cases z)
  refine ⟨cl, ?_, e2, e4⟩
  unfold closureFor
  exact (congrArg (fun (m : Sem (List (Str × Addr))) => m >>= fun r => pure r) e1)
theorem lookup_mem' {κ : Type} : ∀ {l : List (Str × κ)} {x : Str} {k : κ}, l.lookup x = some k → (x, k) ∈ l
  | [], _, _, h => by cases h
  | (n, k') :: r, x, k, h => by
    rw [List.lookup_cons] at h
    cases e : x == n with
    | true =>
      rw [e] at h
      have : x = n := by simpa using e
      subst this
      cases h
      exact List.mem_cons_self
    | false =>
      rw [e] at h
      exact List.mem_cons_of_mem _ (lookup_mem' h)
def relK (env : Env) (x : Str) (k : NameKind) : NameKind := if (k == NameKind.free && env.scope.kind == .function && env.kindOf x == some .cell) = true then .cell else k
theorem lookup_rel {env : Env} : ∀ {names : List (Str × NameKind)} {x : Str},
    (names.map fun (p : Str × NameKind) => match p with | (n, k) => if (k == NameKind.free && env.scope.kind == .function && env.kindOf n == some .cell) = true then (n, NameKind.cell) else (n, k)).lookup x = (names.lookup x).map (relK env x)
  | [], x => rfl
  | (n, k) :: r, x => by
    rw [List.map_cons]
    by_cases e : x = n
    · subst e
      dsimp only
      by_cases c : (k == NameKind.free && env.scope.kind == .function && env.kindOf x == some .cell) = true
      · rw [if_pos c]
        have z : relK env x k = .cell := if_pos c
        simp [List.lookup_cons, z]
      · rw [if_neg c]
        have z : relK env x k = k := if_neg c
        simp [List.lookup_cons, z]
    · have e' : (x == n) = false := by simpa using e
      dsimp only
      rw [List.lookup_cons (a := x) (b := k), e']
      show _ = (r.lookup x).map (relK env x)
      rw [← lookup_rel]
      by_cases c : (k == NameKind.free && env.scope.kind == .function && env.kindOf n == some .cell) = true
      · rw [if_pos c, List.lookup_cons, e']
      · rw [if_neg c, List.lookup_cons, e']
theorem kindOf_rel {sc : Scope} {env : Env} {cl : List (Str × Addr)} {C : Addr} {x : Str} : (compEnvC sc cl C env).kindOf x = (sc.names.lookup x).map (relK env x) := lookup_rel
def ixOk (N : List Str) (sc0 sc : Scope) (N' : List Str) (ix : List (Option Nat)) : Bool :=
  sc.kind == .function && ix.length == N'.length &&
  sc.names.all (fun p => p.2 != .cell && (p.2 != .free || (sc0.names.lookup p.1 == some .cell || sc0.names.lookup p.1 == some .free)) && (p.2 != .local || sc.names.lookup p.1 == some .local)) &&
  (List.range N'.length).all fun j => match ix[j]?, N'[j]? with
    | some (some i), some x => N[i]? == some x && sc.names.lookup x == some .free
    | _, _ => true
theorem ixOk_spec {N : List Str} {sc0 sc : Scope} {N' : List Str} {ix : List (Option Nat)} (h : ixOk N sc0 sc N' ix = true) :
    sc.kind = .function ∧ ix.length = N'.length ∧ (∀ p ∈ sc.names, p.2 ≠ .cell) ∧ (∀ p ∈ sc.names, p.2 = .free → sc0.names.lookup p.1 = some .cell ∨ sc0.names.lookup p.1 = some .free) ∧
      (∀ p ∈ sc.names, p.2 = .local → sc.names.lookup p.1 = some .local) ∧ ∀ (j i : Nat) (x : Str), ix[j]? = some (some i) → N'[j]? = some x → N[i]? = some x ∧ sc.names.lookup x = some .free := by
  unfold ixOk at h
  simp only [Bool.and_eq_true, List.all_eq_true, beq_iff_eq, bne_iff_ne, Bool.or_eq_true, ne_eq] at h
  obtain ⟨⟨⟨h1, h2⟩, h3⟩, h4⟩ := h
  refine ⟨h1, h2, fun p hp => (h3 p hp).1.1, fun p hp hf => ?_, fun p hp hl => ?_, fun j i x e1 e2 => ?_⟩
  · rcases (h3 p hp).1.2 with z | z
    · exact absurd hf z
    · exact z
  · rcases (h3 p hp).2 with z | z
    · exact absurd hl z
    · exact z
  · have hj : j < N'.length := (List.getElem?_eq_some_iff.mp e2).1
    have := h4 j (List.mem_range.mpr hj)
    rw [e1, e2] at this
    simpa using this
def cxC (X : Cx) (sc : Scope) (N' : List Str) (C : Addr) (cl : List (Str × Addr)) (s : Shared) (H : Hp) (fp : List Addr) : Cx :=
  { X with N := N', s₀ := s, H₀ := H, env := compEnvC sc cl C X.env, outer := X.stack, stack := X.stack, ex := fp, fn := fun _ => false, pn := [], xe := fun _ _ => False }
def st0 (ix : List (Option Nat)) (σ : St) : St := ix.map fun o => match o with | some i => (σ[i]?).getD none | none => none
def ExtL : St → St → Prop
  | [], [] => True
  | none :: r, _ :: r' => ExtL r r'
  | some v :: r, w :: r' => w = some v ∧ ExtL r r'
  | _, _ => False
theorem ExtL.spec : ∀ {a b : St}, ExtL a b → a.length = b.length ∧ ∀ (i : Nat) v, a[i]? = some (some v) → b[i]? = some (some v)
  | [], [], _ => ⟨rfl, fun _ _ z => by simp at z⟩
  | [], _ :: _, h => h.elim
  | none :: r, [], h => h.elim
  | some v :: r, [], h => h.elim
  | none :: r, w :: r', h => by
    obtain ⟨e1, e2⟩ := ExtL.spec (a := r) (b := r') h
    refine ⟨by simp [e1], fun i v z => ?_⟩
    cases i with
    | zero => simp at z
    | succ i => simpa using e2 i v (by simpa using z)
  | some u :: r, w :: r', h => by
    obtain ⟨e0, h⟩ := h
    obtain ⟨e1, e2⟩ := ExtL.spec (a := r) (b := r') h
    refine ⟨by simp [e1], fun i v z => ?_⟩
    cases i with
    | zero => simp at z; subst z; simp [e0]
    | succ i => simpa using e2 i v (by simpa using z)
structure PF (X : Cx) (ifs : List Expr) (t : TT) : Prop where
  run : ∀ (pins : List (Addr × Obj)) (s : Shared) (σ : St) (H : Hp) (Q : Bool → Hp → Prop), Inv X pins σ H s → t σ H Q →
    wpAny (model X.prog X.w) X.A (forIn ifs true fun c r => if r = true then do let ok ← isTrue c X.env (eval c X.env); pure (ForInStep.yield ok) else pure (ForInStep.yield r)) (TP X pins σ Q) X.xe s
instance {X : Cx} {ifs : List Expr} {t : TT} : CoeFun (PF X ifs t) fun _ => ∀ (pins : List (Addr × Obj)) (s : Shared) (σ : St) (H : Hp) (Q : Bool → Hp → Prop), Inv X pins σ H s → t σ H Q →
    wpAny (model X.prog X.w) X.A (forIn ifs true fun c r => if r = true then do let ok ← isTrue c X.env (eval c X.env); pure (ForInStep.yield ok) else pure (ForInStep.yield r)) (TP X pins σ Q) X.xe s := ⟨PF.run⟩
def tAny : TT := fun _ H Q => Q true H
theorem pf_nil {X : Cx} : PF X [] tAny := ⟨fun pins s σ H Q I h => wpAny_tests_nil ⟨H, I, h⟩⟩
def LcGo (J : It) (g : TG) (tf : TT) (te : TE) (ix : List (Option Nat)) (σ : St) (H1 : Hp) (Q : VK) : Prop := ∃ W : Nat → Nat → List V → Hp → Prop, (∃ m, W 0 m [] H1) ∧ ∀ i m ys H, W i m ys H →
  (J.stop i H ∧ ys.length ≤ sizeLine ∧ ∀ D, H D = none → Q (.ref D) (upd H D (.lst ys))) ∨
  (J.go i H ∧ ys.length ≤ sizeLine ∧ ∀ x H', J.yld i H x H' → g x (st0 ix σ) H' fun σ2 H2 => ExtL (st0 ix σ) σ2 ∧ tf σ2 H2 fun b H3 => if b = true then te σ2 H3 fun y H4 => ∃ m', m' < m ∧ W (i + 1) m' (ys ++ [y]) H4 else ∃ m', m' < m ∧ W (i + 1) m' ys H3)
def tLC (wi : TI) (g : TG) (tf : TT) (te : TE) (ix : List (Option Nat)) : TE := fun σ H Q => wi σ H fun J H1 => LcGo J g tf te ix σ H1 Q
section
variable {X : Cx} {tg elt iter : Expr} {ifs : List Expr} {sc : Scope} {N' : List Str} {ix : List (Option Nat)} {pins : List (Addr × Obj)} {σ : St} {H2 : Hp} {s2 : Shared} {fp : List Addr} {cl : List (Str × Addr)} {C : Addr} {pos : Pos}
theorem cxC_ok (I : Inv X pins σ H2 s2) (hix : ixOk X.N X.env.scope sc N' ix = true) (e2 : ∀ x c, cl.lookup x = some c → X.env.cells.lookup x = some c) (e3 : ∀ x ∈ sc.names, x.2 = .free → ∃ c, cl.lookup x.1 = some c)
    (f2 : ∀ b ∈ fp, FpOk X pins H2 b) (fo : ∀ b ∈ fp, ∃ o, s2.heap.get? b = some o) (hC : s2.heap.objs.size ≤ C) : (cxC X sc N' C cl s2 H2 fp).Ok := by
  obtain ⟨k1, _, k3, _, _, _⟩ := ixOk_spec hix
  refine ⟨I.ok.mod, k1, I.ok.glob, I.ok.blt, hC, fun x y c a b => I.ok.inj x y c (e2 x c a) (e2 y c b), fun x hx => ?_, fun x c z => (by cases z), I.ok.hd, I.ok.frames, .inl rfl, fun b hb => ?_, I.bs, Nat.le_trans I.ok.bsz I.sz, fun b o e hb => ?_, fun b hb hf => ?_, I.stack, I.stkFree⟩
  · have hx' : (compEnvC sc cl C X.env).kindOf x = some .cell ∨ (compEnvC sc cl C X.env).kindOf x = some .free := hx
    rw [kindOf_rel] at hx'
    cases q : sc.names.lookup x with
    | none => rw [q] at hx'; rcases hx' with z | z <;> cases z
    | some k =>
      have hm := lookup_mem' q
      have hf : k = .free := by
        rw [q] at hx'
        have nk := k3 _ hm
        cases k with
        | free => rfl
        | cell => exact absurd rfl nk
        | _ => rcases hx' with z | z <;> (simp [relK] at z)
      exact e3 (x, k) hm hf
  · obtain ⟨o, ho⟩ := fo b hb
    exact ⟨Nat.ne_of_lt (Nat.lt_of_lt_of_le (Heap.lt_size ho) hC), fun x c q => (f2 b hb).2.2.2.2.1 x c (e2 x c q)⟩
  · have hb' : b ∈ fp := hb
    rcases (f2 b hb').2.2.2.1 with z | z
    · exact I.ok.noex b o e z
    · exact absurd (Nat.lt_of_lt_of_le (Heap.lt_size e) (Nat.le_trans I.ok.bsz z)) (Nat.lt_irrefl _)
  · have hb' : b ∈ fp := hb
    rcases List.mem_cons.mp (I.stkSub b hf) with z | z
    · exact (f2 b hb').2.1 z
    · exact (f2 b hb').2.2.1 z
end
section
variable {X : Cx} {tg elt iter : Expr} {ifs : List Expr} {sc sc0 : Scope} {N N' : List Str} {ix : List (Option Nat)} {pos : Pos} {wi : TI} {g : TG} {tf : TT} {te : TE}
structure LcEnd (X : Cx) (pins : List (Addr × Obj)) (σ : St) (H : Hp) (s : Shared) (C : Addr) : Prop where
  inv : Inv X pins σ H s
  ns : ∃ m, s.heap.Ns C m
  free : H C = none
  loc : C ≠ X.env.locals
  cel : ∀ x c, X.env.cells.lookup x = some c → c ≠ C
  abv : X.s₀.heap.objs.size ≤ C
  pin : ∀ p ∈ X.pn ++ pins, p.1 ≠ C
theorem LcEnd.gone {pins : List (Addr × Obj)} {σ : St} {H : Hp} {s : Shared} {C : Addr} {h' : Heap} (L : LcEnd X pins σ H s C) (sb : Heap.SameBut C s.heap h') : Inv X pins σ H { s with heap := h' } :=
  L.inv.turned (it := C) (t' := s.toks) (fun b o hb e => (sb.2 b hb).trans e) L.free L.loc (.inr L.abv) L.cel L.pin
set_option maxHeartbeats 2000000 in
theorem lc_core {pins : List (Addr × Obj)} {σ : St} {H : Hp} {s : Shared} {Q : VK} {use : Option (Value → Sem Unit)} {Qf : Value → Shared → Prop} {cpos : Pos} (hc : X.calm = true) (hix : ixOk X.N X.env.scope sc N' ix = true) (hi : PI X tg iter wi)
    (hg : ∀ C cl s H fp, PG (cxC X sc N' C cl s H fp) tg g) (hf : ∀ C cl s H fp, PF (cxC X sc N' C cl s H fp) ifs tf) (he : ∀ C cl s H fp, PE (cxC X sc N' C cl s H fp) elt te)
    (hs : ∀ x, foldedSetIterable iter X.env x = pure x) (I : Inv X pins σ H s) (h : tLC wi g tf te ix σ H Q)
    (hend : ∀ (C D : Addr) (H' : Hp) (s' : Shared), LcEnd X pins σ H' s' C → Q (.ref D) H' → compPost (model X.prog X.w) X.A X.xe use Qf (.ref D) C (.ok .next) s') :
    wpAny (model X.prog X.w) X.A (comprehension (.ListComp elt [⟨tg, iter, ifs, 0⟩] sc pos) sc X.env cpos (newList []) false (eval iter X.env) use) Qf X.xe s := by
  obtain ⟨hk, hlen, hcell, hfreeX, hnames, hat⟩ := ixOk_spec hix
  obtain ⟨cl, e1, e2, e3⟩ := closure_ex (env := X.env) (sc := sc) (fun x hx hf => I.ok.has x.1 (hfreeX x hx hf))
  refine wpAny_comprehension_free (use := use) (cl := cl) rfl hs e1 hk hnames (thn (hi pins s σ H _ I h) fun v s1 h1 => thn h1 fun itv s2 h2 => ?_)
  obtain ⟨it, fp, tn, J, H2, e, I2, T, st2, f2, W, ⟨m0, w0⟩, turn⟩ := h2
  subst e
  refine wpAny_newObj_type (wpAny_newFunctionEnv hcell (by intro y hy; simp at hy) (fun h₁ hns₁ hsb₁ => ?_) hk)
  dsimp only at hns₁ hsb₁ ⊢
  generalize hH2 : s2.heap.push { cls := .type "list", dict := none, data := .seq ([] : List Value).toArray } = G2 at hns₁ hsb₁ ⊢
  have hCs : G2.objs.size = s2.heap.objs.size + 1 := by rw [← hH2, Heap.size_push]
  have hDC : s2.heap.objs.size ≠ G2.objs.size := by rw [hCs]; exact Nat.ne_of_lt (Nat.lt_succ_self _)
  have hCle : s2.heap.objs.size ≤ G2.objs.size := by rw [hCs]; exact Nat.le_succ _
  have belowC : ∀ b, b < s2.heap.objs.size → b ≠ G2.objs.size := fun b hb => by rw [hCs]; exact Nat.ne_of_lt (Nat.lt_succ_of_lt hb)
  have belowD : ∀ b, b < s2.heap.objs.size → b ≠ s2.heap.objs.size := fun b hb => Nat.ne_of_lt hb
  have old : ∀ b o, s2.heap.get? b = some o → h₁.get? b = some o := fun b o e => hsb₁.extBut b o (belowC b (Heap.lt_size e)) (Heap.get?_push_of_some _ (hH2 ▸ Heap.get?_push_of_some _ e))
  have hacc : h₁.get? s2.heap.objs.size = some { cls := .type "list", data := .seq ([] : List Value).toArray } := hsb₁.extBut _ _ hDC (Heap.get?_push_of_some _ (hH2 ▸ Heap.get?_push_size _ rfl))
  have fo : ∀ b ∈ fp, ∃ o, s2.heap.get? b = some o := fun b hb => let ⟨o, ho, _⟩ := T.obj _ _ st2 b hb; ⟨o, ho⟩
  have fD : ∀ b ∈ fp, b ≠ s2.heap.objs.size := fun b hb => let ⟨o, ho⟩ := fo b hb; belowD b (Heap.lt_size ho)
  have ok' : (cxC X sc N' G2.objs.size cl s2 H2 fp).Ok := cxC_ok I2 hix e2 e3 f2 fo hCle
  have HD : H2 s2.heap.objs.size = none := I2.hok.fresh (Nat.le_refl _)
  have HC : H2 G2.objs.size = none := I2.hok.fresh hCle
  have I4 : Inv (cxC X sc N' G2.objs.size cl s2 H2 fp) [] (st0 ix σ) H2 { s2 with heap := h₁, toks := s2.toks + ([] : List (Str × Value)).length } := by
    refine ⟨ok', rfl, I2.bare, Un.kept old, ⟨_, hns₁, fun j x v a b c => ?_⟩, fun x c q => ?_, HC, fun x c q => I2.freeC x c (e2 x c q), fun p hp => (by cases hp), I2.hok.kept old, ?_⟩
    · -- a name of the block that stands for one around
      have a' : N'[j]? = some x := a
      have b' : (ix.map fun o => match o with | some i => (σ[i]?).getD none | none => none)[j]? = some (some v) := b
      rw [List.getElem?_map] at b'
      cases q : ix[j]? with
      | none => rw [q] at b'; cases b'
      | some o =>
        rw [q] at b'
        cases o with
        | none => cases b'
        | some i =>
          obtain ⟨n1, n2⟩ := hat j i x q a'
          have b'' : (σ[i]?).getD none = some v := Option.some.inj b'
          have sv : σ[i]? = some (some v) := by
            cases z : σ[i]? with
            | none => rw [z] at b''; cases b''
            | some y => rw [z] at b''; exact congrArg some b''
          obtain ⟨m, hn, hl⟩ := I2.loc
          have kx := hfreeX (x, .free) (lookup_mem' n2) rfl
          obtain ⟨u, r, lk⟩ := hl i x v n1 sv (.inr kx)
          refine ⟨u, r, .inr ⟨?_, ?_⟩⟩
          · show (compEnvC sc cl G2.objs.size X.env).kindOf x = some .cell ∨ (compEnvC sc cl G2.objs.size X.env).kindOf x = some .free
            rw [kindOf_rel, n2]
            show some (relK X.env x .free) = some .cell ∨ some (relK X.env x .free) = some .free
            unfold relK
            split
            · exact .inl rfl
            · exact .inr rfl
          · obtain ⟨c1, hc1⟩ := e3 (x, .free) (lookup_mem' n2) rfl
            refine ⟨c1, hc1, ?_⟩
            have hc2 := e2 x c1 hc1
            rcases lk with ⟨z, _⟩ | ⟨_, c, hcc, hcl⟩
            · have z' : X.env.scope.names.lookup x = some .local := z
              rcases kx with y | y <;> (rw [y] at z'; cases z')
            · rw [hc2] at hcc; cases hcc
              obtain ⟨o, ho, hd⟩ := hcl
              exact ⟨o, old c1 o ho, hd⟩
    · obtain ⟨v, o, ho, hd⟩ := I2.cell x c (e2 x c q)
      exact ⟨v, o, old c o ho, hd⟩
    · show (ix.map _).length = N'.length
      rw [List.length_map, hlen]
  have cellD : ∀ x c, cl.lookup x = some c → c ≠ s2.heap.objs.size := fun x c q z => by
    obtain ⟨v, o, ho, hd⟩ := I2.cell x c (e2 x c q)
    exact belowD c (Heap.lt_size ho) z
  have loop : ∀ s₃ : Shared, s₃ = { s2 with heap := h₁, toks := s2.toks + ([] : List (Str × Value)).length } →
      codeAny (model X.prog X.w) X.A (.compLoop (.ListComp elt [⟨tg, iter, ifs, 0⟩] sc pos) 0 (.ref it) (.ref s2.heap.objs.size) (compEnvC sc cl G2.objs.size X.env))
        (compPost (model X.prog X.w) X.A X.xe use Qf (.ref s2.heap.objs.size) G2.objs.size) s₃ := by
    rintro s₃ rfl
    refine codeAny_loop rfl (fun n s' => ∃ i ys H' its k, Inv (cxC X sc N' G2.objs.size cl s2 H2 fp) [] (st0 ix σ) H' s' ∧ tn i s'.heap ∧ (∀ b ∈ fp, H' b = none) ∧ H' s2.heap.objs.size = none ∧
      Vals ys its ∧ s'.heap.get? s2.heap.objs.size = some { cls := .type "list", data := .seq its.toArray k } ∧ W i n ys H') ?_ m0
      ⟨0, [], H2, [], _, I4, T.keep _ _ _ st2 (fun b _ o e => old b o e), fun b hb => (f2 b hb).1, HD, .nil, hacc, w0⟩
    rintro n s5 ⟨i, ys, H5, its, k, I5, st5, fr5, hD5, vv, oD, w5⟩
    show wpAny _ X.A ((compTurn (.ListComp elt [⟨tg, iter, ifs, 0⟩] sc pos) 0 (.ref it) (.ref s2.heap.objs.size) (compEnvC sc cl G2.objs.size X.env)).onRaise (fun x => do noteFrame x (compEnvC sc cl G2.objs.size X.env); theTreesLotGoes x)) _ _ s5
    refine wpAny_noted ?_
    rw [compTurn_list]
    have I5p : Inv (cxC X sc N' G2.objs.size cl s2 H2 fp) [(s2.heap.objs.size, { cls := .type "list", data := .seq its.toArray k })] (st0 ix σ) H5 s5 := I5.pins_of fun p hp => by
      have hp' : p = (s2.heap.objs.size, { cls := .type "list", data := .seq its.toArray k }) := by simpa using hp
      subst hp'
      refine ⟨oD, hD5, hDC, fun hb => ?_, fun v z => (by cases z)⟩
      obtain ⟨_, o, ho, _⟩ := I2.stack.mem (show s2.heap.objs.size ∈ frs X.stack from hb)
      exact Nat.lt_irrefl _ (Heap.lt_size ho)
    have fpk : ∀ {H' : Hp}, (∀ b ∈ fp, H' b = none) → ∀ b ∈ fp, FpOk (cxC X sc N' G2.objs.size cl s2 H2 fp) [(s2.heap.objs.size, ({ cls := .type "list", data := .seq its.toArray k } : Obj))] H' b := fun {H'} hn b hb => by
      refine ⟨hn b hb, (ok'.exf b hb).1, ok'.exfs b hb, .inl hb, (ok'.exf b hb).2, fun p hp => ?_⟩
      have hp' : p = (s2.heap.objs.size, ({ cls := .type "list", data := .seq its.toArray k } : Obj)) := by
        have z : p ∈ ([] : List (Addr × Obj)) ++ [(s2.heap.objs.size, ({ cls := .type "list", data := .seq its.toArray k } : Obj))] := hp
        simpa using z
      subst hp'
      exact (fD b hb).symm
    rcases turn i n ys H5 w5 with ⟨stop, hz, qn⟩ | ⟨go, hz, step⟩
    · refine wpAny_bind (wpAny_standAt (wpAny_bind (wpAny_mono (T.done (cxC X sc N' G2.objs.size cl s2 H2 fp) rfl rfl rfl hc i _ s5 (st0 ix σ) H5 (fun _ _ => False) I5p (fpk fr5) st5 stop) (fun r s6 ⟨hr, I6⟩ => ?_) fun _ _ f => f.elim)))
      subst hr
      refine wpAny_pure ?_
      obtain ⟨m, hn, _⟩ := I6.loc
      have oD6 : s6.heap.get? s2.heap.objs.size = some { cls := .type "list", data := .seq its.toArray k } := (I6.pin (s2.heap.objs.size, { cls := .type "list", data := .seq its.toArray k }) (by show _ ∈ ([] : List (Addr × Obj)) ++ _; simp)).1
      have u6 : Un (frs X.stack) fp H2 H5 s2.heap s6.heap := I6.base
      have HC5 : H5 G2.objs.size = none := I6.free
      refine hend _ _ (upd H5 s2.heap.objs.size (.lst ys)) s6 ⟨?_, ⟨m, hn⟩, by rw [upd_ne hDC.symm]; exact HC5, (belowC _ I2.lt).symm, fun x c q => ?_, Nat.le_trans I2.sz hCle, fun p hp => ?_⟩ (qn _ hD5)
      · refine I2.call' (s' := s6) (ch := fp) I6.os ?_ ?_ I6.bare fun b hb => ⟨(f2 b hb).2.2.2.1, (f2 b hb).2.1, (f2 b hb).2.2.2.2.1, (f2 b hb).2.2.2.2.2⟩
        · refine ⟨fun b o e n nf nx => u6.keep b o e n nf nx, fun b o e n nf nx => u6.slot b o e n nf nx, fun b o e n nx => ?_, fun b o e nx => u6.there b o e nx, fun b xs e => ?_, fun b o u e => ?_, fun b ps e => ?_⟩
          · rw [upd_ne (belowD b (Heap.lt_size e))]; exact u6.free b o e n nx
          · rw [upd_ne (ne_of_none e HD)]; exact u6.tups b xs e
          · rw [upd_ne (ne_of_none e HD)]; exact u6.frzs b o u e
          · rw [upd_ne (ne_of_none e HD)]; exact u6.tbls b ps e
        · intro b o e
          by_cases hb : b = s2.heap.objs.size
          · subst hb
            rw [upd_same] at e; cases e
            exact ⟨hz, its, k, vv, oD6⟩
          · rw [upd_ne hb] at e
            refine (I6.hok b o e).stay (fun c v hcc q => q) (fun c q => ?_) fun c xs q => ?_
            · rw [upd_ne (ne_of_none q hD5)]; exact q
            · rw [upd_ne (ne_of_none q hD5)]; exact q
      · obtain ⟨v, o, ho, hd⟩ := I2.cell x c q
        exact belowC c (Heap.lt_size ho)
      · exact belowC p.1 (Heap.lt_size (I2.pin p hp).1)
    · refine wpAny_bind (wpAny_standAt (wpAny_bind (wpAny_mono (T.item (cxC X sc N' G2.objs.size cl s2 H2 fp) rfl rfl rfl hc i _ s5 (st0 ix σ) H5 (fun _ _ => False) I5p (fpk fr5) st5 go) (fun r s6 ⟨u, hr, h6⟩ => ?_) fun _ _ f => f.elim)))
      subst hr
      refine wpAny_bind (wpAny_mono h6 (fun _ s7 ⟨x, H7, I7, r7, y7, st7, fr7⟩ => ?_) fun _ _ f => f.elim)
      have I7' := I7.pinned (fpk fr7) (T.obj _ _ st7)
      refine wpAny_bind (wpAny_mono (hg _ _ _ _ _ _ s7 (st0 ix σ) H7 x u _ I7' r7 (step x H7 y7)) (fun _ s8 ⟨σ8, H8, I8, x8, q8⟩ => ?_) fun _ _ f => f.elim)
      obtain ⟨xl, xv⟩ := x8.spec
      have keepT : ∀ {σ9 : St} {H9 : Hp} {s9 : Shared} {pl : List (Addr × Obj)}, (∀ p ∈ pinsAt fp s7.heap, p ∈ pl) → Inv (cxC X sc N' G2.objs.size cl s2 H2 fp) pl σ9 H9 s9 → tn (i + 1) s9.heap ∧ ∀ b ∈ fp, H9 b = none := fun {σ9 H9 s9 pl} hp I9 => by
        have pn : ∀ b o, b ∈ fp → s7.heap.get? b = some o → s9.heap.get? b = some o ∧ H9 b = none := fun b o hb e => by
          have := I9.pin (b, o) (List.mem_append_right _ (hp _ (mem_pinsAt hb e)))
          exact ⟨this.1, this.2.1⟩
        refine ⟨T.keep _ _ _ st7 fun b hb o e => (pn b o hb e).1, fun b hb => ?_⟩
        obtain ⟨o, e, _⟩ := T.obj _ _ st7 b hb
        exact (pn b o hb e).2
      refine wpAny_bind (wpAny_mono (hf _ _ _ _ _ _ s8 σ8 H8 _ I8 q8) (fun ok s9 ⟨H9, I9, q9⟩ => ?_) fun _ _ f => f.elim)
      have pD : ∀ {σ9 : St} {H9 : Hp} {s9 : Shared}, Inv (cxC X sc N' G2.objs.size cl s2 H2 fp) ([(s2.heap.objs.size, ({ cls := .type "list", data := .seq its.toArray k } : Obj))] ++ pinsAt fp s7.heap) σ9 H9 s9 →
          s9.heap.get? s2.heap.objs.size = some { cls := .type "list", data := .seq its.toArray k } ∧ H9 s2.heap.objs.size = none := fun {σ9 H9 s9} I9 => by
        have := I9.pin (s2.heap.objs.size, { cls := .type "list", data := .seq its.toArray k }) (List.mem_append_right _ (List.mem_append_left _ (by simp)))
        exact ⟨this.1, this.2.1⟩
      cases ok with
      | false =>
        obtain ⟨m', hm, w9⟩ := (show ∃ m', m' < n ∧ W (i + 1) m' ys H9 from by simpa using q9)
        obtain ⟨t9, fr9⟩ := keepT (fun p hp => List.mem_append_right _ hp) I9
        obtain ⟨oD9, hD9⟩ := pD I9
        refine wpAny_pure ⟨rfl, m', hm, i + 1, ys, H9, its, k, (I9.pins_of (pins' := []) fun p hp => nomatch hp).weak xl xv, t9, fr9, hD9, vv, oD9, w9⟩
      | true =>
        have q9' : te σ8 H9 fun y H4 => ∃ m', m' < n ∧ W (i + 1) m' (ys ++ [y]) H4 := by simpa using q9
        refine wpAny_bind (wpAny_bind (wpAny_mono (he _ _ _ _ _ _ s9 σ8 H9 _ I9 q9') (fun yv sA ⟨y, HA, IA, rA, m', hm, wA⟩ => ?_) fun _ _ f => f.elim))
        obtain ⟨oDA, hDA⟩ := pD IA
        have hsz : its.toArray.size ≤ sizeLine := by rw [List.size_toArray, ← vv.length]; exact hz
        refine wpAny_bind (wpAny_list_append_plain (hsz := hsz) ⟨_, oDA⟩ fun h9 pl9 sb9 => ?_)
        have IB : Inv (cxC X sc N' G2.objs.size cl s2 H2 fp) (pinsAt fp s7.heap) σ8 HA sA := IA.pins_of fun p hp => IA.pin p (List.mem_append_right _ (List.mem_append_right _ hp))
        have IC : Inv (cxC X sc N' G2.objs.size cl s2 H2 fp) (pinsAt fp s7.heap) σ8 HA { sA with heap := h9 } := IB.turned (it := s2.heap.objs.size) (t' := sA.toks) (fun b o hb e => (sb9.2 b hb).trans e) hDA hDC (.inr (Nat.le_refl _)) (fun x c q => cellD x c q) fun p hp => by
          have hp' : p ∈ pinsAt fp s7.heap := by
            have z : p ∈ ([] : List (Addr × Obj)) ++ pinsAt fp s7.heap := hp
            simpa using z
          exact fD p.1 (of_pinsAt hp').1
        obtain ⟨t9, fr9⟩ := keepT (fun p hp => hp) IC
        obtain ⟨k', oD'⟩ := pl9
        refine wpAny_pure (wpAny_pure ⟨rfl, m', hm, i + 1, ys ++ [y], HA, its ++ [yv], k', (IC.pins_of (pins' := []) fun p hp => nomatch hp).weak xl xv, t9, fr9, hDA, vv.append (.cons rA .nil), ?_, wA⟩)
        show h9.get? s2.heap.objs.size = _
        rw [oD']
        simp
  exact codeAny_compStart_list (loop _ rfl) (T.self X.A 0 _ _ _ (T.keep _ _ _ st2 (fun b _ o e => old b o e)) (loop _ rfl))
theorem pe_lc (hc : X.calm = true) (hix : ixOk N sc0 sc N' ix = true) (hi : PI X tg iter wi)
    (hg : ∀ C cl s H fp, PG (cxC X sc N' C cl s H fp) tg g) (hf : ∀ C cl s H fp, PF (cxC X sc N' C cl s H fp) ifs tf) (he : ∀ C cl s H fp, PE (cxC X sc N' C cl s H fp) elt te)
    (eN : X.N = N := by rfl) (eS : X.env.scope = sc0 := by rfl) (hs : ∀ x, foldedSetIterable iter X.env x = pure x := by intro _; rfl) :
    PE X (.ListComp elt [⟨tg, iter, ifs, 0⟩] sc pos) (tLC wi g tf te ix) := by
  refine ⟨?_⟩
  intro pins s σ H Q I h
  subst eN eS
  rw [eval_ListComp]
  refine lc_core (use := none) hc hix hi hg hf he hs I h fun C D H' s' L q => ?_
  obtain ⟨m, hn⟩ := L.ns
  exact ⟨m, hn, fun h' sb => ⟨.ref D, H', L.gone sb, rfl, q⟩⟩
end
end L2
namespace L2
open PySem
def Nx (Pv : Nat → List V → Hp → Prop) (n i : Nat) (ys : List V) (H : Hp) : Prop := ∃ m', m' < n - i ∧ (m' = n - (i + 1) ∧ i + 1 ≤ n ∧ Pv (i + 1) ys H)
theorem Nx.mk {Pv : Nat → List V → Hp → Prop} {n i : Nat} {ys : List V} {H : Hp} (h : i < n) (p : Pv (i + 1) ys H) : Nx Pv n i ys H := ⟨n - (i + 1), by lia, rfl, h, p⟩
theorem lc_range {lo : Int} {n : Nat} {g : TG} {tf : TT} {te : TE} {ix : List (Option Nat)} {σ : St} {H : Hp} {Q : VK} (Pv : Nat → List V → Hp → Prop) (h0 : Pv 0 [] H)
    (hl : ∀ i ys H, i ≤ n → Pv i ys H → ys.length ≤ sizeLine)
    (hs : ∀ i ys H, i < n → Pv i ys H → g (.int (lo + i)) (st0 ix σ) H fun σ2 H2 => ExtL (st0 ix σ) σ2 ∧ tf σ2 H2 fun b H3 => if b = true then te σ2 H3 fun y H4 => Nx Pv n i (ys ++ [y]) H4 else Nx Pv n i ys H3)
    (hd : ∀ ys H, Pv n ys H → ∀ D, H D = none → Q (.ref D) (upd H D (.lst ys))) :
    LcGo (Itr lo n) g tf te ix σ H Q := by
  refine ⟨fun i m ys H => m = n - i ∧ i ≤ n ∧ Pv i ys H, ⟨n, by simp, Nat.zero_le _, h0⟩, ?_⟩
  rintro i m ys H ⟨rfl, hi, p⟩
  have hz := hl i ys H hi p
  by_cases hlt : i < n
  · refine .inr ⟨hlt, hz, fun x H' y => ?_⟩
    obtain ⟨e, y⟩ := y
    subst e y
    exact hs i ys _ hlt p
  · have e : i = n := by lia
    subst e
    exact .inl ⟨Nat.le_refl _, hz, hd ys H p⟩
theorem tAny_T {σ : St} {H : Hp} {A B : Hp → Prop} (h : A H) : tAny σ H fun b H3 => if b = true then A H3 else B H3 := by
  show if true = true then A H else B H
  rw [if_pos rfl]
  exact h
end L2
namespace L2
open PySem PySem.Spec PyProof.Rows
def EntOk (w : World) (p : Str × V) (e : DictEntry) : Prop := e.hash = hashStr w p.1 ∧ (∃ t, e.key = .str p.1 t) ∧ RelV p.2 e.val
def TopDict (w : World) (K : PySem.W.Frag) (a : Addr) (kvs : List (Str × V)) : Prop :=
  ∃ (es : Array DictEntry) (ep : Nat), K.lookup a = some { cls := .type "dict", data := .dict es ep } ∧ Paired (EntOk w) kvs es.toList
theorem keys_ent {P : Program} {w : World} : ∀ {kvs : List (Str × V)} {es : List DictEntry}, Paired (EntOk w) kvs es → ∀ e ∈ es, ∃ k, (strKind P w).is k e.key = true ∧ e.hash = (strKind P w).hash k
  | _, _, .nil, _, h => nomatch h
  | (x, y) :: r, e :: es, .cons h t, e', he => by
    rcases List.mem_cons.mp he with z | z
    · subst z
      obtain ⟨h1, ⟨tk, h2⟩, h3⟩ := h
      refine ⟨x, ?_, h1⟩
      rw [h2]
      show Value.isStrOf x (.str x tk) = true
      simp [Value.isStrOf]
    · exact keys_ent t e' z
mutual
inductive Dt (K : PySem.W.Frag) (H : Hp) : V → PyData → Prop
  | non : Dt K H .non .none
  | bl (b : Bool) : Dt K H (.bl b) (.bool b)
  | int (i : Int) : Dt K H (.int i) (.int i)
  | str (x : Str) : Dt K H (.str x) (.str x)
  | lst {a : Addr} {xs : List V} {ds : List PyData} : SqL K H a xs → DtAll K H xs ds → Dt K H (.ref a) (.list ds)
  | tup {a : Addr} {xs : List V} {ds : List PyData} : SqT K H a xs → DtAll K H xs ds → Dt K H (.ref a) (.tuple ds)
inductive DtAll (K : PySem.W.Frag) (H : Hp) : List V → List PyData → Prop
  | nil : DtAll K H [] []
  | cons {v : V} {d : PyData} {vs : List V} {ds : List PyData} : Dt K H v d → DtAll K H vs ds → DtAll K H (v :: vs) (d :: ds)
end
section
variable {X : Cx} {pins : List (Addr × Obj)} {σ : St} {H : Hp} {s : Shared}
mutual
theorem Dt.reads (I : Inv X pins σ H s) : ∀ {v : V} {d : PyData} {u : Value}, Dt X.K H v d → RelV v u → ∃ as, Reads s.heap u d as
  | _, _, _, .non, r => by cases r; exact ⟨_, .none⟩
  | _, _, _, .bl b, r => by cases r; exact ⟨_, .bool b⟩
  | _, _, _, .int i, r => by obtain ⟨t, rfl⟩ := r; exact ⟨_, .int i t⟩
  | _, _, _, .str x, r => by obtain ⟨t, rfl⟩ := r; exact ⟨_, .str x t⟩
  | _, _, _, .lst hS hA, r => by
    cases r
    obtain ⟨its, rv, ⟨o, n, e, c, dd, hd⟩, hz⟩ := I.list hS
    obtain ⟨as, ha⟩ := DtAll.reads I hA rv
    first
      | exact ⟨_, .list e c hd (by simpa using ha)⟩
      | exact ⟨_, .list e c dd (by simpa using ha)⟩
  | _, _, _, .tup hS hA, r => by
    cases r
    obtain ⟨its, rv, ⟨o, e, c, n, hd⟩, hz⟩ := I.tuple hS
    obtain ⟨as, ha⟩ := DtAll.reads I hA rv
    exact ⟨_, .tuple e c hd (by simpa using ha)⟩
theorem DtAll.reads (I : Inv X pins σ H s) : ∀ {vs : List V} {ds : List PyData} {us : List Value}, DtAll X.K H vs ds → Vals vs us → ∃ as, ReadsAll s.heap us ds as
  | _, _, _, .nil, .nil => ⟨_, .nil⟩
  | _, _, _, .cons h t, .cons r rr => by
    obtain ⟨a1, h1⟩ := Dt.reads I h r
    obtain ⟨a2, h2⟩ := DtAll.reads I t rr
    exact ⟨_, .cons h1 h2⟩
end
end
section
variable {X : Cx}
inductive rEqD (K : PySem.W.Frag) (x : V) (y : V) (H : Hp) (Q : VK) : Prop
  | mk (dx dy : _) : Dt K H x dx → Dt K H y dy → dx.canLay0 = true → dy.canLay0 = true → min dx.depth dy.depth ≤ 60 → Q (.bl (PyData.eqv dx dy)) H → rEqD K x y H Q
theorem op_eqD {k : Nat} (hr : Room k X.A) : OpR X (compareOp .Eq) (rEqD X.K) := by
  intro pins s σ H x y v u Q I rx ry h
  obtain ⟨dx, dy, h1, h2, c1, c2, dp, q⟩ := h
  obtain ⟨as, ra⟩ := h1.reads I rx
  obtain ⟨bs, rb⟩ := h2.reads I ry
  exact SeqAt.compareEq_reads ra rb c1 c2 (by have := hr.un; lia) ⟨.bl _, H, I, rfl, q⟩
end
end L2
namespace L2
open PySem PySem.Spec PyProof.Rows
end L2
namespace L2
open PySem PySem.Spec PyProof.Rows
section
variable {X : Cx}
theorem pe_ty {x : Str} {n : String} {pos : Pos} (hg : Gl X x) (hm : X.mg x = none) (hv : bootBuiltins x = some (.type n)) (hn : x ≠ "__name__" := by decide) (hd : (x == ("__debug__" : Str)) = false := by decide) : PE X (.Name x pos) (tC (.ty n)) :=
  pe_bltn hg hm hv rfl hn hd
theorem pairs_ent {P : Program} {w : World} : ∀ {kvs : List (Str × V)} {es : List DictEntry}, Paired (EntOk w) kvs es → ∃ vs : List (Str × Value), Pairs (strKind P w) es vs ∧ vs.map (·.1) = kvs.map (·.1)
  | _, _, .nil => ⟨[], .nil, rfl⟩
  | (x, y) :: r, e :: es, .cons h t => by
    obtain ⟨vs, p, q⟩ := pairs_ent (P := P) t
    obtain ⟨h1, ⟨tk, h2⟩, h3⟩ := h
    refine ⟨(x, e.val) :: vs, .cons ?_ rfl p, by rw [List.map_cons, List.map_cons, q]⟩
    rw [h2]
    show Value.isStrOf x (.str x tk) = true
    simp [Value.isStrOf]
theorem vals_keys {P : Program} {w : World} : ∀ {ks : List Str} {us : List Value}, us.length = ks.length → (∀ (j : Nat) k u, ks[j]? = some k → us[j]? = some u → (strKind P w).is k u = true) → Vals (ks.map V.str) us
  | [], [], _, _ => .nil
  | k :: ks, [], h, _ => by cases h
  | [], u :: us, h, _ => by cases h
  | k :: ks, u :: us, h, hv => by
    refine .cons ?_ (vals_keys (P := P) (w := w) (by simpa using h) fun j k' u' a b => hv (j + 1) k' u' (by simpa using a) (by simpa using b))
    obtain ⟨t, e⟩ := Value.isStrOf_shape (hv 0 k u rfl rfl)
    exact ⟨t, e⟩
theorem call_list_top (hc : X.calm = true) : CallR X (.type "list") (fun xs H Q => ∃ a kvs, xs = [.ref a] ∧ TopDict X.w X.K a kvs ∧ (kvs.map (·.1)).Nodup ∧ (a == sysModules) = false ∧ kvs.length ≤ 1000 ∧ ∀ p, H p = none → Q (.ref p) (upd H p (.lst (kvs.map fun kv => V.str kv.1)))) := by
  intro pins s σ H xs us Q I r h
  obtain ⟨a, kvs, rfl, ⟨es, ep, hk, hp⟩, nd, lo, hz, q⟩ := h
  cases r with
  | cons r0 rr =>
    cases rr
    cases r0
    have ho := I.kIn a _ hk
    obtain ⟨vs, pv, ek⟩ := pairs_ent (P := X.prog) hp
    have hat : s.heap.DictAt (strKind X.prog X.w) a vs ep := ⟨_, es, ho, ⟨rfl, rfl, rfl⟩, rfl, fun e he' => keys_ent hp e (by simpa using he'), pv, by rw [ek]; exact nd⟩
    have hl : vs.length = kvs.length := by
      have := congrArg List.length ek
      simpa using this
    have sz : (1000 : Nat) ≤ sizeLine := by decide
    refine PySem.W.kdl_call (PySem.W.kdl_dict (knd := strKind X.prog X.w) (kvs := vs) (ep := ep) lo) (I.ok.hd hc) hat (by lia) fun h' tk acc' c' hkeep hD hacc => ?_
    have hv : Vals ((kvs.map (·.1)).map V.str) acc'.toList := by
      refine vals_keys (P := X.prog) (w := X.w) (by rw [Array.length_toList, hacc.1, List.length_map, hl]) fun j k u e1 e2 => ?_
      obtain ⟨k', x', e3, e4⟩ := hacc.2 j u (by rw [← Array.getElem?_toList]; exact e2)
      rw [← ek, List.getElem?_map, e3] at e1
      have : k' = k := by simpa using e1
      rw [← this]; exact e4
    have e0 : kvs.map (fun kv => V.str kv.1) = (kvs.map (·.1)).map V.str := by rw [List.map_map]; rfl
    refine ⟨.ref s.heap.objs.size, upd H s.heap.objs.size (.lst (kvs.map fun kv => V.str kv.1)), I.laid (t' := tk) hkeep (Nat.le_refl _) ?_, rfl, q _ (I.hok.fresh (Nat.le_refl _))⟩
    refine ⟨by rw [List.length_map]; lia, acc'.toList, c', by rw [e0]; exact hv, ?_⟩
    rw [hD]
end
end L2
namespace L2
open PySem PySem.Spec PyProof.Rows
def S (l : List Nat) : Str := ⟨l.toArray⟩
theorem S_len (l : List Nat) : (S l).length = l.length := by show l.toArray.size = _; simp
section
variable {X : Cx}
theorem in_code (c : Nat) (l : List Nat) : (!(Builtin.Str.occurrences (S l) (S [c]) 0 (S l).length 1).isEmpty) = decide (c ∈ l) := by
  rw [Bool.eq_iff_iff, StrLaws.found_iff, decide_eq_true_iff]
  constructor
  · rintro ⟨i, hi, e⟩
    rw [S_len, S_len] at hi
    have hi' : i < l.length := by simp at hi; lia
    unfold Builtin.Str.subAt at e
    have e' : l.toArray.extract i (i + 1) = #[c] := eq_of_beq e
    have : (l.drop i).take 1 = [c] := by
      have := congrArg Array.toList e'
      simpa [List.extract_eq_drop_take] using this
    have hm : c ∈ (l.drop i).take 1 := by rw [this]; simp
    exact List.mem_of_mem_drop (List.mem_of_mem_take hm)
  · intro h
    obtain ⟨i, hi, e⟩ := List.getElem_of_mem h
    refine ⟨i, by rw [S_len, S_len]; simp; lia, ?_⟩
    unfold Builtin.Str.subAt
    have : l.toArray.extract i (i + 1) = #[c] := by
      apply Array.toList_inj.mp
      rw [Array.toList_extract]
      simp [List.extract_eq_drop_take, List.drop_eq_getElem_cons hi, e]
    show (l.toArray.extract i (i + 1) == #[c]) = true
    rw [this]; exact beq_self_eq_true _
end
end L2
namespace L2
open PySem PySem.Spec PyProof.Rows
section
variable {X : Cx}
theorem isi_ty {T : String} : CallR X (.builtin "isinstance") (fun xs H Q => ∃ x t b, xs = [x, .ty T] ∧ TyOf X.K H x t ∧ PySem.W.kitOne X.K t (.type T) = some b ∧ Q (.bl b) H) := by
  intro pins s σ H xs us Q I r h
  obtain ⟨x, t, b, rfl, ty, e, q⟩ := h
  cases r with
  | cons r0 rr =>
    cases rr with
    | cons r1 rr =>
      cases rr
      cases r1
      exact isinst_ok I r0 ty e fun tk => ⟨.bl b, H, I.tok _, rfl, q⟩
theorem op_fdivB : OpR X (binaryOp .FloorDiv) (rI (fun _ j => 0 < j ∧ j < 18446744073709551616) fun i j => .int (i / j)) := opI fun i j _ _ _ _ _ hc q => by
  have h1 : (0 : Int) < j := hc.1
  have h2 : j < 18446744073709551616 := hc.2
  refine floordiv_int (by lia) (by rw [Int.fdiv_eq_ediv_of_nonneg i (by lia)]; exact q) (.inl (PyProof.noPylong_of_log2 ?_))
  have h3 : j.natAbs ≠ 0 := by lia
  have : j.natAbs.log2 < 64 := (Nat.log2_lt h3).mpr (by show j.natAbs < 2 ^ 64; lia)
  lia
def Its (l : List Nat) : It := ⟨fun i _ => i < l.length, fun i H y H' => H' = H ∧ ∃ h : i < l.length, y = .str (S [l[i]]), fun i _ => l.length ≤ i⟩
theorem turn_ascii {P : Program} {w : World} {K : PySem.W.Frag} {tg : Expr} (l : List Nat) (t : Tok) (it : Addr) : Turn P w K tg (Its l) [it] it (fun i h => h.IsStrIter it "str_ascii_iterator" (S l) t i) where
  mem := by simp
  obj := fun i h st b hb => by
    have e : b = it := by simpa using hb
    subst e
    obtain ⟨o, e, c, d⟩ := st
    exact ⟨o, e, fun v z => by rw [d] at z; cases z⟩
  keep := fun i h h' st k => let ⟨o, ho, r⟩ := st; ⟨o, k it (by simp) o ho, r⟩
  item := by
    intro X hP hw hK hc i pins s σ H E I hf st hg
    subst hP hw hK
    have hg' : i < l.length := hg
    obtain ⟨f0, f1, f2, f3, f4, f5⟩ := hf it (by simp)
    refine wpAny_pyNext_ascii_item st (c := l[i]) (by show l.toArray[i]? = _; simp [hg']) fun h' st' sb => ?_
    have I1 : Inv X pins σ H { s with heap := h', toks := s.toks + 1 } := I.turned (fun b o hb e => (sb.2 b hb).trans e) f0 f1 f3 f4 f5
    obtain ⟨o, e, c, d⟩ := id st'
    exact ⟨_, rfl, go_of (s := { s with heap := h', toks := s.toks + 1 }) e c d (by decide) ⟨.str (S [l[i]]), H, I1, ⟨_, rfl⟩, ⟨rfl, hg', rfl⟩, st', fun b hb => (hf b hb).1⟩⟩
  done := by
    intro X hP hw hK hc i pins s σ H E I hf st hg
    subst hP hw hK
    have hg' : l.length ≤ i := hg
    obtain ⟨f0, f1, f2, f3, f4, f5⟩ := hf it (by simp)
    exact wpAny_pyNext_ascii_end (I.ok.hd hc) st (by show l.toArray[i]? = _; simp [hg']) fun h' eb => ⟨rfl, I.turned (t' := s.toks) (fun b o hb e => eb b o hb e) f0 f1 f3 f4 f5⟩
  self := fun _ _ _ _ _ st h => wpAny_pyIter_striter_ascii st h
theorem turn_wide {P : Program} {w : World} {K : PySem.W.Frag} {tg : Expr} (l : List Nat) (t : Tok) (it : Addr) : Turn P w K tg (Its l) [it] it (fun i h => h.IsStrIter it "str_iterator" (S l) t i) where
  mem := by simp
  obj := fun i h st b hb => by
    have e : b = it := by simpa using hb
    subst e
    obtain ⟨o, e, c, d⟩ := st
    exact ⟨o, e, fun v z => by rw [d] at z; cases z⟩
  keep := fun i h h' st k => let ⟨o, ho, r⟩ := st; ⟨o, k it (by simp) o ho, r⟩
  item := by
    intro X hP hw hK hc i pins s σ H E I hf st hg
    subst hP hw hK
    have hg' : i < l.length := hg
    obtain ⟨f0, f1, f2, f3, f4, f5⟩ := hf it (by simp)
    refine wpAny_pyNext_wide_item st (c := l[i]) (by show l.toArray[i]? = _; simp [hg']) fun h' st' sb => ?_
    have I1 : Inv X pins σ H { s with heap := h', toks := s.toks + 1 } := I.turned (fun b o hb e => (sb.2 b hb).trans e) f0 f1 f3 f4 f5
    obtain ⟨o, e, c, d⟩ := id st'
    exact ⟨_, rfl, go_of (s := { s with heap := h', toks := s.toks + 1 }) e c d (by decide) ⟨.str (S [l[i]]), H, I1, ⟨_, rfl⟩, ⟨rfl, hg', rfl⟩, st', fun b hb => (hf b hb).1⟩⟩
  done := by
    intro X hP hw hK hc i pins s σ H E I hf st hg
    subst hP hw hK
    have hg' : l.length ≤ i := hg
    obtain ⟨f0, f1, f2, f3, f4, f5⟩ := hf it (by simp)
    exact wpAny_pyNext_wide_end (I.ok.hd hc) st (by show l.toArray[i]? = _; simp [hg']) fun h' eb => ⟨rfl, I.turned (t' := s.toks) (fun b o hb e => eb b o hb e) f0 f1 f3 f4 f5⟩
  self := fun _ _ _ _ _ st h => wpAny_pyIter_striter_wide st h
inductive iStrI (R : It → Hp → Prop) (x : V) (H1 : Hp) : Prop
  | mk (l : _) : x = .str (S l) → R (Its l) H1 → iStrI R x H1
def iStr (tl : TE) : TI := fun σ H R => tl σ H fun x H1 => iStrI R x H1
theorem pi_str {tg l : Expr} {tl : TE} (hl : PE X l tl) : PI X tg l (iStr tl) := by
  refine ⟨?_⟩
  intro pins s σ H R I h
  refine thn (hl pins s σ H _ I h) fun v s1 ⟨x, H1, I1, r1, q1⟩ => ?_
  obtain ⟨l, e, q⟩ := q1
  subst e
  obtain ⟨t, rfl⟩ := r1
  have fp : ∀ b ∈ [s1.heap.objs.size], FpOk X pins H1 b := fun b hb => by
    have e : b = s1.heap.objs.size := by simpa using hb
    subst e
    exact I1.fpOk (Nat.le_refl _) (I1.hok.fresh (Nat.le_refl _))
  cases ha : (S l).cps.all (· < 128)
  · exact wpAny_pyIter_wide ha ⟨s1.heap.objs.size, [s1.heap.objs.size], _, _, H1, rfl, I1.kept (t' := s1.toks) fun b o e => Heap.get?_push_of_some _ e, turn_wide l t _, ⟨_, Heap.get?_push_size _ rfl, rfl, rfl⟩, fp, q⟩
  · exact wpAny_pyIter_ascii ha ⟨s1.heap.objs.size, [s1.heap.objs.size], _, _, H1, rfl, I1.kept (t' := s1.toks) fun b o e => Heap.get?_push_of_some _ e, turn_ascii l t _, ⟨_, Heap.get?_push_size _ rfl, rfl, rfl⟩, fp, q⟩
theorem lc_str {l : List Nat} {g : TG} {tf : TT} {te : TE} {ix : List (Option Nat)} {σ : St} {H : Hp} {Q : VK} (Pv : Nat → List V → Hp → Prop) (h0 : Pv 0 [] H)
    (hl : ∀ i ys H, i ≤ l.length → Pv i ys H → ys.length ≤ sizeLine)
    (hs : ∀ i ys H (h : i < l.length), Pv i ys H → g (.str (S [l[i]])) (st0 ix σ) H fun σ2 H2 => ExtL (st0 ix σ) σ2 ∧ tf σ2 H2 fun b H3 => if b = true then te σ2 H3 fun y H4 => Nx Pv l.length i (ys ++ [y]) H4 else Nx Pv l.length i ys H3)
    (hd : ∀ ys H, Pv l.length ys H → ∀ D, H D = none → Q (.ref D) (upd H D (.lst ys))) :
    LcGo (Its l) g tf te ix σ H Q := by
  refine ⟨fun i m ys H => m = l.length - i ∧ i ≤ l.length ∧ Pv i ys H, ⟨l.length, by simp, Nat.zero_le _, h0⟩, ?_⟩
  rintro i m ys H ⟨rfl, hi, p⟩
  have hz := hl i ys H hi p
  by_cases hlt : i < l.length
  · refine .inr ⟨hlt, hz, fun x H' y => ?_⟩
    obtain ⟨e, h, y⟩ := y
    subst e y
    exact hs i ys _ hlt p
  · have e : i = l.length := by lia
    subst e
    exact .inl ⟨Nat.le_refl _, hz, hd ys H p⟩
theorem call_all (hc : X.calm = true) : CallR X (.builtin "all") (fun xs H Q => ∃ (p : Addr) (bs : List Bool), xs = [.ref p] ∧ SqL X.K H p (bs.map V.bl) ∧ Q (.bl (bs.all id)) H) := by
  intro pins s σ H xs us Q I r h
  obtain ⟨p, bs, rfl, hS, q⟩ := h
  obtain ⟨u, rfl, rx⟩ := vals1 r
  cases rx
  obtain ⟨its, rv, pl, hz⟩ := I.list hS
  have hlen := rv.length
  rw [List.length_map] at hlen
  have hne : p ≠ s.heap.objs.size := by
    obtain ⟨o, ho, _⟩ := pl.isList
    exact Nat.ne_of_lt (Heap.lt_size ho)
  refine call_all_walk (wpAny_pyIter_list pl.isList ?_)
  refine ⟨s.heap.objs.size, _, _, _, _, _, fun i => bs.getD i true, rfl, Walks.list (A := X.A.in1) (I.ok.hd hc) s.heap.objs.size p hne its.toArray, ⟨⟨_, Heap.get?_push_size _ rfl, rfl, rfl⟩, pl.isList.at fun o e => Heap.get?_push_of_some _ e⟩, ?_, ?_⟩
  · intro i v s' Q' E' hv hq
    have hv' : its[i]? = some v := by simpa using hv
    have hlt : i < its.length := (List.getElem?_eq_some_iff.mp hv').1
    have hb : i < bs.length := by lia
    obtain ⟨u, hu, ru⟩ := rv.get (i := i) (x := .bl bs[i]) (by simp [hb])
    rw [hv'] at hu
    cases hu
    cases ru
    refine wpAny_truthy_bool ?_
    have e : bs.getD i true = bs[i] := by simp [List.getD, hb]
    dsimp only at hq
    rw [e] at hq
    exact hq
  · intro h' tk hk
    have e : (List.range its.toArray.size).all (fun i => bs.getD i true) = bs.all id := by
      rw [List.size_toArray, ← hlen, Bool.eq_iff_iff, List.all_eq_true, List.all_eq_true]
      constructor
      · intro z x hx
        obtain ⟨i, hi, e⟩ := List.getElem_of_mem hx
        have := z i (List.mem_range.mpr hi)
        rw [show bs.getD i true = bs[i] by simp [List.getD, hi], e] at this
        exact this
      · intro z i hi
        have hi' := List.mem_range.mp hi
        rw [show bs.getD i true = bs[i] by simp [List.getD, hi']]
        exact z _ (List.getElem_mem hi')
    rw [e]
    exact ⟨.bl _, H, I.kept fun b o e => hk b o (fun z => absurd (Heap.lt_size e) (by rw [List.mem_singleton.mp z]; exact Nat.lt_irrefl _)) (Heap.get?_push_of_some _ e), rfl, q⟩
end
end L2
namespace L2
open PySem PySem.Spec PyProof.Rows
section
variable {κ : Type} [DecidableEq κ]
def valV (kvs : List (κ × V)) (k : κ) : Option V := (kvs.find? fun kv => decide (kv.1 = k)).map (·.2)
def putK (kvs : List (κ × V)) (k : κ) (v : V) : List (κ × V) :=
  if (kvs.any fun kv => decide (kv.1 = k)) = true then kvs.map (fun kv => if kv.1 = k then (kv.1, v) else kv) else kvs ++ [(k, v)]
theorem valV_pos {p : κ × V} {r : List (κ × V)} {k : κ} (e : p.1 = k) : valV (p :: r) k = some p.2 := by simp [valV, List.find?_cons, e]
theorem valV_neg {p : κ × V} {r : List (κ × V)} {k : κ} (e : ¬ p.1 = k) : valV (p :: r) k = valV r k := by simp [valV, List.find?_cons, e]
theorem length_putK (kvs : List (κ × V)) (k : κ) (v : V) : (putK kvs k v).length ≤ kvs.length + 1 := by
  unfold putK
  split
  · rw [List.length_map]; lia
  · rw [List.length_append, List.length_cons, List.length_nil]; lia
theorem KV.val {kvs : List (κ × V)} {vs : List (κ × Value)} (r : KV kvs vs) (k : κ) : RelO (valV kvs k) (valueAt vs k) := by
  unfold KV at r
  induction r with
  | nil => exact True.intro
  | @cons p q ps qs h t ih =>
    obtain ⟨h1, h2⟩ := h
    by_cases e : p.1 = k
    · have e' : q.1 = k := h1.symm.trans e
      have b : valueAt (q :: qs) k = some q.2 := by simp [valueAt, List.find?_cons, e']
      rw [valV_pos e, b]; exact h2
    · have e' : ¬ q.1 = k := fun z => e (h1.trans z)
      have b : valueAt (q :: qs) k = valueAt qs k := by simp [valueAt, List.find?_cons, e']
      rw [valV_neg e, b]; exact ih
theorem KV.any {kvs : List (κ × V)} {vs : List (κ × Value)} (r : KV kvs vs) (k : κ) : (kvs.any fun kv => decide (kv.1 = k)) = vs.any fun kv => decide (kv.1 = k) := by
  unfold KV at r
  induction r with
  | nil => rfl
  | cons h t ih => rw [List.any_cons, List.any_cons, ih, h.1]
theorem KV.repl {kvs : List (κ × V)} {vs : List (κ × Value)} (r : KV kvs vs) (k : κ) {y : V} {u : Value} (ry : RelV y u) :
    KV (kvs.map fun kv => if kv.1 = k then (kv.1, y) else kv) (vs.map fun kv => if kv.1 = k then (kv.1, u) else kv) := by
  unfold KV at r ⊢
  induction r with
  | nil => exact .nil
  | @cons p q ps qs h t ih =>
    rw [List.map_cons, List.map_cons]
    refine .cons ?_ ih
    obtain ⟨h1, h2⟩ := h
    by_cases e : p.1 = k
    · rw [if_pos e, if_pos (h1.symm.trans e)]; exact ⟨h1, ry⟩
    · rw [if_neg e, if_neg (fun z => e (h1.trans z))]; exact ⟨h1, h2⟩
theorem KV.put {kvs : List (κ × V)} {vs : List (κ × Value)} (r : KV kvs vs) (k : κ) {y : V} {u : Value} (ry : RelV y u) : KV (putK kvs k y) (stored vs k u) := by
  unfold putK stored
  rw [r.any k]
  by_cases e : (vs.any fun kv => decide (kv.1 = k)) = true
  · rw [if_pos e, if_pos e]; exact r.repl k ry
  · rw [if_neg e, if_neg e]; exact Paired.snoc r ⟨rfl, ry⟩
end
theorem kV_is {P : Program} {w : World} {k : Key} {u : Value} (r : RelV (kV k) u) : (mixKind P w).is k u = true := by
  cases k with
  | inl i => obtain ⟨t, e⟩ := (show ∃ t, u = Value.int i t from r); subst e; exact mixKind_int P w i t
  | inr x => obtain ⟨t, e⟩ := (show ∃ t, u = Value.str x t from r); subst e; exact mixKind_str P w x t
theorem items_are {P : Program} {w : World} : ∀ {ks : List Key} {us : List Value}, Vals (ks.map kV) us → ItemsAre (mixKind P w) ks us
  | [], _, r => by rw [List.map_nil] at r; cases r; exact .nil
  | k :: ks, _, r => by
    rw [List.map_cons] at r
    cases r with
    | cons h t => exact .cons (kV_is h) (items_are t)
abbrev KT (H : Hp) : List (List Key × V) → List (List Key × Addr × Value) → Prop := Paired fun p q => p.1 = q.1 ∧ H q.2.1 = some (.tup (p.1.map kV)) ∧ RelV p.2 q.2.2
theorem KT.val {H : Hp} {kvs : List (List Key × V)} {xs : List (List Key × Addr × Value)} (r : KT H kvs xs) (k : List Key) : RelO (valV kvs k) ((atKey xs k).map (·.2)) := by
  induction r with
  | nil => exact True.intro
  | @cons p q ps qs h t ih =>
    obtain ⟨h1, _, h2⟩ := h
    by_cases e : p.1 = k
    · have e' : q.1 = k := h1.symm.trans e
      have b : atKey (q :: qs) k = some q.2 := by simp [atKey, List.find?_cons, e']
      rw [valV_pos e, b]; exact h2
    · have e' : ¬ q.1 = k := fun z => e (h1.trans z)
      have b : atKey (q :: qs) k = atKey qs k := by simp [atKey, List.find?_cons, e']
      rw [valV_neg e, b]; exact ih
section
variable {P : Program} {w : World} {H : Hp} {h : Heap} {a : Addr}
theorem rd_of {u : HO} (ok : HOk P w H h) (e : Rd H a u) : ObjOk P w H h a u := e.ok ok
theorem dk_rd {kvs : List (Key × V)} (ok : HOk P w H h) (e : Rd H a (.dK kvs)) : kvs.length ≤ sizeLine ∧ (a == sysModules) = false ∧ ∃ vs, KV kvs vs ∧ h.DictOf (mixKind P w) a vs :=
  show ObjOk P w H h a (.dK kvs) from rd_of ok e
theorem dk_of {kvs : List (Key × V)} (ok : HOk P w H h) (e : H a = some (.dK kvs)) : kvs.length ≤ sizeLine ∧ (a == sysModules) = false ∧ ∃ vs, KV kvs vs ∧ h.DictOf (mixKind P w) a vs := dk_rd ok (.inl e)
theorem key_of {ks : List Key} (ok : HOk P w H h) (e : H a = some (.tup (ks.map kV))) : (tupleKind (mixKind P w)).is h ks a := by
  obtain ⟨_, its, r, o, h1, h2, n, h3⟩ := (show ObjOk P w H h a (.tup (ks.map kV)) from ok a _ e)
  exact ⟨o, its.toArray, n, h1, (Prod.mk.inj h2).1, h3, by simpa using items_are r⟩
theorem dt_rd {kvs : List (List Key × V)} (ok : HOk P w H h) (e : Rd H a (.dT kvs)) : kvs.length ≤ sizeLine ∧ (a == sysModules) = false ∧
    ∃ xs, KT H kvs xs ∧ h.DictOfH (tupleKind (mixKind P w)) a xs := by
  obtain ⟨z, y, xs, r, o, es, ep, h1, h2, h3, h4, h5⟩ := (show ObjOk P w H h a (.dT kvs) from rd_of ok e)
  refine ⟨z, y, xs, r, o, es, ep, h1, h2, h3, h4, fun x hx => ?_, h5⟩
  have all : ∀ {l : List (List Key × V)} {m : List (List Key × Addr × Value)}, KT H l m → ∀ x ∈ m, (tupleKind (mixKind P w)).is h x.1 x.2.1 := by
    intro l m q
    induction q with
    | nil => intro x hx; exact nomatch hx
    | @cons p q ps qs hq t ih =>
      intro x hx
      rcases List.mem_cons.mp hx with e | hx
      · subst e
        exact key_of ok (by rw [← hq.1]; exact hq.2.1)
      · exact ih x hx
  exact all r x hx
end
def DGet (H : Hp) (a : Addr) (y : V) (r : Option V) : Prop :=
  (∃ kvs k, Rd H a (.dK kvs) ∧ y = kV k ∧ r = valV kvs k) ∨ ∃ kvs k b, Rd H a (.dT kvs) ∧ y = .ref b ∧ H b = some (.tup (k.map kV)) ∧ r = valV kvs k
theorem DGet.k {H : Hp} {a : Addr} {kvs : List (Key × V)} {k : Key} (e : H a = some (.dK kvs)) : DGet H a (kV k) (valV kvs k) := .inl ⟨kvs, k, .inl e, rfl, rfl⟩
section
variable {X : Cx} {pins : List (Addr × Obj)} {σ : St} {H : Hp} {s : Shared} {a : Addr} {y v : V} {u r : Value} {o : Option V} {A : Around} {E : Value → Shared → Prop}
theorem Inv.big (I : Inv X pins σ H s) : sysModules < s.heap.objs.size := by
  have h : mainGlobals < s.heap.objs.size := (I.mod.glob.keeps I.bk).lt
  exact Nat.lt_trans (by decide) h
theorem d_getItem {Q : Value → Shared → Prop} (hu : A.units + 1 < cLine) (I : Inv X pins σ H s) (g : DGet H a y (some v)) (ry : RelV y u) (h : ∀ w' s', Inv X pins σ H s' → RelV v w' → Q w' s') :
    wpAny (model X.prog X.w) A (getItem (.ref a) u) Q E s := by
  rcases g with ⟨kvs, k, e, ey, l⟩ | ⟨kvs, k, b, e, ey, eb, l⟩
  · subst ey
    obtain ⟨z, hd, vs, rel, dd⟩ := dk_rd I.hok e
    obtain ⟨w', hw, rw'⟩ := RelO.some_of (v := v) (o := valueAt vs k) (by rw [l]; exact rel.val k)
    exact wpAny_getItem_of (kV_is ry) dd.mapOf hw (h w' _ (I.tok _) rw')
  · subst ey
    cases (show u = Value.ref b from ry)
    obtain ⟨z, hd, xs, rel, dd⟩ := dt_rd I.hok e
    obtain ⟨w', hw, rw'⟩ := RelO.some_of (v := v) (o := (atKey xs k).map (·.2)) (by rw [l]; exact rel.val k)
    obtain ⟨p, hp, hp2⟩ := Option.map_eq_some_iff.mp hw
    refine wpAny_getItem_heap (tupleKind_room_in1 hu) (key_of I.hok eb) dd hp ?_
    rw [hp2]
    exact h w' _ (I.tok _) rw'
theorem d_write {h' : Heap} {t' : Nat} {ob : HO} (I : Inv X pins σ H s) (mu : Mut (H a)) (hs : Heap.SameBut a s.heap h') (he : ∃ q, h'.get? a = some q) (new : ObjOk X.prog X.w (upd H a ob) h' a ob) :
    Inv X pins σ (upd H a ob) { s with heap := h', toks := t' } :=
  I.write (x := a) (e := a) mu (.inl rfl) (fun b q hb z => (hs.2 b hb).trans z) he new
theorem dk_new {P : Program} {w : World} {H' : Hp} {h' : Heap} {kvs : List (Key × V)} {vs : List (Key × Value)} (z : kvs.length ≤ sizeLine) (hd : (a == sysModules) = false) (rel : KV kvs vs) (dd : h'.DictOf (mixKind P w) a vs) :
    ObjOk P w H' h' a (.dK kvs) := ⟨z, hd, vs, rel, dd⟩
end
def NoSl (i : Expr) : Prop := ∀ ov iv, subscripted i false ov iv = operate [ov, iv] (getItem ov iv)
theorem subD_of {prog : Program} {w : World} {A : Around} {E : Value → Shared → Prop} {s : Shared} {env : Env} {value slice : Expr} {pos : Pos} {T id : String} {Q : Value → Shared → Prop}
    (hl : typeLookup (.type T) "__getitem__" = pure (some (.builtin id))) (hs : NoSl slice)
    (h : wpAny (model prog w) A (eval value env) (fun o s₁ => wpAny (model prog w) A (eval slice env) (fun i s₂ => s₂.TypeIs o T ∧ wpAny (model prog w) A (getItem o i) Q E s₂) E s₁) E s) :
    wpAny (model prog w) A (eval (.Subscript value slice pos) env) Q E s := by
  refine Subscript_ (wpAny_mono h (fun o s₁ h₁ => wpAny_mono h₁ (fun i s₂ h₂ => ?_) fun _ _ x => x) fun _ _ x => x)
  obtain ⟨hT, h₂⟩ := h₂
  unfold subscriptTail
  refine wpAny_bind ?_
  rw [getitemInPython_of_ne hT.not_modules]
  refine wpAny_bind (wpAny_specialOf hT hl ?_)
  have fin : wpAny (model prog w) A (subscripted slice false o i) (fun r s₃ => wpAny (model prog w) A (letTemporaryGo value o r >>= fun _ => pure r) Q E s₃) E s₂ := by
    rw [hs o i]
    exact wpAny_operating (wpAny_mono h₂ (fun r s₃ h₃ => wpAny_bind (wpAny_letTemporaryGo (wpAny_pure h₃))) fun _ _ x => x)
  first
    | exact wpAny_pure (wpAny_bind fin)
    | exact wpAny_bind (wpAny_pure (wpAny_bind fin))
    | exact wpAny_bind fin
theorem dict_typeIs {X : Cx} {pins : List (Addr × Obj)} {σ : St} {H : Hp} {s : Shared} {a : Addr} {y : V} {o : Option V} (I : Inv X pins σ H s) (g : DGet H a y o) : s.TypeIs (.ref a) "dict" := by
  rcases g with ⟨kvs, k, e, _, _⟩ | ⟨kvs, k, b, e, _, _, _⟩
  · obtain ⟨_, _, vs, _, dd⟩ := dk_rd I.hok e
    exact dd.typeIs
  · obtain ⟨_, _, xs, _, dd⟩ := dt_rd I.hok e
    exact dd.typeIs
inductive tDGetI (Q : VK) (x : V) (y : V) (H2 : Hp) : Prop
  | mk (a v : _) : x = .ref a → DGet H2 a y (some v) → Q v H2 → tDGetI Q x y H2
def tDGet (td ty : TE) : TE := fun σ H Q => td σ H fun x H1 => ty σ H1 fun y H2 => tDGetI Q x y H2
section
variable {X : Cx} {o i e value : Expr} {pos pos' tpos : Pos} {td ty tv : TE}
theorem pe_dget (hu : X.A.units + 1 < cLine) (ho : PE X o td) (hi : PE X i ty) (hs : NoSl i) : PE X (.Subscript o i pos) (tDGet td ty) := by
  refine ⟨?_⟩
  intro pins s σ H Q I h
  refine subD_of PySem.F.slot_dict_getitem.lookup hs (thn (ho pins s σ H _ I h) fun u s1 ⟨x, H1, I1, rx, q1⟩ => thn (hi pins s1 σ H1 _ I1 q1) fun iv s2 ⟨y, H2, I2, ry, a, v, ex, g, q2⟩ => ?_)
  subst ex
  obtain rfl : u = Value.ref a := rx
  exact ⟨dict_typeIs I2 g, d_getItem hu I2 g ry fun w' s3 I3 rw' => ⟨v, H2, I3, rw', q2⟩⟩
end
theorem dk_empty {P : Program} {w : World} {H : Hp} (h : Heap) (hb : sysModules < h.objs.size) : ObjOk P w H (h.push { cls := .type "dict", data := .dict #[] }) h.objs.size (.dK []) :=
  ⟨Nat.zero_le _, beq_eq_false_iff_ne.mpr (Ne.symm (Nat.ne_of_lt hb)), [], .nil, Heap.DictOf.new h⟩
def tDNewK : TE := fun _ H Q => ∀ p, H p = none → Q (.ref p) (upd H p (.dK []))
section
variable {X : Cx} {pos : Pos}
theorem pe_dnewK : PE X (.Dict [] [] pos) tDNewK := ⟨fun pins s σ H Q I h =>
  wpAny_Dict_empty ⟨.ref s.heap.objs.size, _, I.laid (a := s.heap.objs.size) (o := .dK []) (t' := s.toks) (fun _ _ q => Heap.get?_push_of_some _ q) (Nat.le_refl _) (dk_empty s.heap I.big), rfl, h _ (I.hok.fresh (Nat.le_refl _))⟩⟩
end
def tPairs : List (TE × TE) → St → Hp → (List (V × V) → Hp → Prop) → Prop
  | [], _, H, Q => Q [] H
  | (tk, tv) :: r, σ, H, Q => tk σ H fun x H1 => tv σ H1 fun y H2 => tPairs r σ H2 fun ps H3 => Q ((x, y) :: ps) H3
abbrev VV : List (V × V) → List (Value × Value) → Prop := Paired fun p q => RelV p.1 q.1 ∧ RelV p.2 q.2
def PPs (X : Cx) (pos : Pos) (keys : List (Option Expr)) (values : List Expr) (trs : List (TE × TE)) : Prop :=
  ∀ (pins : List (Addr × Obj)) (s : Shared) (σ : St) (H : Hp) (Q : List (V × V) → Hp → Prop), Inv X pins σ H s → tPairs trs σ H Q →
    wpAny (model X.prog X.w) X.A (evalPairs (pairTrees keys values X.env pos)) (fun vs s' => ∃ ps H', Inv X pins σ H' s' ∧ VV ps vs ∧ Q ps H') X.xe s
theorem pps_nil {X : Cx} {pos : Pos} : PPs X pos [] [] [] := fun pins s σ H Q I h => pairTrees_nil_walk ⟨[], H, I, .nil, h⟩
theorem pps_cons {X : Cx} {pos : Pos} {k v : Expr} {ks : List (Option Expr)} {vs : List Expr} {tk tv : TE} {trs : List (TE × TE)} (hk : PE X k tk) (hv : PE X v tv) (hr : PPs X pos ks vs trs) :
    PPs X pos (some k :: ks) (v :: vs) ((tk, tv) :: trs) := fun pins s σ H Q I h =>
  pairTrees_cons_walk (thn (hk pins s σ H _ I h) fun u s1 ⟨x, H1, I1, rx, q1⟩ => thn (hv pins s1 σ H1 _ I1 q1) fun w2 s2 ⟨y, H2, I2, ry, q2⟩ =>
    thn (hr pins s2 σ H2 _ I2 q2) fun ws s3 ⟨ps, H3, I3, rel, q3⟩ => ⟨(x, y) :: ps, H3, I3, .cons ⟨rx, ry⟩ rel, q3⟩)
def mergeK (kvs more : List (Key × V)) : List (Key × V) := more.foldl (fun acc kv => putK acc kv.1 kv.2) kvs
theorem KV.merge : ∀ {more : List (Key × V)} {rs : List (Key × Value)} {kvs : List (Key × V)} {vs : List (Key × Value)}, KV more rs → KV kvs vs → KV (mergeK kvs more) (merged vs rs) := by
  intro more rs kvs vs r
  unfold KV at r
  induction r generalizing kvs vs with
  | nil => intro q; exact q
  | @cons p q ps qs h t ih =>
    intro r0
    have e : KV (putK kvs p.1 p.2) (stored vs q.1 q.2) := by
      have := r0.put p.1 h.2
      rw [← h.1]; exact this
    exact ih e
theorem length_mergeK : ∀ (more kvs : List (Key × V)), (mergeK kvs more).length ≤ kvs.length + more.length
  | [], kvs => by show kvs.length ≤ kvs.length + 0; lia
  | p :: r, kvs => by
    have h1 := length_mergeK r (putK kvs p.1 p.2)
    have h2 := length_putK kvs p.1 p.2
    show (mergeK (putK kvs p.1 p.2) r).length ≤ _
    rw [List.length_cons]; lia
theorem carries_of {P : Program} {w : World} : ∀ {kvs : List (Key × V)} {ws : List (Value × Value)}, VV (kvs.map fun kv => (kV kv.1, kv.2)) ws → ∃ rs, Carries (mixKind P w) ws rs ∧ KV kvs rs
  | [], _, r => by rw [List.map_nil] at r; cases r; exact ⟨[], True.intro, .nil⟩
  | p :: kvs, _, r => by
    rw [List.map_cons] at r
    cases r with
    | @cons a b as bs h t =>
      obtain ⟨rs, c, q⟩ := carries_of (P := P) (w := w) t
      obtain ⟨b1, b2⟩ := b
      exact ⟨(p.1, b2) :: rs, ⟨kV_is h.1, rfl, c⟩, .cons ⟨rfl, h.2⟩ q⟩
def tDisp (trs : List (TE × TE)) : TE := fun σ H Q => ∀ p, H p = none → tPairs trs σ (upd H p (.dK [])) fun ps H2 => H2 p = some (.dK []) ∧ ∃ kvs : List (Key × V), ps = kvs.map (fun kv => (kV kv.1, kv.2)) ∧ kvs.length ≤ 15 ∧ Q (.ref p) (upd H2 p (.dK (mergeK [] kvs)))
theorem pe_disp {X : Cx} {pos : Pos} {keys : List (Option Expr)} {values : List Expr} {trs : List (TE × TE)} (h : PPs X pos keys values trs) (hall : keys.all (·.isSome) = true) (hl : keys.length = values.length) (h0 : keys ≠ [])
    (h15 : keys.length ≤ 15) : PE X (.Dict keys values pos) (tDisp trs) := by
  refine ⟨?_⟩
  intro pins s σ H Q I q
  have hn := I.hok.fresh (Nat.le_refl s.heap.objs.size)
  have I1 := I.laid (a := s.heap.objs.size) (o := .dK []) (h' := s.heap.push { cls := .type "dict", data := .dict #[] }) (t' := s.toks) (fun _ _ q => Heap.get?_push_of_some _ q) (Nat.le_refl _) (dk_empty s.heap I.big)
  refine wpAny_Dict_walk (knd := mixKind X.prog X.w) hall hl h0 h15 (thn (h pins _ σ _ _ I1 (q _ hn)) fun ws s2 ⟨ps, H2, I2, rel, e, kvs, ep, lk, q2⟩ => ?_)
  subst ep
  obtain ⟨rs, c, rk⟩ := carries_of (P := X.prog) (w := X.w) rel
  obtain ⟨z, hd, vs0, r0, dd⟩ := dk_of I2.hok e
  cases r0
  refine ⟨rs, c, dd, fun h' dd' hs => ⟨.ref s.heap.objs.size, _, ?_, rfl, q2⟩⟩
  have hz : (mergeK [] kvs).length ≤ sizeLine := by
    have h1 := length_mergeK kvs []
    rw [List.length_nil] at h1
    rw [sizeLine_eq]; lia
  have he : ∃ q, h'.get? s.heap.objs.size = some q := let ⟨q, _, _, hq, _⟩ := dd'; ⟨q, hq⟩
  exact d_write I2 (by rw [e]; exact True.intro) hs he (dk_new hz hd (rk.merge .nil) dd')
end L2
namespace L2
open PySem PySem.Spec PyProof.Rows
theorem lc_tup {K : PySem.W.Frag} {a : Addr} {xs : List V} {g : TG} {tf : TT} {te : TE} {ix : List (Option Nat)} {σ : St} {H : Hp} {Q : VK} (Pv : Nat → List V → Hp → Prop) (h0 : Pv 0 [] H)
    (hl : ∀ i ys H, i ≤ xs.length → Pv i ys H → SqT K H a xs ∧ ys.length ≤ sizeLine)
    (hs : ∀ i x ys H, xs[i]? = some x → Pv i ys H → g x (st0 ix σ) H fun σ2 H2 => ExtL (st0 ix σ) σ2 ∧ tf σ2 H2 fun b H3 => if b = true then te σ2 H3 fun y H4 => Nx Pv xs.length i (ys ++ [y]) H4 else Nx Pv xs.length i ys H3)
    (hd : ∀ ys H, Pv xs.length ys H → ∀ D, H D = none → Q (.ref D) (upd H D (.lst ys))) :
    LcGo (Itt K a) g tf te ix σ H Q := by
  refine ⟨fun i m ys H => m = xs.length - i ∧ i ≤ xs.length ∧ Pv i ys H, ⟨xs.length, by simp, Nat.zero_le _, h0⟩, ?_⟩
  rintro i m ys H ⟨rfl, hi, p⟩
  obtain ⟨q, hz⟩ := hl i ys H hi p
  by_cases hlt : i < xs.length
  · refine .inr ⟨⟨xs, xs[i], q, by simp [hlt]⟩, hz, fun x H' y => ?_⟩
    obtain ⟨e, y⟩ := y
    subst e
    exact hs i x ys _ (y xs q) p
  · have e : i = xs.length := by lia
    subst e
    exact .inl ⟨⟨xs, q, Nat.le_refl _⟩, hz, hd ys H p⟩
def TupK (H H' : Hp) : Prop := ∀ a xs, H a = some (.tup xs) → H' a = some (.tup xs)
theorem kt_same {H H' : Hp} (s : Same H H') : TupK H H' := fun a xs e => s _ _ e
theorem kt_lst {H : Hp} {p : Addr} {xs ys : List V} (h : H p = some (.lst xs)) : TupK H (upd H p (.lst ys)) := fun a zs e => by
  have : a ≠ p := by
    rintro rfl
    rw [h] at e
    cases e
  rw [upd_ne this]
  exact e
def okS (x : Str) : Bool := (PyData.str x).canLay0
end L2
namespace XB
open PySem PySem.W PySem.Calls PyProof.Rows Builtin Builtin.ObjectAttr
abbrev bmV : List Value := [.type "ValueError", .type "Exception", .type "BaseException", .type "object"]
section
variable {prog : Program} {w : World} {A : Around} {E : Value → Shared → Prop} {s : Shared} {K : Frag} {x C : Addr} {ox : Obj} {od : Option Obj} {name : Str} {expr : Bool}
theorem xga_run {tk : Tok} {v : Value} {R : Result → Shared → Prop} (X : K.In s.heap) (I : InstAt s.heap x ox C od) (hb : mroIn K C (.type "BaseException") = some true) (hf : findObj K C od name = some (.value v)) (hq : R (.ok (.ret v)) s) :
    codeAny (model prog w) A (.call (.builtin "BaseException.__getattribute__") ⟨[.ref x, .str name tk], []⟩) R s := by
  refine codeAny_call_builtin F.attr_ValueError.ga.plain F.entry_bexc_ga ?_
  refine @check_slot (model prog w) _ _ s "BaseException.__getattribute__" "BaseException" "__getattribute__" (.ref x) [.str name tk] [] _ (by decide +kernel) (by decide +kernel) (I.type.andThen (looks_mroIn X hb)) (F.args_bexc_ga (.ref x) (.str name tk)) ?_
  obtain ⟨hh, g, d, t, os⟩ := s
  have L0 := I.type (M := model prog w)
  have L1 := looks_find (M := model prog w) X I hf
  refine wpAny_bind (wpAny_pure (wpAny_bind (wpAny_pure (wpAny_bind (L0.at (wpAny_bind (L1.at ?_)))))))
  exact wpAny_pure hq
theorem xga_bind {tk : Tok} {g a : Value} {R : Result → Shared → Prop} (X : K.In s.heap) (I : InstAt s.heap x ox C od) (hb : mroIn K C (.type "BaseException") = some true) (hf : findObj K C od name = some (.bind g a))
    (hq : codeAny (model prog w) A.in1 (.call g ⟨[a, .ref x, .ref C], []⟩) (fun r s' => match r with | .ok (.ret v) => R (.ok (.ret v)) s' | .ok _ => False | .error e => R (.error e) s') s) :
    codeAny (model prog w) A (.call (.builtin "BaseException.__getattribute__") ⟨[.ref x, .str name tk], []⟩) R s := by
  refine codeAny_call_builtin F.attr_ValueError.ga.plain F.entry_bexc_ga ?_
  refine @check_slot (model prog w) _ _ s "BaseException.__getattribute__" "BaseException" "__getattribute__" (.ref x) [.str name tk] [] _ (by decide +kernel) (by decide +kernel) (I.type.andThen (looks_mroIn X hb)) (F.args_bexc_ga (.ref x) (.str name tk)) ?_
  obtain ⟨hh, g', d, t, os⟩ := s
  have L0 := I.type (M := model prog w)
  have L1 := looks_find (M := model prog w) X I hf
  refine wpAny_bind (wpAny_pure (wpAny_bind (wpAny_pure (wpAny_bind (L0.at (wpAny_bind (L1.at ?_)))))))
  show wpAny _ _ (holding [a] (call g [a, .ref x, .ref C]) >>= ret) _ _ _
  refine wpAny_bind (wpAny_holding (wpAny_call (codeAny_mono hq fun r s' z => ?_)))
  rcases r with e | (v | _ | _ | _) <;> first | exact z | exact wpAny_pure z
theorem xget_open {Q : Value → Shared → Prop} (X : K.In s.heap) (I : InstAt s.heap x ox C od) (hga : findIn K (.ref C) "__getattribute__" = some (some (.builtin "BaseException.__getattribute__"))) (hgt : findIn K (.ref C) "__getattr__" = some none)
    (h : codeAny (model prog w) A (.call (.builtin "BaseException.__getattribute__") ⟨[.ref x, .str name s.toks], []⟩) (fun r s' => match r with | .ok (.ret v) => wpAny (model prog w) A (handedOut v) Q E s' | _ => False) { s with toks := s.toks + 1 }) :
    wpAny (model prog w) A (getAttr (.ref x) name expr) Q E s := by
  obtain ⟨hh, g, d, t, os⟩ := s
  have L0 := I.type (M := model prog w)
  have L1 := looks_findIn (M := model prog w) X hga
  have L2 := looks_findIn (M := model prog w) X hgt
  have hx2 : (Value.builtin "BaseException.__getattribute__" == Value.builtin "object.__getattribute__") = false := by decide +kernel
  unfold getAttr getAttrBy
  refine wpAny_bind (wpAny_mkText (wpAny_holding (wpAny_bind (L0.at (wpAny_bind (L1.at ?_))))))
  dsimp only
  rw [show (onTheHeap (Value.ref C) && Value.builtin "BaseException.__getattribute__" == Value.builtin "object.__getattribute__") = false by rw [hx2]; rfl, if_neg (by decide)]
  unfold getAttrByItsOwn hookBefore
  rw [if_pos (show onTheHeap (Value.ref C) = true from rfl)]
  refine wpAny_bind (L2.at (wpAny_bind (wpAny_attempt (wpAny_holding ?_))))
  unfold callGetattribute
  rw [show (expr && onTheHeap (Value.builtin "BaseException.__getattribute__")) = false by cases expr <;> rfl, if_neg (by decide)]
  unfold boundAndCalled
  rw [F.attr_ValueError.ga.bind]
  refine wpAny_bind (wpAny_pure ?_)
  show wpAny _ _ (call (.builtin "BaseException.__getattribute__") [.ref x, .str name t]) _ _ _
  refine wpAny_call (codeAny_mono h fun r s' z => ?_)
  rcases r with e | (v | _ | _ | _) <;> first | exact z | exact z.elim
theorem xget_value {v : Value} {Q : Value → Shared → Prop} (X : K.In s.heap) (I : InstAt s.heap x ox C od) (hga : findIn K (.ref C) "__getattribute__" = some (some (.builtin "BaseException.__getattribute__"))) (hgt : findIn K (.ref C) "__getattr__" = some none)
    (hb : mroIn K C (.type "BaseException") = some true) (hf : findObj K C od name = some (.value v)) (hh : handedIn v = true) (h : Q v { s with toks := s.toks + 1 }) : wpAny (model prog w) A (getAttr (.ref x) name expr) Q E s :=
  xget_open X I hga hgt (xga_run (s := { s with toks := s.toks + 1 }) X I hb hf (handed_on hh h))
theorem xcls_open {Q : Option Value → Shared → Prop} (X : K.In s.heap) (I : InstAt s.heap x ox C od) (hga : findIn K (.ref C) "__getattribute__" = some (some (.builtin "BaseException.__getattribute__"))) (hgt : findIn K (.ref C) "__getattr__" = some none)
    (h : codeAny (model prog w) A (.call (.builtin "BaseException.__getattribute__") ⟨[.ref x, .str name s.toks], []⟩) (fun r s' => match r with | .ok (.ret v) => wpAny (model prog w) A (handedOut v) (fun v s'' => Q (some v) s'') (fun _ _ => False) s' | _ => False) { s with toks := s.toks + 1 }) :
    wpAny (model prog w) A (getAttr? (.ref x) name) Q E s := by
  obtain ⟨hh, g, d, t, os⟩ := s
  have L0 := I.type (M := model prog w)
  have L1 := looks_findIn (M := model prog w) X hga
  have L2 := looks_findIn (M := model prog w) X hgt
  have hx2 : (Value.builtin "BaseException.__getattribute__" == Value.builtin "object.__getattribute__") = false := by decide +kernel
  unfold getAttr? getAttrBy? getAttrBy
  refine wpAny_bind (wpAny_mkText (wpAny_bind (wpAny_attempt (wpAny_holding (wpAny_bind (L0.at (wpAny_bind (L1.at ?_))))))))
  dsimp only
  rw [show (onTheHeap (Value.ref C) && Value.builtin "BaseException.__getattribute__" == Value.builtin "object.__getattribute__") = false by rw [hx2]; rfl, if_neg (by decide)]
  unfold getAttrByItsOwn hookBefore
  rw [if_pos (show onTheHeap (Value.ref C) = true from rfl)]
  refine wpAny_bind (L2.at (wpAny_bind (wpAny_attempt (wpAny_holding ?_))))
  unfold callGetattribute
  rw [show (false && onTheHeap (Value.builtin "BaseException.__getattribute__")) = false from rfl, if_neg (by decide)]
  unfold boundAndCalled
  rw [F.attr_ValueError.ga.bind]
  refine wpAny_bind (wpAny_pure ?_)
  show wpAny _ _ (call (.builtin "BaseException.__getattribute__") [.ref x, .str name t]) _ _ _
  refine wpAny_call (codeAny_mono h fun r s' z => ?_)
  rcases r with e | (v | _ | _ | _) <;> first | exact wpAny_mono z (fun v s'' hv => wpAny_pure hv) (fun _ _ z => z.elim) | exact z.elim
theorem kitx_exc (hd : (clsIn K C).isSome = true) (hga : findIn K (.ref C) "__getattribute__" = some (some (.builtin "BaseException.__getattribute__"))) (hgt : findIn K (.ref C) "__getattr__" = some none)
    (hb : mroIn K C (.type "BaseException") = some true) (ho : mroIn K C (.type "object") = some true)
    (ha : findIn K (.ref C) "__class__" = some (some (.builtin "object.__class__"))) (hn : specialIn K (.builtin "object.__class__") "__get__" = some (some (.builtin "getset_descriptor.__get__"))) (htk : takesIn K (.builtin "object.__class__") = some true) :
    KitX K (.ref x) (.ref C) (fun h => ∃ ox od, InstAt h x ox C od) where
  ty := fun _ _ _ ⟨_, _, I⟩ => I.type
  it := fun _ _ X _ => by
    obtain ⟨cdD, hcD⟩ := Option.isSome_iff_exists.mp hd
    unfold clsIn at hcD
    split at hcD
    · rename_i c' d' cd' sl' ho
      intro A' Q' E' s' k q
      unfold isType loadHead
      exact wpAny_bind (wpAny_loadPart (k _ _ (X _ _ ho)) (wpAny_pure q))
    · cases hcD
  ne := fun h tp dd its n sl X htp => by
    obtain ⟨cdD, hcD⟩ := Option.isSome_iff_exists.mp hd
    refine Bool.eq_false_iff.mpr fun q => ?_
    have e : C = tp := Value.ref.inj (beq_iff_eq.mp q)
    subst e
    unfold clsIn at hcD
    split at hcD
    · rename_i c' d' cd' sl' ho
      have z := (X _ _ ho).symm.trans htp
      cases z
    · cases hcD
  ca := fun {prog w A E Q s} X ⟨ox, od, I⟩ k => by
    have hf : findObj K C od "__class__" = some (.bind (.builtin "getset_descriptor.__get__") (.builtin "object.__class__")) := by
      obtain ⟨cdD, hcD⟩ := Option.isSome_iff_exists.mp hd
      unfold findObj
      rw [hcD, Option.bind_some, ha, Option.bind_some]
      dsimp only
      rw [hn, Option.bind_some]
      dsimp only
      rw [htk, Option.bind_some]
    refine xcls_open X I hga hgt (xga_bind (s := { s with toks := s.toks + 1 }) X I hb hf ?_)
    refine class_get (s := { s with toks := s.toks + 1 }) X I ho ?_
    exact handed_on rfl k
end
end XB
namespace XB
open PySem PySem.W PySem.Calls PyProof.Rows Builtin Builtin.ObjectAttr
section
variable {prog : Program} {w : World} {A : Around} {E : Value → Shared → Prop} {h : Heap} {g : Array GenState} {d : Drawn} {t : Nat} {os : OsState}
variable {nm q : Str} {C N x : Addr} {bs bm : List Value} {sn : List Str} {sub : List Value} {ab : Bool} {col : Option Bool} {dd : Option Addr} {k0 k1 k2 k3 k5 : Option Value} {newId : String}
  {mA : Str → Option Value} {name : Str} {v : Value} {o : Obj}
def Tail (bm : List Value) : Prop := bm = bmV ∨ ∃ R, bm = .ref R :: bmV
theorem Tail.pass {bm : List Value} (T : Tail bm) (self : Value) : refuseLoop self "__setattr__" bm = pure () := by
  rcases T with rfl | ⟨R, rfl⟩
  · exact F.store_ValueError.passes self
  · rw [refuseLoop_ref]; exact F.store_ValueError.passes self
theorem Tail.has {bm : List Value} (T : Tail bm) (C : Addr) (n : String) (b : Bool) (e : bmV.contains (.type n) = b) : (Value.ref C :: bm).contains (.type n) = b := by
  rcases T with rfl | ⟨R, rfl⟩
  · rw [List.contains_cons, e]; rfl
  · rw [List.contains_cons, List.contains_cons, e]; rfl
theorem xstore_new {tk : Tok} {Q : Fin → Shared → Prop} (T : Tail bm) (hC : h.get? C = some (excClassObj nm q C N bs bm true sn sub ab col dd k0 k1 k2 k3 k5 newId)) (LN : Looks (model prog w) h (typeLookup (.ref C) name) none)
    (hx : h.get? x = some o) (hc : o.cls = .ref C) (hnc : ∀ c, o.data ≠ .cls c) (hdn : o.dict = none)
    (hq : ∀ h' tk', h'.get? x = some { cls := o.cls, dict := some h.objs.size, data := o.data, slots := o.slots } → h'.Ns1 h.objs.size (fun y => if y = name then some v else none) → (∀ b ob, b ≠ x → h.get? b = some ob → h'.get? b = some ob) → Q (.done (.ret .none)) ⟨h', g, d, tk', os⟩) :
    wpAny (model prog w) A (Builtin.«object.__setattr__» ⟨[.ref x, .str name tk, v], []⟩) Q E ⟨h, g, d, t, os⟩ := by
  have hpass := T.pass (.ref x)
  unfold Builtin.«object.__setattr__»
  repeat (first | rw [refuse_eq] | (rw [refuseLoop_ref, hpass]) | (with_reducible refine wpAny_loadPart_at hx ?_; rw [hc]) | with_reducible refine wpAny_mroOf_exc hC ?_ | with_reducible refine LN.at ?_ | wp_step)
  rw [hdn, if_neg (by simp [typeHasDict])]
  split
  · rename_i hcd
    cases hcd
  split
  · rename_i c hcd
    exact absurd hcd (hnc c)
  · have hx₁ : (h.push { cls := .type "dict", data := .dict #[] }).get? x = some o := Heap.get?_push_of_some _ hx
    have hxs : x ≠ h.objs.size := Nat.ne_of_lt (Heap.lt_size hx)
    refine wpAny_bind (wpAny_alloc' ?_)
    refine wpAny_bind (wpAny_update' hx₁ ?_)
    refine wpAny_pure ?_
    have hgd : ((h.push { cls := .type "dict", data := .dict #[] }).update x fun o => { cls := o.cls, dict := some h.objs.size, data := o.data, slots := o.slots }).get? h.objs.size
        = some { cls := .type "dict", data := .dict #[] } :=
      (Heap.get?_update_ne _ _ _ _ hxs.symm).trans (Heap.get?_push_at rfl rfl)
    have hnd : ((h.push { cls := .type "dict", data := .dict #[] }).update x fun o => { cls := o.cls, dict := some h.objs.size, data := o.data, slots := o.slots }).Ns h.objs.size (fun _ => none) :=
      ⟨_, #[], _, hgd, rfl, fun e he => absurd he (by simp), fun _ => rfl⟩
    show wpAny _ _ (storeInDict h.objs.size (.str name tk) name v) _ _ _
    unfold storeInDict newKeyGuard
    refine wpAny_bind (wpAny_pure (wpAny_bind (wpAny_nsSet1 (Heap.Ns1.of_empty hnd) fun h' hn' hs => ?_)))
    obtain ⟨oD, esD, epD, hoD, hdD, hcD⟩ := hn'.count (Within.cons name v Within.nil)
    refine wpAny_bind (wpAny_lookBehind hoD (by rw [hdD]; exact pastItsLine_dict (Nat.le_trans hcD (by rw [List.length_cons, List.length_nil, sizeLine_eq]; lia))) ?_)
    wp_walk
    refine hq h' _ ?_ hn' (fun b ob hbx hb => ?_)
    · refine (hs.2 x hxs).trans (Heap.get?_update_self _ hx₁ ?_)
      have hfr := (Heap.get?_some_iff.mp hx).2
      obtain ⟨oc, od, odt, osl⟩ := o
      cases odt <;> first | rfl | exact hfr
    · exact (hs.2 b (Nat.ne_of_lt (Heap.lt_size hb))).trans ((Heap.get?_update_ne _ _ _ _ hbx).trans (Heap.get?_push_of_some _ hb))
theorem xstore_old {tk : Tok} {Q : Fin → Shared → Prop} {dx : Addr} {ns : List Str} (T : Tail bm) (hC : h.get? C = some (excClassObj nm q C N bs bm true sn sub ab col dd k0 k1 k2 k3 k5 newId)) (LN : Looks (model prog w) h (typeLookup (.ref C) name) none)
    (hx : h.get? x = some o) (hc : o.cls = .ref C) (hdx : o.dict = some dx) (hns : h.Ns1 dx mA) (hw : Within mA ns) (hsz : ns.length < sizeLine)
    (hq : ∀ h' tk', h'.Ns1 dx (fun y => if y = name then some v else mA y) → Heap.SameBut dx h h' → Q (.done (.ret .none)) ⟨h', g, d, tk', os⟩) :
    wpAny (model prog w) A (Builtin.«object.__setattr__» ⟨[.ref x, .str name tk, v], []⟩) Q E ⟨h, g, d, t, os⟩ := by
  have hpass := T.pass (.ref x)
  unfold Builtin.«object.__setattr__»
  repeat (first | rw [refuse_eq] | (rw [refuseLoop_ref, hpass]) | (with_reducible refine wpAny_loadPart_at hx ?_; rw [hc]) | with_reducible refine wpAny_mroOf_exc hC ?_ | with_reducible refine LN.at ?_ | wp_step)
  rw [hdx]
  refine wpAny_pure ?_
  show wpAny _ _ (storeInDict dx (.str name tk) name v) _ _ _
  unfold storeInDict newKeyGuard
  refine wpAny_bind (wpAny_pure (wpAny_bind (wpAny_nsSet1 hns fun h' hn' hs => ?_)))
  obtain ⟨oD, esD, epD, hoD, hdD, hcD⟩ := hn'.count (Within.cons name v hw)
  refine wpAny_bind (wpAny_lookBehind hoD (by rw [hdD]; exact pastItsLine_dict (Nat.le_trans hcD (by rw [List.length_cons]; lia))) ?_)
  wp_walk
  exact hq h' _ hn' hs
theorem xset_open {Q : Unit → Shared → Prop} {K : Frag} {od : Option Obj} (X : K.In h) (I : InstAt h x o C od) (hs : findIn K (.ref C) "__setattr__" = some (some (.builtin "object.__setattr__"))) (ho : mroIn K C (.type "object") = some true)
    (hq : ∀ A', wpAny (model prog w) A' (Builtin.«object.__setattr__» ⟨[.ref x, .str name t, v], []⟩) (fun f s' => f = .done (.ret .none) ∧ Q () s') (fun _ _ => False) ⟨h, g, d, t + 1, os⟩) :
    wpAny (model prog w) A (setAttr (.ref x) name v) Q E ⟨h, g, d, t, os⟩ := by
  refine set_plain X I hs ?_
  refine codeAny_call_builtin F.store_ValueError.slot.plain F.store_ValueError.entry ?_
  refine @check_slot (model prog w) _ _ ⟨h, g, d, t + 1, os⟩ "object.__setattr__" "object" "__setattr__" (.ref x) [.str name t, v] [] _ F.store_ValueError.kind F.store_ValueError.split (I.type.andThen (looks_mroIn X ho)) (F.store_ValueError.args (.ref x) (.str name t) v) ?_
  refine wpAny_mono (hq _) (fun f s' z => ?_) fun _ _ z => z.elim
  obtain ⟨rfl, z⟩ := z
  exact z
theorem xcheck_new {M : Model} {rest : List Value} {Q : Unit → Shared → Prop} (T : Tail bm) (hC : h.get? C = some (excClassObj nm q C N bs bm true sn sub ab col dd k0 k1 k2 k3 k5 "ValueError.__new__"))
    (hq : Q () ⟨h, g, d, t, os⟩) : wpAny M A (checkBuiltinCall "ValueError.__new__" ⟨.ref C :: rest, []⟩) Q E ⟨h, g, d, t, os⟩ := by
  have F := F.excBase_ValueError
  have hcont := T.has C "ValueError" true (by decide +kernel)
  have hstar := F.noStar
  simp only [checkBuiltinCall, F.newKind, F.newSplit, F.newRow]
  repeat (first | refine wpAny_loadPart_at hC ?_ | (refine wpAny_isSubtype_exc hC ?_; rw [hcont]) | refine wpAny_staticBase_exc hC ?_ | refine wpAny_madeBy_exc hC ?_ | simp only [bne_self_eq_false, Bool.false_eq_true, if_false] | wp_step)
  exact hq
theorem xnew {R : Result → Shared → Prop} {rest : List Value} (T : Tail bm) (hC : h.get? C = some (excClassObj nm q C N bs bm true sn sub ab col dd k0 k1 k2 k3 k5 "ValueError.__new__"))
    (hq : R (.ok (.ret (.ref (h.objs.size + 1)))) ⟨(h.push { cls := .type "tuple", data := .seq rest.toArray }).push
      { cls := .ref C, data := .fields #[.ref h.objs.size, .none, .none, .none, .bool false, .none] }, g, d, t, os⟩) (hrest : rest.length ≤ sizeLine) :
    codeAny (model prog w) A (.builtin "ValueError.__new__" ⟨.ref C :: rest, []⟩) R ⟨h, g, d, t, os⟩ := by
  have F := F.excBase_ValueError
  have hends := F.ends
  have hcB := T.has C "ValueError" true (by decide +kernel)
  have hcA := T.has C "AttributeError" false (by decide +kernel)
  have hcN := T.has C "NameError" false (by decide +kernel)
  refine codeAny_builtinAt F.entry ?_
  unfold Builtin.«BaseException.__new__»
  refine PySem.wpAt_bind ?_
  show PySem.wpAt _ _ _ (stack >>= _) _ _ _
  refine PySem.wpAt_bind (PySem.wpAt_stack fun p below => PySem.wpAt_of_wpAny ?_)
  wp_walk
  refine PySem.wpAt_of_wpAny ?_
  rw [F.owner]
  repeat (first | with_reducible refine wpAny_madeHere_exc F.canon hC ?_ | with_reducible refine wpAny_loadPart_at hC ?_ | (with_reducible refine wpAny_isSubtype_exc hC ?_; first | rw [hcB] | rw [hcA] | rw [hcN]) | wp_step)
  show R _ _
  rw [Heap.size_push]
  exact hq
abbrev tupO (rest : List Value) : Obj := { cls := .type "tuple", data := .seq rest.toArray }
abbrev excO (C : Addr) (a : Addr) : Obj := { cls := .ref C, data := .fields #[.ref a, .none, .none, .none, .bool false, .none] }
theorem xmake_type {rest : List Value} {fI : Addr} {oI : Obj} {Q : Fin → Shared → Prop} (T : Tail bm) (hC : h.get? C = some (excClassObj nm q C N bs bm true sn sub ab col dd k0 k1 k2 k3 k5 "ValueError.__new__"))
    (LI : Looks (model prog w) h (typeLookup (.ref C) "__init__") (some (.ref fI))) (hfI : h.get? fI = some oI) (hfc : oI.cls = .type "function")
    (hq : wpAny (model prog w) A (call (.ref fI) (.ref (h.objs.size + 1) :: rest)) (fun r s' => r = .none ∧ Q (.done (.ret (.ref (h.objs.size + 1)))) s') E ⟨(h.push (tupO rest)).push (excO C h.objs.size), g, d, t, os⟩) (hrest : rest.length ≤ sizeLine) :
    wpAny (model prog w) A (Builtin.«type.__call__» ⟨.ref C :: rest, []⟩) Q E ⟨h, g, d, t, os⟩ := by
  have F := F.excBase_ValueError
  repeat (first | with_reducible refine wpAny_loadPart_at hC ?_ | with_reducible refine wpAny_madeBy_exc hC ?_ | wp_step)
  refine codeAny_call_builtin_code (Code.quiet_builtin _ F.quiet) (xcheck_new T hC ?_)
  refine xnew T hC ?_ hrest
  show wpAny _ _ _ _ _ _
  have kp : ∀ b o, h.get? b = some o → ((h.push (tupO rest)).push (excO C h.objs.size)).get? b = some o := fun b o hb => Heap.get?_push_of_some _ (Heap.get?_push_of_some _ hb)
  have hC₁ := kp _ _ hC
  have hfI₁ := kp _ _ hfI
  have hget : ((h.push (tupO rest)).push (excO C h.objs.size)).get? (h.objs.size + 1) = some (excO C h.objs.size) := by heap_get
  have hcC : (Value.ref C :: bm).contains (.ref C) = true := by simp
  unfold isInstance
  repeat (first | with_reducible refine wpAny_loadPart_at hget ?_ | (with_reducible refine wpAny_isSubtype_exc hC₁ ?_; rw [hcC]) | wp_step)
  show wpAny _ _ (typeLookup (.ref C) _) _ _ _
  refine LI _ _ _ _ kp ?_
  refine wpAny_holding (wpAny_bind ?_)
  unfold bindSpecial
  refine wpAny_bind (wpAny_typeOf (T := "function") ⟨_, hfI₁, hfc⟩ ?_)
  rw [if_pos (by decide)]
  refine wpAny_pure (wpAny_bind (wpAny_mono hq (fun r s' hr => ?_) fun _ _ x => x))
  obtain ⟨rfl, hQ⟩ := hr
  wp_walk
  exact hQ
theorem xmake {rest : List Value} {fI : Addr} {oI : Obj} {Q : Value → Shared → Prop} (T : Tail bm) (hC : h.get? C = some (excClassObj nm q C N bs bm true sn sub ab col dd k0 k1 k2 k3 k5 "ValueError.__new__"))
    (LI : Looks (model prog w) h (typeLookup (.ref C) "__init__") (some (.ref fI))) (hfI : h.get? fI = some oI) (hfc : oI.cls = .type "function")
    (hq : wpAny (model prog w) (A.under (.builtin "type.__call__" ⟨.ref C :: rest, []⟩)) (call (.ref fI) (.ref (h.objs.size + 1) :: rest)) (fun r s' => r = .none ∧ Q (.ref (h.objs.size + 1)) s') E ⟨(h.push (tupO rest)).push (excO C h.objs.size), g, d, t, os⟩)
    (hrest : rest.length ≤ sizeLine) :
    wpAny (model prog w) A (call (.ref C) rest) Q E ⟨h, g, d, t, os⟩ := by
  have f1 := tc_lookup
  have f2 := tc_bind (.ref C)
  have hT : (⟨h, g, d, t, os⟩ : Shared).TypeIs (.ref C) "type" := ⟨_, hC, rfl⟩
  refine wpAny_call (codeAny_of_tree ?_)
  show wpAny _ _ (callAny (.ref C) _) _ _ _
  repeat (any_goals (first | assumption | with_reducible refine wpAny_loadPart_at hC ?_ | wp_step))
  refine ⟨rfl, ?_⟩
  refine codeAny_call_builtin_at (Code.quiet_builtin _ (by decide +kernel)) entry_typeCall (wpAny_check_type_call_sub hC (xmake_type T hC LI hfI hfc ?_ hrest))
  exact hq
end
end XB
namespace XB
open PySem PySem.W PySem.Calls PyProof.Rows Builtin Builtin.ObjectAttr
section
variable {prog : Program} {w : World} {A : Around} {E : Value → Shared → Prop} {h : Heap} {g : Array GenState} {d : Drawn} {t : Nat} {os : OsState}
variable {nm q : Str} {C N x : Addr} {bs bm : List Value} {sn : List Str} {sub : List Value} {ab : Bool} {col : Option Bool} {dd : Option Addr} {k0 k1 k2 k3 k5 : Option Value} {newId : String}
  {mA : Str → Option Value} {name : Str} {v : Value} {o : Obj}
theorem xinit {R : Result → Shared → Prop} {rest : List Value} {vs : Array Value} {a0 : Addr} (T : Tail bm) (hC : h.get? C = some (excClassObj nm q C N bs bm true sn sub ab col dd k0 k1 k2 k3 k5 newId)) (hx : h.get? x = some o) (hc : o.cls = .ref C)
    (hd : o.data = .fields vs) (h0 : vs[0]? = some (.ref a0)) (hrest : rest.length ≤ sizeLine)
    (hq : ∀ h' vs', (∀ b ob, b ≠ x → h.get? b = some ob → h'.get? b = some ob) → h'.get? x = some { cls := o.cls, dict := o.dict, data := .fields vs', slots := o.slots } → (∃ a, vs'[0]? = some (.ref a) ∧ vs'[1]? = vs[1]?) → R (.ok (.ret .none)) ⟨h', g, d, t, os⟩) :
    codeAny (model prog w) A (.call (.builtin "ValueError.__init__") ⟨.ref x :: rest, []⟩) R ⟨h, g, d, t, os⟩ := by
  have F := F.excBase_ValueError
  have hcB := T.has C "ValueError" true (by decide +kernel)
  have hshort := F.noStar
  refine codeAny_call_builtin F.init.plain F.initEntry ?_
  simp only [checkBuiltinCall, F.initKind, F.initSplit, F.initRow]
  repeat (first | (with_reducible refine wpAny_loadPart_at hx ?_; rw [hc]) | (with_reducible refine wpAny_isSubtype_exc hC ?_; rw [hcB]) | wp_step)
  refine wpAny_onRaise ?_
  rw [show ∀ (a b : String) (n : Nat), Bind.check ⟨.positional, "*", "ValueError", .self, [⟨"args", .varPos, false⟩]⟩ a b n (List.map (fun x => x.fst) ({ pos := Value.ref x :: rest } : Args).kw) = pure () from
    fun a b n => check_star_args _ _ _ _ _ _]
  refine wpAny_pure ?_
  wp_walk
  rw [hd]
  repeat (any_goals (first | assumption | rw [h0] | wp_step))
  rw [hd]
  have hsz : 0 < vs.size := by
    have := (Array.getElem?_eq_some_iff.mp h0).1
    exact this
  dsimp only
  rw [if_pos hsz]
  have hx₁ : (h.push (tupO rest)).get? x = some o := Heap.get?_push_of_some _ hx
  refine wpAny_update' hx₁ ?_
  repeat (any_goals (first | assumption | wp_step))
  have hfr := (Heap.get?_some_iff.mp hx).2
  refine hq _ (vs.setIfInBounds 0 (.ref h.objs.size)) (fun b ob hb e => ?_) ?_ ⟨h.objs.size, ?_, ?_⟩
  · rw [Heap.get?_update_ne _ _ _ _ hb]
    exact Heap.get?_push_of_some _ e
  · rw [Heap.get?_update_self _ hx₁ (by obtain ⟨oc, od, odt, osl⟩ := o; cases hd; rfl)]
    obtain ⟨oc, od, odt, osl⟩ := o
    cases hd
    rfl
  · simp [hsz]
  · exact Array.getElem?_setIfInBounds_ne (by decide)
theorem val_cls {K : Frag} : findCls K (.type "ValueError") (.type "type") "__init__" = some (.val (.builtin "ValueError.__init__")) := by rfl
theorem val_opaque {M : Model} {h : Heap} : Looks M h (opaqueClassAbove (.type "ValueError")) none := Looks.of_pure (by kernel_rfl)
theorem val_type {M : Model} {h : Heap} : Looks M h (typeOf (.type "ValueError")) (.type "type") := Looks.of_pure (by kernel_rfl)
theorem val_method {K : Frag} {s : Shared} {pl : Sem Bool} {Q : Value × List Value → Shared → Prop} (X : K.In s.heap) (hq : Q (.builtin "ValueError.__init__", []) { s with toks := s.toks + 1 }) :
    wpAny (model prog w) A (getMethod (.type "ValueError") "__init__" pl) Q E s := by
  unfold getMethod specialOf
  refine wpAny_bind (wpAny_bind (val_type.here ?_))
  have L : Looks (model prog w) s.heap (typeLookup (.type "type") "__getattribute__") (some (.builtin "type.__getattribute__")) := Looks.of_pure KF.slot_tga.lookup
  refine L.here ?_
  dsimp only
  rw [if_pos canon_tga]
  refine wpAny_bind (cls_open (K := K) (mc := .type "type") (hook := none) X val_opaque val_type (by rfl) (looks_hook X (by rfl)) (by rfl) val_cls ?_)
  exact wpAny_pure (handed_on rfl (wpAny_pure hq))
theorem own_method {K : Frag} {s : Shared} {pl : Sem Bool} {f C : Addr} {name : Str} {Q : Value × List Value → Shared → Prop} (X : K.In s.heap) (hr : readsIn K C (.type "type") = true) (hf : findCls K (.ref C) (.type "type") name = some (.val (.ref f)))
    (hq : Q (.ref f, []) { s with toks := s.toks + 1 }) : wpAny (model prog w) A (getMethod (.ref C) name pl) Q E s := by
  have hs : specialIn K (.ref C) "__getattribute__" = some (some (.builtin "type.__getattribute__")) := by
    have hr' := hr
    simp only [readsIn, Bool.and_eq_true, beq_iff_eq] at hr'
    obtain ⟨⟨⟨⟨a, b⟩, c'⟩, d⟩, f⟩ := hr'
    unfold specialIn
    rw [b, Option.bind_some]
    exact c'
  exact method_cls X hs (cls_value X hr hf rfl hq)
end
end XB
namespace L2
open PySem PySem.Spec PyProof.Rows
def XO (e C : Addr) (d : Option Addr) (r : Bool) (h : Heap) : Prop := ∃ (vs : Array Value) (a0 : Addr), h.get? e = some { cls := .ref C, dict := d, data := .fields vs } ∧ vs[0]? = some (.ref a0) ∧ (r = false → vs[1]? = some .none)
def DX (dx : Addr) (fs : List (Str × V)) (h : Heap) : Prop := ∃ mA, h.Ns1 dx mA ∧ (∀ f, RelO (fs.lookup f) (mA f)) ∧ PySem.Within mA (fs.map (·.1))
def XAt (H : Hp) (e C : Addr) (d : Option Addr) (r : Bool) (fs : List (Str × V)) : Prop := H e = some (.ext (XO e C d r)) ∧ fs.length ≤ 1000 ∧ match d with | none => fs = [] | some dx => dx ≠ e ∧ H dx = some (.ext (DX dx fs))
theorem XAt.same {H H' : Hp} {e C : Addr} {d : Option Addr} {r : Bool} {fs : List (Str × V)} (x : XAt H e C d r fs) (s : ∀ b o, H b = some o → H' b = some o) : XAt H' e C d r fs := by
  obtain ⟨a, b, c⟩ := x
  refine ⟨s _ _ a, b, ?_⟩
  cases d with
  | none => exact c
  | some dx => exact ⟨c.1, s _ _ c.2⟩
structure XC (K : PySem.W.Frag) (C : Addr) (nm : Str) (bm : List Value) : Prop where
  tl : XB.Tail bm
  obj : ∃ q N bs sn sub ab col dd k0 k1 k2 k3 k5, K.lookup C = some (excClassObj nm q C N bs bm true sn sub ab col dd k0 k1 k2 k3 k5 "ValueError.__new__")
  ga : PySem.W.findIn K (.ref C) "__getattribute__" = some (some (.builtin "BaseException.__getattribute__"))
  gt : PySem.W.findIn K (.ref C) "__getattr__" = some none
  sa : PySem.W.findIn K (.ref C) "__setattr__" = some (some (.builtin "object.__setattr__"))
  cl : PySem.W.findIn K (.ref C) "__class__" = some (some (.builtin "object.__class__"))
section
variable {K : PySem.W.Frag} {C : Addr} {nm : Str} {bm : List Value}
theorem XC.clsIn (c : XC K C nm bm) : ∃ cd, PySem.W.clsIn K C = some cd ∧ cd.mro = .ref C :: bm ∧ cd.hasDict = true := by
  obtain ⟨q, N, bs, sn, sub, ab, col, dd, k0, k1, k2, k3, k5, l⟩ := c.obj
  refine ⟨_, by unfold PySem.W.clsIn; rw [l], rfl, rfl⟩
theorem XC.mro (c : XC K C nm bm) (n : String) (b : Bool) (e : XB.bmV.contains (.type n) = b) : PySem.W.mroIn K C (.type n) = some b := by
  obtain ⟨cd, h, m, _⟩ := c.clsIn
  unfold PySem.W.mroIn
  rw [h, Option.bind_some, m]
  show (if false = true then _ else _) = _
  rw [if_neg (by decide), c.tl.has C n b e]
theorem XC.ne {C' : Addr} {nm' : Str} {bm' : List Value} (c : XC K C nm bm) (c' : XC K C' nm' bm') (h : nm ≠ nm') : C ≠ C' := by
  rintro rfl
  obtain ⟨q, N, bs, sn, sub, ab, col, dd, k0, k1, k2, k3, k5, l⟩ := c.obj
  obtain ⟨q', N', bs', sn', sub', ab', col', dd', k0', k1', k2', k3', k5', l'⟩ := c'.obj
  rw [l] at l'
  injection l' with l1
  injection l1 with _ _ l2 _
  injection l2 with l3
  injection l3 with l4
  exact h l4
theorem XC.kit (c : XC K C nm bm) {x : Addr} : PySem.W.KitX K (.ref x) (.ref C) (fun h => ∃ ox od, PySem.W.InstAt h x ox C od) := by
  obtain ⟨cd, h, _⟩ := c.clsIn
  exact XB.kitx_exc (by rw [h]; rfl) c.ga c.gt (c.mro "BaseException" true (by decide +kernel)) (c.mro "object" true (by decide +kernel)) c.cl (by rfl) (by rfl)
theorem XC.one {C' : Addr} {nm' : Str} {bm' : List Value} (c : XC K C nm bm) (c' : XC K C' nm' bm') : PySem.W.kitOne K (.ref C) (.ref C') = some ((Value.ref C :: bm).contains (.ref C')) := by
  obtain ⟨cd, h, m, _⟩ := c.clsIn
  obtain ⟨cd', h', _⟩ := c'.clsIn
  obtain ⟨q, N, bs, sn, sub, ab, col, dd, k0, k1, k2, k3, k5, l⟩ := c'.obj
  unfold PySem.W.kitOne
  by_cases e : (Value.ref C == Value.ref C') = true
  · rw [if_pos e, List.contains_cons]
    have e' : (Value.ref C' == Value.ref C) = true := by rw [beq_iff_eq] at e ⊢; exact e.symm
    rw [e']
    rfl
  · rw [if_neg e]
    unfold PySem.W.kitCls
    dsimp only
    have ht : PySem.W.typeIn K (.ref C') = some (.type "type") := by
      show Option.map (fun x => x.cls) (List.lookup C' K) = _
      rw [l]
      rfl
    rw [if_pos (by rw [h', ht]; rfl)]
    unfold PySem.W.subIn PySem.W.mroIn
    dsimp only
    rw [h, Option.bind_some, m]
    show (if false = true then _ else _) = _
    rw [if_neg (by decide)]
theorem XC.val (c : XC K C nm bm) : PySem.W.kitOne K (.ref C) (.type "ValueError") = some true := by
  unfold PySem.W.kitOne
  rw [if_neg (by intro z; cases beq_iff_eq.mp z)]
  unfold PySem.W.kitCls
  dsimp only
  rw [if_pos (by decide +kernel)]
  unfold PySem.W.subIn
  exact c.mro "ValueError" true (by decide +kernel)
end
section
variable {X : Cx} {pins : List (Addr × Obj)} {σ : St} {H : Hp} {s : Shared} {e C dx : Addr} {d : Option Addr} {rr : Bool} {nm : Str} {bm : List Value} {fs : List (Str × V)} {f : Str} {v : V} {A : Around} {E : Value → Shared → Prop}
theorem XAt.obj (x : XAt H e C d rr fs) (I : Inv X pins σ H s) : ∃ (vs : Array Value) (a0 : Addr), s.heap.get? e = some { cls := .ref C, dict := d, data := .fields vs } ∧ vs[0]? = some (.ref a0) ∧ (rr = false → vs[1]? = some .none) := by
  obtain ⟨p, _, _⟩ := (show ObjOk X.prog X.w H s.heap e (.ext (XO e C d rr)) from I.hok e _ x.1)
  exact p
theorem XAt.dict (x : XAt H e C (some dx) rr fs) (I : Inv X pins σ H s) : ∃ mA, s.heap.Ns1 dx mA ∧ (∀ f, RelO (fs.lookup f) (mA f)) ∧ PySem.Within mA (fs.map (·.1)) := by
  obtain ⟨_, _, _, h⟩ := x
  obtain ⟨p, _, _⟩ := (show ObjOk X.prog X.w H s.heap dx (.ext (DX dx fs)) from I.hok dx _ h)
  exact p
theorem XAt.inst (x : XAt H e C d rr fs) (I : Inv X pins σ H s) : ∃ ox od, PySem.W.InstAt s.heap e ox C od := by
  obtain ⟨vs, a0, h, _⟩ := x.obj I
  cases d with
  | none => exact ⟨_, none, h, rfl, rfl, True.intro⟩
  | some dx =>
    obtain ⟨mA, n, _, _⟩ := x.dict I
    obtain ⟨od, ho, _⟩ := lookIn_ns n
    exact ⟨_, some od, h, rfl, rfl, ho⟩
theorem isi_exc : CallR X (.builtin "isinstance") (fun xs H Q => ∃ e C d r fs nm bm C' nm' bm', xs = [.ref e, .ref C'] ∧ XAt H e C d r fs ∧ XC X.K C nm bm ∧ XC X.K C' nm' bm' ∧ Q (.bl ((Value.ref C :: bm).contains (.ref C'))) H) := by
  intro pins s σ H xs us Q I r h
  obtain ⟨e, C, d, r0, fs, nm, bm, C', nm', bm', rfl, x, c, c', q⟩ := h
  obtain ⟨u, u', rfl, rx, ry⟩ := vals2 r
  cases rx
  cases ry
  exact PySem.W.kia_one c.kit I.kIn (x.inst I) (c.one c') (fun z => nomatch z) fun tk => ⟨.bl _, H, I.tok _, rfl, q⟩
theorem isi_exc_val : CallR X (.builtin "isinstance") (fun xs H Q => ∃ e C d r fs nm bm, xs = [.ref e, .ty "ValueError"] ∧ XAt H e C d r fs ∧ XC X.K C nm bm ∧ Q (.bl true) H) := by
  intro pins s σ H xs us Q I r h
  obtain ⟨e, C, d, r0, fs, nm, bm, rfl, x, c, q⟩ := h
  obtain ⟨u, u', rfl, rx, ry⟩ := vals2 r
  cases rx
  cases ry
  exact PySem.W.kia_one c.kit I.kIn (x.inst I) c.val (fun z => nomatch z) fun tk => ⟨.bl _, H, I.tok _, rfl, q⟩
inductive XCs (K : PySem.W.Frag) : List Addr → Prop
  | nil : XCs K []
  | cons {C : Addr} {nm : Str} {bm : List Value} {r : List Addr} (c : XC K C nm bm) (t : XCs K r) : XCs K (C :: r)
theorem kit_any {K : PySem.W.Frag} (c : XC K C nm bm) : ∀ {cs : List Addr}, XCs K cs → PySem.W.kitAny K (.ref C) (cs.map Value.ref) = some (cs.any fun C' => (Value.ref C :: bm).contains (.ref C'))
  | _, .nil => rfl
  | _, .cons (C := C') (r := r) c' t => by
    rw [List.map_cons, List.any_cons]
    unfold PySem.W.kitAny
    rw [c.one c']
    cases h : (Value.ref C :: bm).contains (.ref C') with
    | true => rfl
    | false => dsimp only; rw [kit_any c t]; rfl
theorem vals_refs : ∀ {cs : List Addr} {us : List Value}, Vals (cs.map V.ref) us → us = cs.map Value.ref
  | [], _, .nil => rfl
  | c :: r, _, .cons h t => by
    cases h
    rw [List.map_cons, vals_refs t]
theorem isi_excs : CallR X (.builtin "isinstance") (fun xs H Q => ∃ e C d r fs nm bm tp cs, xs = [.ref e, .ref tp] ∧ XAt H e C d r fs ∧ XC X.K C nm bm ∧ H tp = some (.tup (cs.map V.ref)) ∧ XCs X.K cs ∧ Q (.bl (cs.any fun C' => (Value.ref C :: bm).contains (.ref C'))) H) := by
  intro pins s σ H xs us Q I r h
  obtain ⟨e, C, d, r0, fs, nm, bm, tp, cs, rfl, x, c, ht, hcs, q⟩ := h
  obtain ⟨u, u', rfl, rx, ry⟩ := vals2 r
  cases rx
  cases ry
  obtain ⟨_, its, rv, p⟩ := (show ObjOk X.prog X.w H s.heap tp (.tup (cs.map V.ref)) from I.hok tp _ ht)
  have ei := vals_refs rv
  subst ei
  obtain ⟨o, h1, h2, h3⟩ := p.up
  obtain ⟨oc, od, oda, osl⟩ := o
  obtain ⟨n, h3⟩ := h3
  dsimp only at h2 h3
  subst h2 h3
  exact PySem.W.kia_tup c.kit I.kIn (x.inst I) h1 (kit_any c hcs) (fun z => nomatch z) fun tk => ⟨.bl _, H, I.tok _, rfl, q⟩
theorem getexc_ok {b : Bool} {Q : Value → Shared → Prop} (I : Inv X pins σ H s) (x : XAt H e C (some dx) rr fs) (c : XC X.K C nm bm) (n : NoAttr X.K C f) (l : fs.lookup f = some v)
    (h : ∀ u s', Inv X pins σ H s' → RelV v u → Q u s') : wpAny (model X.prog X.w) A (getAttr (.ref e) f b) Q E s := by
  obtain ⟨mA, ns, r, _⟩ := x.dict I
  obtain ⟨vs, a0, ho, _⟩ := x.obj I
  obtain ⟨u, hu, ru⟩ := RelO.some_of (v := v) (o := mA f) (by rw [← l]; exact r f)
  obtain ⟨od, hd, lk⟩ := lookIn_ns ns
  obtain ⟨cd, hc, m, hh⟩ := c.clsIn
  have hf : PySem.W.findObj X.K C (some od) f = some (.value u) := by
    unfold PySem.W.findObj
    rw [hc, Option.bind_some, show PySem.W.findIn X.K (.ref C) f = some none from n, Option.bind_some]
    show ((PySem.W.ownOf cd (some od) f).bind _) = _
    have ho : PySem.W.ownOf cd (some od) f = some (some u) := by
      unfold PySem.W.ownOf
      rw [hh, if_pos rfl]
      show PySem.W.lookIn f od = _
      rw [lk f, hu]
    rw [ho]
    rfl
  exact XB.xget_value I.kIn (ox := { cls := .ref C, dict := some dx, data := .fields vs }) (od := some od) ⟨ho, rfl, rfl, hd⟩ c.ga c.gt (c.mro "BaseException" true (by decide +kernel)) hf (handed_of ru) (h u _ (I.tok _) ru)
theorem Inv.two {h' : Heap} {t' : Nat} {D : Addr} {o1 o2 : HO} {φ : Heap → Prop} (I : Inv X pins σ H s) (he : H e = some (.ext φ)) (hD : s.heap.objs.size ≤ D) (k : ∀ b u, b ≠ e → s.heap.get? b = some u → h'.get? b = some u) (heo : ∃ u, h'.get? e = some u)
    (n1 : ObjOk X.prog X.w (upd (upd H e o1) D o2) h' e o1) (n2 : ObjOk X.prog X.w (upd (upd H e o1) D o2) h' D o2) : Inv X pins σ (upd (upd H e o1) D o2) { s with heap := h', toks := t' } := by
  have hn := I.hok.fresh hD
  have neD : e ≠ D := ne_of_none he hn
  have old : ∀ b o, H b = some o → b ≠ e → upd (upd H e o1) D o2 b = some o := fun b o hb ne => by rw [upd_ne (ne_of_none hb hn), upd_ne ne]; exact hb
  have nt : ∀ b o, H b = some o → (∀ ψ, o ≠ .ext ψ) → b ≠ e := fun b o hb ne z => by
    rw [z, he] at hb
    exact ne _ (Option.some.inj hb).symm
  refine I.un ⟨?_, ?_, ?_, ?_, ?_, ?_, ?_⟩ ?_
  · intro b o q hb _ _
    exact k b o (fun z => by rw [z, he] at hb; cases hb) q
  · intro b o q hb _ _
    exact ⟨o.slots, k b o (fun z => by rw [z, he] at hb; cases hb) q⟩
  · intro b o q hb _
    have h1 : b ≠ e := fun z => by rw [z, he] at hb; cases hb
    have h2 : b ≠ D := fun z => by
      rw [z] at q
      exact absurd (Heap.lt_size q) (Nat.not_lt_of_le hD)
    rw [upd_ne h2, upd_ne h1]
    exact hb
  · intro b o q _
    by_cases z : b = e
    · rw [z]; exact heo
    · exact ⟨o, k b o z q⟩
  · intro b xs hb
    exact old b _ hb (nt b _ hb (fun ψ z => nomatch z))
  · intro b o u hb
    exact old b _ hb (nt b _ hb (fun ψ z => nomatch z))
  · intro b ps hb
    refine ⟨#[], ?_⟩
    rw [Array.append_empty]
    exact old b _ hb (nt b _ hb (fun ψ z => nomatch z))
  · intro a o ha
    by_cases hd : a = D
    · subst hd
      rw [upd_same] at ha
      cases ha
      exact n2
    · rw [upd_ne hd] at ha
      by_cases hx : a = e
      · subst hx
        rw [upd_same] at ha
        cases ha
        exact n1
      · rw [upd_ne hx] at ha
        refine (I.hok a o ha).stay (fun b u hb q => k b u ?_ q) (fun b hb => old b _ hb (nt b _ hb (fun ψ z => nomatch z))) (fun b xs hb => old b _ hb (nt b _ hb (fun ψ z => nomatch z)))
        rcases hb with rfl | hb
        · exact hx
        · exact nt b _ hb (fun ψ z => nomatch z)
structure XSet (H H' : Hp) (e C : Addr) (d : Option Addr) (r : Bool) (d' : Addr) (fs : List (Str × V)) : Prop where
  at_ : XAt H' e C (some d') r fs
  keep : ∀ b o, H b = some o → b ≠ e → some b ≠ d → H' b = some o
  new : d = none → H d' = none
  old : ∀ dx, d = some dx → d' = dx
theorem ext_ok {P : Program} {w : World} {H : Hp} {h : Heap} {a : Addr} {φ : Heap → Prop} (p : φ h) (o : ∃ o, h.get? a = some o) (st : ∀ h1 h2 : Heap, φ h1 → (∀ o, h1.get? a = some o → h2.get? a = some o) → φ h2) : ObjOk P w H h a (.ext φ) := ⟨p, o, st⟩
theorem XO.stay {e C : Addr} {d : Option Addr} {r : Bool} : ∀ h1 h2 : Heap, XO e C d r h1 → (∀ o, h1.get? e = some o → h2.get? e = some o) → XO e C d r h2 := fun h1 h2 ⟨vs, a0, h, z⟩ k => ⟨vs, a0, k _ h, z⟩
theorem DX.stay {dx : Addr} {fs : List (Str × V)} : ∀ h1 h2 : Heap, DX dx fs h1 → (∀ o, h1.get? dx = some o → h2.get? dx = some o) → DX dx fs h2 := fun h1 h2 ⟨mA, n, r⟩ k => ⟨mA, n.at k, r⟩
theorem put_rel {mA : Str → Option Value} {u : Value} {y : V} (r : ∀ f, RelO (fs.lookup f) (mA f)) (ry : RelV y u) (g : Str) : RelO ((putF f y fs).lookup g) (if g = f then some u else mA g) := by
  rw [lookup_putF]
  by_cases q : g = f
  · rw [if_pos q, if_pos q]; exact ry
  · rw [if_neg q, if_neg q]; exact r g
theorem put_within {mA : Str → Option Value} {u : Value} {y : V} (wi : PySem.Within mA (fs.map (·.1))) : PySem.Within (fun g => if g = f then some u else mA g) ((putF f y fs).map (·.1)) := fun g hg => by
  by_cases q : g = f
  · rw [q]; exact (keys_putF f y fs).1
  · refine (keys_putF f y fs).2 g (wi g fun z => hg ?_)
    show (if g = f then some u else mA g) = none
    rw [if_neg q]; exact z
theorem setexc_ok {y : V} {u : Value} {Q : Unit → Shared → Prop} (I : Inv X pins σ H s) (x : XAt H e C d rr fs) (c : XC X.K C nm bm) (n : NoAttr X.K C f) (hl : fs.length < 1000) (ry : RelV y u)
    (h : ∀ s' H' d', Inv X pins σ H' s' → XSet H H' e C d rr d' (putF f y fs) → Q () s') : wpAny (model X.prog X.w) A (setAttr (.ref e) f u) Q E s := by
  obtain ⟨q0, N, bs, sn, sub, ab, col, dd, k0, k1, k2, k3, k5, lk⟩ := c.obj
  have hC := I.kIn _ _ lk
  have LN := PySem.W.looks_findIn (M := model X.prog X.w) I.kIn (show PySem.W.findIn X.K (.ref C) f = some none from n)
  obtain ⟨vs, a0, ho, hv0⟩ := x.obj I
  have hl2 : (putF f y fs).length ≤ 1000 := by have := length_putF f y fs; lia
  obtain ⟨hh, g, dr, t, os⟩ := s
  cases d with
  | none =>
    have hfs : fs = [] := x.2.2
    subst hfs
    refine XB.xset_open (o := { cls := .ref C, dict := none, data := .fields vs }) (od := none) I.kIn ⟨ho, rfl, rfl, True.intro⟩ c.sa (c.mro "object" true (by decide +kernel)) fun A' => ?_
    refine XB.xstore_new c.tl hC LN ho rfl (fun c z => nomatch z) rfl fun h' tk' hx' hn' hk => ⟨rfl, ?_⟩
    have neD : e ≠ hh.objs.size := Nat.ne_of_lt (Heap.lt_size ho)
    have nD : H hh.objs.size = none := I.hok.fresh (Nat.le_refl _)
    refine h _ _ hh.objs.size (Inv.two (o1 := .ext (XO e C (some hh.objs.size) rr)) (o2 := .ext (DX hh.objs.size (putF f y []))) I x.1 (Nat.le_refl _) hk ⟨_, hx'⟩ ?_ ?_) ⟨⟨?_, hl2, neD.symm, upd_same⟩, ?_, fun _ => nD, (fun dx z => nomatch z)⟩
    · exact ext_ok ⟨vs, a0, hx', hv0⟩ ⟨_, hx'⟩ XO.stay
    · refine ext_ok ⟨_, hn', put_rel (mA := fun _ => none) (fs := []) (fun _ => True.intro) ry, put_within (mA := fun _ => none) (fs := []) (fun g hg => absurd rfl hg)⟩ ?_ DX.stay
      obtain ⟨o', _, _, e1, _⟩ := hn'
      exact ⟨o', e1⟩
    · rw [upd_ne neD, upd_same]
    · intro b o hb ne _
      rw [upd_ne (ne_of_none hb nD), upd_ne ne]
      exact hb
  | some dx =>
    obtain ⟨mA, ns, r, wi⟩ := x.dict I
    obtain ⟨od, hd, _⟩ := lookIn_ns ns
    obtain ⟨x1, x2, x3, x4⟩ := x
    refine XB.xset_open (o := { cls := .ref C, dict := some dx, data := .fields vs }) (od := some od) I.kIn ⟨ho, rfl, rfl, hd⟩ c.sa (c.mro "object" true (by decide +kernel)) fun A' => ?_
    refine XB.xstore_old c.tl hC LN ho rfl rfl ns wi (by rw [List.length_map, sizeLine_eq]; lia) fun h' tk' hn' sb => ⟨rfl, ?_⟩
    have hd' : ∃ o, h'.get? dx = some o := let ⟨o, _, _, e', _⟩ := hn'; ⟨o, e'⟩
    refine h _ _ dx (I.write (o := .ext (DX dx (putF f y fs))) (x := dx) (e := dx) (by rw [x4]; exact True.intro) (.inl rfl) (fun b q hb z => (sb.2 b hb).trans z) hd' ?_) ⟨⟨by rw [upd_ne x3.symm]; exact x1, hl2, x3, upd_same⟩, ?_, (fun z => nomatch z), fun _ z => Option.some.inj z⟩
    · exact ext_ok ⟨_, hn', put_rel r ry, put_within wi⟩ hd' DX.stay
    · intro b o hb _ ne
      rw [upd_ne (fun z => ne (by rw [z]))]
      exact hb
end
end L2
namespace L2
open PySem PySem.Spec PyProof.Rows
section
variable {X : Cx} {o e value : Expr} {f : Str} {pos pos' tpos : Pos} {ta tv : TE}
def tFldX (K : PySem.W.Frag) (ta : TE) (f : Str) : TE := fun σ H Q => ta σ H fun x H1 => ∃ a C dx r fs nm bm v, x = .ref a ∧ XAt H1 a C (some dx) r fs ∧ XC K C nm bm ∧ NoAttr K C f ∧ fs.lookup f = some v ∧ Q v H1
theorem pe_fldX (he : PE X e ta) (hb : attributeBase e f X.env (eval e X.env) = eval e X.env) : PE X (.Attribute e f pos) (tFldX X.K ta f) := by
  refine ⟨?_⟩
  intro pins s σ H Q I h
  refine attr_of hb (thn (he pins s σ H _ I h) fun u s1 ⟨x, H1, I1, rx, a, C, dx, r0, fs, nm, bm, v, ex, ea, c, n, l, q⟩ => ?_)
  subst ex
  obtain rfl : u = Value.ref a := rx
  exact getexc_ok I1 ea c n l fun u' s2 I2 ru => ⟨v, H1, I2, ru, q⟩
def sFldX (K : PySem.W.Frag) (ta tv : TE) (f : Str) : TS := fun D σ H => tv σ H fun y H1 => ta σ H1 fun x H2 => ∃ a C d r fs nm bm, x = .ref a ∧ XAt H2 a C d r fs ∧ XC K C nm bm ∧ NoAttr K C f ∧ fs.length < 1000 ∧
  ∀ H3 d', XSet H2 H3 a C d r d' (putF f y fs) → D.nx σ H3
theorem ps_fldX (ha : PE X o ta) (hv : PE X value tv) (hs : swapsWith value (some (.Attribute o f pos')) pos.line X.env = pure false := by rfl) : PS X (.Assign [.Attribute o f pos'] value pos) (sFldX X.K ta tv f) := by
  refine ⟨?_⟩
  intro pins s σ H D I h
  refine plainObj_wpAny_Assign_Attribute (thn (hv pins s σ H _ I h) fun u s1 ⟨y, H1, I1, ry, q⟩ => thn (ha pins s1 σ H1 _ I1 q) fun ov s2 ⟨x, H2, I2, rx, a, C, d, r0, fs, nm, bm, ex, ea, c, n, l, q2⟩ => ?_) hs
  subst ex
  obtain rfl : ov = Value.ref a := rx
  exact setexc_ok I2 ea c n l ry fun s3 H3 d' I3 xs => ⟨σ, _, I3, q2 H3 d' xs⟩
end
section
variable {X : Cx} {CX : CXT} {k : Nat} {f C : Addr} {fd : FuncData} {ps : List Str} {sp : Sp} {E : XK} {x m : Str} {p pos apos : Pos} {e o : Expr} {es : List Expr} {ta : TE} {t : TA} {nm : Str} {bm : List Value}
def tMakeX (C : Addr) (sp : Sp) (E : XK) (t : TA) : TE := fun σ H Q => t σ H fun vs H1 => ∀ a, H1 a = none → sp (.ref a :: vs) (upd H1 a (.ext (XO a C none false))) (fun v H2 => v = .non ∧ Q (.ref a) H2) E
structure MkX (K : PySem.W.Frag) (C f : Addr) : Prop where
  init : PySem.W.findIn K (.ref C) "__init__" = some (some (.ref f))
  fn : PySem.W.isFn K (.ref f) = true
  kp : PySem.W.keepIn K (.ref C) = true
theorem run_makeX {pins : List (Addr × Obj)} {σ : St} {H : Hp} {s : Shared} {Q : VK} {us : List Value} {vs : List V} (c : XC X.K C nm bm) (M : MkX X.K C f) (F : FnOk X.prog X.w X.K X.mg X.base CX k f fd ps sp) (hr : Room (k + 1) X.A) (hb : Binds X.K fd ps [])
    (hx : Passes CX X E) (hps : ps.length ≤ 1000) (I : Inv X pins σ H s) (r : Vals vs us)
    (h : ∀ a, H a = none → sp (.ref a :: vs) (upd H a (.ext (XO a C none false))) (fun v H2 => v = .non ∧ Q (.ref a) H2) E) :
    wpAny (model X.prog X.w) X.A (call (.ref C) us) (EP X pins σ Q) X.xe s := by
  obtain ⟨q0, N, bs, sn, sub, ab, col, dd, k0, k1, k2, k3, k5, lk⟩ := c.obj
  have hC := I.kIn _ _ lk
  have LI := PySem.W.looks_findIn (M := model X.prog X.w) I.kIn M.init
  obtain ⟨oI, hfI, hfc⟩ : ∃ oI, s.heap.get? f = some oI ∧ oI.cls = .type "function" := by
    have ht : PySem.W.typeIn X.K (.ref f) = some (.type "function") := beq_iff_eq.mp M.fn
    obtain ⟨o, ho, hc⟩ := Option.map_eq_some_iff.mp ht
    exact ⟨o, I.kIn _ _ ho, hc⟩
  have hq := h (s.heap.objs.size + 1) (I.hok.fresh (Nat.le_succ _))
  have r2 : Vals (V.ref (s.heap.objs.size + 1) :: vs) (Value.ref (s.heap.objs.size + 1) :: us) := .cons rfl r
  have hl : (Value.ref (s.heap.objs.size + 1) :: us).length = ps.length := by
    have e := r2.length
    rw [F.len _ _ _ _ hq] at e
    exact e.symm
  have kp : ∀ b o, s.heap.get? b = some o → ((s.heap.push (XB.tupO us)).push (XB.excO C s.heap.objs.size)).get? b = some o := fun b o hb => Heap.get?_push_of_some _ (Heap.get?_push_of_some _ hb)
  have hget : ((s.heap.push (XB.tupO us)).push (XB.excO C s.heap.objs.size)).get? (s.heap.objs.size + 1) = some (XB.excO C s.heap.objs.size) := by
    have := Heap.get?_push_size (s.heap.push (XB.tupO us)) (o := XB.excO C s.heap.objs.size) rfl
    rwa [Heap.size_push] at this
  have I2 := I.laid (a := s.heap.objs.size + 1) (o := .ext (XO (s.heap.objs.size + 1) C none false)) (t' := s.toks) kp (Nat.le_succ _) (ext_ok ⟨_, s.heap.objs.size, hget, rfl, fun _ => rfl⟩ ⟨_, hget⟩ XO.stay)
  have hus : us.length ≤ sizeLine := by
    rw [List.length_cons] at hl
    rw [sizeLine_eq]
    lia
  obtain ⟨hh, g, d, t, os⟩ := s
  refine XB.xmake c.tl hC LI hfI hfc (wpAny_call (codeAny_mono (F.run _ X.stack _ _ ⟨Value.ref (hh.objs.size + 1) :: us, []⟩ (Value.ref (hh.objs.size + 1) :: us) _ _ E (hr.make C us []) (I2.env0.make C us []) (by
    have := hb ⟨(hh.push (XB.tupO us)).push (XB.excO C hh.objs.size), g, d, t, os⟩ (Value.ref (hh.objs.size + 1) :: us) I2.kIn (by rw [List.append_nil]; exact hl)
    rw [List.append_nil] at this
    exact this) r2 hq) fun r s' hq' => ?_)) hus
  cases r with
  | error e => exact hx pins σ _ _ e s' I2 hq'
  | ok fl =>
    cases fl with
    | ret u =>
      obtain ⟨v, H', I3, rv, ev, q3⟩ := I2.after hq'
      subst ev
      exact ⟨rv, ⟨V.ref (hh.objs.size + 1), H', I3, rfl, q3⟩⟩
    | next => exact False.elim hq'
    | brk => exact False.elim hq'
    | cont => exact False.elim hq'
theorem pe_makeX (c : XC X.K C nm bm) (M : MkX X.K C f) (F : FnOk X.prog X.w X.K X.mg X.base CX k f fd ps sp) (hr : Room (k + 1) X.A) (hg : Gl X x) (hm : X.mg x = some (.ref C)) (hb : Binds X.K fd ps []) (hx : Passes CX X E) (hps : ps.length ≤ 1000)
    (ha : PA X (e :: es) t) (hdb : (x == ("__debug__" : Str)) = false := by decide) (he : starEach (e :: es) X.env = (false, eval e X.env) :: starEach es X.env := by rfl) (hpl : (backTo pos (starEach es X.env)).any (·.1) = false := by rfl) :
    PE X (.Call (.Name x p) (e :: es) [] pos) (tMakeX C sp E t) := by
  refine ⟨?_⟩
  intro pins s σ H Q I h
  refine wpAny_Call_Name_kw (ld_glob I hg hm ?_ hdb)
  refine PySem.W.callWith_K (h₀ := X.base) I.ok.mod.kin M.kp (thn (ha pos pins s σ H _ I h) fun us s1 ⟨vs, H1, I1, r, q⟩ => ⟨I1.kIn, ?_⟩) he hpl
  exact run_makeX c M F hr hb hx hps I1 r q
structure ClsFn (K : PySem.W.Frag) (C : Addr) (m : Str) (f : Addr) : Prop where
  rd : PySem.W.readsIn K C (.type "type") = true
  at_ : PySem.W.findCls K (.ref C) (.type "type") m = some (.val (.ref f))
  kp : PySem.W.keepIn K (.ref f) = true
theorem pe_clsfn {pl : Sem Bool} (M : ClsFn X.K C m f) (F : FnOk X.prog X.w X.K X.mg X.base CX k f fd ps sp) (hr : Room k X.A) (hg : Gl X x) (hm : X.mg x = some (.ref C)) (hb : Binds X.K fd ps []) (hx : Passes CX X E) (ha : PA X (e :: es) t)
    (hdb : (x == ("__debug__" : Str)) = false := by decide) (hst : starEach (e :: es) X.env = (false, eval e X.env) :: starEach es X.env := by rfl) (hpl : (backTo pos (starEach es X.env)).any (·.1) = false := by rfl)
    (ht : eval (.Call (.Attribute (.Name x p) m apos) (e :: es) [] pos) X.env = (do
      let ov ← eval (.Name x p) X.env
      standAt apos.atName
      let (f, first) ← holding [ov] (getMethod ov m pl)
      callWith pos f first (backTo pos (starEach (e :: es) X.env)) (backToKw pos (keywordEach [] X.env))) := by rfl) :
    PE X (.Call (.Attribute (.Name x p) m apos) (e :: es) [] pos) (tCall sp [] E t) := by
  refine ⟨?_⟩
  intro pins s σ H Q I h
  refine PySem.W.methodCall_KW (pl := pl) (thn (pe_glob (v := .ref C) hg hm rfl hdb pins s σ H (fun v H1 => v = .ref C ∧ H1 = H) I ⟨rfl, rfl⟩) fun u s1 ⟨xx, H1, I1, rx, ex, eh⟩ => ?_) ht
  subst ex eh
  obtain rfl : u = Value.ref C := rx
  refine XB.own_method I1.kIn M.rd M.at_ ?_
  refine PySem.W.callWith_K (first := []) (h₀ := X.base) I.ok.mod.kin M.kp (thn (ha pos pins _ σ H1 _ (I1.tok _) h) fun us s2 ⟨vs, H2, I2, r, q2⟩ => ⟨I2.kIn, ?_⟩) hst hpl
  exact run_fn (us := us) (vs := vs) (ds := []) (dvs := []) F hr hb .nil hx I2 r q2
theorem upd_self {H : Hp} {a : Addr} {o : HO} (h : H a = some o) : upd H a o = H := by
  funext b
  unfold upd
  by_cases z : b = a
  · rw [if_pos z, z, h]
  · rw [if_neg z]
def tValI (K : PySem.W.Frag) (t : TA) : TE := fun σ H Q => t σ H fun vs H1 => ∃ a rest C d r fs nm bm, vs = .ref a :: rest ∧ rest.length ≤ 1000 ∧ XAt H1 a C d r fs ∧ XC K C nm bm ∧ Q .non H1
theorem pe_vali {pl : Sem Bool} (hg : Gl X "ValueError") (hm : X.mg "ValueError" = none) (ha : PA X (e :: es) t)
    (hst : starEach (e :: es) X.env = (false, eval e X.env) :: starEach es X.env := by rfl) (hpl : (backTo pos (starEach es X.env)).any (·.1) = false := by rfl)
    (ht : eval (.Call (.Attribute (.Name "ValueError" p) "__init__" apos) (e :: es) [] pos) X.env = (do
      let ov ← eval (.Name "ValueError" p) X.env
      standAt apos.atName
      let (f, first) ← holding [ov] (getMethod ov "__init__" pl)
      callWith pos f first (backTo pos (starEach (e :: es) X.env)) (backToKw pos (keywordEach [] X.env))) := by rfl) :
    PE X (.Call (.Attribute (.Name "ValueError" p) "__init__" apos) (e :: es) [] pos) (tValI X.K t) := by
  refine ⟨?_⟩
  intro pins s σ H Q I h
  have hv : bootBuiltins "ValueError" = some (.type "ValueError") := by decide +kernel
  refine PySem.W.methodCall_KW (pl := pl) (thn (pe_ty (n := "ValueError") hg hm hv (by decide) (by decide) pins s σ H (fun v H1 => v = .ty "ValueError" ∧ H1 = H) I ⟨rfl, rfl⟩) fun u s1 ⟨xx, H1, I1, rx, ex, eh⟩ => ?_) ht
  subst ex eh
  obtain rfl : u = Value.type "ValueError" := rx
  refine XB.val_method I1.kIn ?_
  refine PyProof.Rows.callWith_builtin1 (thn (ha pos pins _ σ H1 _ (I1.tok _) h) fun us s2 ⟨vs, H2, I2, r, a, rest, C, d, r0, fs, nm, bm, ev, hz, x, c, q2⟩ => ?_) hst hpl
  subst ev
  cases r with
  | @cons _ u _ us' r0 rr =>
    obtain rfl : u = Value.ref a := r0
    obtain ⟨q0, N, bs, sn, sub, ab, col, dd, k0, k1, k2, k3, k5, lk⟩ := c.obj
    have hC := I2.kIn _ _ lk
    obtain ⟨vv, a0, ho, hv0, hv1⟩ := x.obj I2
    have hl := rr.length
    obtain ⟨hh, g, d', t', os⟩ := s2
    refine wpAny_call (XB.xinit c.tl hC ho rfl rfl hv0 (by rw [sizeLine_eq]; lia) fun h' vs' hk hx' ⟨a1, h1, h2⟩ => ?_)
    have I3 := I2.write (o := .ext (XO a C d r0)) (x := a) (e := a) (t' := t') (by rw [x.1]; exact True.intro) (.inl rfl) (fun b q hb z => hk b q hb z) ⟨_, hx'⟩ (ext_ok ⟨vs', a1, hx', h1, fun z => h2.trans (hv1 z)⟩ ⟨_, hx'⟩ XO.stay)
    rw [upd_self x.1] at I3
    exact ⟨.non, H2, I3, rfl, q2⟩
end
end L2
namespace L2
open PySem PySem.Spec PyProof.Rows
def ExT (e C : Addr) (d : Option Addr) (T : Addr) (fl : Value) (h : Heap) : Prop :=
  ∃ (vs : Array Value) (a0 : Addr) (oT : Obj) (ts : Array Value), h.get? e = some { cls := .ref C, dict := d, data := .fields vs } ∧ vs[0]? = some (.ref a0) ∧ vs[1]? = some (.ref T) ∧ T ≠ e ∧ h.get? T = some oT ∧ oT.data = .fields ts ∧ ts[3]? = some fl
structure Wr (fs : List Addr) (e T : Addr) (h h' : Heap) : Prop where
  keep : ∀ b o, h.get? b = some o → b ∉ fs → b ≠ e → b ≠ T → h'.get? b = some o
  slot : ∀ b o, h.get? b = some o → b ∈ fs → ∃ sl, h'.get? b = some { o with slots := sl }
  old : ∀ o, h.get? T = some o → ∃ ts, o.data = .fields ts
  nf : T ∉ fs
def FlR (n : Nat) (H : Hp) (L : Addr) (pn : List Addr) (e C : Addr) (d : Option Addr) (h : Heap) : Prop :=
  ∃ (vs : Array Value) (a0 : Addr), h.get? e = some { cls := .ref C, dict := d, data := .fields vs } ∧ vs[0]? = some (.ref a0) ∧ (vs[1]? = some .none ∨ ∃ T fl, ExT e C d T fl h ∧ n ≤ T ∧ H T = none ∧ T ∉ pn ∧ (fl = .none ∨ fl = rawInt L))
theorem ExT.xo {e C : Addr} {d : Option Addr} {T : Addr} {fl : Value} {h : Heap} (x : ExT e C d T fl h) : XO e C d true h := by
  obtain ⟨vs, a0, _, _, h1, h2, _⟩ := x
  exact ⟨vs, a0, h1, h2, fun z => nomatch z⟩
theorem mapf_same {o : Obj} {ts : Array Value} {f : Array Value → Array Value} (hd : o.data = .fields ts) (hf : f ts = ts) : o.mapFields f = o := by
  obtain ⟨c, d, dt, sl⟩ := o
  cases hd
  show Obj.mk c d (.fields (f ts)) sl = _
  rw [hf]
section
variable {M : Model} {A : Around} {E : Value → Shared → Prop} {s : Shared} {base : Heap} {env : Env} {outer : List Env} {L e C T : Addr} {d : Option Addr} {fl : Value} {Q : Unit → Shared → Prop}
theorem flight_raw {fr : Option Addr} (x : ExT e C d T fl s.heap) (h : ∀ h', (∀ b o, s.heap.get? b = some o → b ≠ T → h'.get? b = some o) → ExT e C d T (fr.elim .none fun f => rawInt f) h' → Q () { s with heap := h' }) : wpAny M A (setFlight (.ref e) fr) Q E s := by
  obtain ⟨vs, a0, oT, ts, he, h0, h1, ne, hT, hd, h3⟩ := x
  have hsz : 3 < ts.size := (Array.getElem?_eq_some_iff.mp h3).1
  unfold setFlight
  refine wpAny_bind (wpAny_field he rfl h1 ?_)
  rw [if_pos (show (Value.ref T != Value.none) = true from by simp)]
  have k : ∀ b o, s.heap.get? b = some o → b ≠ T → (s.heap.update T (Obj.mapFields (·.setIfInBounds 3 (fr.elim Value.none fun f => rawInt f)))).get? b = some o := fun b o e' hb => by
    rw [Heap.get?_update_other _ _ (Ne.symm hb)]
    exact e'
  refine wpAny_setField hT hd hsz (h _ k ?_)
  have hd' := Obj.data_mapFields hd (·.setIfInBounds 3 (fr.elim Value.none fun f => rawInt f))
  exact ⟨vs, a0, _, _, k _ _ he (Ne.symm ne), h0, h1, ne, Heap.get?_update_self _ hT (Obj.isFreed_of_fields hd'), hd', by simp [hsz]⟩
theorem entry_raw {vs : Array Value} {a0 : Addr} {head : Value} {hadNext : Bool} (hfr : A.frames = some (env :: outer)) (hl : s.heap.FunFrames base (env :: outer)) (hf : env.frame = some L)
    (he : s.heap.get? e = some { cls := .ref C, dict := d, data := .fields vs }) (h0 : vs[0]? = some (.ref a0)) (hsz : 1 < vs.size)
    (h : ∀ h', Wr (frs (env :: outer)) e s.heap.objs.size s.heap h' → ExT e C d s.heap.objs.size (rawInt L) h' → Q () { s with heap := h' }) :
    wpAny M A (do let a ← frameOf env; let pl ← entryPlaceOf L hadNext; let b ← EntryCells.newEntry head a .none (rawInt L) .none pl; setField (.ref e) 1 b) Q E s := by
  have hene : e ∉ frs (env :: outer) := fun hm => by
    obtain ⟨_, o, ho, hnf⟩ := hl.mem hm
    rw [he] at ho; injection ho with ho; subst ho; exact hnf vs rfl
  refine wpAny_bind (wpAny_frameOf_fun hfr hl hf fun h₁ hs₁ => ?_)
  refine wpAny_bind (wpAny_entryPlaceOf fun pl hpl => ?_)
  unfold EntryCells.newEntry newFields
  refine wpAny_bind (wpAny_newObj_type ?_ (hpl.sizeOk5 _ _ _ _ _))
  generalize hts : ([head, .ref L, .none, rawInt L, .none] ++ (if pl.isEmpty then List.replicate 6 Value.none else pl)).toArray = ts
  have h3 : ts[3]? = some (rawInt L) := by rw [← hts]; simp
  have he₁ : h₁.get? e = some { cls := .ref C, dict := d, data := .fields vs } := (hs₁.2.1 e hene).trans he
  have he₂ := Heap.get?_push_of_some (h := h₁) { cls := .type "traceback", dict := none, data := .fields ts } he₁
  refine wpAny_setField he₂ rfl hsz ?_
  have hsize : h₁.objs.size = s.heap.objs.size := hs₁.1
  have hTe : h₁.objs.size ≠ e := Nat.ne_of_gt (Heap.lt_size he₁)
  have he₃ := Heap.get?_update_self (Obj.mapFields (·.setIfInBounds 1 (Value.ref h₁.objs.size))) he₂ rfl
  have hT₃ := (Heap.get?_update_other (h₁.push { cls := .type "traceback", dict := none, data := .fields ts }) (Obj.mapFields (·.setIfInBounds 1 (Value.ref h₁.objs.size))) (Ne.symm hTe)).trans (Heap.get?_push_size h₁ rfl)
  have keep : ∀ b o, b ≠ e → h₁.get? b = some o → ((h₁.push { cls := .type "traceback", dict := none, data := .fields ts }).update e (Obj.mapFields (·.setIfInBounds 1 (Value.ref h₁.objs.size)))).get? b = some o := fun b o hbe hb => by
    rw [Heap.get?_update_other _ _ (Ne.symm hbe)]
    exact Heap.get?_push_of_some _ hb
  rw [hsize] at he₃ hT₃ keep hTe ⊢
  refine h _ ⟨fun b o hb hbf hbe _ => keep b o hbe ((hs₁.2.1 b hbf).trans hb), fun b o hb hbf => ?_, fun o ho => absurd (Heap.lt_size ho) (Nat.lt_irrefl _), fun hm => ?_⟩ ?_
  · obtain ⟨sl, hs⟩ := hs₁.2.2 b o hb
    exact ⟨sl, keep b _ (fun z => hene (z ▸ hbf)) hs⟩
  · obtain ⟨_, o, ho, _⟩ := hl.mem hm
    exact absurd (Heap.lt_size ho) (Nat.lt_irrefl _)
  · exact ⟨_, a0, _, ts, he₃, by rw [Array.getElem?_setIfInBounds_ne (by decide)]; exact h0, by simp [hsz], hTe, hT₃, rfl, h3⟩
theorem note_raw {n : Nat} {H : Hp} {pn : List Addr} (hfr : A.frames = some (env :: outer)) (hl : s.heap.FunFrames base (env :: outer)) (hf : env.frame = some L) (x : FlR n H L pn e C d s.heap) (hn : n ≤ s.heap.objs.size)
    (hH : ∀ a, s.heap.objs.size ≤ a → H a = none) (hp : ∀ a ∈ pn, a < s.heap.objs.size)
    (h : ∀ h' T, Wr (frs (env :: outer)) e T s.heap h' → ExT e C d T (rawInt L) h' → n ≤ T → H T = none → T ∉ pn → Q () { s with heap := h' }) : wpAny M A (noteFrame (.ref e) env) Q E s := by
  obtain ⟨vs, a0, he, h0, hm⟩ := x
  have new : ∀ h', Wr (frs (env :: outer)) e s.heap.objs.size s.heap h' → ExT e C d s.heap.objs.size (rawInt L) h' → Q () { s with heap := h' } := fun h' w q => h h' _ w q hn (hH _ (Nat.le_refl _)) fun z => absurd (hp _ z) (Nat.lt_irrefl _)
  unfold noteFrame
  simp only [hf]
  rcases hm with h1 | ⟨T, fl, x, nT, fT, pT, fl0 | fl1⟩
  · refine wpAny_bind (wpAny_field he rfl h1 ?_)
    rw [if_neg (by decide)]
    exact entry_raw hfr hl hf he h0 (Array.getElem?_eq_some_iff.mp h1).1 new
  · subst fl0
    obtain ⟨vs', a0', oT, ts, he', h0', h1, ne, hT, hd, h3⟩ := x
    rw [he] at he'
    have ev : vs = vs' := by injection he' with e1; injection e1 with _ _ e2 _; injection e2
    subst ev
    refine wpAny_bind (wpAny_field he rfl h1 ?_)
    rw [if_pos (show (Value.ref T != Value.none) = true from by simp)]
    refine wpAny_bind (wpAny_field hT hd h3 ?_)
    rw [if_neg (show ¬ ((Value.none == rawInt L) = true) from by simp [rawInt])]
    have hsz : 3 < ts.size := (Array.getElem?_eq_some_iff.mp h3).1
    refine wpAny_bind (wpAny_setField hT hd hsz ?_)
    have same : ts.setIfInBounds 3 Value.none = ts := by
      apply Array.ext_getElem?
      intro i
      by_cases hi : 3 = i
      · subst hi; rw [h3]; simp [hsz]
      · rw [Array.getElem?_setIfInBounds_ne hi]
    have all : ∀ b, (s.heap.update T (Obj.mapFields (·.setIfInBounds 3 Value.none))).get? b = s.heap.get? b := fun b => by
      by_cases hb : b = T
      · rw [hb]
        have := Heap.get?_update_self (Obj.mapFields (·.setIfInBounds 3 Value.none)) hT (by rw [mapf_same hd same]; exact Obj.isFreed_of_fields hd)
        rw [this, mapf_same hd same, hT]
      · exact Heap.get?_update_other _ _ (Ne.symm hb)
    refine entry_raw (hadNext := true) hfr (hl.of_keeps fun b o hb _ => ⟨o, (all b).trans hb, rfl⟩) hf ((all e).trans he) h0 (Array.getElem?_eq_some_iff.mp h1).1 fun h' w q => ?_
    have hs : (s.heap.update T (Obj.mapFields (·.setIfInBounds 3 Value.none))).objs.size = s.heap.objs.size := Heap.size_after_update _ _ _
    dsimp only at w q
    rw [hs] at w q
    refine new h' ⟨fun b o hb => w.keep b o ((all b).trans hb), fun b o hb => w.slot b o ((all b).trans hb), fun o ho => w.old o ((all _).trans ho), w.nf⟩ q
  · subst fl1
    obtain ⟨vs', a0', oT, ts, he', h0', h1, ne, hT, hd, h3⟩ := id x
    refine wpAny_bind (wpAny_field he' rfl h1 ?_)
    rw [if_pos (show (Value.ref T != Value.none) = true from by simp)]
    refine wpAny_bind (wpAny_field hT hd h3 ?_)
    rw [if_pos (show (rawInt L == rawInt L) = true from by simp)]
    refine wpAny_pure ?_
    have := h s.heap T ⟨fun b o hb _ _ _ => hb, fun b o hb _ => ⟨o.slots, hb⟩, fun o ho => ?_, fun hm => ?_⟩ x nT fT pT
    · exact this
    · rw [hT] at ho; cases ho; exact ⟨ts, hd⟩
    · obtain ⟨_, o, ho, hnf⟩ := hl.mem hm
      rw [hT] at ho; cases ho
      exact hnf ts hd
end
theorem Wr.then {fs : List Addr} {e T : Addr} {h h1 h2 : Heap} (w : Wr fs e T h h1) (k : ∀ b o, h1.get? b = some o → b ≠ T → h2.get? b = some o) : Wr fs e T h h2 :=
  ⟨fun b o hb hf he hT => k b o (w.keep b o hb hf he hT) hT, fun b o hb hf => let ⟨sl, q⟩ := w.slot b o hb hf; ⟨sl, k b _ q fun z => w.nf (z ▸ hf)⟩, w.old, w.nf⟩
theorem Wr.un {fs : List Addr} {e T C : Addr} {d : Option Addr} {fl : Value} {h h' : Heap} {H : Hp} {φ : Heap → Prop} (w : Wr fs e T h h') (x : ExT e C d T fl h') (He : H e = some (.ext φ)) : Un fs [T] H H h h' := by
  obtain ⟨vs, a0, oT, ts, he, _, _, _, hT, _⟩ := x
  refine ⟨fun b o hb n hf hT' => w.keep b o hb hf (fun z => by rw [z, He] at n; cases n) (by simpa using hT'), fun b o hb _ hf _ => w.slot b o hb hf, fun _ _ _ n _ => n, fun b o hb hT' => ?_, fun _ _ q => q, fun _ _ _ q => q, fun b ps q => ⟨#[], by rw [q]; simp⟩⟩
  by_cases hbe : b = e
  · exact ⟨_, hbe ▸ he⟩
  · by_cases hf : b ∈ fs
    · obtain ⟨sl, q⟩ := w.slot b o hb hf; exact ⟨_, q⟩
    · exact ⟨o, w.keep b o hb hf hbe (by simpa using hT')⟩
theorem Wr.hok {P : Program} {wd : World} {fs : List Addr} {e T C : Addr} {d : Option Addr} {fl : Value} {h h' : Heap} {H : Hp} (w : Wr fs e T h h') (x : ExT e C d T fl h') (He : H e = some (.ext (XO e C d true))) (hT : H T = none) (hf : ∀ b ∈ fs, H b = none) (ok : HOk P wd H h) : HOk P wd H h' := by
  intro a o ha
  have k : ∀ b o', H b = some o' → b ≠ e → ∀ u, h.get? b = some u → h'.get? b = some u := fun b o' hb ne u q => w.keep b u q (fun z => by rw [hf b z] at hb; cases hb) ne (ne_of_none hb hT)
  by_cases hae : a = e
  · subst hae
    rw [He] at ha; cases ha
    obtain ⟨vs, a0, oT, ts, he, _⟩ := id x
    exact ext_ok x.xo ⟨_, he⟩ XO.stay
  · refine (ok a o ha).stay (fun b u hb q => ?_) (fun _ q => q) fun _ _ q => q
    rcases hb with rfl | hb
    · exact k _ _ ha hae u q
    · exact k _ _ hb (fun z => by rw [z, He] at hb; cases hb) u q
end L2
namespace L2
open PySem PySem.Spec PyProof.Rows
def CX1 (P : Program) (w : World) : CXT := fun outer H s E e s' => ∃ a H' C d T, e = .ref a ∧ s'.os = s.os ∧ AllBare s'.gens ∧ Un (frs outer) [] H H' s.heap s'.heap ∧ HOk P w H' s'.heap ∧ H' a = some (.ext (XO a C d true)) ∧ ExT a C d T .none s'.heap ∧
  s.heap.objs.size ≤ T ∧ H' T = none ∧ E e none H'
def Flies (X : Cx) (H : Hp) (h : Heap) (a : Addr) : Prop := ∃ C d, H a = some (.ext (XO a C d true)) ∧ FlR X.s₀.heap.objs.size H X.env.locals (X.pn.map (·.1)) a C d h
def Raised (X : Cx) (ES : St → XK) (e : Value) (s : Shared) : Prop := ∃ a σ H, e = .ref a ∧ Inv X [] σ H s ∧ Flies X H s.heap a ∧ ES σ e none H
def Esc (X : Cx) (ES : St → XK) : Prop := ∀ e s', Raised X ES e s' → X.xe e s'
abbrev Cx.esc (X : Cx) (ES : St → XK) : Cx := X.wish (Raised X ES)
section
variable {X : Cx} {pins : List (Addr × Obj)} {σ : St} {H : Hp} {s : Shared} {ES : St → XK} {E : XK}
theorem esc_self : Esc (X.esc ES) ES := fun e s' ⟨a, σ, H, h1, I, ⟨C, d, h2, h3⟩, h4⟩ => ⟨a, σ, H, h1, I.unwish, ⟨C, d, h2, h3⟩, h4⟩
theorem Inv.pn_lt (I : Inv X pins σ H s) : ∀ a ∈ X.pn.map (·.1), a < s.heap.objs.size := fun a ha => by
  obtain ⟨p, hp, rfl⟩ := List.mem_map.mp ha
  exact Heap.lt_size (I.pin p (List.mem_append_left _ hp)).1
theorem Inv.frame1 (I : Inv X pins σ H s) (hst : X.stack = X.env :: X.outer) : X.env.frame = some X.env.locals := by
  rcases I.ok.stk with e | ⟨_, e⟩
  · rw [hst] at e
    exact absurd e (by intro z; have := congrArg List.length z; simp at this)
  · exact e
theorem Inv.wr {e T C : Addr} {d : Option Addr} {fl : Value} {h' : Heap} (I : Inv X pins σ H s) (W : Wr (frs X.stack) e T s.heap h') (x : ExT e C d T fl h') (He : H e = some (.ext (XO e C d true))) (hT : H T = none) (hn : X.s₀.heap.objs.size ≤ T)
    (hp : ∀ p ∈ X.pn ++ pins, p.1 ≠ T) : Inv X pins σ H { s with heap := h' } := by
  have := I.call (g' := s.gens) (t' := s.toks) (d' := s.drawn) (ch := [T]) (W.un x He) (W.hok x He hT I.stkFree I.hok) I.bare (fun b hb => ?_)
  · exact this
  · have hb' : b = T := by simpa using hb
    subst hb'
    refine ⟨.inr hn, fun z => ?_, fun y c hc z => ?_, hp⟩
    · obtain ⟨m, ⟨o, es, ep, ho, hd, _⟩, _⟩ := I.loc
      obtain ⟨ts, hd'⟩ := W.old o (by rw [z]; exact ho)
      rw [hd] at hd'; cases hd'
    · obtain ⟨v, o, ho, hd⟩ := I.cell y c hc
      obtain ⟨ts, hd'⟩ := W.old o (by rw [← z]; exact ho)
      rw [hd] at hd'; cases hd'
theorem Inv.nopins (I : Inv X pins σ H s) : Inv X [] σ H s := Inv.unpinned (pins := []) (pl := pins) I
theorem pass1 {e : Value} {s' : Shared} (I : Inv X pins σ H s) (h : CX1 X.prog X.w X.stack H s (ES σ) e s') : Raised X ES e s' := by
  obtain ⟨a, H', C, d, T, rfl, os, bare, un, hok, He, x, nT, fT, q⟩ := h
  have J : Inv X pins σ H' s' := I.call' (ch := []) os un hok bare (fun b z => absurd z (by simp))
  obtain ⟨vs, a0, oT, ts, he, h0, h1, _⟩ := id x
  exact ⟨a, σ, H', rfl, J.nopins, ⟨C, d, He, vs, a0, he, h0, .inr ⟨T, .none, x, Nat.le_trans I.sz nT, fT, fun z => absurd (Nat.lt_of_lt_of_le (I.pn_lt T z) nT) (Nat.lt_irrefl _), .inl rfl⟩⟩, q⟩
end
theorem PSs.wishTo {X : Cx} {E : Value → Shared → Prop} {st : List Stmt} {t : TS} (h : PSs (X.wish E) st t) (k : ∀ e s', E e s' → X.xe e s') : PSs X st t := ⟨fun pins s σ H D I hw =>
  wpAny_mono (h pins s σ H D (I.wish _) hw) (fun _ _ q => q.unwish) fun e s' z => k e s' z⟩
section
variable {P : Program} {w : World} {K : PySem.W.Frag} {mg : Str → Option Value} {base : Heap}
theorem leave1 {N : List Str} {qual : Str} {sc : Scope} {f : Addr} {cd : Value} {A : Around} {outer : List Env} {s : Shared} {H : Hp} {E : XK} (e : Value) (s' : Shared)
    (h : Raised (cxOf (CX1 P w) P w K mg base N qual sc f cd A outer s H E) (fun _ => E) e s') : (cxOf (CX1 P w) P w K mg base N qual sc f cd A outer s H E).xe e s' := by
  obtain ⟨a, σ, H', he, I, ⟨C, d, He, fl⟩, q⟩ := h
  subst he
  show wpAny (model P w) _ (leaving _ (.ref a)) _ _ s'
  unfold leaving
  refine wpAny_bind (note_raw (base := base) I.ok.frames I.stack rfl fl I.sz (fun b hb => I.hok.fresh hb) I.pn_lt fun h' T w x nT fT pT => flight_raw (s := { s' with heap := h' }) x fun h'' k x' => ?_)
  have W := w.then k
  have J := I.wr (h' := h'') W x' He fT nT (fun p hp => absurd hp (by show p ∉ ([] : List (Addr × Obj)) ++ []; simp))
  exact ⟨a, H', C, d, T, rfl, J.os, J.bare, J.base, J.hok, He, x', nT, fT, q⟩
theorem Fun.okX {x qual : Str} {st : Stmt} {f : Addr} {fd : FuncData} {N ps : List Str} {k : Nat} {sp : Sp} (F : Fun K x qual st f fd) (S : FnScope N ps (defScope st)) (len : ∀ vs H Q E, sp vs H Q E → vs.length = ps.length)
    (hbody : ∀ (cdv : Value) (A : Around) (outer : List Env) (s : Shared) (H : Hp) (vs : List V) (Q : VK) (E : XK), Room k (A.deeper (envOfC qual (defScope st) s.heap.objs.size f cdv)) → sp vs H Q E →
      ∃ t, PSs ((cxOf (CX1 P w) P w K mg base N qual (defScope st) f cdv A outer s H E).esc fun _ => E) (defBody st) t ∧ t { nx := fun _ H' => Q .non H', rt := Q } (start N vs) H) : FnOk P w K mg base (CX1 P w) (k + 1) f fd ps sp := by
  obtain ⟨oc, od, kV, doc, pm, an, cdv, ct, osl, rfl, lk, hcd⟩ := F.ex
  refine fn_of lk hcd S len fun A outer s H vs Q E hr hsp => ?_
  obtain ⟨t, h, q⟩ := hbody cdv A outer s H vs Q E hr hsp
  exact ⟨t, h.wishTo leave1, q⟩
theorem FnOk.calm {k : Nat} {f : Addr} {fd : FuncData} {ps : List Str} {sp : Sp} (F : FnOk P w K mg base (CX1 P w) k f fd ps sp) : FnOk P w K mg base CX0 k f fd ps (fun vs H Q _ => sp vs H Q E0) :=
  ⟨fun vs H Q E q => F.len vs H Q E0 q, fun A outer s H args us vs Q E hr he hb hv hs => codeAny_mono (F.run A outer s H args us vs Q E0 hr he hb hv hs) fun r s' hq => by
    cases r with
    | error e =>
      obtain ⟨_, _, _, _, _, _, _, _, _, _, _, _, _, _, z⟩ := hq
      exact z.elim
    | ok fl => cases fl <;> exact hq⟩
end
section
variable {X : Cx} {k : Nat} {f C : Addr} {fd : FuncData} {ps : List Str} {sp : Sp} {dvs : List V} {ds : List Value} {ES : St → XK} {x m : Str} {p pos apos : Pos} {e o : Expr} {es : List Expr} {ta : TE} {t : TA}
theorem run_fnX {pins : List (Addr × Obj)} {σ : St} {H : Hp} {s : Shared} {Q : VK} {us : List Value} {vs : List V} (F : FnOk X.prog X.w X.K X.mg X.base (CX1 X.prog X.w) k f fd ps sp) (hr : Room k X.A) (hb : Binds X.K fd ps ds) (hd : Vals dvs ds) (hx : Esc X ES)
    (I : Inv X pins σ H s) (r : Vals vs us) (h : sp (vs ++ dvs) H Q (ES σ)) : wpAny (model X.prog X.w) X.A (call (.ref f) us) (EP X pins σ Q) X.xe s := by
  have r2 : Vals (vs ++ dvs) (us ++ ds) := r.append hd
  have hl : (us ++ ds).length = ps.length := by rw [← r2.length]; exact F.len _ _ _ _ h
  refine wpAny_call (codeAny_mono (F.run X.A X.stack s H ⟨us, []⟩ (us ++ ds) (vs ++ dvs) Q (ES σ) hr I.env0 (hb s us I.kIn hl) r2 h) fun r s' hq => ?_)
  cases r with
  | error e => exact hx e s' (pass1 I hq)
  | ok fl =>
    cases fl with
    | ret u => exact I.after hq
    | next => exact False.elim hq
    | brk => exact False.elim hq
    | cont => exact False.elim hq
def tCallX (sp : Sp) (dvs : List V) (ES : St → XK) (t : TA) : TE := fun σ H Q => t σ H fun vs H1 => sp (vs ++ dvs) H1 Q (ES σ)
theorem pe_callX (F : FnOk X.prog X.w X.K X.mg X.base (CX1 X.prog X.w) k f fd ps sp) (hr : Room k X.A) (hg : Gl X x) (hm : X.mg x = some (.ref f)) (hk : PySem.W.keepIn X.K (.ref f) = true) (hb : Binds X.K fd ps ds) (hd : Vals dvs ds) (hx : Esc X ES)
    (ha : PA X (e :: es) t) (hdb : (x == ("__debug__" : Str)) = false := by decide) (he : starEach (e :: es) X.env = (false, eval e X.env) :: starEach es X.env := by rfl) (hpl : (backTo pos (starEach es X.env)).any (·.1) = false := by rfl) :
    PE X (.Call (.Name x p) (e :: es) [] pos) (tCallX sp dvs ES t) := by
  refine ⟨?_⟩
  intro pins s σ H Q I h
  refine wpAny_Call_Name_kw (ld_glob I hg hm ?_ hdb)
  refine PySem.W.callWith_K (h₀ := X.base) I.ok.mod.kin hk (thn (ha pos pins s σ H _ I h) fun us s1 ⟨vs, H1, I1, r, q⟩ => ⟨I1.kIn, ?_⟩) he hpl
  exact run_fnX F hr hb hd hx I1 r q
end
end L2
namespace L2
open PySem PySem.Spec PyProof.Rows
section
variable {prog : Program} {w : World} {A : Around} {E : Value → Shared → Prop} {h : Heap} {g : Array GenState} {dr : Drawn} {t : Nat} {os : OsState}
theorem istype_no {a : Addr} {o : Obj} {vs : Array Value} {Q : Bool → Shared → Prop} (ha : h.get? a = some o) (hd : o.data = .fields vs) (hq : Q false ⟨h, g, dr, t, os⟩) : wpAny (model prog w) A (isType (.ref a)) Q E ⟨h, g, dr, t, os⟩ := by
  simp only [isType, loadHead]
  refine wpAny_bind (wpAny_loadPart ha ?_)
  rw [hd]; exact wpAny_pure hq
theorem typeof_ref {a : Addr} {o : Obj} {Q : Value → Shared → Prop} (ha : h.get? a = some o) (hq : Q o.cls ⟨h, g, dr, t, os⟩) : wpAny (model prog w) A (typeOf (.ref a)) Q E ⟨h, g, dr, t, os⟩ := by
  simp only [typeOf]
  exact wpAny_bind (wpAny_loadPart ha (wpAny_pure hq))
end
section
variable {X : Cx} {pins : List (Addr × Obj)} {σ : St} {H : Hp} {s : Shared} {ES : St → XK} {e : Expr} {te : TE} {pos : Pos}
def sRaise (K : PySem.W.Frag) (te : TE) (ES : St → XK) : TS := fun _ σ H => te σ H fun x H1 => ∃ a C d fs nm bm, x = .ref a ∧ XAt H1 a C d false fs ∧ XC K C nm bm ∧ ES σ (.ref a) none (upd H1 a (.ext (XO a C d true)))
theorem ps_raise (he : PE X e te) (hx : Esc X ES) (hc : X.calm = true) : PS X (.Raise (some e) none pos) (sRaise X.K te ES) := by
  refine ⟨fun pins s σ H D I h => ?_⟩
  show wpAny _ _ (do standAt pos; raiseStmt X.env (some (do let v ← eval e X.env; standAt pos; pure v)) none) _ _ s
  refine wpAny_bind (wpAny_standAt ?_)
  unfold raiseStmt
  dsimp only
  refine wpAny_bind (wpAny_bind (wpAny_mono (he pins s σ H _ I h) (fun v s₁ h₁ => wpAny_bind (wpAny_standAt (wpAny_pure ?_))) fun _ _ x => x))
  obtain ⟨x, H1, I1, rx, a, C, d, fs, nm, bm, ex, xa, c, q⟩ := h₁
  subst ex
  obtain rfl : v = Value.ref a := rx
  obtain ⟨vs, a0, ha, h0, h1⟩ := xa.obj I1
  have hb : (Value.ref C :: bm).contains (.type "BaseException") = true := c.tl.has C "BaseException" true (by decide +kernel)
  obtain ⟨q0, N, bs, sn, sub, ab, col, dd, k0, k1, k2, k3, k5, lk⟩ := c.obj
  have hC := I1.kIn _ _ lk
  have hh : X.A.handled = none := I1.ok.hd hc
  have I2 := I1.write (o := .ext (XO a C d true)) (x := a) (e := a) (t' := s₁.toks) (h' := s₁.heap) (by rw [xa.1]; exact True.intro) (.inl rfl) (fun b u _ z => z) ⟨_, ha⟩ (ext_ok ⟨vs, a0, ha, h0, fun z => nomatch z⟩ ⟨_, ha⟩ XO.stay)
  have fin : X.xe (.ref a) s₁ := hx _ _ ⟨a, σ, _, rfl, I2.nopins, ⟨C, d, upd_same, vs, a0, ha, h0, .inl (h1 rfl)⟩, q⟩
  obtain ⟨hp, g, dr, t, os⟩ := s₁
  refine wpAny_bind (wpAny_pure ?_)
  dsimp only
  refine wpAny_bind (wpAny_holding ?_)
  unfold excFromValue isExcClass
  refine wpAny_bind (wpAny_bind (istype_no ha rfl ?_))
  simp only [Bool.false_eq_true, if_false]
  refine wpAny_pure ?_
  simp only [Bool.false_eq_true, if_false]
  unfold isInstance
  refine wpAny_bind (wpAny_bind (typeof_ref ha (wpAny_isSubtype_exc hC ?_)))
  rw [hb]
  simp only [if_true]
  refine wpAny_pure ?_
  refine wpAny_bind (istype_no ha rfl ?_)
  simp only [Bool.false_eq_true, if_false]
  unfold raisedInstance
  refine wpAny_bind (wpAny_bind (typeof_ref ha (wpAny_bind (typeof_ref hC ?_))))
  rw [if_pos (by rfl)]
  refine wpAny_pure ?_
  unfold setFlight raiseNew
  refine wpAny_bind (wpAny_bind (wpAny_field ha rfl (h1 rfl) ?_))
  rw [if_neg (by decide)]
  refine wpAny_pure (wpAny_bind (wpAny_handled ?_))
  rw [hh]
  first
    | exact wpAny_throw fin
    | exact wpAny_bind (wpAny_pure (wpAny_throw fin))
end
end L2
namespace L2
open PySem PySem.Spec PyProof.Rows
section
variable {prog : Program} {w : World} {A : Around} {E : Value → Shared → Prop} {h : Heap} {g : Array GenState} {dr : Drawn} {t : Nat} {os : OsState}
theorem istype_yes {a : Addr} {o : Obj} {cd : ClassData} {Q : Bool → Shared → Prop} (ha : h.get? a = some o) (hd : o.data = .cls cd) (hq : Q true ⟨h, g, dr, t, os⟩) : wpAny (model prog w) A (isType (.ref a)) Q E ⟨h, g, dr, t, os⟩ := by
  simp only [isType, loadHead]
  refine wpAny_bind (wpAny_loadPart ha ?_)
  rw [hd]; exact wpAny_pure hq
theorem excm_own {e C C' : Addr} {oe : Obj} {nm q nm' q' : Str} {N N' : Addr} {bs bm bs' bm' : List Value} {hdct hdct' : Bool} {sn sn' sub sub' ab ab' col col' dd dd' k0 k0' k1 k1' k2 k2' k3 k3' k5 k5' newId newId'} {Q : Bool → Shared → Prop} (he : h.get? e = some oe) (hcls : oe.cls = .ref C) (hC : h.get? C = some (excClassObj nm q C N bs bm hdct sn sub ab col dd k0 k1 k2 k3 k5 newId))
    (hC' : h.get? C' = some (excClassObj nm' q' C' N' bs' bm' hdct' sn' sub' ab' col' dd' k0' k1' k2' k3' k5' newId')) (hb' : (Value.ref C' :: bm').contains (.type "BaseException") = true) (hq : Q ((Value.ref C :: bm).contains (.ref C')) ⟨h, g, dr, t, os⟩) :
    wpAny (model prog w) A (excMatches (.ref e) (.ref C')) Q E ⟨h, g, dr, t, os⟩ := by
  unfold excMatches isInstance
  refine wpAny_bind (wpAny_bind (typeof_ref hC' (wpAny_of_eq (a := false) (by rfl) ?_)))
  simp only [Bool.false_eq_true, if_false]
  refine wpAny_bind (wpAny_pure ?_)
  simp only [forIn, ForIn.forIn, List.forIn'_cons, List.forIn'_nil, List.forIn_cons, List.forIn_nil]
  unfold isExcClass
  refine wpAny_bind ?_
  refine wpAny_bind ?_
  refine wpAny_bind (wpAny_bind (istype_yes hC' rfl ?_))
  simp only [if_true]
  refine wpAny_isSubtype_exc hC' ?_
  rw [hb']
  simp only [Bool.not_true, Bool.false_eq_true, if_false]
  refine wpAny_pure (wpAny_pure ?_)
  refine wpAny_bind (typeof_ref he ?_)
  rw [hcls]
  refine wpAny_bind (wpAny_bind (wpAny_bind (wpAny_isSubtype_exc hC ?_)))
  generalize (Value.ref C :: bm).contains (.ref C') = b at hq ⊢
  cases b with
  | true =>
    simp only [if_true]
    exact wpAny_pure (wpAny_pure (wpAny_pure hq))
  | false =>
    simp only [Bool.false_eq_true, if_false]
    exact wpAny_pure (wpAny_pure (wpAny_pure hq))
end
abbrev Cx.alt (X : Cx) (A : Around) (calm : Bool) (pn : List (Addr × Obj)) (xe : Value → Shared → Prop) : Cx := { X with A := A, calm := calm, pn := pn, xe := xe }
abbrev Cx.bear (X : Cx) (pn : List (Addr × Obj)) : Cx := X.alt X.A X.calm pn X.xe
abbrev Cx.suite (X : Cx) (A : Around) (pn : List (Addr × Obj)) : Cx := X.alt A false pn fun _ _ => False
section
variable {X : Cx} {pins pins' pn : List (Addr × Obj)} {σ : St} {H : Hp} {s : Shared} {A : Around} {calm : Bool} {xe : Value → Shared → Prop}
theorem Inv.alt (I : Inv X pins σ H s) (hA : A.frames = some X.stack) (hc : calm = true → A.handled = none) (hp : ∀ p ∈ pn ++ pins', p ∈ X.pn ++ pins) : Inv (X.alt A calm pn xe) pins' σ H s :=
  ⟨⟨I.ok.mod, I.ok.kind, I.ok.glob, I.ok.blt, I.ok.above, I.ok.inj, I.ok.has, I.ok.cab, hc, hA, I.ok.stk, I.ok.exf, I.ok.bs, I.ok.bsz, I.ok.noex, I.ok.exfs, I.ok.funs, I.ok.frf⟩, I.os, I.bare, I.base, I.loc, I.cell, I.free, I.freeC, fun p h => I.pin p (hp p h), I.hok, I.len⟩
theorem Inv.unalt (I : Inv (X.alt A calm pn xe) pins' σ H s) (ok : X.Ok) (hp : ∀ p ∈ X.pn ++ pins, p ∈ pn ++ pins') : Inv X pins σ H s :=
  ⟨ok, I.os, I.bare, I.base, I.loc, I.cell, I.free, I.freeC, fun p h => I.pin p (hp p h), I.hok, I.len⟩
theorem Inv.unset {i : Nat} {n : Str} {m : Str → Option Value} {v : Option Value} {h' : Heap} {t' : Nat} (I : Inv X pins σ H s) (hN : X.N.Nodup) (hi : X.N[i]? = some n) (hn : s.heap.Ns X.env.locals m) (hl : ∀ (i : Nat) (x : Str) (v : V), X.N[i]? = some x → σ[i]? = some (some v) → Vis X.env.scope x → ∃ u, RelV v u ∧ Look X.env s.heap m x u)
    (hn' : h'.Ns X.env.locals fun x => if x = n then v else m x) (hs : Heap.SameBut X.env.locals s.heap h') : Inv X pins (σ.set i none) H { s with heap := h', toks := t' } := by
  have hiσ : i < σ.length := by rw [I.len]; exact (List.getElem?_eq_some_iff.mp hi).1
  have cne := I.cne
  obtain ⟨oL, _, _, hoL, _⟩ := id hn
  refine ⟨I.ok, I.os, I.bare, ⟨fun b o e n hb hx => ?_, fun b o e n hb hx => ?_, I.base.free, fun b o e hx => ?_, I.base.tups, I.base.frzs, I.base.tbls⟩, ⟨_, hn', fun j y v' e1 e2 e3 => ?_⟩, fun y c e => ?_, I.free, I.freeC, fun p hp => ?_, fun b ob e => ?_, by simpa using I.len⟩
  · exact (hs.2 b (Nat.ne_of_lt (Nat.lt_of_lt_of_le (Heap.lt_size e) I.ok.above))).trans (I.base.keep b o e n hb hx)
  · obtain ⟨sl, e1⟩ := I.base.slot b o e n hb hx
    exact ⟨sl, (hs.2 b (Nat.ne_of_lt (Nat.lt_of_lt_of_le (Heap.lt_size e) I.ok.above))).trans e1⟩
  · obtain ⟨o', e1⟩ := I.base.there b o e hx
    exact ⟨o', (hs.2 b (Nat.ne_of_lt (Nat.lt_of_lt_of_le (Heap.lt_size e) I.ok.above))).trans e1⟩
  · by_cases hj : j = i
    · subst hj
      rw [List.getElem?_set_self hiσ] at e2
      cases e2
    · rw [List.getElem?_set_ne (Ne.symm hj)] at e2
      obtain ⟨u', r', q⟩ := hl j y v' e1 e2 e3
      refine ⟨u', r', ?_⟩
      rcases q with ⟨k, e⟩ | ⟨k, c, e, z⟩
      · refine .inl ⟨k, ?_⟩
        have : y ≠ n := fun e => hj (nodup_ix hN e1 (e ▸ hi))
        simp [this, e]
      · exact .inr ⟨k, c, e, z.sameBut hs (cne y c e)⟩
  · obtain ⟨w', z⟩ := I.cell y c e
    exact ⟨w', z.sameBut hs (cne y c e)⟩
  · obtain ⟨e, n, ne, nf, d⟩ := I.pin p hp
    exact ⟨(hs.2 p.1 ne).trans e, n, ne, nf, d⟩
  · refine (I.hok b ob e).stay (fun c w' hc q => (hs.2 c ?_).trans q) (fun _ q => q) fun _ _ q => q
    rintro rfl
    rcases hc with rfl | hc
    · rw [I.free] at e; cases e
    · rw [I.free] at hc; cases hc
end
section
variable {X : Cx} {body suite : List Stmt} {b₀ : Stmt} {tb : (St → XK) → TS} {th : TS} {n cn : Str} {cp hpos pos : Pos} {i : Nat} {C' : Addr} {nm' : Str} {bm' : List Value}
def Ends.drop (D : Ends) (i : Nat) : Ends := { nx := fun σ H => D.nx (σ.set i none) H, rt := D.rt, bk := fun σ H => D.bk (σ.set i none) H, ct := fun σ H => D.ct (σ.set i none) H }
def hCatch (K : PySem.W.Frag) (C' : Addr) (i : Nat) (th : TS) (D : Ends) : St → XK := fun σ e _ H => ∃ a C d fs nm bm, e = .ref a ∧ XAt H a C d true fs ∧ XC K C nm bm ∧ (Value.ref C :: bm).contains (.ref C') = true ∧ th (D.drop i) (σ.set i (some (.ref a))) H
def sTry (K : PySem.W.Frag) (tb : (St → XK) → TS) (C' : Addr) (i : Nat) (th : TS) : TS := fun D σ H => tb (hCatch K C' i th D) D σ H
theorem xat_cls {H : Hp} {a C C2 : Addr} {d d2 : Option Addr} {fs : List (Str × V)} {h : Heap} {P : Program} {w : World} (x : XAt H a C d true fs) (ok : HOk P w H h) (y : ∃ vs : Array Value, h.get? a = some { cls := .ref C2, dict := d2, data := .fields vs }) : C = C2 ∧ d = d2 := by
  obtain ⟨⟨vs, a0, h1, _⟩, _⟩ := (show ObjOk P w H h a (.ext (XO a C d true)) from ok a _ x.1)
  obtain ⟨vs2, h2⟩ := y
  rw [h1] at h2
  injection h2 with h3
  injection h3 with h4 h5
  injection h4 with h6
  exact ⟨h6, h5⟩
set_option maxHeartbeats 1000000 in
theorem ps_try (hst : X.stack = X.env :: X.outer) (hb : ∀ (pn : List (Addr × Obj)) (ES : St → XK), PSs ((X.bear pn).esc ES) body (tb ES)) (hs : ∀ (A : Around) (pn : List (Addr × Obj)), PSs (X.suite A pn) (b₀ :: suite) th)
    (hg : Gl X cn) (hm : X.mg cn = some (.ref C')) (c' : XC X.K C' nm' bm') (hN : X.N.Nodup) (hi : X.N[i]? = some n) (hl : X.env.kindOf n = some .local) (hdb : (cn == ("__debug__" : Str)) = false := by decide) :
    PS X (.Try body [.ExceptHandler (some (.Name cn cp)) (some n) (b₀ :: suite) hpos] [] [] pos) (sTry X.K tb C' i th) := by
  refine ⟨fun pins s σ H D I h => ?_⟩
  have ok := I.ok
  have I0 : Inv (X.bear (X.pn ++ pins)) [] σ H s := I.alt ok.frames ok.hd (fun p hp => by rwa [List.append_nil] at hp)
  have back : ∀ {A calm xe σ H s}, Inv (X.alt A calm (X.pn ++ pins) xe) [] σ H s → Inv X pins σ H s := fun J => J.unalt ok (fun p hp => by rwa [List.append_nil])
  refine wpAny_Try_except (wpAny_mono ((hb (X.pn ++ pins) (hCatch X.K C' i th D)) [] s σ H D (I0.wish _) h) (fun f s1 h1 => ?_) fun e s1 h1 => ?_)
  · cases f with
    | next =>
      obtain ⟨σ', H', J, q⟩ := h1
      exact wpAny_pure ⟨σ', H', back J, q⟩
    | brk => obtain ⟨σ', H', J, q⟩ := h1; exact ⟨σ', H', back J, q⟩
    | cont => obtain ⟨σ', H', J, q⟩ := h1; exact ⟨σ', H', back J, q⟩
    | ret u => obtain ⟨v, σ', H', J, r, q⟩ := h1; exact ⟨v, σ', H', back J, r, q⟩
  · obtain ⟨a, σ1, H1, ea, J, ⟨C, d, He, fl⟩, a', Cx', d', fs, nm, bm, e1, xa, c, hc, q⟩ := h1
    subst ea
    cases e1
    have hf : X.env.frame = some X.env.locals := I.frame1 hst
    have hfr : X.A.frames = some (X.env :: X.outer) := by rw [ok.frames, hst]
    have hl' : s1.heap.FunFrames X.base (X.env :: X.outer) := by rw [← hst]; exact J.stack
    refine note_raw hfr hl' hf fl J.sz (fun b hb => J.hok.fresh hb) J.pn_lt fun h2 T w x nT fT pT => flight_raw (s := { s1 with heap := h2 }) x fun h3 k x3 => ?_
    have W := w.then k
    rw [← hst] at W
    have ec := xat_cls xa J.hok (by obtain ⟨vs, a0, z, _⟩ := fl; exact ⟨vs, z⟩)
    obtain ⟨rfl, rfl⟩ := ec
    have J3 : Inv (X.bear (X.pn ++ pins)) [] σ1 H1 { s1 with heap := h3 } := J.wr (h' := h3) W x3 He fT nT (fun p hp z => pT (by rw [List.append_nil] at hp; exact z ▸ List.mem_map_of_mem hp))
    obtain ⟨q0, N, bs, sn, sub, ab, col, dd, k0, k1, k2, k3, k5, lk⟩ := c.obj
    obtain ⟨q0', N', bs', sn', sub', ab', col', dd', k0', k1', k2', k3', k5', lk'⟩ := c'.obj
    have hC := J3.kIn _ _ lk
    have hC' := J3.kIn _ _ lk'
    have J4 : Inv (X.suite (X.A.mark (some (.ref a))) (X.pn ++ pins)) [] σ1 H1 { s1 with heap := h3 } := J3.alt (X := X.bear (X.pn ++ pins)) ok.frames (fun z => nomatch z) (fun p hp => hp)
    refine wpAny_handleBy_cons (codeAny_handlers_test (ld_glob (X := X.suite (X.A.mark (some (.ref a))) (X.pn ++ pins)) J4 hg hm ?_ hdb)) (by intro z; cases z)
    obtain ⟨vs3, a03, _, _, he3, _⟩ := id x3
    refine excm_own he3 rfl hC hC' (c'.tl.has C' "BaseException" true (by decide +kernel)) ?_
    rw [hc]
    simp only [if_true]
    refine codeAny_handlers_suite_as (flight_raw (s := { s1 with heap := h3 }) x3 fun h5 k5' x5 => ?_)
    have J5 : Inv (X.suite (X.A.mark (some (.ref a))) (X.pn ++ pins)) [] σ1 H1 { s1 with heap := h5 } := by
      refine J4.wr (h' := h5) (e := a) (T := T) ⟨fun b o hb _ _ hT => k5' b o hb hT, fun b o hb hbf => ⟨o.slots, k5' b o hb fun z => W.nf (z ▸ hbf)⟩, fun o ho => ?_, W.nf⟩ x5 He fT nT (fun p hp z => pT (by rw [List.append_nil] at hp; exact z ▸ List.mem_map_of_mem hp))
      obtain ⟨_, _, oT, ts, _, _, _, _, hT, hd, _⟩ := x3
      rw [hT] at ho; cases ho; exact ⟨ts, hd⟩
    refine store_ok (X := X.suite (X.A.mark (some (.ref a))) (X.pn ++ pins)) (v := .ref a) J5 hN hi (.inl hl) rfl (fun s6 J6 => ?_) (.inr hl)
    refine wpAny_mono ((hs (X.A.mark (some (.ref a))) (X.pn ++ pins)) [] s6 _ H1 (D.drop i) J6 q) (fun f s7 h7 => ?_) fun _ _ z => False.elim z
    have fin : ∀ {σ' : St} {H' : Hp} {R : Unit → Shared → Prop}, Inv (X.suite (X.A.mark (some (.ref a))) (X.pn ++ pins)) [] σ' H' s7 → (∀ s8, Inv X pins (σ'.set i none) H' s8 → R () s8) → wpAny (model X.prog X.w) X.A (do bindName X.env n .none; unbindBehindTheSuite X.env n hpos) R X.xe s7 := fun {σ' H' R} J7 hR => by
      obtain ⟨m, hn, hlk⟩ := J7.loc
      refine wpAny_nameGoes_keeps hl hn (by rw [ok.kind]; rfl) fun h8 v hn8 hs8 => hR _ (back (J7.unset (t' := s7.toks + 1) hN hi hn hlk hn8 hs8))
    cases f with
    | next => obtain ⟨σ', H', J7, q7⟩ := h7; exact fin J7 fun s8 J8 => ⟨_, H', J8, q7⟩
    | brk => obtain ⟨σ', H', J7, q7⟩ := h7; exact fin J7 fun s8 J8 => ⟨_, H', J8, q7⟩
    | cont => obtain ⟨σ', H', J7, q7⟩ := h7; exact fin J7 fun s8 J8 => ⟨_, H', J8, q7⟩
    | ret u => obtain ⟨v, σ', H', J7, r, q7⟩ := h7; exact fin J7 fun s8 J8 => ⟨v, _, H', J8, r, q7⟩
end
end L2
namespace XD
open PySem PySem.SeqAt PySem.MeetsSeq
theorem dict_declines_str (l : Addr) (es : Array DictEntry) (ep : Nat) (dd : Option Addr) (sl : Array (Option Value)) (b : Str) (u : Tok) :
    Meets (Builtin.«dict.__eq__» ⟨[.ref l, .str b u], []⟩) (fun _ R s => s.heap.get? l = some { cls := .type "dict", dict := dd, data := .dict es ep, slots := sl } ∧ R (.ok (.ret .notImplemented)) s) :=
  .of_wp fun prog w A R s h => by
    obtain ⟨hl, h⟩ := h
    have ht : s.TypeIs (.ref l) "dict" := ⟨_, hl, rfl⟩
    show wpAny _ _ (Builtin.Dict.dictSlotArgs "__eq__" ⟨[.ref l, .str b u], []⟩ >>= _) _ _ s
    refine wpAny_bind ?_
    unfold Builtin.Dict.dictSlotArgs
    refine wpAny_bind (wpAny_notOrdered_dict ht ?_)
    refine wpAny_pure ?_
    refine wpAny_bind (wpAny_isInstance (T := "str") (typeIs_str s b u) (by rfl : isSubtype (.type "str") (.type "dict") = pure false) ?_)
    simp only [Bool.not_false, if_true]
    exact wpAny_bind (wpAny_rule (wpAny_pure ⟨_, rfl, h⟩))
theorem str_declines_dict (b : Str) (u : Tok) (l : Addr) (c : Value) (es : Array DictEntry) (ep : Nat) (dd : Option Addr) (sl : Array (Option Value)) :
    Meets (Builtin.«str.__eq__» ⟨[.str b u, .ref l], []⟩) (fun _ R s => s.heap.get? l = some { cls := c, dict := dd, data := .dict es ep, slots := sl } ∧ R (.ok (.ret .notImplemented)) s) :=
  .of_wp fun prog w A R s h => by obtain ⟨hp, g, d, tk, os⟩ := s; obtain ⟨hl, h⟩ := h; wp_walk using AutoSeq1.wpAny_loadPart' hl, wpAny_load hl; exact ⟨_, rfl, h⟩
theorem rc_str_dict {A : Around} {s : Shared} {l : Addr} {es : Array DictEntry} {ep : Nat} {dd : Option Addr} {sl : Array (Option Value)} (b : Str) (u : Tok) (ho : s.heap.get? l = some { cls := .type "dict", dict := dd, data := .dict es ep, slots := sl }) (hu : A.units < cLine) : RcAt A s (.str b u) (.ref l) false := fun prog w E Q h =>
  rc_eq_decline_or (k := false) (typeIs_str s b u) ⟨_, ho, rfl⟩ (by decide) (by rfl : isSubtype (.type "dict") (.type "str") = pure false) F.slot_str_eq F.slot_dict_eq_refl
    (fun _ hq => call_meets F.slot_str_eq (typeIs_str s b u) F.entry_str_eq (F.args_str_eq_2 _ _) (str_declines_dict b u l (.type "dict") es ep dd sl) ⟨ho, hq⟩)
    (fun _ hq => call_meets F.slot_dict_eq_refl ⟨_, ho, rfl⟩ F.entry_dict_eq (F.args_dict_eq_2 _ _) (dict_declines_str l es ep dd sl b u) ⟨ho, hq⟩)
    (fun _ hq => wpAny_of_eq (rfl : isSame (.str b u) (.ref l) = pure false) hq) (.inr hu) h
theorem eq_str_dict {A : Around} {s : Shared} {l : Addr} {es : Array DictEntry} {ep : Nat} {dd : Option Addr} {sl : Array (Option Value)} (b : Str) (u : Tok) (ho : s.heap.get? l = some { cls := .type "dict", dict := dd, data := .dict es ep, slots := sl }) (hu : A.units < cLine) : EqAt A s (.str b u) (.ref l) false := fun prog w E Q h => by
  unfold eqBool
  refine wpAny_holding ?_
  refine wpAny_ite_split (fun hab => absurd (eq_of_beq hab) nofun) (fun _ => ?_)
  exact wpAny_bind (rc_str_dict b u ho hu prog w E _ (wpAny_truthy_bool h))
end XD
namespace L2
open PySem PySem.Spec PyProof.Rows
def RefTh (K : PySem.W.Frag) (H : Hp) (a : Addr) : Prop := (∃ xs, SqL K H a xs) ∨ (∃ xs, SqT K H a xs) ∨ ∃ kvs, H a = some (.dK kvs)
section
variable {X : Cx}
theorem ref_ne_text {pins : List (Addr × Obj)} {σ : St} {H : Hp} {s : Shared} {a : Addr} {A : Around} (I : Inv X pins σ H s) (t : RefTh X.K H a) (hu : A.units < cLine) (b : Str) (u : Tok) : SeqAt.EqAt A s (.str b u) (.ref a) false := by
  rcases t with ⟨xs, t⟩ | ⟨xs, t⟩ | ⟨kvs, t⟩
  · obtain ⟨its, _, pl, _⟩ := I.list t
    exact SeqAt.EqAt.str_list b u pl.isList hu
  · obtain ⟨its, _, pl, _⟩ := I.tuple t
    exact SeqAt.EqAt.str_tuple b u pl hu
  · obtain ⟨_, _, vs, _, o, es, ep, ho, hx, hd, _⟩ := (show ObjOk X.prog X.w H s.heap a (.dK kvs) from I.hok a _ t)
    obtain ⟨c, dd, dt, sl⟩ := o
    cases hd
    have hc : c = .type "dict" := hx.1
    subst hc
    exact XD.eq_str_dict b u ho hu
theorem texts_ne {A : Around} {s : Shared} {a : Addr} (h : ∀ b u, SeqAt.EqAt A s (.str b u) (.ref a) false) : ∀ {xs : List Str} {us : List Value}, Vals (xs.map V.str) us → ∀ u ∈ us, SeqAt.EqAt A s u (.ref a) ((fun _ => false) u)
  | [], _, .nil => fun u hu => by cases hu
  | x :: xs, u :: us, .cons r t => fun u' hu => by
    rcases List.mem_cons.mp hu with rfl | hu
    · obtain ⟨t', rfl⟩ := r; exact h x t'
    · exact texts_ne h t u' hu
theorem no_any {l : List Value} : l.toArray.any (fun _ => false) = false := by
  rw [Array.any_eq_false]
  intro i h
  exact Bool.false_ne_true
theorem hits_self {κ : Type} [DecidableEq κ] {A : Around} {s : Shared} {kb : List (κ × Value)} : ∀ {ka : List (κ × Value)}, (∀ k v, (k, v) ∈ ka → valueAt kb k = some v) → PySem.W.KeqHits A s kb ka true
  | [], _ => .nil
  | (k, v) :: r, h => by
    have := PySem.W.KeqHits.hit (e := true) (b := true) (h k v List.mem_cons_self) (SeqAt.EqAt.same v) (hits_self (A := A) (s := s) (ka := r) fun k v m => h k v (List.mem_cons_of_mem _ m))
    exact this
def rEqSame (K : PySem.W.Frag) : R2 := fun x y H Q => y = x ∧ ((∃ d, Dt K H x d ∧ d.canLay0 = true ∧ d.depth ≤ 60 ∧ PyData.eqv d d = true) ∨ ∃ a kvs, x = .ref a ∧ H a = some (.dK kvs)) ∧ Q (.bl true) H
theorem op_eqSame {k : Nat} (hr : Room k X.A) : OpR X (compareOp .Eq) (rEqSame X.K) := by
  intro pins s σ H x y v u Q I rx ry h
  obtain ⟨rfl, h, q⟩ := h
  rcases h with ⟨d, h1, h2, h3, h4⟩ | ⟨a, kvs, rfl, h1⟩
  · refine op_eqD hr pins s σ H y y v u Q I rx ry ⟨d, d, h1, h1, h2, h2, Nat.le_trans (Nat.min_le_left _ _) h3, ?_⟩
    rw [h4]
    exact q
  · cases rx
    cases ry
    obtain ⟨_, hm, vs, _, D⟩ := (show ObjOk X.prog X.w H s.heap a (.dK kvs) from I.hok a _ h1)
    have nd : (vs.map (·.1)).Nodup := by obtain ⟨_, _, _, _, _, _, _, _, z⟩ := id D; exact z
    have hu : X.A.units < cLine := by
      have := hr.un
      lia
    refine PySem.W.keq_eq (r := true) hm hm D D hu (fun _ => hits_self fun k v m => ?_) ⟨.bl _, H, I, rfl, ?_⟩
    · obtain ⟨i, hi, e⟩ := List.mem_iff_getElem.mp m
      exact valueAt_of_get nd (i := i) (by rw [List.getElem?_eq_getElem hi, e])
    · simpa using q
end
end L2
namespace L3
open PySem L2
def top (i : Nat) : Stmt := PySem.Challenge.pw_rowsbeneath_k18_steps_refused.main.body.getD i (.Pass ⟨0, 0, 0, 0⟩)
abbrev sWhole : Stmt := top 5
abbrev sWithin : Stmt := top 6
abbrev sName : Stmt := top 7
abbrev sOps : Stmt := top 19
abbrev sHeaded : Stmt := top 35
abbrev sInner : Stmt := top 36
abbrev sField : Stmt := top 37
abbrev sAddr : Stmt := top 38
abbrev sSel : Stmt := top 39
abbrev sSource : Stmt := top 40
abbrev sIsStep : Stmt := top 41
abbrev sIsEnd : Stmt := top 42
abbrev sWayOn : Stmt := top 43
abbrev sIsLittle : Stmt := top 44
abbrev sStepOf : Stmt := top 57
abbrev sLittleOf : Stmt := top 62
abbrev sCell : Stmt := top 64
abbrev sStream : Stmt := top 65
abbrev sTake : Stmt := top 66
abbrev sLSel : Stmt := top 67
abbrev sLSource : Stmt := top 68
abbrev sLStep : Stmt := top 69
abbrev sLOn : Stmt := top 70
abbrev sStrange : Stmt := top 71
abbrev sBadPair : Stmt := top 72
abbrev sBadPart : Stmt := top 73
abbrev sBadStep : Stmt := top 74
abbrev sBadOn : Stmt := top 75
abbrev sStepSaid : Stmt := top 76
abbrev sLittleSaid : Stmt := top 77
abbrev sRefused : Stmt := top 78
abbrev sAll : Stmt := top 79
abbrev sLaw : Stmt := top 80
def Fn (P : Program) (w : World) (K : PySem.W.Frag) (mg : Str → Option Value) (base : Heap) (x : Str) (k : Nat) (ps : List Str) (sp : Sp) : Prop :=
  ∃ (f : Addr) (fd : FuncData), mg x = some (.ref f) ∧ PySem.W.keepIn K (.ref f) = true ∧ Binds K fd ps [] ∧ FnOk P w K mg base CX0 k f fd ps sp
def tFn (sp : Sp) (t : TA) : TE := fun σ H Q => t σ H fun vs H1 => sp vs H1 Q E0
theorem pe_fn {X : Cx} {x : Str} {k : Nat} {ps : List Str} {sp : Sp} {p pos : Pos} {e : Expr} {es : List Expr} {t : TA} (h : Fn X.prog X.w X.K X.mg X.base x k ps sp) (hr : Room k X.A) (hg : Gl X x) (ha : PA X (e :: es) t) (hdb : (x == ("__debug__" : Str)) = false := by decide)
    (he : starEach (e :: es) X.env = (false, eval e X.env) :: starEach es X.env := by rfl) (hpl : (backTo pos (starEach es X.env)).any (·.1) = false := by rfl) : PE X (.Call (.Name x p) (e :: es) [] pos) (tFn sp t) := by
  obtain ⟨f, fd, hm, hk, hb, F⟩ := h
  refine ⟨?_⟩
  intro pins s σ H Q I q
  have ha' : PA X (e :: es) t := ha
  refine pe_call (dvs := []) (E := E0) F hr hg hm hk hb .nil pass0 ha' hdb he hpl pins s σ H Q I ?_
  show t σ H fun vs H1 => sp (vs ++ []) H1 Q E0
  have e2 : (fun vs H1 => sp (vs ++ []) H1 Q E0) = fun vs H1 => sp vs H1 Q E0 := by
    funext vs H1
    rw [List.append_nil]
  rw [e2]
  exact q
theorem pe_fn0 {X : Cx} {x : Str} {k : Nat} {sp : Sp} {p pos : Pos} (h : Fn X.prog X.w X.K X.mg X.base x k [] sp) (hr : Room k X.A) (hg : Gl X x) (hdb : (x == ("__debug__" : Str)) = false := by decide) : PE X (.Call (.Name x p) [] [] pos) (fun _ H Q => sp [] H Q E0) := by
  obtain ⟨f, fd, hm, hk, hb, F⟩ := h
  refine ⟨?_⟩
  intro pins s σ H Q I q
  exact pe_call0 (dvs := []) (E := E0) F hr hg hm hk hb .nil pass0 hdb pins s σ H Q I q
theorem same_new {H : Hp} {p : Addr} {o : HO} (h : H p = none) : Same H (upd H p o) := fun b u e => by rw [upd_ne (ne_of_none e h)]; exact e
theorem same_mut {H H2 : Hp} {p : Addr} {o : HO} (hp : H p = none) (s : Same H H2) : Same H (upd H2 p o) := fun b u e => by rw [upd_ne (ne_of_none e hp)]; exact s b u e
theorem iteB {A B : Prop} {b : Bool} (e : b = false) (h : B) : if b = true then A else B := by rw [e]; exact iteF h
theorem iteA {A B : Prop} {b : Bool} (e : b = true) (h : A) : if b = true then A else B := by rw [e]; exact iteT h
theorem S_of (z : Str) : z = S z.cps.toList := by
  show z = ⟨z.cps.toList.toArray⟩
  simp
theorem boot_isi : bootBuiltins "isinstance" = some (.builtin "isinstance") := by decide +kernel
theorem boot_list' : bootBuiltins "list" = some (.type "list") := by decide +kernel
theorem boot_str' : bootBuiltins "str" = some (.type "str") := by decide +kernel
theorem boot_bool' : bootBuiltins "bool" = some (.type "bool") := by decide +kernel
theorem boot_tuple' : bootBuiltins "tuple" = some (.type "tuple") := by decide +kernel
theorem boot_all' : bootBuiltins "all" = some (.builtin "all") := by decide +kernel
structure Bl (mg : Str → Option Value) : Prop where
  len : mg "len" = none
  int : mg "int" = none
  max : mg "max" = none
  min : mg "min" = none
  range : mg "range" = none
  isinstance : mg "isinstance" = none
  list : mg "list" = none
  str : mg "str" = none
  bool : mg "bool" = none
  tuple : mg "tuple" = none
  all : mg "all" = none
def strm (x y z : Int) : HO := .lst [.int x, .int y, .int z]
def Strm (H : Hp) (p : Addr) : Prop := ∃ x y z : Int, H p = some (strm x y z)
def But (p : Addr) (H H' : Hp) : Prop := ∀ b o, H b = some o → b ≠ p → H' b = some o
theorem But.refl (p : Addr) (H : Hp) : But p H H := fun _ _ e _ => e
theorem But.trans {p : Addr} {H H1 H2 : Hp} (a : But p H H1) (b : But p H1 H2) : But p H H2 := fun c o e n => b c o (a c o e n) n
theorem But.same {p : Addr} {H H1 H2 : Hp} (a : But p H H1) (b : Same H1 H2) : But p H H2 := fun c o e n => b c o (a c o e n)
theorem but_of {p : Addr} {H H1 : Hp} (b : Same H H1) : But p H H1 := fun c o e _ => b c o e
theorem Strm.same {p : Addr} {H H1 : Hp} (a : Strm H p) (b : Same H H1) : Strm H1 p := let ⟨x, y, z, e⟩ := a; ⟨x, y, z, b _ _ e⟩
theorem Strm.ne {p q : Addr} {H : Hp} (a : Strm H p) (h : H q = none) : p ≠ q := let ⟨_, _, _, e⟩ := a; ne_of_none e h
inductive spCell (K : PySem.W.Frag) (vs : List V) (H : Hp) (Q : VK) (Z3 : XK) : Prop
  | mk (a : Addr) (ns : List Int) (k : Int) : vs = [.ref a, .int k] → SqL K H a (ns.map V.int) → 0 ≤ k → (∀ c : Int, Q (.int c) H) → spCell K vs H Q Z3
inductive spStream (vs : List V) (H : Hp) (Q : VK) (Z3 : XK) : Prop
  | mk (c : Int) : vs = [.int c] → (∀ (p : Addr) H', H p = none → Same H H' → Strm H' p → Q (.ref p) H') → spStream vs H Q Z3
inductive spTake (vs : List V) (H : Hp) (Q : VK) (Z3 : XK) : Prop
  | mk (p : Addr) (m : Nat) : vs = [.ref p, .int m] → Strm H p → 0 < m → m < 18446744073709551616 → (∀ (r : Nat) H', r < m → Strm H' p → But p H H' → Q (.int r) H') → spTake vs H Q Z3
section
variable {P : Program} {w : World} {K : PySem.W.Frag} {mg : Str → Option Value} {base : Heap}
theorem scCell : FnScope ["_law_script", "_law_k"] ["_law_script", "_law_k"] (defScope sCell) := ⟨rfl, rfl, rfl, by decide +kernel, rfl, by decide +kernel, by decide +kernel⟩
theorem ok_cell {f : Addr} {fd : FuncData} (F : Fun K "_law_cell" "_law_cell" sCell f fd) (T : Bl mg) : FnOk P w K mg base CX0 1 f fd ["_law_script", "_law_k"] (spCell K) := by
  refine F.ok scCell (fun vs H Q E h => ?_) (fun cdv A outer s H vs Q E hr h => ?_)
  · obtain ⟨a, ns, k, rfl, _⟩ := h
    rfl
  · obtain ⟨a, ns, k, rfl, hS, h0, q⟩ := h
    refine ⟨_, pss_cons (ps_if (pt_cmpR op_lt (pv 1) (pe_callB call_len_seq (by rfl) T.len PySem.boot_len (pa_cons (pv 0) pa_nil)) (nomark _)) (pss_one (ps_ret (pe_ix ix_list (pv 0) (pv 1) (fun _ _ => rfl)))) pss_nil)
      (pss_one (ps_ret (pe_op op_add (pe_op op_mul pe_int (pv 1)) pe_int))), ?_⟩
    refine ⟨_, rfl, _, rfl, a, _, rfl, .inl hS, _, _, rfl, rfl, _, rfl, ?_⟩
    refine ite2 (fun h => ?_) (fun h => ?_)
    · have hl : k < ((ns.map V.int).length : Int) := of_decide_eq_true h
      rw [List.length_map] at hl
      obtain ⟨n, rfl⟩ : ∃ n : Nat, k = n := ⟨k.toNat, by lia⟩
      have hn : n < ns.length := by lia
      refine ⟨_, rfl, _, rfl, a, _, _, _, rfl, rfl, hS, atI_nat (v := .int ns[n]) (by simp [hn]), q _⟩
    · exact ⟨_, rfl, _, _, rfl, rfl, .inl ⟨by decide, by decide⟩, _, _, rfl, rfl, q _⟩
theorem scStream : FnScope ["_law_cell_here"] ["_law_cell_here"] (defScope sStream) := ⟨rfl, rfl, rfl, by decide +kernel, rfl, by decide +kernel, by decide +kernel⟩
theorem ok_stream {f : Addr} {fd : FuncData} (F : Fun K "_law_stream" "_law_stream" sStream f fd) (T : Bl mg) : FnOk P w K mg base CX0 1 f fd ["_law_cell_here"] spStream := by
  refine F.ok scStream (fun vs H Q E h => ?_) (fun cdv A outer s H vs Q E hr h => ?_)
  · obtain ⟨c, rfl, _⟩ := h
    rfl
  · obtain ⟨c, rfl, q⟩ := h
    refine ⟨_, pss_one (ps_ret (pe_lst (pa_cons (pe_op op_mul (pv 0) (pe_callTy call_int1 (by rfl) T.int PyProof.Rows.boot_int (pa_cons (pe_cmpR op_ge (pv 0) (pe_op op_pow pe_int pe_int) (nomark _)) pa_nil)))
      (pa_cons (pe_op op_mod (pv 0) pe_int) (pa_cons pe_int pa_nil))))), ?_⟩
    refine ⟨_, rfl, _, rfl, _, _, rfl, rfl, ⟨by decide, by decide, by decide⟩, _, _, rfl, rfl, .inr ⟨_, rfl, ?_⟩⟩
    refine ⟨_, _, rfl, rfl, .inr (by split <;> decide), _, rfl, _, _, rfl, rfl, (by show (0 : Int) < 2147483629; decide), (by show 3 ≤ sizeLine; decide), fun l hl => ?_⟩
    exact q l _ hl (same_new hl) ⟨_, _, _, upd_same⟩
theorem scTake : FnScope ["_law_stream_here", "_law_many", "_law_digit", "_law_number"] ["_law_stream_here", "_law_many"] (defScope sTake) := ⟨rfl, rfl, rfl, by decide +kernel, rfl, by decide +kernel, by decide +kernel⟩
theorem sq_bound {n m : Int} (hm : 0 < m) (h : m < 2 ^ 64) : -(2 ^ 64) < n % m ∧ n % m < 2 ^ 64 := by
  have := Int.emod_nonneg n (show m ≠ 0 by lia)
  have := Int.emod_lt_of_pos n hm
  lia
theorem ok_take {f : Addr} {fd : FuncData} (F : Fun K "_law_take" "_law_take" sTake f fd) : FnOk P w K mg base CX0 1 f fd ["_law_stream_here", "_law_many"] spTake := by
  refine F.ok scTake (fun vs H Q E h => ?_) (fun cdv A outer s H vs Q E hr h => ?_)
  · obtain ⟨p, m, rfl, _⟩ := h
    rfl
  · obtain ⟨p, m, rfl, ⟨x, y, z, hp⟩, m0, m1, q⟩ := h
    have fin : ∀ (e x' y' z' : Int) H1, 0 ≤ e → e < m → But p H H1 → Q (.int e) (upd H1 p (strm x' y' z')) := fun e x' y' z' H1 h0 h1 b => by
      have := q e.toNat (upd H1 p (strm x' y' z')) (by lia) ⟨_, _, _, upd_same⟩ (fun c o e n => by rw [upd_ne n]; exact b c o e n)
      rw [Int.toNat_of_nonneg h0] at this
      exact this
    have b1 : ∀ o, But p H (upd H p o) := fun o c u e n => by rw [upd_ne n]; exact e
    refine ⟨_, pss_cons (ps_if (pt_cmpR op_gt (pe_ix ix_list (pv 0) pe_int (fun _ _ => rfl)) pe_int (nomark _))
        (pss_cons (ps_set (i := 2) scTake.nd rfl (Or.inl rfl) (pe_op op_mod (pe_ix ix_list (pv 0) pe_int (fun _ _ => rfl)) (pv 1)))
        (pss_cons (ps_asg (pe_op op_fdivB (pe_ix ix_list (pv 0) pe_int (fun _ _ => rfl)) (pv 1)) (pg_sub (pv 0) pe_int set_list))
        (pss_one (ps_ret (pv 2))))) pss_nil)
      (pss_cons (ps_asg (pe_op op_add (pe_ix ix_list (pv 0) pe_int (fun _ _ => rfl)) pe_int) (pg_sub (pv 0) pe_int set_list))
      (pss_cons (ps_set (i := 3) scTake.nd rfl (Or.inl rfl) (pe_op op_mod (pe_op op_add (pe_op op_mul (pe_op op_add (pe_ix ix_list (pv 0) pe_int (fun _ _ => rfl)) (pe_op op_mul pe_int (pe_ix ix_list (pv 0) pe_int (fun _ _ => rfl)))) pe_int) pe_int) pe_int))
      (pss_cons (ps_set (i := 3) scTake.nd rfl (Or.inl rfl) (pe_op op_mod (pe_op op_mul (pv 3) (pv 3)) pe_int))
      (pss_one (ps_ret (pe_op op_mod (pe_op op_fdiv (pe_op op_mod (pe_op op_add (pe_op op_mul (pv 3) (pv 3)) (pe_op op_mul pe_int (pe_ix ix_list (pv 0) pe_int (fun _ _ => rfl)))) pe_int) pe_int) (pv 1))))))), ?_⟩
    refine ⟨_, rfl, p, _, _, _, rfl, rfl, SqL.of hp, rfl, _, _, rfl, rfl, _, rfl, ?_⟩
    refine ite2 (fun h => ?_) (fun h => ?_)
    · refine ⟨_, rfl, p, _, _, _, rfl, rfl, SqL.of hp, rfl, _, rfl, _, _, rfl, rfl, (by show (0 : Int) < (m : Int); lia), ?_⟩
      refine ⟨_, rfl, p, _, _, _, rfl, rfl, SqL.of hp, rfl, _, rfl, _, _, rfl, rfl, ⟨by show (0 : Int) < (m : Int); lia, by show (m : Int) < 18446744073709551616; lia⟩, ?_⟩
      refine ⟨_, rfl, p, _, _, _, rfl, rfl, hp, rfl, ?_⟩
      refine ⟨_, rfl, ?_⟩
      exact fin _ _ _ _ _ (Int.emod_nonneg _ (by lia)) (Int.emod_lt_of_pos _ (by lia)) (But.refl _ _)
    · refine ⟨_, rfl, p, _, _, _, rfl, rfl, SqL.of hp, rfl, _, _, rfl, rfl, ?_⟩
      refine ⟨_, rfl, p, _, _, _, rfl, rfl, hp, rfl, ?_⟩
      refine ⟨_, rfl, p, _, _, _, rfl, rfl, SqL.of upd_same, rfl, _, rfl, p, _, _, _, rfl, rfl, SqL.of upd_same, rfl, _, _, rfl, rfl, .inl ⟨by decide, by decide⟩, _, _, rfl, rfl, _, _, rfl, rfl, .inr ⟨by decide, by decide⟩, _, _, rfl, rfl, _, _, rfl, rfl, (by show (0 : Int) < 2147483647; decide), ?_⟩
      refine ⟨_, rfl, _, rfl, _, _, rfl, rfl, .inl (sq_bound (by decide) (by decide)), _, _, rfl, rfl, (by show (0 : Int) < 2147483629; decide), ?_⟩
      refine ⟨_, rfl, _, rfl, _, _, rfl, rfl, .inl (sq_bound (by decide) (by decide)), _, rfl, p, _, _, _, rfl, rfl, SqL.of upd_same, rfl, _, _, rfl, rfl, .inl ⟨by decide, by decide⟩, _, _, rfl, rfl, _, _, rfl, rfl, (by show (0 : Int) < 2147483587; decide), _, _, rfl, rfl, ⟨by decide, by decide⟩, _, rfl, _, _, rfl, rfl, (by show (0 : Int) < (m : Int); lia), ?_⟩
      exact fin _ _ _ _ _ (Int.emod_nonneg _ (by lia)) (Int.emod_lt_of_pos _ (by lia)) (But.refl _ _)
end
end L3
namespace L2
open PySem PySem.Spec PyProof.Rows
section
variable {X : Cx}
def rInR (K : PySem.W.Frag) : R2 := fun x y H Q => ∃ (a p : Addr) (xs : List Str), x = .ref a ∧ y = .ref p ∧ RefTh K H a ∧ (SqL K H p (xs.map V.str) ∨ SqT K H p (xs.map V.str)) ∧ Q (.bl false) H
theorem op_inR {k : Nat} (hr : Room k X.A) : OpR X (compareOp .In) (rInR X.K) := by
  intro pins s σ H x y v u Q I rx ry h
  obtain ⟨a, p, xs, rfl, rfl, t, hq, q⟩ := h
  cases rx
  cases ry
  have hu : X.A.in1.units < cLine := by
    have := hr.un
    show X.A.units + 1 < _
    lia
  have ne := ref_ne_text I t hu
  rcases hq with hq | hq
  · obtain ⟨its, r, pl, hz⟩ := I.list hq
    refine SeqAt.in_listAt (fun _ => false) pl.isList (fun w hw => texts_ne ne r w (by simpa using hw)) ⟨.bl _, H, I, rfl, ?_⟩
    rw [no_any]
    exact q
  · obtain ⟨its, r, pl, hz⟩ := I.tuple hq
    refine SeqAt.in_tupleAt (fun _ => false) pl (fun w hw => texts_ne ne r w (by simpa using hw)) ⟨.bl _, H, I, rfl, ?_⟩
    rw [no_any]
    exact q
def rOr (r1 r2 : R2) : R2 := fun x y H Q => r1 x y H Q ∨ r2 x y H Q
theorem op_either {f : Value → Value → Sem Value} {r1 r2 : R2} (a : OpR X f r1) (b : OpR X f r2) : OpR X f (rOr r1 r2) := by
  intro pins s σ H x y v u Q I rx ry h
  rcases h with h | h
  · exact a pins s σ H x y v u Q I rx ry h
  · exact b pins s σ H x y v u Q I rx ry h
end
end L2
namespace L3
open PySem L2
inductive Th
  | non
  | int (i : Int)
  | str (x : Str)
  | tup (l : List Th)
  | lst (l : List Th)
  | dct
mutual
inductive TgV (p : Addr) (H : Hp) : V → Th → Prop
  | non : TgV p H .non .non
  | int (i : Int) : TgV p H (.int i) (.int i)
  | str (x : Str) : TgV p H (.str x) (.str x)
  | tup {a : Addr} {xs : List V} {ts : List Th} : H a = some (.tup xs) → TgA p H xs ts → TgV p H (.ref a) (.tup ts)
  | lst {a : Addr} {xs : List V} {ts : List Th} : a ≠ p → H a = some (.lst xs) → TgA p H xs ts → TgV p H (.ref a) (.lst ts)
  | dct {a : Addr} : a ≠ p → H a = some (.dK []) → TgV p H (.ref a) .dct
inductive TgA (p : Addr) (H : Hp) : List V → List Th → Prop
  | nil : TgA p H [] []
  | cons {v : V} {t : Th} {vs : List V} {ts : List Th} : TgV p H v t → TgA p H vs ts → TgA p H (v :: vs) (t :: ts)
end
mutual
theorem TgV.but {p : Addr} {H H' : Hp} (g : Strm H p) (b : But p H H') : ∀ {v : V} {t : Th}, TgV p H v t → TgV p H' v t
  | _, _, .non => .non
  | _, _, .int i => .int i
  | _, _, .str x => .str x
  | _, _, .tup e t => .tup (b _ _ e (fun z => by obtain ⟨x, y, w, q⟩ := g; rw [z, q] at e; cases e)) (TgA.but g b t)
  | _, _, .lst n e t => .lst n (b _ _ e n) (TgA.but g b t)
  | _, _, .dct n e => .dct n (b _ _ e n)
theorem TgA.but {p : Addr} {H H' : Hp} (g : Strm H p) (b : But p H H') : ∀ {vs : List V} {ts : List Th}, TgA p H vs ts → TgA p H' vs ts
  | _, _, .nil => .nil
  | _, _, .cons h t => .cons (TgV.but g b h) (TgA.but g b t)
end
mutual
theorem TgV.same {p : Addr} {H H' : Hp} (s : Same H H') : ∀ {v : V} {t : Th}, TgV p H v t → TgV p H' v t
  | _, _, .non => .non
  | _, _, .int i => .int i
  | _, _, .str x => .str x
  | _, _, .tup e t => .tup (s _ _ e) (TgA.same s t)
  | _, _, .lst n e t => .lst n (s _ _ e) (TgA.same s t)
  | _, _, .dct n e => .dct n (s _ _ e)
theorem TgA.same {p : Addr} {H H' : Hp} (s : Same H H') : ∀ {vs : List V} {ts : List Th}, TgA p H vs ts → TgA p H' vs ts
  | _, _, .nil => .nil
  | _, _, .cons h t => .cons (TgV.same s h) (TgA.same s t)
end
theorem TgA.length {p : Addr} {H : Hp} : ∀ {vs : List V} {ts : List Th}, TgA p H vs ts → vs.length = ts.length
  | _, _, .nil => rfl
  | _, _, .cons _ t => by simp [TgA.length t]
theorem TgA.get {p : Addr} {H : Hp} : ∀ {vs : List V} {ts : List Th}, TgA p H vs ts → ∀ {i : Nat} {v : V}, vs[i]? = some v → ∃ t, ts[i]? = some t ∧ TgV p H v t
  | _, _, .cons h _, 0, _, e => by
    have e' := Option.some.inj e
    subst e'
    exact ⟨_, rfl, h⟩
  | _, _, .cons _ t, i + 1, _, e => TgA.get t (by simpa using e)
theorem TgA.app {p : Addr} {H : Hp} : ∀ {vs us : List V} {ts rs : List Th}, TgA p H vs ts → TgA p H us rs → TgA p H (vs ++ us) (ts ++ rs)
  | _, _, _, _, .nil, h => h
  | _, _, _, _, .cons a t, h => .cons a (TgA.app t h)
theorem TgA.take {p : Addr} {H : Hp} : ∀ {vs : List V} {ts : List Th}, TgA p H vs ts → ∀ n, TgA p H (vs.take n) (ts.take n)
  | _, _, .nil, n => by simp; exact .nil
  | _, _, .cons a t, 0 => .nil
  | _, _, .cons a t, n + 1 => .cons a (TgA.take t n)
theorem TgA.drop {p : Addr} {H : Hp} : ∀ {vs : List V} {ts : List Th}, TgA p H vs ts → ∀ n, TgA p H (vs.drop n) (ts.drop n)
  | _, _, .nil, n => by simp; exact .nil
  | _, _, .cons a t, 0 => .cons a t
  | _, _, .cons a t, n + 1 => TgA.drop t n
def Th.isInt : Th → Bool
  | .int _ => true
  | _ => false
def Th.isTup : Th → Bool
  | .tup _ => true
  | _ => false
def Th.isStr : Th → Bool
  | .str _ => true
  | _ => false
def Th.okStr : Th → Bool
  | .str x => okS x
  | _ => false
def wn (lo hi : Int) : Th → Bool
  | .int i => decide (lo ≤ i) && decide (i ≤ hi)
  | _ => false
def hd (w : Str) (n : Nat) : Th → Bool
  | .tup (.str x :: r) => decide (r.length + 1 = n) && decide (x = w)
  | _ => false
def arg (i : Nat) : Th → Th
  | .tup l => (l[i]?).getD .non
  | _ => .non
def hg : Th → Bool
  | .tup (.lst _ :: _) => false
  | .tup (.dct :: _) => false
  | .tup (.tup l :: r) => r.isEmpty || l.all Th.okStr
  | _ => true
def hg1 : Th → Bool
  | .tup [.tup _] => false
  | _ => true
def selOk (t : Th) : Bool := if hd "is" 2 t then wn 0 3 (arg 1 t) else hd "by" 2 t && wn 0 2 (arg 1 t)
def srcOk (t : Th) : Bool := if hd "in" 2 t then wn 0 7 (arg 1 t) else if hd "number" 2 t then wn 0 16777215 (arg 1 t) else hd "field" 2 t && wn 0 2 (arg 1 t)
def opsL : List Str := ["+", "-", "&", "|", "^", "<<", ">>", "<", "="]
def opOk : Th → Bool
  | .str x => opsL.contains x
  | _ => false
def stepOk (t : Th) : Bool :=
  if hd "get" 3 t || hd "ask" 3 t then wn 0 7 (arg 1 t) && selOk (arg 2 t)
  else if hd "cell" 3 t then wn 0 7 (arg 1 t) && srcOk (arg 2 t)
  else if hd "two" 5 t then wn 0 7 (arg 1 t) && (opOk (arg 2 t) && (srcOk (arg 3 t) && srcOk (arg 4 t)))
  else if hd "put" 3 t || hd "tell" 3 t then selOk (arg 1 t) && srcOk (arg 2 t)
  else hd "store" 3 t && (srcOk (arg 1 t) && srcOk (arg 2 t))
inductive Kd
  | whole | non | text | list | tuple | dict
def Kd.nm : Kd → String
  | .whole => "int"
  | .non => "NoneType"
  | .text => "str"
  | .list => "list"
  | .tuple => "tuple"
  | .dict => "dict"
def kd : Th → Kd
  | .non => .non
  | .int _ => .whole
  | .str _ => .text
  | .tup _ => .tuple
  | .lst _ => .list
  | .dct => .dict
theorem TgV.ty {K : PySem.W.Frag} {p : Addr} {H : Hp} {v : V} {t : Th} (h : TgV p H v t) : TyOf K H v (.type (kd t).nm) := by
  cases h with
  | non => exact .non
  | int i => exact .int i
  | str x => exact .str x
  | tup e _ => exact .tup e
  | lst _ e _ => exact .lst e
  | dct _ e => exact .dK e
theorem kit_int {K : PySem.W.Frag} (t : Th) : PySem.W.kitOne K (.type (kd t).nm) (.type "int") = some t.isInt := by cases t <;> rfl
theorem kit_bool {K : PySem.W.Frag} (t : Th) : PySem.W.kitOne K (.type (kd t).nm) (.type "bool") = some false := by cases t <;> rfl
theorem kit_tup {K : PySem.W.Frag} (t : Th) : PySem.W.kitOne K (.type (kd t).nm) (.type "tuple") = some t.isTup := by cases t <;> rfl
theorem kit_str {K : PySem.W.Frag} (t : Th) : PySem.W.kitOne K (.type (kd t).nm) (.type "str") = some t.isStr := by cases t <;> rfl
structure Cst (K : PySem.W.Frag) (mg : Str → Option Value) (w : World) (aO : Addr) (t1 t2 t3 t4 t5 t6 : Tok) (fs : Str → V) : Prop where
  inner : mg "HIGHEST_INNER" = some (.int 7 t1)
  word : mg "HIGHEST_WORD" = some (.int 16777215 t2)
  field : mg "HIGHEST_FIELD" = some (.int 2 t3)
  sel : mg "HIGHEST_SELECTED" = some (.int 3 t4)
  addr : mg "HIGHEST_ADDRESS" = some (.int 399 t5)
  steps : mg "MOST_STEPS" = some (.int 16 t6)
  ops : mg "OPS" = some (.ref aO)
  dict : TopDict w K aO (opsL.map fun x => (x, fs x))
  lo : (aO == sysModules) = false
def spWhole : Sp := fun vs H Q _ => ∃ (p : Addr) (v : V) (t : Th), vs = [v] ∧ TgV p H v t ∧ Q (.bl t.isInt) H
def spWithin : Sp := fun vs H Q _ => ∃ (p : Addr) (v : V) (t : Th) (lo hi : Int), vs = [v, .int lo, .int hi] ∧ TgV p H v t ∧ Q (.bl (wn lo hi t)) H
def spTo (hi : Int) : Sp := fun vs H Q _ => ∃ (p : Addr) (v : V) (t : Th), vs = [v] ∧ TgV p H v t ∧ Q (.bl (wn 0 hi t)) H
def spOps : Sp := fun vs H Q _ => vs = [] ∧ ∀ p, H p = none → Q (.ref p) (upd H p (.lst (opsL.map V.str)))
def spHeaded : Sp := fun vs H Q _ => ∃ (p : Addr) (v : V) (t : Th) (w : Str) (m : Nat), vs = [v, .str w, .int m] ∧ TgV p H v t ∧ hg t = true ∧ (m = 1 → hg1 t = true) ∧ 0 < m ∧ okS w = true ∧ Q (.bl (hd w m t)) H
def spAsk (ok : Th → Bool) (gd : Th → Prop) : Sp := fun vs H Q _ => ∃ (p : Addr) (v : V) (t : Th), vs = [v] ∧ TgV p H v t ∧ gd t ∧ ∀ H', Same H H' → Q (.bl (ok t)) H'
theorem dint (a b : Int) : decide (V.int a = V.int b) = decide (a = b) := by
  by_cases h : a = b
  · subst h; simp
  · have : ¬ V.int a = V.int b := fun z => h (by injection z)
    simp [h, this]
theorem dstr (a b : Str) : decide (V.str a = V.str b) = decide (a = b) := by
  by_cases h : a = b
  · subst h; simp
  · have : ¬ V.str a = V.str b := fun z => h (by injection z)
    simp [h, this]
theorem at0 (x : V) (ys : List V) : atI (x :: ys) 0 = some x := atI_nat (j := 0) rfl
section
variable {P : Program} {w : World} {K : PySem.W.Frag} {mg : Str → Option Value} {base : Heap} {aO : Addr} {t1 t2 t3 t4 t5 t6 : Tok} {fs : Str → V}
theorem scWhole : FnScope ["thing"] ["thing"] (defScope sWhole) := ⟨rfl, rfl, rfl, by decide +kernel, rfl, by decide +kernel, by decide +kernel⟩
theorem ok_whole {f : Addr} {fd : FuncData} (F : Fun K "is_whole" "is_whole" sWhole f fd) (T : Bl mg) : FnOk P w K mg base CX0 1 f fd ["thing"] spWhole := by
  refine F.ok scWhole (fun vs H Q E h => ?_) (fun cdv A outer s H vs Q E hr h => ?_)
  · obtain ⟨p, v, t, rfl, _⟩ := h
    rfl
  · obtain ⟨p, v, t, rfl, tv, q⟩ := h
    refine ⟨_, pss_one (ps_ret (pe_and (pe_callB (isi_ty (T := "int")) (by rfl) T.isinstance boot_isi (pa_cons (pv 0) (pa_cons (pe_ty (by rfl) T.int PyProof.Rows.boot_int) pa_nil))) (pe_one (pe_not (pe_callB (isi_ty (T := "bool")) (by rfl) T.isinstance boot_isi (pa_cons (pv 0) (pa_cons (pe_ty (by rfl) T.bool boot_bool') pa_nil))))))), ?_⟩
    refine ⟨_, rfl, v, _, _, rfl, tv.ty, kit_int t, _, rfl, ?_⟩
    cases hi : t.isInt with
    | true => rw [hi] at q; exact iteT ⟨_, rfl, v, _, _, rfl, tv.ty, kit_bool t, _, rfl, q⟩
    | false => rw [hi] at q; exact iteF q
theorem scWithin : FnScope ["thing", "low", "high"] ["thing", "low", "high"] (defScope sWithin) := ⟨rfl, rfl, rfl, by decide +kernel, rfl, by decide +kernel, by decide +kernel⟩
theorem ok_within {f : Addr} {fd : FuncData} (F : Fun K "is_within" "is_within" sWithin f fd) (WH : Fn P w K mg base "is_whole" 1 ["thing"] spWhole) : FnOk P w K mg base CX0 2 f fd ["thing", "low", "high"] spWithin := by
  refine F.ok scWithin (fun vs H Q E h => ?_) (fun cdv A outer s H vs Q E hr h => ?_)
  · obtain ⟨p, v, t, lo, hi, rfl, _⟩ := h
    rfl
  · obtain ⟨p, v, t, lo, hi, rfl, tv, q⟩ := h
    refine ⟨_, pss_one (ps_ret (pe_and (pe_fn WH hr rfl (pa_cons (pv 0) pa_nil)) (pe_one (pe_chain op_le op_le (pv 1) (pv 0) (pv 2))))), ?_⟩
    refine ⟨_, rfl, p, v, t, rfl, tv, _, rfl, ?_⟩
    cases tv with
    | int i =>
      refine iteT ⟨_, rfl, _, rfl, _, _, rfl, rfl, _, rfl, ite2 (fun h => ?_) (fun h => ?_)⟩
      · refine ⟨_, rfl, _, _, rfl, rfl, ?_⟩
        have h' : decide (lo ≤ i) = true := h
        have q' : Q (.bl (decide (lo ≤ i) && decide (i ≤ hi))) H := q
        rw [h', Bool.true_and] at q'
        exact q'
      · have h' : decide (lo ≤ i) = false := Bool.eq_false_iff.mpr h
        have q' : Q (.bl (decide (lo ≤ i) && decide (i ≤ hi))) H := q
        rw [h', Bool.false_and] at q'
        exact q'
    | non => exact iteF q
    | str x => exact iteF q
    | tup a b => exact iteF q
    | lst a b c => exact iteF q
    | dct a b => exact iteF q
theorem scOps : FnScope [] [] (defScope sOps) := ⟨rfl, rfl, rfl, by decide +kernel, rfl, by decide +kernel, by decide +kernel⟩
theorem ok_ops {f : Addr} {fd : FuncData} (F : Fun K "ops_told" "ops_told" sOps f fd) (T : Bl mg) (C : Cst K mg w aO t1 t2 t3 t4 t5 t6 fs) : FnOk P w K mg base CX0 1 f fd [] spOps := by
  refine F.ok scOps (fun vs H Q E h => ?_) (fun cdv A outer s H vs Q E hr h => ?_)
  · obtain ⟨rfl, _⟩ := h
    rfl
  · obtain ⟨rfl, q⟩ := h
    refine ⟨_, pss_one (ps_ret (pe_callTy (call_list_top rfl) (by rfl) T.list boot_list' (pa_cons (pe_glob (v := .ref aO) rfl C.ops rfl) pa_nil))), ?_⟩
    exact ⟨aO, _, rfl, C.dict, (show opsL.Nodup from by decide +kernel), C.lo, (by show 9 ≤ 1000; decide), fun p hp => q p hp⟩
theorem scHeaded : FnScope ["thing", "word", "many"] ["thing", "word", "many"] (defScope sHeaded) := ⟨rfl, rfl, rfl, by decide +kernel, rfl, by decide +kernel, by decide +kernel⟩
theorem strs_dt {p : Addr} {H : Hp} : ∀ {xs : List V} {ts : List Th}, TgA p H xs ts → ts.all Th.okStr = true → ∃ ss : List Str, DtAll K H xs (ss.map PyData.str) ∧ PyData.canLayAll0 (ss.map PyData.str) = true
  | _, _, .nil, _ => ⟨[], .nil, rfl⟩
  | _, _, .cons (t := t) a b, h => by
    rw [List.all_cons, Bool.and_eq_true] at h
    obtain ⟨ss, d, l⟩ := strs_dt b h.2
    cases a with
    | str x => exact ⟨x :: ss, .cons (.str x) d, by simp only [List.map_cons, PyData.canLayAll0, l, Bool.and_true]; exact h.1⟩
    | non => cases h.1
    | int i => cases h.1
    | tup _ _ => cases h.1
    | lst _ _ _ => cases h.1
    | dct _ _ => cases h.1
theorem hd_len {w : Str} {m : Nat} {ts : List Th} (h : ts.length ≠ m) : hd w m (.tup ts) = false := by
  match ts with
  | [] => rfl
  | .str x :: r =>
    show (decide (r.length + 1 = m) && decide (x = w)) = false
    rw [decide_eq_false (by simpa using h)]
    rfl
  | .non :: r => rfl
  | .int _ :: r => rfl
  | .tup _ :: r => rfl
  | .lst _ :: r => rfl
  | .dct :: r => rfl
theorem ok_headed {f : Addr} {fd : FuncData} (F : Fun K "is_headed" "is_headed" sHeaded f fd) (T : Bl mg) : FnOk P w K mg base CX0 1 f fd ["thing", "word", "many"] spHeaded := by
  refine F.ok scHeaded (fun vs H Q E h => ?_) (fun cdv A outer s H vs Q E hr h => ?_)
  · obtain ⟨p, v, t, w, m, rfl, _⟩ := h
    rfl
  · obtain ⟨p, v, t, w, m, rfl, tv, hgt, hg1t, hm, hw, q⟩ := h
    refine ⟨_, pss_one (ps_ret (pe_and (pe_callB (isi_ty (T := "tuple")) (by rfl) T.isinstance boot_isi (pa_cons (pv 0) (pa_cons (pe_ty (by rfl) T.tuple boot_tuple') pa_nil)))
      (pe_and (pe_cmpR op_eq (pe_callB call_len_seq (by rfl) T.len PySem.boot_len (pa_cons (pv 0) pa_nil)) (pv 2) (nomark _)) (pe_one (pe_cmpR (op_either op_eq (op_eqD hr)) (pe_ix ix_tup (pv 0) pe_int (fun _ _ => rfl)) (pv 1) (nomark _)))))), ?_⟩
    refine ⟨_, rfl, v, _, _, rfl, tv.ty, kit_tup t, _, rfl, ?_⟩
    cases tv with
    | non => exact iteF q
    | int i => exact iteF q
    | str x => exact iteF q
    | lst a b c => exact iteF q
    | dct a b => exact iteF q
    | @tup a xs ts e ta =>
      have hl := ta.length
      refine iteT ⟨_, rfl, a, _, rfl, .inr (SqT.of e), _, rfl, rfl, _, rfl, ?_⟩
      rw [dint]
      by_cases hlm : ts.length = m
      · have e1 : decide ((xs.length : Int) = (m : Int)) = true := decide_eq_true (by lia)
        rw [e1]
        refine iteT ?_
        match xs, ts, ta, hl, hlm, e, hgt, hg1t, q with
        | [], [], _, _, hlm, _, _, _, _ => exact absurd hlm (by simp; lia)
        | x :: xr, t0 :: tr, .cons a0 ar, hl, hlm, e, hgt, hg1t, q =>
          refine ⟨_, rfl, a, _, _, _, rfl, rfl, SqT.of e, at0 _ _, _, rfl, ?_⟩
          cases a0 with
          | non => exact .inl ⟨rfl, q⟩
          | int i => exact .inl ⟨rfl, q⟩
          | str x =>
            refine .inl ⟨rfl, ?_⟩
            rw [dstr]
            have q' : Q (.bl (decide (tr.length + 1 = m) && decide (x = w))) H := q
            rw [decide_eq_true (by simpa using hlm), Bool.true_and] at q'
            exact q'
          | lst _ _ _ => cases hgt
          | dct _ _ => cases hgt
          | @tup b ys us eb ub =>
            have hgu : us.all Th.okStr = true := by
              have hgt' : (tr.isEmpty || us.all Th.okStr) = true := hgt
              cases tr with
              | nil => exact absurd (hg1t (by simpa using hlm.symm)) (by show ¬ (false = true); decide)
              | cons _ _ => exact hgt'
            obtain ⟨ss, d, l⟩ := strs_dt (K := K) ub hgu
            have dd : Dt K H (.ref b) (.tuple (ss.map .str)) := .tup (SqT.of eb) d
            refine .inr ⟨_, .str w, dd, .str w, ?_, ?_, ?_, ?_⟩
            · exact l
            · exact hw
            · exact Nat.le_trans (Nat.min_le_right _ _) (by simp [PyData.depth])
            · exact q
      · have e1 : decide ((xs.length : Int) = (m : Int)) = false := decide_eq_false (by lia)
        rw [e1]
        rw [hd_len hlm] at q
        exact iteF q
theorem scInner : FnScope ["thing"] ["thing"] (defScope sInner) := ⟨rfl, rfl, rfl, by decide +kernel, rfl, by decide +kernel, by decide +kernel⟩
theorem ok_inner {f : Addr} {fd : FuncData} (F : Fun K "is_inner" "is_inner" sInner f fd) (C : Cst K mg w aO t1 t2 t3 t4 t5 t6 fs) (WI : Fn P w K mg base "is_within" 2 ["thing", "low", "high"] spWithin) : FnOk P w K mg base CX0 3 f fd ["thing"] (spTo 7) := by
  refine F.ok scInner (fun vs H Q E h => ?_) (fun cdv A outer s H vs Q E hr h => ?_)
  · obtain ⟨p, v, t, rfl, _⟩ := h
    rfl
  · obtain ⟨p, v, t, rfl, tv, q⟩ := h
    refine ⟨_, pss_one (ps_ret (pe_fn WI hr rfl (pa_cons (pv 0) (pa_cons pe_int (pa_cons (pe_glob (v := .int 7) rfl C.inner ⟨_, rfl⟩) pa_nil))))), ?_⟩
    exact ⟨_, rfl, p, v, t, 0, 7, rfl, tv, q⟩
theorem scField : FnScope ["thing"] ["thing"] (defScope sField) := ⟨rfl, rfl, rfl, by decide +kernel, rfl, by decide +kernel, by decide +kernel⟩
theorem ok_field {f : Addr} {fd : FuncData} (F : Fun K "is_field" "is_field" sField f fd) (C : Cst K mg w aO t1 t2 t3 t4 t5 t6 fs) (WI : Fn P w K mg base "is_within" 2 ["thing", "low", "high"] spWithin) : FnOk P w K mg base CX0 3 f fd ["thing"] (spTo 2) := by
  refine F.ok scField (fun vs H Q E h => ?_) (fun cdv A outer s H vs Q E hr h => ?_)
  · obtain ⟨p, v, t, rfl, _⟩ := h
    rfl
  · obtain ⟨p, v, t, rfl, tv, q⟩ := h
    refine ⟨_, pss_one (ps_ret (pe_fn WI hr rfl (pa_cons (pv 0) (pa_cons pe_int (pa_cons (pe_glob (v := .int 2) rfl C.field ⟨_, rfl⟩) pa_nil))))), ?_⟩
    exact ⟨_, rfl, p, v, t, 0, 2, rfl, tv, q⟩
theorem scAddr : FnScope ["thing"] ["thing"] (defScope sAddr) := ⟨rfl, rfl, rfl, by decide +kernel, rfl, by decide +kernel, by decide +kernel⟩
theorem ok_addr {f : Addr} {fd : FuncData} (F : Fun K "is_address" "is_address" sAddr f fd) (C : Cst K mg w aO t1 t2 t3 t4 t5 t6 fs) (WI : Fn P w K mg base "is_within" 2 ["thing", "low", "high"] spWithin) : FnOk P w K mg base CX0 3 f fd ["thing"] (spTo 399) := by
  refine F.ok scAddr (fun vs H Q E h => ?_) (fun cdv A outer s H vs Q E hr h => ?_)
  · obtain ⟨p, v, t, rfl, _⟩ := h
    rfl
  · obtain ⟨p, v, t, rfl, tv, q⟩ := h
    refine ⟨_, pss_one (ps_ret (pe_fn WI hr rfl (pa_cons (pv 0) (pa_cons pe_int (pa_cons (pe_glob (v := .int 399) rfl C.addr ⟨_, rfl⟩) pa_nil))))), ?_⟩
    exact ⟨_, rfl, p, v, t, 0, 399, rfl, tv, q⟩
end
end L3
namespace L3
open PySem L2
theorem hd_arg {p : Addr} {H : Hp} {v : V} {t : Th} {w : Str} {n : Nat} (tv : TgV p H v t) (h : hd w n t = true) : ∃ (a : Addr) (xs : List V), v = .ref a ∧ H a = some (.tup xs) ∧ ∀ i, i < n → ∃ u, xs[i]? = some u ∧ TgV p H u (arg i t) := by
  cases tv with
  | non => cases h
  | int i => cases h
  | str x => cases h
  | lst a b c => cases h
  | dct a b => cases h
  | @tup a xs ts e ta =>
    refine ⟨a, xs, rfl, e, fun i hi => ?_⟩
    have hl : ts.length = n := by
      by_cases q : ts.length = n
      · exact q
      · rw [hd_len q] at h; cases h
    have hil : i < xs.length := by rw [ta.length]; lia
    have hx : xs[i]? = some xs[i] := List.getElem?_eq_getElem hil
    obtain ⟨u, eu, tu⟩ := ta.get hx
    exact ⟨_, hx, by show TgV p H _ ((ts[i]?).getD .non); rw [eu]; exact tu⟩
theorem inV_str (x : Str) : ∀ l : List Str, inV (.str x) (l.map V.str) = l.contains x
  | [] => rfl
  | y :: l => by
    have ih := inV_str x l
    unfold inV at ih ⊢
    rw [List.map_cons, List.any_cons, ih, List.contains_cons]
    congr 1
    show decide (y = x) = (x == y)
    by_cases h : y = x
    · subst h; simp
    · have : (x == y) = false := by simpa using Ne.symm h
      rw [this, decide_eq_false h]
def HgA (t : Th) : Prop := hg t = true ∧ ∀ i, hg (arg i t) = true
theorem op_thing {K : PySem.W.Frag} {p l : Addr} {H : Hp} {u : V} {t : Th} {Q : VK} (tu : TgV p H u t) (el : H l = some (.lst (opsL.map V.str))) (q : Q (.bl (opOk t)) H) : rOr (rIn K false) (rInR K) u (.ref l) H Q := by
  cases tu with
  | non => exact .inl ⟨l, _, rfl, .inl (SqL.of el), rfl, by decide +kernel, q⟩
  | int i => exact .inl ⟨l, _, rfl, .inl (SqL.of el), rfl, by decide +kernel, q⟩
  | str x =>
    refine .inl ⟨l, _, rfl, .inl (SqL.of el), rfl, by decide +kernel, ?_⟩
    have : inV (.str x) (opsL.map V.str) = opsL.contains x := inV_str x opsL
    have q' : Q (.bl (opsL.contains x)) H := q
    rw [← this] at q'
    exact q'
  | tup e _ => exact .inr ⟨_, l, opsL, rfl, rfl, .inr (.inl ⟨_, SqT.of e⟩), .inl (SqL.of el), q⟩
  | lst _ e _ => exact .inr ⟨_, l, opsL, rfl, rfl, .inl ⟨_, SqL.of e⟩, .inl (SqL.of el), q⟩
  | dct _ e => exact .inr ⟨_, l, opsL, rfl, rfl, .inr (.inr ⟨_, e⟩), .inl (SqL.of el), q⟩
def spQ (ok : Th → Bool) : Sp := fun vs H Q _ => ∃ (p : Addr) (v : V) (t : Th), vs = [v] ∧ TgV p H v t ∧ hg t = true ∧ Q (.bl (ok t)) H
section
variable {P : Program} {w : World} {K : PySem.W.Frag} {mg : Str → Option Value} {base : Heap} {aO : Addr} {t1 t2 t3 t4 t5 t6 : Tok} {fs : Str → V}
theorem scSel : FnScope ["thing"] ["thing"] (defScope sSel) := ⟨rfl, rfl, rfl, by decide +kernel, rfl, by decide +kernel, by decide +kernel⟩
theorem ok_sel {f : Addr} {fd : FuncData} (F : Fun K "is_sel" "is_sel" sSel f fd) (C : Cst K mg w aO t1 t2 t3 t4 t5 t6 fs) (WI : Fn P w K mg base "is_within" 2 ["thing", "low", "high"] spWithin) (HD : Fn P w K mg base "is_headed" 1 ["thing", "word", "many"] spHeaded) (FI : Fn P w K mg base "is_field" 3 ["thing"] (spTo 2)) :
    FnOk P w K mg base CX0 4 f fd ["thing"] (spQ selOk) := by
  refine F.ok scSel (fun vs H Q E h => ?_) (fun cdv A outer s H vs Q E hr h => ?_)
  · obtain ⟨p, v, t, rfl, _⟩ := h
    rfl
  · obtain ⟨p, v, t, rfl, tv, hgt, q⟩ := h
    have hr1 : Room 1 _ := hr.mono (by decide)
    have hr2 : Room 2 _ := hr.mono (by decide)
    refine ⟨_, pss_cons (ps_if (pt_val (pe_fn HD hr1 rfl (pa_cons (pv 0) (pa_cons pe_str (pa_cons pe_int pa_nil))))) (pss_one (ps_ret (pe_fn WI hr2 rfl (pa_cons (pe_ix ix_tup (pv 0) pe_int (fun _ _ => rfl)) (pa_cons pe_int (pa_cons (pe_glob (v := .int 3) rfl C.sel ⟨_, rfl⟩) pa_nil)))))) pss_nil)
      (pss_one (ps_ret (pe_and (pe_fn HD hr1 rfl (pa_cons (pv 0) (pa_cons pe_str (pa_cons pe_int pa_nil)))) (pe_one (pe_fn FI hr rfl (pa_cons (pe_ix ix_tup (pv 0) pe_int (fun _ _ => rfl)) pa_nil)))))), ?_⟩
    have fin : ∀ b, selOk t = b → Q (.bl b) H := fun b e => e ▸ q
    refine ⟨_, rfl, p, v, t, "is", 2, rfl, tv, hgt, fun z => absurd z (by decide), by decide, by decide +kernel, _, rfl, ite2 (fun h1 => ?_) (fun h1 => ?_)⟩
    · obtain ⟨a, xs, rfl, e, ag⟩ := hd_arg tv h1
      obtain ⟨u1, e1, ta⟩ := ag 1 (by decide)
      exact ⟨_, rfl, a, _, _, _, rfl, rfl, SqT.of e, atI_nat (j := 1) e1, p, u1, _, 0, 3, rfl, ta, fin _ (by unfold selOk; rw [if_pos h1])⟩
    · refine ⟨_, rfl, p, v, t, "by", 2, rfl, tv, hgt, fun z => absurd z (by decide), by decide, by decide +kernel, _, rfl, ite2 (fun h2 => ?_) (fun h2 => ?_)⟩
      · obtain ⟨a, xs, rfl, e, ag⟩ := hd_arg tv h2
        obtain ⟨u1, e1, ta⟩ := ag 1 (by decide)
        exact ⟨_, rfl, a, _, _, _, rfl, rfl, SqT.of e, atI_nat (j := 1) e1, p, u1, _, rfl, ta, fin _ (by unfold selOk; rw [if_neg h1, h2, Bool.true_and])⟩
      · exact fin _ (by unfold selOk; rw [if_neg h1, Bool.eq_false_iff.mpr h2, Bool.false_and])
theorem scSource : FnScope ["thing"] ["thing"] (defScope sSource) := ⟨rfl, rfl, rfl, by decide +kernel, rfl, by decide +kernel, by decide +kernel⟩
theorem ok_source {f : Addr} {fd : FuncData} (F : Fun K "is_source" "is_source" sSource f fd) (C : Cst K mg w aO t1 t2 t3 t4 t5 t6 fs) (WI : Fn P w K mg base "is_within" 2 ["thing", "low", "high"] spWithin) (HD : Fn P w K mg base "is_headed" 1 ["thing", "word", "many"] spHeaded) (FI : Fn P w K mg base "is_field" 3 ["thing"] (spTo 2)) (IN : Fn P w K mg base "is_inner" 3 ["thing"] (spTo 7)) :
    FnOk P w K mg base CX0 4 f fd ["thing"] (spQ srcOk) := by
  refine F.ok scSource (fun vs H Q E h => ?_) (fun cdv A outer s H vs Q E hr h => ?_)
  · obtain ⟨p, v, t, rfl, _⟩ := h
    rfl
  · obtain ⟨p, v, t, rfl, tv, hgt, q⟩ := h
    have hr1 : Room 1 _ := hr.mono (by decide)
    have hr2 : Room 2 _ := hr.mono (by decide)
    refine ⟨_, pss_cons (ps_if (pt_val (pe_fn HD hr1 rfl (pa_cons (pv 0) (pa_cons pe_str (pa_cons pe_int pa_nil))))) (pss_one (ps_ret (pe_fn IN hr rfl (pa_cons (pe_ix ix_tup (pv 0) pe_int (fun _ _ => rfl)) pa_nil)))) pss_nil)
      (pss_cons (ps_if (pt_val (pe_fn HD hr1 rfl (pa_cons (pv 0) (pa_cons pe_str (pa_cons pe_int pa_nil))))) (pss_one (ps_ret (pe_fn WI hr2 rfl (pa_cons (pe_ix ix_tup (pv 0) pe_int (fun _ _ => rfl)) (pa_cons pe_int (pa_cons (pe_glob (v := .int 16777215) rfl C.word ⟨_, rfl⟩) pa_nil)))))) pss_nil)
      (pss_one (ps_ret (pe_and (pe_fn HD hr1 rfl (pa_cons (pv 0) (pa_cons pe_str (pa_cons pe_int pa_nil)))) (pe_one (pe_fn FI hr rfl (pa_cons (pe_ix ix_tup (pv 0) pe_int (fun _ _ => rfl)) pa_nil))))))), ?_⟩
    have fin : ∀ b, srcOk t = b → Q (.bl b) H := fun b e => e ▸ q
    refine ⟨_, rfl, p, v, t, "in", 2, rfl, tv, hgt, fun z => absurd z (by decide), by decide, by decide +kernel, _, rfl, ite2 (fun h1 => ?_) (fun h1 => ?_)⟩
    · obtain ⟨a, xs, rfl, e, ag⟩ := hd_arg tv h1
      obtain ⟨u1, e1, ta⟩ := ag 1 (by decide)
      exact ⟨_, rfl, a, _, _, _, rfl, rfl, SqT.of e, atI_nat (j := 1) e1, p, u1, _, rfl, ta, fin _ (by unfold srcOk; rw [if_pos h1])⟩
    · refine ⟨_, rfl, p, v, t, "number", 2, rfl, tv, hgt, fun z => absurd z (by decide), by decide, by decide +kernel, _, rfl, ite2 (fun h2 => ?_) (fun h2 => ?_)⟩
      · obtain ⟨a, xs, rfl, e, ag⟩ := hd_arg tv h2
        obtain ⟨u1, e1, ta⟩ := ag 1 (by decide)
        exact ⟨_, rfl, a, _, _, _, rfl, rfl, SqT.of e, atI_nat (j := 1) e1, p, u1, _, 0, 16777215, rfl, ta, fin _ (by unfold srcOk; rw [if_neg h1, if_pos h2])⟩
      · refine ⟨_, rfl, p, v, t, "field", 2, rfl, tv, hgt, fun z => absurd z (by decide), by decide, by decide +kernel, _, rfl, ite2 (fun h3 => ?_) (fun h3 => ?_)⟩
        · obtain ⟨a, xs, rfl, e, ag⟩ := hd_arg tv h3
          obtain ⟨u1, e1, ta⟩ := ag 1 (by decide)
          exact ⟨_, rfl, a, _, _, _, rfl, rfl, SqT.of e, atI_nat (j := 1) e1, p, u1, _, rfl, ta, fin _ (by unfold srcOk; rw [if_neg h1, if_neg h2, h3, Bool.true_and])⟩
        · exact fin _ (by unfold srcOk; rw [if_neg h1, if_neg h2, Bool.eq_false_iff.mpr h3, Bool.false_and])
theorem scIsStep : FnScope ["thing"] ["thing"] (defScope sIsStep) := ⟨rfl, rfl, rfl, by decide +kernel, rfl, by decide +kernel, by decide +kernel⟩
set_option maxHeartbeats 4000000 in
theorem ok_isStep {f : Addr} {fd : FuncData} (F : Fun K "is_step" "is_step" sIsStep f fd) (HD : Fn P w K mg base "is_headed" 1 ["thing", "word", "many"] spHeaded) (IN : Fn P w K mg base "is_inner" 3 ["thing"] (spTo 7)) (SE : Fn P w K mg base "is_sel" 4 ["thing"] (spQ selOk)) (SO : Fn P w K mg base "is_source" 4 ["thing"] (spQ srcOk)) (OP : Fn P w K mg base "ops_told" 1 [] spOps) :
    FnOk P w K mg base CX0 5 f fd ["thing"] (spAsk stepOk HgA) := by
  refine F.ok scIsStep (fun vs H Q E h => ?_) (fun cdv A outer s H vs Q E hr h => ?_)
  · obtain ⟨p, v, t, rfl, _⟩ := h
    rfl
  · obtain ⟨p, v, t, rfl, tv, ⟨hgt, hga⟩, q⟩ := h
    have hr1 : Room 1 _ := hr.mono (by decide)
    have hr3 : Room 3 _ := hr.mono (by decide)
    refine ⟨_, pss_cons (ps_if (PW.pt (pw_or (pt_val (pe_fn HD hr1 rfl (pa_cons (pv 0) (pa_cons pe_str (pa_cons pe_int pa_nil))))) (pw_or1 (pt_val (pe_fn HD hr1 rfl (pa_cons (pv 0) (pa_cons pe_str (pa_cons pe_int pa_nil)))))))) (pss_one (ps_ret (pe_and (pe_fn IN hr3 rfl (pa_cons (pe_ix ix_tup (pv 0) pe_int (fun _ _ => rfl)) pa_nil)) (pe_one (pe_fn SE hr rfl (pa_cons (pe_ix ix_tup (pv 0) pe_int (fun _ _ => rfl)) pa_nil)))))) pss_nil)
      (pss_cons (ps_if (pt_val (pe_fn HD hr1 rfl (pa_cons (pv 0) (pa_cons pe_str (pa_cons pe_int pa_nil))))) (pss_one (ps_ret (pe_and (pe_fn IN hr3 rfl (pa_cons (pe_ix ix_tup (pv 0) pe_int (fun _ _ => rfl)) pa_nil)) (pe_one (pe_fn SO hr rfl (pa_cons (pe_ix ix_tup (pv 0) pe_int (fun _ _ => rfl)) pa_nil)))))) pss_nil)
      (pss_cons (ps_if (pt_val (pe_fn HD hr1 rfl (pa_cons (pv 0) (pa_cons pe_str (pa_cons pe_int pa_nil))))) (pss_one (ps_ret (pe_and (pe_fn IN hr3 rfl (pa_cons (pe_ix ix_tup (pv 0) pe_int (fun _ _ => rfl)) pa_nil)) (pe_and (pe_cmpR (op_either op_in_seq (op_inR hr)) (pe_ix ix_tup (pv 0) pe_int (fun _ _ => rfl)) (pe_fn0 OP hr1 rfl) rfl) (pe_and (pe_fn SO hr rfl (pa_cons (pe_ix ix_tup (pv 0) pe_int (fun _ _ => rfl)) pa_nil)) (pe_one (pe_fn SO hr rfl (pa_cons (pe_ix ix_tup (pv 0) pe_int (fun _ _ => rfl)) pa_nil)))))))) pss_nil)
      (pss_cons (ps_if (PW.pt (pw_or (pt_val (pe_fn HD hr1 rfl (pa_cons (pv 0) (pa_cons pe_str (pa_cons pe_int pa_nil))))) (pw_or1 (pt_val (pe_fn HD hr1 rfl (pa_cons (pv 0) (pa_cons pe_str (pa_cons pe_int pa_nil)))))))) (pss_one (ps_ret (pe_and (pe_fn SE hr rfl (pa_cons (pe_ix ix_tup (pv 0) pe_int (fun _ _ => rfl)) pa_nil)) (pe_one (pe_fn SO hr rfl (pa_cons (pe_ix ix_tup (pv 0) pe_int (fun _ _ => rfl)) pa_nil)))))) pss_nil)
      (pss_one (ps_ret (pe_and (pe_fn HD hr1 rfl (pa_cons (pv 0) (pa_cons pe_str (pa_cons pe_int pa_nil)))) (pe_and (pe_fn SO hr rfl (pa_cons (pe_ix ix_tup (pv 0) pe_int (fun _ _ => rfl)) pa_nil)) (pe_one (pe_fn SO hr rfl (pa_cons (pe_ix ix_tup (pv 0) pe_int (fun _ _ => rfl)) pa_nil)))))))))), ?_⟩
    have fin : ∀ b H', stepOk t = b → Same H H' → Q (.bl b) H' := fun b H' e s => e ▸ q H' s
    refine ⟨_, rfl, p, v, t, "get", 3, rfl, tv, hgt, fun z => absurd z (by decide), by decide, by decide +kernel, _, rfl, ite2 (fun h1 => ?_) (fun h1 => ?_)⟩
    · obtain ⟨a, xs, rfl, e, ag⟩ := hd_arg tv h1
      obtain ⟨u1, e1, t1⟩ := ag 1 (by decide)
      obtain ⟨u2, e2, t2⟩ := ag 2 (by decide)
      have eS : stepOk t = (wn 0 7 (arg 1 t) && (selOk (arg 2 t))) := by unfold stepOk; simp [h1]
      exact ⟨_, rfl, a, _, _, _, rfl, rfl, SqT.of e, atI_nat (j := 1) e1, p, _, _, rfl, t1, _, rfl, ite2 (fun g0 => ⟨_, rfl, a, _, _, _, rfl, rfl, SqT.of e, atI_nat (j := 2) e2, p, _, _, rfl, t2, hga 2, fin _ _ (by rw [eS]; simp [g0]) (Same.refl _)⟩) (fun g0 => fin false _ (by rw [eS]; simp [Bool.eq_false_iff.mpr g0]) (Same.refl _))⟩
    · skip
      refine ⟨_, rfl, p, v, t, "ask", 3, rfl, tv, hgt, fun z => absurd z (by decide), by decide, by decide +kernel, _, rfl, ite2 (fun h2 => ?_) (fun h2 => ?_)⟩
      · obtain ⟨a, xs, rfl, e, ag⟩ := hd_arg tv h2
        obtain ⟨u1, e1, t1⟩ := ag 1 (by decide)
        obtain ⟨u2, e2, t2⟩ := ag 2 (by decide)
        have eS : stepOk t = (wn 0 7 (arg 1 t) && (selOk (arg 2 t))) := by unfold stepOk; simp [h1, h2]
        exact ⟨_, rfl, a, _, _, _, rfl, rfl, SqT.of e, atI_nat (j := 1) e1, p, _, _, rfl, t1, _, rfl, ite2 (fun g0 => ⟨_, rfl, a, _, _, _, rfl, rfl, SqT.of e, atI_nat (j := 2) e2, p, _, _, rfl, t2, hga 2, fin _ _ (by rw [eS]; simp [g0]) (Same.refl _)⟩) (fun g0 => fin false _ (by rw [eS]; simp [Bool.eq_false_iff.mpr g0]) (Same.refl _))⟩
      · skip
        refine ⟨_, rfl, p, v, t, "cell", 3, rfl, tv, hgt, fun z => absurd z (by decide), by decide, by decide +kernel, _, rfl, ite2 (fun h3 => ?_) (fun h3 => ?_)⟩
        · obtain ⟨a, xs, rfl, e, ag⟩ := hd_arg tv h3
          obtain ⟨u1, e1, t1⟩ := ag 1 (by decide)
          obtain ⟨u2, e2, t2⟩ := ag 2 (by decide)
          have eS : stepOk t = (wn 0 7 (arg 1 t) && (srcOk (arg 2 t))) := by unfold stepOk; simp [h1, h2, h3]
          exact ⟨_, rfl, a, _, _, _, rfl, rfl, SqT.of e, atI_nat (j := 1) e1, p, _, _, rfl, t1, _, rfl, ite2 (fun g0 => ⟨_, rfl, a, _, _, _, rfl, rfl, SqT.of e, atI_nat (j := 2) e2, p, _, _, rfl, t2, hga 2, fin _ _ (by rw [eS]; simp [g0]) (Same.refl _)⟩) (fun g0 => fin false _ (by rw [eS]; simp [Bool.eq_false_iff.mpr g0]) (Same.refl _))⟩
        · skip
          refine ⟨_, rfl, p, v, t, "two", 5, rfl, tv, hgt, fun z => absurd z (by decide), by decide, by decide +kernel, _, rfl, ite2 (fun h4 => ?_) (fun h4 => ?_)⟩
          · obtain ⟨a, xs, rfl, e, ag⟩ := hd_arg tv h4
            obtain ⟨u1, e1, t1⟩ := ag 1 (by decide)
            obtain ⟨u2, e2, t2⟩ := ag 2 (by decide)
            obtain ⟨u3, e3, t3⟩ := ag 3 (by decide)
            obtain ⟨u4, e4, t4⟩ := ag 4 (by decide)
            have eS : stepOk t = (wn 0 7 (arg 1 t) && (opOk (arg 2 t) && (srcOk (arg 3 t) && (srcOk (arg 4 t))))) := by unfold stepOk; simp [h1, h2, h3, h4]
            exact ⟨_, rfl, a, _, _, _, rfl, rfl, SqT.of e, atI_nat (j := 1) e1, p, _, _, rfl, t1, _, rfl, ite2 (fun g0 => ⟨_, rfl, a, _, _, _, rfl, rfl, SqT.of e, atI_nat (j := 2) e2, rfl, fun l nl => by
                have s1 := same_new (o := .lst (opsL.map V.str)) nl
                have el : (upd H l (.lst (opsL.map V.str))) l = some (.lst (opsL.map V.str)) := upd_same
                generalize upd H l (.lst (opsL.map V.str)) = H1 at *
                exact op_thing (t2.same s1) el ⟨_, rfl, ite2 (fun g1 => ⟨_, rfl, a, _, _, _, rfl, rfl, SqT.of (s1 _ _ e), atI_nat (j := 3) e3, p, _, _, rfl, t3.same s1, hga 3, _, rfl, ite2 (fun g2 => ⟨_, rfl, a, _, _, _, rfl, rfl, SqT.of (s1 _ _ e), atI_nat (j := 4) e4, p, _, _, rfl, t4.same s1, hga 4, fin _ _ (by rw [eS]; simp [g0, g1, g2]) (s1)⟩) (fun g2 => fin false _ (by rw [eS]; simp [g0, g1, Bool.eq_false_iff.mpr g2]) (s1))⟩) (fun g1 => fin false _ (by rw [eS]; simp [g0, Bool.eq_false_iff.mpr g1]) s1)⟩⟩) (fun g0 => fin false _ (by rw [eS]; simp [Bool.eq_false_iff.mpr g0]) (Same.refl _))⟩
          · skip
            refine ⟨_, rfl, p, v, t, "put", 3, rfl, tv, hgt, fun z => absurd z (by decide), by decide, by decide +kernel, _, rfl, ite2 (fun h5 => ?_) (fun h5 => ?_)⟩
            · obtain ⟨a, xs, rfl, e, ag⟩ := hd_arg tv h5
              obtain ⟨u1, e1, t1⟩ := ag 1 (by decide)
              obtain ⟨u2, e2, t2⟩ := ag 2 (by decide)
              have eS : stepOk t = (selOk (arg 1 t) && (srcOk (arg 2 t))) := by unfold stepOk; simp [h1, h2, h3, h4, h5]
              exact ⟨_, rfl, a, _, _, _, rfl, rfl, SqT.of e, atI_nat (j := 1) e1, p, _, _, rfl, t1, hga 1, _, rfl, ite2 (fun g0 => ⟨_, rfl, a, _, _, _, rfl, rfl, SqT.of e, atI_nat (j := 2) e2, p, _, _, rfl, t2, hga 2, fin _ _ (by rw [eS]; simp [g0]) (Same.refl _)⟩) (fun g0 => fin false _ (by rw [eS]; simp [Bool.eq_false_iff.mpr g0]) (Same.refl _))⟩
            · skip
              refine ⟨_, rfl, p, v, t, "tell", 3, rfl, tv, hgt, fun z => absurd z (by decide), by decide, by decide +kernel, _, rfl, ite2 (fun h6 => ?_) (fun h6 => ?_)⟩
              · obtain ⟨a, xs, rfl, e, ag⟩ := hd_arg tv h6
                obtain ⟨u1, e1, t1⟩ := ag 1 (by decide)
                obtain ⟨u2, e2, t2⟩ := ag 2 (by decide)
                have eS : stepOk t = (selOk (arg 1 t) && (srcOk (arg 2 t))) := by unfold stepOk; simp [h1, h2, h3, h4, h5, h6]
                exact ⟨_, rfl, a, _, _, _, rfl, rfl, SqT.of e, atI_nat (j := 1) e1, p, _, _, rfl, t1, hga 1, _, rfl, ite2 (fun g0 => ⟨_, rfl, a, _, _, _, rfl, rfl, SqT.of e, atI_nat (j := 2) e2, p, _, _, rfl, t2, hga 2, fin _ _ (by rw [eS]; simp [g0]) (Same.refl _)⟩) (fun g0 => fin false _ (by rw [eS]; simp [Bool.eq_false_iff.mpr g0]) (Same.refl _))⟩
              · skip
                refine ⟨_, rfl, p, v, t, "store", 3, rfl, tv, hgt, fun z => absurd z (by decide), by decide, by decide +kernel, _, rfl, ite2 (fun h7 => ?_) (fun h7 => ?_)⟩
                · obtain ⟨a, xs, rfl, e, ag⟩ := hd_arg tv h7
                  obtain ⟨u1, e1, t1⟩ := ag 1 (by decide)
                  obtain ⟨u2, e2, t2⟩ := ag 2 (by decide)
                  have eS : stepOk t = (srcOk (arg 1 t) && (srcOk (arg 2 t))) := by unfold stepOk; simp [h1, h2, h3, h4, h5, h6, h7]
                  exact ⟨_, rfl, a, _, _, _, rfl, rfl, SqT.of e, atI_nat (j := 1) e1, p, _, _, rfl, t1, hga 1, _, rfl, ite2 (fun g0 => ⟨_, rfl, a, _, _, _, rfl, rfl, SqT.of e, atI_nat (j := 2) e2, p, _, _, rfl, t2, hga 2, fin _ _ (by rw [eS]; simp [g0]) (Same.refl _)⟩) (fun g0 => fin false _ (by rw [eS]; simp [Bool.eq_false_iff.mpr g0]) (Same.refl _))⟩
                · skip
                  exact fin false _ (by unfold stepOk; simp [h1, h2, h3, h4, h5, h6, h7]) (Same.refl _)
end
end L3
namespace L3
open PySem L2
def ownS : List Str := ["word", "cells", "depth", "places", "marks", "gate", "kind", "place", "mark", "number", "row", "set", "if", "else", "top", "next", "go", "call", "back", "stop", "fault", "bell"]
def ownV : List V := ownS.map V.str
def letS : Str := "abcdefghijklmnopqrstuvwxyz"
def letL : List Nat := [97, 98, 99, 100, 101, 102, 103, 104, 105, 106, 107, 108, 109, 110, 111, 112, 113, 114, 115, 116, 117, 118, 119, 120, 121, 122]
theorem let_S : letS = S letL := by decide +kernel
theorem let_mem (c : Nat) : c ∈ letL ↔ 97 ≤ c ∧ c ≤ 122 := by
  unfold letL
  simp only [List.mem_cons, List.not_mem_nil, or_false]
  omega
def isOwn (l : List Nat) : Bool := inV (.str (S l)) ownV
def isLet (c : Nat) : Bool := decide (97 ≤ c) && decide (c ≤ 122)
def nameB (l : List Nat) : Bool := !isOwn l && (decide (1 ≤ l.length) && decide (l.length ≤ 8) && l.all isLet)
theorem ownV_flat : ownV.all flatV = true := by decide +kernel
def nameT : Th → Bool
  | .str z => nameB z.cps.toList
  | _ => false
def spName : Sp := fun vs H Q _ => ∃ (p : Addr) (v : V) (t : Th), vs = [v] ∧ TgV p H v t ∧ (∀ z, t = .str z → z.cps.toList.length ≤ 1000) ∧ ∀ H', Same H H' → Q (.bl (nameT t)) H'
structure CstN (K : PySem.W.Frag) (mg : Str → Option Value) (aO : Addr) (tL tN : Tok) : Prop where
  own : mg "OWN_WORDS" = some (.ref aO)
  sq : ∀ H, SqT K H aO ownV
  lets : mg "LETTERS" = some (.str letS tL)
  lng : mg "LONGEST_NAME" = some (.int 8 tN)
def fauS : List Str := ["deep", "bare"]
def notF : Th → Bool
  | .str z => !fauS.contains z
  | _ => false
def endOk (t : Th) : Bool := if hd "go" 2 t || hd "call" 2 t then wn 0 2 (arg 1 t) else if hd "fault" 2 t then nameT (arg 1 t) && notF (arg 1 t) else (hd "next" 1 t || (hd "back" 1 t || hd "stop" 1 t))
def onOk (t : Th) : Bool := if hd "on" 2 t then wn 0 399 (arg 1 t) else if hd "some" 4 t || hd "top" 4 t then wn 0 7 (arg 1 t) && (wn 0 399 (arg 2 t) && wn 0 399 (arg 3 t)) else (hd "done" 2 t && endOk (arg 1 t))
def littleOk : Th → Bool
  | .tup [.tup ss, on] => decide (ss.length ≤ 16) && (ss.all stepOk && onOk on)
  | _ => false
def EndG (t : Th) : Prop := hg t = true ∧ hg1 t = true ∧ ∀ z, arg 1 t = .str z → z.cps.toList.length ≤ 1000
def OnG (t : Th) : Prop := hg t = true ∧ EndG (arg 1 t)
section
variable {P : Program} {w : World} {K : PySem.W.Frag} {mg : Str → Option Value} {base : Heap} {aO : Addr} {t1 t2 t3 t4 t5 t6 : Tok} {fs : Str → V}
theorem scName : FnScope ["thing"] ["thing"] (defScope sName) := ⟨rfl, rfl, rfl, by decide +kernel, rfl, by decide +kernel, by decide +kernel⟩
theorem ndSg : (["sign"] : List Str).Nodup := by decide +kernel
set_option maxHeartbeats 1000000 in
theorem ok_name {f aO : Addr} {fd : FuncData} {tL tN : Tok} (F : Fun K "is_name" "is_name" sName f fd) (T : Bl mg) (C : CstN K mg aO tL tN) : FnOk P w K mg base CX0 1 f fd ["thing"] spName := by
  refine F.ok scName (fun vs H Q E h => ?_) (fun cdv A outer s H vs Q E hr h => ?_)
  · obtain ⟨p, x, t, rfl, _⟩ := h
    rfl
  · obtain ⟨p, x, t, rfl, tv, hz, q⟩ := h
    refine ⟨_, pss_cons (ps_if (PW.pt (pw_or (pt_not (pt_val (pe_callB (isi_ty (T := "str")) (by rfl) T.isinstance boot_isi (pa_cons (pv 0) (pa_cons (pe_ty (by rfl) T.str boot_str') pa_nil)))))
        (pw_or1 (pt_cmpR op_in_seq (pv 0) (pe_glob (v := .ref aO) rfl C.own rfl) rfl)))) (pss_one (ps_ret pe_bl)) pss_nil)
      (pss_one (ps_ret (pe_and (pe_chain op_le op_le pe_int (pe_callB call_len_str (by rfl) T.len PySem.boot_len (pa_cons (pv 0) pa_nil)) (pe_glob (v := .int 8) rfl C.lng ⟨_, rfl⟩))
        (pe_one (pe_callB (call_all rfl) (by rfl) T.all boot_all' (pa_cons (pe_lc (N' := ["sign"]) (ix := [none]) (sc0 := defScope sName) (N := ["thing"]) rfl (by decide +kernel) (pi_str (pv 0))
          (fun C' cl s H fp => pg_name (i := 0) ndSg rfl (Or.inl rfl) (.inr rfl)) (fun _ _ _ _ _ => pf_nil) (fun C' cl s H fp => pe_cmpR op_in_str (pv 0) (pe_glob (v := .str letS) rfl C.lets ⟨_, rfl⟩) rfl)) pa_nil)))))), ?_⟩
    refine ⟨_, rfl, x, _, _, rfl, tv.ty, kit_str t, _, rfl, ?_⟩
    by_cases ht : t.isStr = true
    · cases tv with
      | str z =>
        have hl := hz z rfl
        rw [show nameT (.str z) = nameB z.cps.toList from rfl] at q
        generalize hzl : z.cps.toList = l at *
        have hzS : z = S l := by rw [← hzl]; exact S_of z
        subst hzS
        have sz : (100000 : Nat) ≤ sizeLine := by decide
        refine iteF ⟨_, rfl, aO, ownV, rfl, .inr (C.sq H), rfl, ownV_flat, _, rfl, ?_⟩
        refine ite2 (fun h => ?_) (fun h => ?_)
        · have h' : isOwn l = true := h
          have := q H (Same.refl _)
          unfold nameB at this
          rw [h', Bool.not_true, Bool.false_and] at this
          exact this
        · have h' : isOwn l = false := Bool.eq_false_iff.mpr h
          have q' : ∀ H', Same H H' → Q (.bl (decide (1 ≤ l.length) && decide (l.length ≤ 8) && l.all isLet)) H' := fun H' s' => by
            have := q H' s'
            unfold nameB at this
            rw [h', Bool.not_false, Bool.true_and] at this
            exact this
          refine ⟨_, rfl, S l, rfl, (by rw [S_len]; lia), _, _, rfl, rfl, _, rfl, ?_⟩
          rw [S_len]
          by_cases c1 : 1 ≤ l.length
          · refine iteA (decide_eq_true (by lia)) ⟨_, _, rfl, rfl, _, rfl, ?_⟩
            by_cases c2 : l.length ≤ 8
            · refine iteA (decide_eq_true (by lia)) ⟨_, rfl, l, rfl, ?_⟩
              refine lc_str (fun i ys H' => ys = (l.take i).map (fun c => V.bl (isLet c)) ∧ Same H H') ⟨rfl, Same.refl _⟩ (fun i ys H' hi ⟨e, _⟩ => by rw [e, List.length_map, List.length_take]; lia) ?_ ?_
              · rintro i ys H' hi ⟨rfl, s'⟩
                refine ⟨trivial, tAny_T ?_⟩
                refine ⟨_, rfl, S [l[i]], _, rfl, rfl, ?_⟩
                rw [let_S, in_code]
                refine Nx.mk hi ⟨?_, s'⟩
                rw [← List.take_append_getElem hi, List.map_append]
                congr 2
                show V.bl _ = V.bl (isLet l[i])
                congr 1
                unfold isLet
                rw [Bool.eq_iff_iff, decide_eq_true_iff, Bool.and_eq_true, decide_eq_true_iff, decide_eq_true_iff]
                exact let_mem _
              · rintro ys H' ⟨rfl, s'⟩ D hD
                refine ⟨D, l.map isLet, rfl, SqL.of ?_, ?_⟩
                · rw [upd_same, List.take_length, List.map_map]
                  rfl
                · have := q' _ (s'.trans (same_new (o := .lst ((l.take l.length).map (fun c => V.bl (isLet c)))) hD))
                  rw [decide_eq_true c1, decide_eq_true c2, Bool.true_and, Bool.true_and] at this
                  rw [List.all_map]
                  exact this
            · refine iteB (decide_eq_false (by lia)) ?_
              have := q' H (Same.refl _)
              rw [decide_eq_false c2, Bool.and_false, Bool.false_and] at this
              exact this
          · refine iteB (decide_eq_false (by lia)) ⟨_, rfl, iteF ?_⟩
            have := q' H (Same.refl _)
            rw [decide_eq_false c1, Bool.false_and, Bool.false_and] at this
            exact this
      | non => cases ht
      | int _ => cases ht
      | tup _ _ => cases ht
      | lst _ _ _ => cases ht
      | dct _ _ => cases ht
    · have ht' : t.isStr = false := Bool.eq_false_iff.mpr ht
      rw [ht']
      refine iteT ?_
      have := q H (Same.refl _)
      cases tv with
      | str _ => exact absurd rfl ht
      | non => exact this
      | int _ => exact this
      | tup _ _ => exact this
      | lst _ _ _ => exact this
      | dct _ _ => exact this
theorem scIsEnd : FnScope ["thing"] ["thing"] (defScope sIsEnd) := ⟨rfl, rfl, rfl, by decide +kernel, rfl, by decide +kernel, by decide +kernel⟩
set_option maxHeartbeats 4000000 in
theorem ok_isEnd {f aF : Addr} {fd : FuncData} (F : Fun K "is_end" "is_end" sIsEnd f fd) (hF : mg "OWN_FAULTS" = some (.ref aF)) (sF : ∀ H, SqT K H aF (fauS.map V.str)) (HD : Fn P w K mg base "is_headed" 1 ["thing", "word", "many"] spHeaded) (FI : Fn P w K mg base "is_field" 3 ["thing"] (spTo 2)) (NM : Fn P w K mg base "is_name" 1 ["thing"] spName) :
    FnOk P w K mg base CX0 4 f fd ["thing"] (spAsk endOk EndG) := by
  refine F.ok scIsEnd (fun vs H Q E h => ?_) (fun cdv A outer s H vs Q E hr h => ?_)
  · obtain ⟨p, v, t, rfl, _⟩ := h
    rfl
  · obtain ⟨p, v, t, rfl, tv, ⟨hgt, hg1t, hgn⟩, q⟩ := h
    have hr1 : Room 1 _ := hr.mono (by decide)
    refine ⟨_, pss_cons (ps_if (PW.pt (pw_or (pt_val (pe_fn HD hr1 rfl (pa_cons (pv 0) (pa_cons pe_str (pa_cons pe_int pa_nil))))) (pw_or1 (pt_val (pe_fn HD hr1 rfl (pa_cons (pv 0) (pa_cons pe_str (pa_cons pe_int pa_nil)))))))) (pss_one (ps_ret (pe_fn FI hr rfl (pa_cons (pe_ix ix_tup (pv 0) pe_int (fun _ _ => rfl)) pa_nil)))) pss_nil)
      (pss_cons (ps_if (pt_val (pe_fn HD hr1 rfl (pa_cons (pv 0) (pa_cons pe_str (pa_cons pe_int pa_nil))))) (pss_one (ps_ret (pe_and (pe_fn NM hr1 rfl (pa_cons (pe_ix ix_tup (pv 0) pe_int (fun _ _ => rfl)) pa_nil)) (pe_one (pe_cmpR op_notIn_seq (pe_ix ix_tup (pv 0) pe_int (fun _ _ => rfl)) (pe_glob (v := .ref aF) rfl hF rfl) rfl))))) pss_nil)
      (pss_one (ps_ret (pe_or (pe_fn HD hr1 rfl (pa_cons (pv 0) (pa_cons pe_str (pa_cons pe_int pa_nil)))) (pe_or (pe_fn HD hr1 rfl (pa_cons (pv 0) (pa_cons pe_str (pa_cons pe_int pa_nil)))) (pe_one (pe_fn HD hr1 rfl (pa_cons (pv 0) (pa_cons pe_str (pa_cons pe_int pa_nil)))))))))), ?_⟩
    have fin : ∀ b H', endOk t = b → Same H H' → Q (.bl b) H' := fun b H' e s => e ▸ q H' s
    refine ⟨_, rfl, p, v, t, "go", 2, rfl, tv, hgt, fun z => absurd z (by decide), by decide, by decide +kernel, _, rfl, ite2 (fun h1 => ?_) (fun h1 => ?_)⟩
    · obtain ⟨a, xs, rfl, e, ag⟩ := hd_arg tv h1
      obtain ⟨u1, e1, t1⟩ := ag 1 (by decide)
      have eS : endOk t = wn 0 2 (arg 1 t) := by unfold endOk; simp [h1]
      exact ⟨_, rfl, a, _, _, _, rfl, rfl, SqT.of e, atI_nat (j := 1) e1, p, _, _, rfl, t1, fin _ _ (by rw [eS]) (Same.refl _)⟩
    · skip
      refine ⟨_, rfl, p, v, t, "call", 2, rfl, tv, hgt, fun z => absurd z (by decide), by decide, by decide +kernel, _, rfl, ite2 (fun h2 => ?_) (fun h2 => ?_)⟩
      · obtain ⟨a, xs, rfl, e, ag⟩ := hd_arg tv h2
        obtain ⟨u1, e1, t1⟩ := ag 1 (by decide)
        have eS : endOk t = wn 0 2 (arg 1 t) := by unfold endOk; simp [h1, h2]
        exact ⟨_, rfl, a, _, _, _, rfl, rfl, SqT.of e, atI_nat (j := 1) e1, p, _, _, rfl, t1, fin _ _ (by rw [eS]) (Same.refl _)⟩
      · skip
        refine ⟨_, rfl, p, v, t, "fault", 2, rfl, tv, hgt, fun z => absurd z (by decide), by decide, by decide +kernel, _, rfl, ite2 (fun h3 => ?_) (fun h3 => ?_)⟩
        · obtain ⟨a, xs, rfl, e, ag⟩ := hd_arg tv h3
          obtain ⟨u1, e1, t1⟩ := ag 1 (by decide)
          have eS : endOk t = (nameT (arg 1 t) && notF (arg 1 t)) := by unfold endOk; simp [h1, h2, h3]
          refine ⟨_, rfl, a, _, _, _, rfl, rfl, SqT.of e, atI_nat (j := 1) e1, p, _, _, rfl, t1, hgn, fun H1 s1 => ⟨_, rfl, ite2 (fun g => ?_) (fun g => ?_)⟩⟩
          · generalize hx : arg 1 t = x at *
            cases t1 with
            | str z =>
              refine ⟨_, rfl, a, _, _, _, rfl, rfl, SqT.of (s1 _ _ e), atI_nat (j := 1) e1, aF, _, rfl, .inr (sF H1), rfl, by decide +kernel, ?_⟩
              refine fin _ _ ?_ s1
              rw [eS, g, Bool.true_and]
              show (!fauS.contains z) = (if true = true then !inV (.str z) (fauS.map V.str) else inV (.str z) (fauS.map V.str))
              rw [if_pos rfl, inV_str]
            | non => cases g
            | int _ => cases g
            | tup _ _ => cases g
            | lst _ _ _ => cases g
            | dct _ _ => cases g
          · exact fin false _ (by rw [eS, Bool.eq_false_iff.mpr g, Bool.false_and]) s1
        · have eS : endOk t = (hd "next" 1 t || (hd "back" 1 t || hd "stop" 1 t)) := by unfold endOk; simp [h1, h2, h3]
          refine ⟨_, rfl, p, v, t, "next", 1, rfl, tv, hgt, fun _ => hg1t, by decide, by decide +kernel, _, rfl, ite2 (fun h4 => ?_) (fun h4 => ?_)⟩
          · exact fin true _ (by rw [eS, h4]; rfl) (Same.refl _)
          · refine ⟨_, rfl, p, v, t, "back", 1, rfl, tv, hgt, fun _ => hg1t, by decide, by decide +kernel, _, rfl, ite2 (fun h5 => ?_) (fun h5 => ?_)⟩
            · exact fin true _ (by rw [eS]; simp [h5]) (Same.refl _)
            · exact ⟨_, rfl, p, v, t, "stop", 1, rfl, tv, hgt, fun _ => hg1t, by decide, by decide +kernel, fin _ _ (by rw [eS]; simp [h4, h5]) (Same.refl _)⟩
theorem scWayOn : FnScope ["thing"] ["thing"] (defScope sWayOn) := ⟨rfl, rfl, rfl, by decide +kernel, rfl, by decide +kernel, by decide +kernel⟩
set_option maxHeartbeats 4000000 in
theorem ok_wayOn {f : Addr} {fd : FuncData} (F : Fun K "is_way_on" "is_way_on" sWayOn f fd) (HD : Fn P w K mg base "is_headed" 1 ["thing", "word", "many"] spHeaded) (AD : Fn P w K mg base "is_address" 3 ["thing"] (spTo 399)) (IN : Fn P w K mg base "is_inner" 3 ["thing"] (spTo 7)) (EN : Fn P w K mg base "is_end" 4 ["thing"] (spAsk endOk EndG)) :
    FnOk P w K mg base CX0 5 f fd ["thing"] (spAsk onOk OnG) := by
  refine F.ok scWayOn (fun vs H Q E h => ?_) (fun cdv A outer s H vs Q E hr h => ?_)
  · obtain ⟨p, v, t, rfl, _⟩ := h
    rfl
  · obtain ⟨p, v, t, rfl, tv, ⟨hgt, hge⟩, q⟩ := h
    have hr1 : Room 1 _ := hr.mono (by decide)
    have hr3 : Room 3 _ := hr.mono (by decide)
    refine ⟨_, pss_cons (ps_if (pt_val (pe_fn HD hr1 rfl (pa_cons (pv 0) (pa_cons pe_str (pa_cons pe_int pa_nil))))) (pss_one (ps_ret (pe_fn AD hr3 rfl (pa_cons (pe_ix ix_tup (pv 0) pe_int (fun _ _ => rfl)) pa_nil)))) pss_nil)
      (pss_cons (ps_if (PW.pt (pw_or (pt_val (pe_fn HD hr1 rfl (pa_cons (pv 0) (pa_cons pe_str (pa_cons pe_int pa_nil))))) (pw_or1 (pt_val (pe_fn HD hr1 rfl (pa_cons (pv 0) (pa_cons pe_str (pa_cons pe_int pa_nil)))))))) (pss_one (ps_ret (pe_and (pe_fn IN hr3 rfl (pa_cons (pe_ix ix_tup (pv 0) pe_int (fun _ _ => rfl)) pa_nil)) (pe_and (pe_fn AD hr3 rfl (pa_cons (pe_ix ix_tup (pv 0) pe_int (fun _ _ => rfl)) pa_nil)) (pe_one (pe_fn AD hr3 rfl (pa_cons (pe_ix ix_tup (pv 0) pe_int (fun _ _ => rfl)) pa_nil))))))) pss_nil)
      (pss_one (ps_ret (pe_and (pe_fn HD hr1 rfl (pa_cons (pv 0) (pa_cons pe_str (pa_cons pe_int pa_nil)))) (pe_one (pe_fn EN hr rfl (pa_cons (pe_ix ix_tup (pv 0) pe_int (fun _ _ => rfl)) pa_nil))))))), ?_⟩
    have fin : ∀ b H', onOk t = b → Same H H' → Q (.bl b) H' := fun b H' e s => e ▸ q H' s
    refine ⟨_, rfl, p, v, t, "on", 2, rfl, tv, hgt, fun z => absurd z (by decide), by decide, by decide +kernel, _, rfl, ite2 (fun h1 => ?_) (fun h1 => ?_)⟩
    · obtain ⟨a, xs, rfl, e, ag⟩ := hd_arg tv h1
      obtain ⟨u1, e1, t1⟩ := ag 1 (by decide)
      have eS : onOk t = (wn 0 399 (arg 1 t)) := by unfold onOk; simp [h1]
      exact ⟨_, rfl, a, _, _, _, rfl, rfl, SqT.of e, atI_nat (j := 1) e1, p, _, _, rfl, t1, fin _ _ (by rw [eS]) (Same.refl _)⟩
    · skip
      refine ⟨_, rfl, p, v, t, "some", 4, rfl, tv, hgt, fun z => absurd z (by decide), by decide, by decide +kernel, _, rfl, ite2 (fun h2 => ?_) (fun h2 => ?_)⟩
      · obtain ⟨a, xs, rfl, e, ag⟩ := hd_arg tv h2
        obtain ⟨u1, e1, t1⟩ := ag 1 (by decide)
        obtain ⟨u2, e2, t2⟩ := ag 2 (by decide)
        obtain ⟨u3, e3, t3⟩ := ag 3 (by decide)
        have eS : onOk t = (wn 0 7 (arg 1 t) && (wn 0 399 (arg 2 t) && wn 0 399 (arg 3 t))) := by unfold onOk; simp [h1, h2]
        exact ⟨_, rfl, a, _, _, _, rfl, rfl, SqT.of e, atI_nat (j := 1) e1, p, _, _, rfl, t1, _, rfl, ite2 (fun g0 => ⟨_, rfl, a, _, _, _, rfl, rfl, SqT.of e, atI_nat (j := 2) e2, p, _, _, rfl, t2, _, rfl, ite2 (fun g1 => ⟨_, rfl, a, _, _, _, rfl, rfl, SqT.of e, atI_nat (j := 3) e3, p, _, _, rfl, t3, fin _ _ (by rw [eS]; simp [g0, g1]) (Same.refl _)⟩) (fun g1 => fin false _ (by rw [eS]; simp [g0, Bool.eq_false_iff.mpr g1]) (Same.refl _))⟩) (fun g0 => fin false _ (by rw [eS]; simp [Bool.eq_false_iff.mpr g0]) (Same.refl _))⟩
      · skip
        refine ⟨_, rfl, p, v, t, "top", 4, rfl, tv, hgt, fun z => absurd z (by decide), by decide, by decide +kernel, _, rfl, ite2 (fun h3 => ?_) (fun h3 => ?_)⟩
        · obtain ⟨a, xs, rfl, e, ag⟩ := hd_arg tv h3
          obtain ⟨u1, e1, t1⟩ := ag 1 (by decide)
          obtain ⟨u2, e2, t2⟩ := ag 2 (by decide)
          obtain ⟨u3, e3, t3⟩ := ag 3 (by decide)
          have eS : onOk t = (wn 0 7 (arg 1 t) && (wn 0 399 (arg 2 t) && wn 0 399 (arg 3 t))) := by unfold onOk; simp [h1, h2, h3]
          exact ⟨_, rfl, a, _, _, _, rfl, rfl, SqT.of e, atI_nat (j := 1) e1, p, _, _, rfl, t1, _, rfl, ite2 (fun g0 => ⟨_, rfl, a, _, _, _, rfl, rfl, SqT.of e, atI_nat (j := 2) e2, p, _, _, rfl, t2, _, rfl, ite2 (fun g1 => ⟨_, rfl, a, _, _, _, rfl, rfl, SqT.of e, atI_nat (j := 3) e3, p, _, _, rfl, t3, fin _ _ (by rw [eS]; simp [g0, g1]) (Same.refl _)⟩) (fun g1 => fin false _ (by rw [eS]; simp [g0, Bool.eq_false_iff.mpr g1]) (Same.refl _))⟩) (fun g0 => fin false _ (by rw [eS]; simp [Bool.eq_false_iff.mpr g0]) (Same.refl _))⟩
        · skip
          have eS : onOk t = (hd "done" 2 t && endOk (arg 1 t)) := by unfold onOk; simp [h1, h2, h3]
          refine ⟨_, rfl, p, v, t, "done", 2, rfl, tv, hgt, fun z => absurd z (by decide), by decide, by decide +kernel, _, rfl, ite2 (fun h4 => ?_) (fun h4 => ?_)⟩
          · obtain ⟨a, xs, rfl, e, ag⟩ := hd_arg tv h4
            obtain ⟨u1, e1, t1⟩ := ag 1 (by decide)
            exact ⟨_, rfl, a, _, _, _, rfl, rfl, SqT.of e, atI_nat (j := 1) e1, p, _, _, rfl, t1, hge, fun H1 s1 => fin _ _ (by rw [eS, h4, Bool.true_and]) s1⟩
          · exact fin false _ (by rw [eS, Bool.eq_false_iff.mpr h4, Bool.false_and]) (Same.refl _)
end
end L3
namespace L3
open PySem L2
def LitG (t : Th) : Prop := ∀ ss on, t = .tup [.tup ss, on] → (∀ s ∈ ss, HgA s) ∧ OnG on ∧ ss.length ≤ 1000
theorem lit_no {ts : List Th} (h : ts.length ≠ 2) : littleOk (.tup ts) = false := by
  match ts with
  | [] => rfl
  | [a] => cases a <;> rfl
  | [a, b] => exact absurd rfl h
  | a :: b :: c :: r => cases a <;> rfl
theorem TgA.two {p : Addr} {H : Hp} {xs : List V} {ts : List Th} (h : TgA p H xs ts) (l : ts.length = 2) : ∃ x y tx ty, xs = [x, y] ∧ ts = [tx, ty] ∧ TgV p H x tx ∧ TgV p H y ty := by
  cases h with
  | nil => cases l
  | cons a h =>
    cases h with
    | nil => cases l
    | cons b h =>
      cases h with
      | nil => exact ⟨_, _, _, _, rfl, rfl, a, b⟩
      | cons c h => simp at l
section
variable {P : Program} {w : World} {K : PySem.W.Frag} {mg : Str → Option Value} {base : Heap} {aO : Addr} {t1 t2 t3 t4 t5 t6 : Tok} {fs : Str → V}
theorem scIsLittle : FnScope ["thing", "steps", "on"] ["thing"] (defScope sIsLittle) := ⟨rfl, rfl, rfl, by decide +kernel, rfl, by decide +kernel, by decide +kernel⟩
theorem ndLit : (["step"] : List Str).Nodup := by decide +kernel
set_option maxHeartbeats 4000000 in
theorem ok_isLittle {f : Addr} {fd : FuncData} (F : Fun K "is_little" "is_little" sIsLittle f fd) (B : Bl mg) (C : Cst K mg w aO t1 t2 t3 t4 t5 t6 fs) (IS : Fn P w K mg base "is_step" 5 ["thing"] (spAsk stepOk HgA)) (WO : Fn P w K mg base "is_way_on" 5 ["thing"] (spAsk onOk OnG)) :
    FnOk P w K mg base CX0 6 f fd ["thing"] (spAsk littleOk LitG) := by
  refine F.ok scIsLittle (fun vs H Q E h => ?_) (fun cdv A outer s H vs Q E hr h => ?_)
  · obtain ⟨p, v, t, rfl, _⟩ := h
    rfl
  · obtain ⟨p, v, t, rfl, tv, lg, q⟩ := h
    have sz : (100000 : Nat) ≤ sizeLine := by decide
    refine ⟨_, pss_cons (ps_if (PW.pt (pw_or (pt_not (pt_val (pe_callB (isi_ty (T := "tuple")) (by rfl) B.isinstance boot_isi (pa_cons (pv 0) (pa_cons (pe_ty (by rfl) B.tuple boot_tuple') pa_nil))))) (pw_or1 (pt_cmpR op_ne (pe_callB call_len_seq (by rfl) B.len PySem.boot_len (pa_cons (pv 0) pa_nil)) pe_int (nomark _))))) (pss_one (ps_ret pe_bl)) pss_nil)
      (pss_cons (ps_asg (pv 0) (pg_tup rfl (pgs_cons (pg_name (i := 1) scIsLittle.nd rfl (Or.inl rfl)) (pgs_cons (pg_name (i := 2) scIsLittle.nd rfl (Or.inl rfl)) pgs_nil))))
      (pss_cons (ps_if (PW.pt (pw_or (pt_not (pt_val (pe_callB (isi_ty (T := "tuple")) (by rfl) B.isinstance boot_isi (pa_cons (pv 1) (pa_cons (pe_ty (by rfl) B.tuple boot_tuple') pa_nil))))) (pw_or1 (pt_cmpR op_gt (pe_callB call_len_seq (by rfl) B.len PySem.boot_len (pa_cons (pv 1) pa_nil)) (pe_glob (v := .int 16) rfl C.steps ⟨_, rfl⟩) (nomark _))))) (pss_one (ps_ret pe_bl)) pss_nil)
      (pss_one (ps_ret (pe_and (pe_callB (call_all rfl) (by rfl) B.all boot_all' (pa_cons (pe_lc (N' := ["step"]) (ix := [none]) (sc0 := defScope sIsLittle) (N := ["thing", "steps", "on"]) rfl (by decide +kernel) (pi_tup (pv 1))
          (fun C' cl s H fp => pg_name (i := 0) ndLit rfl (Or.inl rfl) (.inr rfl)) (fun _ _ _ _ _ => pf_nil) (fun C' cl s H fp => pe_fn IS hr rfl (pa_cons (pv 0) pa_nil))) pa_nil)) (pe_one (pe_fn WO hr rfl (pa_cons (pv 2) pa_nil)))))))), ?_⟩
    have fin : ∀ b H', littleOk t = b → Same H H' → Q (.bl b) H' := fun b H' e s => e ▸ q H' s
    refine ⟨_, rfl, v, _, _, rfl, tv.ty, kit_tup t, _, rfl, ?_⟩
    cases tv with
    | non => exact iteT (fin false _ rfl (Same.refl _))
    | int _ => exact iteT (fin false _ rfl (Same.refl _))
    | str _ => exact iteT (fin false _ rfl (Same.refl _))
    | lst _ _ _ => exact iteT (fin false _ rfl (Same.refl _))
    | dct _ _ => exact iteT (fin false _ rfl (Same.refl _))
    | @tup a xs ts e ta =>
      have hl := ta.length
      refine iteF ⟨_, rfl, a, _, rfl, .inr (SqT.of e), rfl, _, rfl, ?_⟩
      rw [dint]
      by_cases h2 : ts.length = 2
      · refine iteB (by rw [decide_eq_true (by lia)]; rfl) ?_
        obtain ⟨x, y, tx, ty, rfl, rfl, hx, hy⟩ := ta.two h2
        · refine ⟨_, rfl, a, _, rfl, SqT.of e, rfl, _, _, rfl, _, _, rfl, rfl, ?_⟩
          refine ⟨_, rfl, x, _, _, rfl, hx.ty, kit_tup tx, _, rfl, ?_⟩
          cases hx with
          | non => exact iteT (fin false _ rfl (Same.refl _))
          | int _ => exact iteT (fin false _ rfl (Same.refl _))
          | str _ => exact iteT (fin false _ rfl (Same.refl _))
          | lst _ _ _ => exact iteT (fin false _ rfl (Same.refl _))
          | dct _ _ => exact iteT (fin false _ rfl (Same.refl _))
          | @tup b us ss eb tb =>
            have hl2 := tb.length
            obtain ⟨l1, l2, l3⟩ := lg ss ty rfl
            have eS : littleOk (.tup [.tup ss, ty]) = (decide (ss.length ≤ 16) && (ss.all stepOk && onOk ty)) := rfl
            refine iteF ⟨_, rfl, b, _, rfl, .inr (SqT.of eb), _, _, rfl, rfl, _, rfl, ?_⟩
            by_cases h16 : ss.length ≤ 16
            · refine iteB (decide_eq_false (by lia)) ?_
              rw [decide_eq_true h16, Bool.true_and] at eS
              refine ⟨_, rfl, b, rfl, ⟨_, SqT.of eb⟩, ?_⟩
              refine lc_tup (K := K) (a := b) (xs := us) (fun i ys H' => Same H H' ∧ ys = (ss.take i).map (fun s => V.bl (stepOk s))) ⟨Same.refl _, rfl⟩ (fun i ys H' hi ⟨s', e'⟩ => ⟨SqT.of (s' _ _ eb), by rw [e', List.length_map, List.length_take]; lia⟩) ?_ ?_
              · rintro i z ys H1 hz ⟨s1, rfl⟩
                have hlt : i < us.length := (List.getElem?_eq_some_iff.mp hz).1
                obtain ⟨tz, etz, hzt⟩ := tb.get hz
                refine ⟨trivial, tAny_T ⟨_, rfl, p, z, tz, rfl, hzt.same s1, l1 tz (List.mem_of_getElem? etz), fun H2 s2 => Nx.mk hlt ⟨s1.trans s2, ?_⟩⟩⟩
                have et : ss.take (i + 1) = ss.take i ++ [tz] := by rw [List.take_succ, etz]; rfl
                rw [et, List.map_append]
                rfl
              · rintro ys H1 ⟨s1, rfl⟩ D nD
                rw [hl2, List.take_length]
                have s2 := same_new (o := .lst (ss.map fun s => V.bl (stepOk s))) nD
                have e2 : (upd H1 D (.lst (ss.map fun s => V.bl (stepOk s)))) D = some (.lst ((ss.map stepOk).map V.bl)) := by rw [upd_same, List.map_map]; rfl
                generalize upd H1 D (.lst (ss.map fun s => V.bl (stepOk s))) = H2 at *
                have eA : (ss.map stepOk).all id = ss.all stepOk := by rw [List.all_map]; rfl
                refine ⟨D, ss.map stepOk, rfl, SqL.of e2, _, rfl, ?_⟩
                rw [eA]
                refine ite2 (fun g => ?_) (fun g => ?_)
                · exact ⟨_, rfl, p, y, ty, rfl, hy.same (s1.trans s2), l2, fun H3 s3 => fin _ _ (by rw [eS, g, Bool.true_and]) ((s1.trans s2).trans s3)⟩
                · exact fin false _ (by rw [eS, Bool.eq_false_iff.mpr g, Bool.false_and]) (s1.trans s2)
            · refine iteA (decide_eq_true (by lia)) (fin false _ ?_ (Same.refl _))
              rw [eS, decide_eq_false h16, Bool.false_and]
      · refine iteA (by rw [decide_eq_false (by lia)]; rfl) (fin false _ (lit_no h2) (Same.refl _))
end
end L3
namespace L3
open PySem L2
def nmK : Nat → Str
  | 0 => "Get"
  | 1 => "Ask"
  | 2 => "Cell"
  | 3 => "Two"
  | 4 => "Put"
  | 5 => "Tell"
  | _ => "Store"
def flK : Nat → List Str
  | 0 => ["to", "sel"]
  | 1 => ["to", "sel"]
  | 2 => ["to", "source"]
  | 3 => ["to", "op", "one", "other"]
  | 4 => ["sel", "source"]
  | 5 => ["sel", "source"]
  | _ => ["at", "source"]
structure Ct (K : PySem.W.Frag) (mg : Str → Option Value) (C fi : Nat → Addr) : Prop where
  cls : ∀ k, k < 7 → Cls K (C k)
  na : ∀ k, k < 7 → ∀ f ∈ flK k, NoAttr K (C k) f
  mk_ : ∀ k, k < 7 → Mk K (C k) (fi k)
  mg : ∀ k, k < 7 → mg (nmK k) = some (.ref (C k))
def spI2 (C : Addr) (a b : Str) : Sp := fun vs H Q _ => ∃ (x dx : Addr) (u v : V), vs = [.ref x, u, v] ∧ H x = some (.ins C dx []) ∧ Q .non (upd (upd H x (.ins C dx [(a, u)])) x (.ins C dx [(a, u), (b, v)]))
def spI4 (C : Addr) (a b c d : Str) : Sp := fun vs H Q _ => ∃ (x dx : Addr) (u v y z : V), vs = [.ref x, u, v, y, z] ∧ H x = some (.ins C dx []) ∧
  Q .non (upd (upd (upd (upd H x (.ins C dx [(a, u)])) x (.ins C dx [(a, u), (b, v)])) x (.ins C dx [(a, u), (b, v), (c, y)])) x (.ins C dx [(a, u), (b, v), (c, y), (d, z)]))
def IniOk (P : Program) (w : World) (K : PySem.W.Frag) (mg : Str → Option Value) (base : Heap) (f : Addr) (ps : List Str) (sp : Sp) : Prop := ∃ fd, FnOk P w K mg base CX0 1 f fd ps sp ∧ Binds K fd ps []
abbrev sRInitX : Stmt := inClass (top 21) 0
abbrev sNKInit : Stmt := inClass (top 26) 0
abbrev bmR (R : Addr) : List Value := .ref R :: XB.bmV
structure Xs (K : PySem.W.Frag) (mg : Str → Option Value) (R fR cB fB cL cK cW cS : Addr) : Prop where
  r : XC K R "RowsError" XB.bmV
  b : XC K cB "BadStep" (bmR R)
  l : XC K cL "BadLine" (bmR R)
  k : XC K cK "NoKind" (bmR R)
  w : XC K cW "NoRow" (bmR R)
  s : XC K cS "NoState" (bmR R)
  na : NoAttr K cB "thing"
  mkx : MkX K cB fB
  ri : ClsFn K R "__init__" fR
  mR : mg "RowsError" = some (.ref R)
  mB : mg "BadStep" = some (.ref cB)
  mL : mg "BadLine" = some (.ref cL)
  mK : mg "NoKind" = some (.ref cK)
  mW : mg "NoRow" = some (.ref cW)
  mS : mg "NoState" = some (.ref cS)
  val : mg "ValueError" = none
def spR (K : PySem.W.Frag) : Sp := fun vs H Q _ => ∃ e x C d r fs nm bm, vs = [.ref e, x] ∧ XAt H e C d r fs ∧ XC K C nm bm ∧ Q .non H
def spNK (C : Addr) : Sp := fun vs H Q _ => ∃ e x, vs = [.ref e, x] ∧ XAt H e C none false [] ∧ ∀ H' d, XAt H' e C (some d) false [("thing", x)] → (∀ b o, H b = some o → b ≠ e → H' b = some o) → Q .non H'
section
variable {P : Program} {w : World} {K : PySem.W.Frag} {mg : Str → Option Value} {base : Heap} {R fR cB fB cL cK cW cS : Addr}
theorem scRX : FnScope ["self", "text"] ["self", "text"] (defScope sRInitX) := ⟨rfl, rfl, rfl, by decide +kernel, rfl, by decide +kernel, by decide +kernel⟩
theorem ok_RX {f : Addr} {fd : FuncData} (F : Fun K "__init__" "RowsError.__init__" sRInitX f fd) (T : Xs K mg R fR cB fB cL cK cW cS) : FnOk P w K mg base CX0 1 f fd ["self", "text"] (spR K) := by
  refine F.ok scRX (fun vs H Q E h => ?_) (fun cdv A outer s H vs Q E hr h => ?_)
  · obtain ⟨e, x, C, d, r, fs, nm, bm, rfl, _⟩ := h
    rfl
  · obtain ⟨e, x, C, d, r, fs, nm, bm, rfl, xa, c, q⟩ := h
    refine ⟨_, pss_one (ps_expr (pe_vali rfl T.val (pa_cons (pv 0) (pa_cons (pv 1) pa_nil)))), ?_⟩
    exact ⟨_, rfl, _, rfl, e, [x], C, d, r, fs, nm, bm, rfl, (by show 1 ≤ 1000; decide), xa, c, q⟩
def RIX (P : Program) (w : World) (K : PySem.W.Frag) (mg : Str → Option Value) (base : Heap) (fR : Addr) : Prop := ∃ fd, Binds K fd ["self", "text"] [] ∧ FnOk P w K mg base CX0 1 fR fd ["self", "text"] (spR K)
theorem pe_riX {X : Cx} {p apos pos : Pos} {e : Expr} {es : List Expr} {t : TA} (h : RIX X.prog X.w X.K X.mg X.base fR) (T : Xs X.K X.mg R fR cB fB cL cK cW cS) (hr : Room 1 X.A) (hg : Gl X "RowsError") (ha : PA X (e :: es) t)
    (hst : starEach (e :: es) X.env = (false, eval e X.env) :: starEach es X.env := by rfl) (hpl : (backTo pos (starEach es X.env)).any (·.1) = false := by rfl) (pl : Sem Bool)
    (ht : eval (.Call (.Attribute (.Name "RowsError" p) "__init__" apos) (e :: es) [] pos) X.env = (do
      let ov ← eval (.Name "RowsError" p) X.env
      standAt apos.atName
      let (f, first) ← holding [ov] (getMethod ov "__init__" pl)
      callWith pos f first (backTo pos (starEach (e :: es) X.env)) (backToKw pos (keywordEach [] X.env)))) :
    PE X (.Call (.Attribute (.Name "RowsError" p) "__init__" apos) (e :: es) [] pos) (tCall (spR X.K) [] E0 t) := by
  obtain ⟨fd, hb, F⟩ := h
  exact pe_clsfn (pl := pl) T.ri F hr hg T.mR hb pass0 ha (by decide) hst hpl ht
theorem scNK : FnScope ["self", "thing"] ["self", "thing"] (defScope sNKInit) := ⟨rfl, rfl, rfl, by decide +kernel, rfl, by decide +kernel, by decide +kernel⟩
theorem ok_NK {f : Addr} {fd : FuncData} (F : Fun K "__init__" "BadStep.__init__" sNKInit f fd) (T : Xs K mg R fR cB fB cL cK cW cS) (RI' : RIX P w K mg base fR) : FnOk P w K mg base CX0 2 f fd ["self", "thing"] (spNK cB) := by
  refine F.ok scNK (fun vs H Q E h => ?_) (fun cdv A outer s H vs Q E hr h => ?_)
  · obtain ⟨e, x, rfl, _⟩ := h
    rfl
  · obtain ⟨e, x, rfl, xa, q⟩ := h
    refine ⟨_, pss_cons (ps_expr (pe_riX RI' T hr rfl (pa_cons (pv 0) (pa_cons pe_str pa_nil)) rfl rfl _ rfl)) (pss_one (ps_fldX (pv 0) (pv 1))), ?_⟩
    refine ⟨_, rfl, e, _, cB, none, false, [], "BadStep", bmR R, rfl, xa, T.b, ?_⟩
    refine ⟨_, rfl, _, rfl, e, cB, none, false, [], "BadStep", bmR R, rfl, xa, T.b, T.na, (by show 0 < 1000; decide), fun H3 d' xs => ?_⟩
    exact q H3 d' xs.at_ fun b o hb ne => xs.keep b o hb ne (fun z => nomatch z)
end
def Refuse (cB : Addr) (z : V) (H : Hp) (E : XK) : Prop := ∀ e d H', Same H H' → H e = none → XAt H' e cB (some d) true [("thing", z)] → E (.ref e) none H'
def spStepX (cB : Addr) : Sp := fun vs H Q E => ∃ (p : Addr) (v : V) (t : Th), vs = [v] ∧ TgV p H v t ∧ HgA t ∧ (stepOk t = true → ∀ u H', Same H H' → Q u H') ∧ (stepOk t = false → Refuse cB v H E)
theorem hd_shape {w : Str} {n : Nat} {t : Th} (h : hd w n t = true) : ∃ r, t = .tup (.str w :: r) ∧ r.length + 1 = n := by
  match t with
  | .tup (.str x :: r) =>
    have h' : (decide (r.length + 1 = n) && decide (x = w)) = true := h
    rw [Bool.and_eq_true, decide_eq_true_iff, decide_eq_true_iff] at h'
    exact ⟨r, by rw [h'.2], h'.1⟩
  | .tup [] => cases h
  | .tup (.non :: _) => cases h
  | .tup (.int _ :: _) => cases h
  | .tup (.tup _ :: _) => cases h
  | .tup (.lst _ :: _) => cases h
  | .tup (.dct :: _) => cases h
  | .non => cases h
  | .int _ => cases h
  | .str _ => cases h
  | .lst _ => cases h
  | .dct => cases h
theorem step_shape {t : Th} (h : stepOk t = true) : (∃ x r, t = .tup (.str x :: r) ∧ r.length = 2 ∧ x ≠ "two") ∨ ∃ r, t = .tup (.str "two" :: r) ∧ r.length = 4 := by
  have key : ∀ w : Str, w ≠ "two" → hd w 3 t = true → (∃ x r, t = .tup (.str x :: r) ∧ r.length = 2 ∧ x ≠ "two") ∨ ∃ r, t = .tup (.str "two" :: r) ∧ r.length = 4 := fun w hw g => by
    obtain ⟨r, e, l⟩ := hd_shape g
    exact .inl ⟨w, r, e, by lia, hw⟩
  unfold stepOk at h
  by_cases h1 : hd "get" 3 t = true
  · exact key _ (by decide +kernel) h1
  by_cases h2 : hd "ask" 3 t = true
  · exact key _ (by decide +kernel) h2
  by_cases h3 : hd "cell" 3 t = true
  · exact key _ (by decide +kernel) h3
  by_cases h4 : hd "two" 5 t = true
  · obtain ⟨r, e, l⟩ := hd_shape h4
    exact .inr ⟨r, e, by lia⟩
  by_cases h5 : hd "put" 3 t = true
  · exact key _ (by decide +kernel) h5
  by_cases h6 : hd "tell" 3 t = true
  · exact key _ (by decide +kernel) h6
  by_cases h7 : hd "store" 3 t = true
  · exact key _ (by decide +kernel) h7
  · simp [h1, h2, h3, h4, h5, h6, h7] at h
theorem TgA.len2 {p : Addr} {H : Hp} {xs : List V} {ts : List Th} (h : TgA p H xs ts) (l : ts.length = 2) : ∃ x y, xs = [x, y] := by
  obtain ⟨x, y, _, _, e, _⟩ := h.two l
  exact ⟨x, y, e⟩
theorem len4 {xs : List V} (l : xs.length = 4) : ∃ a b c d, xs = [a, b, c, d] := match xs, l with | [a, b, c, d], _ => ⟨a, b, c, d, rfl⟩
section
variable {P : Program} {w : World} {K : PySem.W.Frag} {mg : Str → Option Value} {base : Heap} {R fR cB fB cL cK cW cS : Addr}
abbrev sI0 : Stmt := inClass (top 47) 0
theorem scI0 : FnScope ["self", "to", "sel"] ["self", "to", "sel"] (defScope sI0) := ⟨rfl, rfl, rfl, by decide +kernel, rfl, by decide +kernel, by decide +kernel⟩
theorem ok_I0 {C fi : Nat → Addr} {f : Addr} {fd : FuncData} (F : Fun K "__init__" "Get.__init__" sI0 f fd) (T : Ct K mg C fi) : FnOk P w K mg base CX0 1 f fd ["self", "to", "sel"] (spI2 (C 0) "to" "sel") := by
  refine F.ok scI0 (fun vs H Q E h => ?_) (fun cdv A outer s H vs Q E hr h => ?_)
  · obtain ⟨x, dx, u, v, rfl, _⟩ := h
    rfl
  · obtain ⟨x, dx, u, v, rfl, hx, q⟩ := h
    refine ⟨_, pss_cons (ps_fld (pv 0) (pv 1) rfl) (pss_one (ps_fld (pv 0) (pv 2) rfl)), ?_⟩
    refine ⟨_, rfl, _, rfl, x, C 0, dx, _, rfl, hx, T.cls 0 (by decide), (T.na 0 (by decide) "to" (by decide +kernel)), (by show 0 < 1000; decide), ?_⟩
    exact ⟨_, rfl, _, rfl, x, C 0, dx, _, rfl, upd_same, T.cls 0 (by decide), (T.na 0 (by decide) "sel" (by decide +kernel)), (by show 1 < 1000; decide), q⟩
abbrev sI1 : Stmt := inClass (top 48) 0
theorem scI1 : FnScope ["self", "to", "sel"] ["self", "to", "sel"] (defScope sI1) := ⟨rfl, rfl, rfl, by decide +kernel, rfl, by decide +kernel, by decide +kernel⟩
theorem ok_I1 {C fi : Nat → Addr} {f : Addr} {fd : FuncData} (F : Fun K "__init__" "Ask.__init__" sI1 f fd) (T : Ct K mg C fi) : FnOk P w K mg base CX0 1 f fd ["self", "to", "sel"] (spI2 (C 1) "to" "sel") := by
  refine F.ok scI1 (fun vs H Q E h => ?_) (fun cdv A outer s H vs Q E hr h => ?_)
  · obtain ⟨x, dx, u, v, rfl, _⟩ := h
    rfl
  · obtain ⟨x, dx, u, v, rfl, hx, q⟩ := h
    refine ⟨_, pss_cons (ps_fld (pv 0) (pv 1) rfl) (pss_one (ps_fld (pv 0) (pv 2) rfl)), ?_⟩
    refine ⟨_, rfl, _, rfl, x, C 1, dx, _, rfl, hx, T.cls 1 (by decide), (T.na 1 (by decide) "to" (by decide +kernel)), (by show 0 < 1000; decide), ?_⟩
    exact ⟨_, rfl, _, rfl, x, C 1, dx, _, rfl, upd_same, T.cls 1 (by decide), (T.na 1 (by decide) "sel" (by decide +kernel)), (by show 1 < 1000; decide), q⟩
abbrev sI2 : Stmt := inClass (top 49) 0
theorem scI2 : FnScope ["self", "to", "source"] ["self", "to", "source"] (defScope sI2) := ⟨rfl, rfl, rfl, by decide +kernel, rfl, by decide +kernel, by decide +kernel⟩
theorem ok_I2 {C fi : Nat → Addr} {f : Addr} {fd : FuncData} (F : Fun K "__init__" "Cell.__init__" sI2 f fd) (T : Ct K mg C fi) : FnOk P w K mg base CX0 1 f fd ["self", "to", "source"] (spI2 (C 2) "to" "source") := by
  refine F.ok scI2 (fun vs H Q E h => ?_) (fun cdv A outer s H vs Q E hr h => ?_)
  · obtain ⟨x, dx, u, v, rfl, _⟩ := h
    rfl
  · obtain ⟨x, dx, u, v, rfl, hx, q⟩ := h
    refine ⟨_, pss_cons (ps_fld (pv 0) (pv 1) rfl) (pss_one (ps_fld (pv 0) (pv 2) rfl)), ?_⟩
    refine ⟨_, rfl, _, rfl, x, C 2, dx, _, rfl, hx, T.cls 2 (by decide), (T.na 2 (by decide) "to" (by decide +kernel)), (by show 0 < 1000; decide), ?_⟩
    exact ⟨_, rfl, _, rfl, x, C 2, dx, _, rfl, upd_same, T.cls 2 (by decide), (T.na 2 (by decide) "source" (by decide +kernel)), (by show 1 < 1000; decide), q⟩
abbrev sI3 : Stmt := inClass (top 50) 0
theorem scI3 : FnScope ["self", "to", "op", "one", "other"] ["self", "to", "op", "one", "other"] (defScope sI3) := ⟨rfl, rfl, rfl, by decide +kernel, rfl, by decide +kernel, by decide +kernel⟩
theorem ok_I3 {C fi : Nat → Addr} {f : Addr} {fd : FuncData} (F : Fun K "__init__" "Two.__init__" sI3 f fd) (T : Ct K mg C fi) : FnOk P w K mg base CX0 1 f fd ["self", "to", "op", "one", "other"] (spI4 (C 3) "to" "op" "one" "other") := by
  refine F.ok scI3 (fun vs H Q E h => ?_) (fun cdv A outer s H vs Q E hr h => ?_)
  · obtain ⟨x, dx, u, v, y, z, rfl, _⟩ := h
    rfl
  · obtain ⟨x, dx, u, v, y, z, rfl, hx, q⟩ := h
    refine ⟨_, pss_cons (ps_fld (pv 0) (pv 1) rfl) (pss_cons (ps_fld (pv 0) (pv 2) rfl) (pss_cons (ps_fld (pv 0) (pv 3) rfl) (pss_one (ps_fld (pv 0) (pv 4) rfl)))), ?_⟩
    refine ⟨_, rfl, _, rfl, x, C 3, dx, _, rfl, hx, T.cls 3 (by decide), (T.na 3 (by decide) "to" (by decide +kernel)), (by show 0 < 1000; decide), ?_⟩
    refine ⟨_, rfl, _, rfl, x, C 3, dx, _, rfl, upd_same, T.cls 3 (by decide), (T.na 3 (by decide) "op" (by decide +kernel)), (by show 1 < 1000; decide), ?_⟩
    refine ⟨_, rfl, _, rfl, x, C 3, dx, _, rfl, upd_same, T.cls 3 (by decide), (T.na 3 (by decide) "one" (by decide +kernel)), (by show 2 < 1000; decide), ?_⟩
    exact ⟨_, rfl, _, rfl, x, C 3, dx, _, rfl, upd_same, T.cls 3 (by decide), (T.na 3 (by decide) "other" (by decide +kernel)), (by show 3 < 1000; decide), q⟩
abbrev sI4 : Stmt := inClass (top 51) 0
theorem scI4 : FnScope ["self", "sel", "source"] ["self", "sel", "source"] (defScope sI4) := ⟨rfl, rfl, rfl, by decide +kernel, rfl, by decide +kernel, by decide +kernel⟩
theorem ok_I4 {C fi : Nat → Addr} {f : Addr} {fd : FuncData} (F : Fun K "__init__" "Put.__init__" sI4 f fd) (T : Ct K mg C fi) : FnOk P w K mg base CX0 1 f fd ["self", "sel", "source"] (spI2 (C 4) "sel" "source") := by
  refine F.ok scI4 (fun vs H Q E h => ?_) (fun cdv A outer s H vs Q E hr h => ?_)
  · obtain ⟨x, dx, u, v, rfl, _⟩ := h
    rfl
  · obtain ⟨x, dx, u, v, rfl, hx, q⟩ := h
    refine ⟨_, pss_cons (ps_fld (pv 0) (pv 1) rfl) (pss_one (ps_fld (pv 0) (pv 2) rfl)), ?_⟩
    refine ⟨_, rfl, _, rfl, x, C 4, dx, _, rfl, hx, T.cls 4 (by decide), (T.na 4 (by decide) "sel" (by decide +kernel)), (by show 0 < 1000; decide), ?_⟩
    exact ⟨_, rfl, _, rfl, x, C 4, dx, _, rfl, upd_same, T.cls 4 (by decide), (T.na 4 (by decide) "source" (by decide +kernel)), (by show 1 < 1000; decide), q⟩
abbrev sI5 : Stmt := inClass (top 52) 0
theorem scI5 : FnScope ["self", "sel", "source"] ["self", "sel", "source"] (defScope sI5) := ⟨rfl, rfl, rfl, by decide +kernel, rfl, by decide +kernel, by decide +kernel⟩
theorem ok_I5 {C fi : Nat → Addr} {f : Addr} {fd : FuncData} (F : Fun K "__init__" "Tell.__init__" sI5 f fd) (T : Ct K mg C fi) : FnOk P w K mg base CX0 1 f fd ["self", "sel", "source"] (spI2 (C 5) "sel" "source") := by
  refine F.ok scI5 (fun vs H Q E h => ?_) (fun cdv A outer s H vs Q E hr h => ?_)
  · obtain ⟨x, dx, u, v, rfl, _⟩ := h
    rfl
  · obtain ⟨x, dx, u, v, rfl, hx, q⟩ := h
    refine ⟨_, pss_cons (ps_fld (pv 0) (pv 1) rfl) (pss_one (ps_fld (pv 0) (pv 2) rfl)), ?_⟩
    refine ⟨_, rfl, _, rfl, x, C 5, dx, _, rfl, hx, T.cls 5 (by decide), (T.na 5 (by decide) "sel" (by decide +kernel)), (by show 0 < 1000; decide), ?_⟩
    exact ⟨_, rfl, _, rfl, x, C 5, dx, _, rfl, upd_same, T.cls 5 (by decide), (T.na 5 (by decide) "source" (by decide +kernel)), (by show 1 < 1000; decide), q⟩
abbrev sI6 : Stmt := inClass (top 53) 0
theorem scI6 : FnScope ["self", "at", "source"] ["self", "at", "source"] (defScope sI6) := ⟨rfl, rfl, rfl, by decide +kernel, rfl, by decide +kernel, by decide +kernel⟩
theorem ok_I6 {C fi : Nat → Addr} {f : Addr} {fd : FuncData} (F : Fun K "__init__" "Store.__init__" sI6 f fd) (T : Ct K mg C fi) : FnOk P w K mg base CX0 1 f fd ["self", "at", "source"] (spI2 (C 6) "at" "source") := by
  refine F.ok scI6 (fun vs H Q E h => ?_) (fun cdv A outer s H vs Q E hr h => ?_)
  · obtain ⟨x, dx, u, v, rfl, _⟩ := h
    rfl
  · obtain ⟨x, dx, u, v, rfl, hx, q⟩ := h
    refine ⟨_, pss_cons (ps_fld (pv 0) (pv 1) rfl) (pss_one (ps_fld (pv 0) (pv 2) rfl)), ?_⟩
    refine ⟨_, rfl, _, rfl, x, C 6, dx, _, rfl, hx, T.cls 6 (by decide), (T.na 6 (by decide) "at" (by decide +kernel)), (by show 0 < 1000; decide), ?_⟩
    exact ⟨_, rfl, _, rfl, x, C 6, dx, _, rfl, upd_same, T.cls 6 (by decide), (T.na 6 (by decide) "source" (by decide +kernel)), (by show 1 < 1000; decide), q⟩
theorem scStepOf : FnScope ["told"] ["told"] (defScope sStepOf) := ⟨rfl, rfl, rfl, by decide +kernel, rfl, by decide +kernel, by decide +kernel⟩
set_option maxHeartbeats 8000000 in
theorem ok_stepOf {f : Addr} {fd fdB : FuncData} {C fi : Nat → Addr} (F : Fun K "step_of" "step_of" sStepOf f fd) (T : Ct K mg C fi) (TX : Xs K mg R fR cB fB cL cK cW cS) (FB : FnOk P w K mg base CX0 2 fB fdB ["self", "thing"] (spNK cB)) (BB : Binds K fdB ["self", "thing"] []) (IS : Fn P w K mg base "is_step" 5 ["thing"] (spAsk stepOk HgA)) (I0 : IniOk P w K mg base (fi 0) ["self", "to", "sel"] (spI2 (C 0) "to" "sel")) (I1 : IniOk P w K mg base (fi 1) ["self", "to", "sel"] (spI2 (C 1) "to" "sel")) (I2 : IniOk P w K mg base (fi 2) ["self", "to", "source"] (spI2 (C 2) "to" "source")) (I3 : IniOk P w K mg base (fi 3) ["self", "to", "op", "one", "other"] (spI4 (C 3) "to" "op" "one" "other")) (I4 : IniOk P w K mg base (fi 4) ["self", "sel", "source"] (spI2 (C 4) "sel" "source")) (I5 : IniOk P w K mg base (fi 5) ["self", "sel", "source"] (spI2 (C 5) "sel" "source")) (I6 : IniOk P w K mg base (fi 6) ["self", "at", "source"] (spI2 (C 6) "at" "source")) :
    FnOk P w K mg base (CX1 P w) 6 f fd ["told"] (spStepX cB) := by
  refine F.okX scStepOf (fun vs H Q E h => ?_) (fun cdv A outer s H vs Q E hr h => ?_)
  · obtain ⟨p, v, t, rfl, _⟩ := h
    rfl
  · obtain ⟨p, v, t, rfl, tv, hga, qt, qf⟩ := h
    have hr2 : Room 3 _ := hr.mono (by decide)
    have hr3 : Room 2 _ := hr.mono (by decide)
    obtain ⟨fd0, F0, b0⟩ := I0
    obtain ⟨fd1, F1, b1⟩ := I1
    obtain ⟨fd2, F2, b2⟩ := I2
    obtain ⟨fd3, F3, b3⟩ := I3
    obtain ⟨fd4, F4, b4⟩ := I4
    obtain ⟨fd5, F5, b5⟩ := I5
    obtain ⟨fd6, F6, b6⟩ := I6
    refine ⟨_, pss_cons (ps_if (pt_not (pt_val (pe_fn IS hr rfl (pa_cons (pv 0) pa_nil)))) (pss_one (ps_raise (pe_makeX TX.b TX.mkx FB hr2 rfl TX.mB BB pass0 (by decide) (pa_cons (pv 0) pa_nil)) esc_self rfl)) pss_nil)
      (pss_cons (ps_if (pt_cmpR op_eq (pe_ix ix_tup (pv 0) pe_int (fun _ _ => rfl)) pe_str (nomark _)) (pss_one (ps_ret (pe_make (T.mk_ 0 (by decide)) F0 hr3 rfl (T.mg 0 (by decide)) b0 .nil pass0 (pa_cons (pe_ix ix_tup (pv 0) pe_int (fun _ _ => rfl)) (pa_cons (pe_ix ix_tup (pv 0) pe_int (fun _ _ => rfl)) pa_nil))))) pss_nil)
      (pss_cons (ps_if (pt_cmpR op_eq (pe_ix ix_tup (pv 0) pe_int (fun _ _ => rfl)) pe_str (nomark _)) (pss_one (ps_ret (pe_make (T.mk_ 1 (by decide)) F1 hr3 rfl (T.mg 1 (by decide)) b1 .nil pass0 (pa_cons (pe_ix ix_tup (pv 0) pe_int (fun _ _ => rfl)) (pa_cons (pe_ix ix_tup (pv 0) pe_int (fun _ _ => rfl)) pa_nil))))) pss_nil)
      (pss_cons (ps_if (pt_cmpR op_eq (pe_ix ix_tup (pv 0) pe_int (fun _ _ => rfl)) pe_str (nomark _)) (pss_one (ps_ret (pe_make (T.mk_ 2 (by decide)) F2 hr3 rfl (T.mg 2 (by decide)) b2 .nil pass0 (pa_cons (pe_ix ix_tup (pv 0) pe_int (fun _ _ => rfl)) (pa_cons (pe_ix ix_tup (pv 0) pe_int (fun _ _ => rfl)) pa_nil))))) pss_nil)
      (pss_cons (ps_if (pt_cmpR op_eq (pe_ix ix_tup (pv 0) pe_int (fun _ _ => rfl)) pe_str (nomark _)) (pss_one (ps_ret (pe_make (T.mk_ 3 (by decide)) F3 hr3 rfl (T.mg 3 (by decide)) b3 .nil pass0 (pa_cons (pe_ix ix_tup (pv 0) pe_int (fun _ _ => rfl)) (pa_cons (pe_ix ix_tup (pv 0) pe_int (fun _ _ => rfl)) (pa_cons (pe_ix ix_tup (pv 0) pe_int (fun _ _ => rfl)) (pa_cons (pe_ix ix_tup (pv 0) pe_int (fun _ _ => rfl)) pa_nil))))))) pss_nil)
      (pss_cons (ps_if (pt_cmpR op_eq (pe_ix ix_tup (pv 0) pe_int (fun _ _ => rfl)) pe_str (nomark _)) (pss_one (ps_ret (pe_make (T.mk_ 4 (by decide)) F4 hr3 rfl (T.mg 4 (by decide)) b4 .nil pass0 (pa_cons (pe_ix ix_tup (pv 0) pe_int (fun _ _ => rfl)) (pa_cons (pe_ix ix_tup (pv 0) pe_int (fun _ _ => rfl)) pa_nil))))) pss_nil)
      (pss_cons (ps_if (pt_cmpR op_eq (pe_ix ix_tup (pv 0) pe_int (fun _ _ => rfl)) pe_str (nomark _)) (pss_one (ps_ret (pe_make (T.mk_ 5 (by decide)) F5 hr3 rfl (T.mg 5 (by decide)) b5 .nil pass0 (pa_cons (pe_ix ix_tup (pv 0) pe_int (fun _ _ => rfl)) (pa_cons (pe_ix ix_tup (pv 0) pe_int (fun _ _ => rfl)) pa_nil))))) pss_nil)
      (pss_one (ps_ret (pe_make (T.mk_ 6 (by decide)) F6 hr3 rfl (T.mg 6 (by decide)) b6 .nil pass0 (pa_cons (pe_ix ix_tup (pv 0) pe_int (fun _ _ => rfl)) (pa_cons (pe_ix ix_tup (pv 0) pe_int (fun _ _ => rfl)) pa_nil))))))))))), ?_⟩
    refine ⟨_, rfl, p, v, t, rfl, tv, hga, fun H1 s1 => ⟨_, rfl, ?_⟩⟩
    cases hs : stepOk t with
    | false =>
      refine iteT ?_
      refine ⟨_, rfl, fun e he => ⟨e, v, rfl, ⟨upd_same, by show 0 ≤ 1000; decide, rfl⟩, fun H2 d xa k => ⟨rfl, e, cB, some d, _, "BadStep", bmR R, rfl, xa, TX.b, ?_⟩⟩⟩
      obtain ⟨x1, x2, x3, x4⟩ := xa
      refine qf hs e d _ (fun b o hb => ?_) (s1.free he) ⟨upd_same, x2, x3, by rw [upd_ne x3]; exact x4⟩
      have hb1 := s1 _ _ hb
      have ne : b ≠ e := ne_of_none hb1 he
      rw [upd_ne ne]
      exact k b o (by rw [upd_ne ne]; exact hb1) ne
    | true =>
      refine iteF ?_
      have qt' := qt hs
      rcases step_shape hs with ⟨x, r, rfl, hl, hne⟩ | ⟨r, rfl, hl⟩
      · cases tv with
        | @tup a xs _ e0 ta =>
          cases ta with
          | @cons v0 _ us _ h0 ta =>
            cases h0
            obtain ⟨u1, u2, rfl⟩ := ta.len2 hl
            have e := s1 _ _ e0
            have dn : decide (V.str x = V.str "two") = false := by rw [dstr]; exact decide_eq_false hne
            refine ⟨_, rfl, a, _, _, _, rfl, rfl, SqT.of e, rfl, rfl, _, rfl, ite2 (fun g => ?_) (fun g => ?_)⟩
            · skip
              refine ⟨_, rfl, a, _, _, _, rfl, rfl, SqT.of e, rfl, _, rfl, a, _, _, _, rfl, rfl, SqT.of e, rfl, fun x0 dx nx nd ne => ⟨x0, dx, _, _, rfl, upd_same, rfl, qt' _ _ (s1.trans ?_)⟩⟩
              exact same_mut nx (same_mut nx (same_mut nx (same_new nd)))
            · skip
              refine ⟨_, rfl, a, _, _, _, rfl, rfl, SqT.of e, rfl, rfl, _, rfl, ite2 (fun g => ?_) (fun g => ?_)⟩
              · skip
                refine ⟨_, rfl, a, _, _, _, rfl, rfl, SqT.of e, rfl, _, rfl, a, _, _, _, rfl, rfl, SqT.of e, rfl, fun x0 dx nx nd ne => ⟨x0, dx, _, _, rfl, upd_same, rfl, qt' _ _ (s1.trans ?_)⟩⟩
                exact same_mut nx (same_mut nx (same_mut nx (same_new nd)))
              · skip
                refine ⟨_, rfl, a, _, _, _, rfl, rfl, SqT.of e, rfl, rfl, _, rfl, ite2 (fun g => ?_) (fun g => ?_)⟩
                · skip
                  refine ⟨_, rfl, a, _, _, _, rfl, rfl, SqT.of e, rfl, _, rfl, a, _, _, _, rfl, rfl, SqT.of e, rfl, fun x0 dx nx nd ne => ⟨x0, dx, _, _, rfl, upd_same, rfl, qt' _ _ (s1.trans ?_)⟩⟩
                  exact same_mut nx (same_mut nx (same_mut nx (same_new nd)))
                · skip
                  refine ⟨_, rfl, a, _, _, _, rfl, rfl, SqT.of e, rfl, rfl, _, rfl, iteB dn ?_⟩
                  refine ⟨_, rfl, a, _, _, _, rfl, rfl, SqT.of e, rfl, rfl, _, rfl, ite2 (fun g => ?_) (fun g => ?_)⟩
                  · skip
                    refine ⟨_, rfl, a, _, _, _, rfl, rfl, SqT.of e, rfl, _, rfl, a, _, _, _, rfl, rfl, SqT.of e, rfl, fun x0 dx nx nd ne => ⟨x0, dx, _, _, rfl, upd_same, rfl, qt' _ _ (s1.trans ?_)⟩⟩
                    exact same_mut nx (same_mut nx (same_mut nx (same_new nd)))
                  · skip
                    refine ⟨_, rfl, a, _, _, _, rfl, rfl, SqT.of e, rfl, rfl, _, rfl, ite2 (fun g => ?_) (fun g => ?_)⟩
                    · skip
                      refine ⟨_, rfl, a, _, _, _, rfl, rfl, SqT.of e, rfl, _, rfl, a, _, _, _, rfl, rfl, SqT.of e, rfl, fun x0 dx nx nd ne => ⟨x0, dx, _, _, rfl, upd_same, rfl, qt' _ _ (s1.trans ?_)⟩⟩
                      exact same_mut nx (same_mut nx (same_mut nx (same_new nd)))
                    · skip
                      refine ⟨_, rfl, a, _, _, _, rfl, rfl, SqT.of e, rfl, _, rfl, a, _, _, _, rfl, rfl, SqT.of e, rfl, fun x0 dx nx nd ne => ⟨x0, dx, _, _, rfl, upd_same, rfl, qt' _ _ (s1.trans ?_)⟩⟩
                      exact same_mut nx (same_mut nx (same_mut nx (same_new nd)))
      · cases tv with
        | @tup a xs _ e0 ta =>
          cases ta with
          | @cons v0 _ us _ h0 ta =>
            cases h0
            obtain ⟨u1, u2, u3, u4, rfl⟩ := len4 (ta.length.trans hl)
            have e := s1 _ _ e0
            refine ⟨_, rfl, a, _, _, _, rfl, rfl, SqT.of e, rfl, rfl, _, rfl, iteB (show decide (V.str "two" = V.str "get") = false by decide +kernel) ?_⟩
            refine ⟨_, rfl, a, _, _, _, rfl, rfl, SqT.of e, rfl, rfl, _, rfl, iteB (show decide (V.str "two" = V.str "ask") = false by decide +kernel) ?_⟩
            refine ⟨_, rfl, a, _, _, _, rfl, rfl, SqT.of e, rfl, rfl, _, rfl, iteB (show decide (V.str "two" = V.str "cell") = false by decide +kernel) ?_⟩
            refine ⟨_, rfl, a, _, _, _, rfl, rfl, SqT.of e, rfl, rfl, _, rfl, iteA (show decide (V.str "two" = V.str "two") = true by decide +kernel) ?_⟩
            refine ⟨_, rfl, a, _, _, _, rfl, rfl, SqT.of e, rfl, _, rfl, a, _, _, _, rfl, rfl, SqT.of e, rfl, _, rfl, a, _, _, _, rfl, rfl, SqT.of e, rfl, _, rfl, a, _, _, _, rfl, rfl, SqT.of e, rfl, fun x0 dx nx nd ne => ⟨x0, dx, _, _, _, _, rfl, upd_same, rfl, qt' _ _ (s1.trans ?_)⟩⟩
            exact same_mut nx (same_mut nx (same_mut nx (same_mut nx (same_mut nx (same_new nd)))))
end
end L3
namespace L2
open PySem PySem.Spec PyProof.Rows
section
variable {X : Cx}
theorem isi_excK {K : PySem.W.Frag} (h : X.K = K) : CallR X (.builtin "isinstance") (fun xs H Q => ∃ e C d r fs nm bm C' nm' bm', xs = [.ref e, .ref C'] ∧ XAt H e C d r fs ∧ XC K C nm bm ∧ XC K C' nm' bm' ∧ Q (.bl ((Value.ref C :: bm).contains (.ref C'))) H) := by
  subst h; exact isi_exc
theorem isi_exc_valK {K : PySem.W.Frag} (h : X.K = K) : CallR X (.builtin "isinstance") (fun xs H Q => ∃ e C d r fs nm bm, xs = [.ref e, .ty "ValueError"] ∧ XAt H e C d r fs ∧ XC K C nm bm ∧ Q (.bl true) H) := by
  subst h; exact isi_exc_val
theorem isi_excsK {K : PySem.W.Frag} (h : X.K = K) : CallR X (.builtin "isinstance") (fun xs H Q => ∃ e C d r fs nm bm tp cs, xs = [.ref e, .ref tp] ∧ XAt H e C d r fs ∧ XC K C nm bm ∧ H tp = some (.tup (cs.map V.ref)) ∧ XCs K cs ∧ Q (.bl (cs.any fun C' => (Value.ref C :: bm).contains (.ref C'))) H) := by
  subst h; exact isi_excs
theorem pe_fldXK {K : PySem.W.Frag} {e : Expr} {f : Str} {ta : TE} {pos : Pos} (h : X.K = K) (he : PE X e ta) (hb : attributeBase e f X.env (eval e X.env) = eval e X.env) : PE X (.Attribute e f pos) (tFldX K ta f) := by
  subst h; exact pe_fldX he hb
def rEqSelf (K : PySem.W.Frag) : R2 := fun x y H Q => y = x ∧ (∃ a, x = .ref a ∧ RefTh K H a) ∧ Q (.bl true) H
theorem op_eqSelf {k : Nat} (hr : Room k X.A) : OpR X (compareOp .Eq) (rEqSelf X.K) := by
  intro pins s σ H x y v u Q I rx ry h
  obtain ⟨rfl, ⟨a, rfl, t⟩, q⟩ := h
  have hu : X.A.units < cLine := by
    have := hr.un
    lia
  have ea : ∀ n : Nat, ((List.range n).all fun _ => true) = true := fun n => List.all_eq_true.mpr fun _ _ => rfl
  rcases t with ⟨xs, t⟩ | ⟨xs, t⟩ | ⟨kvs, t⟩
  · cases rx
    cases ry
    obtain ⟨its, _, pl, _⟩ := I.list t
    refine SeqAt.eq_listAt (e := fun _ => true) pl.isList pl.isList rfl hu (fun j _ _ => SeqAt.EqAt.same _) ?_
    rw [ea]
    exact ⟨.bl true, H, I, by first | rfl | (simp; rfl), q⟩
  · cases rx
    cases ry
    obtain ⟨its, _, pl, _⟩ := I.tuple t
    refine SeqAt.eq_tupleAt (e := fun _ => true) pl pl hu (fun j _ _ => SeqAt.EqAt.same _) ?_
    rw [ea]
    exact ⟨.bl true, H, I, by first | rfl | (simp; rfl), q⟩
  · exact op_eqSame hr pins s σ H (.ref a) (.ref a) v u Q I rx ry ⟨rfl, .inr ⟨a, kvs, rfl, t⟩, q⟩
end
end L2
namespace L3
open PySem L2
theorem TgV.self {K : PySem.W.Frag} {p : Addr} {H : Hp} {v : V} {t : Th} (h : TgV p H v t) {Q : VK} (q : Q (.bl true) H) : rOr rEq (rEqSelf K) v v H Q := by
  cases h with
  | non => exact .inl ⟨rfl, by rw [decide_eq_true rfl]; exact q⟩
  | int i => exact .inl ⟨rfl, by rw [decide_eq_true rfl]; exact q⟩
  | str x => exact .inl ⟨rfl, by rw [decide_eq_true rfl]; exact q⟩
  | tup e _ => exact .inr ⟨rfl, ⟨_, rfl, .inr (.inl ⟨_, SqT.of e⟩)⟩, q⟩
  | lst _ e _ => exact .inr ⟨rfl, ⟨_, rfl, .inl ⟨_, SqL.of e⟩⟩, q⟩
  | dct _ e => exact .inr ⟨rfl, ⟨_, rfl, .inr (.inr ⟨_, e⟩)⟩, q⟩
def spSaid (ok : Th → Bool) (gd : Th → Prop) : Sp := fun vs H Q _ => ∃ (p : Addr) (v : V) (t : Th), vs = [v] ∧ TgV p H v t ∧ gd t ∧ (ok t = true → ∀ H', Same H H' → Q .non H') ∧ (ok t = false → ∀ r H', Same H H' → H' r = some (.tup [.bl false, .bl true, v]) → Q (.ref r) H')
def spX (cB : Addr) (ok : Th → Bool) (gd : Th → Prop) : Sp := fun vs H Q E => ∃ (p : Addr) (v : V) (t : Th), vs = [v] ∧ TgV p H v t ∧ gd t ∧ (ok t = true → ∀ u H', Same H H' → Q u H') ∧ (ok t = false → Refuse cB v H E)
def FnX (P : Program) (w : World) (K : PySem.W.Frag) (mg : Str → Option Value) (base : Heap) (x : Str) (k : Nat) (ps : List Str) (sp : Sp) : Prop :=
  ∃ (f : Addr) (fd : FuncData), mg x = some (.ref f) ∧ PySem.W.keepIn K (.ref f) = true ∧ Binds K fd ps [] ∧ FnOk P w K mg base (CX1 P w) k f fd ps sp
theorem FnX.calm {P : Program} {w : World} {K : PySem.W.Frag} {mg : Str → Option Value} {base : Heap} {x : Str} {k : Nat} {ps : List Str} {sp : Sp} (h : FnX P w K mg base x k ps sp) : Fn P w K mg base x k ps (fun vs H Q _ => sp vs H Q E0) :=
  let ⟨f, fd, a, b, c, d⟩ := h; ⟨f, fd, a, b, c, d.calm⟩
def spRefused : Sp := fun vs H Q _ => ∃ (p r : Addr) (v : V) (t : Th), vs = [.ref r, v] ∧ H r = some (.tup [.bl false, .bl true, v]) ∧ TgV p H v t ∧ ∀ H', Same H H' → Q (.bl true) H'
section
variable {P : Program} {w : World} {K : PySem.W.Frag} {mg : Str → Option Value} {base : Heap} {R fR cB fB cL cK cW cS : Addr}
theorem scSaid : FnScope ["_law_thing", "_law_found", "e"] ["_law_thing"] (defScope sStepSaid) := ⟨rfl, rfl, rfl, by decide +kernel, rfl, by decide +kernel, by decide +kernel⟩
theorem boot_val' : bootBuiltins "ValueError" = some (.type "ValueError") := by decide +kernel
set_option maxHeartbeats 4000000 in
theorem ok_stepSaid {f : Addr} {fd : FuncData} {gd : Th → Prop} {ok : Th → Bool} (F : Fun K "_law_step_said" "_law_step_said" sStepSaid f fd) (B : Bl mg) (TX : Xs K mg R fR cB fB cL cK cW cS) (SF : FnX P w K mg base "step_of" 6 ["told"] (spX cB ok gd)) : FnOk P w K mg base CX0 7 f fd ["_law_thing"] (spSaid ok gd) := by
  refine F.ok scSaid (fun vs H Q E h => ?_) (fun cdv A outer s H vs Q E hr h => ?_)
  · obtain ⟨p, v, t, rfl, _⟩ := h
    rfl
  · obtain ⟨p, v, t, rfl, tv, hga, qt, qf⟩ := h
    obtain ⟨f1, fd1, m1, k1, b1, F1⟩ := SF
    refine ⟨_, pss_cons (ps_set (i := 1) scSaid.nd rfl (Or.inl rfl) pe_non)
      (pss_cons (ps_try (i := 2) rfl (fun pn ES => pss_one (ps_expr (pe_callX F1 hr rfl m1 k1 b1 .nil esc_self (pa_cons (pv 0) pa_nil)))) (fun A pn => pss_one (ps_if (pt_val (pe_callB (isi_excK (K := K) rfl) (by rfl) B.isinstance boot_isi (pa_cons (pv 2) (pa_cons (pe_glob (v := .ref cB) rfl TX.mB rfl) pa_nil))))
          (pss_one (ps_set (i := 1) scSaid.nd rfl (Or.inl rfl) (pe_tup (pa_cons (pe_callB (isi_excsK (K := K) rfl) (by rfl) B.isinstance boot_isi (pa_cons (pv 2) (pa_cons (pe_tup (pa_cons (pe_glob (v := .ref cL) rfl TX.mL rfl) (pa_cons (pe_glob (v := .ref cK) rfl TX.mK rfl) (pa_cons (pe_glob (v := .ref cW) rfl TX.mW rfl) (pa_cons (pe_glob (v := .ref cS) rfl TX.mS rfl) pa_nil))))) pa_nil)))
            (pa_cons (pe_callB (isi_exc_valK (K := K) rfl) (by rfl) B.isinstance boot_isi (pa_cons (pv 2) (pa_cons (pe_ty (by rfl) TX.val boot_val') pa_nil))) (pa_cons (pe_fldXK (K := K) rfl (pv 2) rfl) pa_nil))))))
          (pss_one (ps_set (i := 1) scSaid.nd rfl (Or.inl rfl) (pe_tup (pa_cons pe_bl (pa_cons pe_bl (pa_cons pe_str pa_nil)))))))) rfl TX.mR TX.r scSaid.nd rfl rfl)
      (pss_one (ps_ret (pv 1)))), ?_⟩
    refine ⟨_, rfl, p, v, t, rfl, tv, hga, fun hok u H1 s1 => ⟨_, rfl, qt hok _ s1⟩, fun hok e d H1 s1 _ xa => ?_⟩
    have hc1 : (Value.ref cB :: bmR R).contains (.ref R) = true := by simp [List.contains_cons]
    have hc2 : (Value.ref cB :: bmR R).contains (.ref cB) = true := by simp [List.contains_cons]
    have no : ∀ {c : Addr} {nm : Str}, XC K c nm (bmR R) → ¬ nm = "BadStep" → ¬ nm = "RowsError" → (Value.ref cB :: bmR R).contains (.ref c) = false := fun xc h1 h2 => by
      have n1 := TX.b.ne xc (Ne.symm h1)
      have n2 := TX.r.ne xc (Ne.symm h2)
      simp [List.contains_cons, n1.symm, n2.symm]
    refine ⟨e, cB, some d, _, "BadStep", bmR R, rfl, xa, TX.b, hc1, ?_⟩
    refine ⟨_, rfl, e, cB, some d, true, _, "BadStep", bmR R, cB, "BadStep", bmR R, rfl, xa, TX.b, TX.b, _, rfl, iteA hc2 ?_⟩
    refine ⟨_, rfl, (by show 4 ≤ sizeLine; decide), fun tp np => ⟨e, cB, some d, true, _, "BadStep", bmR R, tp, [cL, cK, cW, cS], rfl, xa.same (same_new np), TX.b, upd_same, .cons TX.l (.cons TX.k (.cons TX.w (.cons TX.s .nil))), ?_⟩⟩
    have xa2 := xa.same (same_new (o := .tup [.ref cL, .ref cK, .ref cW, .ref cS]) np)
    have s2 : Same H (upd H1 tp (.tup [.ref cL, .ref cK, .ref cW, .ref cS])) := s1.trans (same_new np)
    generalize upd H1 tp (.tup [V.ref cL, .ref cK, .ref cW, .ref cS]) = H2 at *
    have ef : ([cL, cK, cW, cS].any fun C' => (Value.ref cB :: bmR R).contains (.ref C')) = false := by
      rw [List.any_cons, List.any_cons, List.any_cons, List.any_cons, no TX.l (by decide +kernel) (by decide +kernel), no TX.k (by decide +kernel) (by decide +kernel), no TX.w (by decide +kernel) (by decide +kernel), no TX.s (by decide +kernel) (by decide +kernel)]
      rfl
    rw [ef]
    refine ⟨_, rfl, e, cB, some d, true, _, "BadStep", bmR R, rfl, xa2, TX.b, ?_⟩
    refine ⟨_, rfl, e, cB, d, true, _, "BadStep", bmR R, v, rfl, xa2, TX.b, TX.na, rfl, (by show 3 ≤ sizeLine; decide), fun r nr => ?_⟩
    exact ⟨_, rfl, qf hok r _ (s2.trans (same_new nr)) upd_same⟩
theorem scLSaid : FnScope ["_law_thing", "_law_found", "e"] ["_law_thing"] (defScope sLittleSaid) := ⟨rfl, rfl, rfl, by decide +kernel, rfl, by decide +kernel, by decide +kernel⟩
set_option maxHeartbeats 4000000 in
theorem ok_littleSaid {f : Addr} {fd : FuncData} {gd : Th → Prop} {ok : Th → Bool} (F : Fun K "_law_little_said" "_law_little_said" sLittleSaid f fd) (B : Bl mg) (TX : Xs K mg R fR cB fB cL cK cW cS) (SF : FnX P w K mg base "little_of" 7 ["told"] (spX cB ok gd)) : FnOk P w K mg base CX0 8 f fd ["_law_thing"] (spSaid ok gd) := by
  refine F.ok scLSaid (fun vs H Q E h => ?_) (fun cdv A outer s H vs Q E hr h => ?_)
  · obtain ⟨p, v, t, rfl, _⟩ := h
    rfl
  · obtain ⟨p, v, t, rfl, tv, hga, qt, qf⟩ := h
    obtain ⟨f1, fd1, m1, k1, b1, F1⟩ := SF
    refine ⟨_, pss_cons (ps_set (i := 1) scLSaid.nd rfl (Or.inl rfl) pe_non)
      (pss_cons (ps_try (i := 2) rfl (fun pn ES => pss_one (ps_expr (pe_callX F1 hr rfl m1 k1 b1 .nil esc_self (pa_cons (pv 0) pa_nil)))) (fun A pn => pss_one (ps_if (pt_val (pe_callB (isi_excK (K := K) rfl) (by rfl) B.isinstance boot_isi (pa_cons (pv 2) (pa_cons (pe_glob (v := .ref cB) rfl TX.mB rfl) pa_nil))))
          (pss_one (ps_set (i := 1) scLSaid.nd rfl (Or.inl rfl) (pe_tup (pa_cons (pe_callB (isi_excsK (K := K) rfl) (by rfl) B.isinstance boot_isi (pa_cons (pv 2) (pa_cons (pe_tup (pa_cons (pe_glob (v := .ref cL) rfl TX.mL rfl) (pa_cons (pe_glob (v := .ref cK) rfl TX.mK rfl) (pa_cons (pe_glob (v := .ref cW) rfl TX.mW rfl) (pa_cons (pe_glob (v := .ref cS) rfl TX.mS rfl) pa_nil))))) pa_nil)))
            (pa_cons (pe_callB (isi_exc_valK (K := K) rfl) (by rfl) B.isinstance boot_isi (pa_cons (pv 2) (pa_cons (pe_ty (by rfl) TX.val boot_val') pa_nil))) (pa_cons (pe_fldXK (K := K) rfl (pv 2) rfl) pa_nil))))))
          (pss_one (ps_set (i := 1) scLSaid.nd rfl (Or.inl rfl) (pe_tup (pa_cons pe_bl (pa_cons pe_bl (pa_cons pe_str pa_nil)))))))) rfl TX.mR TX.r scLSaid.nd rfl rfl)
      (pss_one (ps_ret (pv 1)))), ?_⟩
    refine ⟨_, rfl, p, v, t, rfl, tv, hga, fun hok u H1 s1 => ⟨_, rfl, qt hok _ s1⟩, fun hok e d H1 s1 _ xa => ?_⟩
    have hc1 : (Value.ref cB :: bmR R).contains (.ref R) = true := by simp [List.contains_cons]
    have hc2 : (Value.ref cB :: bmR R).contains (.ref cB) = true := by simp [List.contains_cons]
    have no : ∀ {c : Addr} {nm : Str}, XC K c nm (bmR R) → ¬ nm = "BadStep" → ¬ nm = "RowsError" → (Value.ref cB :: bmR R).contains (.ref c) = false := fun xc h1 h2 => by
      have n1 := TX.b.ne xc (Ne.symm h1)
      have n2 := TX.r.ne xc (Ne.symm h2)
      simp [List.contains_cons, n1.symm, n2.symm]
    refine ⟨e, cB, some d, _, "BadStep", bmR R, rfl, xa, TX.b, hc1, ?_⟩
    refine ⟨_, rfl, e, cB, some d, true, _, "BadStep", bmR R, cB, "BadStep", bmR R, rfl, xa, TX.b, TX.b, _, rfl, iteA hc2 ?_⟩
    refine ⟨_, rfl, (by show 4 ≤ sizeLine; decide), fun tp np => ⟨e, cB, some d, true, _, "BadStep", bmR R, tp, [cL, cK, cW, cS], rfl, xa.same (same_new np), TX.b, upd_same, .cons TX.l (.cons TX.k (.cons TX.w (.cons TX.s .nil))), ?_⟩⟩
    have xa2 := xa.same (same_new (o := .tup [.ref cL, .ref cK, .ref cW, .ref cS]) np)
    have s2 : Same H (upd H1 tp (.tup [.ref cL, .ref cK, .ref cW, .ref cS])) := s1.trans (same_new np)
    generalize upd H1 tp (.tup [V.ref cL, .ref cK, .ref cW, .ref cS]) = H2 at *
    have ef : ([cL, cK, cW, cS].any fun C' => (Value.ref cB :: bmR R).contains (.ref C')) = false := by
      rw [List.any_cons, List.any_cons, List.any_cons, List.any_cons, no TX.l (by decide +kernel) (by decide +kernel), no TX.k (by decide +kernel) (by decide +kernel), no TX.w (by decide +kernel) (by decide +kernel), no TX.s (by decide +kernel) (by decide +kernel)]
      rfl
    rw [ef]
    refine ⟨_, rfl, e, cB, some d, true, _, "BadStep", bmR R, rfl, xa2, TX.b, ?_⟩
    refine ⟨_, rfl, e, cB, d, true, _, "BadStep", bmR R, v, rfl, xa2, TX.b, TX.na, rfl, (by show 3 ≤ sizeLine; decide), fun r nr => ?_⟩
    exact ⟨_, rfl, qf hok r _ (s2.trans (same_new nr)) upd_same⟩
theorem scRef : FnScope ["_law_found", "_law_thing"] ["_law_found", "_law_thing"] (defScope sRefused) := ⟨rfl, rfl, rfl, by decide +kernel, rfl, by decide +kernel, by decide +kernel⟩
theorem ok_refused {f : Addr} {fd : FuncData} (F : Fun K "_law_refused" "_law_refused" sRefused f fd) : FnOk P w K mg base CX0 1 f fd ["_law_found", "_law_thing"] spRefused := by
  refine F.ok scRef (fun vs H Q E h => ?_) (fun cdv A outer s H vs Q E hr h => ?_)
  · obtain ⟨p, r, v, t, rfl, _⟩ := h
    rfl
  · obtain ⟨p, r, v, t, rfl, er, tv, q⟩ := h
    refine ⟨_, pss_one (ps_ret (pe_and (pe_cmpR op_notN (pv 0) pe_non (nomark _)) (pe_and (pe_cmpR (op_eqD hr) (pe_slice sl_tup (pv 0) po_none (po_some pe_int)) (pe_tup (pa_cons pe_bl (pa_cons pe_bl pa_nil))) (nomark _)) (pe_one (pe_cmpR (op_either op_eq (op_eqSelf hr)) (pe_ix ix_tup (pv 0) pe_int (fun _ _ => rfl)) (pv 1) (nomark _)))))), ?_⟩
    refine ⟨_, rfl, rfl, _, rfl, iteA (by simp) ?_⟩
    refine ⟨_, rfl, _, rfl, r, _, rfl, SqT.of er, (by show ¬ (HT.sIx 3 0 none = 0 ∧ HT.sIx 3 3 (some 2) = 3); decide), fun ts ns => ?_⟩
    rw [show cutV [.bl false, .bl true, v] none (some 2) = [.bl false, .bl true] from rfl]
    have s1 := same_new (o := .tup [.bl false, .bl true]) ns
    have e1 : (upd H ts (.tup [.bl false, .bl true])) ts = some (.tup [.bl false, .bl true]) := upd_same
    generalize upd H ts (.tup [V.bl false, .bl true]) = H1 at *
    refine ⟨(by show 2 ≤ sizeLine; decide), fun tt nt => ?_⟩
    have s2 := same_new (o := .tup [.bl false, .bl true]) nt
    have e2 : (upd H1 tt (.tup [.bl false, .bl true])) tt = some (.tup [.bl false, .bl true]) := upd_same
    generalize upd H1 tt (.tup [V.bl false, .bl true]) = H2 at *
    refine ⟨.tuple [.bool false, .bool true], .tuple [.bool false, .bool true], .tup (SqT.of (s2 _ _ e1)) (.cons (.bl _) (.cons (.bl _) .nil)), .tup (SqT.of e2) (.cons (.bl _) (.cons (.bl _) .nil)), by decide +kernel, by decide +kernel, by decide +kernel, _, rfl, iteA (by decide +kernel) ?_⟩
    refine ⟨_, rfl, r, _, _, v, rfl, rfl, SqT.of ((s1.trans s2) _ _ er), rfl, _, rfl, ?_⟩
    exact (tv.same (s1.trans s2)).self (q _ (s1.trans s2))
abbrev sLitI : Stmt := inClass (top 59) 0
def spLitI (C : Addr) : Sp := fun vs H Q _ => ∃ (x dx l : Addr) (us : List V) (o : V), vs = [.ref x, .ref l, o] ∧ H x = some (.ins C dx []) ∧ H l = some (.lst us) ∧ ∀ tp, H tp = none → Q .non (upd (upd (upd H tp (.tup us)) x (.ins C dx [("steps", .ref tp)])) x (.ins C dx [("steps", .ref tp), ("on", o)]))
theorem scLitI : FnScope ["self", "steps", "on"] ["self", "steps", "on"] (defScope sLitI) := ⟨rfl, rfl, rfl, by decide +kernel, rfl, by decide +kernel, by decide +kernel⟩
theorem ok_litI {f cT : Addr} {fd : FuncData} (F : Fun K "__init__" "Little.__init__" sLitI f fd) (B : Bl mg) (c : Cls K cT) (n1 : NoAttr K cT "steps") (n2 : NoAttr K cT "on") : FnOk P w K mg base CX0 1 f fd ["self", "steps", "on"] (spLitI cT) := by
  refine F.ok scLitI (fun vs H Q E h => ?_) (fun cdv A outer s H vs Q E hr h => ?_)
  · obtain ⟨x, dx, l, us, o, rfl, _⟩ := h
    rfl
  · obtain ⟨x, dx, l, us, o, rfl, hx, hl, q⟩ := h
    refine ⟨_, pss_cons (ps_fld (pv 0) (pe_callTy call_tuple_of (by rfl) B.tuple boot_tuple' (pa_cons (pv 1) pa_nil)) rfl) (pss_one (ps_fld (pv 0) (pv 2) rfl)), ?_⟩
    refine ⟨_, rfl, l, us, rfl, .inl ⟨SqL.of hl, fun tp np => ?_⟩⟩
    have hx1 : (upd H tp (.tup us)) x = some (.ins cT dx []) := by rw [upd_ne (ne_of_none hx np)]; exact hx
    have q' := q tp np
    refine ⟨_, rfl, x, cT, dx, _, rfl, hx1, c, n1, (by show 0 < 1000; decide), ?_⟩
    exact ⟨_, rfl, _, rfl, x, cT, dx, _, rfl, upd_same, c, n2, (by show 1 < 1000; decide), q'⟩
theorem lit_shape {t : Th} (h : littleOk t = true) : ∃ ss on, t = .tup [.tup ss, on] ∧ ss.length ≤ 16 ∧ ∀ s ∈ ss, stepOk s = true := by
  match t with
  | .tup [.tup ss, on] =>
    have h' : (decide (ss.length ≤ 16) && (ss.all stepOk && onOk on)) = true := h
    rw [Bool.and_eq_true, Bool.and_eq_true, decide_eq_true_iff] at h'
    exact ⟨ss, on, rfl, h'.1, List.all_eq_true.mp h'.2.1⟩
  | .tup [] => cases h
  | .tup [.non] => cases h
  | .tup [.int _] => cases h
  | .tup [.str _] => cases h
  | .tup [.tup _] => cases h
  | .tup [.lst _] => cases h
  | .tup [.dct] => cases h
  | .tup (.non :: _ :: _) => cases h
  | .tup (.int _ :: _ :: _) => cases h
  | .tup (.str _ :: _ :: _) => cases h
  | .tup (.lst _ :: _ :: _) => cases h
  | .tup (.dct :: _ :: _) => cases h
  | .tup (.tup _ :: _ :: _ :: _) => cases h
  | .non => cases h
  | .int _ => cases h
  | .str _ => cases h
  | .lst _ => cases h
  | .dct => cases h
theorem scLitOf : FnScope ["told"] ["told"] (defScope sLittleOf) := ⟨rfl, rfl, rfl, by decide +kernel, rfl, by decide +kernel, by decide +kernel⟩
theorem ndLitOf : (["step"] : List Str).Nodup := by decide +kernel
set_option maxHeartbeats 8000000 in
theorem ok_littleOf {f cT fT : Addr} {fd fdB : FuncData} (F : Fun K "little_of" "little_of" sLittleOf f fd) (TX : Xs K mg R fR cB fB cL cK cW cS) (FB : FnOk P w K mg base CX0 2 fB fdB ["self", "thing"] (spNK cB)) (BB : Binds K fdB ["self", "thing"] []) (IL : Fn P w K mg base "is_little" 6 ["thing"] (spAsk littleOk LitG)) (SF : Fn P w K mg base "step_of" 6 ["told"] (fun vs H Q _ => spX cB stepOk HgA vs H Q E0))
    (mk_ : Mk K cT fT) (mT : mg "Little" = some (.ref cT)) (I0 : IniOk P w K mg base fT ["self", "steps", "on"] (spLitI cT)) : FnOk P w K mg base (CX1 P w) 7 f fd ["told"] (spX cB littleOk LitG) := by
  refine F.okX scLitOf (fun vs H Q E h => ?_) (fun cdv A outer s H vs Q E hr h => ?_)
  · obtain ⟨p, v, t, rfl, _⟩ := h
    rfl
  · obtain ⟨p, v, t, rfl, tv, hga, qt, qf⟩ := h
    have sz : (100000 : Nat) ≤ sizeLine := by decide
    have hr2 : Room 3 _ := hr.mono (by decide)
    have hr3 : Room 2 _ := hr.mono (by decide)
    obtain ⟨fd0, F0, b0⟩ := I0
    refine ⟨_, pss_cons (ps_if (pt_not (pt_val (pe_fn IL hr rfl (pa_cons (pv 0) pa_nil)))) (pss_one (ps_raise (pe_makeX TX.b TX.mkx FB hr2 rfl TX.mB BB pass0 (by decide) (pa_cons (pv 0) pa_nil)) esc_self rfl)) pss_nil)
      (pss_one (ps_ret (pe_make mk_ F0 hr3 rfl mT b0 .nil pass0 (pa_cons (pe_lc (N' := ["step"]) (ix := [none]) (sc0 := defScope sLittleOf) (N := ["told"]) rfl (by decide +kernel) (pi_tup (pe_ix ix_tup (pv 0) pe_int (fun _ _ => rfl)))
          (fun C' cl s H fp => pg_name (i := 0) ndLitOf rfl (Or.inl rfl) (.inr rfl)) (fun _ _ _ _ _ => pf_nil) (fun C' cl s H fp => pe_fn SF hr rfl (pa_cons (pv 0) pa_nil))) (pa_cons (pe_ix ix_tup (pv 0) pe_int (fun _ _ => rfl)) pa_nil))))), ?_⟩
    refine ⟨_, rfl, p, v, t, rfl, tv, hga, fun H1 s1 => ⟨_, rfl, ?_⟩⟩
    cases hs : littleOk t with
    | false =>
      refine iteT ?_
      refine ⟨_, rfl, fun e he => ⟨e, v, rfl, ⟨upd_same, by show 0 ≤ 1000; decide, rfl⟩, fun H2 d xa k => ⟨rfl, e, cB, some d, _, "BadStep", bmR R, rfl, xa, TX.b, ?_⟩⟩⟩
      obtain ⟨x1, x2, x3, x4⟩ := xa
      refine qf hs e d _ (fun b o hb => ?_) (s1.free he) ⟨upd_same, x2, x3, by rw [upd_ne x3]; exact x4⟩
      have hb1 := s1 _ _ hb
      have ne : b ≠ e := ne_of_none hb1 he
      rw [upd_ne ne]
      exact k b o (by rw [upd_ne ne]; exact hb1) ne
    | true =>
      refine iteF ?_
      have qt' := qt hs
      obtain ⟨ss, on, rfl, l16, hall⟩ := lit_shape hs
      obtain ⟨hg1, _, _⟩ := hga ss on rfl
      cases tv with
      | @tup a xs _ e0 ta =>
        obtain ⟨x, y, tx, ty, rfl, ets, hx, hy⟩ := ta.two rfl
        cases ets
        cases hx with
        | @tup b us _ eb tb =>
          have e := s1 _ _ e0
          have eb1 := s1 _ _ eb
          have hl2 := tb.length
          refine ⟨_, rfl, a, _, _, _, rfl, rfl, SqT.of e, rfl, b, rfl, ⟨_, SqT.of eb1⟩, ?_⟩
          refine lc_tup (K := K) (a := b) (xs := us) (fun i ys H' => Same H1 H' ∧ ys.length = i) ⟨Same.refl _, rfl⟩ (fun i ys H' hi ⟨s', e'⟩ => ⟨SqT.of (s' _ _ eb1), by lia⟩) ?_ ?_
          · rintro i z ys H2 hz ⟨s2, hl3⟩
            have hlt : i < us.length := (List.getElem?_eq_some_iff.mp hz).1
            obtain ⟨tz, etz, hzt⟩ := tb.get hz
            have hm := List.mem_of_getElem? etz
            refine ⟨trivial, tAny_T ⟨_, rfl, p, z, tz, rfl, hzt.same (s1.trans s2), hg1 tz hm, fun _ u H3 s3 => Nx.mk hlt ⟨s2.trans s3, by rw [List.length_append, hl3]; rfl⟩, fun hf => ?_⟩⟩
            rw [hall tz hm] at hf
            cases hf
          · rintro ys H2 ⟨s2, hl3⟩ D nD
            have s3 := same_new (o := .lst ys) nD
            have e3 : (upd H2 D (.lst ys)) D = some (.lst ys) := upd_same
            generalize upd H2 D (.lst ys) = H3 at *
            have s13 := s2.trans s3
            refine ⟨_, rfl, a, _, _, _, rfl, rfl, SqT.of (s13 _ _ e), rfl, fun x0 dx nx nd ne => ⟨x0, dx, D, ys, _, rfl, upd_same, ?_, fun tp np => ?_⟩⟩
            · exact same_mut nx (same_new nd) _ _ e3
            · exact ⟨rfl, qt' _ _ ((s1.trans s13).trans (same_mut nx (same_mut nx ((same_mut nx (same_new nd)).trans (same_new np)))))⟩
end
end L3
namespace L3
open PySem L2
theorem Strm.kt {p : Addr} {H H' : Hp} (g : Strm H p) (b : But p H H') : TupK H H' := fun a xs e => b a _ e (by
  rintro rfl
  obtain ⟨x, y, z, h⟩ := g
  rw [h] at e
  cases e)
inductive SelT : Th → Prop
  | is (i : Nat) : i < 4 → SelT (.tup [.str "is", .int i])
  | «by» (i : Nat) : i < 3 → SelT (.tup [.str "by", .int i])
inductive SrcT : Th → Prop
  | fld (i : Nat) : i < 3 → SrcT (.tup [.str "field", .int i])
  | num (i : Nat) : i < 16777216 → SrcT (.tup [.str "number", .int i])
  | inn (i : Nat) : i < 8 → SrcT (.tup [.str "in", .int i])
inductive StpT : Th → Prop
  | get (k : Nat) {s : Th} : k < 8 → SelT s → StpT (.tup [.str "get", .int k, s])
  | ask (k : Nat) {s : Th} : k < 8 → SelT s → StpT (.tup [.str "ask", .int k, s])
  | cell (k : Nat) {s : Th} : k < 8 → SrcT s → StpT (.tup [.str "cell", .int k, s])
  | two (k : Nat) {o : Str} {a b : Th} : k < 8 → o ∈ opsL → SrcT a → SrcT b → StpT (.tup [.str "two", .int k, .str o, a, b])
  | put {s a : Th} : SelT s → SrcT a → StpT (.tup [.str "put", s, a])
  | tell {s a : Th} : SelT s → SrcT a → StpT (.tup [.str "tell", s, a])
  | store {a b : Th} : SrcT a → SrcT b → StpT (.tup [.str "store", a, b])
def spDraw (C : Th → Prop) : Sp := fun vs H Q _ => ∃ p : Addr, vs = [.ref p] ∧ Strm H p ∧ ∀ v t H', TgV p H' v t → C t → Strm H' p → But p H H' → Q v H'
theorem ops_at {r : Nat} (h : r < 9) : ∃ f ∈ opsL, atI (opsL.map V.str) (r : Int) = some (.str f) := by
  rcases (by lia : r = 0 ∨ r = 1 ∨ r = 2 ∨ r = 3 ∨ r = 4 ∨ r = 5 ∨ r = 6 ∨ r = 7 ∨ r = 8) with rfl | rfl | rfl | rfl | rfl | rfl | rfl | rfl | rfl <;> exact ⟨_, by decide +kernel, rfl⟩
theorem SelT.ok {t : Th} (h : SelT t) : selOk t = true ∧ hg t = true := by
  cases h with
  | is i hi => exact ⟨by show (decide ((0 : Int) ≤ (i : Int)) && decide ((i : Int) ≤ 3)) = true; rw [decide_eq_true (by lia), decide_eq_true (by lia)]; rfl, rfl⟩
  | «by» i hi => exact ⟨by show (decide ((0 : Int) ≤ (i : Int)) && decide ((i : Int) ≤ 2)) = true; rw [decide_eq_true (by lia), decide_eq_true (by lia)]; rfl, rfl⟩
theorem SrcT.ok {t : Th} (h : SrcT t) : srcOk t = true ∧ hg t = true := by
  cases h with
  | fld i hi => exact ⟨by show (decide ((0 : Int) ≤ (i : Int)) && decide ((i : Int) ≤ 2)) = true; rw [decide_eq_true (by lia), decide_eq_true (by lia)]; rfl, rfl⟩
  | num i hi => exact ⟨by show (decide ((0 : Int) ≤ (i : Int)) && decide ((i : Int) ≤ 16777215)) = true; rw [decide_eq_true (by lia), decide_eq_true (by lia)]; rfl, rfl⟩
  | inn i hi => exact ⟨by show (decide ((0 : Int) ≤ (i : Int)) && decide ((i : Int) ≤ 7)) = true; rw [decide_eq_true (by lia), decide_eq_true (by lia)]; rfl, rfl⟩
theorem wn7 {k : Nat} (h : k < 8) : wn 0 7 (.int k) = true := by
  show (decide ((0 : Int) ≤ (k : Int)) && decide ((k : Int) ≤ 7)) = true
  rw [decide_eq_true (by lia), decide_eq_true (by lia)]
  rfl
section
variable {P : Program} {w : World} {K : PySem.W.Frag} {mg : Str → Option Value} {base : Heap}
theorem scLSel : FnScope ["_law_stream_here"] ["_law_stream_here"] (defScope sLSel) := ⟨rfl, rfl, rfl, by decide +kernel, rfl, by decide +kernel, by decide +kernel⟩
theorem scLSource : FnScope ["_law_stream_here", "_law_way"] ["_law_stream_here"] (defScope sLSource) := ⟨rfl, rfl, rfl, by decide +kernel, rfl, by decide +kernel, by decide +kernel⟩
theorem scLStep : FnScope ["_law_stream_here", "_law_word", "_law_op"] ["_law_stream_here"] (defScope sLStep) := ⟨rfl, rfl, rfl, by decide +kernel, rfl, by decide +kernel, by decide +kernel⟩
set_option maxHeartbeats 1000000 in
theorem ok_lSel {f : Addr} {fd : FuncData} (F : Fun K "_law_sel" "_law_sel" sLSel f fd) (TK : Fn P w K mg base "_law_take" 1 ["_law_stream_here", "_law_many"] spTake) : FnOk P w K mg base CX0 2 f fd ["_law_stream_here"] (spDraw SelT) := by
  refine F.ok scLSel (fun vs H Q E h => ?_) (fun cdv A outer s H vs Q E hr h => ?_)
  · obtain ⟨p, rfl, _⟩ := h
    rfl
  · obtain ⟨p, rfl, hp, q⟩ := h
    have hr1 : Room 1 _ := hr
    refine ⟨_, pss_one (ps_ret (pe_ix ix_list (pe_lst (pa_cons (pe_tup (pa_cons pe_str (pa_cons (pe_fn TK hr1 rfl (pa_cons (pv 0) (pa_cons pe_int pa_nil))) pa_nil))) (pa_cons (pe_tup (pa_cons pe_str (pa_cons (pe_fn TK hr1 rfl (pa_cons (pv 0) (pa_cons pe_int pa_nil))) pa_nil))) pa_nil))) (pe_fn TK hr1 rfl (pa_cons (pv 0) (pa_cons pe_int pa_nil))) (fun _ _ => rfl))), ?_⟩
    refine ⟨_, rfl, p, 4, rfl, hp, by decide, by decide, fun r1 H1 l1 g1 b1 => ⟨(by show 2 ≤ sizeLine; decide), fun t1 n1 => ?_⟩⟩
    have s1 := same_new (o := .tup [.str "is", .int r1]) n1
    have e1 : (upd H1 t1 (.tup [.str "is", .int r1])) t1 = some (.tup [.str "is", .int r1]) := upd_same
    have g1' := g1.same s1
    have c1 := b1.same s1
    generalize upd H1 t1 (.tup [.str "is", .int r1]) = J1 at *
    refine ⟨_, rfl, p, 3, rfl, g1', by decide, by decide, fun r2 H2 l2 g2 b2 => ⟨(by show 2 ≤ sizeLine; decide), fun t2 n2 => ?_⟩⟩
    have s2 := same_new (o := .tup [.str "by", .int r2]) n2
    have e2 : (upd H2 t2 (.tup [.str "by", .int r2])) t2 = some (.tup [.str "by", .int r2]) := upd_same
    have g2' := g2.same s2
    have c2 := (c1.trans b2).same s2
    have e12 := (kt_same s2) _ _ ((g1'.kt b2) _ _ e1)
    generalize upd H2 t2 (.tup [.str "by", .int r2]) = J2 at *
    refine ⟨(by show 2 ≤ sizeLine; decide), fun lm nm => ?_⟩
    have s3 := same_new (o := .lst [.ref t1, .ref t2]) nm
    have e3 : (upd J2 lm (.lst [.ref t1, .ref t2])) lm = some (.lst [.ref t1, .ref t2]) := upd_same
    have g3' := g2'.same s3
    have c3 := c2.same s3
    have f1 := s3 _ _ e12
    have f2 := s3 _ _ e2
    have ne := (g2'.ne nm).symm
    generalize upd J2 lm (.lst [.ref t1, .ref t2]) = J3 at *
    refine ⟨_, rfl, p, 2, rfl, g3', by decide, by decide, fun r3 H3 l3 g3 b3 => ?_⟩
    have k3 := g3'.kt b3
    have e4 := b3 _ _ e3 ne
    rcases (by lia : r3 = 0 ∨ r3 = 1) with rfl | rfl
    · exact ⟨lm, _, _, .ref t1, rfl, rfl, SqL.of e4, rfl, q _ (.tup [.str "is", .int r1]) _ (.tup (k3 _ _ f1) (.cons (.str _) (.cons (.int _) .nil))) (.is r1 l1) g3 (c3.trans b3)⟩
    · exact ⟨lm, _, _, .ref t2, rfl, rfl, SqL.of e4, rfl, q _ (.tup [.str "by", .int r2]) _ (.tup (k3 _ _ f2) (.cons (.str _) (.cons (.int _) .nil))) (.«by» r2 l2) g3 (c3.trans b3)⟩
set_option maxHeartbeats 1000000 in
theorem ok_lSource {f : Addr} {fd : FuncData} (F : Fun K "_law_source" "_law_source" sLSource f fd) (TK : Fn P w K mg base "_law_take" 1 ["_law_stream_here", "_law_many"] spTake) : FnOk P w K mg base CX0 2 f fd ["_law_stream_here"] (spDraw SrcT) := by
  refine F.ok scLSource (fun vs H Q E h => ?_) (fun cdv A outer s H vs Q E hr h => ?_)
  · obtain ⟨p, rfl, _⟩ := h
    rfl
  · obtain ⟨p, rfl, hp, q⟩ := h
    have hr1 : Room 1 _ := hr
    refine ⟨_, pss_cons (ps_set (i := 1) scLSource.nd rfl (Or.inl rfl) (pe_fn TK hr1 rfl (pa_cons (pv 0) (pa_cons pe_int pa_nil))))
      (pss_cons (ps_if (pt_cmpR op_eq (pv 1) pe_int (nomark _)) (pss_one (ps_ret (pe_tup (pa_cons pe_str (pa_cons (pe_fn TK hr1 rfl (pa_cons (pv 0) (pa_cons pe_int pa_nil))) pa_nil))))) pss_nil)
      (pss_cons (ps_if (pt_cmpR op_eq (pv 1) pe_int (nomark _)) (pss_one (ps_ret (pe_tup (pa_cons pe_str (pa_cons (pe_fn TK hr1 rfl (pa_cons (pv 0) (pa_cons (pe_ix ix_list (pe_lst (pa_cons pe_int (pa_cons (pe_op op_pow pe_int pe_int) pa_nil))) (pe_fn TK hr1 rfl (pa_cons (pv 0) (pa_cons pe_int pa_nil))) (fun _ _ => rfl)) pa_nil))) pa_nil))))) pss_nil)
      (pss_one (ps_ret (pe_tup (pa_cons pe_str (pa_cons (pe_fn TK hr1 rfl (pa_cons (pv 0) (pa_cons pe_int pa_nil))) pa_nil))))))), ?_⟩
    refine ⟨_, rfl, p, 4, rfl, hp, by decide, by decide, fun r1 H1 l1 g1 b1 => ?_⟩
    refine ⟨_, rfl, rfl, _, rfl, ite2 (fun h => ?_) (fun h => ?_)⟩
    · refine ⟨_, rfl, p, 3, rfl, g1, by decide, by decide, fun r2 H2 l2 g2 b2 => ⟨(by show 2 ≤ sizeLine; decide), fun t nt => ?_⟩⟩
      have s3 := same_new (o := .tup [.str "field", .int r2]) nt
      exact q _ (.tup [.str "field", .int r2]) _ (.tup upd_same (.cons (.str _) (.cons (.int _) .nil))) (.fld r2 l2) (g2.same s3) ((b1.trans b2).same s3)
    · refine ⟨_, rfl, rfl, _, rfl, ite2 (fun h2 => ?_) (fun h2 => ?_)⟩
      · refine ⟨_, rfl, _, _, rfl, rfl, ⟨by decide, by decide, by decide⟩, (by show 2 ≤ sizeLine; decide), fun lm nm => ?_⟩
        have s2 := same_new (o := .lst [.int 4, .int 16777216]) nm
        have e2 : (upd H1 lm (.lst [.int 4, .int 16777216])) lm = some (.lst [.int 4, .int 16777216]) := upd_same
        have g2 := g1.same s2
        refine ⟨_, rfl, p, 2, rfl, g2, by decide, by decide, fun r3 H3 l3 g3 b3 => ?_⟩
        have e3 := b3 _ _ e2 (g1.ne nm).symm
        obtain ⟨k, ek, k0, k1⟩ : ∃ k : Nat, atI [V.int 4, V.int 16777216] (r3 : Int) = some (.int k) ∧ 0 < k ∧ k ≤ 16777216 := by
          rcases (by lia : r3 = 0 ∨ r3 = 1) with rfl | rfl
          · exact ⟨4, rfl, by decide, by decide⟩
          · exact ⟨16777216, rfl, by decide, by decide⟩
        refine ⟨lm, _, _, _, rfl, rfl, SqL.of e3, ek, p, k, rfl, g3, k0, by lia, fun r4 H4 l4 g4 b4 => ⟨(by show 2 ≤ sizeLine; decide), fun t nt => ?_⟩⟩
        have s5 := same_new (o := .tup [.str "number", .int r4]) nt
        exact q _ (.tup [.str "number", .int r4]) _ (.tup upd_same (.cons (.str _) (.cons (.int _) .nil))) (.num r4 (by lia)) (g4.same s5) ((((b1.same s2).trans b3).trans b4).same s5)
      · refine ⟨_, rfl, p, 8, rfl, g1, by decide, by decide, fun r2 H2 l2 g2 b2 => ⟨(by show 2 ≤ sizeLine; decide), fun t nt => ?_⟩⟩
        have s3 := same_new (o := .tup [.str "in", .int r2]) nt
        exact q _ (.tup [.str "in", .int r2]) _ (.tup upd_same (.cons (.str _) (.cons (.int _) .nil))) (.inn r2 l2) (g2.same s3) ((b1.trans b2).same s3)
set_option maxHeartbeats 4000000 in
theorem ok_lStep {f : Addr} {fd : FuncData} (F : Fun K "_law_step" "_law_step" sLStep f fd) (TK : Fn P w K mg base "_law_take" 1 ["_law_stream_here", "_law_many"] spTake) (SO : Fn P w K mg base "_law_source" 2 ["_law_stream_here"] (spDraw SrcT)) (SE : Fn P w K mg base "_law_sel" 2 ["_law_stream_here"] (spDraw SelT)) :
    FnOk P w K mg base CX0 3 f fd ["_law_stream_here"] (spDraw StpT) := by
  refine F.ok scLStep (fun vs H Q E h => ?_) (fun cdv A outer s H vs Q E hr h => ?_)
  · obtain ⟨p, rfl, _⟩ := h
    rfl
  · obtain ⟨p, rfl, hp, q⟩ := h
    have hr1 : Room 1 _ := hr.mono (by decide)
    refine ⟨_, pss_cons (ps_set (i := 1) scLStep.nd rfl (Or.inl rfl) (pe_ix ix_list (pe_lst (pa_cons pe_str (pa_cons pe_str (pa_cons pe_str (pa_cons pe_str (pa_cons pe_str (pa_cons pe_str (pa_cons pe_str (pa_cons pe_str pa_nil))))))))) (pe_fn TK hr1 rfl (pa_cons (pv 0) (pa_cons pe_int pa_nil))) (fun _ _ => rfl)))
      (pss_cons (ps_if (PW.pt (pw_or (pt_cmpR op_eq (pv 1) pe_str (nomark _)) (pw_or1 (pt_cmpR op_eq (pv 1) pe_str (nomark _))))) (pss_one (ps_ret (pe_tup (pa_cons (pv 1) (pa_cons (pe_fn TK hr1 rfl (pa_cons (pv 0) (pa_cons pe_int pa_nil))) (pa_cons (pe_fn SE hr rfl (pa_cons (pv 0) pa_nil)) pa_nil)))))) pss_nil)
      (pss_cons (ps_if (pt_cmpR op_eq (pv 1) pe_str (nomark _)) (pss_one (ps_ret (pe_tup (pa_cons (pv 1) (pa_cons (pe_fn TK hr1 rfl (pa_cons (pv 0) (pa_cons pe_int pa_nil))) (pa_cons (pe_fn SO hr rfl (pa_cons (pv 0) pa_nil)) pa_nil)))))) pss_nil)
      (pss_cons (ps_if (pt_cmpR op_eq (pv 1) pe_str (nomark _)) (pss_cons (ps_set (i := 2) scLStep.nd rfl (Or.inl rfl) (pe_ix ix_list (pe_lst (pa_cons pe_str (pa_cons pe_str (pa_cons pe_str (pa_cons pe_str (pa_cons pe_str (pa_cons pe_str (pa_cons pe_str (pa_cons pe_str (pa_cons pe_str pa_nil)))))))))) (pe_fn TK hr1 rfl (pa_cons (pv 0) (pa_cons pe_int pa_nil))) (fun _ _ => rfl))) (pss_one (ps_ret (pe_tup (pa_cons (pv 1) (pa_cons (pe_fn TK hr1 rfl (pa_cons (pv 0) (pa_cons pe_int pa_nil))) (pa_cons (pv 2) (pa_cons (pe_fn SO hr rfl (pa_cons (pv 0) pa_nil)) (pa_cons (pe_fn SO hr rfl (pa_cons (pv 0) pa_nil)) pa_nil))))))))) pss_nil)
      (pss_cons (ps_if (pt_cmpR op_eq (pv 1) pe_str (nomark _)) (pss_one (ps_ret (pe_tup (pa_cons (pv 1) (pa_cons (pe_fn SO hr rfl (pa_cons (pv 0) pa_nil)) (pa_cons (pe_fn SO hr rfl (pa_cons (pv 0) pa_nil)) pa_nil)))))) pss_nil)
      (pss_one (ps_ret (pe_tup (pa_cons (pv 1) (pa_cons (pe_fn SE hr rfl (pa_cons (pv 0) pa_nil)) (pa_cons (pe_fn SO hr rfl (pa_cons (pv 0) pa_nil)) pa_nil)))))))))), ?_⟩
    refine ⟨(by show 8 ≤ sizeLine; decide), fun l0 n0 => ?_⟩
    have s0 := same_new (o := .lst [V.str "get", V.str "ask", V.str "cell", V.str "two", V.str "put", V.str "tell", V.str "store", V.str "two"]) n0
    have e0 : (upd H l0 (.lst [V.str "get", V.str "ask", V.str "cell", V.str "two", V.str "put", V.str "tell", V.str "store", V.str "two"])) l0 = some (.lst [V.str "get", V.str "ask", V.str "cell", V.str "two", V.str "put", V.str "tell", V.str "store", V.str "two"]) := upd_same
    have g0 := hp.same s0
    have c0 : But p H (upd H l0 (.lst [V.str "get", V.str "ask", V.str "cell", V.str "two", V.str "put", V.str "tell", V.str "store", V.str "two"])) := but_of s0
    have ne0 := (hp.ne n0).symm
    generalize upd H l0 (.lst [V.str "get", V.str "ask", V.str "cell", V.str "two", V.str "put", V.str "tell", V.str "store", V.str "two"]) = H0 at *
    refine ⟨_, rfl, p, 8, rfl, g0, by decide, by decide, fun r1 H1 l1 g1 b1 => ?_⟩
    have e1 := b1 _ _ e0 ne0
    have c1 := c0.trans b1
    rcases (by lia : r1 = 0 ∨ r1 = 1 ∨ r1 = 2 ∨ r1 = 3 ∨ r1 = 4 ∨ r1 = 5 ∨ r1 = 6 ∨ r1 = 7) with rfl | rfl | rfl | rfl | rfl | rfl | rfl | rfl
    · refine ⟨l0, _, _, .str "get", rfl, rfl, SqL.of e1, rfl, ?_⟩
      refine ⟨_, rfl, rfl, _, rfl, iteA (by decide +kernel) ?_⟩
      refine ⟨_, rfl, _, rfl, p, 8, rfl, g1, by decide, by decide, fun r2 H2 l2 g2 b2 => ⟨_, rfl, p, rfl, g2, fun v x H3 hv hx g3 b3 => ⟨(by show 3 ≤ sizeLine; decide), fun t nt => ?_⟩⟩⟩
      have s4 := same_new (o := .tup [.str "get", .int r2, v]) nt
      exact q _ (.tup [.str "get", .int r2, x]) _ (.tup upd_same (.cons (.str _) (.cons (.int _) (.cons (hv.same s4) .nil)))) (.get r2 l2 hx) (g3.same s4) (((c1.trans b2).trans b3).same s4)
    · refine ⟨l0, _, _, .str "ask", rfl, rfl, SqL.of e1, rfl, ?_⟩
      refine ⟨_, rfl, rfl, _, rfl, iteB (by decide +kernel) ?_⟩
      refine ⟨_, rfl, rfl, _, rfl, iteA (by decide +kernel) ?_⟩
      refine ⟨_, rfl, _, rfl, p, 8, rfl, g1, by decide, by decide, fun r2 H2 l2 g2 b2 => ⟨_, rfl, p, rfl, g2, fun v x H3 hv hx g3 b3 => ⟨(by show 3 ≤ sizeLine; decide), fun t nt => ?_⟩⟩⟩
      have s4 := same_new (o := .tup [.str "ask", .int r2, v]) nt
      exact q _ (.tup [.str "ask", .int r2, x]) _ (.tup upd_same (.cons (.str _) (.cons (.int _) (.cons (hv.same s4) .nil)))) (.ask r2 l2 hx) (g3.same s4) (((c1.trans b2).trans b3).same s4)
    · refine ⟨l0, _, _, .str "cell", rfl, rfl, SqL.of e1, rfl, ?_⟩
      refine ⟨_, rfl, rfl, _, rfl, iteB (by decide +kernel) ?_⟩
      refine ⟨_, rfl, rfl, _, rfl, iteB (by decide +kernel) ?_⟩
      refine ⟨_, rfl, rfl, _, rfl, iteA (by decide +kernel) ?_⟩
      refine ⟨_, rfl, _, rfl, p, 8, rfl, g1, by decide, by decide, fun r2 H2 l2 g2 b2 => ⟨_, rfl, p, rfl, g2, fun v x H3 hv hx g3 b3 => ⟨(by show 3 ≤ sizeLine; decide), fun t nt => ?_⟩⟩⟩
      have s4 := same_new (o := .tup [.str "cell", .int r2, v]) nt
      exact q _ (.tup [.str "cell", .int r2, x]) _ (.tup upd_same (.cons (.str _) (.cons (.int _) (.cons (hv.same s4) .nil)))) (.cell r2 l2 hx) (g3.same s4) (((c1.trans b2).trans b3).same s4)
    · refine ⟨l0, _, _, .str "two", rfl, rfl, SqL.of e1, rfl, ?_⟩
      refine ⟨_, rfl, rfl, _, rfl, iteB (by decide +kernel) ?_⟩
      refine ⟨_, rfl, rfl, _, rfl, iteB (by decide +kernel) ?_⟩
      refine ⟨_, rfl, rfl, _, rfl, iteB (by decide +kernel) ?_⟩
      refine ⟨_, rfl, rfl, _, rfl, iteA (by decide +kernel) ?_⟩
      refine ⟨(by show 9 ≤ sizeLine; decide), fun lo no => ?_⟩
      have so := same_new (o := .lst [V.str "+", V.str "-", V.str "&", V.str "|", V.str "^", V.str "<<", V.str ">>", V.str "<", V.str "="]) no
      have eo : (upd H1 lo (.lst [V.str "+", V.str "-", V.str "&", V.str "|", V.str "^", V.str "<<", V.str ">>", V.str "<", V.str "="])) lo = some (.lst [V.str "+", V.str "-", V.str "&", V.str "|", V.str "^", V.str "<<", V.str ">>", V.str "<", V.str "="]) := upd_same
      have go := g1.same so
      have co := c1.same so
      have neo := (g1.ne no).symm
      generalize upd H1 lo (.lst [V.str "+", V.str "-", V.str "&", V.str "|", V.str "^", V.str "<<", V.str ">>", V.str "<", V.str "="]) = H1o at *
      refine ⟨_, rfl, p, 9, rfl, go, by decide, by decide, fun r2 H2 l2 g2 b2 => ?_⟩
      obtain ⟨fo, hfo, efo⟩ := ops_at l2
      refine ⟨lo, _, _, .str fo, rfl, rfl, SqL.of (b2 _ _ eo neo), efo, ?_⟩
      refine ⟨_, rfl, _, rfl, p, 8, rfl, g2, by decide, by decide, fun r3 H3 l3 g3 b3 => ⟨_, rfl, _, rfl, p, rfl, g3, fun v x H4 hv hx g4 b4 => ⟨_, rfl, p, rfl, g4, fun v2 y H5 hv2 hy g5 b5 => ⟨(by show 5 ≤ sizeLine; decide), fun t nt => ?_⟩⟩⟩⟩
      have s4 := same_new (o := .tup [.str "two", .int r3, .str fo, v, v2]) nt
      exact q _ (.tup [.str "two", .int r3, .str fo, x, y]) _ (.tup upd_same (.cons (.str _) (.cons (.int _) (.cons (.str _) (.cons ((hv.but g4 b5).same s4) (.cons (hv2.same s4) .nil)))))) (.two r3 l3 hfo hx hy) (g5.same s4) (((((co.trans b2).trans b3).trans b4).trans b5).same s4)
    · refine ⟨l0, _, _, .str "put", rfl, rfl, SqL.of e1, rfl, ?_⟩
      refine ⟨_, rfl, rfl, _, rfl, iteB (by decide +kernel) ?_⟩
      refine ⟨_, rfl, rfl, _, rfl, iteB (by decide +kernel) ?_⟩
      refine ⟨_, rfl, rfl, _, rfl, iteB (by decide +kernel) ?_⟩
      refine ⟨_, rfl, rfl, _, rfl, iteB (by decide +kernel) ?_⟩
      refine ⟨_, rfl, rfl, _, rfl, iteB (by decide +kernel) ?_⟩
      refine ⟨_, rfl, _, rfl, p, rfl, g1, fun v x H4 hv hx g4 b4 => ⟨_, rfl, p, rfl, g4, fun v2 y H5 hv2 hy g5 b5 => ⟨(by show 3 ≤ sizeLine; decide), fun t nt => ?_⟩⟩⟩
      have s4 := same_new (o := .tup [.str "put", v, v2]) nt
      exact q _ (.tup [.str "put", x, y]) _ (.tup upd_same (.cons (.str _) (.cons ((hv.but g4 b5).same s4) (.cons (hv2.same s4) .nil)))) (.put hx hy) (g5.same s4) (((c1.trans b4).trans b5).same s4)
    · refine ⟨l0, _, _, .str "tell", rfl, rfl, SqL.of e1, rfl, ?_⟩
      refine ⟨_, rfl, rfl, _, rfl, iteB (by decide +kernel) ?_⟩
      refine ⟨_, rfl, rfl, _, rfl, iteB (by decide +kernel) ?_⟩
      refine ⟨_, rfl, rfl, _, rfl, iteB (by decide +kernel) ?_⟩
      refine ⟨_, rfl, rfl, _, rfl, iteB (by decide +kernel) ?_⟩
      refine ⟨_, rfl, rfl, _, rfl, iteB (by decide +kernel) ?_⟩
      refine ⟨_, rfl, _, rfl, p, rfl, g1, fun v x H4 hv hx g4 b4 => ⟨_, rfl, p, rfl, g4, fun v2 y H5 hv2 hy g5 b5 => ⟨(by show 3 ≤ sizeLine; decide), fun t nt => ?_⟩⟩⟩
      have s4 := same_new (o := .tup [.str "tell", v, v2]) nt
      exact q _ (.tup [.str "tell", x, y]) _ (.tup upd_same (.cons (.str _) (.cons ((hv.but g4 b5).same s4) (.cons (hv2.same s4) .nil)))) (.tell hx hy) (g5.same s4) (((c1.trans b4).trans b5).same s4)
    · refine ⟨l0, _, _, .str "store", rfl, rfl, SqL.of e1, rfl, ?_⟩
      refine ⟨_, rfl, rfl, _, rfl, iteB (by decide +kernel) ?_⟩
      refine ⟨_, rfl, rfl, _, rfl, iteB (by decide +kernel) ?_⟩
      refine ⟨_, rfl, rfl, _, rfl, iteB (by decide +kernel) ?_⟩
      refine ⟨_, rfl, rfl, _, rfl, iteB (by decide +kernel) ?_⟩
      refine ⟨_, rfl, rfl, _, rfl, iteA (by decide +kernel) ?_⟩
      refine ⟨_, rfl, _, rfl, p, rfl, g1, fun v x H4 hv hx g4 b4 => ⟨_, rfl, p, rfl, g4, fun v2 y H5 hv2 hy g5 b5 => ⟨(by show 3 ≤ sizeLine; decide), fun t nt => ?_⟩⟩⟩
      have s4 := same_new (o := .tup [.str "store", v, v2]) nt
      exact q _ (.tup [.str "store", x, y]) _ (.tup upd_same (.cons (.str _) (.cons ((hv.but g4 b5).same s4) (.cons (hv2.same s4) .nil)))) (.store hx hy) (g5.same s4) (((c1.trans b4).trans b5).same s4)
    · refine ⟨l0, _, _, .str "two", rfl, rfl, SqL.of e1, rfl, ?_⟩
      refine ⟨_, rfl, rfl, _, rfl, iteB (by decide +kernel) ?_⟩
      refine ⟨_, rfl, rfl, _, rfl, iteB (by decide +kernel) ?_⟩
      refine ⟨_, rfl, rfl, _, rfl, iteB (by decide +kernel) ?_⟩
      refine ⟨_, rfl, rfl, _, rfl, iteA (by decide +kernel) ?_⟩
      refine ⟨(by show 9 ≤ sizeLine; decide), fun lo no => ?_⟩
      have so := same_new (o := .lst [V.str "+", V.str "-", V.str "&", V.str "|", V.str "^", V.str "<<", V.str ">>", V.str "<", V.str "="]) no
      have eo : (upd H1 lo (.lst [V.str "+", V.str "-", V.str "&", V.str "|", V.str "^", V.str "<<", V.str ">>", V.str "<", V.str "="])) lo = some (.lst [V.str "+", V.str "-", V.str "&", V.str "|", V.str "^", V.str "<<", V.str ">>", V.str "<", V.str "="]) := upd_same
      have go := g1.same so
      have co := c1.same so
      have neo := (g1.ne no).symm
      generalize upd H1 lo (.lst [V.str "+", V.str "-", V.str "&", V.str "|", V.str "^", V.str "<<", V.str ">>", V.str "<", V.str "="]) = H1o at *
      refine ⟨_, rfl, p, 9, rfl, go, by decide, by decide, fun r2 H2 l2 g2 b2 => ?_⟩
      obtain ⟨fo, hfo, efo⟩ := ops_at l2
      refine ⟨lo, _, _, .str fo, rfl, rfl, SqL.of (b2 _ _ eo neo), efo, ?_⟩
      refine ⟨_, rfl, _, rfl, p, 8, rfl, g2, by decide, by decide, fun r3 H3 l3 g3 b3 => ⟨_, rfl, _, rfl, p, rfl, g3, fun v x H4 hv hx g4 b4 => ⟨_, rfl, p, rfl, g4, fun v2 y H5 hv2 hy g5 b5 => ⟨(by show 5 ≤ sizeLine; decide), fun t nt => ?_⟩⟩⟩⟩
      have s4 := same_new (o := .tup [.str "two", .int r3, .str fo, v, v2]) nt
      exact q _ (.tup [.str "two", .int r3, .str fo, x, y]) _ (.tup upd_same (.cons (.str _) (.cons (.int _) (.cons (.str _) (.cons ((hv.but g4 b5).same s4) (.cons (hv2.same s4) .nil)))))) (.two r3 l3 hfo hx hy) (g5.same s4) (((((co.trans b2).trans b3).trans b4).trans b5).same s4)
end
end L3
namespace L3
open PySem L2
theorem hga3 {x y z : Th} (h : hg (.tup [x, y, z]) = true) (hx : hg x = true) (hy : hg y = true) (hz : hg z = true) : HgA (.tup [x, y, z]) := ⟨h, fun i => by
  match i with
  | 0 => exact hx
  | 1 => exact hy
  | 2 => exact hz
  | i + 3 => rfl⟩
theorem hga5 {x y z u v : Th} (h : hg (.tup [x, y, z, u, v]) = true) (hx : hg x = true) (hy : hg y = true) (hz : hg z = true) (hu : hg u = true) (hv : hg v = true) : HgA (.tup [x, y, z, u, v]) := ⟨h, fun i => by
  match i with
  | 0 => exact hx
  | 1 => exact hy
  | 2 => exact hz
  | 3 => exact hu
  | 4 => exact hv
  | i + 5 => rfl⟩
theorem in_opsC {o : Str} (h : o ∈ opsL) : opsL.contains o = true := List.contains_iff_mem.mpr h
theorem StpT.ok {t : Th} (h : StpT t) : stepOk t = true ∧ HgA t := by
  cases h with
  | @get k s hk hs =>
    refine ⟨?_, hga3 rfl rfl rfl hs.ok.2⟩
    show (wn 0 7 (.int k) && selOk s) = true
    rw [wn7 hk, hs.ok.1]; rfl
  | @ask k s hk hs =>
    refine ⟨?_, hga3 rfl rfl rfl hs.ok.2⟩
    show (wn 0 7 (.int k) && selOk s) = true
    rw [wn7 hk, hs.ok.1]; rfl
  | @cell k s hk hs =>
    refine ⟨?_, hga3 rfl rfl rfl hs.ok.2⟩
    show (wn 0 7 (.int k) && srcOk s) = true
    rw [wn7 hk, hs.ok.1]; rfl
  | @two k o a b hk ho ha hb =>
    refine ⟨?_, hga5 rfl rfl rfl rfl ha.ok.2 hb.ok.2⟩
    show (wn 0 7 (.int k) && (opsL.contains o && (srcOk a && srcOk b))) = true
    rw [wn7 hk, in_opsC ho, ha.ok.1, hb.ok.1]; rfl
  | @put s a hs ha =>
    refine ⟨?_, hga3 rfl rfl hs.ok.2 ha.ok.2⟩
    show (selOk s && srcOk a) = true
    rw [hs.ok.1, ha.ok.1]; rfl
  | @tell s a hs ha =>
    refine ⟨?_, hga3 rfl rfl hs.ok.2 ha.ok.2⟩
    show (selOk s && srcOk a) = true
    rw [hs.ok.1, ha.ok.1]; rfl
  | @store a b ha hb =>
    refine ⟨?_, hga3 rfl rfl ha.ok.2 hb.ok.2⟩
    show (srcOk a && srcOk b) = true
    rw [ha.ok.1, hb.ok.1]; rfl
def fauG : List Str := ["z", "setq", "deeply", "gogogogo"]
inductive EndT : Th → Prop
  | next : EndT (.tup [.str "next"])
  | go (i : Nat) : i < 3 → EndT (.tup [.str "go", .int i])
  | call (i : Nat) : i < 3 → EndT (.tup [.str "call", .int i])
  | back : EndT (.tup [.str "back"])
  | stop : EndT (.tup [.str "stop"])
  | fault (z : Str) : z ∈ fauG → EndT (.tup [.str "fault", .str z])
inductive OnT : Th → Prop
  | two (z : Str) (i a b : Nat) : (z = "some" ∨ z = "top") → i < 8 → a < 400 → b < 400 → OnT (.tup [.str z, .int i, .int a, .int b])
  | on (a : Nat) : a < 400 → OnT (.tup [.str "on", .int a])
  | done {e : Th} : EndT e → OnT (.tup [.str "done", e])
theorem fau_ok : ∀ z ∈ fauG, nameB z.cps.toList = true ∧ fauS.contains z = false ∧ z.cps.toList.length ≤ 1000 := by decide +kernel
theorem wn2 {k : Nat} (h : k < 3) : wn 0 2 (.int k) = true := by
  show (decide ((0 : Int) ≤ (k : Int)) && decide ((k : Int) ≤ 2)) = true
  rw [decide_eq_true (by lia), decide_eq_true (by lia)]
  rfl
theorem wna {k : Nat} (h : k < 400) : wn 0 399 (.int k) = true := by
  show (decide ((0 : Int) ≤ (k : Int)) && decide ((k : Int) ≤ 399)) = true
  rw [decide_eq_true (by lia), decide_eq_true (by lia)]
  rfl
theorem EndT.ok {t : Th} (h : EndT t) : endOk t = true ∧ EndG t := by
  cases h with
  | next => exact ⟨rfl, rfl, rfl, fun z e => by cases e⟩
  | go i hi => exact ⟨wn2 hi, rfl, rfl, fun z e => by cases e⟩
  | call i hi => exact ⟨wn2 hi, rfl, rfl, fun z e => by cases e⟩
  | back => exact ⟨rfl, rfl, rfl, fun z e => by cases e⟩
  | stop => exact ⟨rfl, rfl, rfl, fun z e => by cases e⟩
  | fault z hz =>
    obtain ⟨a, b, c⟩ := fau_ok z hz
    refine ⟨?_, rfl, rfl, fun z' e => ?_⟩
    · show (nameB z.cps.toList && !fauS.contains z) = true
      rw [a, b]; rfl
    · have e' : Th.str z = .str z' := e
      cases e'
      exact c
theorem endG_int (i : Int) : EndG (.int i) := ⟨rfl, rfl, fun z e => by cases e⟩
theorem OnT.ok {t : Th} (h : OnT t) : onOk t = true ∧ OnG t := by
  cases h with
  | two z i a b hz hi ha hb =>
    rcases hz with rfl | rfl
    · refine ⟨?_, rfl, endG_int _⟩
      show (wn 0 7 (.int i) && (wn 0 399 (.int a) && wn 0 399 (.int b))) = true
      rw [wn7 hi, wna ha, wna hb]; rfl
    · refine ⟨?_, rfl, endG_int _⟩
      show (wn 0 7 (.int i) && (wn 0 399 (.int a) && wn 0 399 (.int b))) = true
      rw [wn7 hi, wna ha, wna hb]; rfl
  | on a ha => exact ⟨wna ha, rfl, endG_int _⟩
  | done he => exact ⟨he.ok.1, rfl, he.ok.2⟩
end L3
namespace L3
open PySem L2
def BdPair (t : Th) : Prop := selOk t = false ∧ srcOk t = false ∧ hg t = true
def BdOp (t : Th) : Prop := opOk t = false ∧ hg t = true
def BdIn (t : Th) : Prop := wn 0 7 t = false ∧ hg t = true
def BdFor : Th → Th → Prop
  | .tup _, t => BdPair t
  | .str _, t => BdOp t
  | .int _, t => BdIn t
  | _, _ => False
def BdStep (t : Th) : Prop := stepOk t = false ∧ HgA t
theorem SelT.for {s t : Th} (h : SelT s) (b : BdFor s t) : BdPair t := by cases h <;> exact b
theorem SrcT.for {s t : Th} (h : SrcT s) (b : BdFor s t) : BdPair t := by cases h <;> exact b
theorem bad_at {l : List Th} {i : Nat} {t : Th} (h : StpT (.tup l)) (h1 : 1 ≤ i) (h2 : i < l.length) (hp : BdFor ((l[i]?).getD .non) t) : BdStep (.tup (l.take i ++ t :: l.drop (i + 1))) := by
  cases h with
  | @get k s hk hs =>
    rcases (by simp at h2; lia : i = 1 ∨ i = 2) with rfl | rfl
    · have b : BdIn t := hp
      exact ⟨by show (wn 0 7 t && selOk s) = false; rw [b.1]; rfl, hga3 rfl rfl b.2 hs.ok.2⟩
    · have b := hs.for hp
      exact ⟨by show (wn 0 7 (.int k) && selOk t) = false; rw [b.1, Bool.and_false], hga3 rfl rfl rfl b.2.2⟩
  | @ask k s hk hs =>
    rcases (by simp at h2; lia : i = 1 ∨ i = 2) with rfl | rfl
    · have b : BdIn t := hp
      exact ⟨by show (wn 0 7 t && selOk s) = false; rw [b.1]; rfl, hga3 rfl rfl b.2 hs.ok.2⟩
    · have b := hs.for hp
      exact ⟨by show (wn 0 7 (.int k) && selOk t) = false; rw [b.1, Bool.and_false], hga3 rfl rfl rfl b.2.2⟩
  | @cell k s hk hs =>
    rcases (by simp at h2; lia : i = 1 ∨ i = 2) with rfl | rfl
    · have b : BdIn t := hp
      exact ⟨by show (wn 0 7 t && srcOk s) = false; rw [b.1]; rfl, hga3 rfl rfl b.2 hs.ok.2⟩
    · have b := hs.for hp
      exact ⟨by show (wn 0 7 (.int k) && srcOk t) = false; rw [b.2.1, Bool.and_false], hga3 rfl rfl rfl b.2.2⟩
  | @two k o a c hk ho ha hc =>
    rcases (by simp at h2; lia : i = 1 ∨ i = 2 ∨ i = 3 ∨ i = 4) with rfl | rfl | rfl | rfl
    · have b : BdIn t := hp
      exact ⟨by show (wn 0 7 t && (opsL.contains o && (srcOk a && srcOk c))) = false; rw [b.1]; rfl, hga5 rfl rfl b.2 rfl ha.ok.2 hc.ok.2⟩
    · have b : BdOp t := hp
      exact ⟨by show (wn 0 7 (.int k) && (opOk t && (srcOk a && srcOk c))) = false; rw [b.1, Bool.false_and, Bool.and_false], hga5 rfl rfl rfl b.2 ha.ok.2 hc.ok.2⟩
    · have b := ha.for hp
      exact ⟨by show (wn 0 7 (.int k) && (opsL.contains o && (srcOk t && srcOk c))) = false; rw [b.2.1, Bool.false_and, Bool.and_false, Bool.and_false], hga5 rfl rfl rfl rfl b.2.2 hc.ok.2⟩
    · have b := hc.for hp
      exact ⟨by show (wn 0 7 (.int k) && (opsL.contains o && (srcOk a && srcOk t))) = false; rw [b.2.1, Bool.and_false, Bool.and_false, Bool.and_false], hga5 rfl rfl rfl rfl ha.ok.2 b.2.2⟩
  | @put s a hs ha =>
    rcases (by simp at h2; lia : i = 1 ∨ i = 2) with rfl | rfl
    · have b := hs.for hp
      exact ⟨by show (selOk t && srcOk a) = false; rw [b.1]; rfl, hga3 rfl rfl b.2.2 ha.ok.2⟩
    · have b := ha.for hp
      exact ⟨by show (selOk s && srcOk t) = false; rw [b.2.1, Bool.and_false], hga3 rfl rfl hs.ok.2 b.2.2⟩
  | @tell s a hs ha =>
    rcases (by simp at h2; lia : i = 1 ∨ i = 2) with rfl | rfl
    · have b := hs.for hp
      exact ⟨by show (selOk t && srcOk a) = false; rw [b.1]; rfl, hga3 rfl rfl b.2.2 ha.ok.2⟩
    · have b := ha.for hp
      exact ⟨by show (selOk s && srcOk t) = false; rw [b.2.1, Bool.and_false], hga3 rfl rfl hs.ok.2 b.2.2⟩
  | @store a c ha hc =>
    rcases (by simp at h2; lia : i = 1 ∨ i = 2) with rfl | rfl
    · have b := ha.for hp
      exact ⟨by show (srcOk t && srcOk c) = false; rw [b.2.1]; rfl, hga3 rfl rfl b.2.2 hc.ok.2⟩
    · have b := hc.for hp
      exact ⟨by show (srcOk a && srcOk t) = false; rw [b.2.1, Bool.and_false], hga3 rfl rfl ha.ok.2 b.2.2⟩
theorem len_no {l : List Th} (h3 : l.length ≠ 3) (h5 : l.length ≠ 5) : stepOk (.tup l) = false := by
  unfold stepOk
  simp [hd_len h3, hd_len h5]
def goodH : Th → Bool
  | .non => true
  | .int _ => true
  | .str x => okS x
  | .tup [.str x] => okS x
  | _ => false
theorem hga_of {l : List Th} (h0 : hg (.tup l) = true) (h : ∀ x ∈ l, hg x = true) : HgA (.tup l) := ⟨h0, fun i => by
  show hg ((l[i]?).getD .non) = true
  cases e : l[i]? with
  | none => rfl
  | some x => exact h x (List.mem_of_getElem? e)⟩
theorem hg_str (z : Str) : hg (.str z) = true := rfl
theorem hg_int (i : Int) : hg (.int i) = true := rfl
theorem StpT.all {l : List Th} (h : StpT (.tup l)) : (l.length = 3 ∨ l.length = 5) ∧ (∀ x ∈ l, hg x = true) ∧ ∃ z r, l = .str z :: r ∧ r ≠ [] := by
  cases h with
  | get k hk hs => exact ⟨.inl rfl, by simp [hs.ok.2, hg_str, hg_int], _, _, rfl, by simp⟩
  | ask k hk hs => exact ⟨.inl rfl, by simp [hs.ok.2, hg_str, hg_int], _, _, rfl, by simp⟩
  | cell k hk hs => exact ⟨.inl rfl, by simp [hs.ok.2, hg_str, hg_int], _, _, rfl, by simp⟩
  | two k hk ho ha hb => exact ⟨.inr rfl, by simp [ha.ok.2, hb.ok.2, hg_str, hg_int], _, _, rfl, by simp⟩
  | put hs ha => exact ⟨.inl rfl, by simp [hs.ok.2, ha.ok.2, hg_str, hg_int], _, _, rfl, by simp⟩
  | tell hs ha => exact ⟨.inl rfl, by simp [hs.ok.2, ha.ok.2, hg_str, hg_int], _, _, rfl, by simp⟩
  | store ha hb => exact ⟨.inl rfl, by simp [ha.ok.2, hb.ok.2, hg_str, hg_int], _, _, rfl, by simp⟩
theorem bad_more {l : List Th} {x : Th} (h : StpT (.tup l)) (hx : x ∈ l) : BdStep (.tup (l ++ [x])) := by
  obtain ⟨h1, h2, z, r, rfl, hr⟩ := h.all
  refine ⟨len_no (by rw [List.length_append]; simp at h1 ⊢; lia) (by rw [List.length_append]; simp at h1 ⊢; lia), hga_of rfl fun y hy => ?_⟩
  rcases List.mem_append.mp hy with q | q
  · exact h2 y q
  · rw [List.mem_singleton.mp q]; exact h2 x hx
theorem bad_less {l : List Th} (h : StpT (.tup l)) : BdStep (.tup (l.take (l.length - 1))) := by
  obtain ⟨h1, h2, z, r, rfl, hr⟩ := h.all
  have hl : ((Th.str z :: r).take ((Th.str z :: r).length - 1)).length = (Th.str z :: r).length - 1 := by rw [List.length_take]; lia
  refine ⟨len_no (by rw [hl]; lia) (by rw [hl]; lia), hga_of ?_ fun y hy => h2 y (List.mem_of_mem_take hy)⟩
  cases r with
  | nil => exact absurd rfl hr
  | cons a r => rfl
theorem bad_head {z : Str} {r : List Th} {x : Th} (h : StpT (.tup (.str z :: r))) (hx : goodH x = true) (hn : ∀ w ∈ (["get", "ask", "cell", "two", "put", "tell", "store"] : List Str), x ≠ .str w) : BdStep (.tup (x :: r)) := by
  obtain ⟨h1, h2, _⟩ := h.all
  have no : ∀ w ∈ (["get", "ask", "cell", "two", "put", "tell", "store"] : List Str), ∀ n, hd w n (.tup (x :: r)) = false := fun w hw n => by
    cases x with
    | str y =>
      show (decide (r.length + 1 = n) && decide (y = w)) = false
      have e : decide (y = w) = false := decide_eq_false (fun e => hn w hw (by rw [e]))
      rw [e, Bool.and_false]
    | non => rfl
    | int _ => rfl
    | tup _ => rfl
    | lst _ => rfl
    | dct => rfl
  refine ⟨?_, hga_of ?_ fun y hy => ?_⟩
  · unfold stepOk
    simp [no "get" (by simp), no "ask" (by simp), no "cell" (by simp), no "two" (by simp), no "put" (by simp), no "tell" (by simp), no "store" (by simp)]
  · cases x with
    | tup l =>
      match l, hx with
      | [.str y], hx =>
        show (r.isEmpty || [Th.str y].all Th.okStr) = true
        rw [show [Th.str y].all Th.okStr = okS y by simp [Th.okStr], show okS y = true from hx, Bool.or_true]
    | lst _ => cases hx
    | dct => cases hx
    | non => rfl
    | int _ => rfl
    | str _ => rfl
  · rcases List.mem_cons.mp hy with rfl | q
    · cases y with
      | tup l =>
        match l, hx with
        | [.str y], hx => rfl
      | lst _ => cases hx
      | dct => cases hx
      | non => rfl
      | int _ => rfl
      | str _ => rfl
    · exact h2 y (List.mem_cons_of_mem _ q)
theorem bad_flat {t : Th} (h : t.isTup = false) : BdStep t := by
  cases t with
  | tup _ => cases h
  | non => exact ⟨rfl, rfl, fun i => rfl⟩
  | int _ => exact ⟨rfl, rfl, fun i => rfl⟩
  | str _ => exact ⟨rfl, rfl, fun i => rfl⟩
  | lst _ => exact ⟨rfl, rfl, fun i => rfl⟩
  | dct => exact ⟨rfl, rfl, fun i => rfl⟩
theorem bad_one {l : List Th} (h : StpT (.tup l)) : BdStep (.tup [.tup l]) := by
  obtain ⟨h1, h2, z, r, rfl, hr⟩ := h.all
  refine ⟨len_no (by simp) (by simp), hga_of rfl fun y hy => ?_⟩
  rw [List.mem_singleton.mp hy]
  rfl
end L3
namespace L3
open PySem L2
def BdAny (t : Th) : Prop := BdPair t ∧ BdOp t ∧ BdIn t
def strTs : List Th := [.non, .str "0", .str "r0", .tup [], .tup [.str "is", .int 0, .int 0], .lst [.str "is", .int 0], .dct, .int 16777216, .int (-1), .int 100000000000000000000000000000, .int 400, .tup [.str "in", .non], .tup [.str "on"]]
theorem str_bad : ∀ t ∈ strTs, BdAny t := by
  intro t ht
  unfold strTs at ht
  simp only [List.mem_cons, List.not_mem_nil, or_false] at ht
  rcases ht with rfl | rfl | rfl | rfl | rfl | rfl | rfl | rfl | rfl | rfl | rfl | rfl | rfl
  · exact ⟨⟨rfl, rfl, rfl⟩, ⟨rfl, rfl⟩, rfl, rfl⟩
  · exact ⟨⟨rfl, rfl, rfl⟩, ⟨(show opsL.contains ("0" : Str) = false by decide +kernel), rfl⟩, rfl, rfl⟩
  · exact ⟨⟨rfl, rfl, rfl⟩, ⟨(show opsL.contains ("r0" : Str) = false by decide +kernel), rfl⟩, rfl, rfl⟩
  · exact ⟨⟨rfl, rfl, rfl⟩, ⟨rfl, rfl⟩, rfl, rfl⟩
  · exact ⟨⟨rfl, rfl, rfl⟩, ⟨rfl, rfl⟩, rfl, rfl⟩
  · exact ⟨⟨rfl, rfl, rfl⟩, ⟨rfl, rfl⟩, rfl, rfl⟩
  · exact ⟨⟨rfl, rfl, rfl⟩, ⟨rfl, rfl⟩, rfl, rfl⟩
  · exact ⟨⟨rfl, rfl, rfl⟩, ⟨rfl, rfl⟩, (by decide +kernel), rfl⟩
  · exact ⟨⟨rfl, rfl, rfl⟩, ⟨rfl, rfl⟩, (by decide +kernel), rfl⟩
  · exact ⟨⟨rfl, rfl, rfl⟩, ⟨rfl, rfl⟩, (by decide +kernel), rfl⟩
  · exact ⟨⟨rfl, rfl, rfl⟩, ⟨rfl, rfl⟩, (by decide +kernel), rfl⟩
  · exact ⟨⟨rfl, rfl, rfl⟩, ⟨rfl, rfl⟩, rfl, rfl⟩
  · exact ⟨⟨rfl, rfl, rfl⟩, ⟨rfl, rfl⟩, rfl, rfl⟩
theorem TgA.nth {p : Addr} {H : Hp} {vs : List V} {ts : List Th} (h : TgA p H vs ts) {r : Nat} (hr : r < ts.length) : ∃ v t, atI vs (r : Int) = some v ∧ t ∈ ts ∧ TgV p H v t := by
  have hl := h.length
  have hlt : r < vs.length := by lia
  have hx : vs[r]? = some vs[r] := List.getElem?_eq_getElem hlt
  obtain ⟨t, et, tv⟩ := h.get hx
  exact ⟨_, t, atI_nat hx, List.mem_of_getElem? et, tv⟩
section
variable {P : Program} {w : World} {K : PySem.W.Frag} {mg : Str → Option Value} {base : Heap}
theorem scStr : FnScope ["_law_stream_here", "_law_some"] ["_law_stream_here"] (defScope sStrange) := ⟨rfl, rfl, rfl, by decide +kernel, rfl, by decide +kernel, by decide +kernel⟩
set_option maxHeartbeats 4000000 in
theorem ok_strange {f : Addr} {fd : FuncData} (F : Fun K "_law_strange" "_law_strange" sStrange f fd) (B : Bl mg) (TK : Fn P w K mg base "_law_take" 1 ["_law_stream_here", "_law_many"] spTake) : FnOk P w K mg base CX0 2 f fd ["_law_stream_here"] (spDraw BdAny) := by
  refine F.ok scStr (fun vs H Q E h => ?_) (fun cdv A outer s H vs Q E hr h => ?_)
  · obtain ⟨p, rfl, _⟩ := h
    rfl
  · obtain ⟨p, rfl, hp, q⟩ := h
    refine ⟨_, pss_cons (ps_set (i := 1) scStr.nd rfl (Or.inl rfl) (pe_lst (pa_cons pe_non (pa_cons pe_str (pa_cons pe_str (pa_cons (pe_tup pa_nil) (pa_cons (pe_tup (pa_cons pe_str (pa_cons pe_int (pa_cons pe_int pa_nil)))) (pa_cons (pe_lst (pa_cons pe_str (pa_cons pe_int pa_nil))) (pa_cons pe_dnewK (pa_cons (pe_op op_shl pe_int pe_int) (pa_cons (pe_un un_neg pe_int) (pa_cons (pe_op op_pow pe_int pe_int) (pa_cons pe_int (pa_cons (pe_tup (pa_cons pe_str (pa_cons pe_non pa_nil))) (pa_cons (pe_tup (pa_cons pe_str pa_nil)) pa_nil)))))))))))))))
      (pss_one (ps_ret (pe_ix ix_list (pv 1) (pe_fn TK hr rfl (pa_cons (pv 0) (pa_cons (pe_callB call_len_seq (by rfl) B.len PySem.boot_len (pa_cons (pv 1) pa_nil)) pa_nil))) (fun _ _ => rfl)))), ?_⟩
    refine ⟨(by show 0 ≤ sizeLine; decide), fun a1 n1 => ⟨(by show 3 ≤ sizeLine; decide), fun a2 n2 => ⟨(by show 2 ≤ sizeLine; decide), fun a3 n3 => fun a4 n4 => ?_⟩⟩⟩
    have s1 := same_new (o := .tup []) n1
    have e1 : (upd H a1 (.tup [])) a1 = some (.tup []) := upd_same
    generalize upd H a1 (.tup ([] : List V)) = H1 at *
    have s2 := same_new (o := .tup [.str "is", .int 0, .int 0]) n2
    have e2 : (upd H1 a2 (.tup [.str "is", .int 0, .int 0])) a2 = some (.tup [.str "is", .int 0, .int 0]) := upd_same
    generalize upd H1 a2 (.tup [V.str "is", .int 0, .int 0]) = H2 at *
    have s3 := same_new (o := .lst [.str "is", .int 0]) n3
    have e3 : (upd H2 a3 (.lst [.str "is", .int 0])) a3 = some (.lst [.str "is", .int 0]) := upd_same
    generalize upd H2 a3 (.lst [V.str "is", .int 0]) = H3 at *
    have s4 := same_new (o := .dK []) n4
    have e4 : (upd H3 a4 (.dK [])) a4 = some (.dK []) := upd_same
    generalize upd H3 a4 (.dK []) = H4 at *
    refine ⟨_, _, rfl, rfl, ⟨by decide, by decide, by decide⟩, _, rfl, _, _, rfl, rfl, ⟨by decide, by decide, by decide⟩, (by show 2 ≤ sizeLine; decide), fun a5 n5 => ⟨(by show 1 ≤ sizeLine; decide), fun a6 n6 => ⟨(by show 13 ≤ sizeLine; decide), fun lm nm => ?_⟩⟩⟩
    have s5 := same_new (o := .tup [.str "in", .non]) n5
    have e5 : (upd H4 a5 (.tup [.str "in", .non])) a5 = some (.tup [.str "in", .non]) := upd_same
    generalize upd H4 a5 (.tup [V.str "in", .non]) = H5 at *
    have s6 := same_new (o := .tup [.str "on"]) n6
    have e6 : (upd H5 a6 (.tup [.str "on"])) a6 = some (.tup [.str "on"]) := upd_same
    generalize upd H5 a6 (.tup [V.str "on"]) = H6 at *
    have g6 : Strm H6 p := ((((((hp.same s1).same s2).same s3).same s4).same s5).same s6)
    have s26 := (((s2.trans s3).trans s4).trans s5).trans s6
    have s36 := ((s3.trans s4).trans s5).trans s6
    have s46 := (s4.trans s5).trans s6
    have s56 := s5.trans s6
    have c6 := s1.trans s26
    have hp3 := ((hp.same s1).same s2).ne n3
    have hp4 := (((hp.same s1).same s2).same s3).ne n4
    have hL : TgA p H6 [V.non, .str "0", .str "r0", .ref a1, .ref a2, .ref a3, .ref a4, .int 16777216, .int (-1), .int 100000000000000000000000000000, .int 400, .ref a5, .ref a6] strTs :=
      .cons .non (.cons (.str _) (.cons (.str _) (.cons (.tup (s26 _ _ e1) .nil) (.cons (.tup (s36 _ _ e2) (.cons (.str _) (.cons (.int _) (.cons (.int _) .nil)))) (.cons (.lst hp3.symm (s46 _ _ e3) (.cons (.str _) (.cons (.int _) .nil))) (.cons (.dct hp4.symm (s56 _ _ e4)) (.cons (.int _) (.cons (.int _) (.cons (.int _) (.cons (.int _) (.cons (.tup (s6 _ _ e5) (.cons (.str _) (.cons .non .nil))) (.cons (.tup e6 (.cons (.str _) .nil)) .nil))))))))))))
    rw [show ((1 : Int) * 2 ^ (24 : Int).toNat) = 16777216 from by decide, show ((10 : Int) ^ (29 : Int).toNat) = 100000000000000000000000000000 from by decide +kernel]
    have s7 := same_new (o := .lst [V.non, .str "0", .str "r0", .ref a1, .ref a2, .ref a3, .ref a4, .int 16777216, .int (-1), .int 100000000000000000000000000000, .int 400, .ref a5, .ref a6]) nm
    have e7 : (upd H6 lm (.lst [V.non, .str "0", .str "r0", .ref a1, .ref a2, .ref a3, .ref a4, .int 16777216, .int (-1), .int 100000000000000000000000000000, .int 400, .ref a5, .ref a6])) lm = some (.lst [V.non, .str "0", .str "r0", .ref a1, .ref a2, .ref a3, .ref a4, .int 16777216, .int (-1), .int 100000000000000000000000000000, .int 400, .ref a5, .ref a6]) := upd_same
    generalize upd H6 lm (.lst [V.non, .str "0", .str "r0", .ref a1, .ref a2, .ref a3, .ref a4, .int 16777216, .int (-1), .int 100000000000000000000000000000, .int 400, .ref a5, .ref a6]) = H7 at *
    have ne := (g6.ne nm).symm
    have hL7 := hL.same s7
    generalize [V.non, .str "0", .str "r0", .ref a1, .ref a2, .ref a3, .ref a4, .int 16777216, .int (-1), .int 100000000000000000000000000000, .int 400, .ref a5, .ref a6] = L at *
    have hl : L.length = 13 := hL.length
    refine ⟨_, rfl, _, rfl, _, rfl, lm, _, rfl, .inl (SqL.of e7), p, 13, by rw [hl], g6.same s7, by decide, by decide, fun r H8 hr8 g8 b8 => ?_⟩
    obtain ⟨v, t, ev, mt, tv⟩ := hL7.nth (r := r) hr8
    exact ⟨lm, _, _, v, rfl, rfl, SqL.of (b8 _ _ e7 ne), ev, q v t _ (tv.but (g6.same s7) b8) (str_bad t mt) g8 ((but_of (c6.trans s7)).trans b8)⟩
end
end L3
namespace L3
open PySem L2
def prTab : List (Str × Nat) := [("is", 4), ("by", 3), ("in", 8), ("number", 16777216), ("field", 3)]
def prKvs : List (Key × V) := [(.inr "is", .int 4), (.inr "by", .int 3), (.inr "in", .int 8), (.inr "number", .int 16777216), (.inr "field", .int 3)]
theorem pr_val : ∀ x ∈ prTab, valV (mergeK [] prKvs) (Sum.inr x.1) = some (.int (x.2 : Nat)) := by decide +kernel
def bdPairB (t : Th) : Bool := !selOk t && (!srcOk t && hg t)
theorem bdPair_of {t : Th} (h : bdPairB t = true) : BdPair t := by
  unfold bdPairB at h
  rw [Bool.and_eq_true, Bool.and_eq_true, Bool.not_eq_true', Bool.not_eq_true'] at h
  exact ⟨h.1, h.2.1, h.2.2⟩
def badY (m : Nat) : List Th := [.int m, .int (-1), .int 100000000000000000000000000000, .non, .str "0", .tup [.int 0]]
theorem pair_bad : ∀ x ∈ prTab, ∀ y ∈ badY x.2, bdPairB (.tup [.str x.1, y]) = true := by decide +kernel
def badN : List Th := [.str "as", .str "", .non, .int 0, .str "is"]
theorem name_bad : ∀ x ∈ badN, bdPairB (.tup [x, .str "0"]) = true := by decide +kernel
theorem SelT.pr {t : Th} (h : SelT t) : ∃ x ∈ prTab, ∃ i : Int, t = .tup [.str x.1, .int i] := by
  cases h with
  | is i _ => exact ⟨("is", 4), by simp [prTab], i, rfl⟩
  | «by» i _ => exact ⟨("by", 3), by simp [prTab], i, rfl⟩
theorem SrcT.pr {t : Th} (h : SrcT t) : ∃ x ∈ prTab, ∃ i : Int, t = .tup [.str x.1, .int i] := by
  cases h with
  | fld i _ => exact ⟨("field", 3), by simp [prTab], i, rfl⟩
  | num i _ => exact ⟨("number", 16777216), by simp [prTab], i, rfl⟩
  | inn i _ => exact ⟨("in", 8), by simp [prTab], i, rfl⟩
def spBadPair : Sp := fun vs H Q _ => ∃ (p : Addr) (v : V) (x : Str × Nat) (i : Int), vs = [v, .ref p] ∧ Strm H p ∧ TgV p H v (.tup [.str x.1, .int i]) ∧ x ∈ prTab ∧ ∀ u t H', TgV p H' u t → BdPair t → Strm H' p → But p H H' → Q u H'
section
variable {P : Program} {w : World} {K : PySem.W.Frag} {mg : Str → Option Value} {base : Heap}
theorem scBP : FnScope ["_law_pair", "_law_stream_here", "_law_most", "_law_numbers"] ["_law_pair", "_law_stream_here"] (defScope sBadPair) := ⟨rfl, rfl, rfl, by decide +kernel, rfl, by decide +kernel, by decide +kernel⟩
set_option maxHeartbeats 4000000 in
theorem ok_badPair {f : Addr} {fd : FuncData} (F : Fun K "_law_bad_pair" "_law_bad_pair" sBadPair f fd) (B : Bl mg) (TK : Fn P w K mg base "_law_take" 1 ["_law_stream_here", "_law_many"] spTake) : FnOk P w K mg base CX0 2 f fd ["_law_pair", "_law_stream_here"] spBadPair := by
  refine F.ok scBP (fun vs H Q E h => ?_) (fun cdv A outer s H vs Q E hr h => ?_)
  · obtain ⟨p, v, x, i, rfl, _⟩ := h
    rfl
  · obtain ⟨p, v, x, i, rfl, hp, tv, hx, q⟩ := h
    have hu := hu_of hr
    refine ⟨_, pss_cons (ps_set (i := 2) scBP.nd rfl (Or.inl rfl) (pe_dget hu (pe_disp (pps_cons pe_str pe_int (pps_cons pe_str pe_int (pps_cons pe_str pe_int (pps_cons pe_str (pe_op op_shl pe_int pe_int) (pps_cons pe_str pe_int pps_nil))))) rfl rfl (by intro z; cases z) (by show 5 ≤ 15; decide)) (pe_ix ix_tup (pv 0) pe_int (fun _ _ => rfl)) (fun _ _ => rfl)))
      (pss_cons (ps_set (i := 3) scBP.nd rfl (Or.inl rfl) (pe_lst (pa_cons (pv 2) (pa_cons (pe_un un_neg pe_int) (pa_cons (pe_op op_pow pe_int pe_int) (pa_cons pe_non (pa_cons pe_str (pa_cons (pe_tup (pa_cons pe_int pa_nil)) pa_nil))))))))
      (pss_cons (ps_if (pt_cmpR op_eq (pe_fn TK hr rfl (pa_cons (pv 1) (pa_cons pe_int pa_nil))) pe_int (nomark _)) (pss_one (ps_ret (pe_tup (pa_cons (pe_ix ix_list (pe_lst (pa_cons pe_str (pa_cons pe_str (pa_cons pe_non (pa_cons pe_int (pa_cons pe_str pa_nil)))))) (pe_fn TK hr rfl (pa_cons (pv 1) (pa_cons pe_int pa_nil))) (fun _ _ => rfl)) (pa_cons pe_str pa_nil))))) pss_nil)
      (pss_one (ps_ret (pe_tup (pa_cons (pe_ix ix_tup (pv 0) pe_int (fun _ _ => rfl)) (pa_cons (pe_ix ix_list (pv 3) (pe_fn TK hr rfl (pa_cons (pv 1) (pa_cons (pe_callB call_len_seq (by rfl) B.len PySem.boot_len (pa_cons (pv 3) pa_nil)) pa_nil))) (fun _ _ => rfl)) pa_nil))))))), ?_⟩
    have tv0 := tv
    cases tv with
    | @tup a xs _ ea ta =>
      obtain ⟨x0, x1, t0, t1, rfl, ets, hx0, hx1⟩ := ta.two rfl
      cases ets
      cases hx0
      refine fun d nd => ⟨_, _, rfl, rfl, ⟨by decide, by decide, by decide⟩, upd_same, prKvs, rfl, (by show 5 ≤ 15; decide), ?_⟩
      have s1 : Same H (upd (upd H d (.dK [])) d (.dK (mergeK [] prKvs))) := same_mut nd (same_new nd)
      have e1 : (upd (upd H d (.dK [])) d (.dK (mergeK [] prKvs))) d = some (.dK (mergeK [] prKvs)) := upd_same
      generalize upd (upd H d (.dK [])) d (.dK (mergeK [] prKvs)) = H1 at *
      have g : DGet H1 d (.str x.1) (some (.int (x.2 : Nat))) := by
        have := DGet.k (k := Sum.inr x.1) e1
        rw [pr_val x hx] at this
        exact this
      refine ⟨_, rfl, a, _, _, _, rfl, rfl, SqT.of (s1 _ _ ea), rfl, d, _, rfl, g, ?_⟩
      refine ⟨_, rfl, _, rfl, _, _, rfl, rfl, ⟨by decide, by decide, by decide⟩, (by show 1 ≤ sizeLine; decide), fun a2 n2 => ?_⟩
      have s2 := same_new (o := .tup [.int 0]) n2
      have e2 : (upd H1 a2 (.tup [.int 0])) a2 = some (.tup [.int 0]) := upd_same
      generalize upd H1 a2 (.tup [V.int 0]) = H2 at *
      rw [show ((10 : Int) ^ (29 : Int).toNat) = 100000000000000000000000000000 from by decide +kernel]
      have hL : TgA p H2 [.int (x.2 : Nat), .int (-1), .int 100000000000000000000000000000, .non, .str "0", .ref a2] (badY x.2) := .cons (.int _) (.cons (.int _) (.cons (.int _) (.cons .non (.cons (.str _) (.cons (.tup e2 (.cons (.int _) .nil)) .nil)))))
      refine ⟨(by show 6 ≤ sizeLine; decide), fun lm nm => ?_⟩
      have s3 := same_new (o := .lst [.int (x.2 : Nat), .int (-1), .int 100000000000000000000000000000, .non, .str "0", .ref a2]) nm
      have e3 : (upd H2 lm (.lst [.int (x.2 : Nat), .int (-1), .int 100000000000000000000000000000, .non, .str "0", .ref a2])) lm = some (.lst [.int (x.2 : Nat), .int (-1), .int 100000000000000000000000000000, .non, .str "0", .ref a2]) := upd_same
      generalize upd H2 lm (.lst [V.int (x.2 : Nat), .int (-1), .int 100000000000000000000000000000, .non, .str "0", .ref a2]) = H3 at *
      have hL3 := hL.same s3
      generalize [V.int (x.2 : Nat), .int (-1), .int 100000000000000000000000000000, .non, .str "0", .ref a2] = L at *
      have hl : L.length = 6 := hL.length
      have g2 : Strm H2 p := (hp.same s1).same s2
      have g3 := g2.same s3
      have ne := (g2.ne nm).symm
      have s13 := (s1.trans s2).trans s3
      have ea3 := s13 _ _ ea
      refine ⟨_, rfl, p, 3, rfl, g3, by decide, by decide, fun r1 H4 l1 g4 b4 => ⟨rfl, _, rfl, ite2 (fun h => ?_) (fun h => ?_)⟩⟩
      · refine ⟨(by show 5 ≤ sizeLine; decide), fun ln nn => ?_⟩
        have s5 := same_new (o := .lst [.str "as", .str "", .non, .int 0, .str "is"]) nn
        have e5 : (upd H4 ln (.lst [.str "as", .str "", .non, .int 0, .str "is"])) ln = some (.lst [.str "as", .str "", .non, .int 0, .str "is"]) := upd_same
        have hN : TgA p (upd H4 ln (.lst [.str "as", .str "", .non, .int 0, .str "is"])) [.str "as", .str "", .non, .int 0, .str "is"] badN := .cons (.str _) (.cons (.str _) (.cons .non (.cons (.int _) (.cons (.str _) .nil))))
        generalize upd H4 ln (.lst [V.str "as", .str "", .non, .int 0, .str "is"]) = H5 at *
        have g5 := g4.same s5
        refine ⟨_, rfl, p, 5, rfl, g5, by decide, by decide, fun r2 H6 l2 g6 b6 => ?_⟩
        obtain ⟨u, t, eu, mt, tu⟩ := hN.nth (r := r2) l2
        refine ⟨ln, _, _, u, rfl, rfl, SqL.of (b6 _ _ e5 (g4.ne nn).symm), eu, (by show 2 ≤ sizeLine; decide), fun tp np => ?_⟩
        have s7 := same_new (o := .tup [u, .str "0"]) np
        exact q _ (.tup [t, .str "0"]) _ (.tup upd_same (.cons ((tu.but g5 b6).same s7) (.cons (.str _) .nil))) (bdPair_of (name_bad t mt)) (g6.same s7) (((((but_of s13).trans b4).same s5).trans b6).same s7)
      · refine ⟨_, rfl, a, _, _, _, rfl, rfl, SqT.of (b4 _ _ ea3 (fun z => by obtain ⟨_, _, _, w⟩ := g3; rw [z, w] at ea3; cases ea3)), rfl, ?_⟩
        refine ⟨_, rfl, _, rfl, _, rfl, lm, _, rfl, .inl (SqL.of (b4 _ _ e3 ne)), p, 6, by rw [hl], g4, by decide, by decide, fun r2 H6 l2 g6 b6 => ?_⟩
        obtain ⟨u, t, eu, mt, tu⟩ := hL3.nth (r := r2) l2
        refine ⟨lm, _, _, u, rfl, rfl, SqL.of (b6 _ _ (b4 _ _ e3 ne) ne), eu, (by show 2 ≤ sizeLine; decide), fun tp np => ?_⟩
        have s7 := same_new (o := .tup [.str x.1, u]) np
        exact q _ (.tup [.str x.1, t]) _ (.tup upd_same (.cons (.str _) (.cons (((tu.but g3 b4).but g4 b6).same s7) .nil))) (bdPair_of (pair_bad x hx t mt)) (g6.same s7) ((((but_of s13).trans b4).trans b6).same s7)
end
end L3
namespace L3
open PySem L2
def PartT (x : Th) : Prop := SelT x ∨ SrcT x ∨ (∃ z, x = .str z) ∨ ∃ i, x = .int i
theorem any_for {x t : Th} (h : PartT x) (b : BdAny t) : BdFor x t := by
  rcases h with h | h | ⟨z, rfl⟩ | ⟨i, rfl⟩
  · cases h <;> exact b.1
  · cases h <;> exact b.1
  · exact b.2.1
  · exact b.2.2
def opY : List Th := [.str "", .str "*", .str "++", .str "==", .non, .int 0, .tup [.str "+"]]
theorem op_bad : ∀ t ∈ opY, (!opOk t && hg t) = true := by decide +kernel
def inY : List Th := [.int 8, .int (-1), .int 100000000000000000000000000000, .non, .str "0"]
theorem in_bad : ∀ t ∈ inY, (!wn 0 7 t && hg t) = true := by decide +kernel
theorem and_not {a b : Bool} (h : (!a && b) = true) : a = false ∧ b = true := by
  rw [Bool.and_eq_true, Bool.not_eq_true'] at h
  exact h
def spBadPart : Sp := fun vs H Q _ => ∃ (p : Addr) (v : V) (x : Th), vs = [v, .ref p] ∧ Strm H p ∧ TgV p H v x ∧ PartT x ∧ ∀ u t H', TgV p H' u t → BdFor x t → Strm H' p → But p H H' → Q u H'
section
variable {P : Program} {w : World} {K : PySem.W.Frag} {mg : Str → Option Value} {base : Heap}
theorem scBPt : FnScope ["_law_part", "_law_stream_here"] ["_law_part", "_law_stream_here"] (defScope sBadPart) := ⟨rfl, rfl, rfl, by decide +kernel, rfl, by decide +kernel, by decide +kernel⟩
set_option maxHeartbeats 4000000 in
theorem ok_badPart {f : Addr} {fd : FuncData} (F : Fun K "_law_bad_part" "_law_bad_part" sBadPart f fd) (B : Bl mg) (TK : Fn P w K mg base "_law_take" 1 ["_law_stream_here", "_law_many"] spTake) (SG : Fn P w K mg base "_law_strange" 2 ["_law_stream_here"] (spDraw BdAny)) (BP : Fn P w K mg base "_law_bad_pair" 2 ["_law_pair", "_law_stream_here"] spBadPair) :
    FnOk P w K mg base CX0 3 f fd ["_law_part", "_law_stream_here"] spBadPart := by
  refine F.ok scBPt (fun vs H Q E h => ?_) (fun cdv A outer s H vs Q E hr h => ?_)
  · obtain ⟨p, v, x, rfl, _⟩ := h
    rfl
  · obtain ⟨p, v, x, rfl, hp, tv, hx, q⟩ := h
    have hr1 : Room 1 _ := hr.mono (by decide)
    refine ⟨_, pss_cons (ps_if (pt_cmpR op_eq (pe_fn TK hr1 rfl (pa_cons (pv 1) (pa_cons pe_int pa_nil))) pe_int (nomark _)) (pss_one (ps_ret (pe_fn SG hr rfl (pa_cons (pv 1) pa_nil)))) pss_nil)
      (pss_cons (ps_if (pt_val (pe_callB (isi_ty (T := "tuple")) (by rfl) B.isinstance boot_isi (pa_cons (pv 0) (pa_cons (pe_ty (by rfl) B.tuple boot_tuple') pa_nil)))) (pss_one (ps_ret (pe_fn BP hr rfl (pa_cons (pv 0) (pa_cons (pv 1) pa_nil))))) pss_nil)
      (pss_cons (ps_if (pt_val (pe_callB (isi_ty (T := "str")) (by rfl) B.isinstance boot_isi (pa_cons (pv 0) (pa_cons (pe_ty (by rfl) B.str boot_str') pa_nil)))) (pss_one (ps_ret (pe_ix ix_list (pe_lst (pa_cons pe_str (pa_cons pe_str (pa_cons pe_str (pa_cons pe_str (pa_cons pe_non (pa_cons pe_int (pa_cons (pe_tup (pa_cons pe_str pa_nil)) pa_nil)))))))) (pe_fn TK hr1 rfl (pa_cons (pv 1) (pa_cons pe_int pa_nil))) (fun _ _ => rfl)))) pss_nil)
      (pss_one (ps_ret (pe_ix ix_list (pe_lst (pa_cons pe_int (pa_cons (pe_un un_neg pe_int) (pa_cons (pe_op op_pow pe_int pe_int) (pa_cons pe_non (pa_cons pe_str pa_nil)))))) (pe_fn TK hr1 rfl (pa_cons (pv 1) (pa_cons pe_int pa_nil))) (fun _ _ => rfl)))))), ?_⟩
    refine ⟨_, rfl, p, 4, rfl, hp, by decide, by decide, fun r1 H1 l1 g1 b1 => ⟨rfl, _, rfl, ite2 (fun h => ?_) (fun h => ?_)⟩⟩
    · exact ⟨_, rfl, p, rfl, g1, fun u t H2 tu bt g2 b2 => q u t H2 tu (any_for hx bt) g2 (b1.trans b2)⟩
    have tv1 := tv.but hp b1
    refine ⟨_, rfl, v, _, _, rfl, tv1.ty, kit_tup x, _, rfl, ?_⟩
    rcases hx with hx | hx | ⟨z, rfl⟩ | ⟨i, rfl⟩
    · obtain ⟨y, hy, i, e⟩ := hx.pr
      subst e
      exact iteT ⟨_, rfl, _, rfl, p, v, y, i, rfl, g1, tv1, hy, fun u t H2 tu bt g2 b2 => q u t H2 tu bt g2 (b1.trans b2)⟩
    · obtain ⟨y, hy, i, e⟩ := hx.pr
      subst e
      exact iteT ⟨_, rfl, _, rfl, p, v, y, i, rfl, g1, tv1, hy, fun u t H2 tu bt g2 b2 => q u t H2 tu bt g2 (b1.trans b2)⟩
    · refine iteF ⟨_, rfl, v, _, _, rfl, tv1.ty, kit_str _, _, rfl, iteT ?_⟩
      refine ⟨(by show 1 ≤ sizeLine; decide), fun a2 n2 => ?_⟩
      have s2 := same_new (o := .tup [.str "+"]) n2
      have e2 : (upd H1 a2 (.tup [.str "+"])) a2 = some (.tup [.str "+"]) := upd_same
      generalize upd H1 a2 (.tup [V.str "+"]) = H2 at *
      have hL : TgA p H2 [.str "", .str "*", .str "++", .str "==", .non, .int 0, .ref a2] opY := .cons (.str _) (.cons (.str _) (.cons (.str _) (.cons (.str _) (.cons .non (.cons (.int _) (.cons (.tup e2 (.cons (.str _) .nil)) .nil))))))
      refine ⟨(by show 7 ≤ sizeLine; decide), fun lm nm => ?_⟩
      have s3 := same_new (o := .lst [.str "", .str "*", .str "++", .str "==", .non, .int 0, .ref a2]) nm
      have e3 : (upd H2 lm (.lst [.str "", .str "*", .str "++", .str "==", .non, .int 0, .ref a2])) lm = some (.lst [.str "", .str "*", .str "++", .str "==", .non, .int 0, .ref a2]) := upd_same
      have g2 := g1.same s2
      have hL3 := hL.same s3
      have g3 := g2.same s3
      generalize upd H2 lm (.lst [V.str "", .str "*", .str "++", .str "==", .non, .int 0, .ref a2]) = H3 at *
      refine ⟨_, rfl, p, 7, rfl, g3, by decide, by decide, fun r2 H4 l2 g4 b4 => ?_⟩
      obtain ⟨u, t, eu, mt, tu⟩ := hL3.nth (r := r2) l2
      exact ⟨lm, _, _, u, rfl, rfl, SqL.of (b4 _ _ e3 (g2.ne nm).symm), eu, q u t _ (tu.but g3 b4) (and_not (op_bad t mt)) g4 ((b1.same (s2.trans s3)).trans b4)⟩
    · refine iteF ⟨_, rfl, v, _, _, rfl, tv1.ty, kit_str _, _, rfl, iteF ?_⟩
      refine ⟨_, rfl, _, _, rfl, rfl, ⟨by decide, by decide, by decide⟩, ?_⟩
      rw [show ((10 : Int) ^ (29 : Int).toNat) = 100000000000000000000000000000 from by decide +kernel]
      have hL : TgA p H1 [.int 8, .int (-1), .int 100000000000000000000000000000, .non, .str "0"] inY := .cons (.int _) (.cons (.int _) (.cons (.int _) (.cons .non (.cons (.str _) .nil))))
      refine ⟨(by show 5 ≤ sizeLine; decide), fun lm nm => ?_⟩
      have s3 := same_new (o := .lst [.int 8, .int (-1), .int 100000000000000000000000000000, .non, .str "0"]) nm
      have e3 : (upd H1 lm (.lst [.int 8, .int (-1), .int 100000000000000000000000000000, .non, .str "0"])) lm = some (.lst [.int 8, .int (-1), .int 100000000000000000000000000000, .non, .str "0"]) := upd_same
      have hL3 := hL.same s3
      have g3 := g1.same s3
      generalize upd H1 lm (.lst [V.int 8, .int (-1), .int 100000000000000000000000000000, .non, .str "0"]) = H3 at *
      refine ⟨_, rfl, p, 5, rfl, g3, by decide, by decide, fun r2 H4 l2 g4 b4 => ?_⟩
      obtain ⟨u, t, eu, mt, tu⟩ := hL3.nth (r := r2) l2
      exact ⟨lm, _, _, u, rfl, rfl, SqL.of (b4 _ _ e3 (g1.ne nm).symm), eu, q u t _ (tu.but g3 b4) (and_not (in_bad t mt)) g4 ((b1.same s3).trans b4)⟩
end
end L3
namespace L3
open PySem L2
theorem cut_to (xs : List V) (k : Nat) : cutV xs none (some (k : Int)) = xs.take k := by
  unfold cutV
  rw [HT.sIx_none, HT.sIx_nat, List.drop_zero, Nat.sub_zero]
  by_cases h : k ≤ xs.length
  · rw [Nat.min_eq_left h]
  · rw [Nat.min_eq_right (by lia), List.take_length, List.take_of_length_le (by lia)]
theorem cut_from (xs : List V) (k : Nat) : cutV xs (some (k : Int)) none = xs.drop k := by
  unfold cutV
  rw [HT.sIx_none, HT.sIx_nat]
  by_cases h : k ≤ xs.length
  · rw [Nat.min_eq_left h, List.take_of_length_le (by rw [List.length_drop]; lia)]
  · rw [Nat.min_eq_right (by lia), List.drop_of_length_le (Nat.le_refl _), List.drop_of_length_le (by lia)]
    simp
theorem sl_to {n k : Nat} (h : k < n) : ¬ (HT.sIx n 0 none = 0 ∧ HT.sIx n n (some (k : Int)) = n) := fun z => by
  have := z.2
  rw [HT.sIx_nat] at this
  lia
theorem sl_from {n k : Nat} (h : 1 ≤ k) (hn : 1 ≤ n) : ¬ (HT.sIx n 0 (some (k : Int)) = 0 ∧ HT.sIx n n none = n) := fun z => by
  have := z.1
  rw [HT.sIx_nat] at this
  lia
theorem TgA.last {p : Addr} {H : Hp} {xs : List V} {ts : List Th} (h : TgA p H xs ts) (hn : ts ≠ []) : ∃ u t, atI xs (-1) = some u ∧ t ∈ ts ∧ TgV p H u t := by
  have hl := h.length
  have hx : xs ≠ [] := fun z => by rw [z] at hl; exact hn (List.length_eq_zero_iff.mp hl.symm)
  have hp : 0 < xs.length := List.length_pos_iff.mpr hx
  have hg : xs[xs.length - 1]? = some (xs.getLast hx) := by rw [← List.getLast?_eq_getElem?, List.getLast?_eq_some_getLast hx]
  obtain ⟨t, et, tv⟩ := h.get hg
  refine ⟨xs.getLast hx, t, ?_, List.mem_of_getElem? et, tv⟩
  have := atI_last xs.dropLast (xs.getLast hx)
  rw [List.dropLast_concat_getLast hx] at this
  exact this
theorem StpT.parts {l : List Th} (h : StpT (.tup l)) : ∀ x ∈ l.drop 1, PartT x := by
  cases h with
  | get k hk hs => intro x hx; simp at hx; rcases hx with rfl | rfl; exact .inr (.inr (.inr ⟨_, rfl⟩)); exact .inl hs
  | ask k hk hs => intro x hx; simp at hx; rcases hx with rfl | rfl; exact .inr (.inr (.inr ⟨_, rfl⟩)); exact .inl hs
  | cell k hk hs => intro x hx; simp at hx; rcases hx with rfl | rfl; exact .inr (.inr (.inr ⟨_, rfl⟩)); exact .inr (.inl hs)
  | two k hk ho ha hb => intro x hx; simp at hx; rcases hx with rfl | rfl | rfl | rfl; exact .inr (.inr (.inr ⟨_, rfl⟩)); exact .inr (.inr (.inl ⟨_, rfl⟩)); exact .inr (.inl ha); exact .inr (.inl hb)
  | put hs ha => intro x hx; simp at hx; rcases hx with rfl | rfl; exact .inl hs; exact .inr (.inl ha)
  | tell hs ha => intro x hx; simp at hx; rcases hx with rfl | rfl; exact .inl hs; exact .inr (.inl ha)
  | store ha hb => intro x hx; simp at hx; rcases hx with rfl | rfl; exact .inr (.inl ha); exact .inr (.inl hb)
def stW : List Str := ["get", "ask", "cell", "two", "put", "tell", "store"]
def hdY : List Th := [.str "", .str "Get", .str "load", .non, .int 0, .tup [.str "get"]]
def notW : Th → Bool
  | .str y => !stW.contains y
  | _ => true
theorem hd_bad : ∀ x ∈ hdY, (goodH x && notW x) = true := by decide +kernel
theorem notW_ne {x : Th} (h : notW x = true) : ∀ w ∈ stW, x ≠ .str w := fun w hw e => by
  subst e
  have : (!stW.contains w) = true := h
  rw [List.contains_iff_mem.mpr hw] at this
  cases this
def spBadStep : Sp := fun vs H Q _ => ∃ (p : Addr) (v : V) (x : Th), vs = [v, .ref p] ∧ Strm H p ∧ TgV p H v x ∧ StpT x ∧ ∀ u t H', TgV p H' u t → BdStep t → Strm H' p → But p H H' → Q u H'
theorem StpT.tup {x : Th} (h : StpT x) : ∃ l, x = .tup l := by cases h <;> exact ⟨_, rfl⟩
section
variable {P : Program} {w : World} {K : PySem.W.Frag} {mg : Str → Option Value} {base : Heap}
theorem scBS : FnScope ["_law_step_here", "_law_stream_here", "_law_way", "_law_at"] ["_law_step_here", "_law_stream_here"] (defScope sBadStep) := ⟨rfl, rfl, rfl, by decide +kernel, rfl, by decide +kernel, by decide +kernel⟩
set_option maxHeartbeats 8000000 in
theorem ok_badStep {f : Addr} {fd : FuncData} (F : Fun K "_law_bad_step" "_law_bad_step" sBadStep f fd) (B : Bl mg) (TK : Fn P w K mg base "_law_take" 1 ["_law_stream_here", "_law_many"] spTake) (BP : Fn P w K mg base "_law_bad_part" 3 ["_law_part", "_law_stream_here"] spBadPart) :
    FnOk P w K mg base CX0 4 f fd ["_law_step_here", "_law_stream_here"] spBadStep := by
  refine F.ok scBS (fun vs H Q E h => ?_) (fun cdv A outer s H vs Q E hr h => ?_)
  · obtain ⟨p, v, x, rfl, _⟩ := h
    rfl
  · obtain ⟨p, v, x, rfl, hp, tv, hx, q⟩ := h
    have hr1 : Room 1 _ := hr.mono (by decide)
    have sz : (100000 : Nat) ≤ sizeLine := by decide
    refine ⟨_, pss_cons (ps_set (i := 2) scBS.nd rfl (Or.inl rfl) (pe_fn TK hr1 rfl (pa_cons (pv 1) (pa_cons pe_int pa_nil))))
      (pss_cons (ps_if (pt_cmpR op_eq (pv 2) pe_int (nomark _)) (pss_one (ps_ret (pe_op op_catT (pv 0) (pe_tup (pa_cons (pe_ix ix_tup (pv 0) (pe_un un_neg pe_int) (fun _ _ => rfl)) pa_nil))))) pss_nil)
      (pss_cons (ps_if (pt_cmpR op_eq (pv 2) pe_int (nomark _)) (pss_one (ps_ret (pe_slice sl_tup (pv 0) po_none (po_some (pe_op op_sub (pe_callB call_len_seq (by rfl) B.len PySem.boot_len (pa_cons (pv 0) pa_nil)) pe_int))))) pss_nil)
      (pss_cons (ps_if (pt_cmpR op_eq (pv 2) pe_int (nomark _)) (pss_one (ps_ret (pe_ix ix_list (pe_lst (pa_cons (pe_callTy call_list_of (by rfl) B.list boot_list' (pa_cons (pv 0) pa_nil)) (pa_cons pe_non (pa_cons pe_str (pa_cons pe_int (pa_cons pe_dnewK (pa_cons (pe_tup (pa_cons (pv 0) pa_nil)) pa_nil))))))) (pe_fn TK hr1 rfl (pa_cons (pv 1) (pa_cons pe_int pa_nil))) (fun _ _ => rfl)))) pss_nil)
      (pss_cons (ps_if (pt_cmpR op_eq (pv 2) pe_int (nomark _)) (pss_one (ps_ret (pe_op op_catT (pe_tup (pa_cons (pe_ix ix_list (pe_lst (pa_cons pe_str (pa_cons pe_str (pa_cons pe_str (pa_cons pe_non (pa_cons pe_int (pa_cons (pe_tup (pa_cons pe_str pa_nil)) pa_nil))))))) (pe_fn TK hr1 rfl (pa_cons (pv 1) (pa_cons pe_int pa_nil))) (fun _ _ => rfl)) pa_nil)) (pe_slice sl_tup (pv 0) (po_some pe_int) po_none)))) pss_nil)
      (pss_cons (ps_set (i := 3) scBS.nd rfl (Or.inl rfl) (pe_op op_add pe_int (pe_fn TK hr1 rfl (pa_cons (pv 1) (pa_cons (pe_op op_sub (pe_callB call_len_seq (by rfl) B.len PySem.boot_len (pa_cons (pv 0) pa_nil)) pe_int) pa_nil)))))
      (pss_one (ps_ret (pe_op op_catT (pe_op op_catT (pe_slice sl_tup (pv 0) po_none (po_some (pv 3))) (pe_tup (pa_cons (pe_fn BP hr rfl (pa_cons (pe_ix ix_tup (pv 0) (pv 3) (fun _ _ => rfl)) (pa_cons (pv 1) pa_nil))) pa_nil))) (pe_slice sl_tup (pv 0) (po_some (pe_op op_add (pv 3) pe_int)) po_none))))))))), ?_⟩
    obtain ⟨l, rfl⟩ := hx.tup
    obtain ⟨ll, _, z0, r0, rfl, hr0⟩ := hx.all
    refine ⟨_, rfl, p, 6, rfl, hp, by decide, by decide, fun r1 H1 l1 g1 b1 => ?_⟩
    have tv1 := tv.but hp b1
    cases tv1 with
    | @tup a xs _ e ta =>
    have hl := ta.length
    have hl3 : 3 ≤ xs.length := by rw [hl]; lia
    have hl5 : xs.length ≤ 5 := by rw [hl]; lia
    have hxn : xs ≠ [] := fun z => by rw [z] at hl3; simp at hl3
    refine ⟨_, rfl, rfl, _, rfl, ite2 (fun h => ?_) (fun h0 => ?_)⟩
    · obtain ⟨u, t, eu, mt, tu⟩ := ta.last (by simp)
      refine ⟨_, rfl, _, rfl, _, rfl, a, _, _, u, rfl, rfl, SqT.of e, eu, (by show 1 ≤ sizeLine; decide), fun t1 n1 => ?_⟩
      have s2 := same_new (o := .tup [u]) n1
      have e2 : (upd H1 t1 (.tup [u])) t1 = some (.tup [u]) := upd_same
      generalize upd H1 t1 (.tup [u]) = H2 at *
      refine ⟨a, t1, xs, [u], rfl, rfl, SqT.of (s2 _ _ e), SqT.of e2, hxn, by show xs.length + 1 ≤ _; lia, fun z => (by cases z), fun _ tp np => ?_⟩
      have s3 := same_new (o := .tup (xs ++ [u])) np
      exact q _ _ _ (.tup upd_same ((ta.same (s2.trans s3)).app (.cons (tu.same (s2.trans s3)) .nil))) (bad_more hx mt) ((g1.same s2).same s3) ((b1.same s2).same s3)
    refine ⟨_, rfl, rfl, _, rfl, ite2 (fun h => ?_) (fun h0 => ?_)⟩
    · have ec : ((xs.length : Int) - 1) = ((xs.length - 1 : Nat) : Int) := by lia
      refine ⟨_, rfl, _, rfl, a, _, rfl, .inr (SqT.of e), _, _, rfl, rfl, _, rfl, a, _, rfl, SqT.of e, ?_, fun tp np => ?_⟩
      · rw [ec]; exact sl_to (by lia)
      · rw [ec, cut_to]
        have s3 := same_new (o := .tup (xs.take (xs.length - 1))) np
        refine q _ (.tup ((Th.str z0 :: r0).take ((Th.str z0 :: r0).length - 1))) _ (.tup upd_same ?_) (bad_less hx) (g1.same s3) (b1.same s3)
        rw [show (Th.str z0 :: r0).length = xs.length from hl.symm]
        exact (ta.take _).same s3
    refine ⟨_, rfl, rfl, _, rfl, ite2 (fun h => ?_) (fun h0 => ?_)⟩
    · refine ⟨_, rfl, a, _, rfl, .inr (SqT.of e), fun l2 n2 => fun d3 n3 => ⟨_, rfl, (by show 1 ≤ sizeLine; decide), fun t4 n4 => ⟨(by show 6 ≤ sizeLine; decide), fun lm nm => ?_⟩⟩⟩
      have s2 := same_new (o := .lst xs) n2
      have e2 : (upd H1 l2 (.lst xs)) l2 = some (.lst xs) := upd_same
      have ne2 := (g1.ne n2).symm
      have g2 := g1.same s2
      generalize upd H1 l2 (.lst xs) = H2 at *
      have s3 := same_new (o := .dK []) n3
      have e3 : (upd H2 d3 (.dK [])) d3 = some (.dK []) := upd_same
      have ne3 := (g2.ne n3).symm
      have g3 := g2.same s3
      generalize upd H2 d3 (.dK []) = H3 at *
      have s4 := same_new (o := .tup [.ref a]) n4
      have e4 : (upd H3 t4 (.tup [.ref a])) t4 = some (.tup [.ref a]) := upd_same
      have g4 := g3.same s4
      generalize upd H3 t4 (.tup [V.ref a]) = H4 at *
      have s24 := s2.trans (s3.trans s4)
      have hL : TgA p H4 [.ref l2, .non, .str "get", .int 7, .ref d3, .ref t4] [.lst (.str z0 :: r0), .non, .str "get", .int 7, .dct, .tup [.tup (.str z0 :: r0)]] := .cons (.lst ne2 ((s3.trans s4) _ _ e2) (ta.same s24)) (.cons .non (.cons (.str _) (.cons (.int _) (.cons (.dct ne3 (s4 _ _ e3)) (.cons (.tup e4 (.cons (.tup (s24 _ _ e) (ta.same s24)) .nil)) .nil)))))
      have s5 := same_new (o := .lst [.ref l2, .non, .str "get", .int 7, .ref d3, .ref t4]) nm
      have e5 : (upd H4 lm (.lst [.ref l2, .non, .str "get", .int 7, .ref d3, .ref t4])) lm = some (.lst [.ref l2, .non, .str "get", .int 7, .ref d3, .ref t4]) := upd_same
      have ne5 := (g4.ne nm).symm
      have g5 := g4.same s5
      have hL5 := hL.same s5
      generalize upd H4 lm (.lst [V.ref l2, .non, .str "get", .int 7, .ref d3, .ref t4]) = H5 at *
      refine ⟨_, rfl, p, 6, rfl, g5, by decide, by decide, fun r2 H6 l2' g6 b6 => ?_⟩
      obtain ⟨u, t, eu, mt, tu⟩ := hL5.nth (r := r2) l2'
      refine ⟨lm, _, _, u, rfl, rfl, SqL.of (b6 _ _ e5 ne5), eu, q u t _ (tu.but g5 b6) ?_ g6 ((b1.same (s24.trans s5)).trans b6)⟩
      simp only [List.mem_cons, List.not_mem_nil, or_false] at mt
      rcases mt with rfl | rfl | rfl | rfl | rfl | rfl
      · exact bad_flat rfl
      · exact bad_flat rfl
      · exact bad_flat rfl
      · exact bad_flat rfl
      · exact bad_flat rfl
      · exact bad_one hx
    refine ⟨_, rfl, rfl, _, rfl, ite2 (fun h => ?_) (fun h0 => ?_)⟩
    · refine ⟨(by show 1 ≤ sizeLine; decide), fun a2 n2 => ⟨(by show 6 ≤ sizeLine; decide), fun lm nm => ?_⟩⟩
      have s2 := same_new (o := .tup [.str "get"]) n2
      have e2 : (upd H1 a2 (.tup [.str "get"])) a2 = some (.tup [.str "get"]) := upd_same
      have g2 := g1.same s2
      generalize upd H1 a2 (.tup [V.str "get"]) = H2 at *
      have hL : TgA p H2 [.str "", .str "Get", .str "load", .non, .int 0, .ref a2] hdY := .cons (.str _) (.cons (.str _) (.cons (.str _) (.cons .non (.cons (.int _) (.cons (.tup e2 (.cons (.str _) .nil)) .nil)))))
      have s3 := same_new (o := .lst [.str "", .str "Get", .str "load", .non, .int 0, .ref a2]) nm
      have e3 : (upd H2 lm (.lst [.str "", .str "Get", .str "load", .non, .int 0, .ref a2])) lm = some (.lst [.str "", .str "Get", .str "load", .non, .int 0, .ref a2]) := upd_same
      have ne3 := (g2.ne nm).symm
      have g3 := g2.same s3
      have hL3 := hL.same s3
      generalize upd H2 lm (.lst [V.str "", .str "Get", .str "load", .non, .int 0, .ref a2]) = H3 at *
      refine ⟨_, rfl, p, 6, rfl, g3, by decide, by decide, fun r2 H4 l2 g4 b4 => ?_⟩
      obtain ⟨u, t, eu, mt, tu⟩ := hL3.nth (r := r2) l2
      have s13 := s2.trans s3
      have ta4 := (ta.same s13).but g3 b4
      have e4 := (g3.kt b4) _ _ (s13 _ _ e)
      have tu4 := tu.but g3 b4
      refine ⟨lm, _, _, u, rfl, rfl, SqL.of (b4 _ _ e3 ne3), eu, (by show 1 ≤ sizeLine; decide), fun t5 n5 => ?_⟩
      have s5 := same_new (o := .tup [u]) n5
      have e5 : (upd H4 t5 (.tup [u])) t5 = some (.tup [u]) := upd_same
      generalize upd H4 t5 (.tup [u]) = H5 at *
      refine ⟨_, rfl, _, rfl, a, _, rfl, SqT.of (s5 _ _ e4), sl_from (k := 1) (by decide) (by lia), fun t6 n6 => ?_⟩
      rw [show cutV xs (some 1) none = xs.drop 1 from cut_from xs 1]
      have s6 := same_new (o := .tup (xs.drop 1)) n6
      have e6 : (upd H5 t6 (.tup (xs.drop 1))) t6 = some (.tup (xs.drop 1)) := upd_same
      generalize upd H5 t6 (.tup (xs.drop 1)) = H6 at *
      refine ⟨t5, t6, [u], xs.drop 1, rfl, rfl, SqT.of (s6 _ _ e5), SqT.of e6, by simp, by rw [List.length_drop]; show 1 + (xs.length - 1) ≤ _; lia, fun z => absurd (congrArg List.length z) (by rw [List.length_drop]; simp; lia), fun _ tp np => ?_⟩
      have s7 := same_new (o := .tup ([u] ++ xs.drop 1)) np
      have s57 := (s5.trans s6).trans s7
      have hb := hd_bad t mt
      rw [Bool.and_eq_true] at hb
      exact q _ (.tup (t :: r0)) _ (.tup upd_same (.cons (tu4.same s57) ((ta4.drop 1).same s57))) (bad_head hx hb.1 (notW_ne hb.2)) (g4.same s57) (((b1.same s13).trans b4).same s57)
    · have ec : ((xs.length : Int) - 1) = ((xs.length - 1 : Nat) : Int) := by lia
      refine ⟨_, rfl, _, rfl, a, _, rfl, .inr (SqT.of e), _, _, rfl, rfl, p, xs.length - 1, by rw [ec], g1, by lia, by lia, fun r2 H2 l2 g2 b2 => ⟨_, _, rfl, rfl, ?_⟩⟩
      have ek : ((1 : Int) + (r2 : Int)) = ((1 + r2 : Nat) : Int) := by lia
      show gName 3 (V.int ((1 : Int) + (r2 : Int))) _ _ _
      rw [ek]
      have hk1 : 1 ≤ 1 + r2 := by lia
      have hk2 : 1 + r2 < xs.length := by lia
      generalize 1 + r2 = k at *
      have e2 := (g1.kt b2) _ _ e
      have ta2 := ta.but g1 b2
      have hxk : xs[k]? = some xs[k] := List.getElem?_eq_getElem hk2
      obtain ⟨tk, etk, tuk⟩ := ta2.get hxk
      have hpt : PartT tk := hx.parts tk (by
        rw [List.mem_iff_getElem?]
        exact ⟨k - 1, by rw [List.getElem?_drop, show 1 + (k - 1) = k by lia]; exact etk⟩)
      refine ⟨_, rfl, _, rfl, _, rfl, a, _, rfl, SqT.of e2, sl_to hk2, fun t3 n3 => ?_⟩
      rw [cut_to]
      have s3 := same_new (o := .tup (xs.take k)) n3
      have e3 : (upd H2 t3 (.tup (xs.take k))) t3 = some (.tup (xs.take k)) := upd_same
      have g3 := g2.same s3
      generalize upd H2 t3 (.tup (xs.take k)) = H3 at *
      refine ⟨_, rfl, _, rfl, a, _, _, xs[k], rfl, rfl, SqT.of (s3 _ _ e2), atI_nat hxk, _, rfl, p, xs[k], tk, rfl, g3, tuk.same s3, hpt, fun u t H4 tu bt g4 b4 => ⟨(by show 1 ≤ sizeLine; decide), fun t5 n5 => ?_⟩⟩
      have kt4 := g3.kt b4
      have s5 := same_new (o := .tup [u]) n5
      have e5 : (upd H4 t5 (.tup [u])) t5 = some (.tup [u]) := upd_same
      generalize upd H4 t5 (.tup [u]) = H5 at *
      have e35 := s5 _ _ (kt4 _ _ e3)
      have hkn : xs.take k ≠ [] := fun z => by
        have hkl : (xs.take k).length = k := by rw [List.length_take]; lia
        rw [z, List.length_nil] at hkl
        lia
      refine ⟨t3, t5, xs.take k, [u], rfl, rfl, SqT.of e35, SqT.of e5, hkn, by rw [List.length_take]; show min k xs.length + 1 ≤ _; lia, fun z => (by cases z), fun _ t6 n6 => ?_⟩
      have s6 := same_new (o := .tup (xs.take k ++ [u])) n6
      have e6 : (upd H5 t6 (.tup (xs.take k ++ [u]))) t6 = some (.tup (xs.take k ++ [u])) := upd_same
      generalize upd H5 t6 (.tup (xs.take k ++ [u])) = H6 at *
      have s46 := s5.trans s6
      have ek2 : ((k : Int) + 1) = ((k + 1 : Nat) : Int) := by lia
      have e26 := s46 _ _ (kt4 _ _ (s3 _ _ e2))
      refine ⟨_, rfl, _, rfl, _, _, rfl, rfl, _, rfl, a, _, rfl, SqT.of e26, ?_, fun t7 n7 => ?_⟩
      · rw [ek2]; exact sl_from (by lia) (by lia)
      rw [ek2, cut_from]
      have s7 := same_new (o := .tup (xs.drop (k + 1))) n7
      have e7 : (upd H6 t7 (.tup (xs.drop (k + 1)))) t7 = some (.tup (xs.drop (k + 1))) := upd_same
      generalize upd H6 t7 (.tup (xs.drop (k + 1))) = H7 at *
      have s47 := s46.trans s7
      have ta7 : TgA p H7 xs (.str z0 :: r0) := ((ta2.same s3).but g3 b4).same s47
      have tu7 := tu.same s47
      have bb := bad_at (i := k) hx hk1 (by rw [← hl]; exact hk2) (by rw [etk]; exact bt)
      have but7 : But p H H7 := ((((b1.trans b2).same s3).trans b4).same s47)
      refine ⟨t6, t7, xs.take k ++ [u], xs.drop (k + 1), rfl, rfl, SqT.of (s7 _ _ e6), SqT.of e7, by simp, by rw [List.length_append, List.length_take, List.length_drop]; show min k xs.length + 1 + (xs.length - (k + 1)) ≤ _; lia, fun z => ?_, fun _ tp np => ?_⟩
      · refine q _ _ _ (.tup (s7 _ _ e6) ((ta7.take k).app (.cons tu7 .nil))) ?_ (g4.same s47) but7
        have hd : (Th.str z0 :: r0).drop (k + 1) = [] := by
          have := (ta7.drop (k + 1)).length
          rw [z] at this
          exact List.length_eq_zero_iff.mp this.symm
        rw [hd] at bb
        exact bb
      · rw [show xs.take k ++ [u] ++ xs.drop (k + 1) = xs.take k ++ u :: xs.drop (k + 1) by simp]
        have s8 := same_new (o := .tup (xs.take k ++ u :: xs.drop (k + 1))) np
        refine q _ (.tup ((Th.str z0 :: r0).take k ++ t :: (Th.str z0 :: r0).drop (k + 1))) _ (.tup upd_same ?_) bb ((g4.same s47).same s8) (but7.same s8)
        exact ((ta7.same s8).take k).app (.cons (tu7.same s8) ((ta7.same s8).drop (k + 1)))
end
end L3
namespace L2
open PySem PySem.Spec PyProof.Rows
section
variable {X : Cx}
theorem op_mulC : OpR X (binaryOp .Mult) (fun x y H Q => ∃ (z : Str) (n : Nat), x = .str z ∧ y = .int n ∧ 2 ≤ n ∧ n ≤ 100 ∧ 1 ≤ z.length ∧ z.length ≤ 100 ∧ (⟨(List.replicate n z.cps).foldl (· ++ ·) #[]⟩ : Str).length ≤ sizeLine ∧ Q (.str ⟨(List.replicate n z.cps).foldl (· ++ ·) #[]⟩) H) := by
  intro pins s σ H x y v u Q I rx ry h
  obtain ⟨z, n, rfl, rfl, h1, h2, h3, h4, h5, q⟩ := h
  obtain ⟨t, rfl⟩ := rx
  obtain ⟨t2, rfl⟩ := ry
  refine PySem.P.mul_str ?_ ?_ ?_ ?_
  · simp; lia
  · intro _ _ hgt
    have : (100 : Int) ≤ (2 ^ 63 - 1) / (n : Int) := by
      rw [Int.le_ediv_iff_mul_le (by lia)]
      lia
    lia
  · intro _ _
    unfold Builtin.Str.tooLong
    have sz : (10000 : Nat) ≤ sizeLine := by decide
    have hm : z.length * n ≤ 100 * 100 := Nat.mul_le_mul h4 h2
    simp
    lia
  · rw [if_neg (by lia), if_neg (by simp; lia)]
    rw [Int.toNat_natCast]
    exact ⟨h5, .str _, H, I.tok _, ⟨_, rfl⟩, q⟩
end
end L2
namespace L3
open PySem L2
theorem go4 : (⟨(List.replicate 4 ("go" : Str).cps).foldl (· ++ ·) #[]⟩ : Str) = "gogogogo" := by decide +kernel
theorem z9 : (⟨(List.replicate 9 ("z" : Str).cps).foldl (· ++ ·) #[]⟩ : Str) = "zzzzzzzzz" := by decide +kernel
theorem fau_at {r : Nat} (h : r < 4) : ∃ z ∈ fauG, atI [V.str "z", .str "setq", .str "deeply", .str "gogogogo"] (r : Int) = some (.str z) := by
  rcases (by lia : r = 0 ∨ r = 1 ∨ r = 2 ∨ r = 3) with rfl | rfl | rfl | rfl <;> exact ⟨_, by decide +kernel, rfl⟩
theorem TgA.all {p : Addr} {H : Hp} {C : Th → Prop} {vs : List V} {ts : List Th} (h : TgA p H vs ts) (c : ∀ t ∈ ts, C t) {r : Nat} (hr : r < ts.length) : ∃ v t, atI vs (r : Int) = some v ∧ C t ∧ TgV p H v t := by
  obtain ⟨v, t, e, m, tv⟩ := h.nth hr
  exact ⟨v, t, e, c t m, tv⟩
section
variable {P : Program} {w : World} {K : PySem.W.Frag} {mg : Str → Option Value} {base : Heap}
theorem scLOn : FnScope ["_law_stream_here", "_law_way", "_law_ends"] ["_law_stream_here"] (defScope sLOn) := ⟨rfl, rfl, rfl, by decide +kernel, rfl, by decide +kernel, by decide +kernel⟩
set_option maxHeartbeats 8000000 in
theorem ok_lOn {f : Addr} {fd : FuncData} (F : Fun K "_law_on" "_law_on" sLOn f fd) (TK : Fn P w K mg base "_law_take" 1 ["_law_stream_here", "_law_many"] spTake) : FnOk P w K mg base CX0 2 f fd ["_law_stream_here"] (spDraw OnT) := by
  refine F.ok scLOn (fun vs H Q E h => ?_) (fun cdv A outer s H vs Q E hr h => ?_)
  · obtain ⟨p, rfl, _⟩ := h
    rfl
  · obtain ⟨p, rfl, hp, q⟩ := h
    refine ⟨_, pss_cons (ps_set (i := 1) scLOn.nd rfl (Or.inl rfl) (pe_fn TK hr rfl (pa_cons (pv 0) (pa_cons pe_int pa_nil))))
      (pss_cons (ps_if (pt_cmpR op_lt (pv 1) pe_int (nomark _)) (pss_one (ps_ret (pe_tup (pa_cons (pe_ix ix_list (pe_lst (pa_cons pe_str (pa_cons pe_str pa_nil))) (pv 1) (fun _ _ => rfl)) (pa_cons (pe_fn TK hr rfl (pa_cons (pv 0) (pa_cons pe_int pa_nil))) (pa_cons (pe_fn TK hr rfl (pa_cons (pv 0) (pa_cons pe_int pa_nil))) (pa_cons (pe_fn TK hr rfl (pa_cons (pv 0) (pa_cons pe_int pa_nil))) pa_nil))))))) pss_nil)
      (pss_cons (ps_if (pt_cmpR op_eq (pv 1) pe_int (nomark _)) (pss_one (ps_ret (pe_tup (pa_cons pe_str (pa_cons (pe_fn TK hr rfl (pa_cons (pv 0) (pa_cons pe_int pa_nil))) pa_nil))))) pss_nil)
      (pss_cons (ps_set (i := 2) scLOn.nd rfl (Or.inl rfl) (pe_lst (pa_cons (pe_tup (pa_cons pe_str pa_nil)) (pa_cons (pe_tup (pa_cons pe_str (pa_cons (pe_fn TK hr rfl (pa_cons (pv 0) (pa_cons pe_int pa_nil))) pa_nil))) (pa_cons (pe_tup (pa_cons pe_str (pa_cons (pe_fn TK hr rfl (pa_cons (pv 0) (pa_cons pe_int pa_nil))) pa_nil))) (pa_cons (pe_tup (pa_cons pe_str pa_nil)) (pa_cons (pe_tup (pa_cons pe_str pa_nil)) pa_nil)))))))
      (pss_one (ps_ret (pe_tup (pa_cons pe_str (pa_cons (pe_ix ix_list (pe_op op_cat (pv 2) (pe_lst (pa_cons (pe_tup (pa_cons pe_str (pa_cons (pe_ix ix_list (pe_lst (pa_cons pe_str (pa_cons pe_str (pa_cons pe_str (pa_cons (pe_op op_mulC pe_str pe_int) pa_nil))))) (pe_fn TK hr rfl (pa_cons (pv 0) (pa_cons pe_int pa_nil))) (fun _ _ => rfl)) pa_nil))) pa_nil))) (pe_fn TK hr rfl (pa_cons (pv 0) (pa_cons pe_int pa_nil))) (fun _ _ => rfl)) pa_nil)))))))), ?_⟩
    refine ⟨_, rfl, p, 5, rfl, hp, by decide, by decide, fun r1 H1 l1 g1 b1 => ?_⟩
    refine ⟨_, rfl, _, _, rfl, rfl, _, rfl, ite2 (fun h => ?_) (fun h0 => ?_)⟩
    · have hr2 : r1 < 2 := by have := of_decide_eq_true h; lia
      refine ⟨(by show 2 ≤ sizeLine; decide), fun lm nm => ?_⟩
      have s2 := same_new (o := .lst [.str "some", .str "top"]) nm
      have e2 : (upd H1 lm (.lst [.str "some", .str "top"])) lm = some (.lst [.str "some", .str "top"]) := upd_same
      have g2 := g1.same s2
      generalize upd H1 lm (.lst [V.str "some", .str "top"]) = H2 at *
      obtain ⟨z, hz, ez⟩ : ∃ z : Str, (z = "some" ∨ z = "top") ∧ atI [V.str "some", .str "top"] (r1 : Int) = some (.str z) := by
        rcases (by lia : r1 = 0 ∨ r1 = 1) with rfl | rfl
        · exact ⟨_, .inl rfl, rfl⟩
        · exact ⟨_, .inr rfl, rfl⟩
      refine ⟨_, rfl, lm, _, _, _, rfl, rfl, SqL.of e2, ez, ?_⟩
      refine ⟨_, rfl, p, 8, rfl, g2, by decide, by decide, fun i H3 li g3 b3 => ⟨_, rfl, p, 400, rfl, g3, by decide, by decide, fun a H4 la g4 b4 => ⟨_, rfl, p, 400, rfl, g4, by decide, by decide, fun b H5 lb g5 b5 => ⟨(by show 4 ≤ sizeLine; decide), fun tp np => ?_⟩⟩⟩⟩
      have s6 := same_new (o := .tup [.str z, .int i, .int a, .int b]) np
      exact q _ (.tup [.str z, .int i, .int a, .int b]) _ (.tup upd_same (.cons (.str _) (.cons (.int _) (.cons (.int _) (.cons (.int _) .nil))))) (.two z i a b hz li la lb) (g5.same s6) (((((b1.same s2).trans b3).trans b4).trans b5).same s6)
    refine ⟨_, rfl, rfl, _, rfl, ite2 (fun h => ?_) (fun h1 => ?_)⟩
    · refine ⟨_, rfl, p, 400, rfl, g1, by decide, by decide, fun a H4 la g4 b4 => ⟨(by show 2 ≤ sizeLine; decide), fun tp np => ?_⟩⟩
      have s6 := same_new (o := .tup [.str "on", .int a]) np
      exact q _ (.tup [.str "on", .int a]) _ (.tup upd_same (.cons (.str _) (.cons (.int _) .nil))) (.on a la) (g4.same s6) ((b1.trans b4).same s6)
    · refine ⟨(by show 1 ≤ sizeLine; decide), fun t1 n1 => ?_⟩
      have s1 := same_new (o := .tup [.str "next"]) n1
      have e1 : (upd H1 t1 (.tup [.str "next"])) t1 = some (.tup [.str "next"]) := upd_same
      have f1 := g1.same s1
      generalize upd H1 t1 (.tup [V.str "next"]) = J1 at *
      refine ⟨_, rfl, p, 3, rfl, f1, by decide, by decide, fun i H2 li g2 b2 => ⟨(by show 2 ≤ sizeLine; decide), fun t2 n2 => ?_⟩⟩
      have s2 := same_new (o := .tup [.str "go", .int i]) n2
      have e2 : (upd H2 t2 (.tup [.str "go", .int i])) t2 = some (.tup [.str "go", .int i]) := upd_same
      have f2 := g2.same s2
      generalize upd H2 t2 (.tup [V.str "go", .int i]) = J2 at *
      refine ⟨_, rfl, p, 3, rfl, f2, by decide, by decide, fun j H3 lj g3 b3 => ⟨(by show 2 ≤ sizeLine; decide), fun t3 n3 => ?_⟩⟩
      have s3 := same_new (o := .tup [.str "call", .int j]) n3
      have e3 : (upd H3 t3 (.tup [.str "call", .int j])) t3 = some (.tup [.str "call", .int j]) := upd_same
      have f3 := g3.same s3
      generalize upd H3 t3 (.tup [V.str "call", .int j]) = J3 at *
      refine ⟨(by show 1 ≤ sizeLine; decide), fun t4 n4 => ⟨(by show 1 ≤ sizeLine; decide), fun t5 n5 => ⟨(by show 5 ≤ sizeLine; decide), fun lm nm => ?_⟩⟩⟩
      have s4 := same_new (o := .tup [.str "back"]) n4
      have e4 : (upd J3 t4 (.tup [.str "back"])) t4 = some (.tup [.str "back"]) := upd_same
      have f4 := f3.same s4
      generalize upd J3 t4 (.tup [V.str "back"]) = J4 at *
      have s5 := same_new (o := .tup [.str "stop"]) n5
      have e5 : (upd J4 t5 (.tup [.str "stop"])) t5 = some (.tup [.str "stop"]) := upd_same
      have f5 := f4.same s5
      generalize upd J4 t5 (.tup [V.str "stop"]) = J5 at *
      have kt12 := f1.kt b2
      have kt23 := f2.kt b3
      have s35 := s4.trans s5
      have e1' := s35 _ _ (s3 _ _ (kt23 _ _ (s2 _ _ (kt12 _ _ e1))))
      have e2' := s35 _ _ (s3 _ _ (kt23 _ _ e2))
      have e3' := s35 _ _ e3
      have e4' := s5 _ _ e4
      have b5 : But p H J5 := (((((b1.same s1).trans b2).same s2).trans b3).same s3).same s35
      have s6 := same_new (o := .lst [.ref t1, .ref t2, .ref t3, .ref t4, .ref t5]) nm
      have e6 : (upd J5 lm (.lst [.ref t1, .ref t2, .ref t3, .ref t4, .ref t5])) lm = some (.lst [.ref t1, .ref t2, .ref t3, .ref t4, .ref t5]) := upd_same
      have f6 := f5.same s6
      have ne6 := (f5.ne nm).symm
      generalize upd J5 lm (.lst [V.ref t1, .ref t2, .ref t3, .ref t4, .ref t5]) = J6 at *
      refine ⟨_, rfl, "go", 4, rfl, rfl, by decide, by decide, by decide +kernel, by decide +kernel, (by rw [go4]; decide +kernel), ?_⟩
      rw [go4]
      refine ⟨(by show 4 ≤ sizeLine; decide), fun ln nn => ?_⟩
      have s7 := same_new (o := .lst [.str "z", .str "setq", .str "deeply", .str "gogogogo"]) nn
      have e7 : (upd J6 ln (.lst [.str "z", .str "setq", .str "deeply", .str "gogogogo"])) ln = some (.lst [.str "z", .str "setq", .str "deeply", .str "gogogogo"]) := upd_same
      have f7 := f6.same s7
      have ne7 := (f6.ne nn).symm
      generalize upd J6 ln (.lst [V.str "z", .str "setq", .str "deeply", .str "gogogogo"]) = J7 at *
      refine ⟨_, rfl, p, 4, rfl, f7, by decide, by decide, fun r2 H8 l2 g8 b8 => ?_⟩
      obtain ⟨z, hz, ez⟩ := fau_at l2
      refine ⟨ln, _, _, _, rfl, rfl, SqL.of (b8 _ _ e7 ne7), ez, (by show 2 ≤ sizeLine; decide), fun t9 n9 => ?_⟩
      have s9 := same_new (o := .tup [.str "fault", .str z]) n9
      have e9 : (upd H8 t9 (.tup [.str "fault", .str z])) t9 = some (.tup [.str "fault", .str z]) := upd_same
      have f9 := g8.same s9
      generalize upd H8 t9 (.tup [V.str "fault", .str z]) = J9 at *
      refine ⟨(by show 1 ≤ sizeLine; decide), fun lq nq => ?_⟩
      have s10 := same_new (o := .lst [.ref t9]) nq
      have e10 : (upd J9 lq (.lst [.ref t9])) lq = some (.lst [.ref t9]) := upd_same
      have f10 := f9.same s10
      generalize upd J9 lq (.lst [V.ref t9]) = J10 at *
      have kt8 := f7.kt b8
      have s810 := s9.trans s10
      have e6' := s810 _ _ (b8 _ _ (s7 _ _ e6) ne6)
      refine ⟨lm, lq, _, _, rfl, rfl, e6', e10, (by show 5 + 1 ≤ sizeLine; decide), fun lr nr => ?_⟩
      have s11 := same_new (o := .lst ([.ref t1, .ref t2, .ref t3, .ref t4, .ref t5] ++ [.ref t9])) nr
      have e11 : (upd J10 lr (.lst ([.ref t1, .ref t2, .ref t3, .ref t4, .ref t5] ++ [.ref t9]))) lr = some (.lst ([.ref t1, .ref t2, .ref t3, .ref t4, .ref t5] ++ [.ref t9])) := upd_same
      have f11 := f10.same s11
      have ne11 := (f10.ne nr).symm
      generalize upd J10 lr (.lst ([V.ref t1, .ref t2, .ref t3, .ref t4, .ref t5] ++ [V.ref t9])) = J11 at *
      have up : ∀ {b : Addr} {ys : List V}, J5 b = some (.tup ys) → J11 b = some (.tup ys) := fun e => s11 _ _ (s810 _ _ (kt8 _ _ ((s6.trans s7) _ _ e)))
      have hL : TgA p J11 [.ref t1, .ref t2, .ref t3, .ref t4, .ref t5, .ref t9] [.tup [.str "next"], .tup [.str "go", .int i], .tup [.str "call", .int j], .tup [.str "back"], .tup [.str "stop"], .tup [.str "fault", .str z]] :=
        .cons (.tup (up e1') (.cons (.str _) .nil)) (.cons (.tup (up e2') (.cons (.str _) (.cons (.int _) .nil))) (.cons (.tup (up e3') (.cons (.str _) (.cons (.int _) .nil))) (.cons (.tup (up e4') (.cons (.str _) .nil)) (.cons (.tup (up e5) (.cons (.str _) .nil)) (.cons (.tup ((s10.trans s11) _ _ e9) (.cons (.str _) (.cons (.str _) .nil))) .nil)))))
      have hC : ∀ t ∈ [Th.tup [.str "next"], .tup [.str "go", .int i], .tup [.str "call", .int j], .tup [.str "back"], .tup [.str "stop"], .tup [.str "fault", .str z]], EndT t := by
        intro t ht
        simp only [List.mem_cons, List.not_mem_nil, or_false] at ht
        rcases ht with rfl | rfl | rfl | rfl | rfl | rfl
        · exact .next
        · exact .go i li
        · exact .call j lj
        · exact .back
        · exact .stop
        · exact .fault z hz
      refine ⟨_, rfl, p, 6, rfl, f11, by decide, by decide, fun r3 H12 l3 g12 b12 => ?_⟩
      obtain ⟨u, t, eu, ct, tu⟩ := hL.all hC (r := r3) l3
      refine ⟨lr, _, _, u, rfl, rfl, SqL.of (b12 _ _ e11 ne11), eu, (by show 2 ≤ sizeLine; decide), fun tp np => ?_⟩
      have s13 := same_new (o := .tup [.str "done", u]) np
      exact q _ (.tup [.str "done", t]) _ (.tup upd_same (.cons (.str _) (.cons ((tu.but f11 b12).same s13) .nil))) (.done ct) (g12.same s13) ((((((b5.same (s6.trans s7)).trans b8).same (s810.trans s11)).trans b12)).same s13)
end
end L3
namespace L3
open PySem L2
def BdOn (t : Th) : Prop := onOk t = false ∧ OnG t
def shortT : Th → Bool
  | .str z => decide (z.cps.toList.length ≤ 1000)
  | _ => true
theorem endG_of {t : Th} (h : (hg t && (hg1 t && shortT (arg 1 t))) = true) : EndG t := by
  rw [Bool.and_eq_true, Bool.and_eq_true] at h
  refine ⟨h.1, h.2.1, fun z e => ?_⟩
  have := h.2.2
  rw [e] at this
  exact of_decide_eq_true this
def endY : List Th := [.tup [.str "go", .int 3], .tup [.str "call", .int 3], .tup [.str "go"], .tup [.str "next", .int 0], .tup [.str "fault", .str "deep"], .tup [.str "fault", .str "bare"], .tup [.str "fault", .str "Z"], .tup [], .tup [.str "fault", .str ""], .tup [.str "fault", .str "set"], .tup [.str "fault"], .tup [.str "fault", .int 3], .tup [.str "go", .str "0"], .tup [.str "go", .int (-1)], .tup [.str "end"], .non, .tup [.str "fault", .str "zzzzzzzzz"]]
theorem end_bad : ∀ t ∈ endY, (!endOk t && (hg t && (hg1 t && shortT (arg 1 t)))) = true := by decide +kernel
theorem done_bad {e : Th} (h : (!endOk e && (hg e && (hg1 e && shortT (arg 1 e)))) = true) : BdOn (.tup [.str "done", e]) := by
  obtain ⟨a, b⟩ := and_not h
  exact ⟨a, rfl, endG_of b⟩
def adY : List Th := [.int 400, .int (-1), .int 100000000000000000000000000000, .non, .str "3"]
theorem ad_bad : ∀ t ∈ adY, (!wn 0 7 t && (!wn 0 399 t && (hg t && (hg1 t && shortT (arg 1 t))))) = true := by decide +kernel
def twoY : List Th := [.non, .str "on", .int 3, .tup [.str "done", .str "next"], .tup [.str "done", .lst [.str "next"]], .tup [.str "on", .tup [.int 3]]]
theorem two_bad : ∀ t ∈ twoY, (!onOk t && (hg t && (hg (arg 1 t) && (hg1 (arg 1 t) && shortT (arg 1 (arg 1 t)))))) = true := by decide +kernel
theorem bdOn_of {t : Th} (h : (!onOk t && (hg t && (hg (arg 1 t) && (hg1 (arg 1 t) && shortT (arg 1 (arg 1 t)))))) = true) : BdOn t := by
  obtain ⟨a, b⟩ := and_not h
  rw [Bool.and_eq_true] at b
  exact ⟨a, b.1, endG_of b.2⟩
theorem on_len {l : List Th} (h2 : l.length ≠ 2) (h4 : l.length ≠ 4) : onOk (.tup l) = false := by
  unfold onOk
  simp [hd_len h2, hd_len h4]
theorem OnT.tup {x : Th} (h : OnT x) : ∃ z r, x = .tup (.str z :: r) ∧ (r.length = 1 ∨ r.length = 3) ∧ (z = "done" ↔ ∃ e, r = [e] ∧ EndT e ∧ z = "done") := by
  cases h with
  | two z i a b hz hi ha hb =>
    refine ⟨z, _, rfl, .inr rfl, fun e => ?_, fun ⟨e, h, _⟩ => by simp at h⟩
    rcases hz with rfl | rfl
    · exact absurd e (by decide +kernel)
    · exact absurd e (by decide +kernel)
  | on a ha => exact ⟨_, _, rfl, .inl rfl, fun e => absurd e (by decide +kernel), fun ⟨_, _, _, h⟩ => h⟩
  | @done e he => exact ⟨_, _, rfl, .inl rfl, fun _ => ⟨e, rfl, he, rfl⟩, fun _ => rfl⟩
theorem on_more {l : List Th} (h : OnT (.tup l)) : BdOn (.tup (l ++ [.int 0])) := by
  cases h with
  | two z i a b hz hi ha hb => exact ⟨on_len (by simp) (by simp), rfl, endG_int _⟩
  | on a ha => exact ⟨on_len (by simp) (by simp), rfl, endG_int _⟩
  | done he => exact ⟨on_len (by simp) (by simp), rfl, he.ok.2⟩
theorem endG_non : EndG .non := ⟨rfl, rfl, fun z e => by cases e⟩
theorem on_less {l : List Th} (h : OnT (.tup l)) : BdOn (.tup (l.take (l.length - 1))) := by
  cases h with
  | two z i a b hz hi ha hb => exact ⟨on_len (by simp) (by simp), rfl, endG_int _⟩
  | on a ha => exact ⟨on_len (by simp) (by simp), rfl, endG_non⟩
  | done he => exact ⟨on_len (by simp) (by simp), rfl, endG_non⟩
theorem on_at {z : Str} {r : List Th} {k : Nat} {t : Th} (h : OnT (.tup (.str z :: r))) (hz : z ≠ "done") (h1 : 1 ≤ k) (h2 : k < r.length + 1) (mt : t ∈ adY) : BdOn (.tup ((Th.str z :: r).take k ++ t :: (Th.str z :: r).drop (k + 1))) := by
  have hb := ad_bad t mt
  obtain ⟨w7, hb⟩ := and_not hb
  obtain ⟨wa, hb⟩ := and_not hb
  cases h with
  | two z i a b hz' hi ha hb' =>
    rcases (by simp at h2; lia : k = 1 ∨ k = 2 ∨ k = 3) with rfl | rfl | rfl
    · rcases hz' with rfl | rfl
      · exact ⟨by show (wn 0 7 t && (wn 0 399 (.int a) && wn 0 399 (.int b))) = false; rw [w7]; rfl, rfl, endG_of hb⟩
      · exact ⟨by show (wn 0 7 t && (wn 0 399 (.int a) && wn 0 399 (.int b))) = false; rw [w7]; rfl, rfl, endG_of hb⟩
    · rcases hz' with rfl | rfl
      · exact ⟨by show (wn 0 7 (.int i) && (wn 0 399 t && wn 0 399 (.int b))) = false; rw [wa, Bool.false_and, Bool.and_false], rfl, endG_int _⟩
      · exact ⟨by show (wn 0 7 (.int i) && (wn 0 399 t && wn 0 399 (.int b))) = false; rw [wa, Bool.false_and, Bool.and_false], rfl, endG_int _⟩
    · rcases hz' with rfl | rfl
      · exact ⟨by show (wn 0 7 (.int i) && (wn 0 399 (.int a) && wn 0 399 t)) = false; rw [wa, Bool.and_false, Bool.and_false], rfl, endG_int _⟩
      · exact ⟨by show (wn 0 7 (.int i) && (wn 0 399 (.int a) && wn 0 399 t)) = false; rw [wa, Bool.and_false, Bool.and_false], rfl, endG_int _⟩
  | on a ha =>
    have : k = 1 := by simp at h2; lia
    subst this
    exact ⟨wa, rfl, endG_of hb⟩
  | done he => exact absurd rfl hz
def spBadOn : Sp := fun vs H Q _ => ∃ (p : Addr) (v : V) (x : Th), vs = [v, .ref p] ∧ Strm H p ∧ TgV p H v x ∧ OnT x ∧ ∀ u t H', TgV p H' u t → BdOn t → Strm H' p → But p H H' → Q u H'
end L3
namespace L3
open PySem L2
theorem TgA.snoc {p : Addr} {H : Hp} {vs : List V} {ts : List Th} {v : V} {t : Th} (h : TgA p H vs ts) (x : TgV p H v t) : TgA p H (vs ++ [v]) (ts ++ [t]) := h.app (.cons x .nil)
section
variable {P : Program} {w : World} {K : PySem.W.Frag} {mg : Str → Option Value} {base : Heap}
theorem scBOn : FnScope ["_law_on_here", "_law_stream_here", "_law_way", "_law_at", "_law_ends"] ["_law_on_here", "_law_stream_here"] (defScope sBadOn) := ⟨rfl, rfl, rfl, by decide +kernel, rfl, by decide +kernel, by decide +kernel⟩
set_option maxHeartbeats 16000000 in
theorem ok_badOn {f : Addr} {fd : FuncData} (F : Fun K "_law_bad_on" "_law_bad_on" sBadOn f fd) (B : Bl mg) (TK : Fn P w K mg base "_law_take" 1 ["_law_stream_here", "_law_many"] spTake) : FnOk P w K mg base CX0 2 f fd ["_law_on_here", "_law_stream_here"] spBadOn := by
  refine F.ok scBOn (fun vs H Q E h => ?_) (fun cdv A outer s H vs Q E hr h => ?_)
  · obtain ⟨p, v, x, rfl, _⟩ := h
    rfl
  · obtain ⟨p, v, x, rfl, hp, tv, hx, q⟩ := h
    have hr1 : Room 1 _ := hr
    have sz : (100000 : Nat) ≤ sizeLine := by decide
    refine ⟨_, pss_cons (ps_set (i := 2) scBOn.nd rfl (Or.inl rfl) (pe_fn TK hr1 rfl (pa_cons (pv 1) (pa_cons pe_int pa_nil))))
      (pss_cons (ps_if (pt_cmpR op_eq (pv 2) pe_int (nomark _)) (pss_one (ps_ret (pe_op op_catT (pv 0) (pe_tup (pa_cons pe_int pa_nil))))) pss_nil)
      (pss_cons (ps_if (pt_cmpR op_eq (pv 2) pe_int (nomark _)) (pss_one (ps_ret (pe_slice sl_tup (pv 0) po_none (po_some (pe_op op_sub (pe_callB call_len_seq (by rfl) B.len PySem.boot_len (pa_cons (pv 0) pa_nil)) pe_int))))) pss_nil)
      (pss_cons (ps_if (pt_cmpR op_eq (pv 2) pe_int (nomark _)) (pss_one (ps_ret (pe_ix ix_list (pe_lst (pa_cons (pe_callTy call_list_of (by rfl) B.list boot_list' (pa_cons (pv 0) pa_nil)) (pa_cons pe_non (pa_cons pe_str (pa_cons pe_int (pa_cons (pe_tup (pa_cons pe_str (pa_cons pe_str pa_nil))) (pa_cons (pe_tup (pa_cons pe_str (pa_cons (pe_lst (pa_cons pe_str pa_nil)) pa_nil))) (pa_cons (pe_tup (pa_cons pe_str (pa_cons (pe_tup (pa_cons pe_int pa_nil)) pa_nil))) pa_nil)))))))) (pe_fn TK hr1 rfl (pa_cons (pv 1) (pa_cons pe_int pa_nil))) (fun _ _ => rfl)))) pss_nil)
      (pss_cons (ps_if (pt_cmpR op_ne (pe_ix ix_tup (pv 0) pe_int (fun _ _ => rfl)) pe_str (nomark _))
          (pss_cons (ps_set (i := 3) scBOn.nd rfl (Or.inl rfl) (pe_op op_add pe_int (pe_fn TK hr1 rfl (pa_cons (pv 1) (pa_cons (pe_op op_sub (pe_callB call_len_seq (by rfl) B.len PySem.boot_len (pa_cons (pv 0) pa_nil)) pe_int) pa_nil)))))
          (pss_one (ps_ret (pe_op op_catT (pe_op op_catT (pe_slice sl_tup (pv 0) po_none (po_some (pv 3))) (pe_tup (pa_cons (pe_ix ix_list (pe_lst (pa_cons pe_int (pa_cons (pe_un un_neg pe_int) (pa_cons (pe_op op_pow pe_int pe_int) (pa_cons pe_non (pa_cons pe_str pa_nil)))))) (pe_fn TK hr1 rfl (pa_cons (pv 1) (pa_cons pe_int pa_nil))) (fun _ _ => rfl)) pa_nil))) (pe_slice sl_tup (pv 0) (po_some (pe_op op_add (pv 3) pe_int)) po_none))))) pss_nil)
      (pss_cons (ps_set (i := 4) scBOn.nd rfl (Or.inl rfl) (pe_lst (pa_cons (pe_tup (pa_cons pe_str (pa_cons pe_int pa_nil))) (pa_cons (pe_tup (pa_cons pe_str (pa_cons pe_int pa_nil))) (pa_cons (pe_tup (pa_cons pe_str pa_nil)) (pa_cons (pe_tup (pa_cons pe_str (pa_cons pe_int pa_nil))) (pa_cons (pe_tup (pa_cons pe_str (pa_cons pe_str pa_nil))) (pa_cons (pe_tup (pa_cons pe_str (pa_cons pe_str pa_nil))) (pa_cons (pe_tup (pa_cons pe_str (pa_cons pe_str pa_nil))) (pa_cons (pe_tup pa_nil) pa_nil))))))))))
      (pss_cons (ps_set (i := 4) scBOn.nd rfl (Or.inl rfl) (pe_op op_cat (pv 4) (pe_lst (pa_cons (pe_tup (pa_cons pe_str (pa_cons pe_str pa_nil))) (pa_cons (pe_tup (pa_cons pe_str (pa_cons pe_str pa_nil))) (pa_cons (pe_tup (pa_cons pe_str pa_nil)) (pa_cons (pe_tup (pa_cons pe_str (pa_cons pe_int pa_nil))) (pa_cons (pe_tup (pa_cons pe_str (pa_cons pe_str pa_nil))) (pa_cons (pe_tup (pa_cons pe_str (pa_cons (pe_un un_neg pe_int) pa_nil))) (pa_cons (pe_tup (pa_cons pe_str pa_nil)) (pa_cons pe_non pa_nil)))))))))))
      (pss_cons (ps_expr (pe_bm PySem.F.plainAttrs_list PySem.F.slot_list_append PySem.F.type_list_append mt_append (pv 4) (pa_cons (pe_tup (pa_cons pe_str (pa_cons (pe_op op_mulC pe_str pe_int) pa_nil))) pa_nil)))
      (pss_one (ps_ret (pe_tup (pa_cons pe_str (pa_cons (pe_ix ix_list (pv 4) (pe_fn TK hr1 rfl (pa_cons (pv 1) (pa_cons (pe_callB call_len_seq (by rfl) B.len PySem.boot_len (pa_cons (pv 4) pa_nil)) pa_nil))) (fun _ _ => rfl)) pa_nil)))))))))))), ?_⟩
    obtain ⟨z0, r0, rfl, ll, hdn⟩ := hx.tup
    refine ⟨_, rfl, p, 5, rfl, hp, by decide, by decide, fun r1 H1 l1 g1 b1 => ?_⟩
    have tv1 := tv.but hp b1
    cases tv1 with
    | @tup a xs _ e ta =>
    have hl := ta.length
    have hl2 : 2 ≤ xs.length := by rw [hl]; simp; lia
    have hl5 : xs.length ≤ 5 := by rw [hl]; simp; lia
    have hxn : xs ≠ [] := fun z => by rw [z] at hl2; simp at hl2
    refine ⟨_, rfl, rfl, _, rfl, ite2 (fun h => ?_) (fun h0 => ?_)⟩
    · refine ⟨_, rfl, (by show 1 ≤ sizeLine; decide), fun t1 n1 => ?_⟩
      have s2 := same_new (o := .tup [.int 0]) n1
      have e2 : (upd H1 t1 (.tup [.int 0])) t1 = some (.tup [.int 0]) := upd_same
      generalize upd H1 t1 (.tup [V.int 0]) = H2 at *
      refine ⟨a, t1, xs, [.int 0], rfl, rfl, SqT.of (s2 _ _ e), SqT.of e2, hxn, by show xs.length + 1 ≤ _; lia, fun z => (by cases z), fun _ tp np => ?_⟩
      have s3 := same_new (o := .tup (xs ++ [.int 0])) np
      exact q _ _ _ (.tup upd_same ((ta.same (s2.trans s3)).snoc (.int _))) (on_more hx) ((g1.same s2).same s3) ((b1.same s2).same s3)
    refine ⟨_, rfl, rfl, _, rfl, ite2 (fun h => ?_) (fun h0 => ?_)⟩
    · have ec : ((xs.length : Int) - 1) = ((xs.length - 1 : Nat) : Int) := by lia
      refine ⟨_, rfl, _, rfl, a, _, rfl, .inr (SqT.of e), _, _, rfl, rfl, _, rfl, a, _, rfl, SqT.of e, ?_, fun tp np => ?_⟩
      · rw [ec]; exact sl_to (by lia)
      · rw [ec, cut_to]
        have s3 := same_new (o := .tup (xs.take (xs.length - 1))) np
        refine q _ (.tup ((Th.str z0 :: r0).take ((Th.str z0 :: r0).length - 1))) _ (.tup upd_same ?_) (on_less hx) (g1.same s3) (b1.same s3)
        rw [show (Th.str z0 :: r0).length = xs.length from hl.symm]
        exact (ta.take _).same s3
    refine ⟨_, rfl, rfl, _, rfl, ite2 (fun h => ?_) (fun h0 => ?_)⟩
    · refine ⟨_, rfl, a, _, rfl, .inr (SqT.of e), fun l2 n2 => ⟨(by show 2 ≤ sizeLine; decide), fun t3 n3 => ⟨(by show 1 ≤ sizeLine; decide), fun l4 n4 => ⟨(by show 2 ≤ sizeLine; decide), fun t5 n5 => ⟨(by show 1 ≤ sizeLine; decide), fun t6 n6 => ⟨(by show 2 ≤ sizeLine; decide), fun t7 n7 => ⟨(by show 7 ≤ sizeLine; decide), fun lm nm => ?_⟩⟩⟩⟩⟩⟩⟩
      have ne2 := (g1.ne n2).symm
      have s2 := same_new (o := .lst xs) n2
      have e2 : (upd H1 l2 (.lst xs)) l2 = some (.lst xs) := upd_same
      have g2 := g1.same s2
      generalize upd H1 l2 (.lst xs) = H2 at *
      have s3 := same_new (o := .tup [.str "done", .str "next"]) n3
      have e3 : (upd H2 t3 (.tup [.str "done", .str "next"])) t3 = some (.tup [.str "done", .str "next"]) := upd_same
      have g3 := g2.same s3
      generalize upd H2 t3 (.tup [V.str "done", .str "next"]) = H3 at *
      have ne4 := (g3.ne n4).symm
      have s4 := same_new (o := .lst [.str "next"]) n4
      have e4 : (upd H3 l4 (.lst [.str "next"])) l4 = some (.lst [.str "next"]) := upd_same
      have g4 := g3.same s4
      generalize upd H3 l4 (.lst [V.str "next"]) = H4 at *
      have s5 := same_new (o := .tup [.str "done", .ref l4]) n5
      have e5 : (upd H4 t5 (.tup [.str "done", .ref l4])) t5 = some (.tup [.str "done", .ref l4]) := upd_same
      have g5 := g4.same s5
      generalize upd H4 t5 (.tup [V.str "done", .ref l4]) = H5 at *
      have s6 := same_new (o := .tup [.int 3]) n6
      have e6 : (upd H5 t6 (.tup [.int 3])) t6 = some (.tup [.int 3]) := upd_same
      have g6 := g5.same s6
      generalize upd H5 t6 (.tup [V.int 3]) = H6 at *
      have s7 := same_new (o := .tup [.str "on", .ref t6]) n7
      have e7 : (upd H6 t7 (.tup [.str "on", .ref t6])) t7 = some (.tup [.str "on", .ref t6]) := upd_same
      have g7 := g6.same s7
      generalize upd H6 t7 (.tup [V.str "on", .ref t6]) = H7 at *
      have s57 := (s5.trans s6).trans s7
      have s47 := s4.trans s57
      have s37 := s3.trans s47
      have s27 := s2.trans s37
      have hL : TgA p H7 [.ref l2, .non, .str "on", .int 3, .ref t3, .ref t5, .ref t7] (.lst (.str z0 :: r0) :: twoY) := .cons (.lst ne2 (s37 _ _ e2) (ta.same s27)) (.cons .non (.cons (.str _) (.cons (.int _) (.cons (.tup (s47 _ _ e3) (.cons (.str _) (.cons (.str _) .nil))) (.cons (.tup ((s6.trans s7) _ _ e5) (.cons (.str _) (.cons (.lst ne4 (s57 _ _ e4) (.cons (.str _) .nil)) .nil))) (.cons (.tup e7 (.cons (.str _) (.cons (.tup (s7 _ _ e6) (.cons (.int _) .nil)) .nil))) .nil))))))
      have ne8 := (g7.ne nm).symm
      have s8 := same_new (o := .lst [.ref l2, .non, .str "on", .int 3, .ref t3, .ref t5, .ref t7]) nm
      have e8 : (upd H7 lm (.lst [.ref l2, .non, .str "on", .int 3, .ref t3, .ref t5, .ref t7])) lm = some (.lst [.ref l2, .non, .str "on", .int 3, .ref t3, .ref t5, .ref t7]) := upd_same
      have g8 := g7.same s8
      generalize upd H7 lm (.lst [V.ref l2, .non, .str "on", .int 3, .ref t3, .ref t5, .ref t7]) = H8 at *
      have hL8 := hL.same s8
      refine ⟨_, rfl, p, 7, rfl, g8, by decide, by decide, fun r2 H9 l2' g9 b9 => ?_⟩
      obtain ⟨u, t, eu, mt, tu⟩ := hL8.nth (r := r2) l2'
      refine ⟨lm, _, _, u, rfl, rfl, SqL.of (b9 _ _ e8 ne8), eu, q u t _ (tu.but g8 b9) ?_ g9 ((b1.same (s27.trans s8)).trans b9)⟩
      rcases List.mem_cons.mp mt with rfl | mt
      · exact ⟨rfl, rfl, endG_non⟩
      · exact bdOn_of (two_bad t mt)
    have tz : xs[0]? = some (.str z0) := by
      cases ta with
      | cons h _ => cases h; rfl
    refine ⟨_, rfl, a, _, _, .str z0, rfl, rfl, SqT.of e, atI_nat (j := 0) tz, rfl, _, rfl, ?_⟩
    by_cases hz : z0 = "done"
    · refine iteB (by rw [hz]; decide +kernel) ?_
      refine ⟨(by show 2 ≤ sizeLine; decide), fun a1 n1 => ⟨(by show 2 ≤ sizeLine; decide), fun a2 n2 => ⟨(by show 1 ≤ sizeLine; decide), fun a3 n3 => ⟨(by show 2 ≤ sizeLine; decide), fun a4 n4 => ⟨(by show 2 ≤ sizeLine; decide), fun a5 n5 => ⟨(by show 2 ≤ sizeLine; decide), fun a6 n6 => ⟨(by show 2 ≤ sizeLine; decide), fun a7 n7 => ⟨(by show 0 ≤ sizeLine; decide), fun a8 n8 => ⟨(by show 8 ≤ sizeLine; decide), fun lm nm => ?_⟩⟩⟩⟩⟩⟩⟩⟩⟩
      have s101 := same_new (o := .tup [.str "go", .int 3]) n1
      have e101 : (upd H1 a1 (.tup [.str "go", .int 3])) a1 = some (.tup [.str "go", .int 3]) := upd_same
      have g101 := g1.same s101
      generalize upd H1 a1 (.tup [V.str "go", .int 3]) = J1 at *
      have s102 := same_new (o := .tup [.str "call", .int 3]) n2
      have e102 : (upd J1 a2 (.tup [.str "call", .int 3])) a2 = some (.tup [.str "call", .int 3]) := upd_same
      have g102 := g101.same s102
      generalize upd J1 a2 (.tup [V.str "call", .int 3]) = J2 at *
      have s103 := same_new (o := .tup [.str "go"]) n3
      have e103 : (upd J2 a3 (.tup [.str "go"])) a3 = some (.tup [.str "go"]) := upd_same
      have g103 := g102.same s103
      generalize upd J2 a3 (.tup [V.str "go"]) = J3 at *
      have s104 := same_new (o := .tup [.str "next", .int 0]) n4
      have e104 : (upd J3 a4 (.tup [.str "next", .int 0])) a4 = some (.tup [.str "next", .int 0]) := upd_same
      have g104 := g103.same s104
      generalize upd J3 a4 (.tup [V.str "next", .int 0]) = J4 at *
      have s105 := same_new (o := .tup [.str "fault", .str "deep"]) n5
      have e105 : (upd J4 a5 (.tup [.str "fault", .str "deep"])) a5 = some (.tup [.str "fault", .str "deep"]) := upd_same
      have g105 := g104.same s105
      generalize upd J4 a5 (.tup [V.str "fault", .str "deep"]) = J5 at *
      have s106 := same_new (o := .tup [.str "fault", .str "bare"]) n6
      have e106 : (upd J5 a6 (.tup [.str "fault", .str "bare"])) a6 = some (.tup [.str "fault", .str "bare"]) := upd_same
      have g106 := g105.same s106
      generalize upd J5 a6 (.tup [V.str "fault", .str "bare"]) = J6 at *
      have s107 := same_new (o := .tup [.str "fault", .str "Z"]) n7
      have e107 : (upd J6 a7 (.tup [.str "fault", .str "Z"])) a7 = some (.tup [.str "fault", .str "Z"]) := upd_same
      have g107 := g106.same s107
      generalize upd J6 a7 (.tup [V.str "fault", .str "Z"]) = J7 at *
      have s108 := same_new (o := .tup []) n8
      have e108 : (upd J7 a8 (.tup [])) a8 = some (.tup []) := upd_same
      have g108 := g107.same s108
      generalize upd J7 a8 (.tup ([] : List V)) = J8 at *
      have S7 := s108
      have S6 := s107.trans S7
      have S5 := s106.trans S6
      have S4 := s105.trans S5
      have S3 := s104.trans S4
      have S2 := s103.trans S3
      have S1 := s102.trans S2
      have S0 := s101.trans S1
      have neL := (g108.ne nm).symm
      have s109 := same_new (o := .lst [.ref a1, .ref a2, .ref a3, .ref a4, .ref a5, .ref a6, .ref a7, .ref a8]) nm
      have e109 : (upd J8 lm (.lst [.ref a1, .ref a2, .ref a3, .ref a4, .ref a5, .ref a6, .ref a7, .ref a8])) lm = some (.lst [.ref a1, .ref a2, .ref a3, .ref a4, .ref a5, .ref a6, .ref a7, .ref a8]) := upd_same
      have g109 := g108.same s109
      generalize upd J8 lm (.lst [V.ref a1, .ref a2, .ref a3, .ref a4, .ref a5, .ref a6, .ref a7, .ref a8]) = J9 at *
      refine ⟨_, rfl, (by show 2 ≤ sizeLine; decide), fun c1 m1 => ⟨(by show 2 ≤ sizeLine; decide), fun c2 m2 => ⟨(by show 1 ≤ sizeLine; decide), fun c3 m3 => ⟨(by show 2 ≤ sizeLine; decide), fun c4 m4 => ⟨(by show 2 ≤ sizeLine; decide), fun c5 m5 => ⟨_, rfl, (by show 2 ≤ sizeLine; decide), fun c6 m6 => ⟨(by show 1 ≤ sizeLine; decide), fun c7 m7 => ⟨(by show 8 ≤ sizeLine; decide), fun ln nn => ?_⟩⟩⟩⟩⟩⟩⟩⟩
      have s201 := same_new (o := .tup [.str "fault", .str ""]) m1
      have e201 : (upd J9 c1 (.tup [.str "fault", .str ""])) c1 = some (.tup [.str "fault", .str ""]) := upd_same
      have g201 := g109.same s201
      generalize upd J9 c1 (.tup [V.str "fault", .str ""]) = K1 at *
      have s202 := same_new (o := .tup [.str "fault", .str "set"]) m2
      have e202 : (upd K1 c2 (.tup [.str "fault", .str "set"])) c2 = some (.tup [.str "fault", .str "set"]) := upd_same
      have g202 := g201.same s202
      generalize upd K1 c2 (.tup [V.str "fault", .str "set"]) = K2 at *
      have s203 := same_new (o := .tup [.str "fault"]) m3
      have e203 : (upd K2 c3 (.tup [.str "fault"])) c3 = some (.tup [.str "fault"]) := upd_same
      have g203 := g202.same s203
      generalize upd K2 c3 (.tup [V.str "fault"]) = K3 at *
      have s204 := same_new (o := .tup [.str "fault", .int 3]) m4
      have e204 : (upd K3 c4 (.tup [.str "fault", .int 3])) c4 = some (.tup [.str "fault", .int 3]) := upd_same
      have g204 := g203.same s204
      generalize upd K3 c4 (.tup [V.str "fault", .int 3]) = K4 at *
      have s205 := same_new (o := .tup [.str "go", .str "0"]) m5
      have e205 : (upd K4 c5 (.tup [.str "go", .str "0"])) c5 = some (.tup [.str "go", .str "0"]) := upd_same
      have g205 := g204.same s205
      generalize upd K4 c5 (.tup [V.str "go", .str "0"]) = K5 at *
      have s206 := same_new (o := .tup [.str "go", .int (-1)]) m6
      have e206 : (upd K5 c6 (.tup [.str "go", .int (-1)])) c6 = some (.tup [.str "go", .int (-1)]) := upd_same
      have g206 := g205.same s206
      generalize upd K5 c6 (.tup [V.str "go", .int (-1)]) = K6 at *
      have s207 := same_new (o := .tup [.str "end"]) m7
      have e207 : (upd K6 c7 (.tup [.str "end"])) c7 = some (.tup [.str "end"]) := upd_same
      have g207 := g206.same s207
      generalize upd K6 c7 (.tup [V.str "end"]) = K7 at *
      have R6 := s207
      have R5 := s206.trans R6
      have R4 := s205.trans R5
      have R3 := s204.trans R4
      have R2 := s203.trans R3
      have R1 := s202.trans R2
      have R0 := s201.trans R1
      have s110 := same_new (o := .lst [.ref c1, .ref c2, .ref c3, .ref c4, .ref c5, .ref c6, .ref c7, .non]) nn
      have e110 : (upd K7 ln (.lst [.ref c1, .ref c2, .ref c3, .ref c4, .ref c5, .ref c6, .ref c7, .non])) ln = some (.lst [.ref c1, .ref c2, .ref c3, .ref c4, .ref c5, .ref c6, .ref c7, .non]) := upd_same
      have g110 := g207.same s110
      generalize upd K7 ln (.lst [V.ref c1, .ref c2, .ref c3, .ref c4, .ref c5, .ref c6, .ref c7, .non]) = J10 at *
      refine ⟨lm, ln, _, _, rfl, rfl, (R0.trans s110) _ _ e109, e110, (by show 8 + 8 ≤ sizeLine; decide), fun lq nq => ?_⟩
      have neQ := (g110.ne nq).symm
      have s111 := same_new (o := .lst ([.ref a1, .ref a2, .ref a3, .ref a4, .ref a5, .ref a6, .ref a7, .ref a8] ++ [.ref c1, .ref c2, .ref c3, .ref c4, .ref c5, .ref c6, .ref c7, .non])) nq
      have e111 : (upd J10 lq (.lst ([.ref a1, .ref a2, .ref a3, .ref a4, .ref a5, .ref a6, .ref a7, .ref a8] ++ [.ref c1, .ref c2, .ref c3, .ref c4, .ref c5, .ref c6, .ref c7, .non]))) lq = some (.lst ([.ref a1, .ref a2, .ref a3, .ref a4, .ref a5, .ref a6, .ref a7, .ref a8] ++ [.ref c1, .ref c2, .ref c3, .ref c4, .ref c5, .ref c6, .ref c7, .non])) := upd_same
      have g111 := g110.same s111
      generalize upd J10 lq (.lst ([V.ref a1, .ref a2, .ref a3, .ref a4, .ref a5, .ref a6, .ref a7, .ref a8] ++ [V.ref c1, .ref c2, .ref c3, .ref c4, .ref c5, .ref c6, .ref c7, .non])) = J11 at *
      have Z9 := (s109.trans (R0.trans s110)).trans s111
      have Y0 := s110.trans s111
      have hs0 : Same H1 J11 := S0.trans Z9
      refine ⟨_, rfl, .inl ⟨rfl, _, SqL.of e111⟩, "z", 9, rfl, rfl, by decide, by decide, by decide +kernel, by decide +kernel, (by rw [z9]; decide +kernel), ?_⟩
      rw [z9]
      refine ⟨(by show 2 ≤ sizeLine; decide), fun tq mq => ?_⟩
      have s112 := same_new (o := .tup [.str "fault", .str "zzzzzzzzz"]) mq
      have e112 : (upd J11 tq (.tup [.str "fault", .str "zzzzzzzzz"])) tq = some (.tup [.str "fault", .str "zzzzzzzzz"]) := upd_same
      have g112 := g111.same s112
      generalize upd J11 tq (.tup [V.str "fault", .str "zzzzzzzzz"]) = J12 at *
      have e111b := s112 _ _ e111
      refine ⟨lq, _, _, rfl, rfl, e111b, (by show 16 < sizeLine; decide), ?_⟩
      have U : TupK J11 (upd J12 lq (.lst (([.ref a1, .ref a2, .ref a3, .ref a4, .ref a5, .ref a6, .ref a7, .ref a8] ++ [.ref c1, .ref c2, .ref c3, .ref c4, .ref c5, .ref c6, .ref c7, .non]) ++ [.ref tq]))) := fun c ys h => kt_lst e111b _ _ (s112 _ _ h)
      have e13 : (upd J12 lq (.lst (([.ref a1, .ref a2, .ref a3, .ref a4, .ref a5, .ref a6, .ref a7, .ref a8] ++ [.ref c1, .ref c2, .ref c3, .ref c4, .ref c5, .ref c6, .ref c7, .non]) ++ [.ref tq]))) lq = some (.lst (([.ref a1, .ref a2, .ref a3, .ref a4, .ref a5, .ref a6, .ref a7, .ref a8] ++ [.ref c1, .ref c2, .ref c3, .ref c4, .ref c5, .ref c6, .ref c7, .non]) ++ [.ref tq])) := upd_same
      have eq13 : (upd J12 lq (.lst (([.ref a1, .ref a2, .ref a3, .ref a4, .ref a5, .ref a6, .ref a7, .ref a8] ++ [.ref c1, .ref c2, .ref c3, .ref c4, .ref c5, .ref c6, .ref c7, .non]) ++ [.ref tq]))) tq = some (.tup [.str "fault", .str "zzzzzzzzz"]) := (kt_lst e111b) _ _ e112
      have g13 : Strm (upd J12 lq (.lst (([.ref a1, .ref a2, .ref a3, .ref a4, .ref a5, .ref a6, .ref a7, .ref a8] ++ [.ref c1, .ref c2, .ref c3, .ref c4, .ref c5, .ref c6, .ref c7, .non]) ++ [.ref tq]))) p := let ⟨x, y, z, w⟩ := g112; ⟨x, y, z, by rw [upd_ne neQ.symm]; exact w⟩
      have b13 : But p H (upd J12 lq (.lst (([.ref a1, .ref a2, .ref a3, .ref a4, .ref a5, .ref a6, .ref a7, .ref a8] ++ [.ref c1, .ref c2, .ref c3, .ref c4, .ref c5, .ref c6, .ref c7, .non]) ++ [.ref tq]))) := fun c o ec n => by rw [upd_ne (fun zz => by rw [zz] at ec; have := (b1.same ((S0.trans (s109.trans R0)).trans s110)) _ _ ec (zz ▸ n); rw [nq] at this; cases this)]; exact (b1.same (hs0.trans s112)) _ _ ec n
      generalize upd J12 lq (.lst (([V.ref a1, .ref a2, .ref a3, .ref a4, .ref a5, .ref a6, .ref a7, .ref a8] ++ [V.ref c1, .ref c2, .ref c3, .ref c4, .ref c5, .ref c6, .ref c7, .non]) ++ [V.ref tq])) = J13 at *
      have hL : TgA p J13 ([.ref a1, .ref a2, .ref a3, .ref a4, .ref a5, .ref a6, .ref a7, .ref a8] ++ [.ref c1, .ref c2, .ref c3, .ref c4, .ref c5, .ref c6, .ref c7, .non]) [.tup [.str "go", .int 3], .tup [.str "call", .int 3], .tup [.str "go"], .tup [.str "next", .int 0], .tup [.str "fault", .str "deep"], .tup [.str "fault", .str "bare"], .tup [.str "fault", .str "Z"], .tup [], .tup [.str "fault", .str ""], .tup [.str "fault", .str "set"], .tup [.str "fault"], .tup [.str "fault", .int 3], .tup [.str "go", .str "0"], .tup [.str "go", .int (-1)], .tup [.str "end"], .non] := .cons (.tup (U _ _ (Z9 _ _ (S1 _ _ e101))) (.cons (.str _) (.cons (.int _) .nil))) (.cons (.tup (U _ _ (Z9 _ _ (S2 _ _ e102))) (.cons (.str _) (.cons (.int _) .nil))) (.cons (.tup (U _ _ (Z9 _ _ (S3 _ _ e103))) (.cons (.str _) .nil)) (.cons (.tup (U _ _ (Z9 _ _ (S4 _ _ e104))) (.cons (.str _) (.cons (.int _) .nil))) (.cons (.tup (U _ _ (Z9 _ _ (S5 _ _ e105))) (.cons (.str _) (.cons (.str _) .nil))) (.cons (.tup (U _ _ (Z9 _ _ (S6 _ _ e106))) (.cons (.str _) (.cons (.str _) .nil))) (.cons (.tup (U _ _ (Z9 _ _ (S7 _ _ e107))) (.cons (.str _) (.cons (.str _) .nil))) (.cons (.tup (U _ _ (Z9 _ _ e108)) .nil) (.cons (.tup (U _ _ (Y0 _ _ (R1 _ _ e201))) (.cons (.str _) (.cons (.str _) .nil))) (.cons (.tup (U _ _ (Y0 _ _ (R2 _ _ e202))) (.cons (.str _) (.cons (.str _) .nil))) (.cons (.tup (U _ _ (Y0 _ _ (R3 _ _ e203))) (.cons (.str _) .nil)) (.cons (.tup (U _ _ (Y0 _ _ (R4 _ _ e204))) (.cons (.str _) (.cons (.int _) .nil))) (.cons (.tup (U _ _ (Y0 _ _ (R5 _ _ e205))) (.cons (.str _) (.cons (.str _) .nil))) (.cons (.tup (U _ _ (Y0 _ _ (R6 _ _ e206))) (.cons (.str _) (.cons (.int _) .nil))) (.cons (.tup (U _ _ (Y0 _ _ e207)) (.cons (.str _) .nil)) (.cons .non .nil)))))))))))))))
      have hL2 : TgA p J13 (([.ref a1, .ref a2, .ref a3, .ref a4, .ref a5, .ref a6, .ref a7, .ref a8] ++ [.ref c1, .ref c2, .ref c3, .ref c4, .ref c5, .ref c6, .ref c7, .non]) ++ [.ref tq]) endY := hL.snoc (.tup eq13 (.cons (.str _) (.cons (.str _) .nil)))
      generalize ([V.ref a1, .ref a2, .ref a3, .ref a4, .ref a5, .ref a6, .ref a7, .ref a8] ++ [V.ref c1, .ref c2, .ref c3, .ref c4, .ref c5, .ref c6, .ref c7, .non]) ++ [V.ref tq] = L at *
      have hl17 : L.length = 17 := hL2.length
      refine ⟨_, rfl, _, rfl, _, rfl, lq, _, rfl, .inl (SqL.of e13), p, 17, by rw [hl17], g13, by decide, by decide, fun r2 H14 l2 g14 b14 => ?_⟩
      obtain ⟨u, t, eu, mt, tu⟩ := hL2.nth (r := r2) l2
      refine ⟨lq, _, _, u, rfl, rfl, SqL.of (b14 _ _ e13 neQ), eu, (by show 2 ≤ sizeLine; decide), fun tp np => ?_⟩
      have s15 := same_new (o := .tup [.str "done", u]) np
      exact q _ (.tup [.str "done", t]) _ (.tup upd_same (.cons (.str _) (.cons ((tu.but g13 b14).same s15) .nil))) (done_bad (end_bad t mt)) (g14.same s15) ((b13.trans b14).same s15)
    · refine iteA (by rw [dstr, decide_eq_false hz]; rfl) ?_
      have ec : ((xs.length : Int) - 1) = ((xs.length - 1 : Nat) : Int) := by lia
      refine ⟨_, rfl, _, rfl, a, _, rfl, .inr (SqT.of e), _, _, rfl, rfl, p, xs.length - 1, by rw [ec], g1, by lia, by lia, fun r2 H2 l2 g2 b2 => ⟨_, _, rfl, rfl, ?_⟩⟩
      have ek : ((1 : Int) + (r2 : Int)) = ((1 + r2 : Nat) : Int) := by lia
      show gName 3 (V.int ((1 : Int) + (r2 : Int))) _ _ _
      rw [ek]
      have hk1 : 1 ≤ 1 + r2 := by lia
      have hk2 : 1 + r2 < xs.length := by lia
      generalize 1 + r2 = k at *
      have e2 := (g1.kt b2) _ _ e
      have ta2 := ta.but g1 b2
      refine ⟨_, rfl, _, rfl, _, rfl, a, _, rfl, SqT.of e2, sl_to hk2, fun t3 n3 => ?_⟩
      rw [cut_to]
      have s3 := same_new (o := .tup (xs.take k)) n3
      have e3 : (upd H2 t3 (.tup (xs.take k))) t3 = some (.tup (xs.take k)) := upd_same
      have g3 := g2.same s3
      generalize upd H2 t3 (.tup (xs.take k)) = H3 at *
      refine ⟨_, rfl, _, _, rfl, rfl, ⟨by decide, by decide, by decide⟩, ?_⟩
      rw [show ((10 : Int) ^ (29 : Int).toNat) = 100000000000000000000000000000 from by decide +kernel]
      have hA : TgA p H3 [.int 400, .int (-1), .int 100000000000000000000000000000, .non, .str "3"] adY := .cons (.int _) (.cons (.int _) (.cons (.int _) (.cons .non (.cons (.str _) .nil))))
      refine ⟨(by show 5 ≤ sizeLine; decide), fun ln nn => ?_⟩
      have sA := same_new (o := .lst [.int 400, .int (-1), .int 100000000000000000000000000000, .non, .str "3"]) nn
      have eA : (upd H3 ln (.lst [.int 400, .int (-1), .int 100000000000000000000000000000, .non, .str "3"])) ln = some (.lst [.int 400, .int (-1), .int 100000000000000000000000000000, .non, .str "3"]) := upd_same
      have neA := (g3.ne nn).symm
      have gA := g3.same sA
      have hA' := hA.same sA
      generalize upd H3 ln (.lst [V.int 400, .int (-1), .int 100000000000000000000000000000, .non, .str "3"]) = HA at *
      refine ⟨_, rfl, p, 5, rfl, gA, by decide, by decide, fun r3 H4 l3 g4 b4 => ?_⟩
      obtain ⟨u, t, eu, mt, tu0⟩ := hA'.nth (r := r3) l3
      have tu := tu0.but gA b4
      refine ⟨ln, _, _, u, rfl, rfl, SqL.of (b4 _ _ eA neA), eu, (by show 1 ≤ sizeLine; decide), fun t5 n5 => ?_⟩
      have kt4 : TupK H3 H4 := fun c ys ec' => (gA.kt b4) _ _ (sA _ _ ec')
      have s5 := same_new (o := .tup [u]) n5
      have e5 : (upd H4 t5 (.tup [u])) t5 = some (.tup [u]) := upd_same
      generalize upd H4 t5 (.tup [u]) = H5 at *
      have e35 := s5 _ _ (kt4 _ _ e3)
      have hkn : xs.take k ≠ [] := fun z => by
        have hkl : (xs.take k).length = k := by rw [List.length_take]; lia
        rw [z, List.length_nil] at hkl
        lia
      refine ⟨t3, t5, xs.take k, [u], rfl, rfl, SqT.of e35, SqT.of e5, hkn, by rw [List.length_take]; show min k xs.length + 1 ≤ _; lia, fun z => (by cases z), fun _ t6 n6 => ?_⟩
      have s6 := same_new (o := .tup (xs.take k ++ [u])) n6
      have e6 : (upd H5 t6 (.tup (xs.take k ++ [u]))) t6 = some (.tup (xs.take k ++ [u])) := upd_same
      generalize upd H5 t6 (.tup (xs.take k ++ [u])) = H6 at *
      have s46 := s5.trans s6
      have ek2 : ((k : Int) + 1) = ((k + 1 : Nat) : Int) := by lia
      have e26 := s46 _ _ (kt4 _ _ (s3 _ _ e2))
      refine ⟨_, rfl, _, rfl, _, _, rfl, rfl, _, rfl, a, _, rfl, SqT.of e26, ?_, fun t7 n7 => ?_⟩
      · rw [ek2]; exact sl_from (by lia) (by lia)
      rw [ek2, cut_from]
      have s7 := same_new (o := .tup (xs.drop (k + 1))) n7
      have e7 : (upd H6 t7 (.tup (xs.drop (k + 1)))) t7 = some (.tup (xs.drop (k + 1))) := upd_same
      generalize upd H6 t7 (.tup (xs.drop (k + 1))) = H7 at *
      have s47 := s46.trans s7
      have ta7 : TgA p H7 xs (.str z0 :: r0) := ((ta2.same (s3.trans sA)).but gA b4).same s47
      have tu7 := tu.same s47
      have bb := on_at (k := k) hx hz hk1 (by have : (Th.str z0 :: r0).length = r0.length + 1 := rfl; lia) mt
      have but7 : But p H H7 := ((((b1.trans b2).same (s3.trans sA)).trans b4).same s47)
      refine ⟨t6, t7, xs.take k ++ [u], xs.drop (k + 1), rfl, rfl, SqT.of (s7 _ _ e6), SqT.of e7, by simp, by rw [List.length_append, List.length_take, List.length_drop]; show min k xs.length + 1 + (xs.length - (k + 1)) ≤ _; lia, fun z => ?_, fun _ tp np => ?_⟩
      · refine q _ _ _ (.tup (s7 _ _ e6) ((ta7.take k).app (.cons tu7 .nil))) ?_ (g4.same s47) but7
        have hd : (Th.str z0 :: r0).drop (k + 1) = [] := by
          have := (ta7.drop (k + 1)).length
          rw [z] at this
          exact List.length_eq_zero_iff.mp this.symm
        rw [hd] at bb
        exact bb
      · rw [show xs.take k ++ [u] ++ xs.drop (k + 1) = xs.take k ++ u :: xs.drop (k + 1) by simp]
        have s8 := same_new (o := .tup (xs.take k ++ u :: xs.drop (k + 1))) np
        refine q _ (.tup ((Th.str z0 :: r0).take k ++ t :: (Th.str z0 :: r0).drop (k + 1))) _ (.tup upd_same ?_) bb ((g4.same s47).same s8) (but7.same s8)
        exact ((ta7.same s8).take k).app (.cons (tu7.same s8) ((ta7.same s8).drop (k + 1)))
end
end L3
namespace L3
open PySem L2
def LitB (t : Th) : Prop := littleOk t = false ∧ LitG t
theorem litG_mk {ss : List Th} {on : Th} (h1 : ∀ s ∈ ss, HgA s) (h2 : OnG on) (h3 : ss.length ≤ 1000) : LitG (.tup [.tup ss, on]) := fun ss' on' e => by
  cases e
  exact ⟨h1, h2, h3⟩
theorem lit_good {ss : List Th} {on : Th} (h : ∀ s ∈ ss, StpT s) (hl : ss.length ≤ 16) (ho : OnT on) : littleOk (.tup [.tup ss, on]) = true ∧ LitG (.tup [.tup ss, on]) := by
  refine ⟨?_, litG_mk (fun s hs => (h s hs).ok.2) ho.ok.2 (by lia)⟩
  show (decide (ss.length ≤ 16) && (ss.all stepOk && onOk on)) = true
  rw [decide_eq_true hl, ho.ok.1, List.all_eq_true.mpr fun s hs => (h s hs).ok.1]
  rfl
theorem lit_step {ss : List Th} {on b : Th} (h : ∀ s ∈ ss, HgA s) (hb : b ∈ ss) (hn : stepOk b = false) (hl : ss.length ≤ 1000) (ho : OnT on) : LitB (.tup [.tup ss, on]) := by
  refine ⟨?_, litG_mk h ho.ok.2 hl⟩
  show (decide (ss.length ≤ 16) && (ss.all stepOk && onOk on)) = false
  have : ss.all stepOk = false := by
    rw [List.all_eq_false]
    exact ⟨b, hb, by rw [hn]; decide⟩
  rw [this, Bool.false_and, Bool.and_false]
theorem lit_on {ss : List Th} {on : Th} (h : ∀ s ∈ ss, StpT s) (hl : ss.length ≤ 1000) (ho : BdOn on) : LitB (.tup [.tup ss, on]) := by
  refine ⟨?_, litG_mk (fun s hs => (h s hs).ok.2) ho.2 hl⟩
  show (decide (ss.length ≤ 16) && (ss.all stepOk && onOk on)) = false
  rw [ho.1, Bool.and_false, Bool.and_false]
theorem lit_more {ss : List Th} {on : Th} (h : ∀ s ∈ ss, StpT s) (h16 : 16 < ss.length) (hl : ss.length ≤ 1000) (ho : OnT on) : LitB (.tup [.tup ss, on]) := by
  refine ⟨?_, litG_mk (fun s hs => (h s hs).ok.2) ho.ok.2 hl⟩
  show (decide (ss.length ≤ 16) && (ss.all stepOk && onOk on)) = false
  rw [decide_eq_false (by lia), Bool.false_and]
theorem lit_len {l : List Th} (h : l.length ≠ 2) : LitB (.tup l) := ⟨lit_no h, fun ss on e => by
  cases e
  exact absurd rfl h⟩
theorem lit_head {x y : Th} (h : x.isTup = false) : LitB (.tup [x, y]) := by
  refine ⟨(by cases x <;> first | rfl | (cases h)), fun ss on e => ?_⟩
  cases e
  cases h
theorem lit_flat {t : Th} (h : t.isTup = false) : LitB t := by
  refine ⟨(by cases t <;> first | rfl | (cases h)), fun ss on e => ?_⟩
  cases e
  cases h
theorem StpT.lit {t : Th} (h : StpT t) : LitB t := by
  cases h <;> exact lit_len (by simp)
theorem OnT.lit {t : Th} (h : OnT t) : LitB t := by
  cases h with
  | two z i a b _ _ _ _ => exact lit_len (by simp)
  | on a _ => exact lit_head rfl
  | done _ => exact lit_head rfl
end L3
namespace L3
open PySem L2
theorem ix_listK {X : Cx} {K : PySem.W.Frag} (h : X.K = K) : IxR X (rIxL K) := by subst h; exact ix_list
theorem list_at {xs : List V} {i : Nat} {x : V} (h : xs[i]? = some x) : atI xs (i : Int) = some x := atI_nat h
def spAll : Sp := fun vs H Q _ => ∃ p : Addr, vs = [.ref p] ∧ Strm H p ∧ ∀ H', But p H H' → Q (.bl true) H'
section
variable {P : Program} {w : World} {K : PySem.W.Frag} {mg : Str → Option Value} {base : Heap}
theorem scAll : FnScope ["_law_stream_here", "_law_steps", "_law_on_here", "_law_good", "_law_at", "_law_bad", "_law_little", "_law_spoilt", "_law_whole", "_law_turn", "_law_thing", "_law_sixteen", "_law_more"] ["_law_stream_here"] (defScope sAll) := ⟨rfl, rfl, rfl, by decide +kernel, rfl, by decide +kernel, by decide +kernel⟩
theorem ndAll1 : (["_law_k", "_law_stream_here"] : List Str).Nodup := by decide +kernel
theorem ndAll2 : (["_law_k", "_law_steps"] : List Str).Nodup := by decide +kernel
set_option maxHeartbeats 16000000 in
theorem ok_all {f : Addr} {fd : FuncData} (F : Fun K "_law_all" "_law_all" sAll f fd) (B : Bl mg) (TK : Fn P w K mg base "_law_take" 1 ["_law_stream_here", "_law_many"] spTake) (LS : Fn P w K mg base "_law_step" 3 ["_law_stream_here"] (spDraw StpT)) (LO : Fn P w K mg base "_law_on" 2 ["_law_stream_here"] (spDraw OnT)) (BS : Fn P w K mg base "_law_bad_step" 4 ["_law_step_here", "_law_stream_here"] spBadStep) (BO : Fn P w K mg base "_law_bad_on" 2 ["_law_on_here", "_law_stream_here"] spBadOn)
    (SS : Fn P w K mg base "_law_step_said" 7 ["_law_thing"] (spSaid stepOk HgA)) (SL : Fn P w K mg base "_law_little_said" 8 ["_law_thing"] (spSaid littleOk LitG)) (RF : Fn P w K mg base "_law_refused" 1 ["_law_found", "_law_thing"] spRefused) : FnOk P w K mg base CX0 9 f fd ["_law_stream_here"] spAll := by
  refine F.ok scAll (fun vs H Q E h => ?_) (fun cdv A outer s H vs Q E hr h => ?_)
  · obtain ⟨p, rfl, _⟩ := h
    rfl
  · obtain ⟨p, rfl, hp, q⟩ := h
    have sz : (100000 : Nat) ≤ sizeLine := by decide
    have hr1 : Room 1 _ := hr.mono (by decide)
    have hr2 : Room 2 _ := hr.mono (by decide)
    have hr3 : Room 3 _ := hr.mono (by decide)
    have hr4 : Room 4 _ := hr.mono (by decide)
    have hr7 : Room 7 _ := hr.mono (by decide)
    refine ⟨_, pss_cons (ps_set (i := 1) scAll.nd rfl (Or.inr rfl) (pe_lc (N' := ["_law_k", "_law_stream_here"]) (ix := [none, some 0]) (sc0 := defScope sAll) (N := ["_law_stream_here", "_law_steps", "_law_on_here", "_law_good", "_law_at", "_law_bad", "_law_little", "_law_spoilt", "_law_whole", "_law_turn", "_law_thing", "_law_sixteen", "_law_more"]) rfl (by decide +kernel) (pi_range1 rfl B.range (pa_cons pe_int pa_nil))
          (fun C' cl s H fp => pg_name (i := 0) ndAll1 rfl (Or.inl rfl) (.inr rfl)) (fun _ _ _ _ _ => pf_nil) (fun C' cl s H fp => pe_fn LS hr3 rfl (pa_cons (pv 1) pa_nil))))
      (pss_cons (ps_set (i := 2) scAll.nd rfl (Or.inl rfl) (pe_fn LO hr2 rfl (pa_cons (pv 0) pa_nil)))
      (pss_cons (ps_set (i := 3) scAll.nd rfl (Or.inl rfl) (pe_tup (pa_cons (pe_callTy call_tuple_of (by rfl) B.tuple boot_tuple' (pa_cons (pe_slice sl_list (pv 1) po_none (po_some (pe_fn TK hr1 rfl (pa_cons (pv 0) (pa_cons pe_int pa_nil))))) pa_nil)) (pa_cons (pv 2) pa_nil))))
      (pss_cons (ps_set (i := 4) scAll.nd rfl (Or.inl rfl) (pe_fn TK hr1 rfl (pa_cons (pv 0) (pa_cons pe_int pa_nil))))
      (pss_cons (ps_set (i := 5) scAll.nd rfl (Or.inl rfl) (pe_fn BS hr4 rfl (pa_cons (pe_ix ix_list (pv 1) (pv 4) (fun _ _ => rfl)) (pa_cons (pv 0) pa_nil))))
      (pss_cons (ps_set (i := 6) scAll.nd rfl (Or.inl rfl) (pe_tup (pa_cons (pe_callTy call_tuple_of (by rfl) B.tuple boot_tuple' (pa_cons (pe_op op_cat (pe_op op_cat (pe_slice sl_list (pv 1) po_none (po_some (pv 4))) (pe_lst (pa_cons (pv 5) pa_nil))) (pe_slice sl_list (pv 1) (po_some (pe_op op_add (pv 4) pe_int)) po_none)) pa_nil)) (pa_cons (pv 2) pa_nil))))
      (pss_cons (ps_set (i := 7) scAll.nd rfl (Or.inl rfl) (pe_tup (pa_cons (pe_callTy call_tuple_of (by rfl) B.tuple boot_tuple' (pa_cons (pe_slice sl_list (pv 1) po_none (po_some (pv 4))) pa_nil)) (pa_cons (pe_fn BO hr2 rfl (pa_cons (pv 2) (pa_cons (pv 0) pa_nil))) pa_nil))))
      (pss_cons (ps_set (i := 8) scAll.nd rfl (Or.inl rfl) (pe_ix ix_list (pe_lst (pa_cons (pe_callTy call_list_of (by rfl) B.list boot_list' (pa_cons (pv 3) pa_nil)) (pa_cons (pe_op op_catT (pv 3) (pe_tup (pa_cons (pv 2) pa_nil))) (pa_cons (pe_slice sl_tup (pv 3) po_none (po_some pe_int)) (pa_cons (pe_tup (pa_cons (pe_callTy call_list_of (by rfl) B.list boot_list' (pa_cons (pe_ix ix_tup (pv 3) pe_int (fun _ _ => rfl)) pa_nil)) (pa_cons (pv 2) pa_nil))) (pa_cons pe_non (pa_cons (pe_ix ix_list (pv 1) pe_int (fun _ _ => rfl)) (pa_cons (pv 2) pa_nil)))))))) (pe_fn TK hr1 rfl (pa_cons (pv 0) (pa_cons pe_int pa_nil))) (fun _ _ => rfl)))
      (pss_cons (ps_for PassesOwn.never rfl (pi_range1 rfl B.range (pa_cons pe_int pa_nil)) (pg_name (i := 9) scAll.nd rfl (Or.inl rfl))
        (pss_cons (ps_if (PW.pt (pw_or (pt_cmpR op_notN (pe_fn SS hr7 rfl (pa_cons (pe_ix ix_list (pv 1) (pv 4) (fun _ _ => rfl)) pa_nil)) pe_non (nomark _)) (pw_or1 (pt_cmpR op_notN (pe_fn SL hr rfl (pa_cons (pv 3) pa_nil)) pe_non (nomark _))))) (pss_one (ps_ret pe_bl)) pss_nil)
        (pss_cons (ps_if (pt_not (pt_val (pe_fn RF hr1 rfl (pa_cons (pe_fn SS hr7 rfl (pa_cons (pv 5) pa_nil)) (pa_cons (pv 5) pa_nil))))) (pss_one (ps_ret pe_bl)) pss_nil)
        (pss_one (ps_for PassesOwn.never rfl (pi_list (pe_lst (pa_cons (pv 6) (pa_cons (pv 7) (pa_cons (pv 8) pa_nil))))) (pg_name (i := 10) scAll.nd rfl (Or.inl rfl))
          (pss_one (ps_if (pt_not (pt_val (pe_fn RF hr1 rfl (pa_cons (pe_fn SL hr rfl (pa_cons (pv 10) pa_nil)) (pa_cons (pv 10) pa_nil))))) (pss_one (ps_ret pe_bl)) pss_nil)))))))
      (pss_cons (ps_set (i := 11) scAll.nd rfl (Or.inl rfl) (pe_tup (pa_cons (pe_callTy call_tuple_of (by rfl) B.tuple boot_tuple' (pa_cons (pe_lc (N' := ["_law_k", "_law_steps"]) (ix := [none, some 1]) (sc0 := defScope sAll) (N := ["_law_stream_here", "_law_steps", "_law_on_here", "_law_good", "_law_at", "_law_bad", "_law_little", "_law_spoilt", "_law_whole", "_law_turn", "_law_thing", "_law_sixteen", "_law_more"]) rfl (by decide +kernel) (pi_range1 rfl B.range (pa_cons pe_int pa_nil))
          (fun C' cl s H fp => pg_name (i := 0) ndAll2 rfl (Or.inl rfl) (.inr rfl)) (fun _ _ _ _ _ => pf_nil) (fun C' cl s H fp => pe_ix (ix_listK (K := K) rfl) (pv 1) (pe_op op_mod (pv 0) pe_int) (fun _ _ => rfl))) pa_nil)) (pa_cons (pv 2) pa_nil))))
      (pss_cons (ps_set (i := 12) scAll.nd rfl (Or.inl rfl) (pe_tup (pa_cons (pe_op op_catT (pe_ix ix_tup (pv 11) pe_int (fun _ _ => rfl)) (pe_tup (pa_cons (pe_ix ix_list (pv 1) pe_int (fun _ _ => rfl)) pa_nil))) (pa_cons (pv 2) pa_nil))))
      (pss_one (ps_ret (pe_and (pe_cmpR op_isN (pe_fn SL hr rfl (pa_cons (pv 11) pa_nil)) pe_non (nomark _)) (pe_one (pe_fn RF hr1 rfl (pa_cons (pe_fn SL hr rfl (pa_cons (pv 12) pa_nil)) (pa_cons (pv 12) pa_nil))))))))))))))))), ?_⟩
    refine ⟨3, rfl, by decide, by decide, ?_⟩
    refine lc_range (lo := 0) (n := 3) (fun i ys H' => Strm H' p ∧ But p H H' ∧ ∃ ts : List Th, ts.length = i ∧ TgA p H' ys ts ∧ ∀ t ∈ ts, StpT t) ⟨hp, But.refl _ _, [], rfl, .nil, fun t ht => nomatch ht⟩ (fun i ys H' hi ⟨_, _, ts, hl, ta, _⟩ => by rw [ta.length, hl]; lia) ?_ ?_
    · rintro i ys H' hi ⟨g, b, ts, hl, ta, ct⟩
      refine ⟨⟨rfl, trivial⟩, tAny_T ⟨_, rfl, p, rfl, g, fun v t H2 tv c g2 b2 => Nx.mk hi ⟨g2, b.trans b2, ts ++ [t], by rw [List.length_append, hl]; rfl, (ta.but g b2).snoc tv, fun x hx => ?_⟩⟩⟩
      rcases List.mem_append.mp hx with h | h
      · exact ct x h
      · rw [List.mem_singleton.mp h]; exact c
    rintro ws H0 ⟨g0, b0, ts, hlt, ta0, ct⟩ st nst
    have s1 := same_new (o := .lst ws) nst
    have e1 : (upd H0 st (.lst ws)) st = some (.lst ws) := upd_same
    have nest := (g0.ne nst).symm
    have g1 := g0.same s1
    have ta1 := ta0.same s1
    have b1 := b0.same s1
    generalize upd H0 st (.lst ws) = H1 at *
    have hlw : ws.length = 3 := by rw [ta1.length, hlt]
    refine ⟨_, rfl, p, rfl, g1, fun vo to H2 tvo cto g2 b2 => ?_⟩
    have e2 := b2 _ _ e1 nest
    have ta2 := ta1.but g1 b2
    refine ⟨_, rfl, _, rfl, p, 4, rfl, g2, by decide, by decide, fun r1 H3 l3 g3 b3 => ⟨_, rfl, st, _, rfl, SqL.of (b3 _ _ e2 nest), fun l4 n4 => ?_⟩⟩
    rw [cut_to]
    have e3 := b3 _ _ e2 nest
    have ta3 := ta2.but g2 b3
    have tvo3 := tvo.but g2 b3
    have s4 := same_new (o := .lst (ws.take r1)) n4
    have e4 : (upd H3 l4 (.lst (ws.take r1))) l4 = some (.lst (ws.take r1)) := upd_same
    generalize upd H3 l4 (.lst (ws.take r1)) = H4 at *
    refine ⟨l4, _, rfl, .inl ⟨SqL.of e4, fun t5 n5 => ⟨_, rfl, (by show 2 ≤ sizeLine; decide), fun tg ng => ?_⟩⟩⟩
    have s5 := same_new (o := .tup (ws.take r1)) n5
    have e5 : (upd H4 t5 (.tup (ws.take r1))) t5 = some (.tup (ws.take r1)) := upd_same
    generalize upd H4 t5 (.tup (ws.take r1)) = H5 at *
    have s6 := same_new (o := .tup [.ref t5, vo]) ng
    have e6 : (upd H5 tg (.tup [.ref t5, vo])) tg = some (.tup [.ref t5, vo]) := upd_same
    generalize upd H5 tg (.tup [.ref t5, vo]) = H6 at *
    have s36 := (s4.trans s5).trans s6
    have g6 := g3.same s36
    have e36 := s36 _ _ e3
    have ta6 := ta3.same s36
    have tvo6 := tvo3.same s36
    have b6 : But p H H6 := (((b1.trans b2).trans b3).same s36)
    have tvg6 : TgV p H6 (.ref tg) (.tup [.tup (ts.take r1), to]) := .tup e6 (.cons (.tup (s6 _ _ e5) (ta6.take r1)) (.cons tvo6 .nil))
    refine ⟨_, rfl, p, 3, rfl, g6, by decide, by decide, fun at_ H7 l7 g7 b7 => ?_⟩
    have e7 := b7 _ _ e36 nest
    have ta7 := ta6.but g6 b7
    have hat : ws[at_]? = some ws[at_] := List.getElem?_eq_getElem (by lia)
    obtain ⟨tx, etx, tvx⟩ := ta7.get hat
    have ctx := ct tx (List.mem_of_getElem? etx)
    refine ⟨_, rfl, _, rfl, st, _, _, ws[at_], rfl, rfl, SqL.of e7, list_at hat, _, rfl, p, ws[at_], tx, rfl, g7, tvx, ctx, fun vb tb H8 tvb cb g8 b8 => ?_⟩
    have e8 := b8 _ _ e7 nest
    have ta8 := ta7.but g7 b8
    have tvo8 := (tvo6.but g6 b7).but g7 b8
    have tvg8 := (tvg6.but g6 b7).but g7 b8
    have b08 : But p H H8 := (b6.trans b7).trans b8
    have ea1 : ((at_ : Int) + 1) = ((at_ + 1 : Nat) : Int) := by lia
    -- the little row with the bad step
    refine ⟨_, rfl, _, rfl, _, rfl, st, _, rfl, SqL.of e8, fun l1 n1 => ?_⟩
    rw [cut_to]
    have q1 := same_new (o := .lst (ws.take at_)) n1
    have f1 : (upd H8 l1 (.lst (ws.take at_))) l1 = some (.lst (ws.take at_)) := upd_same
    generalize upd H8 l1 (.lst (ws.take at_)) = J1 at *
    refine ⟨_, rfl, (by show 1 ≤ sizeLine; decide), fun l2 n2 => ?_⟩
    have q2 := same_new (o := .lst [vb]) n2
    have f2 : (upd J1 l2 (.lst [vb])) l2 = some (.lst [vb]) := upd_same
    generalize upd J1 l2 (.lst [vb]) = J2 at *
    refine ⟨l1, l2, _, _, rfl, rfl, q2 _ _ f1, f2, by rw [List.length_take]; show min at_ ws.length + 1 ≤ _; lia, fun l3 n3 => ?_⟩
    have q3 := same_new (o := .lst (ws.take at_ ++ [vb])) n3
    have f3 : (upd J2 l3 (.lst (ws.take at_ ++ [vb]))) l3 = some (.lst (ws.take at_ ++ [vb])) := upd_same
    generalize upd J2 l3 (.lst (ws.take at_ ++ [vb])) = J3 at *
    have q13 := (q1.trans q2).trans q3
    refine ⟨_, rfl, _, rfl, _, _, rfl, rfl, _, rfl, st, _, rfl, SqL.of (q13 _ _ e8), fun l4 n4 => ?_⟩
    rw [ea1, cut_from]
    have q4 := same_new (o := .lst (ws.drop (at_ + 1))) n4
    have f4 : (upd J3 l4 (.lst (ws.drop (at_ + 1)))) l4 = some (.lst (ws.drop (at_ + 1))) := upd_same
    generalize upd J3 l4 (.lst (ws.drop (at_ + 1))) = J4 at *
    refine ⟨l3, l4, _, _, rfl, rfl, q4 _ _ f3, f4, by rw [List.length_append, List.length_take, List.length_drop]; show min at_ ws.length + 1 + (ws.length - (at_ + 1)) ≤ _; lia, fun l5 n5 => ?_⟩
    rw [show ws.take at_ ++ [vb] ++ ws.drop (at_ + 1) = ws.take at_ ++ vb :: ws.drop (at_ + 1) by simp]
    have q5 := same_new (o := .lst (ws.take at_ ++ vb :: ws.drop (at_ + 1))) n5
    have f5 : (upd J4 l5 (.lst (ws.take at_ ++ vb :: ws.drop (at_ + 1)))) l5 = some (.lst (ws.take at_ ++ vb :: ws.drop (at_ + 1))) := upd_same
    generalize upd J4 l5 (.lst (ws.take at_ ++ vb :: ws.drop (at_ + 1))) = J5 at *
    refine ⟨l5, _, rfl, .inl ⟨SqL.of f5, fun t6 n6 => ⟨_, rfl, (by show 2 ≤ sizeLine; decide), fun tl nl => ?_⟩⟩⟩
    have q6 := same_new (o := .tup (ws.take at_ ++ vb :: ws.drop (at_ + 1))) n6
    have f6 : (upd J5 t6 (.tup (ws.take at_ ++ vb :: ws.drop (at_ + 1)))) t6 = some (.tup (ws.take at_ ++ vb :: ws.drop (at_ + 1))) := upd_same
    generalize upd J5 t6 (.tup (ws.take at_ ++ vb :: ws.drop (at_ + 1))) = J6 at *
    have q7 := same_new (o := .tup [.ref t6, vo]) nl
    have f7 : (upd J6 tl (.tup [.ref t6, vo])) tl = some (.tup [.ref t6, vo]) := upd_same
    generalize upd J6 tl (.tup [.ref t6, vo]) = J7 at *
    have q87 : Same H8 J7 := (((q13.trans q4).trans q5).trans q6).trans q7
    have ta9 := ta8.same q87
    have tvo9 := tvo8.same q87
    have tvb9 := tvb.same q87
    have tvg9 := tvg8.same q87
    have g9 := g8.same q87
    have e9 := q87 _ _ e8
    have b09 : But p H J7 := b08.same q87
    have tvl9 : TgV p J7 (.ref tl) (.tup [.tup (ts.take at_ ++ tb :: ts.drop (at_ + 1)), to]) := .tup f7 (.cons (.tup (q7 _ _ f6) ((ta9.take at_).app (.cons tvb9 (ta9.drop (at_ + 1))))) (.cons tvo9 .nil))
    -- the one with a bad way on
    refine ⟨_, rfl, _, rfl, _, rfl, st, _, rfl, SqL.of e9, fun m1 k1 => ?_⟩
    rw [cut_to]
    have u1 := same_new (o := .lst (ws.take at_)) k1
    have w1 : (upd J7 m1 (.lst (ws.take at_))) m1 = some (.lst (ws.take at_)) := upd_same
    generalize upd J7 m1 (.lst (ws.take at_)) = L1 at *
    refine ⟨m1, _, rfl, .inl ⟨SqL.of w1, fun m2 k2 => ?_⟩⟩
    have u2 := same_new (o := .tup (ws.take at_)) k2
    have w2 : (upd L1 m2 (.tup (ws.take at_))) m2 = some (.tup (ws.take at_)) := upd_same
    generalize upd L1 m2 (.tup (ws.take at_)) = L2 at *
    have u12 := u1.trans u2
    have gL2 := g9.same u12
    refine ⟨_, rfl, _, rfl, p, vo, to, rfl, gL2, tvo9.same u12, cto, fun vp tp L3 tvp cp gL3 bL3 => ⟨(by show 2 ≤ sizeLine; decide), fun m4 k4 => ?_⟩⟩
    have w23 := (gL2.kt bL3) _ _ w2
    have eL3 := bL3 _ _ (u12 _ _ e9) nest
    have u4 := same_new (o := .tup [.ref m2, vp]) k4
    have w4 : (upd L3 m4 (.tup [.ref m2, vp])) m4 = some (.tup [.ref m2, vp]) := upd_same
    generalize upd L3 m4 (.tup [.ref m2, vp]) = L4 at *
    have gL4 := gL3.same u4
    have eL4 := u4 _ _ eL3
    have up4 : ∀ {v t}, TgV p J7 v t → TgV p L4 v t := fun h => ((h.same u12).but gL2 bL3).same u4
    have taL4 : TgA p L4 ws ts := ((ta9.same u12).but gL2 bL3).same u4
    have tvs4 : TgV p L4 (.ref m4) (.tup [.tup (ts.take at_), tp]) := .tup w4 (.cons (.tup (u4 _ _ w23) (taL4.take at_)) (.cons (tvp.same u4) .nil))
    have bL4 : But p H L4 := (((b09.same u12).trans bL3).same u4)
    -- what is no little row at all
    have tvgL := up4 tvg9
    have tvoL := up4 tvo9
    have h0w : ws[0]? = some ws[0] := List.getElem?_eq_getElem (by lia)
    obtain ⟨t0, et0, tv0⟩ := taL4.get h0w
    have ct0 := ct t0 (List.mem_of_getElem? et0)
    cases tvgL with
    | @tup _ gx _ eg tgx =>
    obtain ⟨g0', g1', _, _, rfl, ets, hy0, hy1⟩ := tgx.two rfl
    cases ets
    cases hy0 with
    | @tup t5' gy _ eg5 tgy =>
    have hgy : gy.length ≤ 3 := by rw [tgy.length, List.length_take]; lia
    refine ⟨_, rfl, tg, _, rfl, .inr (SqT.of eg), fun a1 n1 => ?_⟩
    have x1 := same_new (o := .lst [.ref t5', g1']) n1
    have y1 : (upd L4 a1 (.lst [.ref t5', g1'])) a1 = some (.lst [.ref t5', g1']) := upd_same
    generalize upd L4 a1 (.lst [V.ref t5', g1']) = M1 at *
    refine ⟨_, rfl, _, rfl, (by show 1 ≤ sizeLine; decide), fun a2 n2 => ?_⟩
    have x2 := same_new (o := .tup [vo]) n2
    have y2 : (upd M1 a2 (.tup [vo])) a2 = some (.tup [vo]) := upd_same
    generalize upd M1 a2 (.tup [vo]) = M2 at *
    refine ⟨tg, a2, _, _, rfl, rfl, SqT.of ((x1.trans x2) _ _ eg), SqT.of y2, by simp, (by show 2 + 1 ≤ sizeLine; decide), fun z => (by cases z), fun _ a3 n3 => ?_⟩
    rw [show [V.ref t5', g1'] ++ [vo] = [V.ref t5', g1', vo] from rfl]
    have x3 := same_new (o := .tup [.ref t5', g1', vo]) n3
    have y3 : (upd M2 a3 (.tup [.ref t5', g1', vo])) a3 = some (.tup [.ref t5', g1', vo]) := upd_same
    generalize upd M2 a3 (.tup [V.ref t5', g1', vo]) = M3 at *
    have x13 := (x1.trans x2).trans x3
    refine ⟨_, rfl, _, rfl, tg, _, rfl, SqT.of (x13 _ _ eg), sl_to (k := 1) (n := 2) (by decide), fun a4 n4 => ?_⟩
    rw [show cutV [V.ref t5', g1'] none (some 1) = [V.ref t5'] from rfl]
    have x4 := same_new (o := .tup [.ref t5']) n4
    have y4 : (upd M3 a4 (.tup [.ref t5'])) a4 = some (.tup [.ref t5']) := upd_same
    generalize upd M3 a4 (.tup [V.ref t5']) = M4 at *
    have x14 := x13.trans x4
    refine ⟨_, rfl, tg, _, _, _, rfl, rfl, SqT.of (x14 _ _ eg), rfl, t5', _, rfl, .inr (SqT.of (x14 _ _ eg5)), fun a5 n5 => ?_⟩
    have x5 := same_new (o := .lst gy) n5
    have y5 : (upd M4 a5 (.lst gy)) a5 = some (.lst gy) := upd_same
    generalize upd M4 a5 (.lst gy) = M5 at *
    refine ⟨_, rfl, (by show 2 ≤ sizeLine; decide), fun a6 n6 => ?_⟩
    have x6 := same_new (o := .tup [.ref a5, vo]) n6
    have y6 : (upd M5 a6 (.tup [.ref a5, vo])) a6 = some (.tup [.ref a5, vo]) := upd_same
    generalize upd M5 a6 (.tup [V.ref a5, vo]) = M6 at *
    have x16 := (x14.trans x5).trans x6
    have gM6 := gL4.same x16
    refine ⟨_, rfl, st, _, _, ws[0], rfl, rfl, SqL.of (x16 _ _ eL4), list_at (i := 0) h0w, _, rfl, (by show 7 ≤ sizeLine; decide), fun a7 n7 => ?_⟩
    have n1p := (gL4.ne n1).symm
    have gM4 := gL4.same x14
    have n5p := (gM4.ne n5).symm
    have hA6 := tgy.same x16
    have hL : TgA p M6 [.ref a1, .ref a3, .ref a4, .ref a6, .non, ws[0], vo] [.lst [.tup (ts.take r1), to], .tup [.tup (ts.take r1), to, to], .tup [.tup (ts.take r1)], .tup [.lst (ts.take r1), to], .non, t0, to] :=
      .cons (.lst n1p (((((x2.trans x3).trans x4).trans x5).trans x6) _ _ y1) (.cons (.tup (x16 _ _ eg5) hA6) (.cons (hy1.same x16) .nil)))
      (.cons (.tup (((x4.trans x5).trans x6) _ _ y3) (.cons (.tup (x16 _ _ eg5) hA6) (.cons (hy1.same x16) (.cons (tvoL.same x16) .nil))))
      (.cons (.tup ((x5.trans x6) _ _ y4) (.cons (.tup (x16 _ _ eg5) hA6) .nil))
      (.cons (.tup y6 (.cons (.lst n5p (x6 _ _ y5) hA6) (.cons (tvoL.same x16) .nil)))
      (.cons .non (.cons (tv0.same x16) (.cons (tvoL.same x16) .nil))))))
    have hC : ∀ t ∈ [Th.lst [.tup (ts.take r1), to], .tup [.tup (ts.take r1), to, to], .tup [.tup (ts.take r1)], .tup [.lst (ts.take r1), to], .non, t0, to], LitB t := by
      intro t ht
      simp only [List.mem_cons, List.not_mem_nil, or_false] at ht
      rcases ht with rfl | rfl | rfl | rfl | rfl | rfl | rfl
      · exact lit_flat rfl
      · exact lit_len (by simp)
      · exact lit_len (by simp)
      · exact lit_head rfl
      · exact lit_flat rfl
      · exact ct0.lit
      · exact cto.lit
    have x7 := same_new (o := .lst [.ref a1, .ref a3, .ref a4, .ref a6, .non, ws[0], vo]) n7
    have y7 : (upd M6 a7 (.lst [.ref a1, .ref a3, .ref a4, .ref a6, .non, ws[0], vo])) a7 = some (.lst [.ref a1, .ref a3, .ref a4, .ref a6, .non, ws[0], vo]) := upd_same
    have n7p := (gM6.ne n7).symm
    have gM7 := gM6.same x7
    have hL7 := hL.same x7
    generalize upd M6 a7 (.lst [V.ref a1, .ref a3, .ref a4, .ref a6, .non, ws[0], vo]) = M7 at *
    refine ⟨_, rfl, p, 7, rfl, gM7, by decide, by decide, fun r3 N0 l3' gN bN => ?_⟩
    obtain ⟨vw, tw, ew, cw, tvw0⟩ := hL7.all hC (r := r3) l3'
    refine ⟨a7, _, _, vw, rfl, rfl, SqL.of (bN _ _ y7 n7p), ew, ?_⟩
    have x17 := x16.trans x7
    have upN : ∀ {v t}, TgV p L4 v t → TgV p N0 v t := fun h => (h.same x17).but gM7 bN
    have tvw := tvw0.but gM7 bN
    have tvlN := upN (up4 tvl9)
    have tvsN := upN tvs4
    have tvgN := upN (up4 tvg9)
    have tvbN := upN (up4 tvb9)
    have tvoN := upN tvoL
    have taN : TgA p N0 ws ts := ((taL4.same x17).but gM7 bN)
    have eN := bN _ _ (x17 _ _ eL4) nest
    have bN0 : But p H N0 := (bL4.same x17).trans bN
    have hlts : ts.length = 3 := hlt
    obtain ⟨gok, ggd⟩ := lit_good (ss := ts.take r1) (fun s hs => ct s (List.mem_of_mem_take hs)) (by rw [List.length_take]; lia) cto
    have lb1 : LitB (.tup [.tup (ts.take at_ ++ tb :: ts.drop (at_ + 1)), to]) := by
      refine lit_step (b := tb) (fun s hs => ?_) (by simp) cb.1 (by rw [List.length_append, List.length_take, List.length_cons, List.length_drop]; lia) cto
      rcases List.mem_append.mp hs with h | h
      · exact (ct s (List.mem_of_mem_take h)).ok.2
      · rcases List.mem_cons.mp h with rfl | h
        · exact cb.2
        · exact (ct s (List.mem_of_mem_drop h)).ok.2
    have lb2 : LitB (.tup [.tup (ts.take at_), tp]) := lit_on (fun s hs => ct s (List.mem_of_mem_take hs)) (by rw [List.length_take]; lia) cp
    have hat' : ws[at_]? = some ws[at_] := hat
    obtain ⟨tx', etx', tvxN⟩ := taN.get hat'
    have ctx' := ct tx' (List.mem_of_getElem? etx')
    refine ⟨2, rfl, by decide, by decide, ?_⟩
    refine for_range (lo := 0) (fun j σ H' => ∃ v9 v10 : Option V, σ = [some (.ref p), some (.ref st), some vo, some (.ref tg), some (.int (at_ : Nat)), some vb, some (.ref tl), some (.ref m4), some vw, v9, v10, none, none] ∧ Same N0 H') ⟨_, _, rfl, Same.refl _⟩ ?_ ?_
    · rintro j σ K0 hj ⟨v9, v10, rfl, z0⟩
      refine ⟨_, rfl, _, rfl, st, _, _, ws[at_], rfl, rfl, SqL.of (z0 _ _ eN), list_at hat', p, ws[at_], tx', rfl, tvxN.same z0, ctx'.ok.2, fun _ K1 z1 => ⟨rfl, _, rfl, iteB (by decide) ?_⟩, fun hf => by rw [ctx'.ok.1] at hf; cases hf⟩
      refine ⟨_, rfl, p, .ref tg, _, rfl, tvgN.same (z0.trans z1), ggd, fun _ K2 z2 => ⟨rfl, _, rfl, iteB (by decide) ?_⟩, fun hf => by rw [gok] at hf; cases hf⟩
      have z02 := (z0.trans z1).trans z2
      refine ⟨_, rfl, p, vb, tb, rfl, tvbN.same z02, cb.2, fun hf => (by rw [cb.1] at hf; cases hf), fun _ r K3 z3 er => ?_⟩
      refine ⟨_, rfl, p, r, vb, tb, rfl, er, tvbN.same (z02.trans z3), fun K4 z4 => ⟨_, rfl, iteF ?_⟩⟩
      have z04 := (z02.trans z3).trans z4
      refine ⟨_, rfl, _, rfl, _, rfl, (by show 3 ≤ sizeLine; decide), fun ll nll => ?_⟩
      have z5 := same_new (o := .lst [.ref tl, .ref m4, vw]) nll
      have ell : (upd K4 ll (.lst [.ref tl, .ref m4, vw])) ll = some (.lst [.ref tl, .ref m4, vw]) := upd_same
      generalize upd K4 ll (.lst [V.ref tl, .ref m4, vw]) = K5 at *
      have z05 := z04.trans z5
      have hT : TgA p K5 [.ref tl, .ref m4, vw] [.tup [.tup (ts.take at_ ++ tb :: ts.drop (at_ + 1)), to], .tup [.tup (ts.take at_), tp], tw] := .cons (tvlN.same z05) (.cons (tvsN.same z05) (.cons (tvw.same z05) .nil))
      have hTC : ∀ t ∈ [Th.tup [.tup (ts.take at_ ++ tb :: ts.drop (at_ + 1)), to], .tup [.tup (ts.take at_), tp], tw], LitB t := by
        intro t ht
        simp only [List.mem_cons, List.not_mem_nil, or_false] at ht
        rcases ht with rfl | rfl | rfl
        · exact lb1
        · exact lb2
        · exact cw
      refine ⟨ll, rfl, ⟨_, SqL.of ell⟩, ?_⟩
      refine for_list (K := K) (a := ll) (xs := [.ref tl, .ref m4, vw]) (fun i σ H' => ∃ v10 : Option V, σ = [some (.ref p), some (.ref st), some vo, some (.ref tg), some (.int (at_ : Nat)), some vb, some (.ref tl), some (.ref m4), some vw, some (.int (0 + (j : Int))), v10, none, none] ∧ Same K5 H') ⟨_, rfl, Same.refl _⟩ (fun i σ H' hi ⟨_, _, z'⟩ => SqL.of (z' _ _ ell)) ?_ ?_
      · rintro i x σ K6 hxi ⟨v10, rfl, z6⟩
        obtain ⟨tt, ett, tvt⟩ := hT.get hxi
        have ctt := hTC tt (List.mem_of_getElem? ett)
        refine ⟨_, rfl, p, x, tt, rfl, tvt.same z6, ctt.2, fun hf => (by rw [ctt.1] at hf; cases hf), fun _ r K7 z7 er => ?_⟩
        exact ⟨_, rfl, p, r, x, tt, rfl, er, tvt.same (z6.trans z7), fun K8 z8 => ⟨_, rfl, iteF ⟨_, rfl, (z6.trans z7).trans z8⟩⟩⟩
      · rintro σ K6 ⟨v10, rfl, z6⟩
        exact ⟨_, _, rfl, z05.trans z6⟩
    · rintro σ K0 ⟨v9, v10, rfl, z0⟩
      have taK := taN.same z0
      have eK := z0 _ _ eN
      have tvoK := tvoN.same z0
      refine ⟨16, rfl, by decide, by decide, ?_⟩
      refine lc_range (lo := 0) (n := 16) (fun i ys H' => H' = K0 ∧ ∃ rs : List Th, rs.length = i ∧ TgA p K0 ys rs ∧ ∀ t ∈ rs, StpT t) ⟨rfl, [], rfl, .nil, fun t ht => nomatch ht⟩ (fun i ys H' hi ⟨_, rs, hl, ta, _⟩ => by rw [ta.length, hl]; lia) ?_ ?_
      · rintro i ys H' hi ⟨rfl, rs, hl, ta, cr⟩
        have ei : ((0 + (i : Int)) % 3) = ((i % 3 : Nat) : Int) := by lia
        have hi3 : i % 3 < ws.length := by lia
        have hwi : ws[i % 3]? = some ws[i % 3] := List.getElem?_eq_getElem hi3
        obtain ⟨ti, eti, tvi⟩ := taK.get hwi
        refine ⟨⟨rfl, trivial⟩, tAny_T ⟨_, rfl, _, rfl, _, _, rfl, rfl, by decide, st, _, _, ws[i % 3], rfl, rfl, SqL.of eK, (by rw [ei]; exact list_at hwi), Nx.mk hi ⟨rfl, rs ++ [ti], by rw [List.length_append, hl]; rfl, ta.snoc tvi, fun x hx => ?_⟩⟩⟩
        rcases List.mem_append.mp hx with h | h
        · exact cr x h
        · rw [List.mem_singleton.mp h]; exact ct ti (List.mem_of_getElem? eti)
      rintro ys H' ⟨rfl, rs, hlr, tar, cr⟩ D nD
      have hly : ys.length = 16 := by rw [tar.length, hlr]
      have c1 := same_new (o := .lst ys) nD
      have d1 : (upd H' D (.lst ys)) D = some (.lst ys) := upd_same
      generalize upd H' D (.lst ys) = C1 at *
      refine ⟨D, _, rfl, .inl ⟨SqL.of d1, fun k1' n1' => ⟨_, rfl, (by show 2 ≤ sizeLine; decide), fun k2' n2' => ?_⟩⟩⟩
      have c2 := same_new (o := .tup ys) n1'
      have d2 : (upd C1 k1' (.tup ys)) k1' = some (.tup ys) := upd_same
      generalize upd C1 k1' (.tup ys) = C2 at *
      have c3 := same_new (o := .tup [.ref k1', vo]) n2'
      have d3 : (upd C2 k2' (.tup [.ref k1', vo])) k2' = some (.tup [.ref k1', vo]) := upd_same
      generalize upd C2 k2' (.tup [V.ref k1', vo]) = C3 at *
      have c13 := (c1.trans c2).trans c3
      have tv16 : TgV p C3 (.ref k2') (.tup [.tup rs, to]) := .tup d3 (.cons (.tup (c3 _ _ d2) (tar.same c13)) (.cons (tvoK.same c13) .nil))
      obtain ⟨ok16, gd16⟩ := lit_good (ss := rs) cr (by lia) cto
      refine ⟨_, rfl, k2', _, _, _, rfl, rfl, SqT.of d3, rfl, _, rfl, st, _, _, ws[0], rfl, rfl, SqL.of (c13 _ _ eK), list_at (i := 0) h0w, (by show 1 ≤ sizeLine; decide), fun k4' n4' => ?_⟩
      have c4 := same_new (o := .tup [ws[0]]) n4'
      have d4 : (upd C3 k4' (.tup [ws[0]])) k4' = some (.tup [ws[0]]) := upd_same
      generalize upd C3 k4' (.tup [ws[0]]) = C4 at *
      refine ⟨k1', k4', ys, [ws[0]], rfl, rfl, SqT.of ((c3.trans c4) _ _ d2), SqT.of d4, (fun z => by rw [z] at hly; simp at hly), by show ys.length + 1 ≤ _; lia, fun z => (by cases z), fun _ k5' n5' => ⟨_, rfl, (by show 2 ≤ sizeLine; decide), fun k6' n6' => ?_⟩⟩
      have c5 := same_new (o := .tup (ys ++ [ws[0]])) n5'
      have d5 : (upd C4 k5' (.tup (ys ++ [ws[0]]))) k5' = some (.tup (ys ++ [ws[0]])) := upd_same
      generalize upd C4 k5' (.tup (ys ++ [ws[0]])) = C5 at *
      have c6 := same_new (o := .tup [.ref k5', vo]) n6'
      have d6 : (upd C5 k6' (.tup [.ref k5', vo])) k6' = some (.tup [.ref k5', vo]) := upd_same
      generalize upd C5 k6' (.tup [V.ref k5', vo]) = C6 at *
      have c46 := (c4.trans c5).trans c6
      have c16 := c13.trans c46
      obtain ⟨t0', et0', tv0'⟩ := taK.get h0w
      have ct0' := ct t0' (List.mem_of_getElem? et0')
      have tv17 : TgV p C6 (.ref k6') (.tup [.tup (rs ++ [t0']), to]) := .tup d6 (.cons (.tup (c6 _ _ d5) ((tar.same c16).snoc (tv0'.same c16))) (.cons (tvoK.same c16) .nil))
      have lb17 : LitB (.tup [.tup (rs ++ [t0']), to]) := lit_more (fun s hs => by
        rcases List.mem_append.mp hs with h | h
        · exact cr s h
        · rw [List.mem_singleton.mp h]; exact ct0') (by rw [List.length_append, hlr]; show 16 < 16 + 1; decide) (by rw [List.length_append, hlr]; show 16 + 1 ≤ 1000; decide) cto
      refine ⟨_, rfl, p, .ref k2', _, rfl, tv16.same c46, gd16, fun _ C7 c7 => ⟨rfl, _, rfl, iteA (by decide) ?_⟩, fun hf => by rw [ok16] at hf; cases hf⟩
      refine ⟨_, rfl, p, .ref k6', _, rfl, tv17.same c7, lb17.2, fun hf => (by rw [lb17.1] at hf; cases hf), fun _ r C8 c8 er => ?_⟩
      exact ⟨_, rfl, p, r, .ref k6', _, rfl, er, tv17.same (c7.trans c8), fun C9 c9 => q C9 ((bN0.same z0).same ((c16.trans (c7.trans c8)).trans c9))⟩
end
end L3
namespace L3
open PySem L2
def spLaw (K : PySem.W.Frag) : Sp := fun vs H Q _ => ∃ (a : Addr) (ns : List Int), vs = [.ref a] ∧ SqL K H a (ns.map V.int) ∧ ns.length ≤ 63 ∧ ∀ H', Q (.bl true) H'
theorem bs_same {p : Addr} {H H2 H3 : Hp} (s : Same H H2) (hp : H p = none) (b : But p H2 H3) : Same H H3 := fun c u e => b c u (s c u e) (ne_of_none e hp)
section
variable {P : Program} {w : World} {K : PySem.W.Frag} {mg : Str → Option Value} {base : Heap}
theorem scLaw : FnScope ["_law_script", "_law_k"] ["_law_script"] (defScope sLaw) := ⟨rfl, rfl, rfl, by decide +kernel, rfl, by decide +kernel, by decide +kernel⟩
theorem ok_law {f : Addr} {fd : FuncData} (F : Fun K "law" "law" sLaw f fd) (B : Bl mg) (CL : Fn P w K mg base "_law_cell" 1 ["_law_script", "_law_k"] (spCell K)) (ST : Fn P w K mg base "_law_stream" 1 ["_law_cell_here"] spStream) (AL : Fn P w K mg base "_law_all" 9 ["_law_stream_here"] spAll) : FnOk P w K mg base CX0 10 f fd ["_law_script"] (spLaw K) := by
  refine F.ok scLaw (fun vs H Q E h => ?_) (fun cdv A outer s H vs Q E hr h => ?_)
  · obtain ⟨a, ns, rfl, _⟩ := h
    rfl
  · obtain ⟨l, ns, rfl, hS, hlen, q⟩ := h
    have hr1 : Room 1 _ := hr.mono (by decide)
    refine ⟨_, pss_cons (ps_for PassesOwn.never rfl (pi_range1 rfl B.range (pa_cons (pe_callB (call_max2 rfl) (by rfl) B.max PyProof.Rows.boot_max (pa_cons pe_int (pa_cons (pe_callB (call_min2 rfl) (by rfl) B.min PyProof.Rows.boot_min (pa_cons (pe_callB call_len_seq (by rfl) B.len PySem.boot_len (pa_cons (pv 0) pa_nil)) (pa_cons pe_int pa_nil))) pa_nil))) pa_nil)) (pg_name (i := 1) scLaw.nd rfl (Or.inl rfl))
        (pss_one (ps_if (pt_not (pt_val (pe_fn AL hr rfl (pa_cons (pe_fn ST hr1 rfl (pa_cons (pe_fn CL hr1 rfl (pa_cons (pv 0) (pa_cons (pv 1) pa_nil))) pa_nil)) pa_nil)))) (pss_one (ps_ret pe_bl)) pss_nil)))
      (pss_one (ps_ret pe_bl)), ?_⟩
    refine ⟨_, rfl, l, _, rfl, .inl hS, _, _, rfl, _, _, rfl, _, rfl, ?_, ?_, ?_⟩
    · split <;> (try split) <;> lia
    · rw [List.length_map]; split <;> (try split) <;> lia
    refine for_range (lo := 0) (fun i σ H2 => ∃ v1 : Option V, σ = [some (.ref l), v1] ∧ Same H H2) ⟨_, rfl, Same.refl _⟩ ?_ ?_
    · rintro i σ H1 hi ⟨v1, rfl, s1⟩
      refine ⟨_, rfl, _, rfl, l, ns, 0 + (i : Int), rfl, s1.seq hS, by lia, fun c => ⟨c, rfl, fun p H2 np s2 g2 => ?_⟩⟩
      exact ⟨p, rfl, g2, fun H3 b3 => ⟨_, rfl, iteF ⟨_, rfl, s1.trans (bs_same s2 np b3)⟩⟩⟩
    · rintro σ H1 ⟨v1, rfl, s1⟩
      exact q _
end
end L3
namespace L3
open PySem L2
def DefIn (K : PySem.W.Frag) (x : Str) (st : Stmt) (f : Addr) : Prop :=
  PySem.W.nsIn K mainGlobals x = some (some (.ref f)) ∧ ∃ fd : FuncData, Fun K x x st f fd
theorem def_mk {K : PySem.W.Frag} {x : Str} {st : Stmt} {f : Addr} {oc : Value} {od an : Option Addr} {osl : Array (Option Value)} {kV doc pm cdv ct : Value} (a : PySem.W.nsIn K mainGlobals x = some (some (.ref f)))
    (l : K.lookup f = some ⟨oc, od, .func (PySem.W.fnOf x x (defArgs st) (defBody st) (defScope st) .none kV doc pm an cdv ct), osl⟩) (c : PySem.W.codeIn K cdv x = true) (k : PySem.W.keepIn K (.ref f) = true) : DefIn K x st f := ⟨a, _, fun_mk l c k⟩
theorem fn_mk {P : Program} {w : World} {K : PySem.W.Frag} {mg : Str → Option Value} {base h : Heap} {x : Str} {st : Stmt} {f : Addr} {k : Nat} {ps : List Str} {sp : Sp} (X : K.In h) (G : h.Ns mainGlobals mg) (D : DefIn K x st f)
    (hb : ∀ (kV doc pm : Value) (an : Option Addr) (cdv ct : Value) (us : List Value), us.length = ps.length → bindArgs (PySem.W.fnOf x x (defArgs st) (defBody st) (defScope st) .none kV doc pm an cdv ct) ⟨us, []⟩ = pure (ps.zip us))
    (ok : ∀ fd, Fun K x x st f fd → FnOk P w K mg base CX0 k f fd ps sp) : Fn P w K mg base x k ps sp := by
  obtain ⟨a, fd, F⟩ := D
  exact ⟨f, fd, PySem.W.mg_of X G a, F.kp, F.binds hb, ok fd F⟩
structure MIn (K : PySem.W.Frag) (x qual : Str) (st : Stmt) (f : Addr) : Prop where
  fu : ∃ fd : FuncData, Fun K x qual st f fd
  fn : PySem.W.isFn K (.ref f) = true
theorem min_mk {K : PySem.W.Frag} {x qual : Str} {st : Stmt} {f : Addr} {oc : Value} {od an : Option Addr} {osl : Array (Option Value)} {kV doc pm cdv ct : Value}
    (l : K.lookup f = some ⟨oc, od, .func (PySem.W.fnOf x qual (defArgs st) (defBody st) (defScope st) .none kV doc pm an cdv ct), osl⟩) (c : PySem.W.codeIn K cdv qual = true) (k : PySem.W.keepIn K (.ref f) = true) (n : PySem.W.isFn K (.ref f) = true) : MIn K x qual st f := ⟨⟨_, fun_mk l c k⟩, n⟩
theorem ini_mk {P : Program} {w : World} {K : PySem.W.Frag} {mg : Str → Option Value} {base : Heap} {f : Addr} {x qual : Str} {st : Stmt} {ps : List Str} {sp : Sp} (D : MIn K x qual st f)
    (hb : ∀ (kV doc pm : Value) (an : Option Addr) (cdv ct : Value) (us : List Value), us.length = ps.length → bindArgs (PySem.W.fnOf x qual (defArgs st) (defBody st) (defScope st) .none kV doc pm an cdv ct) ⟨us, []⟩ = pure (ps.zip us))
    (ok : ∀ fd, Fun K x qual st f fd → FnOk P w K mg base CX0 1 f fd ps sp) : ∃ fd, FnOk P w K mg base CX0 1 f fd ps sp ∧ Binds K fd ps [] := by
  obtain ⟨⟨fd, F⟩, n⟩ := D
  exact ⟨fd, ok fd F, F.binds hb⟩
structure XCl (K : PySem.W.Frag) (nm : Str) (bm : List Value) (C : Addr) : Prop where
  ns : PySem.W.nsIn K mainGlobals nm = some (some (.ref C))
  c : XC K C nm bm
theorem xcl_mk {K : PySem.W.Frag} {nm : Str} {bm : List Value} {C : Addr} {q : Str} {N : Addr} {bs : List Value} {sn : List Str} {sub : List Value} {ab : Bool} {col : Option Bool} {dd : Option Addr} {k0 k1 k2 k3 k5 : Option Value} (tl : XB.Tail bm) (a : PySem.W.nsIn K mainGlobals nm = some (some (.ref C))) (l : K.lookup C = some (excClassObj nm q C N bs bm true sn sub ab col dd k0 k1 k2 k3 k5 "ValueError.__new__"))
    (g1 : PySem.W.findIn K (.ref C) "__getattribute__" = some (some (.builtin "BaseException.__getattribute__"))) (g2 : PySem.W.findIn K (.ref C) "__getattr__" = some none) (g3 : PySem.W.findIn K (.ref C) "__setattr__" = some (some (.builtin "object.__setattr__"))) (g4 : PySem.W.findIn K (.ref C) "__class__" = some (some (.builtin "object.__class__"))) : XCl K nm bm C :=
  ⟨a, ⟨tl, ⟨q, N, bs, sn, sub, ab, col, dd, k0, k1, k2, k3, k5, l⟩, g1, g2, g3, g4⟩⟩
theorem tlV : XB.Tail XB.bmV := .inl rfl
theorem tlR {R : Addr} : XB.Tail (bmR R) := .inr ⟨R, rfl⟩
def NaAll (K : PySem.W.Frag) (c : Addr) : List Str → Prop
  | [] => True
  | f :: r => NoAttr K c f ∧ NaAll K c r
theorem NaAll.get {K : PySem.W.Frag} {c : Addr} : ∀ {l : List Str}, NaAll K c l → ∀ f ∈ l, NoAttr K c f
  | [], _, f, hf => absurd hf (by simp)
  | g :: r, h, f, hf => by
    rcases List.mem_cons.mp hf with rfl | hf
    · exact h.1
    · exact NaAll.get h.2 f hf
structure CK (K : PySem.W.Frag) (n : Str) (c i : Addr) (fl : List Str) : Prop where
  ns : PySem.W.nsIn K mainGlobals n = some (some (.ref c))
  cls : Cls K c
  na : NaAll K c fl
  mk_ : Mk K c i
theorem ck_mk {K : PySem.W.Frag} {n : Str} {c i : Addr} {fl : List Str} (ns : PySem.W.nsIn K mainGlobals n = some (some (.ref c))) (g1 : PySem.W.plainGet K c Str.empty = true) (g2 : PySem.W.hasDictIn K c = true) (g3 : PySem.W.plainOver K c = true)
    (g4 : PySem.W.findIn K (.ref c) "__setattr__" = some (some (.builtin "object.__setattr__"))) (m1 : PySem.W.makesIn K c = true) (m2 : PySem.W.findIn K (.ref c) "__init__" = some (some (.ref i))) (m3 : PySem.W.isFn K (.ref i) = true) (m4 : PySem.W.keepIn K (.ref c) = true) (na : NaAll K c fl) : CK K n c i fl :=
  ⟨ns, ⟨g1, g2, g3, g4⟩, na, ⟨m1, m2, m3, m4⟩⟩
theorem na2 {K : PySem.W.Frag} {c : Addr} {a b : Str} (x : PySem.W.findIn K (.ref c) a = some none) (y : PySem.W.findIn K (.ref c) b = some none) : NaAll K c [a, b] := ⟨x, y, trivial⟩
theorem vals_toks : ∀ (zs : List Str) (ts : List Tok), ts.length = zs.length → Vals (zs.map V.str) ((zs.zip ts).map fun p => Value.str p.1 p.2)
  | [], _, _ => .nil
  | z :: r, [], h => by cases h
  | z :: r, t :: u, h => .cons ⟨t, rfl⟩ (vals_toks r u (by simpa using h))
def seven (a b c d e f g : Addr) : Nat → Addr
  | 0 => a
  | 1 => b
  | 2 => c
  | 3 => d
  | 4 => e
  | 5 => f
  | _ => g
theorem lt7 {p : Nat → Prop} (h0 : p 0) (h1 : p 1) (h2 : p 2) (h3 : p 3) (h4 : p 4) (h5 : p 5) (h6 : p 6) : ∀ k, k < 7 → p k := by
  intro k hk
  rcases (by lia : k = 0 ∨ k = 1 ∨ k = 2 ∨ k = 3 ∨ k = 4 ∨ k = 5 ∨ k = 6) with rfl | rfl | rfl | rfl | rfl | rfl | rfl <;> assumption
theorem top_mk {w : World} {K : PySem.W.Frag} {a f1 f2 f3 f4 f5 f6 f7 f8 f9 : Addr} {t1 t2 t3 t4 t5 t6 t7 t8 t9 : Tok} {ep : Nat}
    (h : K.lookup a = some { cls := .type "dict", data := .dict #[⟨PyData.keyHash w.params "+", .str "+" t1, .ref f1⟩, ⟨PyData.keyHash w.params "-", .str "-" t2, .ref f2⟩, ⟨PyData.keyHash w.params "&", .str "&" t3, .ref f3⟩, ⟨PyData.keyHash w.params "|", .str "|" t4, .ref f4⟩, ⟨PyData.keyHash w.params "^", .str "^" t5, .ref f5⟩,
      ⟨PyData.keyHash w.params "<<", .str "<<" t6, .ref f6⟩, ⟨PyData.keyHash w.params ">>", .str ">>" t7, .ref f7⟩, ⟨PyData.keyHash w.params "<", .str "<" t8, .ref f8⟩, ⟨PyData.keyHash w.params "=", .str "=" t9, .ref f9⟩] ep }) :
    TopDict w K a [("+", .ref f1), ("-", .ref f2), ("&", .ref f3), ("|", .ref f4), ("^", .ref f5), ("<<", .ref f6), (">>", .ref f7), ("<", .ref f8), ("=", .ref f9)] :=
  ⟨_, ep, h, .cons ⟨rfl, ⟨_, rfl⟩, rfl⟩ (.cons ⟨rfl, ⟨_, rfl⟩, rfl⟩ (.cons ⟨rfl, ⟨_, rfl⟩, rfl⟩ (.cons ⟨rfl, ⟨_, rfl⟩, rfl⟩ (.cons ⟨rfl, ⟨_, rfl⟩, rfl⟩ (.cons ⟨rfl, ⟨_, rfl⟩, rfl⟩ (.cons ⟨rfl, ⟨_, rfl⟩, rfl⟩ (.cons ⟨rfl, ⟨_, rfl⟩, rfl⟩ (.cons ⟨rfl, ⟨_, rfl⟩, rfl⟩ .nil))))))))⟩
theorem sq_own_words {K : PySem.W.Frag} {a : Addr} {t1 t2 t3 t4 t5 t6 t7 t8 t9 t10 t11 t12 t13 t14 t15 t16 t17 t18 t19 t20 t21 t22 : Tok} {n : Nat} (h : K.lookup a = some { cls := .type "tuple", data := .seq #[.str "word" t1, .str "cells" t2, .str "depth" t3, .str "places" t4, .str "marks" t5, .str "gate" t6, .str "kind" t7, .str "place" t8, .str "mark" t9, .str "number" t10, .str "row" t11, .str "set" t12, .str "if" t13, .str "else" t14, .str "top" t15, .str "next" t16, .str "go" t17, .str "call" t18, .str "back" t19, .str "stop" t20, .str "fault" t21, .str "bell" t22] n }) : ∀ H, SqT K H a (ownV) := fun H =>
  .inr ⟨_, _, n, h, rfl, rfl, (by show 22 ≤ sizeLine; decide), vals_toks ["word", "cells", "depth", "places", "marks", "gate", "kind", "place", "mark", "number", "row", "set", "if", "else", "top", "next", "go", "call", "back", "stop", "fault", "bell"] [t1, t2, t3, t4, t5, t6, t7, t8, t9, t10, t11, t12, t13, t14, t15, t16, t17, t18, t19, t20, t21, t22] rfl⟩
theorem sq_own_faults {K : PySem.W.Frag} {a : Addr} {t1 t2 : Tok} {n : Nat} (h : K.lookup a = some { cls := .type "tuple", data := .seq #[.str "deep" t1, .str "bare" t2] n }) : ∀ H, SqT K H a (fauS.map V.str) := fun H =>
  .inr ⟨_, _, n, h, rfl, rfl, (by show 2 ≤ sizeLine; decide), vals_toks ["deep", "bare"] [t1, t2] rfl⟩
theorem fnx_mk {P : Program} {w : World} {K : PySem.W.Frag} {mg : Str → Option Value} {base h : Heap} {x : Str} {st : Stmt} {f : Addr} {k : Nat} {ps : List Str} {sp : Sp} (X : K.In h) (G : h.Ns mainGlobals mg) (D : DefIn K x st f)
    (hb : ∀ (kV doc pm : Value) (an : Option Addr) (cdv ct : Value) (us : List Value), us.length = ps.length → bindArgs (PySem.W.fnOf x x (defArgs st) (defBody st) (defScope st) .none kV doc pm an cdv ct) ⟨us, []⟩ = pure (ps.zip us))
    (ok : ∀ fd, Fun K x x st f fd → FnOk P w K mg base (CX1 P w) k f fd ps sp) : FnX P w K mg base x k ps sp := by
  obtain ⟨a, fd, F⟩ := D
  exact ⟨f, fd, PySem.W.mg_of X G a, F.kp, F.binds hb, ok fd F⟩
set_option maxHeartbeats 8000000 in
theorem all_mk {l : PySem.W.OpenLaw} {w : World} {K : PySem.W.Frag} {h : Heap} {mg : Str → Option Value} {fa aW aF aO R fR cB fB cL cK cW cS cT iT f0 f1 f2 f3 f4 f5 f6 f7 f8 f9 f10 f11 f12 f13 f14 f15 f16 f17 f18 f19 f20 f21 f22 f23 f24 f25 f26 f27 f28 f29 f30 f31 f32 c0 i0 c1 i1 c2 i2 c3 i3 c4 i4 c5 i5 c6 i6 e1 e2 e3 e4 e5 e6 e7 e8 e9 : Addr} {kL k_HIGHEST_INNER k_HIGHEST_WORD k_HIGHEST_FIELD k_HIGHEST_SELECTED k_HIGHEST_ADDRESS k_MOST_STEPS k_LONGEST_NAME : Tok} (X : K.In h) (G : h.Ns mainGlobals mg) (hfa : mg "law" = some (.ref fa))
    (d0 : DefIn K "is_whole" sWhole f0)
    (d1 : DefIn K "is_within" sWithin f1)
    (d2 : DefIn K "is_name" sName f2)
    (d3 : DefIn K "ops_told" sOps f3)
    (d4 : DefIn K "is_headed" sHeaded f4)
    (d5 : DefIn K "is_inner" sInner f5)
    (d6 : DefIn K "is_field" sField f6)
    (d7 : DefIn K "is_address" sAddr f7)
    (d8 : DefIn K "is_sel" sSel f8)
    (d9 : DefIn K "is_source" sSource f9)
    (d10 : DefIn K "is_step" sIsStep f10)
    (d11 : DefIn K "is_end" sIsEnd f11)
    (d12 : DefIn K "is_way_on" sWayOn f12)
    (d13 : DefIn K "is_little" sIsLittle f13)
    (d14 : DefIn K "step_of" sStepOf f14)
    (d15 : DefIn K "little_of" sLittleOf f15)
    (d16 : DefIn K "_law_cell" sCell f16)
    (d17 : DefIn K "_law_stream" sStream f17)
    (d18 : DefIn K "_law_take" sTake f18)
    (d19 : DefIn K "_law_sel" sLSel f19)
    (d20 : DefIn K "_law_source" sLSource f20)
    (d21 : DefIn K "_law_step" sLStep f21)
    (d22 : DefIn K "_law_on" sLOn f22)
    (d23 : DefIn K "_law_strange" sStrange f23)
    (d24 : DefIn K "_law_bad_pair" sBadPair f24)
    (d25 : DefIn K "_law_bad_part" sBadPart f25)
    (d26 : DefIn K "_law_bad_step" sBadStep f26)
    (d27 : DefIn K "_law_bad_on" sBadOn f27)
    (d28 : DefIn K "_law_step_said" sStepSaid f28)
    (d29 : DefIn K "_law_little_said" sLittleSaid f29)
    (d30 : DefIn K "_law_refused" sRefused f30)
    (d31 : DefIn K "_law_all" sAll f31)
    (d32 : DefIn K "law" sLaw f32)
    (C0 : CK K "Get" c0 i0 ["to", "sel"]) (I0 : MIn K "__init__" "Get.__init__" sI0 i0)
    (C1 : CK K "Ask" c1 i1 ["to", "sel"]) (I1 : MIn K "__init__" "Ask.__init__" sI1 i1)
    (C2 : CK K "Cell" c2 i2 ["to", "source"]) (I2 : MIn K "__init__" "Cell.__init__" sI2 i2)
    (C3 : CK K "Two" c3 i3 ["to", "op", "one", "other"]) (I3 : MIn K "__init__" "Two.__init__" sI3 i3)
    (C4 : CK K "Put" c4 i4 ["sel", "source"]) (I4 : MIn K "__init__" "Put.__init__" sI4 i4)
    (C5 : CK K "Tell" c5 i5 ["sel", "source"]) (I5 : MIn K "__init__" "Tell.__init__" sI5 i5)
    (C6 : CK K "Store" c6 i6 ["at", "source"]) (I6 : MIn K "__init__" "Store.__init__" sI6 i6)
    (CT : CK K "Little" cT iT ["steps", "on"]) (IT : MIn K "__init__" "Little.__init__" sLitI iT)
    (n_HIGHEST_INNER : PySem.W.nsIn K mainGlobals "HIGHEST_INNER" = some (some (.int 7 k_HIGHEST_INNER)))
    (n_HIGHEST_WORD : PySem.W.nsIn K mainGlobals "HIGHEST_WORD" = some (some (.int 16777215 k_HIGHEST_WORD)))
    (n_HIGHEST_FIELD : PySem.W.nsIn K mainGlobals "HIGHEST_FIELD" = some (some (.int 2 k_HIGHEST_FIELD)))
    (n_HIGHEST_SELECTED : PySem.W.nsIn K mainGlobals "HIGHEST_SELECTED" = some (some (.int 3 k_HIGHEST_SELECTED)))
    (n_HIGHEST_ADDRESS : PySem.W.nsIn K mainGlobals "HIGHEST_ADDRESS" = some (some (.int 399 k_HIGHEST_ADDRESS)))
    (n_MOST_STEPS : PySem.W.nsIn K mainGlobals "MOST_STEPS" = some (some (.int 16 k_MOST_STEPS)))
    (n_LONGEST_NAME : PySem.W.nsIn K mainGlobals "LONGEST_NAME" = some (some (.int 8 k_LONGEST_NAME)))
    (n_LETTERS : PySem.W.nsIn K mainGlobals "LETTERS" = some (some (.str letS kL))) (n_OW : PySem.W.nsIn K mainGlobals "OWN_WORDS" = some (some (.ref aW))) (q_OW : ∀ H, SqT K H aW ownV) (n_OF : PySem.W.nsIn K mainGlobals "OWN_FAULTS" = some (some (.ref aF))) (q_OF : ∀ H, SqT K H aF (fauS.map V.str))
    (n_OPS : PySem.W.nsIn K mainGlobals "OPS" = some (some (.ref aO))) (dO : TopDict w K aO [("+", .ref e1), ("-", .ref e2), ("&", .ref e3), ("|", .ref e4), ("^", .ref e5), ("<<", .ref e6), (">>", .ref e7), ("<", .ref e8), ("=", .ref e9)]) (lo : (aO == sysModules) = false)
    (xR : XCl K "RowsError" XB.bmV R) (rd : PySem.W.readsIn K R (.type "type") = true) (ri : PySem.W.findCls K (.ref R) (.type "type") "__init__" = some (.val (.ref fR))) (mR : MIn K "__init__" "RowsError.__init__" sRInitX fR)
    (xB : XCl K "BadStep" (bmR R) cB) (aB : PySem.W.findIn K (.ref cB) "thing" = some none) (iB : PySem.W.findIn K (.ref cB) "__init__" = some (some (.ref fB))) (nB : PySem.W.isFn K (.ref fB) = true) (pB : PySem.W.keepIn K (.ref cB) = true) (mB : MIn K "__init__" "BadStep.__init__" sNKInit fB)
    (xL : XCl K "BadLine" (bmR R) cL) (xK : XCl K "NoKind" (bmR R) cK) (xW : XCl K "NoRow" (bmR R) cW) (xS : XCl K "NoState" (bmR R) cS)
    (z_len : PySem.W.nsIn K mainGlobals "len" = some none)
    (z_int : PySem.W.nsIn K mainGlobals "int" = some none)
    (z_max : PySem.W.nsIn K mainGlobals "max" = some none)
    (z_min : PySem.W.nsIn K mainGlobals "min" = some none)
    (z_range : PySem.W.nsIn K mainGlobals "range" = some none)
    (z_isinstance : PySem.W.nsIn K mainGlobals "isinstance" = some none)
    (z_list : PySem.W.nsIn K mainGlobals "list" = some none)
    (z_str : PySem.W.nsIn K mainGlobals "str" = some none)
    (z_bool : PySem.W.nsIn K mainGlobals "bool" = some none)
    (z_tuple : PySem.W.nsIn K mainGlobals "tuple" = some none)
    (z_all : PySem.W.nsIn K mainGlobals "all" = some none)
    (z_ValueError : PySem.W.nsIn K mainGlobals "ValueError" = some none) :
    ∃ fd : FuncData, (∀ (s : Shared) (v : Value), BindsTo s fd ⟨[v], []⟩ [("_law_script", v)]) ∧ ∀ base : Heap, K.In base → base.Ns mainGlobals mg → FnOk l.prog w K mg base CX0 10 fa fd ["_law_script"] (spLaw K) := by
  have B : Bl mg := ⟨PySem.W.mg_none_of X G z_len, PySem.W.mg_none_of X G z_int, PySem.W.mg_none_of X G z_max, PySem.W.mg_none_of X G z_min, PySem.W.mg_none_of X G z_range, PySem.W.mg_none_of X G z_isinstance, PySem.W.mg_none_of X G z_list, PySem.W.mg_none_of X G z_str, PySem.W.mg_none_of X G z_bool, PySem.W.mg_none_of X G z_tuple, PySem.W.mg_none_of X G z_all⟩
  have fsv : ∃ fs : Str → V, Cst K mg w aO k_HIGHEST_INNER k_HIGHEST_WORD k_HIGHEST_FIELD k_HIGHEST_SELECTED k_HIGHEST_ADDRESS k_MOST_STEPS fs := ⟨fun x => (([("+", .ref e1), ("-", .ref e2), ("&", .ref e3), ("|", .ref e4), ("^", .ref e5), ("<<", .ref e6), (">>", .ref e7), ("<", .ref e8), ("=", .ref e9)] : List (Str × V)).lookup x).getD .non, (PySem.W.mg_of X G n_HIGHEST_INNER), (PySem.W.mg_of X G n_HIGHEST_WORD), (PySem.W.mg_of X G n_HIGHEST_FIELD), (PySem.W.mg_of X G n_HIGHEST_SELECTED), (PySem.W.mg_of X G n_HIGHEST_ADDRESS), (PySem.W.mg_of X G n_MOST_STEPS), (PySem.W.mg_of X G n_OPS), dO, lo⟩
  obtain ⟨fs, Z⟩ := fsv
  have CN : CstN K mg aW kL k_LONGEST_NAME := ⟨(PySem.W.mg_of X G n_OW), q_OW, (PySem.W.mg_of X G n_LETTERS), (PySem.W.mg_of X G n_LONGEST_NAME)⟩
  have T : Ct K mg (seven c0 c1 c2 c3 c4 c5 c6) (seven i0 i1 i2 i3 i4 i5 i6) := ⟨lt7 C0.cls C1.cls C2.cls C3.cls C4.cls C5.cls C6.cls, lt7 C0.na.get C1.na.get C2.na.get C3.na.get C4.na.get C5.na.get C6.na.get, lt7 C0.mk_ C1.mk_ C2.mk_ C3.mk_ C4.mk_ C5.mk_ C6.mk_, lt7 (PySem.W.mg_of X G C0.ns) (PySem.W.mg_of X G C1.ns) (PySem.W.mg_of X G C2.ns) (PySem.W.mg_of X G C3.ns) (PySem.W.mg_of X G C4.ns) (PySem.W.mg_of X G C5.ns) (PySem.W.mg_of X G C6.ns)⟩
  have TX : Xs K mg R fR cB fB cL cK cW cS := ⟨xR.c, xB.c, xL.c, xK.c, xW.c, xS.c, aB, ⟨iB, nB, pB⟩, ⟨rd, ri, mR.fu.elim fun _ F => F.kp⟩, PySem.W.mg_of X G xR.ns, PySem.W.mg_of X G xB.ns, PySem.W.mg_of X G xL.ns, PySem.W.mg_of X G xK.ns, PySem.W.mg_of X G xW.ns, PySem.W.mg_of X G xS.ns, PySem.W.mg_none_of X G z_ValueError⟩
  obtain ⟨a14, fd, F⟩ := d32
  have e := hfa.symm.trans (PySem.W.mg_of X G a14)
  cases e
  obtain ⟨oc, od, kV, doc, pm, an, cdv, ct, osl, rfl, lk, hcd⟩ := id F.ex
  refine ⟨PySem.W.fnOf "law" "law" (defArgs sLaw) (defBody sLaw) (defScope sLaw) .none kV doc pm an cdv ct, fun s v => .of_eq rfl, fun base _ _ => ?_⟩
  have RI : RIX l.prog w K mg base fR := by
    obtain ⟨⟨fd, F⟩, _⟩ := mR
    exact ⟨fd, F.binds (fun _ _ _ _ _ _ us hl => match us, hl with | [_, _], _ => rfl), ok_RX F TX⟩
  obtain ⟨⟨fdB, FB0⟩, _⟩ := id mB
  have FB : FnOk l.prog w K mg base CX0 2 fB fdB ["self", "thing"] (spNK cB) := ok_NK FB0 TX RI
  have BB : Binds K fdB ["self", "thing"] [] := FB0.binds (fun _ _ _ _ _ _ us hl => match us, hl with | [_, _], _ => rfl)
  have WH := fn_mk (P := l.prog) (w := w) (base := base) X G d0 (fun _ _ _ _ _ _ us hl => match us, hl with | [_], _ => rfl) (fun fd F => ok_whole F B)
  have WI := fn_mk (P := l.prog) (w := w) (base := base) X G d1 (fun _ _ _ _ _ _ us hl => match us, hl with | [_, _, _], _ => rfl) (fun fd F => ok_within F WH)
  have NM := fn_mk (P := l.prog) (w := w) (base := base) X G d2 (fun _ _ _ _ _ _ us hl => match us, hl with | [_], _ => rfl) (fun fd F => ok_name F B CN)
  have OP := fn_mk (P := l.prog) (w := w) (base := base) X G d3 (fun _ _ _ _ _ _ us hl => match us, hl with | [], _ => rfl) (fun fd F => ok_ops F B Z)
  have HD := fn_mk (P := l.prog) (w := w) (base := base) X G d4 (fun _ _ _ _ _ _ us hl => match us, hl with | [_, _, _], _ => rfl) (fun fd F => ok_headed F B)
  have IN := fn_mk (P := l.prog) (w := w) (base := base) X G d5 (fun _ _ _ _ _ _ us hl => match us, hl with | [_], _ => rfl) (fun fd F => ok_inner F Z WI)
  have FI := fn_mk (P := l.prog) (w := w) (base := base) X G d6 (fun _ _ _ _ _ _ us hl => match us, hl with | [_], _ => rfl) (fun fd F => ok_field F Z WI)
  have AD := fn_mk (P := l.prog) (w := w) (base := base) X G d7 (fun _ _ _ _ _ _ us hl => match us, hl with | [_], _ => rfl) (fun fd F => ok_addr F Z WI)
  have SE := fn_mk (P := l.prog) (w := w) (base := base) X G d8 (fun _ _ _ _ _ _ us hl => match us, hl with | [_], _ => rfl) (fun fd F => ok_sel F Z WI HD FI)
  have SO := fn_mk (P := l.prog) (w := w) (base := base) X G d9 (fun _ _ _ _ _ _ us hl => match us, hl with | [_], _ => rfl) (fun fd F => ok_source F Z WI HD FI IN)
  have IS := fn_mk (P := l.prog) (w := w) (base := base) X G d10 (fun _ _ _ _ _ _ us hl => match us, hl with | [_], _ => rfl) (fun fd F => ok_isStep F HD IN SE SO OP)
  have EN := fn_mk (P := l.prog) (w := w) (base := base) X G d11 (fun _ _ _ _ _ _ us hl => match us, hl with | [_], _ => rfl) (fun fd F => ok_isEnd F (PySem.W.mg_of X G n_OF) q_OF HD FI NM)
  have WO := fn_mk (P := l.prog) (w := w) (base := base) X G d12 (fun _ _ _ _ _ _ us hl => match us, hl with | [_], _ => rfl) (fun fd F => ok_wayOn F HD AD IN EN)
  have IL := fn_mk (P := l.prog) (w := w) (base := base) X G d13 (fun _ _ _ _ _ _ us hl => match us, hl with | [_], _ => rfl) (fun fd F => ok_isLittle F B Z IS WO)
  have J0 := ini_mk (P := l.prog) (w := w) (mg := mg) (base := base) I0 (fun _ _ _ _ _ _ us hl => match us, hl with | [_, _, _], _ => rfl) (fun fd F => ok_I0 F T)
  have J1 := ini_mk (P := l.prog) (w := w) (mg := mg) (base := base) I1 (fun _ _ _ _ _ _ us hl => match us, hl with | [_, _, _], _ => rfl) (fun fd F => ok_I1 F T)
  have J2 := ini_mk (P := l.prog) (w := w) (mg := mg) (base := base) I2 (fun _ _ _ _ _ _ us hl => match us, hl with | [_, _, _], _ => rfl) (fun fd F => ok_I2 F T)
  have J3 := ini_mk (P := l.prog) (w := w) (mg := mg) (base := base) I3 (fun _ _ _ _ _ _ us hl => match us, hl with | [_, _, _, _, _], _ => rfl) (fun fd F => ok_I3 F T)
  have J4 := ini_mk (P := l.prog) (w := w) (mg := mg) (base := base) I4 (fun _ _ _ _ _ _ us hl => match us, hl with | [_, _, _], _ => rfl) (fun fd F => ok_I4 F T)
  have J5 := ini_mk (P := l.prog) (w := w) (mg := mg) (base := base) I5 (fun _ _ _ _ _ _ us hl => match us, hl with | [_, _, _], _ => rfl) (fun fd F => ok_I5 F T)
  have J6 := ini_mk (P := l.prog) (w := w) (mg := mg) (base := base) I6 (fun _ _ _ _ _ _ us hl => match us, hl with | [_, _, _], _ => rfl) (fun fd F => ok_I6 F T)
  have JT := ini_mk (P := l.prog) (w := w) (mg := mg) (base := base) IT (fun _ _ _ _ _ _ us hl => match us, hl with | [_, _, _], _ => rfl) (fun fd F => ok_litI F B CT.cls CT.na.1 CT.na.2.1)
  have SF : FnX l.prog w K mg base "step_of" 6 ["told"] (spX cB stepOk HgA) := fnx_mk X G d14 (fun _ _ _ _ _ _ us hl => match us, hl with | [_], _ => rfl) (fun fd F => ok_stepOf F T TX FB BB IS J0 J1 J2 J3 J4 J5 J6)
  have LF : FnX l.prog w K mg base "little_of" 7 ["told"] (spX cB littleOk LitG) := fnx_mk X G d15 (fun _ _ _ _ _ _ us hl => match us, hl with | [_], _ => rfl) (fun fd F => ok_littleOf F TX FB BB IL SF.calm CT.mk_ (PySem.W.mg_of X G CT.ns) JT)
  have CL := fn_mk (P := l.prog) (w := w) (base := base) X G d16 (fun _ _ _ _ _ _ us hl => match us, hl with | [_, _], _ => rfl) (fun fd F => ok_cell F B)
  have ST := fn_mk (P := l.prog) (w := w) (base := base) X G d17 (fun _ _ _ _ _ _ us hl => match us, hl with | [_], _ => rfl) (fun fd F => ok_stream F B)
  have TK := fn_mk (P := l.prog) (w := w) (base := base) X G d18 (fun _ _ _ _ _ _ us hl => match us, hl with | [_, _], _ => rfl) (fun fd F => ok_take F)
  have LSE := fn_mk (P := l.prog) (w := w) (base := base) X G d19 (fun _ _ _ _ _ _ us hl => match us, hl with | [_], _ => rfl) (fun fd F => ok_lSel F TK)
  have LSO := fn_mk (P := l.prog) (w := w) (base := base) X G d20 (fun _ _ _ _ _ _ us hl => match us, hl with | [_], _ => rfl) (fun fd F => ok_lSource F TK)
  have LST := fn_mk (P := l.prog) (w := w) (base := base) X G d21 (fun _ _ _ _ _ _ us hl => match us, hl with | [_], _ => rfl) (fun fd F => ok_lStep F TK LSO LSE)
  have LON := fn_mk (P := l.prog) (w := w) (base := base) X G d22 (fun _ _ _ _ _ _ us hl => match us, hl with | [_], _ => rfl) (fun fd F => ok_lOn F TK)
  have SG := fn_mk (P := l.prog) (w := w) (base := base) X G d23 (fun _ _ _ _ _ _ us hl => match us, hl with | [_], _ => rfl) (fun fd F => ok_strange F B TK)
  have BP := fn_mk (P := l.prog) (w := w) (base := base) X G d24 (fun _ _ _ _ _ _ us hl => match us, hl with | [_, _], _ => rfl) (fun fd F => ok_badPair F B TK)
  have BPT := fn_mk (P := l.prog) (w := w) (base := base) X G d25 (fun _ _ _ _ _ _ us hl => match us, hl with | [_, _], _ => rfl) (fun fd F => ok_badPart F B TK SG BP)
  have BS := fn_mk (P := l.prog) (w := w) (base := base) X G d26 (fun _ _ _ _ _ _ us hl => match us, hl with | [_, _], _ => rfl) (fun fd F => ok_badStep F B TK BPT)
  have BO := fn_mk (P := l.prog) (w := w) (base := base) X G d27 (fun _ _ _ _ _ _ us hl => match us, hl with | [_, _], _ => rfl) (fun fd F => ok_badOn F B TK)
  have SS := fn_mk (P := l.prog) (w := w) (base := base) X G d28 (fun _ _ _ _ _ _ us hl => match us, hl with | [_], _ => rfl) (fun fd F => ok_stepSaid F B TX SF)
  have SL := fn_mk (P := l.prog) (w := w) (base := base) X G d29 (fun _ _ _ _ _ _ us hl => match us, hl with | [_], _ => rfl) (fun fd F => ok_littleSaid F B TX LF)
  have RF := fn_mk (P := l.prog) (w := w) (base := base) X G d30 (fun _ _ _ _ _ _ us hl => match us, hl with | [_, _], _ => rfl) (fun fd F => ok_refused F)
  have AL := fn_mk (P := l.prog) (w := w) (base := base) X G d31 (fun _ _ _ _ _ _ us hl => match us, hl with | [_], _ => rfl) (fun fd F => ok_all F B TK LST LON BS BO SS SL RF)
  exact ok_law F B CL ST AL
end L3
namespace L3
open PySem L2
theorem na4 {K : PySem.W.Frag} {c : Addr} {a b d e : Str} (x : PySem.W.findIn K (.ref c) a = some none) (y : PySem.W.findIn K (.ref c) b = some none) (z : PySem.W.findIn K (.ref c) d = some none) (u : PySem.W.findIn K (.ref c) e = some none) : NaAll K c [a, b, d, e] := ⟨x, y, z, u, trivial⟩
end L3
namespace PySem.W.Fast
def tw9911463851759019708 : Nat := 0
def tw4261142746635725371 : Nat := 0
def tw10799298161877838058 : Nat := 0
def tw4545416112458284109 : Nat := 0
def tw11403709875403440180 : Nat := 0
def tw8870300347962435647 : Nat := 0
def tw2669530066192597525 : Nat := 0
def tw13184372950377989571 : Nat := 0
def tw4358506534718960001 : Nat := 0
def tw8561761769182638554 : Nat := 0
def tw14585937967998847819 : Nat := 0
def tw7617852901190077411 : Nat := 0
def tw12716472273742016377 : Nat := 0
def tw7841589822888907549 : Nat := 0
def tw9556095455509418593 : Nat := 0
def tw9309334182510146579 : Nat := 0
def tw16006915978704011777 : Nat := 0
def tw14625151462771873593 : Nat := 0
def tw1744541270392829127 : Nat := 0
def tw7863950688969487161 : Nat := 0
def tw6919191035782421651 : Nat := 0
def tw4002617640175516469 : Nat := 0
def tw7724383376022999973 : Nat := 0
def tw15214503588964535968 : Nat := 0
def tw12325298795845347722 : Nat := 0
def tw4969465390926842910 : Nat := 0
def tw12406064934183932577 : Nat := 0
def tw3523438127363460520 : Nat := 0
def tw14576899016166616982 : Nat := 0
def tw4631927047371699711 : Nat := 0
def tw4793331976743173138 : Nat := 0
def tw4104273820216063810 : Nat := 0
def tw10108019675406557333 : Nat := 0
def tw16117418634295672675 : Nat := 0
def tw5616708008429716597 : Nat := 0
def tw14078615868399941050 : Nat := 0
def tw10142899936645570385 : Nat := 0
def tw9266937701252484560 : Nat := 0
def tw706160426114294767 : Nat := 0
def tw10947335765393039744 : Nat := 0
def tw4962342840136848824 : Nat := 0
def tw12653282012304809983 : Nat := 0
def tw17105922455220077005 : Nat := 0
def tw5958827101554399464 : Nat := 0
def tw601802429048995776 : Nat := 0
def tw12194491445364549574 : Nat := 0
def tw12292161984735633745 : Nat := 0
def tw12722306745194565326 : Nat := 0
def tw13589773759376659227 : Nat := 0
def tw7841811758557044866 : Nat := 0
def tw7214472364544654025 : Nat := 0
def tw11985074902859324404 : Nat := 0
def tw5462356821536118069 : Nat := 0
def tw8810441049841444679 : Nat := 0
def tw3163014882778050971 : Nat := 0
def tw14354277891684695574 : Nat := 0
def tw7962182879594167996 : Nat := 0
def tw5394742328972257650 : Nat := 0
def tw13818057225841388608 : Nat := 0
def tw8442636962532729146 : Nat := 0
def tw5730850929280279089 : Nat := 0
def tw13709644251760739491 : Nat := 0
def tw4739373250591577397 : Nat := 0
def tw1583809780901962975 : Nat := 0
def tw14990324035743090958 : Nat := 0
def tw13053861512081171482 : Nat := 0
def tw18286494938123098595 : Nat := 0
def tw5102741572325058581 : Nat := 0
def tw16303538616347891345 : Nat := 0
def tw6406724799959835622 : Nat := 0
def tw234321897099021368 : Nat := 0
def tw5680396926969520321 : Nat := 0
def tw4088027217540844986 : Nat := 0
def tw13989166624048210098 : Nat := 0
def tw3299540752457455280 : Nat := 0
def tw13283231902942151123 : Nat := 0
def tw703213902352289122 : Nat := 0
def tw12357074849356281902 : Nat := 0
def tw5037561172644311756 : Nat := 0
def tw15719126921108678740 : Nat := 0
def tw10726487066959686708 : Nat := 0
def tw1057676492771098455 : Nat := 0
def tw9753375028419405863 : Nat := 0
def tw17244944990693681077 : Nat := 0
def tw5871452906178571469 : Nat := 0
def tw14849014422381158960 : Nat := 0
def tw1745313551764436912 : Nat := 0
def tw6118057832757299505 : Nat := 0
def tw3833462684071873451 : Nat := 0
def tw1125313997362675450 : Nat := 0
def tw13302210489912480328 : Nat := 0
def tw17495506323437757779 : Nat := 0
def tw5963777898950566831 : Nat := 0
def tw16449188353162757044 : Nat := 0
def tw11689217882569062971 : Nat := 0
def tw8053845559519350658 : Nat := 0
def tw3120333314010547057 : Nat := 0
def tw10241676721573826078 : Nat := 0
def tw2205929473156249756 : Nat := 0
def tw3392939851352986259 : Nat := 0
def tw7171208932062167306 : Nat := 0
def tw4274477219419653078 : Nat := 0
def tw9799629213408620142 : Nat := 0
def tw17526534497146129193 : Nat := 0
def tw10863082292228592596 : Nat := 0
def tw11667380981615474133 : Nat := 0
def tw4077563362708354299 : Nat := 0
def tw705483535352162946 : Nat := 0
def tw1268180792541704795 : Nat := 0
def tw14626226508241902070 : Nat := 0
def tw3230761231441189424 : Nat := 0
def tw15363861638636365551 : Nat := 0
def tw6937691285168900304 : Nat := 0
def tw598412568434822566 : Nat := 0
def tw8688688455154316787 : Nat := 0
def tw4626617232115281497 : Nat := 0
def tw12516706281984216345 : Nat := 0
def tw12740467681448837392 : Nat := 0
def tw1383044273664453825 : Nat := 0
def tw12168346883256023478 : Nat := 0
def tw5517894059633102500 : Nat := 0
def tw12173196673673726259 : Nat := 0
def tw5628050937172437262 : Nat := 0
def tw9166421334368348046 : Nat := 0
def tw725153683770764232 : Nat := 0
def tw15215806525973522419 : Nat := 0
def tw10110611149813046797 : Nat := 0
def tw18083047028464789003 : Nat := 0
def tw12998843979059687743 : Nat := 0
def tw2212212616253522238 : Nat := 0
def tw16445927013478574692 : Nat := 0
def tw12859439767084240321 : Nat := 0
def tw244135751159912429 : Nat := 0
def tw3741613196058523377 : Nat := 0
def tw15342918587088491481 : Nat := 0
def tw14490685922511736841 : Nat := 0
def tw8974934369880495413 : Nat := 0
def tw7024730896322165238 : Nat := 0
def tw16890020078093934644 : Nat := 0
def tw15092957683099380040 : Nat := 0
def tw6321920476228527726 : Nat := 0
def tw8830265408690259773 : Nat := 0
def tw9018664449913945249 : Nat := 0
def tw6078956516715955093 : Nat := 0
def tw14169155004398810035 : Nat := 0
def tw7788805137611559717 : Nat := 0
def tw8110149127967810100 : Nat := 0
def tw1228576835151662872 : Nat := 0
def tw11607330376708528750 : Nat := 0
def tw3038466648788802203 : Nat := 0
def tw5974530767073194676 : Nat := 0
def tw15981091952800659607 : Nat := 0
def tw8965317514503448235 : Nat := 0
def tw12360066511438106990 : Nat := 0
def tw4289225013535558699 : Nat := 0
def tw7612045770174414158 : Nat := 0
def tw11779705227849444787 : Nat := 0
def tw7680925518950315017 : Nat := 0
def tw14044820166678001607 : Nat := 0
def tw17027674334051312308 : Nat := 0
def tw2103330523718236851 : Nat := 0
def tw6164614444575702105 : Nat := 0
def tw4684006384343526577 : Nat := 0
def tw11881513556037336574 : Nat := 0
def tw5433678094668123401 : Nat := 0
def tw17148138338209536150 : Nat := 0
def tw16501321027380262459 : Nat := 0
def tw1061111157928598276 : Nat := 0
def tw385740353908419245 : Nat := 0
def tw3715057120299525807 : Nat := 0
def tw18436837645465151536 : Nat := 0
def tw3519290259830423699 : Nat := 0
def tw16312224203837277999 : Nat := 0
def tw14117112121481474304 : Nat := 0
def tw6774284639706918932 : Nat := 0
def tw5541290253930795479 : Nat := 0
def tw18275226834287786440 : Nat := 0
def tw2853239555074388231 : Nat := 0
def tw12409181557063153151 : Nat := 0
def tw15701486214204587912 : Nat := 0
def tw1347850101764016056 : Nat := 0
def tw4165793790430512031 : Nat := 0
def tw3626049171119908213 : Nat := 0
def tw14528663323276809994 : Nat := 0
def tw15150332176989454064 : Nat := 0
def tw18151346457744553016 : Nat := 0
def tw11467596353706934446 : Nat := 0
def tw5019689211603557001 : Nat := 0
def tw7860498872297074663 : Nat := 0
def tw3330047723558994768 : Nat := 0
def tw211032441445591341 : Nat := 0
def tw758473327678441035 : Nat := 0
def tw4152857877326832678 : Nat := 0
def tw18053257251094296063 : Nat := 0
def tw631820828559427257 : Nat := 0
def tw16248136703443670271 : Nat := 0
def tw15512620531739065570 : Nat := 0
def tw15980322993893178801 : Nat := 0
def tw14890291031909230513 : Nat := 0
def tw2439425588886258210 : Nat := 0
def tw10079533662067950991 : Nat := 0
def tw14674132578851820889 : Nat := 0
def tw13469151994033189895 : Nat := 0
def tw17974215790619485110 : Nat := 0
def tw12828847044909724153 : Nat := 0
def tw10844843210817820850 : Nat := 0
def tw6670521628743407365 : Nat := 0
def tw4822077287977591241 : Nat := 0
def tw17345354943462674998 : Nat := 0
def tw15467824308316526446 : Nat := 0
def tw13420592887551000582 : Nat := 0
def tw10344227385863865193 : Nat := 0
def tw9250034435547706733 : Nat := 0
def tw6512186846367399651 : Nat := 0
def tw2224784713310750895 : Nat := 0
def tw13815269852693348524 : Nat := 0
def tw3544011278005499868 : Nat := 0
def tw18091177961147928684 : Nat := 0
def tw13148436314211680088 : Nat := 0
def tw18156681420918609601 : Nat := 0
def tw5549320882149927918 : Nat := 0
def tw435797959910615068 : Nat := 0
def tw16467054717673098212 : Nat := 0
def tw14312832471008399120 : Nat := 0
def tw10974173679913152964 : Nat := 0
def tw9360911137926079697 : Nat := 0
def tw10466663744136129415 : Nat := 0
def tw8372052274618909511 : Nat := 0
def tw17807545666644567709 : Nat := 0
def tw14190804668044984687 : Nat := 0
def tw11581870662136446575 : Nat := 0
def tw17804293088134220777 : Nat := 0
def tw16329319974764510275 : Nat := 0
def tw2210213926903619428 : Nat := 0
def tw16725199483454388519 : Nat := 0
def tw15457157239820832065 : Nat := 0
def tw16287286048616312674 : Nat := 0
def tw9568502926516688733 : Nat := 0
def tw889137209534580584 : Nat := 0
def tw13817547307978525983 : Nat := 0
def tw13212670956951963598 : Nat := 0
def tw10698349437273318854 : Nat := 0
def tw5564034586666885449 : Nat := 0
def tw17373351537559920395 : Nat := 0
def tw15834112052765261662 : Nat := 0
def tw4126659095056556341 : Nat := 0
def tw18350057130365602890 : Nat := 0
def tw15428777066864691142 : Nat := 0
def tw7611106736741739219 : Nat := 0
def tw14696834281407218608 : Nat := 0
def tw2084262514565368362 : Nat := 0
def tw2764461173539727511 : Nat := 0
def tw18133100292646449195 : Nat := 0
def tw9903096923089257287 : Nat := 0
def tw11543476482143589044 : Nat := 0
def tw4534031528238160788 : Nat := 0
def tw878952519331918654 : Nat := 0
def tw2874679185623203513 : Nat := 0
def tw17918236691334249679 : Nat := 0
def tw6199852726561934900 : Nat := 0
def tw2879343109268934111 : Nat := 0
def tw9058211107335995164 : Nat := 0
def tw7741738448778974094 : Nat := 0
def tw10006709876381896751 : Nat := 0
def tw3510517825140075835 : Nat := 0
def tw17514408995094755339 : Nat := 0
def tw9121847316597808066 : Nat := 0
def tw7693190289978669921 : Nat := 0
def tw17721372279930582966 : Nat := 0
def tw16146407412779918600 : Nat := 0
def tw6811535803895059408 : Nat := 0
def tw2310609450537004832 : Nat := 0
def tw1133529962472327677 : Nat := 0
def tw5839788116742110958 : Nat := 0
def tw7398095871814517286 : Nat := 0
def tw7116977101807237484 : Nat := 0
def tw3548067332666195269 : Nat := 0
def tw17327232138099808058 : Nat := 0
def tw10286635781986111381 : Nat := 0
def tw5097040408722926906 : Nat := 0
def tw17492815407659312140 : Nat := 0
def tw12521574047281172672 : Nat := 0
def tw7718581103915226897 : Nat := 0
def tw9564320882028041495 : Nat := 0
def tw8256457980384621333 : Nat := 0
def tw7549400569722093938 : Nat := 0
def tw6848786894162531345 : Nat := 0
def tw4347561252208372160 : Nat := 0
def tw12357190546473639392 : Nat := 0
def tw7503728878166220178 : Nat := 0
def tw17443048076281282644 : Nat := 0
def tw14909373518063923092 : Nat := 0
def tw4228654027217796566 : Nat := 0
def tw7325756088472742296 : Nat := 0
def tw14920851913605880146 : Nat := 0
def tw17032233716487859485 : Nat := 0
def tw5984347434089005234 : Nat := 0
def tw1999872242527666839 : Nat := 0
def tw14475685774453023353 : Nat := 0
def tw6012717066513263390 : Nat := 0
def tw12961624131808882018 : Nat := 0
def tw13120043379328775851 : Nat := 0
def tw6407661282216787442 : Nat := 0
def tw9931469617551764417 : Nat := 0
def tw12418809639808093908 : Nat := 0
def tw16749219235781896971 : Nat := 0
def tw11333402495311309813 : Nat := 0
def tw16838700234387603396 : Nat := 0
def tw1093306389994677934 : Nat := 0
def tw4713876582809733436 : Nat := 0
def tw12614811701017485026 : Nat := 0
def tw2074457095836735445 : Nat := 0
def tw17051166339873781503 : Nat := 0
def tw2003165042684786295 : Nat := 0
def tw15210248980057559279 : Nat := 0
def tw9888466893264342424 : Nat := 0
def tw5165514523220149388 : Nat := 0
def tw13528346782012785546 : Nat := 0
def tw4466451519879461476 : Nat := 0
def tw4214089617813596737 : Nat := 0
def tw13534242392900061487 : Nat := 0
def tw10447955743992189372 : Nat := 0
def tw12041664192450420756 : Nat := 0
def tw9148508700830712205 : Nat := 0
def tw16931927958122565760 : Nat := 0
def tw16482574106520917833 : Nat := 0
def tw2397282269632801558 : Nat := 0
def tw11823496370196953988 : Nat := 0
def tw7411462301636208944 : Nat := 0
def tw2999414556533374209 : Nat := 0
def tw2111472787803651203 : Nat := 0
def tw6201114042947377214 : Nat := 0
def tw14008613071706873359 : Nat := 0
def tw12774682796196074924 : Nat := 0
def tw3295756432661480479 : Nat := 0
def tw2567331051596500920 : Nat := 0
def tw735162678412685668 : Nat := 0
def tw3476755301729589694 : Nat := 0
def tw13707079103631342093 : Nat := 0
def tw9285726472230242852 : Nat := 0
def tw3479620758021898191 : Nat := 0
def tw8705102775210888342 : Nat := 0
def tw5940081604389282795 : Nat := 0
def tw5742892126122748842 : Nat := 0
def tw18404854859008791578 : Nat := 0
def tw18376768147301426677 : Nat := 0
def tw18034656693324832171 : Nat := 0
def tw14624616393623494825 : Nat := 0
def tw4703145952535231374 : Nat := 0
def tw6983633518447942779 : Nat := 0
def tw6718520677441680011 : Nat := 0
def tw6662629931395960736 : Nat := 0
def tw5092714005349853063 : Nat := 0
def tw3550794527529837341 : Nat := 0
def tw15792982419376248701 : Nat := 0
def tw13943115891320932940 : Nat := 0
def tw1260565714570080616 : Nat := 0
def tw9211374675812678041 : Nat := 0
def tw6928896982650757539 : Nat := 0
def tw5681338870615346304 : Nat := 0
def tw4828982365330905116 : Nat := 0
def tw3609532122113189010 : Nat := 0
def tw3455149988839776925 : Nat := 0
def tw11283991793331793233 : Nat := 0
def tw9516870164715200344 : Nat := 0
def tw8409769168187150915 : Nat := 0
def tw8082475353811203210 : Nat := 0
def tw16977159949373145695 : Nat := 0
def tw13877074049834520322 : Nat := 0
def tw11776052552526756563 : Nat := 0
def tw11469577684018666951 : Nat := 0
def tw8260115055471444151 : Nat := 0
def tw8049255980444396097 : Nat := 0
def tw1645866441503607183 : Nat := 0
def tw9980056701145529791 : Nat := 0
def tw6571355482038788736 : Nat := 0
def tw18075959929920916236 : Nat := 0
def tw8870928399772660265 : Nat := 0
def tw6302496327428399398 : Nat := 0
def tw3770922117738462938 : Nat := 0
def tw18301337317128106843 : Nat := 0
def tw17030281875385859684 : Nat := 0
def tw15933966327676020156 : Nat := 0
def tw12911767657370625622 : Nat := 0
def tw11684169822940819961 : Nat := 0
def tw2955776397696234329 : Nat := 0
def tw3345738234167384789 : Nat := 0
def tw18134225248586608556 : Nat := 0
def tw15187374263556207522 : Nat := 0
def tw13646198529995236774 : Nat := 0
def tw15989690574834775656 : Nat := 0
def tw4914095392322792967 : Nat := 0
def tw8069647731221756580 : Nat := 0
def tw17874503937037999862 : Nat := 0
def tw10676316094027699691 : Nat := 0
def tw15210794747774459814 : Nat := 0
def tw18424169962678970694 : Nat := 0
def tw11679443800213987996 : Nat := 0
def tw8570999365685552759 : Nat := 0
def tw14370557215532364710 : Nat := 0
def tw10480056989441460656 : Nat := 0
def tw10282306994482493090 : Nat := 0
def tw17505654699591126620 : Nat := 0
def tw16013053031556439273 : Nat := 0
def tw10926551979915749855 : Nat := 0
def tw5485062749322751493 : Nat := 0
def tw4015377608058833176 : Nat := 0
def tw8664802615236366598 : Nat := 0
def tw6749938394835845363 : Nat := 0
def tw17402450988626978191 : Nat := 0
def tw10595158086349908983 : Nat := 0
def tw58611578820364937 : Nat := 0
def tw4620653182067016679 : Nat := 0
def tw16927732871421164316 : Nat := 0
def tw5984937408970900918 : Nat := 0
def tw872969821484461152 : Nat := 0
def tw6053158447470653999 : Nat := 0
def tw13675529867053630261 : Nat := 0
def tw502235312793031674 : Nat := 0
def tw15715387395846521578 : Nat := 0
def tw14821811718359892345 : Nat := 0
def tw4964597980293011610 : Nat := 0
def tw13601550726904725481 : Nat := 0
def tw15786885841333083063 : Nat := 0
def tw13159620176461778433 : Nat := 0
def tw10891637103478441332 : Nat := 0
def tw11840484156418474507 : Nat := 0
def tw664440115328745502 : Nat := 0
def tw17573490183698862209 : Nat := 0
def tw16288800993955992265 : Nat := 0
def tw13531349419946213488 : Nat := 0
def tw6590054953495101421 : Nat := 0
def tw384912135108355834 : Nat := 0
def tw4491076670114250379 : Nat := 0
def tw11516349784463832865 : Nat := 0
def tw11734293440049566476 : Nat := 0
def tw9374271558035068193 : Nat := 0
def tw14079483670619286769 : Nat := 0
def tw7561152395319231985 : Nat := 0
def tw5732946566225357765 : Nat := 0
def tw17092081891171059011 : Nat := 0
def tw14233754441713410885 : Nat := 0
def tw18399603741658092955 : Nat := 0
def tw12709369484815496664 : Nat := 0
def tw7580084239592300497 : Nat := 0
def tw6118634712416918861 : Nat := 0
def tw13872204477089030715 : Nat := 0
def tw13131747112537277479 : Nat := 0
def tw11192481811937499119 : Nat := 0
def tw8007351967983221451 : Nat := 0
def tw5749905071838280456 : Nat := 0
def tw3637305084936251655 : Nat := 0
def tw13012662733045741553 : Nat := 0
def tw7379561542192758128 : Nat := 0
def tw13320377610938640075 : Nat := 0
def tw8495509936250545395 : Nat := 0
def tw12003436771117853978 : Nat := 0
def tw6998550328774057965 : Nat := 0
def tw14257151021157688463 : Nat := 0
def tw14190368229595306515 : Nat := 0
def tw5800419488114838429 : Nat := 0
def tw3337577757334715593 : Nat := 0
def tw14584577288290910418 : Nat := 0
def tw16364045912690042901 : Nat := 0
def tw9696895006936185364 : Nat := 0
def tw4179856942635969366 : Nat := 0
def tw13421094368108158400 : Nat := 0
def tw15619789534932888010 : Nat := 0
def tw5877720093510245649 : Nat := 0
def tw1592901911173782768 : Nat := 0
def tw7570290217497045111 : Nat := 0
def tw3949013841008966310 : Nat := 0
def tw14014413404259738337 : Nat := 0
def tw7478821516929708867 : Nat := 0
def tw1526107614084006498 : Nat := 0
def tw4491329156674133252 : Nat := 0
def tw5991941957474917125 : Nat := 0
def tw1884266975229484276 : Nat := 0
def tw16440458439075779549 : Nat := 0
def tw6604357169059165643 : Nat := 0
def tw5254948707774195953 : Nat := 0
def tw3112329303030658553 : Nat := 0
def tw15542842400796432386 : Nat := 0
def tw46827952231020215 : Nat := 0
def tw16960000385274596549 : Nat := 0
def tw17256027964224401822 : Nat := 0
def tw10728175137135918151 : Nat := 0
def tw14453915383550903732 : Nat := 0
def tw14318083922876069020 : Nat := 0
def tw12084590640529474675 : Nat := 0
def tw7888395395765747817 : Nat := 0
def tw5406212982937751872 : Nat := 0
def tw4427798590628147886 : Nat := 0
def tw2440915200867786670 : Nat := 0
def tw14889928130297887280 : Nat := 0
def tw14597580315548393279 : Nat := 0
def tw13022158975283430402 : Nat := 0
def tw10781286181051530375 : Nat := 0
def tw9460438183476363761 : Nat := 0
def tw9076365403447563620 : Nat := 0
def tw8631541020456313910 : Nat := 0
def tw8281811852605069938 : Nat := 0
def tw6151619171714217897 : Nat := 0
def tw6004199287177569636 : Nat := 0
def tw3384630798076708027 : Nat := 0
def tw13357699295706354529 : Nat := 0
def tw12352062233286937249 : Nat := 0
def tw855733630791580718 : Nat := 0
def tw15121695649561845449 : Nat := 0
def tw14488099567104894982 : Nat := 0
def tw18279733183055913010 : Nat := 0
def tw8481302584189877612 : Nat := 0
def tw15140561287210271468 : Nat := 0
def tw11990557489837269296 : Nat := 0
def tw10810558437535208762 : Nat := 0
def tw4165457742917387189 : Nat := 0
def tw3917834844987669446 : Nat := 0
def tw3422493361525679018 : Nat := 0
def tw339219355884887042 : Nat := 0
def tw12021274756267700990 : Nat := 0
def tw10294509678881750434 : Nat := 0
def tw4507572582922821484 : Nat := 0
def tw2728341215313500603 : Nat := 0
def tw1135898180670161924 : Nat := 0
def tw4480739087000270536 : Nat := 0
def tw6630389355789619032 : Nat := 0
def tw5660621633548119309 : Nat := 0
def tw4343774100727219576 : Nat := 0
def tw18330383881727798541 : Nat := 0
def tw15161296303218611283 : Nat := 0
def tw14167244211543352290 : Nat := 0
def tw13618350073664689815 : Nat := 0
def tw11157698703374778964 : Nat := 0
def tw9602574854085467643 : Nat := 0
def tw6112649191938020323 : Nat := 0
def tw2172489217494904591 : Nat := 0
def tw17301367503526710229 : Nat := 0
def tw14999567781996488045 : Nat := 0
def tw12765792032401299658 : Nat := 0
def tw7051308200943108021 : Nat := 0
def tw12564144078477356490 : Nat := 0
def tw7647813310426828308 : Nat := 0
def tw18224109398041749562 : Nat := 0
def tw16281801443418093228 : Nat := 0
def tw10945064059221857289 : Nat := 0
def tw720442894240670165 : Nat := 0
def tw18224640126657337254 : Nat := 0
def tw17532249376359938707 : Nat := 0
def tw15327601892648204958 : Nat := 0
def tw13044028791959751959 : Nat := 0
def tw13231093959288270921 : Nat := 0
def tw1430250693340829463 : Nat := 0
def tw11432813305241046303 : Nat := 0
def tw10561282359245754516 : Nat := 0
def tw2493269361913457758 : Nat := 0
def tw2404404104023751996 : Nat := 0
def tw15967686026578416410 : Nat := 0
def tw15075593315730978498 : Nat := 0
def tw8676662967257812053 : Nat := 0
def tw16982377467925794148 : Nat := 0
def tw13634761965150052916 : Nat := 0
def tw8477981187891096062 : Nat := 0
def tw8649187990453708265 : Nat := 0
def tw9796467127832054739 : Nat := 0
def tw9373292237569980419 : Nat := 0
def tw9127260488193743945 : Nat := 0
def tw7845260715857962276 : Nat := 0
def tw7268597356955530907 : Nat := 0
def tw7172407060737990324 : Nat := 0
def tw7021559052909225507 : Nat := 0
def tw2356059223032895984 : Nat := 0
def tw219422048188071540 : Nat := 0
def tw1963362350907405674 : Nat := 0
def tw1024678952171768949 : Nat := 0
def tw9809100642069440502 : Nat := 0
def tw9641855252589656176 : Nat := 0
def tw7970413836492722291 : Nat := 0
def tw7664040553537937242 : Nat := 0
def tw7028475455746366193 : Nat := 0
def tw6922714028151227448 : Nat := 0
def tw6896931359470006758 : Nat := 0
def tw6876273697122775967 : Nat := 0
def tw5347386411095987415 : Nat := 0
def tw5130928451213754996 : Nat := 0
def tw4500673279682076723 : Nat := 0
def tw4220995655533267841 : Nat := 0
def tw4146014889310653981 : Nat := 0
def tw4018068110855373710 : Nat := 0
def tw3057514586660883398 : Nat := 0
def tw2618741869183005398 : Nat := 0
def tw2520703325905270927 : Nat := 0
def tw2326395172102545760 : Nat := 0
def tw16542280717333408764 : Nat := 0
def tw1623511555412182010 : Nat := 0
def tw15879181006753110792 : Nat := 0
def tw15111473515308119568 : Nat := 0
def tw14677228046916274391 : Nat := 0
def tw14278495553709071286 : Nat := 0
def tw14047587109987470995 : Nat := 0
def tw14018924897933632191 : Nat := 0
def tw13778639524108768181 : Nat := 0
def tw13730068554068130029 : Nat := 0
def tw13173999215330655719 : Nat := 0
def tw12804327959393219498 : Nat := 0
def tw1254046862914100502 : Nat := 0
def tw12018148078930660890 : Nat := 0
def tw11904476626790746208 : Nat := 0
def tw11595595993920449601 : Nat := 0
def tw11552161519747352585 : Nat := 0
def tw11024357999537222096 : Nat := 0
def tw1078170085034361779 : Nat := 0
def tw7065689465470912795 : Nat := 0
def tw3009003274235139120 : Nat := 0
def tw2581748610401945952 : Nat := 0
def tw14612285988061405592 : Nat := 0
def tw13875087602510116310 : Nat := 0
def tw1122795586031242080 : Nat := 0
def tw9997457346173901897 : Nat := 0
def tw7043079554439774439 : Nat := 0
def tw6377871267002947940 : Nat := 0
def tw6345955019027197739 : Nat := 0
def tw5531767074832164610 : Nat := 0
def tw5183668501766730977 : Nat := 0
def tw2053815229510069455 : Nat := 0
def tw18444365280297056163 : Nat := 0
def tw16200255735878001068 : Nat := 0
def tw1535747867508864547 : Nat := 0
def tw14811251754375687834 : Nat := 0
def tw13969544002056575647 : Nat := 0
def tw1385388165683624706 : Nat := 0
def tw12582324024583632482 : Nat := 0
def tw12341605965783395742 : Nat := 0
def tw8286876403022828050 : Nat := 0
def tw8996652989583693331 : Nat := 0
def tw6864289648236548781 : Nat := 0
def tw6055556517418054646 : Nat := 0
def tw5831871064967391706 : Nat := 0
def tw5754514605137491936 : Nat := 0
def tw5050881277028949393 : Nat := 0
def tw44111337167557606 : Nat := 0
def tw3782766210886454923 : Nat := 0
def tw2636913465720189126 : Nat := 0
def tw2281665236073642520 : Nat := 0
def tw13089061096307913074 : Nat := 0
def tw1299203265694923732 : Nat := 0
def tw11585978022144278086 : Nat := 0
def tw11479689606599300926 : Nat := 0
def tw11218895825407600278 : Nat := 0
def tw13008110042556971775 : Nat := 0
def tw9836226843903211816 : Nat := 0
def tw9138856212647703480 : Nat := 0
def tw8255342913638919707 : Nat := 0
def tw7830742984692260221 : Nat := 0
def tw6558223097455922091 : Nat := 0
def tw15732472251442207544 : Nat := 0
def tw14628617203558439402 : Nat := 0
def tw14204619304457834806 : Nat := 0
def tw12729685875004579324 : Nat := 0
def tw11914646523369510365 : Nat := 0
def tw11236419475230363549 : Nat := 0
def tw11180533375389898308 : Nat := 0
def tw9976933989747734487 : Nat := 0
def tw9377725761564141747 : Nat := 0
def tw9093452243322976094 : Nat := 0
def tw8121274747559955758 : Nat := 0
def tw6742519444363446824 : Nat := 0
def tw6355325452913421339 : Nat := 0
def tw4272697313694248265 : Nat := 0
def tw2400641248281924615 : Nat := 0
def tw220821710036922389 : Nat := 0
def tw18323073319039868406 : Nat := 0
def tw18081236203345368006 : Nat := 0
def tw1744507589068778449 : Nat := 0
def tw16821273317699015994 : Nat := 0
def tw16431482412076091589 : Nat := 0
def tw12907739833248606848 : Nat := 0
def tw996986896080241897 : Nat := 0
def tw9951751327508123642 : Nat := 0
def tw9931113216948538233 : Nat := 0
def tw9906589017032514103 : Nat := 0
def tw987754207251660319 : Nat := 0
def tw9860286163570076330 : Nat := 0
def tw9837455586211554876 : Nat := 0
def tw9818753689208993166 : Nat := 0
def tw9795523175724343540 : Nat := 0
def tw957983196404680043 : Nat := 0
def tw9497644044479747438 : Nat := 0
def tw9430191419343078623 : Nat := 0
def tw9397828683358728131 : Nat := 0
def tw9283541378281206367 : Nat := 0
def tw9255592122351908715 : Nat := 0
def tw9205508390271724187 : Nat := 0
def tw906202919078930633 : Nat := 0
def tw8786181136551452344 : Nat := 0
def tw8657403877432793674 : Nat := 0
def tw8638691482643181574 : Nat := 0
def tw8540546079594951445 : Nat := 0
def tw8508382647868953449 : Nat := 0
def tw8479064520756835416 : Nat := 0
def tw8192467872920561346 : Nat := 0
def tw8120760657395879442 : Nat := 0
def tw811314496355136025 : Nat := 0
def tw8093687514239615184 : Nat := 0
def tw7836116370434137993 : Nat := 0
def tw7749962478789661019 : Nat := 0
def tw7608447634608120694 : Nat := 0
def tw7601941545305231012 : Nat := 0
def tw7517329341925289035 : Nat := 0
def tw7503048076064196550 : Nat := 0
def tw7445072085417453162 : Nat := 0
def tw7380484076818601847 : Nat := 0
def tw7278874378148027058 : Nat := 0
def tw7264973532910604234 : Nat := 0
def tw7254266777120336812 : Nat := 0
def tw7198471659811144932 : Nat := 0
def tw7060924030806794719 : Nat := 0
def tw7023349652220846256 : Nat := 0
def tw6891848916979100707 : Nat := 0
def tw6868965684668446902 : Nat := 0
def tw6844194153950207106 : Nat := 0
def tw6676476629490691332 : Nat := 0
def tw6536023442841868312 : Nat := 0
def tw6517949033681754057 : Nat := 0
def tw6490981769514818320 : Nat := 0
def tw6411147577894480623 : Nat := 0
def tw6406652743958444314 : Nat := 0
def tw6374248159517387076 : Nat := 0
def tw6281828947084239528 : Nat := 0
def tw6209139335137606147 : Nat := 0
def tw6187257593723374187 : Nat := 0
def tw6150823205426395546 : Nat := 0
def tw605759221081016422 : Nat := 0
def tw6051546912949061644 : Nat := 0
def tw596887572516875099 : Nat := 0
def tw5848577521772849412 : Nat := 0
def tw5800428499822531249 : Nat := 0
def tw5584524427694686492 : Nat := 0
def tw5580646199051487478 : Nat := 0
def tw5532773592246280519 : Nat := 0
def tw5530283813023604719 : Nat := 0
def tw5510614909521989910 : Nat := 0
def tw547185037224998997 : Nat := 0
def tw5459454147946879981 : Nat := 0
def tw5190549259219492567 : Nat := 0
def tw5046461944631937160 : Nat := 0
def tw4935949427344274126 : Nat := 0
def tw4868513077231625619 : Nat := 0
def tw4852843887707487181 : Nat := 0
def tw4728560729415423645 : Nat := 0
def tw4595460027852662563 : Nat := 0
def tw4589842538006377385 : Nat := 0
def tw4569998186713463366 : Nat := 0
def tw4512808565182952217 : Nat := 0
def tw4379443474590644649 : Nat := 0
def tw4138240380464114348 : Nat := 0
def tw4133988920570392284 : Nat := 0
def tw409172753297072634 : Nat := 0
def tw4083045375566733258 : Nat := 0
def tw3861609542570136715 : Nat := 0
def tw3786581391589596669 : Nat := 0
def tw3741314110377071637 : Nat := 0
def tw368023158208569164 : Nat := 0
def tw367788817451373614 : Nat := 0
def tw3551644323392258961 : Nat := 0
def tw3523954711598161601 : Nat := 0
def tw3436775019883722728 : Nat := 0
def tw3383671208493957101 : Nat := 0
def tw3350290262699971631 : Nat := 0
def tw3315479012123471880 : Nat := 0
def tw3295582666613927190 : Nat := 0
def tw3287666750117637843 : Nat := 0
def tw3281147128080325730 : Nat := 0
def tw3179566927593061875 : Nat := 0
def tw3145683641605343444 : Nat := 0
def tw3118450690761003188 : Nat := 0
def tw3109079232345762239 : Nat := 0
def tw3108521454166599655 : Nat := 0
def tw3107547029379136595 : Nat := 0
def tw3076126407302157869 : Nat := 0
def tw2985591715896711867 : Nat := 0
def tw2974416268813880641 : Nat := 0
def tw2927204689887544482 : Nat := 0
def tw2912747466295587515 : Nat := 0
def tw2897051027997302519 : Nat := 0
def tw2809899632485811386 : Nat := 0
def tw272125988560019141 : Nat := 0
def tw2612105781262991272 : Nat := 0
def tw260646210634525527 : Nat := 0
def tw2598063042550486504 : Nat := 0
def tw2493834359844771359 : Nat := 0
def tw2448137802392482660 : Nat := 0
def tw2330575469912918054 : Nat := 0
def tw2142411544013702513 : Nat := 0
def tw2086312552487206504 : Nat := 0
def tw2074045693876511523 : Nat := 0
def tw1940736458923239985 : Nat := 0
def tw1924016505738216893 : Nat := 0
def tw1910110845722386573 : Nat := 0
def tw1889767424124507007 : Nat := 0
def tw18348867782253284225 : Nat := 0
def tw18235823236579334059 : Nat := 0
def tw1820455372095622283 : Nat := 0
def tw18192524933437048910 : Nat := 0
def tw18085642580101226912 : Nat := 0
def tw18050995258650832685 : Nat := 0
def tw18039150476942588682 : Nat := 0
def tw17993631150930933634 : Nat := 0
def tw17886345802843979720 : Nat := 0
def tw17823637614460451305 : Nat := 0
def tw17366481939015625742 : Nat := 0
def tw17251963791767227903 : Nat := 0
def tw1719437477278266919 : Nat := 0
def tw17177538664673116220 : Nat := 0
def tw17120683576238953806 : Nat := 0
def tw16959579106827827149 : Nat := 0
def tw16944592700822089 : Nat := 0
def tw1693007792872048958 : Nat := 0
def tw16912738205535719586 : Nat := 0
def tw16793311237580629242 : Nat := 0
def tw16339204255937997234 : Nat := 0
def tw1606697934078889503 : Nat := 0
def tw1600464258363122353 : Nat := 0
def tw15977163466205265464 : Nat := 0
def tw15966552212728119523 : Nat := 0
def tw15935943051472783735 : Nat := 0
def tw15887251191609526318 : Nat := 0
def tw15685987851599141820 : Nat := 0
def tw1566141966884191609 : Nat := 0
def tw15632723220279403445 : Nat := 0
def tw15546139660586797334 : Nat := 0
def tw15505808935683979579 : Nat := 0
def tw15459606390210566983 : Nat := 0
def tw15219718201698181715 : Nat := 0
def tw15182542576409118751 : Nat := 0
def tw15175348543966388943 : Nat := 0
def tw15109774603187036981 : Nat := 0
def tw1505935434947818232 : Nat := 0
def tw14929998399944323260 : Nat := 0
def tw1481458979687908426 : Nat := 0
def tw14760591529411689470 : Nat := 0
def tw14708004228945700384 : Nat := 0
def tw14664353905238281081 : Nat := 0
def tw14575433756731960490 : Nat := 0
def tw14404914783087798233 : Nat := 0
def tw14319915797686300999 : Nat := 0
def tw14285797158327435755 : Nat := 0
def tw14278621371823793998 : Nat := 0
def tw1422321390272670440 : Nat := 0
def tw14091137277479230832 : Nat := 0
def tw14064795364408331353 : Nat := 0
def tw1405438590347845423 : Nat := 0
def tw13955202491539534207 : Nat := 0
def tw13900208589233183405 : Nat := 0
def tw13862757201027174473 : Nat := 0
def tw13774763085941967302 : Nat := 0
def tw13765934934215150569 : Nat := 0
def tw13735270520582259222 : Nat := 0
def tw13548073127228877593 : Nat := 0
def tw13473282849530686592 : Nat := 0
def tw13462810009996858213 : Nat := 0
def tw13441546386157786260 : Nat := 0
def tw13415477266124001823 : Nat := 0
def tw13362588575210855767 : Nat := 0
def tw13313731828660555552 : Nat := 0
def tw13208012199123395152 : Nat := 0
def tw13112758301475924523 : Nat := 0
def tw13062255132528364620 : Nat := 0
def tw13038132781415176330 : Nat := 0
def tw13007534237779521016 : Nat := 0
def tw12904619335728545086 : Nat := 0
def tw12866334666329529406 : Nat := 0
def tw12798099021516540800 : Nat := 0
def tw12586808403384950186 : Nat := 0
def tw12455888281512881446 : Nat := 0
def tw12391575611698190853 : Nat := 0
def tw12364284161625945108 : Nat := 0
def tw12308188237095742097 : Nat := 0
def tw12285345255466524732 : Nat := 0
def tw12281859891751423932 : Nat := 0
def tw12259836811171734221 : Nat := 0
def tw12210384910331944175 : Nat := 0
def tw12179210416544095200 : Nat := 0
def tw12168519807620990347 : Nat := 0
def tw12168231932666143635 : Nat := 0
def tw12148796380708403962 : Nat := 0
def tw12076268379658677332 : Nat := 0
def tw11911973789829548007 : Nat := 0
def tw11847965464810958807 : Nat := 0
def tw11844965798494806104 : Nat := 0
def tw11770307689584966310 : Nat := 0
def tw11767261759776395083 : Nat := 0
def tw1167073156083583150 : Nat := 0
def tw11630217247402968408 : Nat := 0
def tw11585432328561434172 : Nat := 0
def tw1151999842891116261 : Nat := 0
def tw11427914883705179615 : Nat := 0
def tw11394925468585254349 : Nat := 0
def tw1136668635818606633 : Nat := 0
def tw11331411040505912746 : Nat := 0
def tw11277396588551943913 : Nat := 0
def tw11116142768794900671 : Nat := 0
def tw11101991462787008550 : Nat := 0
def tw10826909331660852819 : Nat := 0
def tw10820227628971347076 : Nat := 0
def tw10723151668928621671 : Nat := 0
def tw10640147053480629777 : Nat := 0
def tw10633940883014294149 : Nat := 0
def tw10513495671313384281 : Nat := 0
def tw10490021735174414914 : Nat := 0
def tw10480904946942746845 : Nat := 0
def tw10196049852611200447 : Nat := 0
def tw10178014686553079544 : Nat := 0
def tw1009757578271817269 : Nat := 0
end PySem.W.Fast
local macro_rules | `(tactic| walk_at "def of the top") => `(tactic| (refine' L3.def_mk ?a ?l ?c ?k; (case a => k_is); (case l => k_is); (case c => k_is); (case k => k_is)))
local macro_rules | `(tactic| walk_at "def of a class") => `(tactic| (refine' L3.min_mk ?l ?c ?k ?n; (case l => k_is); (case c => k_is); (case k => k_is); (case n => k_is)))
local macro_rules | `(tactic| walk_at "class of steps") => `(tactic| (refine' L3.ck_mk ?ns ?g1 ?g2 ?g3 ?g4 ?m1 ?m2 ?m3 ?m4 ?na; (case ns => k_is); (case g1 => k_is); (case g2 => k_is); (case g3 => k_is); (case g4 => k_is); (case m1 => k_is); (case m2 => k_is); (case m3 => k_is); (case m4 => k_is); (case na => (first | (refine' L3.na2 ?x ?y; (case x => k_is); (case y => k_is)) | (refine' L3.na4 ?x ?y ?z ?u; (case x => k_is); (case y => k_is); (case z => k_is); (case u => k_is))))))
local macro_rules | `(tactic| walk_at "class of refusals") => `(tactic| (refine' L3.xcl_mk ?tl ?a ?l ?g1 ?g2 ?g3 ?g4; (case a => k_is); (case l => k_is); (case tl => (first | exact L3.tlR | exact L3.tlV)); (case g1 => k_is); (case g2 => k_is); (case g3 => k_is); (case g4 => k_is)))
open PySem PySem.W PyProof.Rows
set_option maxRecDepth 100000 in
set_option maxHeartbeats 0 in
theorem PySem.Challenge.cw_rowsbeneath_k18_steps_refused_holds : PySem.Challenge.rw_rowsbeneath_k18_steps_refused.Holds := by
  w_on; o_law; k_head; (case hw => w_witness2)
  k_fill
  refine L2.walk_ofK (l := PySem.Challenge.rw_rowsbeneath_k18_steps_refused) (n := 63) (k := 10) (x := "_law_script") (CX := L2.CX0) (sp := L3.spLaw) rfl (by decide) rfl ⟨rfl, by decide, by decide⟩ (fun w h Y => PySem.W.kIn_of Y) ?F (fun _ _ a ns hl _ hS => ⟨a, ns, rfl, hS, hl, fun _ => rfl⟩) (fun _ _ _ _ z => z)
  case F =>
    intro w mg fa h KX G hmg
    refine' L3.all_mk KX G hmg ?d0 ?d1 ?d2 ?d3 ?d4 ?d5 ?d6 ?d7 ?d8 ?d9 ?d10 ?d11 ?d12 ?d13 ?d14 ?d15 ?d16 ?d17 ?d18 ?d19 ?d20 ?d21 ?d22 ?d23 ?d24 ?d25 ?d26 ?d27 ?d28 ?d29 ?d30 ?d31 ?d32 ?C0 ?I0 ?C1 ?I1 ?C2 ?I2 ?C3 ?I3 ?C4 ?I4 ?C5 ?I5 ?C6 ?I6 ?CT ?IT ?n_HIGHEST_INNER ?n_HIGHEST_WORD ?n_HIGHEST_FIELD ?n_HIGHEST_SELECTED ?n_HIGHEST_ADDRESS ?n_MOST_STEPS ?n_LONGEST_NAME ?n_LETTERS ?n_OW ?q_OW ?n_OF ?q_OF ?n_OPS ?dO ?lo ?xR ?rd ?ri ?mR ?xB ?aB ?iB ?nB ?pB ?mB ?xL ?xK ?xW ?xS ?z_len ?z_int ?z_max ?z_min ?z_range ?z_isinstance ?z_list ?z_str ?z_bool ?z_tuple ?z_all ?z_ValueError
    (case d0 => walk_at "def of the top")
    (case d1 => walk_at "def of the top")
    (case d2 => walk_at "def of the top")
    (case d3 => walk_at "def of the top")
    (case d4 => walk_at "def of the top")
    (case d5 => walk_at "def of the top")
    (case d6 => walk_at "def of the top")
    (case d7 => walk_at "def of the top")
    (case d8 => walk_at "def of the top")
    (case d9 => walk_at "def of the top")
    (case d10 => walk_at "def of the top")
    (case d11 => walk_at "def of the top")
    (case d12 => walk_at "def of the top")
    (case d13 => walk_at "def of the top")
    (case d14 => walk_at "def of the top")
    (case d15 => walk_at "def of the top")
    (case d16 => walk_at "def of the top")
    (case d17 => walk_at "def of the top")
    (case d18 => walk_at "def of the top")
    (case d19 => walk_at "def of the top")
    (case d20 => walk_at "def of the top")
    (case d21 => walk_at "def of the top")
    (case d22 => walk_at "def of the top")
    (case d23 => walk_at "def of the top")
    (case d24 => walk_at "def of the top")
    (case d25 => walk_at "def of the top")
    (case d26 => walk_at "def of the top")
    (case d27 => walk_at "def of the top")
    (case d28 => walk_at "def of the top")
    (case d29 => walk_at "def of the top")
    (case d30 => walk_at "def of the top")
    (case d31 => walk_at "def of the top")
    (case d32 => walk_at "def of the top")
    (case C0 => walk_at "class of steps")
    (case I0 => walk_at "def of a class")
    (case C1 => walk_at "class of steps")
    (case I1 => walk_at "def of a class")
    (case C2 => walk_at "class of steps")
    (case I2 => walk_at "def of a class")
    (case C3 => walk_at "class of steps")
    (case I3 => walk_at "def of a class")
    (case C4 => walk_at "class of steps")
    (case I4 => walk_at "def of a class")
    (case C5 => walk_at "class of steps")
    (case I5 => walk_at "def of a class")
    (case C6 => walk_at "class of steps")
    (case I6 => walk_at "def of a class")
    (case CT => walk_at "class of steps")
    (case IT => walk_at "def of a class")
    (case n_HIGHEST_INNER => k_is)
    (case n_HIGHEST_WORD => k_is)
    (case n_HIGHEST_FIELD => k_is)
    (case n_HIGHEST_SELECTED => k_is)
    (case n_HIGHEST_ADDRESS => k_is)
    (case n_MOST_STEPS => k_is)
    (case n_LONGEST_NAME => k_is)
    (case n_LETTERS => k_is)
    (case n_OW => k_is)
    (case q_OW => refine' L3.sq_own_words ?h; (case h => k_is))
    (case n_OF => k_is)
    (case q_OF => refine' L3.sq_own_faults ?h; (case h => k_is))
    (case n_OPS => k_is)
    (case dO => refine' L3.top_mk ?h; (case h => k_is))
    (case lo => rfl)
    (case xR => walk_at "class of refusals")
    (case rd => k_is)
    (case ri => k_is)
    (case mR => walk_at "def of a class")
    (case xB => walk_at "class of refusals")
    (case aB => k_is)
    (case iB => k_is)
    (case nB => k_is)
    (case pB => k_is)
    (case mB => walk_at "def of a class")
    (case xL => walk_at "class of refusals")
    (case xK => walk_at "class of refusals")
    (case xW => walk_at "class of refusals")
    (case xS => walk_at "class of refusals")
    (case z_len => k_is)
    (case z_int => k_is)
    (case z_max => k_is)
    (case z_min => k_is)
    (case z_range => k_is)
    (case z_isinstance => k_is)
    (case z_list => k_is)
    (case z_str => k_is)
    (case z_bool => k_is)
    (case z_tuple => k_is)
    (case z_all => k_is)
    (case z_ValueError => k_is)
