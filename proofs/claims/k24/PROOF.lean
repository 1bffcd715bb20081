import PyProof.Rows.All
import Wide.All
import OpenK.AllK
import Wide.FinOn
import Lean
import PyProof.EqAt
import PyProof.EqKinds
import PyProof.TupleCall
import PySem.Challenge.RW_rowsbeneath_k24_steps_packed
set_option Elab.async false
set_option linter.all false
set_option maxRecDepth 100000
namespace L2
open PySem PySem.Spec PyProof.Rows
abbrev Key := Sum Int Str
def keyIs : Key → Value → Bool
  | .inl k, v => Value.isInt k v
  | .inr x, v => Value.isStrOf x v
def keyH (w : World) : Key → Int
  | .inl k => hashInt k
  | .inr x => hashStr w x
theorem keyIs_shape : ∀ {k : Key} {v : Value}, keyIs k v = true → (∃ i t, k = Sum.inl i ∧ v = Value.int i t) ∨ (∃ x t, k = Sum.inr x ∧ v = Value.str x t)
  | .inl i, v, h => by
    obtain ⟨t, e⟩ := Value.isInt_shape (k := i) (v := v) h
    exact .inl ⟨i, t, rfl, e⟩
  | .inr x, v, h => by
    obtain ⟨t, e⟩ := Value.isStrOf_shape (x := x) (v := v) h
    exact .inr ⟨x, t, rfl, e⟩
theorem keyIs_int (i : Int) (t : Tok) : keyIs (.inl i) (.int i t) = true := by simp [keyIs, Value.isInt]
theorem keyIs_str (x : Str) (t : Tok) : keyIs (.inr x) (.str x t) = true := by simp [keyIs, Value.isStrOf]
theorem key_ll (a b : Int) : decide ((Sum.inl a : Key) = Sum.inl b) = (a == b) := by
  by_cases e : a = b
  · subst e; simp
  · have h : ¬ (Sum.inl a : Key) = Sum.inl b := fun q => e (Sum.inl.inj q)
    rw [decide_eq_false h]
    exact (beq_eq_false_iff_ne.mpr e).symm
theorem key_rr (a b : Str) : decide ((Sum.inr a : Key) = Sum.inr b) = decide (a = b) := by
  by_cases e : a = b
  · subst e; simp
  · have h : ¬ (Sum.inr a : Key) = Sum.inr b := fun q => e (Sum.inr.inj q)
    rw [decide_eq_false h, decide_eq_false e]
theorem key_lr (a : Int) (b : Str) : decide ((Sum.inl a : Key) = Sum.inr b) = false := decide_eq_false (fun q => nomatch q)
theorem key_rl (a : Str) (b : Int) : decide ((Sum.inr a : Key) = Sum.inl b) = false := decide_eq_false (fun q => nomatch q)
def mixKind (prog : Program) (w : World) : PySem.KeyKind prog w Key where
  is := keyIs
  hash := keyH w
  inj := fun v a b ha hb => by
    rcases keyIs_shape ha with ⟨i, t, rfl, rfl⟩ | ⟨x, t, rfl, rfl⟩
    · rcases keyIs_shape hb with ⟨j, u, rfl, e⟩ | ⟨y, u, rfl, e⟩
      · injection e with e1 _; rw [e1]
      · exact nomatch e
    · rcases keyIs_shape hb with ⟨j, u, rfl, e⟩ | ⟨y, u, rfl, e⟩
      · exact nomatch e
      · injection e with e1 _; rw [e1]
  byValue := fun k v h => by
    rcases keyIs_shape h with ⟨i, t, rfl, rfl⟩ | ⟨x, t, rfl, rfl⟩ <;> rfl
  pyHash := fun hv h => by
    rcases keyIs_shape hv with ⟨i, t, rfl, rfl⟩ | ⟨x, t, rfl, rfl⟩
    · exact wpAny_pyHash_int h
    · exact wpAny_pyHash_str h
  eqBool := fun hu hv h => by
    rcases keyIs_shape hu with ⟨i, t, rfl, rfl⟩ | ⟨x, t, rfl, rfl⟩
    · rcases keyIs_shape hv with ⟨j, u, rfl, rfl⟩ | ⟨y, u, rfl, rfl⟩
      · rw [key_ll] at h; exact wpAny_eqBool_int h
      · rw [key_lr] at h; exact SeqAt.EqAt.int_str i t y u _ _ _ _ h
    · rcases keyIs_shape hv with ⟨j, u, rfl, rfl⟩ | ⟨y, u, rfl, rfl⟩
      · rw [key_rl] at h; exact SeqAt.EqAt.str_int x t j u _ _ _ _ h
      · rw [key_rr] at h; exact wpAny_eqBool_str h
  «strs» := fun k x t v h => by
    rcases keyIs_shape h with ⟨i, u, rfl, e⟩ | ⟨y, u, rfl, e⟩
    · exact nomatch e
    · injection e with e1 _
      subst e1
      cases v <;> rfl
theorem mixKind_int (prog : Program) (w : World) (i : Int) (t : Tok) : (mixKind prog w).is (.inl i) (.int i t) = true := keyIs_int i t
theorem mixKind_str (prog : Program) (w : World) (x : Str) (t : Tok) : (mixKind prog w).is (.inr x) (.str x t) = true := keyIs_str x t
end L2
namespace L2
open PySem PySem.Spec PyProof.Rows
inductive V where
  | non | bl (b : Bool) | int (i : Int) | str (x : Str) | byt (b : Array UInt8) | flt (b : UInt64) | ref (a : Addr) | ty (n : String)
  deriving DecidableEq
def RelV : V → Value → Prop
  | .non, u => u = Value.none
  | .bl b, u => u = Value.bool b
  | .int i, u => ∃ t, u = Value.int i t
  | .str x, u => ∃ t, u = Value.str x t
  | .byt b, u => ∃ t, u = Value.bytes b t
  | .flt b, u => ∃ t, u = Value.float b t
  | .ref a, u => u = Value.ref a
  | .ty n, u => u = Value.type n
abbrev Vals : List V → List Value → Prop := Paired RelV
theorem Vals.length {xs : List V} {us : List Value} (r : Vals xs us) : xs.length = us.length := Paired.length r
theorem Vals.get : ∀ {xs : List V} {us : List Value} {i : Nat} {x : V}, Vals xs us → xs[i]? = some x → ∃ u, us[i]? = some u ∧ RelV x u
  | _, _, _, _, .nil, e => by simp at e
  | _, _, 0, _, .cons r _, e => by simp at e; subst e; exact ⟨_, rfl, r⟩
  | _, _, i + 1, x, .cons _ t, e => by
    obtain ⟨u, h1, h2⟩ := Vals.get (i := i) (x := x) t (by simpa using e)
    exact ⟨u, by simpa using h1, h2⟩
theorem Vals.set {x : V} {u : Value} (r : RelV x u) : ∀ {xs : List V} {us : List Value} (i : Nat), Vals xs us → Vals (xs.set i x) (us.set i u)
  | _, _, _, .nil => .nil
  | _, _, 0, .cons _ t => .cons r t
  | _, _, i + 1, .cons q t => .cons q (Vals.set r i t)
theorem Vals.append : ∀ {xs ys : List V} {us ws : List Value}, Vals xs us → Vals ys ws → Vals (xs ++ ys) (us ++ ws)
  | _, _, _, _, .nil, s => s
  | _, _, _, _, .cons r t, s => .cons r (Vals.append t s)
def RelO : Option V → Option Value → Prop
  | some v, some u => RelV v u
  | none, none => True
  | _, _ => False
def KV {κ : Type} : List (κ × V) → List (κ × Value) → Prop := Paired fun (p : κ × V) (q : κ × Value) => p.1 = q.1 ∧ RelV p.2 q.2
def kV : Key → V
  | .inl i => .int i
  | .inr x => .str x
inductive HO where
  /-- a list -/
  | lst (xs : List V)
  /-- a tuple (never changes) -/
  | tup (xs : List V)
  /-- a dict whose keys are ints and texts; one whose keys are tuples of ints and texts (the empty one is both) -/
  | dK (kvs : List (Key × V)) | dT (kvs : List (List Key × V))
  /-- a set of ints: its members, its size -/
  | set (S : Int → Bool) (n : Nat)
  /-- an instance of the class at C, its dict at dx, its attributes -/
  | ins (C dx : Addr) (fs : List (Str × V))
  /-- the dict of the instance at x -/
  | own (x : Addr)
  /-- the dict of an exception -/
  | xd (fs : List (Str × V))
  /-- a bound method, f of x -/
  | met (f x : Addr)
  /-- a range object lo, lo + 1, .. below hi -/
  | rng (lo hi : Int)
  /-- a thing that is known to the object (the script; a dict while a loop walks it): read, never written while it is so -/
  | frz (o : Obj) (u : HO)
  /-- a code object's table -/
  | tbl (ps : Array Value)
  /-- any other thing, by what is true of its one object (a def of one's own: SetO a S n := HO.ext fun h => ..) -/
  | ext (φ : Heap → Prop)
abbrev Hp := Addr → Option HO
def upd (H : Hp) (a : Addr) (o : HO) : Hp := fun b => if b = a then some o else H b
theorem upd_same {H : Hp} {a : Addr} {o : HO} : upd H a o a = some o := by unfold upd; rw [if_pos rfl]
theorem upd_ne {H : Hp} {a b : Addr} {o : HO} (h : b ≠ a) : upd H a o b = H b := by unfold upd; rw [if_neg h]
theorem ne_of_none {H : Hp} {a b : Addr} {o : HO} (h : H a = some o) (h' : H b = none) : a ≠ b := by
  intro e; subst e; rw [h] at h'; cases h'
def TupP (h : Heap) (a : Addr) (items : Array Value) : Prop := ∃ o, h.get? a = some o ∧ (o.cls, o.dict) = (Value.type "tuple", none) ∧ ∃ n, o.data = Data.seq items n
theorem TupP.up {h : Heap} {a : Addr} {items : Array Value} (p : TupP h a items) : IsTup h a items := let ⟨o, e, c, d⟩ := p; ⟨o, e, (Prod.mk.inj c).1, d⟩
theorem TupP.lt {h : Heap} {a : Addr} {items : Array Value} (p : TupP h a items) : a < h.objs.size := let ⟨_, e, _⟩ := p; Heap.lt_size e
theorem TupP.new (h : Heap) (items : Array Value) : TupP (h.push { cls := .type "tuple", data := .seq items }) h.objs.size items := ⟨_, Heap.get?_push_size _ rfl, rfl, _, rfl⟩
section
variable (P : Program) (w : World)
def ObjOk (H : Hp) (h : Heap) (a : Addr) : HO → Prop
  | .lst xs => xs.length ≤ sizeLine ∧ ∃ (its : List Value) (n : Nat), Vals xs its ∧ h.get? a = some { cls := .type "list", data := .seq its.toArray n }
  | .tup xs => xs.length ≤ sizeLine ∧ ∃ its : List Value, Vals xs its ∧ TupP h a its.toArray
  | .dK kvs => kvs.length ≤ sizeLine ∧ (a == sysModules) = false ∧ ∃ vs, KV kvs vs ∧ h.DictOf (mixKind P w) a vs
  | .dT kvs => kvs.length ≤ sizeLine ∧ (a == sysModules) = false ∧ ∃ xs : List (List Key × Addr × Value),
      Paired (fun (p : List Key × V) (q : List Key × Addr × Value) => p.1 = q.1 ∧ H q.2.1 = some (.tup (p.1.map kV)) ∧ RelV p.2 q.2.2) kvs xs ∧
      ∃ o es ep, h.get? a = some o ∧ o.ExactDict ∧ o.data = .dict es ep ∧ es.toList = xs.map (entryOfKey (tupleKind (mixKind P w))) ∧ (xs.map (·.1)).Nodup
  | .set S n => h.SetOf (intKind P w) a S n
  | .ins C dx fs => H dx = some (.own a) ∧ fs.length ≤ 1000 ∧ dx ≠ a ∧ h.get? a = some (PySem.W.instObj C dx) ∧
      ∃ mA, h.Ns1 dx mA ∧ (∀ f, RelO (fs.lookup f) (mA f)) ∧ PySem.Within mA (fs.map (·.1))
  | .own _ => ∃ o, h.get? a = some o
  | .xd fs => ∃ mA, h.Ns1 a mA ∧ ∀ f, RelO (fs.lookup f) (mA f)
  | .rng lo hi => ∃ t u v, h.get? a = some { cls := .type "range", data := .fields #[.int lo t, .int hi u, .int 1 v] }
  | .frz o u => h.get? a = some o ∧ ObjOk H h a u
  | .tbl ps => h.get? a = some { cls := .none, data := .fields ps }
  | .met f x => h.get? a = some (PySem.W.methodObj (.ref f) (.ref x))
  | .ext φ => φ h ∧ (∃ o, h.get? a = some o) ∧ ∀ h1 h2 : Heap, φ h1 → (∀ o, h1.get? a = some o → h2.get? a = some o) → φ h2
def HOk (H : Hp) (h : Heap) : Prop := ∀ a o, H a = some o → ObjOk P w H h a o
end
section
variable {P : Program} {w : World} {H H' : Hp} {h h' : Heap} {a : Addr} {o : HO}
theorem ObjOk.lt (x : ObjOk P w H h a o) : a < h.objs.size := by
  cases o with
  | lst xs => obtain ⟨_, _, _, _, e⟩ := x; exact Heap.lt_size e
  | tup xs => obtain ⟨_, _, _, p⟩ := x; exact p.lt
  | dK kvs => obtain ⟨_, _, _, _, o, _, _, e, _⟩ := x; exact Heap.lt_size e
  | dT kvs => obtain ⟨_, _, _, _, o, _, _, e, _⟩ := x; exact Heap.lt_size e
  | set S n => obtain ⟨o, _, _, _, e, _⟩ := x; exact Heap.lt_size e
  | ins C dx fs => obtain ⟨_, _, _, e, _⟩ := x; exact Heap.lt_size e
  | own y => obtain ⟨_, e⟩ := x; exact Heap.lt_size e
  | xd fs => obtain ⟨_, ⟨_, _, _, e, _⟩, _⟩ := x; exact Heap.lt_size e
  | rng lo hi => obtain ⟨_, _, _, e⟩ := x; exact Heap.lt_size e
  | frz ob u => obtain ⟨e, _⟩ := x; exact Heap.lt_size e
  | tbl ps => exact Heap.lt_size (show h.get? a = some _ from x)
  | met f y => exact Heap.lt_size (show h.get? a = some _ from x)
  | ext φ => obtain ⟨_, ⟨_, e⟩, _⟩ := x; exact Heap.lt_size e
theorem Paired.mapP {α β : Type} {F G : α → β → Prop} : ∀ {l₁ : List α} {l₂ : List β}, Paired F l₁ l₂ → (∀ a b, F a b → G a b) → Paired G l₁ l₂
  | _, _, .nil, _ => .nil
  | _, _, .cons r t, f => .cons (f _ _ r) (Paired.mapP t f)
theorem ObjOk.stay (x : ObjOk P w H h a o) (k : ∀ b u, (b = a ∨ H b = some (.own a)) → h.get? b = some u → h'.get? b = some u)
    (ho : ∀ b, H b = some (.own a) → H' b = some (.own a)) (ht : ∀ b xs, H b = some (.tup xs) → H' b = some (.tup xs)) : ObjOk P w H' h' a o := by
  induction o with
  | lst xs => obtain ⟨z, its, n, r, e⟩ := x; exact ⟨z, its, n, r, k _ _ (.inl rfl) e⟩
  | tup xs => obtain ⟨z, its, r, ob, e, c⟩ := x; exact ⟨z, its, r, ob, k _ _ (.inl rfl) e, c⟩
  | dK kvs => obtain ⟨z, y, vs, r, ob, es, ep, e, c⟩ := x; exact ⟨z, y, vs, r, ob, es, ep, k _ _ (.inl rfl) e, c⟩
  | dT kvs =>
    obtain ⟨z, y, xs, r, ob, es, ep, e, c⟩ := x
    exact ⟨z, y, xs, Paired.mapP r fun p q z => ⟨z.1, ht _ _ z.2.1, z.2.2⟩, ob, es, ep, k _ _ (.inl rfl) e, c⟩
  | set S n => obtain ⟨ob, es, ep, t, e, c⟩ := x; exact ⟨ob, es, ep, t, k _ _ (.inl rfl) e, c⟩
  | ins C dx fs =>
    obtain ⟨d, z, ne, e, mA, ⟨od, es, ep, e2, c⟩, r⟩ := x
    exact ⟨ho _ d, z, ne, k _ _ (.inl rfl) e, mA, ⟨od, es, ep, k _ _ (.inr d) e2, c⟩, r⟩
  | own y => obtain ⟨ob, e⟩ := x; exact ⟨ob, k _ _ (.inl rfl) e⟩
  | xd fs => obtain ⟨mA, ⟨od, es, ep, e, c⟩, r⟩ := x; exact ⟨mA, ⟨od, es, ep, k _ _ (.inl rfl) e, c⟩, r⟩
  | rng lo hi => obtain ⟨t, u, v, e⟩ := x; exact ⟨t, u, v, k _ _ (.inl rfl) e⟩
  | frz ob u ih => obtain ⟨e, q⟩ := x; exact ⟨k _ _ (.inl rfl) e, ih q⟩
  | tbl ps =>
    have e : h.get? a = some { cls := .none, data := .fields ps } := x
    show h'.get? a = some { cls := .none, data := .fields ps }
    exact k a _ (.inl rfl) e
  | met f y =>
    have e : h.get? a = some (PySem.W.methodObj (.ref f) (.ref y)) := x
    show h'.get? a = some (PySem.W.methodObj (.ref f) (.ref y))
    exact k a _ (.inl rfl) e
  | ext φ => obtain ⟨p, ⟨o, e⟩, st⟩ := x; exact ⟨st _ _ p fun o q => k _ _ (.inl rfl) q, ⟨o, k _ _ (.inl rfl) e⟩, st⟩
theorem HOk.lt (x : HOk P w H h) (e : H a = some o) : a < h.objs.size := (x a o e).lt
theorem HOk.fresh (x : HOk P w H h) (e : h.objs.size ≤ a) : H a = none := by
  cases q : H a with
  | none => rfl
  | some u => exact absurd (Nat.lt_of_lt_of_le (x.lt q) e) (Nat.lt_irrefl _)
theorem HOk.kept (x : HOk P w H h) (k : ∀ b u, h.get? b = some u → h'.get? b = some u) : HOk P w H h' := fun a o e =>
  (x a o e).stay (fun b u _ q => k b u q) (fun _ q => q) fun _ _ q => q
theorem HOk.laid (x : HOk P w H h) (k : ∀ b u, h.get? b = some u → h'.get? b = some u) (hp : h.objs.size ≤ a) (new : ObjOk P w (upd H a o) h' a o) : HOk P w (upd H a o) h' := fun b u e => by
  have hn := x.fresh hp
  by_cases hb : b = a
  · subst hb; rw [upd_same] at e; cases e; exact new
  · rw [upd_ne hb] at e
    exact (x b u e).stay (fun c v _ q => k c v q) (fun c q => by rw [upd_ne (ne_of_none q hn)]; exact q) fun c xs q => by rw [upd_ne (ne_of_none q hn)]; exact q
end
def Rd (H : Hp) (a : Addr) (u : HO) : Prop := H a = some u ∨ ∃ o, H a = some (.frz o u)
theorem Rd.ok {P : Program} {w : World} {H : Hp} {h : Heap} {a : Addr} {u : HO} (r : Rd H a u) (x : HOk P w H h) : ObjOk P w H h a u := by
  rcases r with r | ⟨o, r⟩
  · exact x a u r
  · obtain ⟨_, q⟩ := x a _ r
    exact q
def Mut : Option HO → Prop
  | some (.lst _) => True
  | some (.dK _) => True
  | some (.dT _) => True
  | some (.set _ _) => True
  | some (.ins _ _ _) => True
  | some (.ext _) => True
  | _ => False
section
variable {P : Program} {w : World} {H : Hp} {h h' : Heap} {x e : Addr} {o' : HO}
theorem HOk.write (ok : HOk P w H h) (mu : Mut (H x)) (he : e = x ∨ H e = some (.own x)) (k : ∀ b u, b ≠ e → h.get? b = some u → h'.get? b = some u) (heo : ∃ u, h'.get? e = some u)
    (new : ObjOk P w (upd H x o') h' x o') : HOk P w (upd H x o') h' := fun b u q => by
  have nown : ∀ c y, H c = some (.own y) → c ≠ x := fun c y r z => by subst z; rw [r] at mu; exact mu
  have ntup : ∀ c xs, H c = some (.tup xs) → c ≠ x := fun c xs r z => by subst z; rw [r] at mu; exact mu
  by_cases hb : b = x
  · subst hb; rw [upd_same] at q; cases q; exact new
  · rw [upd_ne hb] at q
    by_cases hbe : b = e
    · have q' : H b = some (.own x) := by
        rcases he with z | z
        · exact absurd (hbe.trans z) hb
        · rw [hbe]; exact z
      rw [q] at q'; cases q'
      obtain ⟨v, hv⟩ := heo
      exact ⟨v, by rw [hbe]; exact hv⟩
    · refine (ok b u q).stay (fun c v hc r => k c v ?_ r) (fun c r => by rw [upd_ne (nown c b r)]; exact r) fun c xs r => by rw [upd_ne (ntup c xs r)]; exact r
      rcases hc with rfl | hc
      · exact hbe
      · rintro rfl
        rcases he with z | z
        · exact nown c b hc z
        · rw [hc] at z; cases z; exact hb rfl
end
structure Un (fs ex : List Addr) (H H' : Hp) (h h' : Heap) : Prop where
  keep : ∀ b o, h.get? b = some o → H b = none → b ∉ fs → b ∉ ex → h'.get? b = some o
  slot : ∀ b o, h.get? b = some o → H b = none → b ∈ fs → b ∉ ex → ∃ sl, h'.get? b = some { o with slots := sl }
  free : ∀ b o, h.get? b = some o → H b = none → b ∉ ex → H' b = none
  there : ∀ b o, h.get? b = some o → b ∉ ex → ∃ o', h'.get? b = some o'
  tups : ∀ b xs, H b = some (.tup xs) → H' b = some (.tup xs)
  frzs : ∀ b o u, H b = some (.frz o u) → H' b = some (.frz o u)
  tbls : ∀ b ps, H b = some (.tbl ps) → ∃ more, H' b = some (.tbl (ps ++ more))
section
variable {fs fs' ex ex' : List Addr} {H H1 H2 : Hp} {h h1 h2 h' : Heap} {a x e : Addr} {o : HO}
theorem Un.any (u : Un fs ex H H1 h h1) {b : Addr} {ob : Obj} (q : h.get? b = some ob) (n : H b = none) (hx : b ∉ ex) : ∃ sl, h1.get? b = some { ob with slots := sl } := by
  by_cases hb : b ∈ fs
  · exact u.slot b ob q n hb hx
  · exact ⟨ob.slots, u.keep b ob q n hb hx⟩
theorem Un.kept (k : ∀ b u, h.get? b = some u → h'.get? b = some u) : Un fs ex H H h h' :=
  ⟨fun b ob q _ _ _ => k b ob q, fun b ob q _ _ _ => ⟨ob.slots, k b ob q⟩, fun _ _ _ n _ => n, fun b ob q _ => ⟨ob, k b ob q⟩, fun _ _ q => q, fun _ _ _ q => q, fun _ ps q => ⟨#[], by rw [q]; simp⟩⟩
theorem Un.refl : Un fs ex H H h h := Un.kept fun _ _ q => q
theorem Un.laid (k : ∀ b u, h.get? b = some u → h'.get? b = some u) (hp : h.objs.size ≤ a) (hn : H a = none) : Un fs ex H (upd H a o) h h' where
  keep := fun b u q _ _ _ => k b u q
  slot := fun b u q _ _ _ => ⟨u.slots, k b u q⟩
  free := fun b u q n _ => by rw [upd_ne (Nat.ne_of_lt (Nat.lt_of_lt_of_le (Heap.lt_size q) hp))]; exact n
  there := fun b u q _ => ⟨u, k b u q⟩
  tups := fun b xs q => by rw [upd_ne (ne_of_none q hn)]; exact q
  frzs := fun b u xs q => by rw [upd_ne (ne_of_none q hn)]; exact q
  tbls := fun b ps q => ⟨#[], by rw [upd_ne (ne_of_none q hn), q]; simp⟩
theorem Un.write (mu : Mut (H x)) (he : e = x ∨ H e = some (.own x)) (k : ∀ b u, b ≠ e → h.get? b = some u → h'.get? b = some u) (heo : ∃ u, h'.get? e = some u) : Un fs ex H (upd H x o) h h' := by
  have hx : ∀ b, H b = none → b ≠ x := fun b n z => by subst z; rw [n] at mu; exact mu
  have hb : ∀ b, H b = none → b ≠ e := fun b n z => by
    subst z
    rcases he with r | r
    · exact hx b n r
    · rw [n] at r; cases r
  have hm : ∀ b u, H b = some u → ¬ Mut (some u) → b ≠ x := fun b u q nm z => by subst z; rw [q] at mu; exact nm mu
  refine ⟨fun b u q n _ _ => k b u (hb b n) q, fun b u q n _ _ => ⟨u.slots, k b u (hb b n) q⟩, fun b u q n _ => by rw [upd_ne (hx b n)]; exact n, fun b u q _ => ?_,
    fun b xs q => by rw [upd_ne (hm b _ q fun z => z)]; exact q, fun b u xs q => by rw [upd_ne (hm b _ q fun z => z)]; exact q, fun b ps q => ⟨#[], by rw [upd_ne (hm b _ q fun z => z), q]; simp⟩⟩
  by_cases hbe : b = e
  · subst hbe; exact heo
  · exact ⟨u, k b u hbe q⟩
end
def trk (h : Heap) (H : Hp) : List Addr := (List.range h.objs.size).filter fun a => (H a).isSome
def hidT (h : Heap) (H : Hp) : Heap := PySem.W.hideAll h (trk h H)
theorem hidT_size (h : Heap) (H : Hp) : (hidT h H).objs.size = h.objs.size := PySem.W.hideAll_size _ _
theorem hidT_get {h : Heap} {H : Hp} {b : Addr} {o : Obj} (e : h.get? b = some o) (n : H b = none) : (hidT h H).get? b = some o :=
  PySem.W.hideAll_get _ e fun hm => by
    have q : (H b).isSome = true := (List.mem_filter.mp hm).2
    rw [n] at q; simp at q
theorem of_hidT {h : Heap} {H : Hp} {b : Addr} {o : Obj} (e : (hidT h H).get? b = some o) : h.get? b = some o ∧ H b = none := by
  have e' : h.get? b = some o := PySem.W.of_hideAll (trk h H) e
  refine ⟨e', ?_⟩
  cases q : H b with
  | none => rfl
  | some x =>
    have hm : b ∈ trk h H := List.mem_filter.mpr ⟨List.mem_range.mpr (Heap.lt_size e'), by simp [q]⟩
    have z : (hidT h H).get? b = none := PySem.W.hideAll_none (trk h H) hm
    rw [z] at e; cases e
end L2
namespace L2
open PySem PySem.Spec PyProof.Rows
structure Mod (K : PySem.W.Frag) (mg : Str → Option Value) (base : Heap) : Prop where
  kin : K.In base
  glob : base.Ns mainGlobals mg
  blt : ∃ mb, base.Ns builtinsNs mb ∧ ∀ x : Str, x ≠ "__name__" → mb x = bootBuiltins x
  nolimit : base.NoLimit
structure Cx where
  prog : Program
  w : World
  K : PySem.W.Frag
  mg : Str → Option Value
  base : Heap
  A : Around
  N : List Str
  s₀ : Shared
  H₀ : Hp
  env : Env
  outer : List Env
  stack : List Env
  ex : List Addr
  fn : Str → Bool
  calm : Bool
  pn : List (Addr × Obj)
  xe : Value → Shared → Prop
def frs (l : List Env) : List Addr := l.filterMap (·.frame)
abbrev Cx.fs (X : Cx) : List Addr := frs X.outer
def Vis (sc : Scope) (x : Str) : Prop := sc.names.lookup x = some .local ∨ sc.names.lookup x = some .cell ∨ sc.names.lookup x = some .free
def Loc (sc : Scope) (x : Str) : Prop := sc.names.lookup x = some .local ∨ sc.names.lookup x = some .cell
def Look (env : Env) (h : Heap) (m : Str → Option Value) (x : Str) (u : Value) : Prop :=
  (env.kindOf x = some .local ∧ m x = some u) ∨ ((env.kindOf x = some .cell ∨ env.kindOf x = some .free) ∧ ∃ c, env.cells.lookup x = some c ∧ h.IsCell c (some u))
structure Cx.Ok (X : Cx) : Prop where
  mod : Mod X.K X.mg X.base
  kind : X.env.scope.kind = .function
  glob : X.env.globals = mainGlobals
  blt : X.env.builtins = builtinsNs
  above : X.s₀.heap.objs.size ≤ X.env.locals
  inj : ∀ x y c, X.env.cells.lookup x = some c → X.env.cells.lookup y = some c → x = y
  has : ∀ x, (X.env.kindOf x = some .cell ∨ X.env.kindOf x = some .free) → ∃ c, X.env.cells.lookup x = some c
  cab : ∀ x c, X.fn x = true → X.env.cells.lookup x = some c → X.s₀.heap.objs.size ≤ c
  hd : X.calm = true → X.A.handled = none
  frames : X.A.frames = some X.stack
  stk : X.stack = X.outer ∨ (X.stack = X.env :: X.outer ∧ X.env.frame = some X.env.locals)
  exf : ∀ b ∈ X.ex, b ≠ X.env.locals ∧ ∀ x c, X.env.cells.lookup x = some c → c ≠ b
  bs : ∀ b o, X.base.get? b = some o → X.s₀.heap.get? b = some o ∧ X.H₀ b = none
  bsz : X.base.objs.size ≤ X.s₀.heap.objs.size
  noex : ∀ b o, X.base.get? b = some o → b ∉ X.ex
  exfs : ∀ b ∈ X.ex, b ∉ X.fs
  funs : X.s₀.heap.FunFrames X.base X.outer
  frf : ∀ b ∈ X.fs, X.H₀ b = none
structure Inv (X : Cx) (pins : List (Addr × Obj)) (σ : List (Option V)) (H : Hp) (s : Shared) : Prop where
  ok : X.Ok
  os : s.os = X.s₀.os
  bare : AllBare s.gens
  base : Un X.fs X.ex X.H₀ H X.s₀.heap s.heap
  loc : ∃ m, s.heap.Ns X.env.locals m ∧ ∀ (i : Nat) (x : Str) (v : V), X.N[i]? = some x → σ[i]? = some (some v) → Vis X.env.scope x → ∃ u, RelV v u ∧ Look X.env s.heap m x u
  cell : ∀ x c, X.env.cells.lookup x = some c → ∃ v, s.heap.IsCell c v
  free : H X.env.locals = none
  freeC : ∀ x c, X.env.cells.lookup x = some c → H c = none
  pin : ∀ p ∈ X.pn ++ pins, s.heap.get? p.1 = some p.2 ∧ H p.1 = none ∧ p.1 ≠ X.env.locals ∧ p.1 ∉ X.fs ∧ ∀ v, p.2.data ≠ .cell v
  hok : HOk X.prog X.w H s.heap
  len : σ.length = X.N.length
section
variable {X : Cx} {pins : List (Addr × Obj)} {σ : List (Option V)} {H H' : Hp} {s : Shared} {h' : Heap}
theorem Cx.Ok.nofr (ok : X.Ok) {b : Addr} {o : Obj} (e : X.base.get? b = some o) : b ∉ X.fs := fun hb => by
  have := (ok.funs.mem hb).1
  rw [e] at this; cases this
theorem Inv.bs (I : Inv X pins σ H s) : ∀ b o, X.base.get? b = some o → s.heap.get? b = some o ∧ H b = none := fun b o e =>
  ⟨I.base.keep b o (I.ok.bs b o e).1 (I.ok.bs b o e).2 (I.ok.nofr e) (I.ok.noex b o e), I.base.free b o (I.ok.bs b o e).1 (I.ok.bs b o e).2 (I.ok.noex b o e)⟩
theorem Inv.bk (I : Inv X pins σ H s) : ∀ b o, X.base.get? b = some o → s.heap.get? b = some o := fun b o e => (I.bs b o e).1
theorem Inv.mod (I : Inv X pins σ H s) : Mod X.K X.mg X.base := I.ok.mod
theorem Inv.kIn (I : Inv X pins σ H s) : X.K.In s.heap := I.ok.mod.kin.keeps I.bk
theorem Inv.lt (I : Inv X pins σ H s) : X.env.locals < s.heap.objs.size := let ⟨_, hn, _⟩ := I.loc; hn.lt
theorem Inv.sz (I : Inv X pins σ H s) : X.s₀.heap.objs.size ≤ s.heap.objs.size := Nat.le_trans I.ok.above (Nat.le_of_lt I.lt)
theorem Inv.nofs (I : Inv X pins σ H s) {a : Addr} (h : s.heap.objs.size ≤ a) : a ∉ X.fs := fun hb => by
  obtain ⟨_, o, ho, _⟩ := I.ok.funs.mem hb
  exact absurd (Nat.lt_of_lt_of_le (Heap.lt_size ho) (Nat.le_trans I.sz h)) (Nat.lt_irrefl _)
theorem Inv.cne (I : Inv X pins σ H s) : ∀ x c, X.env.cells.lookup x = some c → c ≠ X.env.locals := fun x c e z => by
  obtain ⟨v, o, ho, hd⟩ := I.cell x c e
  obtain ⟨m, ⟨o', es, ep, ho', hd', _⟩, _⟩ := I.loc
  rw [z, ho'] at ho; cases ho; rw [hd'] at hd; cases hd
theorem Inv.funs (I : Inv X pins σ H s) : s.heap.FunFrames X.base X.outer := by
  have all : ∀ (l : List Env), (∀ b ∈ frs l, b ∈ X.fs) → X.s₀.heap.FunFrames X.base l → s.heap.FunFrames X.base l := by
    intro l
    induction l with
    | nil => intro _ _; trivial
    | cons env r ih =>
      intro hs hl
      obtain ⟨hk, ⟨L, o, hf, hn, ho, hd⟩, hr⟩ := hl
      have hL : L ∈ X.fs := hs L (by unfold frs; rw [List.filterMap_cons, hf]; exact List.mem_cons_self)
      obtain ⟨sl, e⟩ := I.base.slot L o ho (I.ok.frf L hL) hL fun z => I.ok.exfs L z hL
      exact ⟨hk, ⟨L, _, hf, hn, e, hd⟩, ih (fun b hb => hs b (by unfold frs; rw [List.filterMap_cons, hf]; exact List.mem_cons_of_mem _ hb)) hr⟩
  exact all X.outer (fun _ hb => hb) I.ok.funs
theorem Inv.stack (I : Inv X pins σ H s) : s.heap.FunFrames X.base X.stack := by
  rcases I.ok.stk with e | ⟨e, hf⟩
  · rw [e]; exact I.funs
  · rw [e]
    obtain ⟨m, hn, _⟩ := I.loc
    refine .cons (by rw [I.ok.kind]; decide) hf hn ?_ I.funs
    exact Heap.get?_none_of_le (Nat.le_trans I.ok.bsz I.ok.above)
theorem Inv.stkSub (I : Inv X pins σ H s) : ∀ b ∈ frs X.stack, b ∈ X.env.locals :: X.fs := fun b hb => by
  rcases I.ok.stk with e | ⟨e, hf⟩
  · rw [e] at hb; exact List.mem_cons_of_mem _ hb
  · rw [e] at hb
    unfold frs at hb
    rw [List.filterMap_cons, hf] at hb
    exact hb
theorem Inv.stkFree (I : Inv X pins σ H s) : ∀ b ∈ frs X.stack, H b = none := fun b hb => by
  rcases List.mem_cons.mp (I.stkSub b hb) with e | hb
  · rw [e]; exact I.free
  · obtain ⟨_, o, ho, _⟩ := I.ok.funs.mem hb
    exact I.base.free b o ho (I.ok.frf b hb) fun z => I.ok.exfs b z hb
theorem Inv.step {g' : Array GenState} {t' : Nat} {d' : Drawn} {ch : List Addr} (I : Inv X pins σ H s)
    (hch : ∀ b ∈ ch, (b ∈ X.ex ∨ X.s₀.heap.objs.size ≤ b) ∧ b ≠ X.env.locals ∧ (∀ x c, X.env.cells.lookup x = some c → c ≠ b) ∧ ∀ p ∈ X.pn ++ pins, p.1 ≠ b)
    (keep : ∀ b o, b ≠ X.env.locals → b ∉ X.fs → b ∉ ch → s.heap.get? b = some o → H b = none → h'.get? b = some o)
    (slot : ∀ b o, b ≠ X.env.locals → b ∈ X.fs → b ∉ ch → s.heap.get? b = some o → H b = none → ∃ sl, h'.get? b = some { o with slots := sl }) (free : ∀ b o, b ∉ ch → s.heap.get? b = some o → H b = none → H' b = none)
    (there : ∀ b o, b ∉ ch → s.heap.get? b = some o → ∃ o', h'.get? b = some o')
    (tups : ∀ b xs, H b = some (.tup xs) → H' b = some (.tup xs)) (frzs : ∀ b o u, H b = some (.frz o u) → H' b = some (.frz o u)) (tbls : ∀ b ps, H b = some (.tbl ps) → ∃ more, H' b = some (.tbl (ps ++ more)))
    (ns : ∀ m, s.heap.Ns X.env.locals m → h'.Ns X.env.locals m) (hok : HOk X.prog X.w H' h') (hg : AllBare g') :
    Inv X pins σ H' { s with heap := h', gens := g', drawn := d', toks := t' } := by
  have neL : ∀ b o, X.s₀.heap.get? b = some o → b ≠ X.env.locals := fun b o e => Nat.ne_of_lt (Nat.lt_of_lt_of_le (Heap.lt_size e) I.ok.above)
  have neC : ∀ b o, X.s₀.heap.get? b = some o → b ∉ X.ex → b ∉ ch := fun b o e hx hb => by
    rcases (hch b hb).1 with z | z
    · exact hx z
    · exact absurd (Nat.lt_of_lt_of_le (Heap.lt_size e) z) (Nat.lt_irrefl _)
  have cellK : ∀ x c, X.env.cells.lookup x = some c → ∀ v, s.heap.IsCell c v → h'.IsCell c v := fun x c e v ⟨o, ho, hd⟩ => by
    have nch : c ∉ ch := fun z => (hch c z).2.2.1 x c e rfl
    by_cases hc : c ∈ X.fs
    · obtain ⟨sl, q⟩ := slot c o (I.cne x c e) hc nch ho (I.freeC x c e)
      exact ⟨_, q, hd⟩
    · exact ⟨o, keep c o (I.cne x c e) hc nch ho (I.freeC x c e), hd⟩
  refine ⟨I.ok, I.os, hg, ⟨fun b o e n hb hx => ?_, fun b o e n hb hx => ?_, fun b o e n hx => ?_, fun b o e hx => ?_, fun b xs e => tups b xs (I.base.tups b xs e), fun b o xs e => frzs b o xs (I.base.frzs b o xs e), fun b ps e => ?_⟩, ?_, fun x c e => ?_, ?_, fun x c e => ?_, fun p hp => ?_, hok, I.len⟩
  · exact keep b o (neL b o e) hb (neC b o e hx) (I.base.keep b o e n hb hx) (I.base.free b o e n hx)
  · obtain ⟨sl, e1⟩ := I.base.slot b o e n hb hx
    obtain ⟨sl', e2⟩ := slot b _ (neL b o e) hb (neC b o e hx) e1 (I.base.free b o e n hx)
    exact ⟨sl', e2⟩
  · obtain ⟨o', e1⟩ := I.base.there b o e hx
    exact free b o' (neC b o e hx) e1 (I.base.free b o e n hx)
  · obtain ⟨o', e1⟩ := I.base.there b o e hx
    exact there b o' (neC b o e hx) e1
  · obtain ⟨m1, e1⟩ := I.base.tbls b ps e
    obtain ⟨m2, e2⟩ := tbls b _ e1
    exact ⟨m1 ++ m2, by rw [e2, Array.append_assoc]⟩
  · obtain ⟨m, hn, hl⟩ := I.loc
    refine ⟨m, ns m hn, fun i x v e1 e2 e3 => ?_⟩
    obtain ⟨u, r, l⟩ := hl i x v e1 e2 e3
    refine ⟨u, r, ?_⟩
    rcases l with l | ⟨k, c, e, z⟩
    · exact .inl l
    · exact .inr ⟨k, c, e, cellK x c e _ z⟩
  · obtain ⟨v, z⟩ := I.cell x c e
    exact ⟨v, cellK x c e v z⟩
  · obtain ⟨m, ⟨o, _, _, ho, _⟩, _⟩ := I.loc
    exact free _ o (fun z => (hch _ z).2.1 rfl) ho I.free
  · obtain ⟨v, o, ho, hd⟩ := I.cell x c e
    exact free c o (fun z => (hch c z).2.2.1 x c e rfl) ho (I.freeC x c e)
  · obtain ⟨e, n, ne, nf, d⟩ := I.pin p hp
    have nch : p.1 ∉ ch := fun z => (hch p.1 z).2.2.2 p hp rfl
    exact ⟨keep p.1 p.2 ne nf nch e n, free p.1 p.2 nch e n, ne, nf, d⟩
theorem Inv.un {t' : Nat} (I : Inv X pins σ H s) (u : Un X.fs [] H H' s.heap h') (hok : HOk X.prog X.w H' h') : Inv X pins σ H' { s with heap := h', toks := t' } := by
  obtain ⟨m, ⟨o, es, ep, ho, r⟩, _⟩ := id I.loc
  obtain ⟨sl, hL⟩ := u.any ho I.free (by simp)
  exact I.step (g' := s.gens) (d' := s.drawn) (ch := []) (fun _ z => nomatch z) (fun b o _ hb _ e n => u.keep b o e n hb (by simp)) (fun b o _ hb _ e n => u.slot b o e n hb (by simp)) (fun b o _ e n => u.free b o e n (by simp)) (fun b o _ e => u.there b o e (by simp)) u.tups u.frzs u.tbls (fun m' hm => by
    obtain ⟨o', es', ep', ho', r'⟩ := hm
    rw [ho] at ho'; cases ho'
    exact ⟨_, es', ep', hL, r'⟩) hok I.bare
theorem Inv.call {g' : Array GenState} {t' : Nat} {d' : Drawn} {ch : List Addr} (I : Inv X pins σ H s) (u : Un (frs X.stack) ch H H' s.heap h') (hok : HOk X.prog X.w H' h') (hg : AllBare g')
    (hch : ∀ b ∈ ch, (b ∈ X.ex ∨ X.s₀.heap.objs.size ≤ b) ∧ b ≠ X.env.locals ∧ (∀ x c, X.env.cells.lookup x = some c → c ≠ b) ∧ ∀ p ∈ X.pn ++ pins, p.1 ≠ b) :
    Inv X pins σ H' { s with heap := h', gens := g', drawn := d', toks := t' } := by
  obtain ⟨m, ⟨o, es, ep, ho, r⟩, _⟩ := id I.loc
  obtain ⟨sl, hL⟩ := u.any ho I.free fun z => (hch _ z).2.1 rfl
  exact I.step (ch := ch) hch (fun b o hL hb hc e n => u.keep b o e n (fun z => (List.mem_cons.mp (I.stkSub b z)).elim hL hb) hc) (fun b o _ _ hc e n => u.any e n hc) (fun b o hc e n => u.free b o e n hc) (fun b o hc e => u.there b o e hc) u.tups u.frzs u.tbls (fun m' hm => by
    obtain ⟨o', es', ep', ho', r'⟩ := hm
    rw [ho] at ho'; cases ho'
    exact ⟨_, es', ep', hL, r'⟩) hok hg
theorem Inv.turned {t' : Nat} {it : Addr} (I : Inv X pins σ H s) (k : ∀ b o, b ≠ it → s.heap.get? b = some o → h'.get? b = some o) (hn : H it = none) (hL : it ≠ X.env.locals)
    (h1 : it ∈ X.ex ∨ X.s₀.heap.objs.size ≤ it) (h2 : ∀ x c, X.env.cells.lookup x = some c → c ≠ it) (h3 : ∀ p ∈ X.pn ++ pins, p.1 ≠ it) : Inv X pins σ H { s with heap := h', toks := t' } := by
  have nit : ∀ b u, H b = some u → b ≠ it := fun b u e z => by rw [z, hn] at e; cases e
  refine I.step (g' := s.gens) (d' := s.drawn) (ch := [it]) (fun b hb => ?_) (fun b o _ _ hc e _ => k b o (fun z => hc (by simp [z])) e) (fun b o _ _ hc e _ => ⟨o.slots, k b o (fun z => hc (by simp [z])) e⟩) (fun _ _ _ _ n => n)
    (fun b o hc e => ⟨o, k b o (fun z => hc (by simp [z])) e⟩) (fun _ _ e => e) (fun _ _ _ e => e) (fun b ps e => ⟨#[], by rw [e]; simp⟩) (fun m hm => ?_) (fun b u e => ?_) I.bare
  · have e : b = it := by simpa using hb
    subst e
    exact ⟨h1, hL, h2, h3⟩
  · obtain ⟨o, es, ep, ho, r⟩ := hm
    exact ⟨o, es, ep, k _ o (Ne.symm hL) ho, r⟩
  · refine (I.hok b u e).stay (fun c v hc q => k c v ?_ q) (fun _ q => q) fun _ _ q => q
    rcases hc with z | z
    · rw [z]; exact nit b u e
    · exact nit c _ z
theorem Inv.tok (I : Inv X pins σ H s) (t : Nat) : Inv X pins σ H { s with toks := t } := I.un (h' := s.heap) (t' := t) Un.refl I.hok
theorem Inv.kept {t' : Nat} (I : Inv X pins σ H s) (k : ∀ b u, s.heap.get? b = some u → h'.get? b = some u) : Inv X pins σ H { s with heap := h', toks := t' } := I.un (Un.kept k) (I.hok.kept k)
theorem Inv.laid {a : Addr} {o : HO} {t' : Nat} (I : Inv X pins σ H s) (k : ∀ b u, s.heap.get? b = some u → h'.get? b = some u) (hp : s.heap.objs.size ≤ a) (new : ObjOk X.prog X.w (upd H a o) h' a o) :
    Inv X pins σ (upd H a o) { s with heap := h', toks := t' } := I.un (Un.laid k hp (I.hok.fresh hp)) (I.hok.laid k hp new)
theorem Inv.write {x e : Addr} {o : HO} {t' : Nat} (I : Inv X pins σ H s) (mu : Mut (H x)) (he : e = x ∨ H e = some (.own x)) (k : ∀ b u, b ≠ e → s.heap.get? b = some u → h'.get? b = some u) (heo : ∃ u, h'.get? e = some u)
    (new : ObjOk X.prog X.w (upd H x o) h' x o) : Inv X pins σ (upd H x o) { s with heap := h', toks := t' } := I.un (Un.write mu he k heo) (I.hok.write mu he k heo new)
theorem Inv.weak {σ' : List (Option V)} (I : Inv X pins σ H s) (hl : σ'.length = σ.length) (w : ∀ (i : Nat) v, σ'[i]? = some (some v) → σ[i]? = some (some v)) : Inv X pins σ' H s :=
  ⟨I.ok, I.os, I.bare, I.base, let ⟨m, hn, hl'⟩ := I.loc; ⟨m, hn, fun i x v e1 e2 e3 => hl' i x v e1 (w i v e2) e3⟩, I.cell, I.free, I.freeC, I.pin, I.hok, hl.trans I.len⟩
theorem Inv.pins_of {pins' : List (Addr × Obj)} (I : Inv X pins σ H s) (h : ∀ p ∈ pins', s.heap.get? p.1 = some p.2 ∧ H p.1 = none ∧ p.1 ≠ X.env.locals ∧ p.1 ∉ X.fs ∧ ∀ v, p.2.data ≠ .cell v) : Inv X pins' σ H s :=
  ⟨I.ok, I.os, I.bare, I.base, I.loc, I.cell, I.free, I.freeC, fun p hp => (List.mem_append.mp hp).elim (fun z => I.pin p (List.mem_append_left _ z)) (h p), I.hok, I.len⟩
theorem nodup_ix {N : List Str} (hN : N.Nodup) {i j : Nat} {x : Str} (a : N[i]? = some x) (b : N[j]? = some x) : i = j := by
  obtain ⟨h1, e1⟩ := List.getElem?_eq_some_iff.mp a
  obtain ⟨h2, e2⟩ := List.getElem?_eq_some_iff.mp b
  exact (List.getElem_inj hN).mp (e1.trans e2.symm)
theorem store_ok2 {M : Model} {A : Around} {E : Value → Shared → Prop} {i : Nat} {x : Str} {v : V} {u : Value} {Q : Unit → Shared → Prop} (I : Inv X pins σ H s) (hN : X.N.Nodup) (hi : X.N[i]? = some x) (hx : Loc X.env.scope x) (r : RelV v u)
    (h : ∀ s', Inv X pins (σ.set i (some v)) H s' → (∃ a, Heap.SameBut a s.heap s'.heap ∧ (a = X.env.locals ∨ X.env.cells.lookup x = some a)) → Q () s') (hf : X.fn x = true ∨ X.env.scope.names.lookup x = some .local := by first | exact .inl rfl | exact .inr rfl | assumption) : wpAny M A (storeName X.env x u) Q E s := by
  obtain ⟨m, hn, hl⟩ := id I.loc
  have hcls : (X.env.scope.kind == .class || (X.env.scope.kind == .module && X.env.locals != X.env.globals)) = false := by rw [I.ok.kind]; rfl
  have hiσ : i < σ.length := by rw [I.len]; exact (List.getElem?_eq_some_iff.mp hi).1
  have cne := I.cne
  have tracked : ∀ {a : Addr} {h' : Heap}, (∃ o, s.heap.get? a = some o ∧ H a = none) → Heap.SameBut a s.heap h' → HOk X.prog X.w H h' := fun {a h'} ha hs b ob e => by
    obtain ⟨_, _, hfree⟩ := ha
    refine (I.hok b ob e).stay (fun c w' hc q => (hs.2 c ?_).trans q) (fun _ q => q) fun _ _ q => q
    rintro rfl
    rcases hc with rfl | hc
    · rw [hfree] at e; cases e
    · rw [hfree] at hc; cases hc
  rcases hx with hk | hk
  · refine wpAny_storeName_local hk hn (fun h' hn' hs => ?_) hcls
    obtain ⟨oL, _, _, hoL, _⟩ := id hn
    refine h _ ⟨I.ok, I.os, I.bare, ⟨fun b o e n hb hx => ?_, fun b o e n hb hx => ?_, I.base.free, fun b o e hx => ?_, I.base.tups, I.base.frzs, I.base.tbls⟩, ⟨_, hn', fun j y v' e1 e2 e3 => ?_⟩, fun y c e => ?_, I.free, I.freeC, fun p hp => ?_, tracked ⟨oL, hoL, I.free⟩ hs, by simpa using I.len⟩ ⟨_, hs, .inl rfl⟩
    · exact (hs.2 b (Nat.ne_of_lt (Nat.lt_of_lt_of_le (Heap.lt_size e) I.ok.above))).trans (I.base.keep b o e n hb hx)
    · obtain ⟨sl, e1⟩ := I.base.slot b o e n hb hx
      exact ⟨sl, (hs.2 b (Nat.ne_of_lt (Nat.lt_of_lt_of_le (Heap.lt_size e) I.ok.above))).trans e1⟩
    · obtain ⟨o', e1⟩ := I.base.there b o e hx
      exact ⟨o', (hs.2 b (Nat.ne_of_lt (Nat.lt_of_lt_of_le (Heap.lt_size e) I.ok.above))).trans e1⟩
    · by_cases hj : j = i
      · subst hj
        rw [hi] at e1; cases e1
        rw [List.getElem?_set_self hiσ] at e2
        cases e2
        exact ⟨u, r, .inl ⟨hk, by simp⟩⟩
      · rw [List.getElem?_set_ne (Ne.symm hj)] at e2
        obtain ⟨u', r', q⟩ := hl j y v' e1 e2 e3
        refine ⟨u', r', ?_⟩
        rcases q with ⟨k, e⟩ | ⟨k, c, e, z⟩
        · refine .inl ⟨k, ?_⟩
          have : y ≠ x := fun e => hj (nodup_ix hN e1 (e ▸ hi))
          simp [this, e]
        · exact .inr ⟨k, c, e, z.sameBut hs (cne y c e)⟩
    · obtain ⟨w', z⟩ := I.cell y c e
      exact ⟨w', z.sameBut hs (cne y c e)⟩
    · obtain ⟨e, n, ne, nf, d⟩ := I.pin p hp
      exact ⟨(hs.2 p.1 ne).trans e, n, ne, nf, d⟩
  · have hfn : X.fn x = true := by
      rcases hf with z | z
      · exact z
      · rw [z] at hk; cases hk
    obtain ⟨c, hc⟩ := I.ok.has x (.inl hk)
    obtain ⟨w', z⟩ := I.cell x c hc
    refine wpAny_storeName_cell I.ok.kind hk hc z (fun h' hc' hs => ?_)
    obtain ⟨oc, hoc, hocd⟩ := id z
    refine h { s with heap := h' } ⟨I.ok, I.os, I.bare, ⟨fun b o e n hb hx => ?_, fun b o e n hb hx => ?_, I.base.free, fun b o e hx => ?_, I.base.tups, I.base.frzs, I.base.tbls⟩, ⟨m, hn.sameBut hs (Ne.symm (cne x c hc)), fun j y v' e1 e2 e3 => ?_⟩, fun y c' e => ?_, I.free, I.freeC, fun p hp => ?_, tracked ⟨oc, hoc, I.freeC x c hc⟩ hs, by simpa using I.len⟩ ⟨c, hs, .inr hc⟩
    · exact (hs.2 b (Nat.ne_of_lt (Nat.lt_of_lt_of_le (Heap.lt_size e) (I.ok.cab x c hfn hc)))).trans (I.base.keep b o e n hb hx)
    · obtain ⟨sl, e1⟩ := I.base.slot b o e n hb hx
      exact ⟨sl, (hs.2 b (Nat.ne_of_lt (Nat.lt_of_lt_of_le (Heap.lt_size e) (I.ok.cab x c hfn hc)))).trans e1⟩
    · obtain ⟨o', e1⟩ := I.base.there b o e hx
      exact ⟨o', (hs.2 b (Nat.ne_of_lt (Nat.lt_of_lt_of_le (Heap.lt_size e) (I.ok.cab x c hfn hc)))).trans e1⟩
    · by_cases hj : j = i
      · subst hj
        rw [hi] at e1; cases e1
        rw [List.getElem?_set_self hiσ] at e2
        cases e2
        exact ⟨u, r, .inr ⟨.inl hk, c, hc, hc'⟩⟩
      · rw [List.getElem?_set_ne (Ne.symm hj)] at e2
        obtain ⟨u', r', q⟩ := hl j y v' e1 e2 e3
        refine ⟨u', r', ?_⟩
        rcases q with q | ⟨k, c', e, z'⟩
        · exact .inl q
        · refine .inr ⟨k, c', e, z'.sameBut hs ?_⟩
          rintro rfl
          exact hj (nodup_ix hN e1 (I.ok.inj _ _ _ e hc ▸ hi))
    · by_cases hcc : c' = c
      · subst hcc; exact ⟨_, hc'⟩
      · obtain ⟨w2, z2⟩ := I.cell y c' e
        exact ⟨w2, z2.sameBut hs hcc⟩
    · obtain ⟨e, n, ne, nf, d⟩ := I.pin p hp
      refine ⟨(hs.2 p.1 ?_).trans e, n, ne, nf, d⟩
      intro q
      rw [q, hoc] at e
      have q' : oc = p.2 := Option.some.inj e
      exact d w' (by rw [← q']; exact hocd)
theorem store_ok {M : Model} {A : Around} {E : Value → Shared → Prop} {i : Nat} {x : Str} {v : V} {u : Value} {Q : Unit → Shared → Prop} (I : Inv X pins σ H s) (hN : X.N.Nodup) (hi : X.N[i]? = some x) (hx : Loc X.env.scope x) (r : RelV v u)
    (h : ∀ s', Inv X pins (σ.set i (some v)) H s' → Q () s') (hf : X.fn x = true ∨ X.env.scope.names.lookup x = some .local := by first | exact .inl rfl | exact .inr rfl | assumption) : wpAny M A (storeName X.env x u) Q E s :=
  store_ok2 I hN hi hx r (fun s' I' _ => h s' I') hf
theorem Inv.call' {s' : Shared} {ch : List Addr} (I : Inv X pins σ H s) (ho : s'.os = s.os) (u : Un (frs X.stack) ch H H' s.heap s'.heap) (hok : HOk X.prog X.w H' s'.heap) (hg : AllBare s'.gens)
    (hch : ∀ b ∈ ch, (b ∈ X.ex ∨ X.s₀.heap.objs.size ≤ b) ∧ b ≠ X.env.locals ∧ (∀ x c, X.env.cells.lookup x = some c → c ≠ b) ∧ ∀ p ∈ X.pn ++ pins, p.1 ≠ b) : Inv X pins σ H' s' := by
  obtain ⟨h', g', d', t', o'⟩ := s'
  have e : o' = s.os := ho
  subst e
  exact I.call (g' := g') (t' := t') (d' := d') u hok hg hch
end
abbrev XK := Value → Option Addr → Hp → Prop
abbrev St := List (Option V)
abbrev VK := V → Hp → Prop
abbrev TE := St → Hp → VK → Prop
abbrev TT := St → Hp → (Bool → Hp → Prop) → Prop
abbrev TA := St → Hp → (List V → Hp → Prop) → Prop
structure Ends where
  nx : St → Hp → Prop
  rt : VK
  bk : St → Hp → Prop := fun _ _ => False
  ct : St → Hp → Prop := fun _ _ => False
abbrev TS := Ends → St → Hp → Prop
inductive EP (X : Cx) (pins : List (Addr × Obj)) (σ : St) (Q : VK) (u : Value) (s' : Shared) : Prop
  | mk (v H' : _) : Inv X pins σ H' s' → RelV v u → Q v H' → EP X pins σ Q u s'
def TP (X : Cx) (pins : List (Addr × Obj)) (σ : St) (Q : Bool → Hp → Prop) (b : Bool) (s' : Shared) : Prop := ∃ H', Inv X pins σ H' s' ∧ Q b H'
inductive AP (X : Cx) (pins : List (Addr × Obj)) (σ : St) (Q : List V → Hp → Prop) (us : List Value) (s' : Shared) : Prop
  | mk (vs H' : _) : Inv X pins σ H' s' → Vals vs us → Q vs H' → AP X pins σ Q us s'
def SP (X : Cx) (pins : List (Addr × Obj)) (D : Ends) (f : Flow) (s' : Shared) : Prop :=
  match f with
  | .next => ∃ σ' H', Inv X pins σ' H' s' ∧ D.nx σ' H'
  | .brk => ∃ σ' H', Inv X pins σ' H' s' ∧ D.bk σ' H'
  | .cont => ∃ σ' H', Inv X pins σ' H' s' ∧ D.ct σ' H'
  | .ret u => ∃ v σ' H', Inv X pins σ' H' s' ∧ RelV v u ∧ D.rt v H'
structure PE (X : Cx) (e : Expr) (t : TE) : Prop where
  run : ∀ (pins : List (Addr × Obj)) (s : Shared) (σ : St) (H : Hp) (Q : VK), Inv X pins σ H s → t σ H Q → wpAny (model X.prog X.w) X.A (eval e X.env) (EP X pins σ Q) X.xe s
instance {X : Cx} {e : Expr} {t : TE} : CoeFun (PE X e t) fun _ => ∀ (pins : List (Addr × Obj)) (s : Shared) (σ : St) (H : Hp) (Q : VK), Inv X pins σ H s → t σ H Q → wpAny (model X.prog X.w) X.A (eval e X.env) (EP X pins σ Q) X.xe s := ⟨PE.run⟩
structure PT (X : Cx) (e : Expr) (t : TT) : Prop where
  run : ∀ (pins : List (Addr × Obj)) (s : Shared) (σ : St) (H : Hp) (Q : Bool → Hp → Prop), Inv X pins σ H s → t σ H Q → wpAny (model X.prog X.w) X.A (isTrue e X.env (eval e X.env)) (TP X pins σ Q) X.xe s
instance {X : Cx} {e : Expr} {t : TT} : CoeFun (PT X e t) fun _ => ∀ (pins : List (Addr × Obj)) (s : Shared) (σ : St) (H : Hp) (Q : Bool → Hp → Prop), Inv X pins σ H s → t σ H Q → wpAny (model X.prog X.w) X.A (isTrue e X.env (eval e X.env)) (TP X pins σ Q) X.xe s := ⟨PT.run⟩
structure PW (X : Cx) (e : Expr) (t : TT) : Prop where
  run : ∀ (whole : Sem Value) (pins : List (Addr × Obj)) (s : Shared) (σ : St) (H : Hp) (Q : Bool → Hp → Prop), Inv X pins σ H s → t σ H Q → wpAny (model X.prog X.w) X.A (isTrue e X.env whole) (TP X pins σ Q) X.xe s
instance {X : Cx} {e : Expr} {t : TT} : CoeFun (PW X e t) fun _ => ∀ (whole : Sem Value) (pins : List (Addr × Obj)) (s : Shared) (σ : St) (H : Hp) (Q : Bool → Hp → Prop), Inv X pins σ H s → t σ H Q → wpAny (model X.prog X.w) X.A (isTrue e X.env whole) (TP X pins σ Q) X.xe s := ⟨PW.run⟩
theorem PW.pt {X : Cx} {e : Expr} {t : TT} (h : PW X e t) : PT X e t := ⟨fun pins s σ H Q I q => h _ pins s σ H Q I q⟩
structure PA (X : Cx) (es : List Expr) (t : TA) : Prop where
  run : ∀ (pos : Pos) (pins : List (Addr × Obj)) (s : Shared) (σ : St) (H : Hp) (Q : List V → Hp → Prop), Inv X pins σ H s → t σ H Q → wpAny (model X.prog X.w) X.A (spliced (backTo pos (starEach es X.env))) (AP X pins σ Q) X.xe s
instance {X : Cx} {es : List Expr} {t : TA} : CoeFun (PA X es t) fun _ => ∀ (pos : Pos) (pins : List (Addr × Obj)) (s : Shared) (σ : St) (H : Hp) (Q : List V → Hp → Prop), Inv X pins σ H s → t σ H Q → wpAny (model X.prog X.w) X.A (spliced (backTo pos (starEach es X.env))) (AP X pins σ Q) X.xe s := ⟨PA.run⟩
structure PS (X : Cx) (st : Stmt) (t : TS) : Prop where
  run : ∀ (pins : List (Addr × Obj)) (s : Shared) (σ : St) (H : Hp) (D : Ends), Inv X pins σ H s → t D σ H → wpAny (model X.prog X.w) X.A (exec st X.env) (SP X pins D) X.xe s
instance {X : Cx} {st : Stmt} {t : TS} : CoeFun (PS X st t) fun _ => ∀ (pins : List (Addr × Obj)) (s : Shared) (σ : St) (H : Hp) (D : Ends), Inv X pins σ H s → t D σ H → wpAny (model X.prog X.w) X.A (exec st X.env) (SP X pins D) X.xe s := ⟨PS.run⟩
structure PSs (X : Cx) (st : List Stmt) (t : TS) : Prop where
  run : ∀ (pins : List (Addr × Obj)) (s : Shared) (σ : St) (H : Hp) (D : Ends), Inv X pins σ H s → t D σ H → wpAny (model X.prog X.w) X.A (execs st X.env) (SP X pins D) X.xe s
instance {X : Cx} {st : List Stmt} {t : TS} : CoeFun (PSs X st t) fun _ => ∀ (pins : List (Addr × Obj)) (s : Shared) (σ : St) (H : Hp) (D : Ends), Inv X pins σ H s → t D σ H → wpAny (model X.prog X.w) X.A (execs st X.env) (SP X pins D) X.xe s := ⟨PSs.run⟩
theorem thn {α : Type} {t : Sem α} {Q Q' : α → Shared → Prop} {M : Model} {A : Around} {E : Value → Shared → Prop} {s : Shared} (h : wpAny M A t Q E s) (hQ : ∀ a s, Q a s → Q' a s) : wpAny M A t Q' E s := wpAny_mono h hQ fun _ _ x => x
end L2
namespace L2
open PySem PySem.Spec PyProof.Rows
section
variable {X : Cx}
inductive tVar (i : Nat) (σ : St) (H : Hp) (Q : VK) : Prop
  | mk (v : _) : σ[i]? = some (some v) → Q v H → tVar i σ H Q
def tC (v : V) : TE := fun _ H Q => Q v H
theorem pe_var {i : Nat} {x : Str} {pos : Pos} (hN : X.N[i]? = some x) (hv : Vis X.env.scope x) (hd : (x == ("__debug__" : Str)) = false := by decide) (hcd : (x == ("__classdict__" : Str)) = false := by decide) : PE X (.Name x pos) (tVar i) := by
  refine ⟨?_⟩
  intro pins s σ H Q I h
  obtain ⟨v, e, h⟩ := h
  obtain ⟨m, hn, hl⟩ := I.loc
  obtain ⟨u, r, l⟩ := hl i x v hN e hv
  have fin : EP X pins σ Q u s := ⟨v, H, I, r, h⟩
  rcases l with ⟨hk, hm⟩ | ⟨hk, c, hc, hcell⟩
  · exact wpAny_Name (wpAny_loadName_local I.ok.kind hk hn hm fin) hd
  · rcases hk with hk | hk
    · exact wpAny_Name (wpAny_loadName_cell I.ok.kind hk hc hcell fin) hd
    · exact wpAny_Name (wpAny_loadName_free I.ok.kind hk hc hcell fin hcd) hd
theorem pe_int {i j pos} : PE X (.Constant (.int i) j pos) (tC (.int i)) := ⟨fun _ _ _ H _ I h => wpAny_Constant_int ⟨.int i, H, I.tok _, ⟨_, rfl⟩, h⟩⟩
theorem pe_bl {b j pos} : PE X (.Constant (.bool b) j pos) (tC (.bl b)) := ⟨fun _ _ _ H _ I h => Constant_bool ⟨.bl b, H, I, rfl, h⟩⟩
theorem pe_str {x j pos} : PE X (.Constant (.str x) j pos) (tC (.str x)) := ⟨fun _ _ _ H _ I h => Calls.Constant_str ⟨.str x, H, I.tok _, ⟨_, rfl⟩, h⟩⟩
def Gl (X : Cx) (x : Str) : Prop := X.env.kindOf x = some .globalImplicit
theorem ld_glob {E : Value → Shared → Prop} {pins : List (Addr × Obj)} {s : Shared} {σ : St} {H : Hp} {x : Str} {u : Value} {pos : Pos} {Q : Value → Shared → Prop} (I : Inv X pins σ H s) (hg : Gl X x) (hm : X.mg x = some u) (h : Q u s)
    (hd : (x == ("__debug__" : Str)) = false := by decide) : wpAny (model X.prog X.w) X.A (eval (.Name x pos) X.env) Q E s :=
  Calls.Name_function_global I.ok.kind hg (Calls.loadGlobal_global (by rw [I.ok.glob]; exact I.mod.glob.keeps I.bk) hm h) hd
theorem ld_blt {E : Value → Shared → Prop} {pins : List (Addr × Obj)} {s : Shared} {σ : St} {H : Hp} {x : Str} {u : Value} {pos : Pos} {Q : Value → Shared → Prop} (I : Inv X pins σ H s) (hg : Gl X x) (hm : X.mg x = none) (hv : bootBuiltins x = some u) (h : Q u s)
    (hn : x ≠ "__name__" := by decide) (hd : (x == ("__debug__" : Str)) = false := by decide) : wpAny (model X.prog X.w) X.A (eval (.Name x pos) X.env) Q E s := by
  obtain ⟨mb, h1, h2⟩ := I.mod.blt
  exact Calls.Name_function_global I.ok.kind hg (Calls.loadGlobal_builtin (by rw [I.ok.glob]; exact I.mod.glob.keeps I.bk) hm (by rw [I.ok.blt]; exact h1.keeps I.bk) ((h2 x hn).trans hv) h) hd
theorem pe_glob {x : Str} {v : V} {u : Value} {pos : Pos} (hg : Gl X x) (hm : X.mg x = some u) (r : RelV v u) (hd : (x == ("__debug__" : Str)) = false := by decide) : PE X (.Name x pos) (tC v) :=
  ⟨fun _ _ _ H _ I h => ld_glob I hg hm ⟨v, H, I, r, h⟩ hd⟩
theorem pe_bltn {x : Str} {v : V} {u : Value} {pos : Pos} (hg : Gl X x) (hm : X.mg x = none) (hv : bootBuiltins x = some u) (r : RelV v u) (hn : x ≠ "__name__" := by decide) (hd : (x == ("__debug__" : Str)) = false := by decide) : PE X (.Name x pos) (tC v) :=
  ⟨fun _ _ _ H _ I h => ld_blt I hg hm hv ⟨v, H, I, r, h⟩ hn hd⟩
variable {a b : Expr} {ta tb : TE} {pos : Pos}
inductive tBI (Q : Bool → Hp → Prop) (x : V) (H1 : Hp) : Prop
  | mk (c : _) : x = .bl c → Q c H1 → tBI Q x H1
def tB (t : TE) : TT := fun σ H Q => t σ H fun x H1 => tBI Q x H1
theorem pt_val {e : Expr} {t : TE} (h : PE X e t) (he : ∀ whole, isTrue e X.env whole = (do let v ← whole; standAt e.pos; holding [v] (truthy v)) := by intro _; rfl) : PT X e (tB t) := by
  refine ⟨?_⟩
  intro pins s σ H Q I hw
  refine isTrue_plain (thn (h pins s σ H _ I hw) fun v s1 ⟨x, H1, I1, r1, q1⟩ => ?_) (he _)
  obtain ⟨d, rfl, q⟩ := q1
  cases r1
  exact wpAny_truthy_bool ⟨H1, I1, q⟩
variable {tA tB' : TT} {rest : List Expr}
def tAnd (t u : TT) : TT := fun σ H Q => t σ H fun c H1 => if c = true then u σ H1 Q else Q false H1
def tOr (t u : TT) : TT := fun σ H Q => t σ H fun c H1 => if c = true then Q true H1 else u σ H1 Q
def tNot (t : TT) : TT := fun σ H Q => t σ H fun c H1 => Q (!c) H1
theorem pw_and1 (ha : PT X a tA) : PW X (.BoolOp .And [a] pos) tA := by
  refine ⟨?_⟩
  intro wh pins s σ H Q I h
  refine isTrue_and (thn (ha pins s σ H Q I h) fun c s1 e => ?_)
  cases c with
  | true => exact isTrue_and_nil e
  | false => exact e
theorem pw_or1 (ha : PT X a tA) : PW X (.BoolOp .Or [a] pos) tA := by
  refine ⟨?_⟩
  intro wh pins s σ H Q I h
  refine isTrue_or (thn (ha pins s σ H Q I h) fun c s1 e => ?_)
  cases c with
  | false => exact isTrue_or_nil e
  | true => exact e
theorem pw_and (ha : PT X a tA) (hb : PW X (.BoolOp .And (b :: rest) pos) tB') : PW X (.BoolOp .And (a :: b :: rest) pos) (tAnd tA tB') := by
  refine ⟨?_⟩
  intro wh pins s σ H Q I h
  refine isTrue_and (thn (ha pins s σ H _ I h) fun c s1 ⟨H1, I1, q1⟩ => ?_)
  cases c with
  | true => exact hb wh pins s1 σ H1 Q I1 q1
  | false => exact ⟨H1, I1, q1⟩
theorem pw_or (ha : PT X a tA) (hb : PW X (.BoolOp .Or (b :: rest) pos) tB') : PW X (.BoolOp .Or (a :: b :: rest) pos) (tOr tA tB') := by
  refine ⟨?_⟩
  intro wh pins s σ H Q I h
  refine isTrue_or (thn (ha pins s σ H _ I h) fun c s1 ⟨H1, I1, q1⟩ => ?_)
  cases c with
  | true => exact ⟨H1, I1, q1⟩
  | false => exact hb wh pins s1 σ H1 Q I1 q1
theorem pt_not (ha : PT X a tA) : PT X (.UnaryOp .Not a pos) (tNot tA) := by
  refine ⟨?_⟩
  intro pins s σ H Q I h
  exact isTrue_not (ha pins s σ H (fun c H1 => Q (!c) H1) I h)
inductive tAndVI (tb : TE) (σ : St) (Q : VK) (x : V) (H1 : Hp) : Prop
  | mk (c : _) : x = .bl c → (if c = true then tb σ H1 Q else Q (.bl false) H1) → tAndVI tb σ Q x H1
def tAndV (ta tb : TE) : TE := fun σ H Q => ta σ H fun x H1 => tAndVI tb σ Q x H1
inductive tOrVI (tb : TE) (σ : St) (Q : VK) (x : V) (H1 : Hp) : Prop
  | mk (c : _) : x = .bl c → (if c = true then Q (.bl true) H1 else tb σ H1 Q) → tOrVI tb σ Q x H1
def tOrV (ta tb : TE) : TE := fun σ H Q => ta σ H fun x H1 => tOrVI tb σ Q x H1
inductive tNotVI (Q : VK) (x : V) (H1 : Hp) : Prop
  | mk (c : _) : x = .bl c → Q (.bl (!c)) H1 → tNotVI Q x H1
def tNotV (ta : TE) : TE := fun σ H Q => ta σ H fun x H1 => tNotVI Q x H1
theorem pe_one {op} {t : TE} (h : PE X a t) : PE X (.BoolOp op [a] pos) t := ⟨fun pins s σ H Q I hw => BoolOp_one (h pins s σ H Q I hw)⟩
theorem pe_and (ha : PE X a ta) (hb : PE X (.BoolOp .And (b :: rest) pos) tb) : PE X (.BoolOp .And (a :: b :: rest) pos) (tAndV ta tb) := by
  refine ⟨?_⟩
  intro pins s σ H Q I h
  refine BoolOp_and (thn (ha pins s σ H _ I h) fun v s1 ⟨x, H1, I1, r1, q1⟩ => ?_)
  obtain ⟨c, rfl, q1⟩ := q1
  cases r1
  refine wpAny_truthy_bool ?_
  cases c with
  | true => exact hb pins s1 σ H1 Q I1 q1
  | false => exact ⟨.bl false, H1, I1, rfl, q1⟩
theorem pe_or (ha : PE X a ta) (hb : PE X (.BoolOp .Or (b :: rest) pos) tb) : PE X (.BoolOp .Or (a :: b :: rest) pos) (tOrV ta tb) := by
  refine ⟨?_⟩
  intro pins s σ H Q I h
  refine BoolOp_or (thn (ha pins s σ H _ I h) fun v s1 ⟨x, H1, I1, r1, q1⟩ => ?_)
  obtain ⟨c, rfl, q1⟩ := q1
  cases r1
  refine wpAny_truthy_bool ?_
  cases c with
  | false => exact hb pins s1 σ H1 Q I1 q1
  | true => exact ⟨.bl true, H1, I1, rfl, q1⟩
theorem pe_not (ha : PE X a ta) : PE X (.UnaryOp .Not a pos) (tNotV ta) := by
  refine ⟨?_⟩
  intro pins s σ H Q I h
  refine UnaryOp_ (thn (ha pins s σ H _ I h) fun v s1 ⟨x, H1, I1, r1, q1⟩ => ?_)
  obtain ⟨c, rfl, q1⟩ := q1
  cases r1
  exact not_of (wpAny_truthy_bool ⟨.bl (!c), H1, I1, rfl, q1⟩)
def tIf (t : TT) (ta tb : TE) : TE := fun σ H Q => t σ H fun c H1 => if c = true then ta σ H1 Q else tb σ H1 Q
theorem pe_ifExp {c : Expr} (hc : PT X c tA) (ha : PE X a ta) (hb : PE X b tb) : PE X (.IfExp c a b pos) (tIf tA ta tb) := by
  refine ⟨?_⟩
  intro pins s σ H Q I h
  refine wpAny_IfExp (thn (hc pins s σ H _ I h) fun d s1 ⟨H1, I1, q1⟩ => ?_)
  cases d with
  | true => exact ha pins s1 σ H1 Q I1 q1
  | false => exact hb pins s1 σ H1 Q I1 q1
end
end L2
namespace L2
open PySem PySem.Spec PyProof.Rows
def SqL (K : PySem.W.Frag) (H : Hp) (a : Addr) (xs : List V) : Prop :=
  Rd H a (.lst xs) ∨
    ∃ (o : Obj) (its : Array Value) (n : Nat), K.lookup a = some o ∧ o.cls = .type "list" ∧ o.dict = none ∧ o.data = .seq its n ∧ its.size ≤ sizeLine ∧ Vals xs its.toList
def SqT (K : PySem.W.Frag) (H : Hp) (a : Addr) (xs : List V) : Prop :=
  Rd H a (.tup xs) ∨
    ∃ (o : Obj) (its : Array Value) (n : Nat), K.lookup a = some o ∧ o.cls = .type "tuple" ∧ o.data = .seq its n ∧ its.size ≤ sizeLine ∧ Vals xs its.toList
def absV : Value → Option V
  | .none => some .non
  | .bool b => some (.bl b)
  | .int i _ => some (.int i)
  | .str x _ => some (.str x)
  | .bytes b _ => some (.byt b)
  | .float b _ => some (.flt b)
  | .ref a => some (.ref a)
  | .type n => some (.ty n)
  | _ => none
theorem RelV.abs {x : V} {u : Value} (r : RelV x u) : absV u = some x := by
  cases x with
  | non => cases r; rfl
  | bl _ => cases r; rfl
  | int _ => obtain ⟨t, rfl⟩ := r; rfl
  | str _ => obtain ⟨t, rfl⟩ := r; rfl
  | byt _ => obtain ⟨t, rfl⟩ := r; rfl
  | flt _ => obtain ⟨t, rfl⟩ := r; rfl
  | ref _ => cases r; rfl
  | ty _ => cases r; rfl
theorem RelV.inj {x y : V} {u : Value} (r : RelV x u) (q : RelV y u) : x = y := Option.some.inj (r.abs.symm.trans q.abs)
theorem Vals.inj : ∀ {xs ys : List V} {us : List Value}, Vals xs us → Vals ys us → xs = ys
  | _, _, _, .nil, .nil => rfl
  | _, _, _, .cons r t, .cons r' t' => by rw [r.inj r', Vals.inj t t']
section
variable {X : Cx} {pins : List (Addr × Obj)} {σ : St} {H : Hp} {s : Shared} {a : Addr} {xs ys : List V}
theorem SqL.of {K : PySem.W.Frag} (h : H a = some (.lst xs)) : SqL K H a xs := .inl (.inl h)
theorem SqT.of {K : PySem.W.Frag} (h : H a = some (.tup xs)) : SqT K H a xs := .inl (.inl h)
theorem Inv.list (I : Inv X pins σ H s) (h : SqL X.K H a xs) : ∃ its : List Value, Vals xs its ∧ PlainL s.heap a its.toArray ∧ xs.length ≤ sizeLine := by
  rcases h with h | ⟨o, its, n, hk, hc, hd, hs, hz, r⟩
  · obtain ⟨z, its, n, r, e⟩ := h.ok I.hok
    exact ⟨its, r, ⟨_, n, e, rfl, rfl, rfl⟩, z⟩
  · refine ⟨its.toList, r, ⟨o, n, I.kIn a o hk, hc, hd, by simpa using hs⟩, ?_⟩
    have e := r.length
    simp only [Array.length_toList] at e
    lia
theorem Inv.tuple (I : Inv X pins σ H s) (h : SqT X.K H a xs) : ∃ its : List Value, Vals xs its ∧ IsTup s.heap a its.toArray ∧ xs.length ≤ sizeLine := by
  rcases h with h | ⟨o, its, n, hk, hc, hs, hz, r⟩
  · obtain ⟨z, its, r, p⟩ := h.ok I.hok
    exact ⟨its, r, p.up, z⟩
  · refine ⟨its.toList, r, ⟨o, I.kIn a o hk, hc, n, by simpa using hs⟩, ?_⟩
    have e := r.length
    simp only [Array.length_toList] at e
    lia
theorem Inv.list_inj (I : Inv X pins σ H s) (h : SqL X.K H a xs) (h' : SqL X.K H a ys) : xs = ys := by
  obtain ⟨its, r, ⟨o, n, e, _, _, d⟩, _⟩ := I.list h
  obtain ⟨its', r', ⟨o', n', e', _, _, d'⟩, _⟩ := I.list h'
  rw [e] at e'; cases e'
  rw [d] at d'
  injection d' with d1 _
  have : its = its' := by simpa using congrArg Array.toList d1
  subst this
  exact r.inj r'
theorem Inv.tuple_inj (I : Inv X pins σ H s) (h : SqT X.K H a xs) (h' : SqT X.K H a ys) : xs = ys := by
  obtain ⟨its, r, ⟨o, e, _, n, d⟩, _⟩ := I.tuple h
  obtain ⟨its', r', ⟨o', e', _, n', d'⟩, _⟩ := I.tuple h'
  rw [e] at e'; cases e'
  rw [d] at d'
  injection d' with d1 _
  have : its = its' := by simpa using congrArg Array.toList d1
  subst this
  exact r.inj r'
end
abbrev Cx.wish (X : Cx) (E : Value → Shared → Prop) : Cx := { X with xe := E }
abbrev Cx.nox (X : Cx) : Cx := X.wish fun _ _ => False
theorem Cx.Ok.wish {X : Cx} (ok : X.Ok) (E : Value → Shared → Prop) : (X.wish E).Ok :=
  ⟨ok.mod, ok.kind, ok.glob, ok.blt, ok.above, ok.inj, ok.has, ok.cab, ok.hd, ok.frames, ok.stk, ok.exf, ok.bs, ok.bsz, ok.noex, ok.exfs, ok.funs, ok.frf⟩
theorem Cx.Ok.unwish {X : Cx} {E : Value → Shared → Prop} (ok : (X.wish E).Ok) : X.Ok :=
  ⟨ok.mod, ok.kind, ok.glob, ok.blt, ok.above, ok.inj, ok.has, ok.cab, ok.hd, ok.frames, ok.stk, ok.exf, ok.bs, ok.bsz, ok.noex, ok.exfs, ok.funs, ok.frf⟩
section
variable {X : Cx} {pins : List (Addr × Obj)} {σ : St} {H : Hp} {s : Shared} {E : Value → Shared → Prop}
theorem Inv.wish (I : Inv X pins σ H s) (E : Value → Shared → Prop) : Inv (X.wish E) pins σ H s := ⟨I.ok.wish E, I.os, I.bare, I.base, I.loc, I.cell, I.free, I.freeC, I.pin, I.hok, I.len⟩
theorem Inv.unwish (I : Inv (X.wish E) pins σ H s) : Inv X pins σ H s := ⟨I.ok.unwish, I.os, I.bare, I.base, I.loc, I.cell, I.free, I.freeC, I.pin, I.hok, I.len⟩
theorem SP.unwish {D : Ends} {f : Flow} {s' : Shared} (h : SP (X.wish E) pins D f s') : SP X pins D f s' := by
  cases f with
  | next => obtain ⟨σ', H', I, q⟩ := h; exact ⟨σ', H', I.unwish, q⟩
  | brk => obtain ⟨σ', H', I, q⟩ := h; exact ⟨σ', H', I.unwish, q⟩
  | cont => obtain ⟨σ', H', I, q⟩ := h; exact ⟨σ', H', I.unwish, q⟩
  | ret u => obtain ⟨v, σ', H', I, r, q⟩ := h; exact ⟨v, σ', H', I.unwish, r, q⟩
theorem PSs.nox {st : List Stmt} {t : TS} (h : PSs X.nox st t) : PSs X st t := ⟨fun pins s σ H D I hw =>
  wpAny_mono (h pins s σ H D (I.wish _) hw) (fun _ _ q => q.unwish) fun _ _ z => False.elim z⟩
end
section
variable {X : Cx} {st : Stmt} {rest : List Stmt} {t u : TS} {e : Expr} {te : TE} {pos : Pos}
def tNext : TS := fun D σ H => D.nx σ H
def tSeq (t u : TS) : TS := fun D σ H => t { D with nx := u D } σ H
theorem pss_nil : PSs X [] tNext := ⟨fun _ _ σ H _ I h => wpAny_execs_nil ⟨σ, H, I, h⟩⟩
theorem pss_cons (h1 : PS X st t) (h2 : PSs X rest u) : PSs X (st :: rest) (tSeq t u) := by
  refine ⟨?_⟩
  intro pins s σ H D I h
  refine wpAny_execs_cons (thn (h1 pins s σ H { D with nx := u D } I h) fun f s1 q => ?_)
  cases f with
  | next =>
    obtain ⟨σ', H', I', q⟩ := q
    exact h2 pins s1 σ' H' D I' q
  | ret v => exact q
  | brk => exact q
  | cont => exact q
theorem pss_one (h1 : PS X st t) : PSs X [st] t := by
  refine ⟨?_⟩
  intro pins s σ H D I h
  refine wpAny_execs_cons (thn (h1 pins s σ H D I h) fun f s1 q => ?_)
  cases f with
  | next => exact wpAny_execs_nil q
  | ret v => exact q
  | brk => exact q
  | cont => exact q
theorem Inv.quiet {pins : List (Addr × Obj)} {σ : St} {H : Hp} {s : Shared} (I : Inv X pins σ H s) : interactive X.env = false := by simp [interactive, I.ok.kind]
def tDrop (te : TE) : TS := fun D σ H => te σ H fun _ H1 => D.nx σ H1
theorem ps_expr (he : PE X e te) (hs : swapsWith e none pos.line X.env = pure false := by rfl) : PS X (.Expr e pos) (tDrop te) := by
  refine ⟨?_⟩
  intro pins s σ H D I h
  exact wpAny_Expr_any (thn (he pins s σ H _ I h) fun v s1 ⟨x, H1, I1, r1, q1⟩ => ⟨σ, H1, I1, q1⟩) I.quiet hs
def tRet (te : TE) : TS := fun D σ H => te σ H D.rt
theorem ps_ret (he : PE X e te) : PS X (.Return (some e) pos) (tRet te) := by
  refine ⟨?_⟩
  intro pins s σ H D I h
  exact wpAny_Return_some (thn (he pins s σ H _ I h) fun v s1 ⟨x, H1, I1, r1, q1⟩ => ⟨x, σ, H1, I1, r1, q1⟩)
def tIfS (c : TT) (t u : TS) : TS := fun D σ H => c σ H fun b H1 => if b = true then t D σ H1 else u D σ H1
theorem ps_if {c : Expr} {a b : List Stmt} {tc : TT} (hc : PT X c tc) (ha : PSs X a t) (hb : PSs X b u) : PS X (.If c a b pos) (tIfS tc t u) := by
  refine ⟨?_⟩
  intro pins s σ H D I h
  refine wpAny_If (thn (hc pins s σ H _ I h) fun d s1 ⟨H1, I1, q1⟩ => ?_)
  cases d with
  | true => exact ha pins s1 σ H1 D I1 q1
  | false => exact hb pins s1 σ H1 D I1 q1
def tNever : TS := fun _ _ _ => False
theorem ps_never : PS X st tNever := ⟨fun _ _ _ _ _ _ h => h.elim⟩
end
abbrev TG := V → St → Hp → (St → Hp → Prop) → Prop
abbrev TGs := List V → St → Hp → (St → Hp → Prop) → Prop
def PG (X : Cx) (target : Expr) (t : TG) : Prop :=
  ∀ (pins : List (Addr × Obj)) (s : Shared) (σ : St) (H : Hp) (v : V) (u : Value) (Q : St → Hp → Prop), Inv X pins σ H s → RelV v u → t v σ H Q →
    wpAny (model X.prog X.w) X.A (assign target X.env u) (fun _ s' => ∃ σ' H', Inv X pins σ' H' s' ∧ Q σ' H') X.xe s
def PGs (X : Cx) (ts : List Expr) (t : TGs) : Prop :=
  ∀ (pins : List (Addr × Obj)) (s : Shared) (σ : St) (H : Hp) (vs : List V) (us : List Value) (Q : St → Hp → Prop), Inv X pins σ H s → Vals vs us → t vs σ H Q →
    wpAny (model X.prog X.w) X.A (assignInOrder ((assignEach ts X.env).map (·.2)) us) (fun _ s' => ∃ σ' H', Inv X pins σ' H' s' ∧ Q σ' H') X.xe s
abbrev TSet := V → V → V → Hp → (Hp → Prop) → Prop
def PSet (X : Cx) (t : TSet) : Prop :=
  ∀ (pins : List (Addr × Obj)) (s : Shared) (σ : St) (H : Hp) (o i v : V) (ov iv u : Value) (Q : Hp → Prop), Inv X pins σ H s → RelV o ov → RelV i iv → RelV v u → t o i v H Q →
    wpAny (model X.prog X.w) X.A (setItem ov iv u) (fun _ s' => ∃ H', Inv X pins σ H' s' ∧ Q H') X.xe s
section
variable {X : Cx} {pos : Pos}
def gName (i : Nat) : TG := fun v σ H Q => Q (σ.set i (some v)) H
theorem pg_name {i : Nat} {x : Str} (hN : X.N.Nodup) (hi : X.N[i]? = some x) (hx : Loc X.env.scope x) (hf : X.fn x = true ∨ X.env.scope.names.lookup x = some .local := by first | exact .inl rfl | exact .inr rfl | assumption) : PG X (.Name x pos) (gName i) := by
  intro pins s σ H v u Q I r h
  exact wpAny_assign_Name (store_ok I hN hi hx r (fun s' I' => ⟨_, H, I', h⟩) hf)
def gNil : TGs := fun vs σ H Q => vs = [] ∧ Q σ H
inductive gCons (t : TG) (u : TGs) (vs : List V) (σ : St) (H : Hp) (Q : St → Hp → Prop) : Prop
  | mk (v r : _) : vs = v :: r → (t v σ H fun σ' H' => u r σ' H' Q) → gCons t u vs σ H Q
theorem pgs_nil : PGs X [] gNil := by
  intro pins s σ H vs us Q I r h
  obtain ⟨e, h⟩ := h
  subst e
  cases r
  exact assignInOrder_nil ⟨σ, H, I, h⟩
theorem pgs_cons {e : Expr} {es : List Expr} {t : TG} {u : TGs} (h1 : PG X e t) (h2 : PGs X es u)
    (hs : (assignEach (e :: es) X.env).map (·.2) = assign e X.env :: (assignEach es X.env).map (·.2) := by rfl) : PGs X (e :: es) (gCons t u) := by
  intro pins s σ H vs us Q I r h
  obtain ⟨v, vr, e1, h⟩ := h
  subst e1
  cases r with
  | cons r rr =>
    rw [hs]
    refine assignInOrder_cons (thn (h1 pins s σ H _ _ _ I r h) fun _ s1 ⟨σ1, H1, I1, q1⟩ => ?_)
    exact h2 pins s1 σ1 H1 _ _ Q I1 rr q1
inductive gTup (K : PySem.W.Frag) (n : Nat) (t : TGs) (v : V) (σ : St) (H : Hp) (Q : St → Hp → Prop) : Prop
  | mk (a xs : _) : v = .ref a → SqT K H a xs → xs.length = n → t xs σ H Q → gTup K n t v σ H Q
theorem pg_tup {es : List Expr} {k : Nat} {t : TGs} {n : Nat} (hc : X.calm = true) (h : PGs X es t)
    (hn : (assignEach es X.env).length = n := by rfl) (hst : (assignEach es X.env).findIdx? (·.1) = none := by rfl) : PG X (.Tuple es k pos) (gTup X.K n t) := by
  intro pins s σ H v u Q I r hw
  obtain ⟨a, xs, e1, hq, hl, hw⟩ := hw
  subst e1
  cases r
  obtain ⟨its, rv, ht, hz⟩ := I.tuple hq
  refine assign_Tuple_tuple (I.ok.hd hc) ht (by simp [hn, ← hl, rv.length]) hst fun h' hx => ?_
  have I1 : Inv X pins σ H { s with heap := h' } := I.kept (t' := s.toks) fun b o e => hx b o (Nat.ne_of_lt (Heap.lt_size e)) e
  exact h pins _ σ H xs _ Q I1 (by simpa using rv) hw
def gSub (to ti : TE) (t : TSet) : TG := fun v σ H Q => to σ H fun o H1 => ti σ H1 fun i H2 => t o i v H2 fun H3 => Q σ H3
theorem pg_sub {o i : Expr} {to ti : TE} {t : TSet} (ho : PE X o to) (hi : PE X i ti) (hs : PSet X t)
    (ha : ∀ v, assign (.Subscript o i pos) X.env v = (do
      let ov ← holding [v] (eval o X.env)
      let iv ← holding [v, ov] (eval i X.env)
      standAt pos
      holding [v, ov, iv] (setItem ov iv v)
      release [v, ov, iv] []) := by intro _; rfl) : PG X (.Subscript o i pos) (gSub to ti t) := by
  intro pins s σ H v u Q I r h
  rw [ha]
  refine wpAny_bind (wpAny_holding (thn (ho pins s σ H _ I h) fun ov s1 ⟨x, H1, I1, r1, q1⟩ => ?_))
  refine wpAny_bind (wpAny_holding (thn (hi pins s1 σ H1 _ I1 q1) fun iv s2 ⟨y, H2, I2, r2, q2⟩ => ?_))
  refine wpAny_bind (wpAny_standAt (wpAny_bind (wpAny_holding (thn (hs pins s2 σ H2 x y v ov iv u _ I2 r1 r2 r q2) fun _ s3 ⟨H3, I3, q3⟩ => ?_))))
  exact wpAny_release ⟨σ, H3, I3, q3⟩
def tAsg (te : TE) (g : TG) : TS := fun D σ H => te σ H fun x H1 => g x σ H1 D.nx
theorem ps_asg {tg e : Expr} {te : TE} {g : TG} (he : PE X e te) (hg : PG X tg g) (hs : swapsWithSole [tg] e pos.line X.env = pure false := by rfl) (hw : swappedStores [tg] e X.env = pure none := by rfl)
    (h1 : (assignEach [tg] X.env).map (·.2) = [assign tg X.env] := by rfl) : PS X (.Assign [tg] e pos) (tAsg te g) := by
  refine ⟨?_⟩
  intro pins s σ H D I h
  refine wpAny_Assign_stores (thn (he pins s σ H _ I h) fun v s1 ⟨x, H1, I1, r1, q1⟩ => ?_) hs hw
  rw [h1]
  exact thn (hg pins s1 σ H1 x v _ I1 r1 q1) fun _ s2 q => q
theorem ps_set {i : Nat} {x : Str} {e : Expr} {te : TE} {pos' : Pos} (hN : X.N.Nodup) (hi : X.N[i]? = some x) (hx : Loc X.env.scope x) (he : PE X e te) (hs : swapsWith e (some (.Name x pos')) pos.line X.env = pure false := by rfl) (hf : X.fn x = true ∨ X.env.scope.names.lookup x = some .local := by first | exact .inl rfl | exact .inr rfl | assumption) :
    PS X (.Assign [.Name x pos'] e pos) (tAsg te (gName i)) := by
  refine ⟨?_⟩
  intro pins s σ H D I h
  refine wpAny_Assign_Name (thn (he pins s σ H _ I h) fun v s1 ⟨y, H1, I1, r1, q1⟩ => ?_) hs
  exact store_ok I1 hN hi hx r1 (fun s2 I2 => ⟨_, H1, I2, q1⟩) hf
end
structure It where
  go : Nat → Hp → Prop
  yld : Nat → Hp → V → Hp → Prop
  stop : Nat → Hp → Prop
def FpOk (X : Cx) (pins : List (Addr × Obj)) (H : Hp) (b : Addr) : Prop :=
  H b = none ∧ b ≠ X.env.locals ∧ b ∉ X.fs ∧ (b ∈ X.ex ∨ X.s₀.heap.objs.size ≤ b) ∧ (∀ x c, X.env.cells.lookup x = some c → c ≠ b) ∧ ∀ p ∈ X.pn ++ pins, p.1 ≠ b
theorem Inv.fpOk {X : Cx} {pins : List (Addr × Obj)} {σ : St} {H H' : Hp} {s : Shared} {b : Addr} (I : Inv X pins σ H s) (hb : s.heap.objs.size ≤ b) (hn : H' b = none) : FpOk X pins H' b := by
  refine ⟨hn, Nat.ne_of_gt (Nat.lt_of_lt_of_le I.lt hb), I.nofs hb, .inr (Nat.le_trans I.sz hb), fun x c e z => ?_, fun p hp z => ?_⟩
  · obtain ⟨v, q⟩ := I.cell x c e
    exact absurd (Nat.lt_of_lt_of_le q.lt (by rw [z]; exact hb)) (Nat.lt_irrefl _)
  · exact absurd (Nat.lt_of_lt_of_le (Heap.lt_size (I.pin p hp).1) (by rw [z]; exact hb)) (Nat.lt_irrefl _)
structure Turn (P : Program) (w : World) (K : PySem.W.Frag) (tg : Expr) (J : It) (fp : List Addr) (it : Addr) (tn : Nat → Heap → Prop) : Prop where
  mem : it ∈ fp
  obj : ∀ i h, tn i h → ∀ b ∈ fp, ∃ o, h.get? b = some o ∧ ∀ v, o.data ≠ .cell v
  keep : ∀ i h h', tn i h → (∀ b ∈ fp, ∀ o, h.get? b = some o → h'.get? b = some o) → tn i h'
  item : ∀ (X : Cx), X.prog = P → X.w = w → X.K = K → X.calm = true → ∀ (i : Nat) (pins : List (Addr × Obj)) (s : Shared) (σ : St) (H : Hp) (E : Value → Shared → Prop), Inv X pins σ H s → (∀ b ∈ fp, FpOk X pins H b) → tn i s.heap → J.go i H →
    wpAny (model P w) X.A (pyNext (.ref it)) (fun r s1 => ∃ u, r = some u ∧
      wpAny (model P w) X.A (letOwnedTupleGo tg (.ref it) u) (fun _ s2 => ∃ x H', Inv X pins σ H' s2 ∧ RelV x u ∧ J.yld i H x H' ∧ tn (i + 1) s2.heap ∧ ∀ b ∈ fp, H' b = none) E s1) E s
  done : ∀ (X : Cx), X.prog = P → X.w = w → X.K = K → X.calm = true → ∀ (i : Nat) (pins : List (Addr × Obj)) (s : Shared) (σ : St) (H : Hp) (E : Value → Shared → Prop), Inv X pins σ H s → (∀ b ∈ fp, FpOk X pins H b) → tn i s.heap → J.stop i H →
    wpAny (model P w) X.A (pyNext (.ref it)) (fun r s1 => r = none ∧ Inv X pins σ H s1) E s
  self : ∀ (A : Around) (i : Nat) (s : Shared) (Q : Value → Shared → Prop) (E : Value → Shared → Prop), tn i s.heap → Q (.ref it) s → wpAny (model P w) A (pyIter (.ref it)) Q E s
abbrev TI := St → Hp → (It → Hp → Prop) → Prop
inductive PIE (X : Cx) (pins : List (Addr × Obj)) (σ : St) (tg : Expr) (R : It → Hp → Prop) (itv : Value) (s2 : Shared) : Prop
  | mk (it : Addr) (fp : List Addr) (tn : Nat → Heap → Prop) (J : It) (H' : Hp) : itv = .ref it → Inv X pins σ H' s2 → Turn X.prog X.w X.K tg J fp it tn → tn 0 s2.heap → (∀ b ∈ fp, FpOk X pins H' b) → R J H' → PIE X pins σ tg R itv s2
structure PI (X : Cx) (tg iter : Expr) (wi : TI) : Prop where
  run : ∀ (pins : List (Addr × Obj)) (s : Shared) (σ : St) (H : Hp) (R : It → Hp → Prop), Inv X pins σ H s → wi σ H R →
    wpAny (model X.prog X.w) X.A (eval iter X.env) (fun v s1 => wpAny (model X.prog X.w) X.A (pyIter v) (PIE X pins σ tg R) X.xe s1) X.xe s
instance {X : Cx} {tg iter : Expr} {wi : TI} : CoeFun (PI X tg iter wi) fun _ => ∀ (pins : List (Addr × Obj)) (s : Shared) (σ : St) (H : Hp) (R : It → Hp → Prop), Inv X pins σ H s → wi σ H R →
    wpAny (model X.prog X.w) X.A (eval iter X.env) (fun v s1 => wpAny (model X.prog X.w) X.A (pyIter v) (PIE X pins σ tg R) X.xe s1) X.xe s := ⟨PI.run⟩
theorem go_of {M : Model} {A : Around} {E : Value → Shared → Prop} {s : Shared} {tg : Expr} {it : Addr} {u : Value} {o : Obj} {n : String} {vs : Array Value} {Q : Unit → Shared → Prop} (ho : s.heap.get? it = some o) (hc : o.cls = .type n) (hd : o.data = .fields vs)
    (hn : ["enumerate", "zip", "dict_itemiterator", "dict_reverseitemiterator", "odict_iterator", "itertools.zip_longest", "itertools.pairwise"].contains n = false) (hQ : Q () s) : wpAny M A (letOwnedTupleGo tg (.ref it) u) Q E s := by
  unfold letOwnedTupleGo
  cases tg <;> first
    | exact wpAny_pure hQ
    | (cases u <;> first
        | exact wpAny_pure hQ
        | (refine wpAny_bind (wpAny_load ho ?_)
           rw [hc, hd]
           show wpAny M A (if (["enumerate", "zip", "dict_itemiterator", "dict_reverseitemiterator", "odict_iterator", "itertools.zip_longest", "itertools.pairwise"].contains n && vs[0]? == some (rawInt _)) = true then _ else _) Q E s
           rw [if_neg (by intro h; rw [hn, Bool.false_and] at h; cases h)]
           exact wpAny_pure hQ))
def Itl (K : PySem.W.Frag) (a : Addr) : It :=
  ⟨fun i H => ∃ xs x, SqL K H a xs ∧ xs[i]? = some x, fun i H x H' => H' = H ∧ ∀ xs, SqL K H a xs → xs[i]? = some x, fun i H => ∃ xs, SqL K H a xs ∧ xs.length ≤ i⟩
def Itt (K : PySem.W.Frag) (a : Addr) : It :=
  ⟨fun i H => ∃ xs x, SqT K H a xs ∧ xs[i]? = some x, fun i H x H' => H' = H ∧ ∀ xs, SqT K H a xs → xs[i]? = some x, fun i H => ∃ xs, SqT K H a xs ∧ xs.length ≤ i⟩
def Itr (lo : Int) (n : Nat) : It := ⟨fun i _ => i < n, fun i H x H' => H' = H ∧ x = .int (lo + i), fun i _ => n ≤ i⟩
theorem turn_list {P : Program} {w : World} {K : PySem.W.Frag} {tg : Expr} (a it : Addr) : Turn P w K tg (Itl K a) [it] it (fun i h => h.IsListIter it a i) where
  mem := by simp
  obj := fun i h st b hb => by
    have e : b = it := by simpa using hb
    subst e
    obtain ⟨o, e, c, d⟩ := st
    exact ⟨o, e, fun v z => by rw [d] at z; cases z⟩
  keep := fun i h h' st k => st.at fun o e => k it (by simp) o e
  item := by
    intro X hP hw hK hc i pins s σ H E I hf st hg
    subst hP hw hK
    obtain ⟨xs, x, hq, hx⟩ := hg
    obtain ⟨its, rv, p, hz⟩ := I.list hq
    obtain ⟨u, hu, ru⟩ := rv.get hx
    obtain ⟨f0, f1, f2, f3, f4, f5⟩ := hf it (by simp)
    refine wpAny_pyNext_list_item st p.isList (x := u) (by simpa using hu) fun h' st' sb => ?_
    have I1 : Inv X pins σ H { s with heap := h' } := I.turned (t' := s.toks) (fun b o hb e => (sb.2 b hb).trans e) f0 f1 f3 f4 f5
    obtain ⟨o, e, c, d⟩ := id st'
    exact ⟨u, rfl, go_of (s := { s with heap := h' }) e c d (by decide) ⟨x, H, I1, ru, ⟨rfl, fun ys hy => by rw [I.list_inj hy hq]; exact hx⟩, st', fun b hb => (hf b hb).1⟩⟩
  done := by
    intro X hP hw hK hc i pins s σ H E I hf st hg
    subst hP hw hK
    obtain ⟨xs, hq, hx⟩ := hg
    obtain ⟨its, rv, p, hz⟩ := I.list hq
    obtain ⟨f0, f1, f2, f3, f4, f5⟩ := hf it (by simp)
    have hl := rv.length
    exact wpAny_pyNext_list_end (I.ok.hd hc) st p.isList (by simp; lia) fun h' eb => ⟨rfl, I.turned (t' := s.toks) (fun b o hb e => eb b o hb e) f0 f1 f3 f4 f5⟩
  self := fun _ _ _ _ _ st h => wpAny_pyIter_listiter st h
theorem turn_tuple {P : Program} {w : World} {K : PySem.W.Frag} {tg : Expr} (a it : Addr) : Turn P w K tg (Itt K a) [it] it (fun i h => h.IsTupleIter it a i) where
  mem := by simp
  obj := fun i h st b hb => by
    have e : b = it := by simpa using hb
    subst e
    obtain ⟨o, e, c, d⟩ := st
    exact ⟨o, e, fun v z => by rw [d] at z; cases z⟩
  keep := fun i h h' st k => st.at fun o e => k it (by simp) o e
  item := by
    intro X hP hw hK hc i pins s σ H E I hf st hg
    subst hP hw hK
    obtain ⟨xs, x, hq, hx⟩ := hg
    obtain ⟨its, rv, p, hz⟩ := I.tuple hq
    obtain ⟨u, hu, ru⟩ := rv.get hx
    obtain ⟨f0, f1, f2, f3, f4, f5⟩ := hf it (by simp)
    refine wpAny_pyNext_tuple_item st (show s.heap.IsTuple a its.toArray from p) (x := u) (by simpa using hu) fun h' st' sb => ?_
    have I1 : Inv X pins σ H { s with heap := h' } := I.turned (t' := s.toks) (fun b o hb e => (sb.2 b hb).trans e) f0 f1 f3 f4 f5
    obtain ⟨o, e, c, d⟩ := id st'
    exact ⟨u, rfl, go_of (s := { s with heap := h' }) e c d (by decide) ⟨x, H, I1, ru, ⟨rfl, fun ys hy => by rw [I.tuple_inj hy hq]; exact hx⟩, st', fun b hb => (hf b hb).1⟩⟩
  done := by
    intro X hP hw hK hc i pins s σ H E I hf st hg
    subst hP hw hK
    obtain ⟨xs, hq, hx⟩ := hg
    obtain ⟨its, rv, p, hz⟩ := I.tuple hq
    obtain ⟨f0, f1, f2, f3, f4, f5⟩ := hf it (by simp)
    have hl := rv.length
    exact wpAny_pyNext_tuple_end (I.ok.hd hc) st (show s.heap.IsTuple a its.toArray from p) (by simp; lia) fun h' eb => ⟨rfl, I.turned (t' := s.toks) (fun b o hb e => eb b o hb e) f0 f1 f3 f4 f5⟩
  self := fun _ _ _ _ _ st h => wpAny_pyIter_tupleiter st h
theorem turn_range {P : Program} {w : World} {K : PySem.W.Frag} {tg : Expr} (it : Addr) (lo : Int) (n : Nat) : Turn P w K tg (Itr lo n) [it] it (fun i h => IsRangeIter h it (lo + (i : Nat) * 1) ((n : Int) - (i : Nat)) 1) where
  mem := by simp
  obj := fun i h st b hb => by
    have e : b = it := by simpa using hb
    subst e
    exact ⟨_, st, fun v z => by
      have z' : Data.fields _ = Data.cell v := z
      cases z'⟩
  keep := fun i h h' st k => k it (by simp) _ st
  item := by
    intro X hP hw hK hc i pins s σ H E I hf st hg
    subst hP hw hK
    obtain ⟨f0, f1, f2, f3, f4, f5⟩ := hf it (by simp)
    have W := Walks.range (prog := X.prog) (w := X.w) (I.ok.hd hc) it lo 1 n
    refine W.item i s _ _ hg st fun v h' tk hv st' kk => ?_
    obtain ⟨t, rfl⟩ := hv
    have I1 : Inv X pins σ H { s with heap := h', toks := tk } := I.turned (fun b o hb e => kk b o (by simpa using hb) e) f0 f1 f3 f4 f5
    refine ⟨_, rfl, go_of (s := { s with heap := h', toks := tk }) (n := "range_iterator") st' rfl rfl (by decide) ⟨.int (lo + i), H, I1, ⟨t, ?_⟩, ⟨rfl, rfl⟩, st', fun b hb => (hf b hb).1⟩⟩
    rw [Int.mul_one]
  done := by
    intro X hP hw hK hc i pins s σ H E I hf st hg
    subst hP hw hK
    obtain ⟨f0, f1, f2, f3, f4, f5⟩ := hf it (by simp)
    exact wpAny_pyNext_range_end (I.ok.hd hc) st (by have : n ≤ i := hg; lia) fun h' eb => ⟨rfl, I.turned (t' := s.toks) (fun b o hb e => eb b o hb e) f0 f1 f3 f4 f5⟩
  self := fun _ _ _ _ _ st h => wpAny_pyIter_rangeiter st h
end L2
namespace L2
open PySem PySem.Spec PyProof.Rows
section
variable {X : Cx} {tg : Expr}
inductive iListI (K : PySem.W.Frag) (R : It → Hp → Prop) (x : V) (H1 : Hp) : Prop
  | mk (a : _) : x = .ref a → (∃ xs, SqL K H1 a xs) → R (Itl K a) H1 → iListI K R x H1
def iList (K : PySem.W.Frag) (tl : TE) : TI := fun σ H R => tl σ H fun x H1 => iListI K R x H1
inductive iTupI (K : PySem.W.Frag) (R : It → Hp → Prop) (x : V) (H1 : Hp) : Prop
  | mk (a : _) : x = .ref a → (∃ xs, SqT K H1 a xs) → R (Itt K a) H1 → iTupI K R x H1
def iTup (K : PySem.W.Frag) (tl : TE) : TI := fun σ H R => tl σ H fun x H1 => iTupI K R x H1
theorem pi_list {l : Expr} {tl : TE} (hl : PE X l tl) : PI X tg l (iList X.K tl) := by
  refine ⟨?_⟩
  intro pins s σ H R I h
  refine thn (hl pins s σ H _ I h) fun v s1 ⟨x, H1, I1, r1, q1⟩ => ?_
  obtain ⟨a, e, ⟨xs, hq⟩, q⟩ := q1
  subst e
  cases r1
  obtain ⟨its, rv, p, hz⟩ := I1.list hq
  refine wpAny_pyIter_list p.isList ?_
  refine ⟨s1.heap.objs.size, [s1.heap.objs.size], _, _, H1, rfl, I1.kept (t' := s1.toks) fun b o e => Heap.get?_push_of_some _ e, turn_list a _, ⟨_, Heap.get?_push_size _ rfl, rfl, rfl⟩, fun b hb => ?_, q⟩
  have e : b = s1.heap.objs.size := by simpa using hb
  subst e
  exact I1.fpOk (Nat.le_refl _) (I1.hok.fresh (Nat.le_refl _))
theorem pi_tup {l : Expr} {tl : TE} (hl : PE X l tl) : PI X tg l (iTup X.K tl) := by
  refine ⟨?_⟩
  intro pins s σ H R I h
  refine thn (hl pins s σ H _ I h) fun v s1 ⟨x, H1, I1, r1, q1⟩ => ?_
  obtain ⟨a, e, ⟨xs, hq⟩, q⟩ := q1
  subst e
  cases r1
  obtain ⟨its, rv, p, hz⟩ := I1.tuple hq
  refine wpAny_pyIter_tuple (show s1.heap.IsTuple a its.toArray from p) ?_
  refine ⟨s1.heap.objs.size, [s1.heap.objs.size], _, _, H1, rfl, I1.kept (t' := s1.toks) fun b o e => Heap.get?_push_of_some _ e, turn_tuple a _, ⟨_, Heap.get?_push_size _ rfl, rfl, rfl⟩, fun b hb => ?_, q⟩
  have e : b = s1.heap.objs.size := by simpa using hb
  subst e
  exact I1.fpOk (Nat.le_refl _) (I1.hok.fresh (Nat.le_refl _))
theorem range_it {pins : List (Addr × Obj)} {σ : St} {H : Hp} {s : Shared} {R : It → Hp → Prop} {E : Value → Shared → Prop} {lo hi : Int} {t u v : Tok} {tk : Nat} (I : Inv X pins σ H s) (h1 : -(2 ^ 62) ≤ lo) (h2 : lo < 2 ^ 62) (h3 : -(2 ^ 62) ≤ hi) (h4 : hi < 2 ^ 62)
    (q : R (Itr lo (hi - lo).toNat) H) : wpAny (model X.prog X.w) X.A (pyIter (.ref s.heap.objs.size)) (PIE X pins σ tg R) E { s with heap := s.heap.push { cls := .type "range", data := .fields #[.int lo t, .int hi u, .int 1 v] }, toks := tk } := by
  refine wpAny_pyIter_range (IsRange.new ..) (small_one h1 h2 h3 h4) ?_
  have I1 : Inv X pins σ H { s with heap := s.heap.push { cls := .type "range", data := .fields #[.int lo t, .int hi u, .int 1 v] }, toks := tk } := I.kept fun b o e => Heap.get?_push_of_some _ e
  refine ⟨(s.heap.push { cls := .type "range", data := .fields #[.int lo t, .int hi u, .int 1 v] }).objs.size, [(s.heap.push { cls := .type "range", data := .fields #[.int lo t, .int hi u, .int 1 v] }).objs.size], _, _, H, rfl,
    I1.kept (t' := tk) fun b o e => Heap.get?_push_of_some _ e, turn_range _ lo (hi - lo).toNat, ?_, fun b hb => ?_, q⟩
  · have e1 : lo + ((0 : Nat) : Int) * 1 = lo := by simp
    have e2 : (((hi - lo).toNat : Nat) : Int) - ((0 : Nat) : Int) = Builtin.Range.rangeSize lo hi 1 := by rw [rangeSize_one]; split <;> lia
    show IsRangeIter _ _ (lo + ((0 : Nat) : Int) * 1) ((((hi - lo).toNat : Nat) : Int) - ((0 : Nat) : Int)) 1
    rw [e1, e2]
    exact Heap.get?_push_size _ rfl
  · have e : b = (s.heap.push { cls := .type "range", data := .fields #[.int lo t, .int hi u, .int 1 v] }).objs.size := by simpa using hb
    subst e
    exact I1.fpOk (Nat.le_refl _) (I1.hok.fresh (Nat.le_refl _))
inductive iRng1I (R : It → Hp → Prop) (vs : List V) (H1 : Hp) : Prop
  | mk (j : Int) : vs = [.int j] → -(2 ^ 62) ≤ j → j < 2 ^ 62 → R (Itr 0 j.toNat) H1 → iRng1I R vs H1
def iRng1 (ta : TA) : TI := fun σ H R => ta σ H fun vs H1 => iRng1I R vs H1
theorem pi_range1 {a : Expr} {ta : TA} {p pos : Pos} (hg : Gl X "range") (hm : X.mg "range" = none) (ha : PA X [a] ta) (hs : starEach [a] X.env = [(false, eval a X.env)] := by rfl) : PI X tg (.Call (.Name "range" p) [a] [] pos) (iRng1 ta) := by
  refine ⟨?_⟩
  intro pins s σ H R I h
  refine Call_ (ld_blt I hg hm boot_range (PyProof.Rows.callWith_type1 (thn (ha pos pins s σ H _ I h) fun us s1 ⟨vs, H1, I1, r1, q1⟩ => ?_) hs rfl))
  obtain ⟨j, e, q1, q2, q⟩ := q1
  subst e
  cases r1 with
  | cons r rr =>
    cases rr
    obtain ⟨t, rfl⟩ := r
    exact call_range_1 (range_it I1 (by lia) (by lia) q1 q2 (by simpa using q))
def tFor (wi : TI) (g : TG) (tb : TS) : TS := fun D σ H => wi σ H fun J H1 => ∃ W : Nat → Nat → St → Hp → Prop, (∃ m, W 0 m σ H1) ∧ ∀ i m σ H, W i m σ H →
  (J.stop i H ∧ D.nx σ H) ∨ (J.go i H ∧ ∃ N : St → Hp → Prop, (∀ σ' H', N σ' H' → ∃ m', m' < m ∧ W (i + 1) m' σ' H') ∧ ∀ x H', J.yld i H x H' → g x σ H' fun σ2 H2 => tb { D with nx := N, ct := N, bk := D.nx } σ2 H2)
def pinsAt (fp : List Addr) (h : Heap) : List (Addr × Obj) := fp.filterMap fun b => (h.get? b).map fun o => (b, o)
theorem mem_pinsAt {fp : List Addr} {h : Heap} {b : Addr} {o : Obj} (hb : b ∈ fp) (e : h.get? b = some o) : (b, o) ∈ pinsAt fp h := List.mem_filterMap.mpr ⟨b, hb, by rw [e]; rfl⟩
theorem of_pinsAt {fp : List Addr} {h : Heap} {p : Addr × Obj} (hp : p ∈ pinsAt fp h) : p.1 ∈ fp ∧ h.get? p.1 = some p.2 := by
  obtain ⟨b, hb, e⟩ := List.mem_filterMap.mp hp
  cases q : h.get? b with
  | none => rw [q] at e; cases e
  | some o =>
    rw [q] at e
    have e' : (b, o) = p := Option.some.inj e
    subst e'
    exact ⟨hb, q⟩
theorem Inv.pinned {pins : List (Addr × Obj)} {σ : St} {H : Hp} {s : Shared} {fp : List Addr} (I : Inv X pins σ H s) (hf : ∀ b ∈ fp, FpOk X pins H b) (ho : ∀ b ∈ fp, ∃ o, s.heap.get? b = some o ∧ ∀ v, o.data ≠ .cell v) : Inv X (pins ++ pinsAt fp s.heap) σ H s :=
  I.pins_of fun p hp => (List.mem_append.mp hp).elim (fun z => I.pin p (List.mem_append_right _ z)) fun z => by
    obtain ⟨hb, e⟩ := of_pinsAt z
    obtain ⟨f0, f1, f2, _⟩ := hf p.1 hb
    obtain ⟨o, e', d⟩ := ho p.1 hb
    rw [e] at e'; cases e'
    exact ⟨e, f0, f1, f2, d⟩
theorem Inv.unpinned {pins pl : List (Addr × Obj)} {σ : St} {H : Hp} {s : Shared} (I : Inv X (pins ++ pl) σ H s) : Inv X pins σ H s := I.pins_of fun p hp => I.pin p (List.mem_append_right _ (List.mem_append_left _ hp))
theorem ps_for {iter : Expr} {body : List Stmt} {wi : TI} {g : TG} {tb : TS} {pos : Pos} (hp : PassesOwn (model X.prog X.w) X.A X.env X.xe) (hc : X.calm = true) (hi : PI X tg iter wi) (hg : PG X tg g) (hb : PSs X body tb)
    (hs : ∀ x, foldedSetIterable iter X.env x = pure x := by intro _; rfl) : PS X (.For tg iter body [] pos) (tFor wi g tb) := by
  refine ⟨?_⟩
  intro pins s σ H D I h
  refine wpAny_For (thn (hi pins s σ H _ I h) fun v s1 h1 => thn h1 fun itv s2 h2 => ?_) hs
  obtain ⟨it, fp, tn, J, H2, e, I2, T, st2, f2, W, ⟨m0, w0⟩, turn⟩ := h2
  subst e
  -- what stays true of the iterator's objects through the loop
  have stat : ∀ {H' : Hp}, (∀ b ∈ fp, H' b = none) → ∀ b ∈ fp, FpOk X pins H' b := fun hn b hb => ⟨hn b hb, (f2 b hb).2⟩
  refine codeAny_forLoop_any (fun n s' => ∃ i σ' H', Inv X pins σ' H' s' ∧ tn i s'.heap ∧ (∀ b ∈ fp, H' b = none) ∧ W i n σ' H') ?_ m0 ⟨0, σ, H2, I2, st2, fun b hb => (f2 b hb).1, w0⟩
  rintro n s3 ⟨i, σ3, H3, I3, st3, fr3, w3⟩
  rcases turn i n σ3 H3 w3 with ⟨stop, qn⟩ | ⟨go, N, hN, step⟩
  · refine wpAny_passesOwn hp (thn (T.done X rfl rfl rfl hc i pins s3 σ3 H3 X.xe I3 (stat fr3) st3 stop) fun r s4 ⟨hr, I4⟩ => ?_)
    subst hr
    exact wpAny_execs_nil ⟨σ3, H3, I4, qn⟩
  · refine wpAny_passesOwn hp (thn (T.item X rfl rfl rfl hc i pins s3 σ3 H3 X.xe I3 (stat fr3) st3 go) fun r s4 ⟨u, hr, h4⟩ => ?_)
    subst hr
    refine wpAny_passesOwn hp (thn h4 fun _ s5 ⟨x, H5, I5, r5, y5, st5, fr5⟩ => ?_)
    have I5' := I5.pinned (stat fr5) (T.obj _ _ st5)
    refine wpAny_passesOwn hp (thn (hg _ s5 σ3 H5 x u _ I5' r5 (step x H5 y5)) fun _ s6 ⟨σ6, H6, I6, q6⟩ => ?_)
    refine wpAny_passesOwn hp (thn (hb _ s6 σ6 H6 _ I6 q6) fun f s7 q7 => ?_)
    have again : ∀ {σ7 : St} {H7 : Hp}, Inv X (pins ++ pinsAt fp s5.heap) σ7 H7 s7 → N σ7 H7 → ∃ m, m < n ∧ ∃ i σ' H', Inv X pins σ' H' s7 ∧ tn i s7.heap ∧ (∀ b ∈ fp, H' b = none) ∧ W i m σ' H' := fun {σ7 H7} I7 n7 => by
      obtain ⟨m', hm, w7⟩ := hN σ7 H7 n7
      refine ⟨m', hm, i + 1, σ7, H7, I7.unpinned, T.keep _ _ _ st5 fun b hb o e => (I7.pin (b, o) (List.mem_append_right _ (List.mem_append_right _ (mem_pinsAt hb e)))).1, fun b hb => ?_, w7⟩
      obtain ⟨o, e, d⟩ := T.obj _ _ st5 b hb
      exact (I7.pin (b, o) (List.mem_append_right _ (List.mem_append_right _ (mem_pinsAt hb e)))).2.1
    cases f with
    | next => obtain ⟨σ7, H7, I7, n7⟩ := q7; exact again I7 n7
    | cont => obtain ⟨σ7, H7, I7, n7⟩ := q7; exact again I7 n7
    | brk => obtain ⟨σ7, H7, I7, q7⟩ := q7; exact ⟨σ7, H7, I7.unpinned, q7⟩
    | ret v => obtain ⟨x7, σ7, H7, I7, r7, q7⟩ := q7; exact ⟨x7, σ7, H7, I7.unpinned, r7, q7⟩
end
theorem for_list {K : PySem.W.Frag} {a : Addr} {xs : List V} {g : TG} {tb : TS} {D : Ends} {σ : St} {H : Hp} (Pv : Nat → St → Hp → Prop) (h0 : Pv 0 σ H) (hl : ∀ i σ H, i ≤ xs.length → Pv i σ H → SqL K H a xs)
    (hs : ∀ i x σ H, xs[i]? = some x → Pv i σ H → g x σ H fun σ2 H2 => tb { D with nx := Pv (i + 1), ct := Pv (i + 1), bk := D.nx } σ2 H2) (hd : ∀ σ H, Pv xs.length σ H → D.nx σ H) :
    ∃ W : Nat → Nat → St → Hp → Prop, (∃ m, W 0 m σ H) ∧ ∀ i m σ H, W i m σ H →
      ((Itl K a).stop i H ∧ D.nx σ H) ∨ ((Itl K a).go i H ∧ ∃ N : St → Hp → Prop, (∀ σ' H', N σ' H' → ∃ m', m' < m ∧ W (i + 1) m' σ' H') ∧ ∀ x H', (Itl K a).yld i H x H' → g x σ H' fun σ2 H2 => tb { D with nx := N, ct := N, bk := D.nx } σ2 H2) := by
  refine ⟨fun i m σ H => m = xs.length - i ∧ i ≤ xs.length ∧ Pv i σ H, ⟨xs.length, by simp, Nat.zero_le _, h0⟩, ?_⟩
  rintro i m σ H ⟨rfl, hi, p⟩
  have q := hl i σ H hi p
  by_cases hlt : i < xs.length
  · refine .inr ⟨⟨xs, xs[i], q, by simp [hlt]⟩, Pv (i + 1), fun σ' H' p' => ⟨xs.length - (i + 1), by lia, rfl, hlt, p'⟩, fun x H' y => ?_⟩
    obtain ⟨e, y⟩ := y
    subst e
    exact hs i x σ _ (y xs q) p
  · have e : i = xs.length := by lia
    subst e
    exact .inl ⟨⟨xs, q, Nat.le_refl _⟩, hd σ H p⟩
theorem for_range {lo : Int} {n : Nat} {g : TG} {tb : TS} {D : Ends} {σ : St} {H : Hp} (Pv : Nat → St → Hp → Prop) (h0 : Pv 0 σ H)
    (hs : ∀ i σ H, i < n → Pv i σ H → g (.int (lo + i)) σ H fun σ2 H2 => tb { D with nx := Pv (i + 1), ct := Pv (i + 1), bk := D.nx } σ2 H2) (hd : ∀ σ H, Pv n σ H → D.nx σ H) :
    ∃ W : Nat → Nat → St → Hp → Prop, (∃ m, W 0 m σ H) ∧ ∀ i m σ H, W i m σ H →
      ((Itr lo n).stop i H ∧ D.nx σ H) ∨ ((Itr lo n).go i H ∧ ∃ N : St → Hp → Prop, (∀ σ' H', N σ' H' → ∃ m', m' < m ∧ W (i + 1) m' σ' H') ∧ ∀ x H', (Itr lo n).yld i H x H' → g x σ H' fun σ2 H2 => tb { D with nx := N, ct := N, bk := D.nx } σ2 H2) := by
  refine ⟨fun i m σ H => m = n - i ∧ i ≤ n ∧ Pv i σ H, ⟨n, by simp, Nat.zero_le _, h0⟩, ?_⟩
  rintro i m σ H ⟨rfl, hi, p⟩
  by_cases hlt : i < n
  · refine .inr ⟨hlt, Pv (i + 1), fun σ' H' p' => ⟨n - (i + 1), by lia, rfl, hlt, p'⟩, fun x H' y => ?_⟩
    obtain ⟨e, y⟩ := y
    subst e y
    exact hs i σ _ hlt p
  · have e : i = n := by lia
    subst e
    exact .inl ⟨Nat.le_refl _, hd σ H p⟩
end L2
namespace L2
open PySem PySem.Spec PyProof.Rows
abbrev R2 := V → V → Hp → VK → Prop
def OpR (X : Cx) (f : Value → Value → Sem Value) (r : R2) : Prop :=
  ∀ (pins : List (Addr × Obj)) (s : Shared) (σ : St) (H : Hp) (x y : V) (v u : Value) (Q : VK), Inv X pins σ H s → RelV x v → RelV y u → r x y H Q →
    wpAny (model X.prog X.w) X.A (f v u) (EP X pins σ Q) X.xe s
def UnR (X : Cx) (f : Value → Sem Value) (r : V → Hp → VK → Prop) : Prop :=
  ∀ (pins : List (Addr × Obj)) (s : Shared) (σ : St) (H : Hp) (x : V) (v : Value) (Q : VK), Inv X pins σ H s → RelV x v → r x H Q →
    wpAny (model X.prog X.w) X.A (f v) (EP X pins σ Q) X.xe s
def CallR (X : Cx) (f : Value) (r : List V → Hp → VK → Prop) : Prop :=
  ∀ (pins : List (Addr × Obj)) (s : Shared) (σ : St) (H : Hp) (xs : List V) (us : List Value) (Q : VK), Inv X pins σ H s → Vals xs us → r xs H Q →
    wpAny (model X.prog X.w) X.A (call f us) (EP X pins σ Q) X.xe s
def tOp (r : R2) (ta tb : TE) : TE := fun σ H Q => ta σ H fun x H1 => tb σ H1 fun y H2 => r x y H2 Q
def tUn (r : V → Hp → VK → Prop) (ta : TE) : TE := fun σ H Q => ta σ H fun x H1 => r x H1 Q
inductive rI (C : Int → Int → Prop) (g : Int → Int → V) (x : V) (y : V) (H : Hp) (Q : VK) : Prop
  | mk (i j : _) : x = .int i → y = .int j → C i j → Q (g i j) H → rI C g x y H Q
inductive rI0 (g : Int → Int → V) (x : V) (y : V) (H : Hp) (Q : VK) : Prop
  | mk (i j : _) : x = .int i → y = .int j → Q (g i j) H → rI0 g x y H Q
inductive rU (g : Int → V) (x : V) (H : Hp) (Q : VK) : Prop
  | mk (i : _) : x = .int i → Q (g i) H → rU g x H Q
section
variable {X : Cx} {a b c : Expr} {ta tb tc : TE} {pos : Pos}
theorem binT (ha : PE X a ta) (hb : PE X b tb) {pins : List (Addr × Obj)} {s : Shared} {σ : St} {H : Hp} {R : V → V → Hp → Prop} (I : Inv X pins σ H s)
    (h : ta σ H fun x H1 => tb σ H1 fun y H2 => R x y H2) {Q : Value → Shared → Prop} {f : Value → Value → Sem Value}
    (hf : ∀ v u s2 x y H2, Inv X pins σ H2 s2 → RelV x v → RelV y u → R x y H2 → wpAny (model X.prog X.w) X.A (f v u) Q X.xe s2) :
    wpAny (model X.prog X.w) X.A (eval a X.env) (fun v s₁ => wpAny (model X.prog X.w) X.A (eval b X.env) (fun u s₂ => wpAny (model X.prog X.w) X.A (f v u) Q X.xe s₂) X.xe s₁) X.xe s := by
  refine thn (ha pins s σ H _ I h) fun v s1 ⟨x, H1, I1, r1, q1⟩ => ?_
  refine thn (hb pins s1 σ H1 _ I1 q1) fun u s2 ⟨y, H2, I2, r2, q2⟩ => ?_
  exact hf v u s2 x y H2 I2 r1 r2 q2
theorem pe_op {op : Operator} {r : R2} (ho : OpR X (binaryOp op) r) (ha : PE X a ta) (hb : PE X b tb) : PE X (.BinOp a op b pos) (tOp r ta tb) := by
  refine ⟨?_⟩
  intro pins s σ H Q I h
  exact wpAny_BinOp (binT ha hb I h fun v u s2 x y H2 I2 rx ry q => ho pins s2 σ H2 x y v u Q I2 rx ry q)
theorem pe_un {op : UnaryOp} {r : V → Hp → VK → Prop} (ho : UnR X (unaryOp op) r) (ha : PE X a ta) : PE X (.UnaryOp op a pos) (tUn r ta) := by
  refine ⟨?_⟩
  intro pins s σ H Q I h
  exact UnaryOp_ (thn (ha pins s σ H _ I h) fun v s1 ⟨x, H1, I1, r1, q1⟩ => ho pins s1 σ H1 x v Q I1 r1 q1)
theorem opI {f : Value → Value → Sem Value} {C : Int → Int → Prop} {g : Int → Int → Int}
    (rule : ∀ (i j : Int) (t u : Tok) (s : Shared) (Q : Value → Shared → Prop) (E : Value → Shared → Prop), C i j → Q (.int (g i j) s.toks) { s with toks := s.toks + 1 } → wpAny (model X.prog X.w) X.A (f (.int i t) (.int j u)) Q E s) :
    OpR X f (rI C fun i j => .int (g i j)) := by
  intro pins s σ H x y v u Q I rx ry h
  obtain ⟨i, j, rfl, rfl, hc, q⟩ := h
  obtain ⟨t, rfl⟩ := rx
  obtain ⟨t', rfl⟩ := ry
  exact rule i j t t' s _ _ hc ⟨.int (g i j), H, I.tok _, ⟨_, rfl⟩, q⟩
theorem opI0 {f : Value → Value → Sem Value} {g : Int → Int → Int}
    (rule : ∀ (i j : Int) (t u : Tok) (s : Shared) (Q : Value → Shared → Prop) (E : Value → Shared → Prop), Q (.int (g i j) s.toks) { s with toks := s.toks + 1 } → wpAny (model X.prog X.w) X.A (f (.int i t) (.int j u)) Q E s) :
    OpR X f (rI0 fun i j => .int (g i j)) := by
  intro pins s σ H x y v u Q I rx ry h
  obtain ⟨i, j, rfl, rfl, q⟩ := h
  obtain ⟨t, rfl⟩ := rx
  obtain ⟨t', rfl⟩ := ry
  exact rule i j t t' s _ _ ⟨.int (g i j), H, I.tok _, ⟨_, rfl⟩, q⟩
theorem opB0 {f : Value → Value → Sem Value} {g : Int → Int → Bool}
    (rule : ∀ (i j : Int) (t u : Tok) (s : Shared) (Q : Value → Shared → Prop) (E : Value → Shared → Prop), Q (.bool (g i j)) s → wpAny (model X.prog X.w) X.A (f (.int i t) (.int j u)) Q E s) :
    OpR X f (rI0 fun i j => .bl (g i j)) := by
  intro pins s σ H x y v u Q I rx ry h
  obtain ⟨i, j, rfl, rfl, q⟩ := h
  obtain ⟨t, rfl⟩ := rx
  obtain ⟨t', rfl⟩ := ry
  exact rule i j t t' s _ _ ⟨.bl (g i j), H, I, rfl, q⟩
def CDiv (i j : Int) : Prop := 0 < j ∧ j < 1073741824
def CPow (i j : Int) : Prop := 0 ≤ j ∧ j ≤ 1000000 ∧ i.natAbs < 2 ^ 64
def CMul (i j : Int) : Prop := (-(2 ^ 64) < i ∧ i < 2 ^ 64) ∨ (-(2 ^ 64) < j ∧ j < 2 ^ 64)
theorem CMul.ok {i j : Int} (h : CMul i j) : IntMulOk i j := by
  rcases h with ⟨h1, h2⟩ | ⟨h1, h2⟩
  · exact .of_left (intBits_le_64 h1 h2)
  · exact .of_right (intBits_le_64 h1 h2)
theorem op_add : OpR X (binaryOp .Add) (rI0 fun i j => .int (i + j)) := opI0 fun _ _ _ _ _ _ _ q => add_int q
theorem op_sub : OpR X (binaryOp .Sub) (rI0 fun i j => .int (i - j)) := opI0 fun _ _ _ _ _ _ _ q => sub_int q
theorem op_mul : OpR X (binaryOp .Mult) (rI CMul fun i j => .int (i * j)) := opI fun _ _ _ _ _ _ _ hc q => mul_int q hc.ok
theorem op_fdiv : OpR X (binaryOp .FloorDiv) (rI CDiv fun i j => .int (i / j)) := opI fun i j _ _ _ _ _ hc q => by
  have h1 : (0 : Int) < j := hc.1
  have h2 : j < 1073741824 := hc.2
  exact floordiv_int (by lia) (by rw [Int.fdiv_eq_ediv_of_nonneg i (by lia)]; exact q) (.inl (PyProof.noPylong_small (by lia)))
theorem op_mod : OpR X (binaryOp .Mod) (rI (fun _ j => 0 < j) fun i j => .int (i % j)) := opI fun i j _ _ _ _ _ hc q => by
  have h1 : (0 : Int) < j := hc
  exact mod_int' (by lia) (by rw [Int.fmod_eq_emod_of_nonneg i (by lia)]; exact q)
theorem op_pow : OpR X (binaryOp .Pow) (rI CPow fun i j => .int (i ^ j.toNat)) := opI fun _ _ _ _ _ _ _ hc q => pow_int_small hc.1 hc.2.1 hc.2.2 q
theorem op_shl : OpR X (binaryOp .LShift) (rI CPow fun i j => .int (i * 2 ^ j.toNat)) := opI fun _ _ _ _ _ _ _ hc q => lshift_int_small hc.1 hc.2.1 hc.2.2 q
theorem unI {f : Value → Sem Value} {g : Int → Int}
    (rule : ∀ (i : Int) (t : Tok) (s : Shared) (Q : Value → Shared → Prop) (E : Value → Shared → Prop), Q (.int (g i) s.toks) { s with toks := s.toks + 1 } → wpAny (model X.prog X.w) X.A (f (.int i t)) Q E s) :
    UnR X f (rU fun i => .int (g i)) := by
  intro pins s σ H x v Q I rx h
  obtain ⟨i, rfl, q⟩ := h
  obtain ⟨t, rfl⟩ := rx
  exact rule i t s _ _ ⟨.int (g i), H, I.tok _, ⟨_, rfl⟩, q⟩
theorem un_neg : UnR X (unaryOp .USub) (rU fun i => .int (-i)) := unI fun _ _ _ _ _ q => neg_int q
end
def scal : V → V → Bool
  | .non, .non => true | .non, .int _ => true | .int _, .non => true | .non, .bl _ => true | .bl _, .non => true | .non, .str _ => true | .str _, .non => true
  | .int _, .int _ => true | .bl _, .bl _ => true | .str _, .str _ => true | .byt _, .byt _ => true
  | .int _, .str _ => true | .str _, .int _ => true | .bl _, .str _ => true | .str _, .bl _ => true
  | _, _ => false
def rEq : R2 := fun x y H Q => scal x y = true ∧ Q (.bl (decide (x = y))) H
def rNe : R2 := fun x y H Q => scal x y = true ∧ Q (.bl (!decide (x = y))) H
theorem dec_int {i j : Int} : decide (V.int i = V.int j) = (i == j) := by
  rw [Bool.eq_iff_iff]
  simp
theorem dec_bl {i j : Bool} : decide (V.bl i = V.bl j) = (i == j) := by
  rw [Bool.eq_iff_iff]
  simp
theorem dec_str {i j : Str} : decide (V.str i = V.str j) = (i == j) := by
  rw [Bool.eq_iff_iff]
  simp
theorem dec_byt {i j : Array UInt8} : decide (V.byt i = V.byt j) = (i.toList == j.toList) := by
  rw [Bool.eq_iff_iff]
  cases i
  cases j
  simp
section
variable {X : Cx} {a b c : Expr} {ta tb tc : TE} {pos : Pos}
theorem fin_bl {pins : List (Addr × Obj)} {σ : St} {H : Hp} {s : Shared} {Q : VK} {k k' : Bool} (I : Inv X pins σ H s) (q : Q (.bl k) H) (e : k = k') : EP X pins σ Q (.bool k') s := by
  subst e
  exact ⟨.bl k, H, I, rfl, q⟩
theorem op_eq : OpR X (compareOp .Eq) rEq := by
  intro pins s σ H x y v u Q I rx ry h
  obtain ⟨hs, q⟩ := h
  cases x with
  | non =>
    cases rx
    cases y with
    | non => cases ry; exact PySem.EqNone.eq_none_none (fin_bl I q (by simp))
    | bl j => cases ry; exact PySem.EqNone.eq_none_bool (fin_bl I q (by simp))
    | int j => obtain ⟨t', rfl⟩ := ry; exact PySem.EqNone.eq_none_int (fin_bl I q (by simp))
    | str j => obtain ⟨t', rfl⟩ := ry; exact PySem.EqNone.eq_none_str (fin_bl I q (by simp))
    | _ => exact absurd (show false = true from hs) Bool.false_ne_true
  | bl i =>
    cases rx
    cases y with
    | non => cases ry; exact PySem.EqNone.eq_bool_none (fin_bl I q (by simp))
    | bl j => cases ry; exact eq_bool (fin_bl I q dec_bl)
    | str j => obtain ⟨t', rfl⟩ := ry; exact PySem.EqMixed.eq_bool_str (fin_bl I q (by simp))
    | _ => exact absurd (show false = true from hs) Bool.false_ne_true
  | int i =>
    obtain ⟨t, rfl⟩ := rx
    cases y with
    | non => cases ry; exact PySem.EqNone.eq_int_none (fin_bl I q (by simp))
    | int j => obtain ⟨t', rfl⟩ := ry; exact eq_int (fin_bl I q dec_int)
    | str j => obtain ⟨t', rfl⟩ := ry; exact PySem.EqMixed.eq_int_str (fin_bl I q (by simp))
    | _ => exact absurd (show false = true from hs) Bool.false_ne_true
  | str i =>
    obtain ⟨t, rfl⟩ := rx
    cases y with
    | non => cases ry; exact PySem.EqNone.eq_str_none (fin_bl I q (by simp))
    | bl j => cases ry; exact PySem.EqMixed.eq_str_bool (fin_bl I q (by simp))
    | int j => obtain ⟨t', rfl⟩ := ry; exact PySem.EqMixed.eq_str_int (fin_bl I q (by simp))
    | str j => obtain ⟨t', rfl⟩ := ry; exact eq_str (fin_bl I q dec_str)
    | _ => exact absurd (show false = true from hs) Bool.false_ne_true
  | byt i =>
    obtain ⟨t, rfl⟩ := rx
    cases y with
    | byt j => obtain ⟨t', rfl⟩ := ry; exact PySem.W.eq_bytes (fin_bl I q dec_byt)
    | _ => exact absurd (show false = true from hs) Bool.false_ne_true
  | _ => cases y <;> exact absurd (show false = true from hs) Bool.false_ne_true
theorem op_ne : OpR X (compareOp .NotEq) rNe := by
  intro pins s σ H x y v u Q I rx ry h
  obtain ⟨hs, q⟩ := h
  cases x with
  | non =>
    cases rx
    cases y with
    | non => cases ry; exact PySem.EqNone.ne_none_none (fin_bl I q (by simp))
    | bl j => cases ry; exact PySem.EqNone.ne_none_bool (fin_bl I q (by simp))
    | int j => obtain ⟨t', rfl⟩ := ry; exact PySem.EqNone.ne_none_int (fin_bl I q (by simp))
    | str j => obtain ⟨t', rfl⟩ := ry; exact PySem.EqNone.ne_none_str (fin_bl I q (by simp))
    | _ => exact absurd (show false = true from hs) Bool.false_ne_true
  | bl i =>
    cases rx
    cases y with
    | non => cases ry; exact PySem.EqNone.ne_bool_none (fin_bl I q (by simp))
    | bl j => cases ry; exact ne_bool (fin_bl I q (congrArg not dec_bl))
    | str j => obtain ⟨t', rfl⟩ := ry; exact PySem.EqMixed.ne_bool_str (fin_bl I q (by simp))
    | _ => exact absurd (show false = true from hs) Bool.false_ne_true
  | int i =>
    obtain ⟨t, rfl⟩ := rx
    cases y with
    | non => cases ry; exact PySem.EqNone.ne_int_none (fin_bl I q (by simp))
    | int j => obtain ⟨t', rfl⟩ := ry; exact ne_int (fin_bl I q (congrArg not dec_int))
    | str j => obtain ⟨t', rfl⟩ := ry; exact PySem.EqMixed.ne_int_str (fin_bl I q (by simp))
    | _ => exact absurd (show false = true from hs) Bool.false_ne_true
  | str i =>
    obtain ⟨t, rfl⟩ := rx
    cases y with
    | non => cases ry; exact PySem.EqNone.ne_str_none (fin_bl I q (by simp))
    | bl j => cases ry; exact PySem.EqMixed.ne_str_bool (fin_bl I q (by simp))
    | int j => obtain ⟨t', rfl⟩ := ry; exact PySem.EqMixed.ne_str_int (fin_bl I q (by simp))
    | str j => obtain ⟨t', rfl⟩ := ry; exact ne_str (fin_bl I q (congrArg not dec_str))
    | _ => exact absurd (show false = true from hs) Bool.false_ne_true
  | byt i =>
    obtain ⟨t, rfl⟩ := rx
    cases y with
    | byt j => obtain ⟨t', rfl⟩ := ry; exact PySem.W.ne_bytes (fin_bl I q (congrArg not dec_byt))
    | _ => exact absurd (show false = true from hs) Bool.false_ne_true
  | _ => cases y <;> exact absurd (show false = true from hs) Bool.false_ne_true
theorem op_lt : OpR X (compareOp .Lt) (rI0 fun i j => .bl (decide (i < j))) := opB0 fun _ _ _ _ _ _ _ q => lt_int q
theorem op_le : OpR X (compareOp .LtE) (rI0 fun i j => .bl (decide (i ≤ j))) := opB0 fun _ _ _ _ _ _ _ q => le_int q
theorem op_gt : OpR X (compareOp .Gt) (rI0 fun i j => .bl (decide (j < i))) := opB0 fun _ _ _ _ _ _ _ q => gt_int q
theorem op_ge : OpR X (compareOp .GtE) (rI0 fun i j => .bl (decide (j ≤ i))) := opB0 fun _ _ _ _ _ _ _ q => ge_int q
theorem nomark (b : Expr) {op : CmpOp} (h : op ≠ .In := by decide) (h2 : op ≠ .NotIn := by decide) : behindInMarks op b = false := by
  have e1 : (op == CmpOp.In) = false := by cases op <;> first | rfl | exact absurd rfl h
  have e2 : (op == CmpOp.NotIn) = false := by cases op <;> first | rfl | exact absurd rfl h2
  cases b <;> simp [behindInMarks, e1, e2]
theorem pe_cmpR {op : CmpOp} {r : R2} (ho : OpR X (compareOp op) r) (ha : PE X a ta) (hb : PE X b tb) (hm : behindInMarks op b = false) : PE X (.Compare a [op] [b] pos) (tOp r ta tb) := by
  refine ⟨?_⟩
  intro pins s σ H Q I h
  exact wpAny_Compare1 (binT ha hb I h fun v u s2 x y H2 I2 rx ry q => ho pins s2 σ H2 x y v u Q I2 rx ry q) hm
inductive tTestI (Q : Bool → Hp → Prop) (x : V) (H' : Hp) : Prop
  | mk (k : _) : x = .bl k → Q k H' → tTestI Q x H'
def tTest (t : TE) : TT := fun σ H Q => t σ H fun x H' => tTestI Q x H'
theorem pt_cmpR {op : CmpOp} {r : R2} (ho : OpR X (compareOp op) r) (ha : PE X a ta) (hb : PE X b tb) (hm : behindInMarks op b = false) : PT X (.Compare a [op] [b] pos) (tTest (tOp r ta tb)) := by
  refine ⟨?_⟩
  intro pins s σ H Q I h
  refine wpAny_isTrue_Compare1 (thn (ha pins s σ H _ I h) fun v s1 ⟨x, H1, I1, r1, q1⟩ => thn (hb pins s1 σ H1 _ I1 q1) fun u s2 ⟨y, H2, I2, r2, q2⟩ =>
    thn (ho pins s2 σ H2 x y v u _ I2 r1 r2 q2) fun c s3 ⟨z, H3, I3, r3, k, e, q3⟩ => ?_) hm
  subst e
  cases r3
  exact wpAny_truthy_bool ⟨H3, I3, q3⟩
inductive tChainI (r' : R2) (tc : TE) (σ : St) (Q : VK) (y : V) (z : V) (H3 : Hp) : Prop
  | mk (k : _) : z = .bl k → (if k = true then tc σ H3 fun w' H4 => r' y w' H4 Q else Q (.bl false) H3) → tChainI r' tc σ Q y z H3
def tChain (r r' : R2) (ta tb tc : TE) : TE := fun σ H Q => ta σ H fun x H1 => tb σ H1 fun y H2 => r x y H2 fun z H3 => tChainI r' tc σ Q y z H3
theorem pe_chain {op op' : CmpOp} {r r' : R2} (ho : OpR X (compareOp op) r) (ho' : OpR X (compareOp op') r') (ha : PE X a ta) (hb : PE X b tb) (hc : PE X c tc)
    (hm : lastMarks [op, op'] [b, c] = false := by with_unfolding_all rfl) : PE X (.Compare a [op, op'] [b, c] pos) (tChain r r' ta tb tc) := by
  refine ⟨?_⟩
  intro pins s σ H Q I h
  refine Compare_chain (thn (ha pins s σ H _ I h) fun v s1 ⟨x, H1, I1, r1, q1⟩ => chain_link (thn (hb pins s1 σ H1 _ I1 q1) fun u s2 ⟨y, H2, I2, r2, q2⟩ =>
    thn (ho pins s2 σ H2 x y v u _ I2 r1 r2 q2) fun d s3 ⟨z, H3, I3, r3, k, e, q3⟩ => ?_)) hm
  subst e
  cases r3
  refine wpAny_truthy_bool ?_
  cases k with
  | false => exact ite_ff ⟨.bl false, H3, I3, rfl, q3⟩
  | true => exact ite_tt (chain_last (thn (hc pins s3 σ H3 _ I3 q3) fun w' s4 ⟨z', H4, I4, r4, q4⟩ => ho' pins s4 σ H4 y z' u w' Q I4 r2 r4 q4))
theorem line63 : (sizeLine : Nat) < 2 ^ 63 := by rw [sizeLine_eq]; decide
theorem op_add_str : OpR X (binaryOp .Add) (fun x y H Q => ∃ i j, x = .str i ∧ y = .str j ∧ i.length + j.length ≤ sizeLine ∧ Q (.str (i ++ j)) H) := by
  intro pins s σ H x y v u Q I rx ry h
  obtain ⟨i, j, rfl, rfl, hz, q⟩ := h
  obtain ⟨t, rfl⟩ := rx
  obtain ⟨t', rfl⟩ := ry
  exact add_str (fun t' tk => ⟨.str (i ++ j), H, I.tok _, ⟨_, rfl⟩, q⟩) hz
theorem vals1 {x : V} {us : List Value} (r : Vals [x] us) : ∃ u, us = [u] ∧ RelV x u := by
  cases r with
  | cons r1 r2 => cases r2; exact ⟨_, rfl, r1⟩
theorem vals2 {x y : V} {us : List Value} (r : Vals [x, y] us) : ∃ u w', us = [u, w'] ∧ RelV x u ∧ RelV y w' := by
  cases r with
  | cons r1 r2 =>
    cases r2 with
    | cons r3 r4 => cases r4; exact ⟨_, _, rfl, r1, r3⟩
theorem call_max2 (hc : X.calm = true) : CallR X (.builtin "max") (fun xs H Q => ∃ i j, xs = [.int i, .int j] ∧ Q (.int (if j > i then j else i)) H) := by
  intro pins s σ H xs us Q I r h
  obtain ⟨i, j, rfl, q⟩ := h
  obtain ⟨u, w', rfl, ⟨t, rfl⟩, ⟨t', rfl⟩⟩ := vals2 r
  refine max_two_ints (I.ok.hd hc) fun h' tk k => ⟨_, H, I.kept k, ?_, q⟩
  by_cases hj : j > i
  · rw [if_pos hj, if_pos hj]; exact ⟨_, rfl⟩
  · rw [if_neg hj, if_neg hj]; exact ⟨_, rfl⟩
theorem call_min2 (hc : X.calm = true) : CallR X (.builtin "min") (fun xs H Q => ∃ i j, xs = [.int i, .int j] ∧ Q (.int (if j < i then j else i)) H) := by
  intro pins s σ H xs us Q I r h
  obtain ⟨i, j, rfl, q⟩ := h
  obtain ⟨u, w', rfl, ⟨t, rfl⟩, ⟨t', rfl⟩⟩ := vals2 r
  refine min_two_ints (I.ok.hd hc) fun h' tk k => ⟨_, H, I.kept k, ?_, q⟩
  by_cases hj : j < i
  · rw [if_pos hj, if_pos hj]; exact ⟨_, rfl⟩
  · rw [if_neg hj, if_neg hj]; exact ⟨_, rfl⟩
theorem call_int1 : CallR X (.type "int") (fun xs H Q => (∃ i, xs = [.int i] ∧ Q (.int i) H) ∨ ∃ k, xs = [.bl k] ∧ Q (.int (if k then 1 else 0)) H) := by
  intro pins s σ H xs us Q I r h
  rcases h with ⟨i, rfl, q⟩ | ⟨k, rfl, q⟩
  · obtain ⟨u, rfl, t, rfl⟩ := vals1 r
    exact call_int_int ⟨.int i, H, I, ⟨_, rfl⟩, q⟩
  · obtain ⟨u, rfl, r1⟩ := vals1 r
    cases r1
    exact call_int_bool ⟨.int (if k then 1 else 0), H, I.tok _, ⟨_, rfl⟩, q⟩
theorem call_str_int : CallR X (.type "str") (fun xs H Q => ∃ i, xs = [.int i] ∧ i.natAbs.log2 < 1920 ∧ Q (.str (toString i)) H) := by
  intro pins s σ H xs us Q I r h
  obtain ⟨i, rfl, hz, q⟩ := h
  obtain ⟨u, rfl, t, rfl⟩ := vals1 r
  exact PySem.P.str_of_int hz ⟨.str _, H, I.tok _, ⟨_, rfl⟩, q⟩
end
end L2
namespace L2
open PySem PySem.Spec PyProof.Rows
structure ObjM (h : Heap) (x dx C : Addr) (mA : Str → Option Value) : Prop where
  obj : h.get? x = some (PySem.W.instObj C dx)
  ns : h.Ns1 dx mA
  ne : dx ≠ x
theorem lookIn_ns {h : Heap} {dx : Addr} {mA : Str → Option Value} (n : h.Ns1 dx mA) : ∃ od, h.get? dx = some od ∧ ∀ name, PySem.W.lookIn name od = some (mA name) := by
  obtain ⟨o, es, ep, ho, hd, hk, _, hm⟩ := n
  refine ⟨o, ho, fun name => ?_⟩
  have e := hm name
  unfold nsFind findBy at e
  rw [← Array.find?_toList] at e
  unfold PySem.W.lookIn
  rw [hd]
  dsimp only
  split
  · rename_i y q
    rw [q] at e
    exact congrArg some e
  · rename_i q
    rw [q] at e
    have a : es.toList.any (·.refKey) = false := by
      rw [List.any_eq_false]
      intro y hy
      obtain ⟨z, t, hkey⟩ := hk y (Array.mem_toList_iff.mp hy)
      simp [DictEntry.refKey, hkey]
    have a' : ¬ es.toList.any (·.refKey) = true := by rw [a]; exact Bool.false_ne_true
    rw [if_neg a']
    exact congrArg some e
theorem ObjM.look {h : Heap} {x dx C : Addr} {mA : Str → Option Value} (I : ObjM h x dx C mA) : ∃ od, PySem.W.InstAt h x (PySem.W.instObj C dx) C (some od) ∧ ∀ name, PySem.W.lookIn name od = some (mA name) :=
  let ⟨od, ho, hl⟩ := lookIn_ns I.ns
  ⟨od, ⟨I.obj, rfl, rfl, ho⟩, hl⟩
section
variable {prog : Program} {w : World} {A : Around} {E : Value → Shared → Prop} {s : Shared} {K : PySem.W.Frag} {x dx C f : Addr} {mA : Str → Option Value} {name : Str} {v : Value}
theorem get_map {expr : Bool} {Q : Value → Shared → Prop} (X : K.In s.heap) (I : ObjM s.heap x dx C mA) (hg : PySem.W.plainGet K C name = true) (hh : PySem.W.hasDictIn K C = true)
    (ha : PySem.W.findIn K (.ref C) name = some none) (hv : mA name = some v) (hv' : PySem.W.handedIn v = true) (h : Q v { s with toks := s.toks + 1 }) :
    wpAny (model prog w) A (getAttr (.ref x) name expr) Q E s := by
  obtain ⟨od, J, hl⟩ := I.look
  exact PySem.W.get_value X J (PySem.W.plainGet_of hg).1 (PySem.W.findObj_own hh ha rfl (by rw [hl, hv])) hv' h
theorem get_meth {pl : Sem Bool} {Q : Value × List Value → Shared → Prop} (X : K.In s.heap) (I : ObjM s.heap x dx C mA) (hg : PySem.W.plainGet K C name = true)
    (hf : PySem.W.findIn K (.ref C) name = some (some (.ref f))) (ht : PySem.W.isFn K (.ref f) = true) (hv : mA name = none) (h : Q (.ref f, [.ref x]) s) :
    wpAny (model prog w) A (getMethod (.ref x) name pl) Q E s := by
  obtain ⟨od, J, hl⟩ := I.look
  exact PySem.W.method_fn X J (PySem.W.plainGet_of hg).1 (PySem.W.plainGet_of hg).2 hf (beq_iff_eq.mp ht) (by show (PySem.W.lookIn name od).map (·.isSome) = some false; rw [hl, hv]; rfl) h
theorem set_map {ns : List Str} {Q : Unit → Shared → Prop} (X : K.In s.heap) (I : ObjM s.heap x dx C mA)
    (hs : PySem.W.findIn K (.ref C) "__setattr__" = some (some (.builtin "object.__setattr__"))) (hp : PySem.W.plainOver K C = true) (ht : PySem.W.takerIn K C name = some none) (hh : PySem.W.hasDictIn K C = true)
    (hw : PySem.Within mA ns) (hsz : ns.length ≤ sizeLine)
    (h : ∀ h', ObjM h' x dx C (fun y => if y = name then some v else mA y) → Heap.SameBut dx s.heap h' → Q () { s with heap := h', toks := s.toks + 2 }) :
    wpAny (model prog w) A (setAttr (.ref x) name v) Q E s := by
  obtain ⟨od, J, hl⟩ := I.look
  refine PySem.W.set_plain X J hs (PySem.W.osa_open (s := { s with toks := s.toks + 1 }) (r := none) X J hp ht fun b => ?_)
  obtain ⟨cd, hc, hd'⟩ := PySem.W.any_some hh
  have hx : s.heap.get? x = some ⟨.ref C, some dx, .plain, #[]⟩ := I.obj
  refine wpAny_bind (wpAny_pure (wpAny_bind (wpAny_bind (wpAny_loadPart hx (wpAny_bind (PySem.W.Looks.here (s := { s with toks := s.toks + 1 }) (PySem.W.looks_clsIn X hc) ?_))))))
  rw [hd']
  refine wpAny_pure (a := some dx) (wpAny_bind (wpAny_pure (wpAny_bind ?_)))
  refine wpAny_nsSet1 (s := { s with toks := s.toks + 1 }) I.ns fun h' hn2 hs2 => ?_
  obtain ⟨oD, esD, epD, hoD, hdD, hcD⟩ := hn2.count (PySem.Within.cons name v hw)
  refine wpAny_bind (wpAny_lookBehind hoD (by rw [hdD]; exact pastItsLine_dict (Nat.le_trans hcD (by rw [List.length_cons]; lia))) ?_)
  exact wpAny_pure (h _ ⟨(hs2.2 _ (Ne.symm I.ne)).trans I.obj, hn2, I.ne⟩ hs2)
theorem make_map {R : Result → Shared → Prop} {vs : List Value} {kw : List (Str × Value)} (X : K.In s.heap) (hm : PySem.W.makesIn K C = true)
    (hi : PySem.W.findIn K (.ref C) "__init__" = some (some (.ref f))) (hf : PySem.W.typeIn K (.ref f) = some (.type "function"))
    (h : codeAny (model prog w) (A.under (.builtin "type.__call__" ⟨.ref C :: vs, kw⟩)) (.call (.ref f) ⟨.ref (s.heap.objs.size + 1) :: vs, kw⟩) (PySem.W.InitBack (s.heap.objs.size + 1) R)
      { s with heap := (s.heap.push PySem.W.emptyDict).push (PySem.W.instObj C s.heap.objs.size) }) :
    codeAny (model prog w) A (.call (.ref C) ⟨vs, kw⟩) R s := by
  obtain ⟨hh, g, d, t, os⟩ := s
  exact PySem.W.make_core (PySem.W.makes_of X hm) (PySem.W.looks_findIn X hi) (fun self => PySem.W.bind_fn X self hf) (.inl rfl) h
end
def putF (f : Str) (v : V) : List (Str × V) → List (Str × V)
  | [] => [(f, v)]
  | (g, x) :: r => if g = f then (g, v) :: r else (g, x) :: putF f v r
theorem lookup_putF (f g : Str) (v : V) : ∀ fs : List (Str × V), (putF f v fs).lookup g = if g = f then some v else fs.lookup g
  | [] => by
    show List.lookup g [(f, v)] = _
    by_cases h : g = f
    · have hb : (g == f) = true := beq_iff_eq.mpr h
      simp only [List.lookup, hb, if_pos h]
    · have hb : (g == f) = false := beq_eq_false_iff_ne.mpr h
      simp only [List.lookup, hb, if_neg h]
  | (k, x) :: r => by
    have ih := lookup_putF f g v r
    rw [show putF f v ((k, x) :: r) = (if k = f then (k, v) :: r else (k, x) :: putF f v r) from rfl]
    by_cases hk : k = f
    · rw [if_pos hk]
      by_cases h : g = k
      · have hb : (g == k) = true := beq_iff_eq.mpr h
        simp only [List.lookup, hb, if_pos (h.trans hk)]
      · have hb : (g == k) = false := beq_eq_false_iff_ne.mpr h
        simp only [List.lookup, hb, if_neg (fun e : g = f => h (e.trans hk.symm))]
    · rw [if_neg hk]
      by_cases h : g = k
      · have hb : (g == k) = true := beq_iff_eq.mpr h
        simp only [List.lookup, hb, if_neg (fun e : g = f => hk (h.symm.trans e))]
      · have hb : (g == k) = false := beq_eq_false_iff_ne.mpr h
        simp only [List.lookup, hb]
        exact ih
theorem keys_putF (f : Str) (v : V) : ∀ fs : List (Str × V), f ∈ (putF f v fs).map (·.1) ∧ ∀ g, g ∈ fs.map (·.1) → g ∈ (putF f v fs).map (·.1)
  | [] => ⟨by simp [putF], fun g h => by simp at h⟩
  | (k, x) :: r => by
    obtain ⟨i1, i2⟩ := keys_putF f v r
    rw [show putF f v ((k, x) :: r) = (if k = f then (k, v) :: r else (k, x) :: putF f v r) from rfl]
    by_cases hk : k = f
    · rw [if_pos hk]
      subst hk
      exact ⟨by simp, fun g h => by simpa using h⟩
    · rw [if_neg hk]
      refine ⟨?_, fun g h => ?_⟩
      · rw [List.map_cons]
        exact List.mem_cons_of_mem _ i1
      · rw [List.map_cons] at h ⊢
        rcases List.mem_cons.mp h with e | e
        · exact List.mem_cons.mpr (.inl e)
        · exact List.mem_cons_of_mem _ (i2 g e)
theorem length_putF (f : Str) (v : V) : ∀ fs : List (Str × V), (putF f v fs).length ≤ fs.length + 1
  | [] => by simp [putF]
  | (k, x) :: r => by
    have ih := length_putF f v r
    rw [show putF f v ((k, x) :: r) = (if k = f then (k, v) :: r else (k, x) :: putF f v r) from rfl]
    by_cases hk : k = f
    · rw [if_pos hk, List.length_cons, List.length_cons]; lia
    · rw [if_neg hk, List.length_cons, List.length_cons]; lia
theorem RelO.some_of {v : V} {o : Option Value} (r : RelO (some v) o) : ∃ u, o = some u ∧ RelV v u := by
  cases o with
  | none => exact (show False from r).elim
  | some u => exact ⟨u, rfl, r⟩
theorem RelO.none_of {o : Option Value} (r : RelO none o) : o = none := by
  cases o with
  | none => rfl
  | some u => exact (show False from r).elim
theorem handed_of {v : V} {u : Value} (r : RelV v u) : PySem.W.handedIn u = true := by
  cases v with
  | non => cases (show u = Value.none from r); rfl
  | bl b => cases (show u = Value.bool b from r); rfl
  | int i => obtain ⟨t, e⟩ := (show ∃ t, u = Value.int i t from r); cases e; rfl
  | str x => obtain ⟨t, e⟩ := (show ∃ t, u = Value.str x t from r); cases e; rfl
  | byt b => obtain ⟨t, e⟩ := (show ∃ t, u = Value.bytes b t from r); cases e; rfl
  | flt b => obtain ⟨t, e⟩ := (show ∃ t, u = Value.float b t from r); cases e; rfl
  | ref a => cases (show u = Value.ref a from r); rfl
  | ty n => cases (show u = Value.type n from r); rfl
section
variable {P : Program} {w : World} {H H' : Hp} {h h' : Heap} {a C dx : Addr} {fs fs' : List (Str × V)}
theorem ins_get (hok : HOk P w H h) (e : H a = some (.ins C dx fs)) : ∃ mA, ObjM h a dx C mA ∧ (∀ f, RelO (fs.lookup f) (mA f)) ∧ PySem.Within mA (fs.map (·.1)) ∧ fs.length ≤ 1000 ∧ H dx = some (.own a) := by
  obtain ⟨d, z, ne, ob, mA, n, r, q⟩ := (show ObjOk P w H h a (.ins C dx fs) from hok a _ e)
  exact ⟨mA, ⟨ob, n, ne⟩, r, q, z, d⟩
end
structure Cls (K : PySem.W.Frag) (C : Addr) : Prop where
  pg : PySem.W.plainGet K C Str.empty = true
  hd : PySem.W.hasDictIn K C = true
  po : PySem.W.plainOver K C = true
  sa : PySem.W.findIn K (.ref C) "__setattr__" = some (some (.builtin "object.__setattr__"))
theorem Cls.get {K : PySem.W.Frag} {C : Addr} (c : Cls K C) (f : Str) : PySem.W.plainGet K C f = true := c.pg
def NoAttr (K : PySem.W.Frag) (C : Addr) (f : Str) : Prop := PySem.W.findIn K (.ref C) f = some none
theorem NoAttr.taker {K : PySem.W.Frag} {C : Addr} {f : Str} (n : NoAttr K C f) : PySem.W.takerIn K C f = some none := by
  unfold PySem.W.takerIn
  rw [show PySem.W.findIn K (.ref C) f = some none from n]
  rfl
structure Meth (K : PySem.W.Frag) (C : Addr) (m : Str) (f : Addr) : Prop where
  at_ : PySem.W.findIn K (.ref C) m = some (some (.ref f))
  fn : PySem.W.isFn K (.ref f) = true
  kp : PySem.W.keepIn K (.ref f) = true
section
variable {X : Cx} {pins : List (Addr × Obj)} {σ : St} {H : Hp} {s : Shared} {a C dx : Addr} {fs : List (Str × V)} {f : Str} {v : V} {A : Around} {E : Value → Shared → Prop}
theorem getattr_ok {b : Bool} {Q : Value → Shared → Prop} (I : Inv X pins σ H s) (e : H a = some (.ins C dx fs)) (c : Cls X.K C) (n : NoAttr X.K C f) (l : fs.lookup f = some v)
    (h : ∀ u s', Inv X pins σ H s' → RelV v u → Q u s') : wpAny (model X.prog X.w) A (getAttr (.ref a) f b) Q E s := by
  obtain ⟨mA, O, r, _, _, _⟩ := ins_get I.hok e
  obtain ⟨u, hu, ru⟩ := RelO.some_of (v := v) (o := mA f) (by rw [← l]; exact r f)
  exact get_map I.kIn O (c.get f) c.hd n hu (handed_of ru) (h u _ (I.tok _) ru)
theorem getmeth_ok {m : Str} {g : Addr} {pl : Sem Bool} {Q : Value × List Value → Shared → Prop} (I : Inv X pins σ H s) (e : H a = some (.ins C dx fs)) (c : Cls X.K C) (k : Meth X.K C m g) (l : fs.lookup m = none)
    (h : Q (.ref g, [.ref a]) s) : wpAny (model X.prog X.w) A (getMethod (.ref a) m pl) Q E s := by
  obtain ⟨mA, O, r, _, _, _⟩ := ins_get I.hok e
  have hn : mA m = none := RelO.none_of (by rw [← l]; exact r m)
  exact get_meth I.kIn O (c.get m) k.at_ k.fn hn h
theorem setattr_ok {y : V} {u : Value} {Q : Unit → Shared → Prop} (I : Inv X pins σ H s) (e : H a = some (.ins C dx fs)) (c : Cls X.K C) (n : NoAttr X.K C f) (hl : fs.length < 1000) (ry : RelV y u)
    (h : ∀ s', Inv X pins σ (upd H a (.ins C dx (putF f y fs))) s' → Q () s') : wpAny (model X.prog X.w) A (setAttr (.ref a) f u) Q E s := by
  obtain ⟨mA, O, r, wi, _, ho⟩ := ins_get I.hok e
  have hz : (fs.map (·.1)).length ≤ sizeLine := by rw [List.length_map, sizeLine_eq]; lia
  refine set_map I.kIn O c.sa c.po n.taker c.hd wi hz fun h' O' sb => h _ ?_
  have hd : ∃ o, h'.get? dx = some o := let ⟨o, _, _, e', _⟩ := O'.ns; ⟨o, e'⟩
  refine I.write (x := a) (e := dx) (by rw [e]; exact True.intro) (.inr ho) (fun b q hb z => (sb.2 b hb).trans z) hd ?_
  refine ⟨by rw [upd_ne O.ne]; exact ho, ?_, O.ne, O'.obj, _, O'.ns, fun g => ?_, fun g hg => ?_⟩
  · have := length_putF f y fs; lia
  · show RelO ((putF f y fs).lookup g) (if g = f then some u else mA g)
    rw [lookup_putF]
    by_cases q : g = f
    · rw [if_pos q, if_pos q]; exact ry
    · rw [if_neg q, if_neg q]; exact r g
  · by_cases q : g = f
    · rw [q]; exact (keys_putF f y fs).1
    · refine (keys_putF f y fs).2 g (wi g fun z => hg ?_)
      show (if g = f then some u else mA g) = none
      rw [if_neg q]; exact z
theorem Inv.made (I : Inv X pins σ H s) : Inv X pins σ (upd (upd H s.heap.objs.size (.own (s.heap.objs.size + 1))) (s.heap.objs.size + 1) (.ins C s.heap.objs.size []))
    { s with heap := (s.heap.push PySem.W.emptyDict).push (PySem.W.instObj C s.heap.objs.size) } := by
  have e1 : (s.heap.push PySem.W.emptyDict).get? s.heap.objs.size = some PySem.W.emptyDict := Heap.get?_push_size s.heap rfl
  have e2 : ((s.heap.push PySem.W.emptyDict).push (PySem.W.instObj C s.heap.objs.size)).get? (s.heap.objs.size + 1) = some (PySem.W.instObj C s.heap.objs.size) := by
    have := Heap.get?_push_size (s.heap.push PySem.W.emptyDict) (o := PySem.W.instObj C s.heap.objs.size) rfl
    rwa [Heap.size_push] at this
  have e3 : (s.heap.push PySem.W.emptyDict).Ns s.heap.objs.size (fun _ => none) := ⟨PySem.W.emptyDict, #[], _, e1, rfl, (fun e he => absurd he (by simp)), fun _ => rfl⟩
  have I1 := I.laid (a := s.heap.objs.size) (o := .own (s.heap.objs.size + 1)) (h' := s.heap.push PySem.W.emptyDict) (t' := s.toks) (fun b u q => Heap.get?_push_of_some _ q) (Nat.le_refl _) ⟨_, e1⟩
  refine I1.laid (a := s.heap.objs.size + 1) (o := .ins C s.heap.objs.size []) (t' := s.toks) (fun b u q => Heap.get?_push_of_some _ q) (Nat.le_of_eq (Heap.size_push _ _)) ?_
  have ne : s.heap.objs.size ≠ s.heap.objs.size + 1 := Nat.ne_of_lt (Nat.lt_succ_self _)
  refine ⟨by rw [upd_ne ne, upd_same], Nat.zero_le _, ne, e2, fun _ => none, (Heap.Ns1.of_empty e3).at fun o q => Heap.get?_push_of_some _ q, fun _ => True.intro, fun y hy => absurd rfl hy⟩
theorem attr_of {prog : Program} {w : World} {env : Env} {e : Expr} {f : Str} {pos : Pos} {s : Shared} {Q : Value → Shared → Prop} (hb : attributeBase e f env (eval e env) = eval e env)
    (h : wpAny (model prog w) A (eval e env) (fun o s₁ => wpAny (model prog w) A (getAttr o f true) Q E s₁) E s) : wpAny (model prog w) A (eval (.Attribute e f pos) env) Q E s :=
  Attribute_any_ h (by rw [arm_eval_Attribute, hb])
end
inductive tFldI (K : PySem.W.Frag) (f : Str) (Q : VK) (x : V) (H1 : Hp) : Prop
  | mk (a C dx fs v : _) : x = .ref a → H1 a = some (.ins C dx fs) → Cls K C → NoAttr K C f → fs.lookup f = some v → Q v H1 → tFldI K f Q x H1
def tFld (K : PySem.W.Frag) (ta : TE) (f : Str) : TE := fun σ H Q => ta σ H fun x H1 => tFldI K f Q x H1
inductive sFldI (K : PySem.W.Frag) (f : Str) (D : Ends) (σ : St) (y : V) (x : V) (H2 : Hp) : Prop
  | mk (a C dx fs : _) : x = .ref a → H2 a = some (.ins C dx fs) → Cls K C → NoAttr K C f → fs.length < 1000 → D.nx σ (upd H2 a (.ins C dx (putF f y fs))) → sFldI K f D σ y x H2
def sFld (K : PySem.W.Frag) (ta tv : TE) (f : Str) : TS := fun D σ H => tv σ H fun y H1 => ta σ H1 fun x H2 => sFldI K f D σ y x H2
section
variable {X : Cx} {o e value : Expr} {f : Str} {pos pos' tpos : Pos} {ta tv : TE}
theorem pe_fld (he : PE X e ta) (hb : attributeBase e f X.env (eval e X.env) = eval e X.env) : PE X (.Attribute e f pos) (tFld X.K ta f) := by
  refine ⟨?_⟩
  intro pins s σ H Q I h
  refine attr_of hb (thn (he pins s σ H _ I h) fun u s1 ⟨x, H1, I1, rx, a, C, dx, fs, v, ex, ea, c, n, l, q⟩ => ?_)
  subst ex
  obtain rfl : u = Value.ref a := rx
  exact getattr_ok I1 ea c n l fun u' s2 I2 ru => ⟨v, H1, I2, ru, q⟩
theorem ps_fld (ha : PE X o ta) (hv : PE X value tv) (hs : swapsWith value (some (.Attribute o f pos')) pos.line X.env = pure false) : PS X (.Assign [.Attribute o f pos'] value pos) (sFld X.K ta tv f) := by
  refine ⟨?_⟩
  intro pins s σ H D I h
  refine plainObj_wpAny_Assign_Attribute (thn (hv pins s σ H _ I h) fun u s1 ⟨y, H1, I1, ry, q⟩ => thn (ha pins s1 σ H1 _ I1 q) fun ov s2 ⟨x, H2, I2, rx, a, C, dx, fs, ex, ea, c, n, l, q2⟩ => ?_) hs
  subst ex
  obtain rfl : ov = Value.ref a := rx
  exact setattr_ok I2 ea c n l ry fun s3 I3 => ⟨σ, _, I3, q2⟩
end
section
variable {X : Cx} {pins : List (Addr × Obj)} {σ : St} {H : Hp} {s : Shared} {A : Around} {E : Value → Shared → Prop} {Q : Value → Shared → Prop} {c : Value} {b : Bool}
inductive TyOf (K : PySem.W.Frag) (H : Hp) : V → Value → Prop where
  | non : TyOf K H .non (.type "NoneType")
  | bl (x : Bool) : TyOf K H (.bl x) (.type "bool")
  | int (i : Int) : TyOf K H (.int i) (.type "int")
  | str (x : Str) : TyOf K H (.str x) (.type "str")
  | flt (x : UInt64) : TyOf K H (.flt x) (.type "float")
  | lst {a : Addr} {xs : List V} (e : H a = some (.lst xs)) : TyOf K H (.ref a) (.type "list")
  | frz {a : Addr} {o : Obj} {xs : List V} (e : H a = some (.frz o (.lst xs))) : TyOf K H (.ref a) (.type "list")
  | tup {a : Addr} {xs : List V} (e : H a = some (.tup xs)) : TyOf K H (.ref a) (.type "tuple")
  | dK {a : Addr} {kvs : List (Key × V)} (e : H a = some (.dK kvs)) : TyOf K H (.ref a) (.type "dict")
  | dT {a : Addr} {kvs : List (List Key × V)} (e : H a = some (.dT kvs)) : TyOf K H (.ref a) (.type "dict")
  | ins {a C dx : Addr} {fs : List (Str × V)} (e : H a = some (.ins C dx fs)) (cl : Cls K C) (ha : PySem.W.findIn K (.ref C) "__class__" = some (some (.builtin "object.__class__")))
      (hn : PySem.W.specialIn K (.builtin "object.__class__") "__get__" = some (some (.builtin "getset_descriptor.__get__"))) (htk : PySem.W.takesIn K (.builtin "object.__class__") = some true)
      (hm : PySem.W.mroIn K C (.type "object") = some true) : TyOf K H (.ref a) (.ref C)
theorem isinst_ok {x : V} {u t : Value} (I : Inv X pins σ H s) (rx : RelV x u) (ty : TyOf X.K H x t) (e : PySem.W.kitOne X.K t c = some b) (h : ∀ tk, Q (.bool b) { s with toks := tk }) :
    wpAny (model X.prog X.w) A (call (.builtin "isinstance") [u, c]) Q E s := by
  cases ty with
  | non => cases (show u = Value.none from rx); exact PySem.W.kia_one PySem.W.kitx_none I.kIn True.intro e (fun z => nomatch z) h
  | bl y => cases (show u = Value.bool y from rx); exact PySem.W.kia_one PySem.W.kitx_bool I.kIn True.intro e (fun z => nomatch z) h
  | int i => obtain ⟨t, q⟩ := (show ∃ t, u = Value.int i t from rx); cases q; exact PySem.W.kia_one PySem.W.kitx_int I.kIn True.intro e (fun z => nomatch z) h
  | str y => obtain ⟨t, q⟩ := (show ∃ t, u = Value.str y t from rx); cases q; exact PySem.W.kia_one PySem.W.kitx_str I.kIn True.intro e (fun z => nomatch z) h
  | flt y => obtain ⟨t, q⟩ := (show ∃ t, u = Value.float y t from rx); cases q; exact PySem.W.kia_one PySem.W.kitx_float I.kIn True.intro e (fun z => nomatch z) h
  | @lst a xs ea =>
    cases (show u = Value.ref a from rx)
    obtain ⟨_, _, n, _, h1⟩ := (show ObjOk X.prog X.w H s.heap a (.lst xs) from I.hok a _ ea)
    exact PySem.W.kia_one PySem.W.kitx_list I.kIn ⟨_, h1, rfl⟩ e (fun z => nomatch z) h
  | @frz a ob xs ea =>
    cases (show u = Value.ref a from rx)
    obtain ⟨_, _, _, n, _, h1⟩ := (show ObjOk X.prog X.w H s.heap a (.frz ob (.lst xs)) from I.hok a _ ea)
    exact PySem.W.kia_one PySem.W.kitx_list I.kIn ⟨_, h1, rfl⟩ e (fun z => nomatch z) h
  | @tup a xs ea =>
    cases (show u = Value.ref a from rx)
    obtain ⟨_, _, _, p⟩ := (show ObjOk X.prog X.w H s.heap a (.tup xs) from I.hok a _ ea)
    obtain ⟨o, h1, h2, _⟩ := p
    exact PySem.W.kia_one PySem.W.kitx_tuple I.kIn ⟨o, h1, (Prod.mk.inj h2).1⟩ e (fun z => nomatch z) h
  | @dK a kvs ea =>
    cases (show u = Value.ref a from rx)
    obtain ⟨_, _, vs, _, p⟩ := (show ObjOk X.prog X.w H s.heap a (.dK kvs) from I.hok a _ ea)
    obtain ⟨o, es, ep, h1, h2, _⟩ := p
    exact PySem.W.kia_one PySem.W.kitx_dict I.kIn ⟨o, h1, h2.1⟩ e (fun z => nomatch z) h
  | @dT a kvs ea =>
    cases (show u = Value.ref a from rx)
    obtain ⟨_, _, xs, _, o, es, ep, h1, h2, _⟩ := (show ObjOk X.prog X.w H s.heap a (.dT kvs) from I.hok a _ ea)
    exact PySem.W.kia_one PySem.W.kitx_dict I.kIn ⟨o, h1, h2.1⟩ e (fun z => nomatch z) h
  | @ins a C dx fs ea cl ha hn htk hm =>
    cases (show u = Value.ref a from rx)
    obtain ⟨mA, O, _⟩ := ins_get I.hok ea
    obtain ⟨od, J, _⟩ := O.look
    exact PySem.W.kia_one (PySem.W.kitx_own (cl.get _) cl.hd ha hn htk hm) I.kIn J e (fun z => nomatch z) h
end
end L2
namespace L2
open PySem PySem.Spec PyProof.Rows
structure Room (k : Nat) (A : Around) : Prop where
  hd : A.handled = none
  dp : A.depth + 3 * k + 5 < recursionLimit
  un : A.units + 16 * k + 200 < cLine
theorem Room.mono {j k : Nat} {A : Around} (r : Room k A) (h : j ≤ k) : Room j A := ⟨r.hd, by have := r.dp; lia, by have := r.un; lia⟩
theorem Room.deeper {k : Nat} {A : Around} (r : Room (k + 1) A) (env : Env) : Room k (A.deeper env) :=
  ⟨r.hd, by have := r.dp; show A.depth + 1 + 3 * k + 5 < _; lia, by have := r.un; show A.units + 3 + 16 * k + 200 < _; lia⟩
theorem make_depth {A : Around} {C : Addr} {us : List Value} {kw : List (Str × Value)} : (A.under (.builtin "type.__call__" ⟨.ref C :: us, kw⟩)).depth = A.depth + 1 := by
  first | rfl | simp [Around.under, Code.weight, Code.isCreation, Code.isGuard, Code.isCaller, Code.frames, Code.isFrame, guardIds]
theorem make_units {A : Around} {C : Addr} {us : List Value} {kw : List (Str × Value)} : (A.under (.builtin "type.__call__" ⟨.ref C :: us, kw⟩)).units = A.units + 1 := by
  first | rfl | simp [Around.under, Code.cUnits, Code.frames, Code.isFrame]
theorem Room.make {k : Nat} {A : Around} (r : Room (k + 1) A) (C : Addr) (us : List Value) (kw : List (Str × Value)) : Room k (A.under (.builtin "type.__call__" ⟨.ref C :: us, kw⟩)) :=
  ⟨r.hd, by have := r.dp; rw [make_depth]; lia, by have := r.un; rw [make_units]; lia⟩
theorem Room.depth {k : Nat} {A : Around} (r : Room k A) : A.depth < recursionLimit := by have := r.dp; lia
def tNil : TA := fun _ H Q => Q [] H
def tCons (ta : TE) (tr : TA) : TA := fun σ H Q => ta σ H fun x H1 => tr σ H1 fun xs H2 => Q (x :: xs) H2
section
variable {X : Cx} {e : Expr} {es : List Expr} {te : TE} {t : TA} {pos : Pos}
theorem pa_nil : PA X [] tNil := ⟨fun _ _ _ _ H Q I h => Calls.spliced_nil ⟨[], H, I, .nil, h⟩⟩
theorem pa_cons (ha : PE X e te) (hr : PA X es t) (hs : starEach (e :: es) X.env = (false, eval e X.env) :: starEach es X.env := by rfl) : PA X (e :: es) (tCons te t) := by
  refine ⟨?_⟩
  intro pos pins s σ H Q I h
  rw [hs]
  show wpAny _ _ (spliced ((false, eval e X.env) :: backTo pos (starEach es X.env))) _ _ s
  refine Calls.spliced_cons (thn (ha pins s σ H _ I h) fun u s1 ⟨x, H1, I1, r1, q1⟩ => ?_)
  exact thn (hr pos pins s1 σ H1 _ I1 q1) fun us s2 ⟨xs, H2, I2, r2, q2⟩ => ⟨x :: xs, H2, I2, .cons r1 r2, q2⟩
def tTup (t : TA) : TE := fun σ H Q => t σ H fun xs H1 => xs.length ≤ sizeLine ∧ ∀ p, H1 p = none → Q (.ref p) (upd H1 p (.tup xs))
def tLst (t : TA) : TE := fun σ H Q => t σ H fun xs H1 => xs.length ≤ sizeLine ∧ ∀ p, H1 p = none → Q (.ref p) (upd H1 p (.lst xs))
theorem pe_tup {x1} (h : PA X es t) : PE X (.Tuple es x1 pos) (tTup t) := by
  refine ⟨?_⟩
  intro pins s σ H Q I hq
  refine wpAny_Tuple_spliced (thn (h pos pins s σ H _ I hq) fun us s1 ⟨xs, H1, I1, r, z, q⟩ => ⟨by rw [← r.length]; exact z, ?_⟩)
  have hf : H1 s1.heap.objs.size = none := I1.hok.fresh (Nat.le_refl _)
  refine ⟨.ref s1.heap.objs.size, upd H1 s1.heap.objs.size (.tup xs), I1.laid (t' := s1.toks) (fun b u e => Heap.get?_push_of_some _ e) (Nat.le_refl _) ?_, rfl, q _ hf⟩
  exact ⟨z, us, r, ⟨_, Heap.get?_push_size _ rfl, rfl, _, rfl⟩⟩
theorem pe_lst (h : PA X es t) : PE X (.List es pos) (tLst t) := by
  refine ⟨?_⟩
  intro pins s σ H Q I hq
  refine wpAny_List_spliced (thn (h pos pins s σ H _ I hq) fun us s1 ⟨xs, H1, I1, r, z, q⟩ => ⟨by rw [← r.length]; exact z, ?_⟩)
  have hf : H1 s1.heap.objs.size = none := I1.hok.fresh (Nat.le_refl _)
  refine ⟨.ref s1.heap.objs.size, upd H1 s1.heap.objs.size (.lst xs), I1.laid (t' := s1.toks) (fun b u e => Heap.get?_push_of_some _ e) (Nat.le_refl _) ?_, rfl, q _ hf⟩
  exact ⟨z, us, 0, r, Heap.get?_push_size _ rfl⟩
end
abbrev Sp := List V → Hp → VK → XK → Prop
abbrev CXT := List Env → Hp → Shared → XK → Value → Shared → Prop
structure Env0 (P : Program) (w : World) (K : PySem.W.Frag) (mg : Str → Option Value) (base : Heap) (A : Around) (outer : List Env) (s : Shared) (H : Hp) : Prop where
  frames : A.frames = some outer
  mod : Mod K mg base
  bs : ∀ b o, base.get? b = some o → s.heap.get? b = some o ∧ H b = none
  bsz : base.objs.size ≤ s.heap.objs.size
  funs : s.heap.FunFrames base outer
  frf : ∀ b ∈ frs outer, H b = none
  hok : HOk P w H s.heap
  bare : AllBare s.gens
inductive CE (outer : List Env) (P : Program) (w : World) (H : Hp) (s : Shared) (Q : VK) (u : Value) (s' : Shared) : Prop
  | mk (v H' : _) : s'.os = s.os → AllBare s'.gens → Un (frs outer) [] H H' s.heap s'.heap → HOk P w H' s'.heap → RelV v u → Q v H' → CE outer P w H s Q u s'
def CR (CX : CXT) (outer : List Env) (P : Program) (w : World) (H : Hp) (s : Shared) (Q : VK) (E : XK) (r : Result) (s' : Shared) : Prop :=
  match r with
  | .ok (.ret u) => CE outer P w H s Q u s'
  | .ok _ => False
  | .error e => CX outer H s E e s'
structure FnOk (P : Program) (w : World) (K : PySem.W.Frag) (mg : Str → Option Value) (base : Heap) (CX : CXT) (k : Nat) (f : Addr) (fd : FuncData) (ps : List Str) (sp : Sp) : Prop where
  len : ∀ vs H Q E, sp vs H Q E → vs.length = ps.length
  run : ∀ (A : Around) (outer : List Env) (s : Shared) (H : Hp) (args : Args) (us : List Value) (vs : List V) (Q : VK) (E : XK), Room k A → Env0 P w K mg base A outer s H → BindsTo s fd args (ps.zip us) → Vals vs us → sp vs H Q E →
    codeAny (model P w) A (.call (.ref f) args) (CR CX outer P w H s Q E) s
theorem Env0.make {P : Program} {w : World} {K : PySem.W.Frag} {mg : Str → Option Value} {base : Heap} {A : Around} {outer : List Env} {s : Shared} {H : Hp} (e : Env0 P w K mg base A outer s H) (C : Addr) (us : List Value) (kw : List (Str × Value)) :
    Env0 P w K mg base (A.under (.builtin "type.__call__" ⟨.ref C :: us, kw⟩)) outer s H := ⟨by first | exact e.frames | (simpa [Around.under, Code.envs, Code.isFrame, pushEnvs] using e.frames), e.mod, e.bs, e.bsz, e.funs, e.frf, e.hok, e.bare⟩
section
variable {X : Cx} {pins : List (Addr × Obj)} {σ : St} {H : Hp} {s s' : Shared}
theorem Inv.env0 (I : Inv X pins σ H s) : Env0 X.prog X.w X.K X.mg X.base X.A X.stack s H :=
  ⟨I.ok.frames, I.ok.mod, I.bs, Nat.le_trans I.ok.bsz I.sz, I.stack, I.stkFree, I.hok, I.bare⟩
theorem Inv.after {Q : VK} {u : Value} (I : Inv X pins σ H s) (h : CE X.stack X.prog X.w H s Q u s') : EP X pins σ Q u s' := by
  obtain ⟨v, H', os, bare, un, hok, r, q⟩ := h
  obtain ⟨hh, g, d, t, os'⟩ := s'
  obtain rfl : os' = s.os := os
  exact ⟨v, H', I.call (h' := hh) (g' := g) (d' := d) (t' := t) (ch := []) un hok bare (fun b z => absurd z (by simp)), r, q⟩
end
def tCall (sp : Sp) (dvs : List V) (E : XK) (t : TA) : TE := fun σ H Q => t σ H fun vs H1 => sp (vs ++ dvs) H1 Q E
def tMake (C : Addr) (sp : Sp) (dvs : List V) (E : XK) (t : TA) : TE := fun σ H Q => t σ H fun vs H1 => ∀ x dx, H1 x = none → H1 dx = none → dx ≠ x →
  sp (.ref x :: (vs ++ dvs)) (upd (upd H1 dx (.own x)) x (.ins C dx [])) (fun v H2 => v = .non ∧ Q (.ref x) H2) E
def Binds (K : PySem.W.Frag) (fd : FuncData) (ps : List Str) (ds : List Value) : Prop :=
  ∀ (s : Shared) (us : List Value), K.In s.heap → (us ++ ds).length = ps.length → BindsTo s fd ⟨us, []⟩ (ps.zip (us ++ ds))
theorem Binds.all {K : PySem.W.Frag} {fd : FuncData} {ps : List Str} (h : ∀ us : List Value, us.length = ps.length → bindArgs fd ⟨us, []⟩ = pure (ps.zip us)) : Binds K fd ps [] := fun s us _ hl => by
  rw [List.append_nil] at hl ⊢
  exact .of_eq (h us hl)
def Passes (CX : CXT) (X : Cx) (E : XK) : Prop := ∀ (pins : List (Addr × Obj)) (σ : St) (H : Hp) (s : Shared) (e : Value) (s' : Shared), Inv X pins σ H s → CX X.stack H s E e s' → X.xe e s'
section
variable {X : Cx} {CX : CXT} {k : Nat} {f C : Addr} {fd : FuncData} {ps : List Str} {sp : Sp} {dvs : List V} {ds : List Value} {E : XK} {x m : Str} {p pos apos : Pos} {e o : Expr} {es : List Expr} {ta : TE} {t : TA}
theorem run_fn {pins : List (Addr × Obj)} {σ : St} {H : Hp} {s : Shared} {Q : VK} {us : List Value} {vs : List V} (F : FnOk X.prog X.w X.K X.mg X.base CX k f fd ps sp) (hr : Room k X.A) (hb : Binds X.K fd ps ds) (hd : Vals dvs ds) (hx : Passes CX X E)
    (I : Inv X pins σ H s) (r : Vals vs us) (h : sp (vs ++ dvs) H Q E) : wpAny (model X.prog X.w) X.A (call (.ref f) us) (EP X pins σ Q) X.xe s := by
  have r2 : Vals (vs ++ dvs) (us ++ ds) := r.append hd
  have hl : (us ++ ds).length = ps.length := by rw [← r2.length]; exact F.len _ _ _ _ h
  refine wpAny_call (codeAny_mono (F.run X.A X.stack s H ⟨us, []⟩ (us ++ ds) (vs ++ dvs) Q E hr I.env0 (hb s us I.kIn hl) r2 h) fun r s' hq => ?_)
  cases r with
  | error e => exact hx pins σ H s e s' I hq
  | ok fl =>
    cases fl with
    | ret u => exact I.after hq
    | next => exact False.elim hq
    | brk => exact False.elim hq
    | cont => exact False.elim hq
theorem pe_call (F : FnOk X.prog X.w X.K X.mg X.base CX k f fd ps sp) (hr : Room k X.A) (hg : Gl X x) (hm : X.mg x = some (.ref f)) (hk : PySem.W.keepIn X.K (.ref f) = true) (hb : Binds X.K fd ps ds) (hd : Vals dvs ds) (hx : Passes CX X E)
    (ha : PA X (e :: es) t) (hdb : (x == ("__debug__" : Str)) = false := by decide) (he : starEach (e :: es) X.env = (false, eval e X.env) :: starEach es X.env := by rfl) (hpl : (backTo pos (starEach es X.env)).any (·.1) = false := by rfl) :
    PE X (.Call (.Name x p) (e :: es) [] pos) (tCall sp dvs E t) := by
  refine ⟨?_⟩
  intro pins s σ H Q I h
  refine wpAny_Call_Name_kw (ld_glob I hg hm ?_ hdb)
  refine PySem.W.callWith_K (h₀ := X.base) I.ok.mod.kin hk (thn (ha pos pins s σ H _ I h) fun us s1 ⟨vs, H1, I1, r, q⟩ => ⟨I1.kIn, ?_⟩) he hpl
  exact run_fn F hr hb hd hx I1 r q
theorem pe_call0 (F : FnOk X.prog X.w X.K X.mg X.base CX k f fd ps sp) (hr : Room k X.A) (hg : Gl X x) (hm : X.mg x = some (.ref f)) (hk : PySem.W.keepIn X.K (.ref f) = true) (hb : Binds X.K fd ps ds) (hd : Vals dvs ds) (hx : Passes CX X E)
    (hdb : (x == ("__debug__" : Str)) = false := by decide) : PE X (.Call (.Name x p) [] [] pos) (tCall sp dvs E tNil) := by
  refine ⟨?_⟩
  intro pins s σ H Q I h
  refine wpAny_Call_Name_kw (ld_glob I hg hm ?_ hdb)
  exact PySem.W.callWith_K0 I.kIn hk (run_fn (us := []) F hr hb hd hx I .nil h)
structure Mk (K : PySem.W.Frag) (C f : Addr) : Prop where
  makes : PySem.W.makesIn K C = true
  init : PySem.W.findIn K (.ref C) "__init__" = some (some (.ref f))
  fn : PySem.W.isFn K (.ref f) = true
  kp : PySem.W.keepIn K (.ref C) = true
theorem run_make {pins : List (Addr × Obj)} {σ : St} {H : Hp} {s : Shared} {Q : VK} {us : List Value} {vs : List V} (M : Mk X.K C f) (F : FnOk X.prog X.w X.K X.mg X.base CX k f fd ps sp) (hr : Room (k + 1) X.A) (hb : Binds X.K fd ps ds) (hd : Vals dvs ds)
    (hx : Passes CX X E) (I : Inv X pins σ H s) (r : Vals vs us)
    (h : ∀ x dx, H x = none → H dx = none → dx ≠ x → sp (.ref x :: (vs ++ dvs)) (upd (upd H dx (.own x)) x (.ins C dx [])) (fun v H2 => v = .non ∧ Q (.ref x) H2) E) :
    wpAny (model X.prog X.w) X.A (call (.ref C) us) (EP X pins σ Q) X.xe s := by
  have hq := h (s.heap.objs.size + 1) s.heap.objs.size (I.hok.fresh (Nat.le_succ _)) (I.hok.fresh (Nat.le_refl _)) (Nat.ne_of_lt (Nat.lt_succ_self _))
  have I2 := Inv.made (C := C) I
  have r2 : Vals (V.ref (s.heap.objs.size + 1) :: (vs ++ dvs)) (Value.ref (s.heap.objs.size + 1) :: (us ++ ds)) := .cons rfl (r.append hd)
  have hl : (Value.ref (s.heap.objs.size + 1) :: us ++ ds).length = ps.length := by
    have e := r2.length
    rw [F.len _ _ _ _ hq] at e
    exact e.symm
  refine wpAny_call (make_map (f := f) I.kIn M.makes M.init (beq_iff_eq.mp M.fn) (codeAny_mono (F.run _ X.stack _ _ ⟨Value.ref (s.heap.objs.size + 1) :: us, []⟩ (Value.ref (s.heap.objs.size + 1) :: (us ++ ds)) _ _ E (hr.make C us [])
    (I2.env0.make C us []) (hb _ (Value.ref (s.heap.objs.size + 1) :: us) I2.kIn hl) r2 hq) fun r s' hq' => ?_))
  cases r with
  | error e => exact hx pins σ _ _ e s' I2 hq'
  | ok fl =>
    cases fl with
    | ret u =>
      obtain ⟨v, H', I3, rv, ev, q3⟩ := I2.after hq'
      subst ev
      exact ⟨rv, ⟨V.ref (s.heap.objs.size + 1), H', I3, rfl, q3⟩⟩
    | next => exact False.elim hq'
    | brk => exact False.elim hq'
    | cont => exact False.elim hq'
theorem pe_make (M : Mk X.K C f) (F : FnOk X.prog X.w X.K X.mg X.base CX k f fd ps sp) (hr : Room (k + 1) X.A) (hg : Gl X x) (hm : X.mg x = some (.ref C)) (hb : Binds X.K fd ps ds) (hd : Vals dvs ds) (hx : Passes CX X E)
    (ha : PA X (e :: es) t) (hdb : (x == ("__debug__" : Str)) = false := by decide) (he : starEach (e :: es) X.env = (false, eval e X.env) :: starEach es X.env := by rfl) (hpl : (backTo pos (starEach es X.env)).any (·.1) = false := by rfl) :
    PE X (.Call (.Name x p) (e :: es) [] pos) (tMake C sp dvs E t) := by
  refine ⟨?_⟩
  intro pins s σ H Q I h
  refine wpAny_Call_Name_kw (ld_glob I hg hm ?_ hdb)
  refine PySem.W.callWith_K (h₀ := X.base) I.ok.mod.kin M.kp (thn (ha pos pins s σ H _ I h) fun us s1 ⟨vs, H1, I1, r, q⟩ => ⟨I1.kIn, ?_⟩) he hpl
  exact run_make M F hr hb hd hx I1 r q
end
structure PK (X : Cx) (kws : List Keyword) (t : TA) : Prop where
  run : ∀ (pos : Pos) (pins : List (Addr × Obj)) (s : Shared) (σ : St) (H : Hp) (Q : List V → Hp → Prop), Inv X pins σ H s → t σ H Q → wpAny (model X.prog X.w) X.A (evalAll ((backToKw pos (keywordEach kws X.env)).map (·.2))) (AP X pins σ Q) X.xe s
instance {X : Cx} {kws : List Keyword} {t : TA} : CoeFun (PK X kws t) fun _ => ∀ (pos : Pos) (pins : List (Addr × Obj)) (s : Shared) (σ : St) (H : Hp) (Q : List V → Hp → Prop), Inv X pins σ H s → t σ H Q → wpAny (model X.prog X.w) X.A (evalAll ((backToKw pos (keywordEach kws X.env)).map (·.2))) (AP X pins σ Q) X.xe s := ⟨PK.run⟩
section
variable {X : Cx} {CX : CXT} {k : Nat} {f C : Addr} {fd : FuncData} {ps ks : List Str} {sp : Sp} {E : XK} {x m : Str} {p pos apos kpos : Pos} {e o : Expr} {es : List Expr} {kws : List Keyword} {te ta : TE} {t tk : TA} {nm : Option Str}
theorem pk_nil : PK X [] tNil := ⟨fun _ _ _ _ H Q I h => wpAny_evalAll_nil ⟨[], H, I, .nil, h⟩⟩
theorem pk_cons (ha : PE X e te) (hr : PK X kws t) : PK X (⟨nm, e, kpos⟩ :: kws) (tCons te t) := by
  refine ⟨?_⟩
  intro pos pins s σ H Q I h
  show wpAny _ _ (evalAll ((do let v ← eval e X.env; standAt pos; pure v) :: (backToKw pos (keywordEach kws X.env)).map (·.2))) _ _ s
  refine wpAny_evalAll_cons (wpAny_bind (thn (ha pins s σ H _ I h) fun u s1 ⟨x, H1, I1, r1, q1⟩ => wpAny_bind (wpAny_standAt (wpAny_pure ?_))))
  exact thn (hr pos pins s1 σ H1 _ I1 q1) fun us s2 ⟨xs, H2, I2, r2, q2⟩ => ⟨x :: xs, H2, I2, .cons r1 r2, q2⟩
variable {g : List Value → List Value → List Value} {gV : List V → List V → List V}
end
structure FnScope (N P : List Str) (sc : Scope) : Prop where
  kind : sc.kind = .function
  co : sc.isCoroutine = false
  gen : sc.isGenerator = false
  nd : N.Nodup
  pre : N.take P.length = P
  par : ∀ x ∈ P, sc.names.lookup x = some .local ∨ sc.names.lookup x = some .cell
  nofree : ∀ y ∈ sc.names, y.2 ≠ .free
theorem bindL_out {kindOf : Str → Option NameKind} {x : Str} : ∀ {binds : List (Str × Value)} {m : Str → Option Value}, (∀ v, (x, v) ∉ binds) → bindL kindOf binds m x = m x
  | [], _, _ => rfl
  | (n, v) :: r, m, h => by
    unfold bindL
    rw [bindL_out fun w hw => h w (List.mem_cons_of_mem _ hw)]
    split
    · have : x ≠ n := by rintro rfl; exact h v List.mem_cons_self
      simp [this]
    · rfl
theorem bindC_out {kindOf : Str → Option NameKind} {x : Str} : ∀ {binds : List (Str × Value)} {m : Str → Option Value}, (∀ v, (x, v) ∉ binds) → bindC kindOf binds m x = m x
  | [], _, _ => rfl
  | (n, v) :: r, m, h => by
    unfold bindC
    rw [bindC_out fun w hw => h w (List.mem_cons_of_mem _ hw)]
    split
    · rfl
    · have : x ≠ n := by rintro rfl; exact h v List.mem_cons_self
      simp [this]
theorem bindL_get {kindOf : Str → Option NameKind} {x : Str} {v : Value} : ∀ {P : List Str} {vs : List Value} {i : Nat} {m : Str → Option Value}, P.Nodup → P[i]? = some x → vs[i]? = some v → kindOf x = some .local →
    bindL kindOf (P.zip vs) m x = some v
  | [], _, _, _, _, h, _, _ => by simp at h
  | _ :: _, [], _, _, _, _, h, _ => by simp at h
  | p :: P, w :: vs, 0, m, nd, h1, h2, hk => by
    simp at h1 h2; subst h1; subst h2
    show bindL kindOf ((p, w) :: P.zip vs) m p = _
    unfold bindL
    rw [bindL_out fun v hv => (List.nodup_cons.mp nd).1 (List.of_mem_zip hv).1, if_pos hk]
    simp
  | p :: P, w :: vs, i + 1, m, nd, h1, h2, hk => by
    show bindL kindOf ((p, w) :: P.zip vs) m x = _
    unfold bindL
    exact bindL_get (i := i) (List.nodup_cons.mp nd).2 (by simpa using h1) (by simpa using h2) hk
theorem bindC_get {kindOf : Str → Option NameKind} {x : Str} {v : Value} : ∀ {P : List Str} {vs : List Value} {i : Nat} {m : Str → Option Value}, P.Nodup → P[i]? = some x → vs[i]? = some v → kindOf x ≠ some .local →
    bindC kindOf (P.zip vs) m x = some v
  | [], _, _, _, _, h, _, _ => by simp at h
  | _ :: _, [], _, _, _, _, h, _ => by simp at h
  | p :: P, w :: vs, 0, m, nd, h1, h2, hk => by
    simp at h1 h2; subst h1; subst h2
    show bindC kindOf ((p, w) :: P.zip vs) m p = _
    unfold bindC
    rw [bindC_out fun v hv => (List.nodup_cons.mp nd).1 (List.of_mem_zip hv).1, if_neg hk]
    simp
  | p :: P, w :: vs, i + 1, m, nd, h1, h2, hk => by
    show bindC kindOf ((p, w) :: P.zip vs) m x = _
    unfold bindC
    exact bindC_get (i := i) (List.nodup_cons.mp nd).2 (by simpa using h1) (by simpa using h2) hk
def start (N : List Str) (vs : List V) : St := vs.map some ++ List.replicate (N.length - vs.length) none
def cxOf (CX : CXT) (P : Program) (w : World) (K : PySem.W.Frag) (mg : Str → Option Value) (base : Heap) (N : List Str) (qual : Str) (scope : Scope) (f : Addr) (cd : Value) (A : Around) (outer : List Env) (s : Shared) (H : Hp) (E : XK) : Cx where
  prog := P
  w := w
  K := K
  mg := mg
  base := base
  A := A.deeper (envOfC qual scope s.heap.objs.size f cd)
  N := N
  s₀ := s
  H₀ := H
  env := envOfC qual scope s.heap.objs.size f cd
  outer := outer
  stack := envOfC qual scope s.heap.objs.size f cd :: outer
  ex := []
  calm := true
  fn := fun _ => true
  pn := []
  xe := fun e s' => wpAny (model P w) (A.deeper (envOfC qual scope s.heap.objs.size f cd)) (leaving (envOfC qual scope s.heap.objs.size f cd) e) (fun _ s'' => CX outer H s E e s'') (fun e' s'' => CX outer H s E e' s'') s'
theorem cell_has {sc : Scope} {n : Nat} {x : Str} (h : sc.names.lookup x = some .cell) : ∃ c, (cellsFrom n sc.names []).lookup x = some c := by
  have q := PySem.W.cellsFrom_some sc.names n [] (.inl h)
  exact Option.isSome_iff_exists.mp q
theorem inv_start {CX : CXT} {P : Program} {w : World} {K : PySem.W.Frag} {mg : Str → Option Value} {base : Heap} {N ps : List Str} {qual : Str} {scope : Scope} {f : Addr} {cd : Value} {A : Around} {outer : List Env} {s s1 : Shared} {H : Hp} {E : XK} {us : List Value} {vs : List V}
    (S : FnScope N ps scope) (hd : A.handled = none) (e0 : Env0 P w K mg base A outer s H) (hl : vs.length = ps.length) (r : Vals vs us)
    (x : InCallC s s.heap.objs.size (bindL (envOfC qual scope s.heap.objs.size f cd).kindOf (ps.zip us) fun _ => none) (cellsFrom (s.heap.objs.size + 1) scope.names []) (bindC (envOfC qual scope s.heap.objs.size f cd).kindOf (ps.zip us) fun _ => none) s1) :
    Inv (cxOf CX P w K mg base N qual scope f cd A outer s H E) [] (start N vs) H s1 := by
  have hpl : ps.length ≤ N.length := by have := congrArg List.length S.pre; rw [List.length_take] at this; lia
  obtain ⟨h1, tk, rfl, hk⟩ := x.done
  have noA : ∀ b : Addr, b ∉ (cxOf CX P w K mg base N qual scope f cd A outer s H E).ex := fun b z => absurd (show b ∈ ([] : List Addr) from z) (by simp)
  refine ⟨⟨e0.mod, S.kind, rfl, rfl, Nat.le_refl _, fun y z c h1 h2 => ?_, fun y hy => ?_, fun y c _ h => ?_, fun _ => hd, Around.frames_deeper e0.frames, .inr ⟨rfl, rfl⟩, fun b z => absurd z (noA b), e0.bs, e0.bsz, fun b _ _ => noA b, fun b z => absurd z (noA b), e0.funs, e0.frf⟩,
    rfl, e0.bare, Un.kept hk, ⟨_, x.toInCall.ns, fun i y v h1 h2 h3 => ?_⟩, fun y c h => ⟨_, x.cell y c h⟩, e0.hok.fresh (Nat.le_refl _), fun y c h => ?_, fun p hp => absurd (show p ∈ ([] : List (Addr × Obj)) from hp) (by simp), e0.hok.kept hk, ?_⟩
  · exact name_of_addr x.apart (PySem.mem_of_lookup h1) (PySem.mem_of_lookup h2)
  · have hy : scope.names.lookup y = some .cell ∨ scope.names.lookup y = some .free := hy
    rcases hy with hy | hy
    · exact cell_has hy
    · exact absurd rfl (S.nofree _ (PySem.mem_of_lookup hy))
  · exact Nat.le_of_lt (x.above y c (PySem.mem_of_lookup h))
  · have hi : i < vs.length := by
      unfold start at h2
      by_cases hi : i < vs.length
      · exact hi
      · rw [List.getElem?_append_right (by simpa using hi)] at h2
        rw [List.getElem?_replicate] at h2
        split at h2 <;> cases h2
    have ha : vs[i]? = some v := by
      unfold start at h2
      rw [List.getElem?_append_left (by simpa using hi), List.getElem?_map] at h2
      cases e : vs[i]? with
      | none => rw [e] at h2; cases h2
      | some a => rw [e] at h2; cases h2; rfl
    obtain ⟨u, hu, rv⟩ := r.get ha
    have hp : ps[i]? = some y := by
      rw [← S.pre, List.getElem?_take_of_lt (by lia)]; exact h1
    have ndP : ps.Nodup := by rw [← S.pre]; exact S.nd.sublist (List.take_sublist _ _)
    refine ⟨u, rv, ?_⟩
    rcases S.par y (List.mem_of_getElem? hp) with k | k
    · exact .inl ⟨k, bindL_get ndP hp hu k⟩
    · obtain ⟨c, e⟩ := cell_has (n := s.heap.objs.size + 1) k
      refine .inr ⟨.inl k, c, e, ?_⟩
      have q := x.cell y c e
      rw [bindC_get ndP hp hu (by show scope.names.lookup y ≠ _; rw [k]; decide)] at q
      exact q
  · exact e0.hok.fresh (Nat.le_of_lt (x.above y c (PySem.mem_of_lookup h)))
  · unfold start
    show _ = N.length
    rw [List.length_append, List.length_map, List.length_replicate]
    lia
theorem fn_of {CX : CXT} {P : Program} {w : World} {K : PySem.W.Frag} {mg : Str → Option Value} {base : Heap} {k : Nat} {f : Addr} {name qual : Str} {params : Arguments} {body : List Stmt} {scope : Scope} {dV kV doc pm cdv ct oc : Value} {an od : Option Addr}
    {osl : Array (Option Value)} {N ps : List Str} {sp : Sp} (lk : K.lookup f = some ⟨oc, od, .func (PySem.W.fnOf name qual params body scope dV kV doc pm an cdv ct), osl⟩) (hcd : PySem.W.codeIn K cdv qual = true) (S : FnScope N ps scope)
    (len : ∀ vs H Q E, sp vs H Q E → vs.length = ps.length)
    (hbody : ∀ (A : Around) (outer : List Env) (s : Shared) (H : Hp) (vs : List V) (Q : VK) (E : XK), Room k (A.deeper (envOfC qual scope s.heap.objs.size f cdv)) → sp vs H Q E →
      ∃ t, PSs (cxOf CX P w K mg base N qual scope f cdv A outer s H E) body t ∧ t { nx := fun _ H' => Q .non H', rt := Q } (start N vs) H) :
    FnOk P w K mg base CX (k + 1) f (PySem.W.fnOf name qual params body scope dV kV doc pm an cdv ct) ps sp := by
  refine ⟨len, fun A outer s H args us vs Q E hr e0 hb r hsp => ?_⟩
  have hl := len _ _ _ _ hsp
  have KX : K.In s.heap := e0.mod.kin.keeps fun b o e => (e0.bs b o e).1
  have lim : s.heap.NoLimit := e0.mod.nolimit.keeps fun b o e => (e0.bs b o e).1
  have hkind : ∀ y ∈ ps.zip us, scope.names.lookup y.1 = some .local ∨ (scope.names.lookup y.1 = some .cell ∧ ((cellsFrom (s.heap.objs.size + 1) scope.names []).lookup y.1).isSome = true) := fun ⟨n, v⟩ hy => by
    rcases S.par n (List.of_mem_zip hy).1 with q | q
    · exact .inl q
    · exact .inr ⟨q, PySem.W.cellsFrom_some _ _ _ (.inl q)⟩
  refine codeAny_call_function hr.depth (KX _ _ lk) rfl S.co S.gen rfl (PySem.W.codeRec_of KX hcd) (hb _ _ _ _ ?_)
  refine wpAny_newFunctionEnv_cells S.kind hkind fun env he s1 x => ?_
  subst he
  refine ⟨lim.keeps x.toInCall.keep, codeAny_func ?_⟩
  obtain ⟨t, ht, hq⟩ := hbody A outer s H vs Q E (hr.deeper _) hsp
  have I : Inv (cxOf CX P w K mg base N qual scope f cdv A outer s H E) [] (start N vs) H s1 := inv_start S hr.hd e0 hl r x
  refine wpAny_mono (ht [] s1 (start N vs) H _ I hq) (fun fl s' hs => ?_) fun e s' hs => hs
  have fin : ∀ {σ' : St} {H' : Hp} {v : V} {u : Value}, Inv (cxOf CX P w K mg base N qual scope f cdv A outer s H E) [] σ' H' s' → RelV v u → Q v H' → CE outer P w H s Q u s' :=
    fun {σ' H' v u} J rv q => ⟨v, H', J.os, J.bare, J.base, J.hok, rv, q⟩
  cases fl with
  | ret u =>
    obtain ⟨v, σ', H', J, rv, q⟩ := hs
    exact fin J rv q
  | next =>
    obtain ⟨σ', H', J, q⟩ := hs
    exact fin (v := V.non) (u := Value.none) J rfl q
  | brk =>
    obtain ⟨_, _, _, q⟩ := hs
    exact False.elim q
  | cont =>
    obtain ⟨_, _, _, q⟩ := hs
    exact False.elim q
end L2
namespace L2
open PySem PySem.Spec PyProof.Rows
section
variable {X : Cx} {x : Str} {p pos : Pos} {e : Expr} {es : List Expr} {t : TA} {id T : String} {r : List V → Hp → VK → Prop}
def tCB (r : List V → Hp → VK → Prop) (t : TA) : TE := fun σ H Q => t σ H fun vs H1 => r vs H1 Q
theorem pe_callB (hc : CallR X (.builtin id) r) (hg : Gl X x) (hm : X.mg x = none) (hv : bootBuiltins x = some (.builtin id)) (ha : PA X (e :: es) t) (hn : x ≠ "__name__" := by decide) (hdb : (x == ("__debug__" : Str)) = false := by decide)
    (he : starEach (e :: es) X.env = (false, eval e X.env) :: starEach es X.env := by rfl) (hpl : (backTo pos (starEach es X.env)).any (·.1) = false := by rfl) : PE X (.Call (.Name x p) (e :: es) [] pos) (tCB r t) := by
  refine ⟨?_⟩
  intro pins s σ H Q I h
  refine wpAny_Call_Name_kw (ld_blt I hg hm hv ?_ hn hdb)
  exact PyProof.Rows.callWith_builtin1 (thn (ha pos pins s σ H _ I h) fun us s1 ⟨vs, H1, I1, r1, q1⟩ => hc pins s1 σ H1 vs us Q I1 r1 q1) he hpl
theorem pe_callTy (hc : CallR X (.type T) r) (hg : Gl X x) (hm : X.mg x = none) (hv : bootBuiltins x = some (.type T)) (ha : PA X (e :: es) t) (hn : x ≠ "__name__" := by decide) (hdb : (x == ("__debug__" : Str)) = false := by decide)
    (he : starEach (e :: es) X.env = (false, eval e X.env) :: starEach es X.env := by rfl) (hpl : (backTo pos (starEach es X.env)).any (·.1) = false := by rfl) : PE X (.Call (.Name x p) (e :: es) [] pos) (tCB r t) := by
  refine ⟨?_⟩
  intro pins s σ H Q I h
  refine wpAny_Call_Name_kw (ld_blt I hg hm hv ?_ hn hdb)
  exact PyProof.Rows.callWith_type1 (thn (ha pos pins s σ H _ I h) fun us s1 ⟨vs, H1, I1, r1, q1⟩ => hc pins s1 σ H1 vs us Q I1 r1 q1) he hpl
end
end L2
namespace HT
open PySem PyProof.Rows
section
open PySem.SeqAt
open PySem.AutoSeq1 (wpAny_loadPart')
open PySem.MeetsSeq PySem.MeetsSeq2 PySem.MeetsSeq3
end
section
variable {prog : Program} {w : World} {A : Around} {E : Value → Shared → Prop} {s : Shared}
end
end HT
namespace L2
open PySem PySem.Spec PyProof.Rows
section
variable {X : Cx} {e : Expr} {te : TE} {lo hi : Option Expr} {tl th : TO} {pos p2 : Pos}
end
end L2
namespace L2
open PySem PySem.Spec PyProof.Rows
def ixN (n : Nat) (i : Int) : Option Nat := if 0 ≤ i then (if i < n then some i.toNat else none) else if -(n : Int) ≤ i then some (i + n).toNat else none
def atI {α : Type} (xs : List α) (i : Int) : Option α := (ixN xs.length i).bind fun j => xs[j]?
theorem ixN_seq {n : Nat} {i : Int} {j : Nat} (h : ixN n i = some j) : seqIndex? i n = some j ∧ j < n ∧ -(n : Int) ≤ i ∧ i < n := by
  unfold ixN at h
  by_cases h0 : 0 ≤ i
  · rw [if_pos h0] at h
    by_cases h1 : i < n
    · rw [if_pos h1] at h
      have e : i.toNat = j := Option.some.inj h
      exact ⟨by rw [seqIndex_of h0 h1, e], by lia, by lia, h1⟩
    · rw [if_neg h1] at h; cases h
  · rw [if_neg h0] at h
    by_cases h1 : -(n : Int) ≤ i
    · rw [if_pos h1] at h
      have e : (i + n).toNat = j := Option.some.inj h
      exact ⟨by rw [seqIndex_neg (by lia) h1, e], by lia, h1, by lia⟩
    · rw [if_neg h1] at h; cases h
theorem atI_get {α : Type} {xs : List α} {i : Int} {v : α} (h : atI xs i = some v) : ∃ j, seqIndex? i xs.length = some j ∧ xs[j]? = some v ∧ j < xs.length ∧ -(xs.length : Int) ≤ i ∧ i < xs.length := by
  unfold atI at h
  cases e : ixN xs.length i with
  | none => rw [e] at h; cases h
  | some j =>
    rw [e] at h
    obtain ⟨h1, h2, h3, h4⟩ := ixN_seq e
    exact ⟨j, h1, h, h2, h3, h4⟩
theorem atI_nat {α : Type} {xs : List α} {j : Nat} {v : α} (h : xs[j]? = some v) : atI xs (j : Int) = some v := by
  have hj : j < xs.length := (List.getElem?_eq_some_iff.mp h).1
  have e : ixN xs.length (j : Int) = some j := by
    unfold ixN
    rw [if_pos (by lia), if_pos (by lia)]; simp
  unfold atI; rw [e]; exact h
def PlainIx (b : Expr) : Prop := ∀ o i, subscripted b false o i = operate [o, i] (getItem o i)
def IxR (X : Cx) (r : R2) : Prop :=
  ∀ (value slice : Expr) (pins : List (Addr × Obj)) (s : Shared) (σ : St) (H : Hp) (x y : V) (v u : Value) (Q : VK), Inv X pins σ H s → RelV x v → RelV y u → r x y H Q →
    subscripted slice false v u = operate [v, u] (getItem v u) → wpAny (model X.prog X.w) X.A (subscriptTail value slice v u) (EP X pins σ Q) X.xe s
def MtR (X : Cx) (id : String) (r : V → List V → Hp → VK → Prop) : Prop :=
  ∀ (pins : List (Addr × Obj)) (s : Shared) (σ : St) (H : Hp) (x : V) (xs : List V) (v : Value) (us : List Value) (Q : VK), Inv X pins σ H s → RelV x v → Vals xs us → r x xs H Q →
    wpAny (model X.prog X.w) X.A (call (.builtin id) (v :: us)) (EP X pins σ Q) X.xe s
section
variable {X : Cx} {a b : Expr} {ta tb : TE} {pos : Pos}
theorem IxR.or {r r' : R2} (h : IxR X r) (h' : IxR X r') : IxR X (fun x y H Q => r x y H Q ∨ r' x y H Q) := by
  intro value slice pins s σ H x y v u Q I rx ry q hs
  rcases q with q | q
  · exact h value slice pins s σ H x y v u Q I rx ry q hs
  · exact h' value slice pins s σ H x y v u Q I rx ry q hs
theorem pe_ix {r : R2} (hr : IxR X r) (ha : PE X a ta) (hb : PE X b tb) (hs : PlainIx b) : PE X (.Subscript a b pos) (tOp r ta tb) := by
  refine ⟨?_⟩
  intro pins s σ H Q I h
  exact Subscript_ (binT ha hb I h fun v u s2 x y H2 I2 rx ry q => hr a b pins s2 σ H2 x y v u Q I2 rx ry q (hs _ _))
inductive rIxL (K : PySem.W.Frag) (x : V) (y : V) (H : Hp) (Q : VK) : Prop
  | mk (p xs i v : _) : x = .ref p → y = .int i → SqL K H p xs → atI xs i = some v → Q v H → rIxL K x y H Q
inductive rIxT (K : PySem.W.Frag) (x : V) (y : V) (H : Hp) (Q : VK) : Prop
  | mk (p xs i v : _) : x = .ref p → y = .int i → SqT K H p xs → atI xs i = some v → Q v H → rIxT K x y H Q
theorem ix_list : IxR X (rIxL X.K) := by
  intro value slice pins s σ H x y v u Q I rx ry h hs
  obtain ⟨p, xs, i, z, rfl, rfl, hq, he, q⟩ := h
  cases rx
  obtain ⟨t, rfl⟩ := ry
  obtain ⟨its, r, pl, hz⟩ := I.list hq
  obtain ⟨j, h1, h2, h3, h4, h5⟩ := atI_get he
  obtain ⟨w, ew, rw'⟩ := r.get h2
  have hl := r.length
  have hn := line63
  have fin : EP X pins σ Q w s := ⟨z, H, I, rw', q⟩
  by_cases h0 : 0 ≤ i
  · have hj : i.toNat = j := by
      rw [seqIndex_of h0 h5] at h1
      exact Option.some.inj h1
    exact item_listR pl.isList h0 (by lia) (by rw [hj]; simpa using ew) fin hs
  · have hj : (i + (its.toArray.size : Int)).toNat = j := by
      rw [seqIndex_neg (by lia) h4] at h1
      rw [List.size_toArray, ← hl]
      exact Option.some.inj h1
    exact subscriptTail_builtinR (x := w) pl.isList.typeIs slot_list_getitem.lookup
      (wpAny_getItem_list_neg (Q := fun r s' => r = w ∧ EP X pins σ Q r s') pl.isList (by lia) (by rw [List.size_toArray] <;> lia) (by lia) (by rw [hj]; simpa using ew) ⟨rfl, fin⟩) hs
theorem ix_tup : IxR X (rIxT X.K) := by
  intro value slice pins s σ H x y v u Q I rx ry h hs
  obtain ⟨p, xs, i, z, rfl, rfl, hq, he, q⟩ := h
  cases rx
  obtain ⟨t, rfl⟩ := ry
  obtain ⟨its, r, pl, hz⟩ := I.tuple hq
  obtain ⟨j, h1, h2, h3, h4, h5⟩ := atI_get he
  obtain ⟨w, ew, rw'⟩ := r.get h2
  have hl := r.length
  have hn := line63
  have fin : EP X pins σ Q w s := ⟨z, H, I, rw', q⟩
  exact subscriptTail_builtinR (x := w) pl.typeIs slot_tuple_getitem.lookup
    (getItem_tuple (j := j) (Q := fun r s' => r = w ∧ EP X pins σ Q r s') pl (by lia) (by lia) (by rw [List.size_toArray, ← hl]; exact h1) (by simpa using ew) ⟨rfl, fin⟩) hs
theorem mapSeq_set (its : List Value) (n j : Nat) (u : Value) : Obj.mapSeq (·.setIfInBounds j u) { cls := .type "list", data := .seq its.toArray n } = { cls := .type "list", data := .seq (its.set j u).toArray n } := by
  simp [Obj.mapSeq]
theorem Inv.lst {pins : List (Addr × Obj)} {σ : St} {H : Hp} {s : Shared} {p : Addr} {xs : List V} (I : Inv X pins σ H s) (h : H p = some (.lst xs)) :
    ∃ (its : List Value) (n : Nat), Vals xs its ∧ s.heap.get? p = some { cls := .type "list", data := .seq its.toArray n } ∧ xs.length ≤ sizeLine := by
  obtain ⟨z, its, n, r, e⟩ := I.hok p _ h
  exact ⟨its, n, r, e, z⟩
theorem Inv.lstUpd {pins : List (Addr × Obj)} {σ : St} {H : Hp} {s : Shared} {p : Addr} {xs ys : List V} {its its' : List Value} {n n' : Nat} {f : Obj → Obj} (I : Inv X pins σ H s) (h : H p = some (.lst xs))
    (ho : s.heap.get? p = some { cls := .type "list", data := .seq its.toArray n }) (hf : f { cls := .type "list", data := .seq its.toArray n } = { cls := .type "list", data := .seq its'.toArray n' }) (r : Vals ys its') (hz : ys.length ≤ sizeLine) (t : Nat) :
    Inv X pins σ (upd H p (.lst ys)) { s with heap := s.heap.update p f, toks := t } := by
  have e : (s.heap.update p f).get? p = some { cls := .type "list", data := .seq its'.toArray n' } := by
    rw [Heap.get?_update_self f ho (by rw [hf] <;> rfl), hf]
  refine I.write (x := p) (e := p) (by rw [h]; trivial) (.inl rfl) (fun b u hb q => (Heap.get?_update_other _ _ (Ne.symm hb)).trans q) ⟨_, e⟩ ?_
  exact ⟨hz, its', n', r, e⟩
inductive rSetL (o : V) (i : V) (v : V) (H : Hp) (Q : Hp → Prop) : Prop
  | mk (p xs k j : _) : o = .ref p → i = .int k → H p = some (.lst xs) → ixN xs.length k = some j → Q (upd H p (.lst (xs.set j v))) → rSetL o i v H Q
theorem set_list : PSet X rSetL := by
  intro pins s σ H o i v ov iv u Q I ro ri rv h
  obtain ⟨p, xs, k, j, rfl, rfl, hp, hj, q⟩ := h
  cases ro
  obtain ⟨t, rfl⟩ := ri
  obtain ⟨its, n, r, ho, hz⟩ := I.lst hp
  obtain ⟨h1, h2, h3, h4⟩ := ixN_seq hj
  have hl := r.length
  have hn := line63
  have I' : Inv X pins σ (upd H p (.lst (xs.set j v))) { s with heap := s.heap.update p (Obj.mapSeq (·.setIfInBounds j u)) } :=
    I.lstUpd hp ho (mapSeq_set its n j u) (r.set rv j) (by rw [List.length_set]; exact hz) s.toks
  by_cases h0 : 0 ≤ k
  · have hk : k.toNat = j := by
      rw [seqIndex_of h0 h4] at h1
      exact Option.some.inj h1
    exact PySem.W.ki_setAt ho h0 (by lia) (by rw [List.size_toArray, ← hl]; exact h4) (by rw [hk]; exact ⟨_, I', q⟩)
  · have hk : (k + (its.toArray.size : Int)).toNat = j := by
      rw [seqIndex_neg (by lia) h3] at h1
      rw [List.size_toArray, ← hl]
      exact Option.some.inj h1
    exact PySem.W.ki_setBack ho (by lia) (by rw [List.size_toArray, ← hl]; exact h3) (by lia) (by rw [hk]; exact ⟨_, I', q⟩)
def flatV : V → Bool
  | .non => true
  | .bl _ => true
  | .int _ => true
  | .str _ => true
  | _ => false
def eqV : V → V → Bool
  | .non, .non => true
  | .bl a, .bl b => a == b
  | .bl a, .int b => (if a then 1 else 0) == b
  | .int a, .bl b => a == (if b then 1 else 0)
  | .int a, .int b => a == b
  | .str a, .str b => a == b
  | _, _ => false
theorem eqAt_V {A : Around} {s : Shared} {y x : V} {u v : Value} (ry : RelV y u) (rx : RelV x v) (fy : flatV y = true) (fx : flatV x = true) : SeqAt.EqAt A s u v (eqV y x) := by
  cases y with
  | non =>
    cases ry
    cases x with
    | non => cases rx; exact SeqAt.EqAt.same _
    | bl b => cases rx; exact SeqAt.EqAt.none_bool b
    | int b => obtain ⟨t, rfl⟩ := rx; exact SeqAt.EqAt.none_int b t
    | str b => obtain ⟨t, rfl⟩ := rx; exact SeqAt.EqAt.none_str b t
    | _ => exact absurd (show false = true from fx) Bool.false_ne_true
  | bl a =>
    cases ry
    cases x with
    | non => cases rx; exact SeqAt.EqAt.bool_none a
    | bl b => cases rx; exact SeqAt.EqAt.bool_bool a b
    | int b => obtain ⟨t, rfl⟩ := rx; exact SeqAt.EqAt.bool_int a b t
    | str b => obtain ⟨t, rfl⟩ := rx; exact SeqAt.EqAt.bool_str a b t
    | _ => exact absurd (show false = true from fx) Bool.false_ne_true
  | int a =>
    obtain ⟨t', rfl⟩ := ry
    cases x with
    | non => cases rx; exact SeqAt.EqAt.int_none a t'
    | bl b => cases rx; exact SeqAt.EqAt.int_bool a t' b
    | int b => obtain ⟨t, rfl⟩ := rx; exact SeqAt.EqAt.int_int a t' b t
    | str b => obtain ⟨t, rfl⟩ := rx; exact SeqAt.EqAt.int_str a t' b t
    | _ => exact absurd (show false = true from fx) Bool.false_ne_true
  | str a =>
    obtain ⟨t', rfl⟩ := ry
    cases x with
    | non => cases rx; exact SeqAt.EqAt.str_none a t'
    | bl b => cases rx; exact SeqAt.EqAt.str_bool a t' b
    | int b => obtain ⟨t, rfl⟩ := rx; exact SeqAt.EqAt.str_int a t' b t
    | str b => obtain ⟨t, rfl⟩ := rx; exact SeqAt.EqAt.str_str a t' b t
    | _ => exact absurd (show false = true from fx) Bool.false_ne_true
  | _ => exact absurd (show false = true from fy) Bool.false_ne_true
def eqU (x : V) (u : Value) : Bool := match u with
  | .none => eqV .non x
  | .bool b => eqV (.bl b) x
  | .int i _ => eqV (.int i) x
  | .str z _ => eqV (.str z) x
  | _ => false
theorem eqU_of {x y : V} {u : Value} (r : RelV y u) (f : flatV y = true) : eqU x u = eqV y x := by
  cases y with
  | non => cases r; rfl
  | bl b => cases r; rfl
  | int i => obtain ⟨t, rfl⟩ := r; rfl
  | str z => obtain ⟨t, rfl⟩ := r; rfl
  | _ => exact absurd (show false = true from f) Bool.false_ne_true
theorem any_eqU {x : V} : ∀ {xs : List V} {us : List Value}, Vals xs us → xs.all flatV = true → us.any (eqU x) = xs.any fun y => eqV y x
  | _, _, .nil, _ => rfl
  | y :: xs, u :: us, .cons r t, f => by
    rw [List.all_cons, Bool.and_eq_true] at f
    rw [List.any_cons, List.any_cons, eqU_of r f.1, any_eqU t f.2]
theorem mem_eqAt {A : Around} {s : Shared} {x : V} {v : Value} (rx : RelV x v) (fx : flatV x = true) : ∀ {xs : List V} {us : List Value}, Vals xs us → xs.all flatV = true → ∀ u ∈ us, SeqAt.EqAt A s u v (eqU x u)
  | _, _, .nil, _ => fun u hu => by cases hu
  | y :: xs, u :: us, .cons r t, f => fun u' hu => by
    rw [List.all_cons, Bool.and_eq_true] at f
    rcases List.mem_cons.mp hu with rfl | hu
    · rw [eqU_of r f.1]; exact eqAt_V r rx f.1 fx
    · exact mem_eqAt rx fx t f.2 u' hu
def inV (x : V) (xs : List V) : Bool := xs.any fun y => eqV y x
inductive rIn (K : PySem.W.Frag) (neg : Bool) (x : V) (y : V) (H : Hp) (Q : VK) : Prop
  | mk (p xs : _) : y = .ref p → (SqL K H p xs ∨ SqT K H p xs) → flatV x = true → xs.all flatV = true → Q (.bl (if neg then !inV x xs else inV x xs)) H → rIn K neg x y H Q
theorem op_in_seq : OpR X (compareOp .In) (rIn X.K false) := by
  intro pins s σ H x y v u Q I rx ry h
  obtain ⟨p, xs, rfl, hq, fx, fs, q⟩ := h
  cases ry
  rcases hq with hq | hq
  · obtain ⟨its, r, pl, hz⟩ := I.list hq
    refine SeqAt.in_listAt (eqU x) pl.isList (fun w hw => mem_eqAt rx fx r fs w (by simpa using hw)) ⟨.bl _, H, I, rfl, ?_⟩
    rw [show its.toArray.any (eqU x) = its.any (eqU x) by simp, any_eqU r fs]
    exact q
  · obtain ⟨its, r, pl, hz⟩ := I.tuple hq
    refine SeqAt.in_tupleAt (eqU x) pl (fun w hw => mem_eqAt rx fx r fs w (by simpa using hw)) ⟨.bl _, H, I, rfl, ?_⟩
    rw [show its.toArray.any (eqU x) = its.any (eqU x) by simp, any_eqU r fs]
    exact q
theorem call_len_seq : CallR X (.builtin "len") (fun xs H Q => ∃ p ys, xs = [.ref p] ∧ (SqL X.K H p ys ∨ SqT X.K H p ys) ∧ Q (.int ys.length) H) := by
  intro pins s σ H xs us Q I r h
  obtain ⟨p, ys, rfl, hq, q⟩ := h
  obtain ⟨u, rfl, rx⟩ := vals1 r
  cases rx
  have hn := line63
  rcases hq with hq | hq
  · obtain ⟨its, r', pl, hz⟩ := I.list hq
    have hlen := r'.length
    exact Calls.call_len_list pl.isList (by simp only [List.size_toArray] <;> lia) ⟨.int ys.length, H, I.tok _, ⟨s.toks + 1, by rw [List.size_toArray, hlen]⟩, q⟩
  · obtain ⟨its, r', pl, hz⟩ := I.tuple hq
    have hlen := r'.length
    exact len_tuple pl (by simp only [List.size_toArray] <;> lia) ⟨.int ys.length, H, I.tok _, ⟨s.toks + 1, by rw [List.size_toArray, hlen]⟩, q⟩
theorem call_tuple_of : CallR X (.type "tuple") (fun xs H Q => ∃ p ys, xs = [.ref p] ∧ ((SqL X.K H p ys ∧ ∀ l, H l = none → Q (.ref l) (upd H l (.tup ys))) ∨ (SqT X.K H p ys ∧ Q (.ref p) H))) := by
  intro pins s σ H xs us Q I r h
  obtain ⟨p, ys, rfl, h⟩ := h
  obtain ⟨u, rfl, rx⟩ := vals1 r
  cases rx
  rcases h with ⟨hq, q⟩ | ⟨hq, q⟩
  · obtain ⟨its, r', pl, hz⟩ := I.list hq
    have hlen := r'.length
    refine call_tuple_list pl.isList (fun h' kp => ?_) (by simp only [List.size_toArray] <;> lia)
    have I1 : Inv X pins σ H { s with heap := h' } := I.kept (t' := s.toks) kp
    have I2 : Inv X pins σ (upd H h'.objs.size (.tup ys)) { s with heap := h'.push { cls := .type "tuple", data := .seq its.toArray } } :=
      I1.laid (t' := s.toks) (fun b o e => Heap.get?_push_of_some _ e) (Nat.le_refl _) (show ObjOk X.prog X.w _ _ _ (.tup ys) from ⟨hz, its, r', TupP.new _ _⟩)
    exact ⟨.ref h'.objs.size, _, I2, rfl, q _ (I1.hok.fresh (Nat.le_refl _))⟩
  · obtain ⟨its, r', pl, hz⟩ := I.tuple hq
    exact call_tuple_same pl ⟨.ref p, H, I, rfl, q⟩
def tyV (K : PySem.W.Frag) (T : String) (x : V) (H : Hp) : Prop := match x with
  | .str _ => T = "str"
  | .int _ => T = "int"
  | .ref p => (T = "list" ∧ ∃ xs, SqL K H p xs) ∨ (T = "tuple" ∧ ∃ o, K.lookup p = some o ∧ o.cls = .type "tuple" ∧ o.dict = none) ∨
      (T = "dict" ∧ ((∃ kvs, H p = some (.dK kvs)) ∨ ∃ kvs, H p = some (.dT kvs))) ∨ (T = "set" ∧ ∃ S n, H p = some (.set S n))
  | _ => False
theorem tyV_is {pins : List (Addr × Obj)} {σ : St} {H : Hp} {s : Shared} {T : String} {x : V} {v : Value} (I : Inv X pins σ H s) (r : RelV x v) (ty : tyV X.K T x H) :
    s.TypeIs v T ∧ ∀ a, v = .ref a → ∃ ob, s.heap.get? a = some ob ∧ ob.dict = none := by
  cases x with
  | str z =>
    obtain ⟨t, rfl⟩ := r
    cases (show T = "str" from ty)
    exact ⟨typeIs_str s z t, fun _ e => nomatch e⟩
  | int i =>
    obtain ⟨t, rfl⟩ := r
    cases (show T = "int" from ty)
    exact ⟨typeIs_int s i t, fun _ e => nomatch e⟩
  | ref p =>
    cases r
    rcases ty with ⟨rfl, xs, hq⟩ | ⟨rfl, o, hk, hc, hd⟩ | ⟨rfl, hk⟩ | ⟨rfl, S, n, hk⟩
    · obtain ⟨its, _, pl, _⟩ := I.list hq
      refine ⟨pl.isList.typeIs, fun a e => ?_⟩
      cases e
      obtain ⟨o, n, e, c, hd, _⟩ := pl
      exact ⟨o, e, hd⟩
    · refine ⟨⟨o, I.kIn p o hk, hc⟩, fun a e => ?_⟩
      cases e
      exact ⟨o, I.kIn _ o hk, hd⟩
    · have z : ∃ o, s.heap.get? p = some o ∧ o.ExactDict := by
        rcases hk with ⟨kvs, hk⟩ | ⟨kvs, hk⟩
        · obtain ⟨_, _, _, _, o, _, _, e, ex, _⟩ := I.hok p _ hk
          exact ⟨o, e, ex⟩
        · obtain ⟨_, _, _, _, o, _, _, e, ex, _⟩ := I.hok p _ hk
          exact ⟨o, e, ex⟩
      obtain ⟨o, e, ex⟩ := z
      refine ⟨⟨o, e, ex.1⟩, fun a e2 => ?_⟩
      cases e2
      exact ⟨o, e, ex.2.1⟩
    · obtain ⟨o, _, _, _, e, ex, _⟩ := I.hok p _ hk
      refine ⟨⟨o, e, ex.1⟩, fun a e2 => ?_⟩
      cases e2
      exact ⟨o, e, ex.2.1⟩
  | _ => exact False.elim ty
def tBM0 (K : PySem.W.Frag) (T : String) (r : V → List V → Hp → VK → Prop) (to : TE) : TE := fun σ H Q => to σ H fun x H1 => tyV K T x H1 ∧ r x [] H1 Q
def tBM (K : PySem.W.Frag) (T : String) (r : V → List V → Hp → VK → Prop) (to : TE) (t : TA) : TE := fun σ H Q => to σ H fun x H1 => tyV K T x H1 ∧ t σ H1 fun xs H2 => r x xs H2 Q
variable {o e : Expr} {es : List Expr} {to : TE} {t : TA} {name : Str} {apos cpos : Pos} {T id : String} {r : V → List V → Hp → VK → Prop}
theorem pe_bm0 (pa : PlainAttrs T) (slot : Slot T name id) (hty : typeOf (.builtin id) = pure (.type "method_descriptor")) (hm : MtR X id r) (ho : PE X o to)
    (hbase : attributeBase o name X.env (eval o X.env) = eval o X.env := by rfl) (hline : (apos.endLine == cpos.line) = true := by rfl) : PE X (.Call (.Attribute o name apos) [] [] cpos) (tBM0 X.K T r to) := by
  refine ⟨?_⟩
  intro pins s σ H Q I h
  refine wpAny_Call_method0_late hbase hline (thn (ho pins s σ H _ I h) fun v s1 ⟨x, H1, I1, r1, ty, q1⟩ => ?_)
  obtain ⟨h1, h2⟩ := tyV_is I1 r1 ty
  exact ⟨T, id, pa, slot, hty, h1, h2, Calls.callWith_builtin rfl (PySem.evalArgs_none (hm pins s1 σ H1 x [] v [] Q I1 r1 .nil q1))⟩
theorem pe_bm (pa : PlainAttrs T) (slot : Slot T name id) (hty : typeOf (.builtin id) = pure (.type "method_descriptor")) (hm : MtR X id r) (ho : PE X o to) (ha : PA X (e :: es) t)
    (hbase : attributeBase o name X.env (eval o X.env) = eval o X.env := by rfl)
    (hfew : ((backTo cpos (starEach (e :: es) X.env)).all (fun x => !x.1) && (backToKw cpos (keywordEach [] X.env)).all (fun x => x.1.isSome)
      && decide ((e :: es).length + ([] : List Keyword).length + (if ([] : List Keyword).isEmpty then 0 else 1) < 30)) = true := by rfl)
    (hline : (apos.endLine == cpos.line) = true := by rfl) (hs : starEach (e :: es) X.env = (false, eval e X.env) :: starEach es X.env := by rfl) (hplain : (backTo cpos (starEach es X.env)).any (·.1) = false := by rfl) :
    PE X (.Call (.Attribute o name apos) (e :: es) [] cpos) (tBM X.K T r to t) := by
  refine ⟨?_⟩
  intro pins s σ H Q I h
  refine wpAny_Call_method_late hbase hfew hline rfl (thn (ho pins s σ H _ I h) fun v s1 ⟨x, H1, I1, r1, ty, q1⟩ => ?_)
  obtain ⟨h1, h2⟩ := tyV_is I1 r1 ty
  refine ⟨T, id, pa, slot, hty, h1, h2, ?_⟩
  have hA := ha cpos pins s1 σ H1 _ I1 q1
  rw [hs] at hA ⊢
  refine Calls.callWith_builtin (by show (false || (backTo cpos (starEach es X.env)).any (·.1)) = false; rw [hplain] <;> rfl) (Calls.evalArgs_plain ?_)
  exact thn hA fun us s2 ⟨vs, H2, I2, r2, q2⟩ => hm pins s2 σ H2 x vs v us Q I2 r1 r2 q2
/- xs.append(e), list.index on a module's tuple .. are MtR facts of 06m -/
end
end L2
namespace L2
open PySem PySem.Spec PyProof.Rows
def MtM (X : Cx) (id : String) (r : V → List V → Hp → VK → Prop) : Prop :=
  ∀ (pins : List (Addr × Obj)) (s : Shared) (σ : St) (H : Hp) (x : V) (xs : List V) (v : Value) (us : List Value) (Q : VK), Inv X pins σ H s → RelV x v → Vals xs us → r x xs H Q →
    wpAny (model X.prog X.w) X.A (call (.builtin id) (v :: us)) (EP X pins σ Q) X.xe s
theorem Vals.one : ∀ {x : V} {us : List Value}, Vals [x] us → ∃ u, us = [u] ∧ RelV x u
  | _, _, .cons r .nil => ⟨_, rfl, r⟩
theorem Vals.zero : ∀ {us : List Value}, Vals [] us → us = []
  | _, .nil => rfl
section
variable {X : Cx} {pins : List (Addr × Obj)} {σ : St} {H : Hp} {s : Shared} {l b : Addr} {xs ys zs : List V}
theorem Inv.lset {its its' : List Value} {n : Nat} {f : Array Value → Array Value} {t' : Nat} (I : Inv X pins σ H s) (hH : H l = some (.lst xs))
    (e : s.heap.get? l = some { cls := .type "list", data := .seq its.toArray n }) (hf : f its.toArray = its'.toArray) (hv : Vals ys its') (hz : ys.length ≤ sizeLine) :
    Inv X pins σ (upd H l (.lst ys)) { s with heap := s.heap.update l (Obj.mapSeq f), toks := t' } := by
  have q := PySem.IsL.update e f
  rw [hf] at q
  refine I.write (x := l) (e := l) (by rw [hH]; exact trivial) (.inl rfl) (fun b' u hb hu => (Heap.get?_update_other s.heap (Obj.mapSeq f) (Ne.symm hb)).trans hu) ⟨_, q⟩ ?_
  exact ⟨hz, its', _, hv, q⟩
theorem Inv.lnew {its : List Value} {t' : Nat} (I : Inv X pins σ H s) (hv : Vals ys its) (hz : ys.length ≤ sizeLine) :
    Inv X pins σ (upd H s.heap.objs.size (.lst ys)) { s with heap := s.heap.push { cls := .type "list", data := .seq its.toArray }, toks := t' } :=
  I.laid (fun _ _ q => Heap.get?_push_of_some _ q) (Nat.le_refl _) ⟨hz, its, 0, hv, Heap.get?_push_size _ rfl⟩
theorem Inv.fresh (I : Inv X pins σ H s) : H s.heap.objs.size = none := I.hok.fresh (Nat.le_refl _)
theorem Inv.lstM (I : Inv X pins σ H s) (hH : H l = some (.lst xs)) : xs.length ≤ sizeLine ∧ ∃ (its : List Value) (n : Nat), Vals xs its ∧ xs.length = its.length ∧ s.heap.get? l = some { cls := .type "list", data := .seq its.toArray n } := by
  obtain ⟨z, its, n, r, e⟩ := I.hok l _ hH
  exact ⟨z, its, n, r, r.length, e⟩
end
section
variable {X : Cx}
inductive rAppend (x : V) (vs : List V) (H : Hp) (Q : VK) : Prop
  | mk (l xs y : _) : x = .ref l → vs = [y] → H l = some (.lst xs) → xs.length < sizeLine → Q .non (upd H l (.lst (xs ++ [y]))) → rAppend x vs H Q
theorem mt_append : MtM X "list.append" rAppend := by
  intro pins s σ H x vs v us Q I rx rv h
  obtain ⟨l, xs, y, rfl, rfl, hH, hz, q⟩ := h
  cases rx
  obtain ⟨u, rfl, ru⟩ := rv.one
  obtain ⟨z, its, n, r, hl, e⟩ := I.lstM hH
  refine call_meets F.slot_list_append ⟨_, e, rfl⟩ F.entry_list_append (F.args_list_append_2 _ _) (PySem.list_append l its.toArray n u (by rw [List.size_toArray]; lia)) ⟨e, ?_⟩
  refine ⟨.non, _, I.lset (its' := its ++ [u]) hH e (by simp) (r.append (.cons ru .nil)) ?_, rfl, q⟩
  rw [List.length_append, List.length_singleton]
  lia
inductive rClear (x : V) (vs : List V) (H : Hp) (Q : VK) : Prop
  | mk (l xs : _) : x = .ref l → vs = [] → H l = some (.lst xs) → Q .non (upd H l (.lst [])) → rClear x vs H Q
theorem mt_clear : MtM X "list.clear" rClear := by
  intro pins s σ H x vs v us Q I rx rv h
  obtain ⟨l, xs, rfl, rfl, hH, q⟩ := h
  cases rx
  have hus := rv.zero
  subst hus
  obtain ⟨z, its, n, r, hl, e⟩ := I.lstM hH
  refine call_meets F.slot_list_clear ⟨_, e, rfl⟩ F.entry_list_clear (F.args_list_clear_1 _) (AutoSeq1.list_clear_list_0 l its.toArray n (by rw [List.size_toArray]; lia)) ⟨e, ?_⟩
  exact ⟨.non, _, I.lset (its' := []) (ys := []) hH e rfl .nil (Nat.zero_le _), rfl, q⟩
inductive rCat (x : V) (y : V) (H : Hp) (Q : VK) : Prop
  | mk (l b xs zs : _) : x = .ref l → y = .ref b → H l = some (.lst xs) → H b = some (.lst zs) → xs.length + zs.length ≤ sizeLine → (∀ p, H p = none → Q (.ref p) (upd H p (.lst (xs ++ zs)))) → rCat x y H Q
theorem op_cat : OpR X (binaryOp .Add) rCat := by
  intro pins s σ H x y v u Q I rx ry h
  obtain ⟨l, b, xs, zs, rfl, rfl, hH, hB, hz, q⟩ := h
  cases rx
  cases ry
  obtain ⟨z, its, n, r, hl, e⟩ := I.lstM hH
  obtain ⟨z2, its2, n2, r2, hl2, e2⟩ := I.lstM hB
  refine PySem.P.add_list e e2 ?_ (by rw [List.size_toArray, List.size_toArray]; lia)
  have ea : its.toArray ++ its2.toArray = (its ++ its2).toArray := by simp
  rw [ea]
  exact ⟨.ref _, _, I.lnew (t' := s.toks) (r.append r2) (by rw [List.length_append]; lia), rfl, q _ I.fresh⟩
end
end L2
namespace Att
open PySem PySem.W PySem.Calls PyProof.Rows
theorem ints_of_wellAll {P : Params} {h : Heap} : ∀ (ns : List Int) (vs : List Value), WellAll P h vs (ns.map WData.int) → IntsAre vs ns := by
  intro ns
  induction ns with
  | nil =>
    intro vs w
    rw [List.map_nil] at w
    cases w
    exact .nil
  | cons n ns ih =>
    intro vs w
    rw [List.map_cons] at w
    cases w with
    | cons a b =>
      cases a
      exact .cons _ _ (ih _ b)
theorem script_of {l : OpenLaw} {n : Nat} (hn : l.most = some n) {P : Params} {h : Heap} {args : List WData} {vals : List Value}
    (hpre : l.row.toRowW.claim.pre args = true) (hwl : WellAll P h vals args) :
    ∃ a vs ns, vals = [Value.ref a] ∧ args = [WData.list (ns.map WData.int)] ∧ h.get? a = some { cls := .type "list", data := .seq vs.toArray } ∧ IntsAre vs ns ∧ ns.length ≤ n := by
  have hsh : WShape.hasAll [] args [.list .int] = true := (pre_splitW hpre).1
  have hc : l.pre.holds [] { args := args } = true := (pre_splitW hpre).2
  obtain ⟨d, r, rfl, h1, h2⟩ := hasAllW_cons hsh
  obtain rfl := hasAllW_nil h2
  obtain ⟨xs, rfl, h3⟩ := hasW_list h1
  obtain ⟨ns, rfl⟩ := items_int h3
  have hlen : ns.length ≤ n := by
    unfold OpenLaw.pre at hc
    have h4 : (WTm.not (.lt (.lit (.int (n : Int))) (.len (.arg 0)))).holds [] { args := [.list (ns.map .int)] } = true := by
      have h4 := (holds_andW hc).1
      rw [hn] at h4
      exact h4
    have h5 := condW_of h4 (w_not (w_lt w_lit (w_len_list (w_arg rfl))))
    rw [List.length_map] at h5
    refine Nat.le_of_not_lt fun q => ?_
    have q' : (n : Int) < ((ns.length : Nat) : Int) := by lia
    first
      | (rw [decide_eq_true q'] at h5; exact absurd h5 (by decide))
      | (simp at h5; lia)
  cases hwl with
  | cons w1 w2 =>
    cases w2
    cases w1 with
    | list ho hall => exact ⟨_, _, ns, rfl, rfl, ho, ints_of_wellAll ns _ hall, hlen⟩
theorem post_true (l : OpenLaw) (args : List WData) : l.row.toRowW.claim.post args (.bool true) args = true :=
  postW_of (r := l.row.toRowW) (X := (true == true))
    (show WShape.has [] (.bool true) .bool = true by first | rfl | decide | simp [WShape.has, WShape.arms, WShape.armsAll])
    (show (WTm.eq .res (.lit (.bool true))).value [] { args := args, res := some (.bool true), after := args } = some (.bool (true == true)) from w_eq_bool (w_res rfl) w_lit) rfl
theorem attach_call {l : OpenLaw} {n : Nat} {q : Program} {loose : List Str} {XP : (Str → Option Value) → Heap → Prop} {YP : World → Heap → Prop} {d : DefRec}
    (hn : l.most = some n) (hdf : d.params.defaults = [])
    (call : ∀ (w : World) (s₀ s₁ : Shared) (mg mb : Str → Option Value) (fa : Addr) (o : Obj) (pm cd doc : Value) (a : Addr) (vs : List Value) (ns : List Int),
      Ground q loose [] XP w s₀ mg mb s₁.heap → YP w s₁.heap →
      s₁.heap.get? fa = some o → o.data = .func (docDef d.name d.params d.body d.scope pm cd doc) → s₁.heap.CodeRec cd d.name → mg d.name = some (.ref fa) →
      s₁.heap.get? a = some { cls := .type "list", data := .seq vs.toArray } → IntsAre vs ns → ns.length ≤ n → s₁.gens = #[] →
      codeAny (model l.prog w) callerA (.call (.ref fa) ⟨[.ref a], []⟩) (fun r s' => r = .ok (.ret (.bool true)) ∧ OldK s₁.heap s'.heap ∧ s'.os = s₁.os ∧ AllBare s'.gens) s₁) :
    WalkO q loose XP YP l.row.toRowW d [] (fun f vs => PySem.call f vs) := by
  intro w s₀ s₁ mg mb G Y fa o pm cd doc dV kV ho hd hcd hD hmg hg args vals as hpre hlay hrd hwl hlo
  obtain rfl : dV = .none := Dflts.none hD hdf
  obtain rfl : kV = .none := Dflts.noKw hD
  obtain ⟨a, vs, ns, rfl, rfl, hobj, hints, hlen⟩ := script_of hn hpre hwl
  refine enter_call (codeAny_mono (call w s₀ s₁ mg mb fa o pm cd doc a vs ns G Y ho (fd_plain hd) hcd hmg hobj hints hlen hg) fun r s' hq => ?_)
  obtain ⟨rfl, h2, h3, h4⟩ := hq
  exact ⟨.inl ⟨.bool true, .bool true, [], rfl, fun _ => rfl, .bool true, post_true l _, fun _ => ⟨List.Pairwise.nil, fun _ hm => (nomatch hm)⟩⟩, h2, h3, h4⟩
section
variable {prog : Program} {w : World} {A : Around} {E : Value → Shared → Prop} {s : Shared} {K : Frag}
end
end Att
namespace L2
open PySem PySem.Spec PyProof.Rows
theorem vals_ints : ∀ {vs : List Value} {ns : List Int}, IntsAre vs ns → Vals (ns.map V.int) vs
  | _, _, .nil => .nil
  | _, _, .cons n t h => .cons ⟨t, rfl⟩ (vals_ints h)
def Only (H : Hp) : Prop := ∀ b, H b = none ∨ ∃ o xs, H b = some (.frz o (.lst xs))
theorem law_call {P : Program} {w : World} {K : PySem.W.Frag} {mg mb : Str → Option Value} {CX : CXT} {k : Nat} {fa a : Addr} {fd : FuncData} {x : Str} {sp : Sp} {s₁ : Shared} {vs : List Value} {ns : List Int}
    (KX : K.In s₁.heap) (hns : s₁.heap.Ns mainGlobals mg) (hb : s₁.heap.Ns builtinsNs mb) (hbb : ∀ x : Str, x ≠ "__name__" → mb x = bootBuiltins x) (hlim : s₁.heap.NoLimit) (hg : s₁.gens = #[])
    (ha : s₁.heap.get? a = some { cls := .type "list", data := .seq vs.toArray }) (hi : IntsAre vs ns) (hl : ns.length ≤ sizeLine) (hr : Room k callerA)
    (F : ∀ base : Heap, K.In base → base.Ns mainGlobals mg → FnOk P w K mg base CX k fa fd [x] sp) (hbind : ∀ (s : Shared) (u : Value), BindsTo s fd ⟨[u], []⟩ [(x, u)])
    (hsp : ∀ H : Hp, Only H → SqL K H a (ns.map V.int) → sp [.ref a] H (fun v _ => v = .bl true) fun _ _ _ => False)
    (hCX : ∀ H e s', CX [] H s₁ (fun _ _ _ => False) e s' → False) :
    codeAny (model P w) callerA (.call (.ref fa) ⟨[.ref a], []⟩) (fun r s' => r = .ok (.ret (.bool true)) ∧ OldK s₁.heap s'.heap ∧ s'.os = s₁.os ∧ AllBare s'.gens) s₁ := by
  have rv := vals_ints hi
  have lenV := hi.length
  -- from an abstract heap in which nothing but the script may be tracked
  have core : ∀ H : Hp, Only H → SqL K H a (ns.map V.int) → HOk P w H s₁.heap → (∀ b, H b ≠ none → b = a) → (H a ≠ none → K.lookup a = none) →
      codeAny (model P w) callerA (.call (.ref fa) ⟨[.ref a], []⟩) (fun r s' => r = .ok (.ret (.bool true)) ∧ OldK s₁.heap s'.heap ∧ s'.os = s₁.os ∧ AllBare s'.gens) s₁ := by
    intro H hO hS hok hA hK
    have base_of : ∀ {b : Addr} {o : Obj}, s₁.heap.get? b = some o → H b = none → (hidT s₁.heap H).get? b = some o := fun e n => hidT_get e n
    have noA : ∀ {b : Addr} {o : Obj} {es : Array DictEntry} {ep : Nat}, s₁.heap.get? b = some o → o.data = .dict es ep → H b = none := fun {b o es ep} e d => by
      cases q : H b with
      | none => rfl
      | some u =>
        have e' : b = a := hA b (by rw [q]; simp)
        subst e'
        rw [ha] at e; cases e
        have d' : Data.seq vs.toArray _ = Data.dict es ep := d
        cases d'
    have nsK : ∀ {b : Addr} {m : Str → Option Value}, s₁.heap.Ns b m → (hidT s₁.heap H).Ns b m := fun {b m} ⟨o, es, ep, e, d, r⟩ => ⟨o, es, ep, base_of e (noA e d), d, r⟩
    have hKb : K.In (hidT s₁.heap H) := fun b o e => base_of (KX b o e) (by
      cases q : H b with
      | none => rfl
      | some u =>
        have e' : b = a := hA b (by rw [q]; simp)
        subst e'
        rw [hK (by rw [q]; simp)] at e; cases e)
    have hM : Mod K mg (hidT s₁.heap H) := ⟨hKb, nsK hns, ⟨mb, nsK hb, hbb⟩, let ⟨mc, h1, h2⟩ := hlim; ⟨mc, nsK h1, h2⟩⟩
    have e0 : Env0 P w K mg (hidT s₁.heap H) callerA [] s₁ H := ⟨rfl, hM, fun b o e => of_hidT e, Nat.le_of_eq (hidT_size _ _), trivial, fun b hb => absurd (show b ∈ ([] : List Addr) from hb) (by simp), hok, .of_eq hg⟩
    refine codeAny_mono ((F _ hKb (nsK hns)).run callerA [] s₁ H ⟨[.ref a], []⟩ [.ref a] [.ref a] _ _ hr e0 (hbind s₁ (.ref a)) (.cons rfl .nil) (hsp H hO hS)) fun r s' h => ?_
    cases r with
    | error e => exact (hCX H e s' h).elim
    | ok fl =>
      cases fl with
      | next => exact False.elim h
      | brk => exact False.elim h
      | cont => exact False.elim h
      | ret u =>
        obtain ⟨v, H', os, bare, un, hok', r', q⟩ := h
        have q' : v = .bl true := q
        subst q'
        obtain rfl : u = Value.bool true := r'
        refine ⟨rfl, OldK.of_keep fun b o e => ?_, os, bare⟩
        cases q : H b with
        | none => exact un.keep b o e q (by intro z; exact absurd (show b ∈ ([] : List Addr) from z) (by simp)) (by simp)
        | some u =>
          rcases hO b with z | ⟨ob, xs, z⟩
          · rw [q] at z; cases z
          · have z2 := un.frzs b ob _ z
            obtain ⟨e1, _⟩ := hok b _ z
            obtain ⟨e2, _⟩ := hok' b _ z2
            rw [e] at e1; cases e1
            exact e2
  cases hk : K.lookup a with
  | some o =>
    -- the script is one of the module's own objects
    have e := KX a o hk
    rw [ha] at e
    cases e
    refine core (fun _ => none) (fun _ => .inl rfl) (.inr ⟨_, vs.toArray, _, hk, rfl, rfl, rfl, by rw [List.size_toArray, lenV]; exact hl, by simpa using rv⟩) (fun b u z => by have z' : (none : Option HO) = some u := z; cases z') (fun b z => absurd rfl z) fun z => absurd rfl z
  | none =>
    refine core (fun b => if b = a then some (.frz { cls := .type "list", data := .seq vs.toArray } (.lst (ns.map V.int))) else none) (fun b => ?_) (.inl (.inr ⟨{ cls := .type "list", data := .seq vs.toArray }, if_pos rfl⟩)) (fun b u z => ?_) (fun b z => ?_) fun _ => hk
    · by_cases hb : b = a
      · exact .inr ⟨_, _, if_pos hb⟩
      · exact .inl (if_neg hb)
    · by_cases hb : b = a
      · have z' := (if_pos hb).symm.trans z
        cases z'
        subst hb
        exact ⟨ha, by rw [List.length_map]; exact hl, vs, _, rv, ha⟩
      · have z' := (if_neg hb).symm.trans z
        cases z'
    · by_cases hb : b = a
      · exact hb
      · exact absurd (if_neg hb) z
end L2
namespace L2
open PySem PySem.Spec PyProof.Rows
theorem walk_of {l : PySem.W.OpenLaw} {n k : Nat} {q : Program} {loose : List Str} {XP : (Str → Option Value) → Heap → Prop} {YP : World → Heap → Prop} {d : DefRec} {K : Params → PySem.W.Frag} {CX : World → CXT} {sp : World → Sp} {x : Str}
    (hn : l.most = some n) (hn2 : n ≤ sizeLine) (hdf : d.params.defaults = []) (hr : Room k callerA)
    (hY : ∀ (w : World) (h : Heap), YP w h → (K w.params).In h)
    (F : ∀ (w : World) (mg : Str → Option Value) (fa : Addr) (h : Heap), (K w.params).In h → h.Ns mainGlobals mg → mg d.name = some (.ref fa) →
      ∃ fd : FuncData, (∀ (s : Shared) (u : Value), BindsTo s fd ⟨[u], []⟩ [(x, u)]) ∧
        ∀ base : Heap, (K w.params).In base → base.Ns mainGlobals mg → FnOk l.prog w (K w.params) mg base (CX w) k fa fd [x] (sp w))
    (hsp : ∀ (w : World) (H : Hp) (a : Addr) (ns : List Int), ns.length ≤ n → Only H → SqL (K w.params) H a (ns.map V.int) → sp w [.ref a] H (fun v _ => v = .bl true) fun _ _ _ => False)
    (hCX : ∀ (w : World) (H : Hp) (s : Shared) (e : Value) (s' : Shared), CX w [] H s (fun _ _ _ => False) e s' → False) :
    PySem.W.WalkO q loose XP YP l.row.toRowW d [] (fun f vs => PySem.call f vs) := by
  refine Att.attach_call hn hdf fun w s₀ s₁ mg mb fa o pm cd doc a vs ns G Y ho hd hcd hmg hobj hints hlen hg => ?_
  have KX := hY w _ Y
  obtain ⟨fd, hb, hF⟩ := F w mg fa _ KX G.T.g hmg
  exact law_call KX G.T.g G.T.b G.T.builtins G.T.nolimit hg hobj hints (Nat.le_trans hlen hn2) hr hF hb (fun H hO hS => hsp w H a ns hlen hO hS) fun H e s' => hCX w H s₁ e s'
theorem walk_ofK {l : PySem.W.OpenLaw} {n k : Nat} {q : Program} {loose : List Str} {XP : (Str → Option Value) → Heap → Prop} {YP : World → Heap → Prop} {d : DefRec} {K : Params → PySem.W.Frag} {CX : CXT} {sp : PySem.W.Frag → Sp} {x : Str}
    (hn : l.most = some n) (hn2 : n ≤ sizeLine) (hdf : d.params.defaults = []) (hr : Room k callerA)
    (hY : ∀ (w : World) (h : Heap), YP w h → (K w.params).In h)
    (F : ∀ (w : World) (mg : Str → Option Value) (fa : Addr) (h : Heap), (K w.params).In h → h.Ns mainGlobals mg → mg d.name = some (.ref fa) →
      ∃ fd : FuncData, (∀ (s : Shared) (u : Value), BindsTo s fd ⟨[u], []⟩ [(x, u)]) ∧
        ∀ base : Heap, (K w.params).In base → base.Ns mainGlobals mg → FnOk l.prog w (K w.params) mg base CX k fa fd [x] (sp (K w.params)))
    (hsp : ∀ (K : PySem.W.Frag) (H : Hp) (a : Addr) (ns : List Int), ns.length ≤ n → Only H → SqL K H a (ns.map V.int) → sp K [.ref a] H (fun v _ => v = .bl true) fun _ _ _ => False)
    (hCX : ∀ (H : Hp) (s : Shared) (e : Value) (s' : Shared), CX [] H s (fun _ _ _ => False) e s' → False) :
    PySem.W.WalkO q loose XP YP l.row.toRowW d [] (fun f vs => PySem.call f vs) :=
  walk_of (K := K) (CX := fun _ => CX) (sp := fun w => sp (K w.params)) hn hn2 hdf hr hY F (fun w H a ns h1 h2 h3 => hsp (K w.params) H a ns h1 h2 h3) fun _ H s e s' => hCX H s e s'
end L2
/- THE LAST THEOREM (shape; LID, My.* are yours):
   My.Adr: a structure of the addresses that your layer names (classes, functions); My.Txt K t: a structure (Prop) of the equations over K;
   My.txt_mk : {K} {implicit addresses ..} (e1 : nsIn K mainGlobals "law" = some (some (.ref f))) (e2 : K.lookup f = some ⟨oc, od, .func (fnOf "law" "law" params body scope dV kV doc pm an cdv ct), sl⟩) (e3 : codeIn K cdv "law" = true) .. : ∃ t, My.Txt K t
set_option maxRecDepth 100000 in
set_option maxHeartbeats 0 in
theorem PySem.Challenge.cw_LID_holds : PySem.Challenge.rw_LID.Holds := by
  w_on; o_law; k_head; (case hw => w_witness2)
  k_fill
  refine L2.walk_of (l := PySem.Challenge.rw_LID) (n := 63) (k := 40) (x := "script") (CX := fun w => ..) (sp := fun _ => My.sp_law) rfl (by decide) rfl ⟨rfl, by decide, by decide⟩ (fun w h Y => PySem.W.kIn_of Y) ?F ?S ?C
  case F =>
    intro w mg fa h KX G hmg
    have T : ∃ t, My.Txt (L2.KOf KX) t := by
      dsimp only [L2.KOf]                          -- K must stand as «<heap const> w.params» for k_is
      refine' My.txt_mk ?e1 ?e2 ?e3 ..
      (case e1 => PySem.W.k_is)                    -- in the order: a name -> its address -> its object -> its parts
      (case e2 => PySem.W.k_is)
      ..
    obtain ⟨t, T⟩ := T
    have e0 := hmg.symm.trans (PySem.W.mg_of KX G T.law)
    cases e0                                       -- fa is the law's own address
    exact ⟨_, fun s u => .of_eq rfl, fun base kb nb => My.law_fn T kb nb⟩     -- if «.of_eq rfl» comes too early: refine' ⟨_, ?b, fun base kb nb => My.law_fn T kb nb⟩; exact fun s u => .of_eq rfl
  case S => exact fun w H a ns hl hO hS => ..
  case C => exact ..
(the tactic k_is has no namespace: write k_is) -/
namespace L2
open PySem PySem.Spec PyProof.Rows
def inClass (s : Stmt) (j : Nat) : Stmt := match s with
  | .ClassDef _ _ _ body _ _ _ _ _ _ _ => body.getD j (.Pass ⟨0, 0, 0, 0⟩)
  | _ => .Pass ⟨0, 0, 0, 0⟩
def defArgs (s : Stmt) : Arguments := match s with
  | .FunctionDef _ a _ _ _ _ _ _ _ _ => a
  | _ => { posonlyargs := [], args := [], vararg := none, kwonlyargs := [], kw_defaults := [], kwarg := none, defaults := [] }
def defBody (s : Stmt) : List Stmt := match s with
  | .FunctionDef _ _ b _ _ _ _ _ _ _ => b
  | _ => []
def defScope (s : Stmt) : Scope := match s with
  | .FunctionDef _ _ _ _ _ _ sc _ _ _ => sc
  | _ => { kind := .function, names := [], isGenerator := false, isCoroutine := false }
abbrev CX0 : CXT := fun _ _ _ _ _ _ => False
abbrev E0 : XK := fun _ _ _ => False
theorem pass0 {X : Cx} : Passes CX0 X E0 := fun _ _ _ _ _ _ _ h => h.elim
structure Fun (K : PySem.W.Frag) (x qual : Str) (st : Stmt) (f : Addr) (fd : FuncData) : Prop where
  ex : ∃ (oc : Value) (od : Option Addr) (kV doc pm : Value) (an : Option Addr) (cdv ct : Value) (osl : Array (Option Value)),
    fd = PySem.W.fnOf x qual (defArgs st) (defBody st) (defScope st) .none kV doc pm an cdv ct ∧ K.lookup f = some ⟨oc, od, .func fd, osl⟩ ∧ PySem.W.codeIn K cdv qual = true
  kp : PySem.W.keepIn K (.ref f) = true
section
variable {P : Program} {w : World} {K : PySem.W.Frag} {mg : Str → Option Value} {base : Heap}
theorem Fun.ok {x qual : Str} {st : Stmt} {f : Addr} {fd : FuncData} {N ps : List Str} {k : Nat} {sp : Sp} (F : Fun K x qual st f fd) (S : FnScope N ps (defScope st)) (len : ∀ vs H Q E, sp vs H Q E → vs.length = ps.length)
    (hbody : ∀ (cdv : Value) (A : Around) (outer : List Env) (s : Shared) (H : Hp) (vs : List V) (Q : VK) (E : XK), Room k (A.deeper (envOfC qual (defScope st) s.heap.objs.size f cdv)) → sp vs H Q E →
      ∃ t, PSs (cxOf CX0 P w K mg base N qual (defScope st) f cdv A outer s H E).nox (defBody st) t ∧ t { nx := fun _ H' => Q .non H', rt := Q } (start N vs) H) : FnOk P w K mg base CX0 (k + 1) f fd ps sp := by
  obtain ⟨oc, od, kV, doc, pm, an, cdv, ct, osl, rfl, lk, hcd⟩ := F.ex
  refine fn_of lk hcd S len fun A outer s H vs Q E hr hsp => ?_
  obtain ⟨t, h, q⟩ := hbody cdv A outer s H vs Q E hr hsp
  exact ⟨t, h.nox, q⟩
theorem Fun.binds {x qual : Str} {st : Stmt} {f : Addr} {fd : FuncData} {ps : List Str} (F : Fun K x qual st f fd)
    (h : ∀ (kV doc pm : Value) (an : Option Addr) (cdv ct : Value) (us : List Value), us.length = ps.length → bindArgs (PySem.W.fnOf x qual (defArgs st) (defBody st) (defScope st) .none kV doc pm an cdv ct) ⟨us, []⟩ = pure (ps.zip us)) : Binds K fd ps [] := by
  obtain ⟨oc, od, kV, doc, pm, an, cdv, ct, osl, rfl, lk, hcd⟩ := F.ex
  exact .all (h kV doc pm an cdv ct)
theorem fun_mk {x qual : Str} {st : Stmt} {f : Addr} {oc : Value} {od an : Option Addr} {osl : Array (Option Value)} {kV doc pm cdv ct : Value} (l : K.lookup f = some ⟨oc, od, .func (PySem.W.fnOf x qual (defArgs st) (defBody st) (defScope st) .none kV doc pm an cdv ct), osl⟩)
    (c : PySem.W.codeIn K cdv qual = true) (k : PySem.W.keepIn K (.ref f) = true) : Fun K x qual st f (PySem.W.fnOf x qual (defArgs st) (defBody st) (defScope st) .none kV doc pm an cdv ct) := ⟨⟨oc, od, kV, doc, pm, an, cdv, ct, osl, rfl, l, c⟩, k⟩
end
section
variable {X : Cx}
theorem pv (i : Nat) {x : Str} {pos : Pos} (hN : X.N[i]? = some x := by rfl) (hv : Vis X.env.scope x := by first | exact Or.inl rfl | exact Or.inr (Or.inl rfl) | exact Or.inr (Or.inr rfl)) (hd : (x == ("__debug__" : Str)) = false := by decide)
    (hcd : (x == ("__classdict__" : Str)) = false := by decide) : PE X (.Name x pos) (tVar i) := pe_var hN hv hd hcd
end
theorem iteF {A B : Prop} (h : B) : if false = true then A else B := by
  rw [if_neg Bool.false_ne_true]
  exact h
theorem iteT {A B : Prop} (h : A) : if true = true then A else B := by
  rw [if_pos rfl]
  exact h
theorem ite2 {c A B : Prop} [Decidable c] (h1 : c → A) (h2 : ¬ c → B) : if c then A else B := by
  by_cases h : c
  · rw [if_pos h]
    exact h1 h
  · rw [if_neg h]
    exact h2 h
def Same (H H' : Hp) : Prop := ∀ b o, H b = some o → H' b = some o
theorem Same.refl (H : Hp) : Same H H := fun _ _ h => h
theorem Same.trans {H H1 H2 : Hp} (a : Same H H1) (b : Same H1 H2) : Same H H2 := fun c o h => b c o (a c o h)
theorem Same.free {H H' : Hp} (e : Same H H') {l : Addr} (h : H' l = Option.none) : H l = Option.none := by
  cases q : H l with
  | none => rfl
  | some o =>
    rw [e l o q] at h
    cases h
theorem Same.seq {K : PySem.W.Frag} {H H' : Hp} {a : Addr} {xs : List V} (e : Same H H') (h : SqL K H a xs) : SqL K H' a xs := by
  rcases h with (h | ⟨o, h⟩) | h
  · exact .inl (.inl (e _ _ h))
  · exact .inl (.inr ⟨o, e _ _ h⟩)
  · exact .inr h
end L2
namespace L2
open PySem PySem.Spec PyProof.Rows
theorem closure_go (env : Env) : ∀ (names : List (Str × NameKind)) (cs : List (Str × Addr)), (∀ x ∈ names, x.2 = .free → ∃ c, env.cells.lookup x.1 = some c) → (∀ x c, cs.lookup x = some c → env.cells.lookup x = some c) →
    ∃ cl, (forIn names cs fun (p : Str × NameKind) (r : List (Str × Addr)) => (if (p.2 == NameKind.free) = true then do let c ← cellOf env p.1; pure (ForInStep.yield ((p.1, c) :: r)) else pure (ForInStep.yield r) : Sem (ForInStep (List (Str × Addr))))) = (pure cl : Sem (List (Str × Addr))) ∧
      (∀ x c, cl.lookup x = some c → env.cells.lookup x = some c) ∧ (∀ x, (∃ c, cs.lookup x = some c) → ∃ c, cl.lookup x = some c) ∧ ∀ x ∈ names, x.2 = .free → ∃ c, cl.lookup x.1 = some c
  | [], cs, _, h => ⟨cs, rfl, h, fun _ z => z, fun _ z => nomatch z⟩
  | (n, k) :: r, cs, hn, h => by
    by_cases e : k = .free
    · subst e
      obtain ⟨c, hc⟩ := hn (n, .free) List.mem_cons_self rfl
      have h' : ∀ x c', ((n, c) :: cs).lookup x = some c' → env.cells.lookup x = some c' := fun x c' q => by
        rw [List.lookup_cons] at q
        cases ex : x == n with
        | true =>
          rw [ex] at q
          have : x = n := by simpa using ex
          subst this
          cases q
          exact hc
        | false => rw [ex] at q; exact h x c' q
      obtain ⟨cl, e1, e2, e3, e4⟩ := closure_go env r ((n, c) :: cs) (fun x hx => hn x (List.mem_cons_of_mem _ hx)) h'
      refine ⟨cl, ?_, e2, fun x ⟨c', q⟩ => e3 x ?_, fun x hx hf => ?_⟩
      · rw [List.forIn_cons]
        rw [if_pos (show (((n, NameKind.free) : Str × NameKind).2 == NameKind.free) = true from by rfl)]
        unfold cellOf
        rw [hc]
        exact e1
      · rw [List.lookup_cons]
        cases ex : x == n with
        | true => exact ⟨c, rfl⟩
        | false => exact ⟨c', q⟩
      · rcases List.mem_cons.mp hx with z | z
        · subst z
          exact e3 n ⟨c, by rw [List.lookup_cons]; simp⟩
        · exact e4 x z hf
    · obtain ⟨cl, e1, e2, e3, e4⟩ := closure_go env r cs (fun x hx => hn x (List.mem_cons_of_mem _ hx)) h
      refine ⟨cl, ?_, e2, e3, fun x hx hf => ?_⟩
      · rw [List.forIn_cons]
        rw [if_neg (show ¬ (((n, k) : Str × NameKind).2 == NameKind.free) = true by simpa using e)]
        exact e1
      · rcases List.mem_cons.mp hx with z | z
        · subst z
          exact absurd hf e
        · exact e4 x z hf
theorem closure_ex {env : Env} {sc : Scope} (hn : ∀ x ∈ sc.names, x.2 = .free → ∃ c, env.cells.lookup x.1 = some c) :
    ∃ cl, closureFor sc env = pure cl ∧ (∀ x c, cl.lookup x = some c → env.cells.lookup x = some c) ∧ ∀ x ∈ sc.names, x.2 = .free → ∃ c, cl.lookup x.1 = some c := by
  obtain ⟨cl, e1, e2, _, e4⟩ := closure_go env sc.names [] hn (fun x c z => by cases z)
  refine ⟨cl, ?_, e2, e4⟩
  unfold closureFor
  exact (congrArg (fun (m : Sem (List (Str × Addr))) => m >>= fun r => pure r) e1)
theorem lookup_mem' {κ : Type} : ∀ {l : List (Str × κ)} {x : Str} {k : κ}, l.lookup x = some k → (x, k) ∈ l
  | [], _, _, h => by cases h
  | (n, k') :: r, x, k, h => by
    rw [List.lookup_cons] at h
    cases e : x == n with
    | true =>
      rw [e] at h
      have : x = n := by simpa using e
      subst this
      cases h
      exact List.mem_cons_self
    | false =>
      rw [e] at h
      exact List.mem_cons_of_mem _ (lookup_mem' h)
def relK (env : Env) (x : Str) (k : NameKind) : NameKind := if (k == NameKind.free && env.scope.kind == .function && env.kindOf x == some .cell) = true then .cell else k
theorem lookup_rel {env : Env} : ∀ {names : List (Str × NameKind)} {x : Str},
    (names.map fun (p : Str × NameKind) => match p with | (n, k) => if (k == NameKind.free && env.scope.kind == .function && env.kindOf n == some .cell) = true then (n, NameKind.cell) else (n, k)).lookup x = (names.lookup x).map (relK env x)
  | [], x => rfl
  | (n, k) :: r, x => by
    rw [List.map_cons]
    by_cases e : x = n
    · subst e
      dsimp only
      by_cases c : (k == NameKind.free && env.scope.kind == .function && env.kindOf x == some .cell) = true
      · rw [if_pos c]
        have z : relK env x k = .cell := if_pos c
        simp [List.lookup_cons, z]
      · rw [if_neg c]
        have z : relK env x k = k := if_neg c
        simp [List.lookup_cons, z]
    · have e' : (x == n) = false := by simpa using e
      dsimp only
      rw [List.lookup_cons (a := x) (b := k), e']
      show _ = (r.lookup x).map (relK env x)
      rw [← lookup_rel]
      by_cases c : (k == NameKind.free && env.scope.kind == .function && env.kindOf n == some .cell) = true
      · rw [if_pos c, List.lookup_cons, e']
      · rw [if_neg c, List.lookup_cons, e']
theorem kindOf_rel {sc : Scope} {env : Env} {cl : List (Str × Addr)} {C : Addr} {x : Str} : (compEnvC sc cl C env).kindOf x = (sc.names.lookup x).map (relK env x) := lookup_rel
def ixOk (N : List Str) (sc0 sc : Scope) (N' : List Str) (ix : List (Option Nat)) : Bool :=
  sc.kind == .function && ix.length == N'.length &&
  sc.names.all (fun p => p.2 != .cell && (p.2 != .free || (sc0.names.lookup p.1 == some .cell || sc0.names.lookup p.1 == some .free)) && (p.2 != .local || sc.names.lookup p.1 == some .local)) &&
  (List.range N'.length).all fun j => match ix[j]?, N'[j]? with
    | some (some i), some x => N[i]? == some x && sc.names.lookup x == some .free
    | _, _ => true
theorem ixOk_spec {N : List Str} {sc0 sc : Scope} {N' : List Str} {ix : List (Option Nat)} (h : ixOk N sc0 sc N' ix = true) :
    sc.kind = .function ∧ ix.length = N'.length ∧ (∀ p ∈ sc.names, p.2 ≠ .cell) ∧ (∀ p ∈ sc.names, p.2 = .free → sc0.names.lookup p.1 = some .cell ∨ sc0.names.lookup p.1 = some .free) ∧
      (∀ p ∈ sc.names, p.2 = .local → sc.names.lookup p.1 = some .local) ∧ ∀ (j i : Nat) (x : Str), ix[j]? = some (some i) → N'[j]? = some x → N[i]? = some x ∧ sc.names.lookup x = some .free := by
  unfold ixOk at h
  simp only [Bool.and_eq_true, List.all_eq_true, beq_iff_eq, bne_iff_ne, Bool.or_eq_true, ne_eq] at h
  obtain ⟨⟨⟨h1, h2⟩, h3⟩, h4⟩ := h
  refine ⟨h1, h2, fun p hp => (h3 p hp).1.1, fun p hp hf => ?_, fun p hp hl => ?_, fun j i x e1 e2 => ?_⟩
  · rcases (h3 p hp).1.2 with z | z
    · exact absurd hf z
    · exact z
  · rcases (h3 p hp).2 with z | z
    · exact absurd hl z
    · exact z
  · have hj : j < N'.length := (List.getElem?_eq_some_iff.mp e2).1
    have := h4 j (List.mem_range.mpr hj)
    rw [e1, e2] at this
    simpa using this
def cxC (X : Cx) (sc : Scope) (N' : List Str) (C : Addr) (cl : List (Str × Addr)) (s : Shared) (H : Hp) (fp : List Addr) : Cx :=
  { X with N := N', s₀ := s, H₀ := H, env := compEnvC sc cl C X.env, outer := X.stack, stack := X.stack, ex := fp, fn := fun _ => false, pn := [], xe := fun _ _ => False }
def st0 (ix : List (Option Nat)) (σ : St) : St := ix.map fun o => match o with | some i => (σ[i]?).getD none | none => none
def ExtL : St → St → Prop
  | [], [] => True
  | none :: r, _ :: r' => ExtL r r'
  | some v :: r, w :: r' => w = some v ∧ ExtL r r'
  | _, _ => False
theorem ExtL.spec : ∀ {a b : St}, ExtL a b → a.length = b.length ∧ ∀ (i : Nat) v, a[i]? = some (some v) → b[i]? = some (some v)
  | [], [], _ => ⟨rfl, fun _ _ z => by simp at z⟩
  | [], _ :: _, h => h.elim
  | none :: r, [], h => h.elim
  | some v :: r, [], h => h.elim
  | none :: r, w :: r', h => by
    obtain ⟨e1, e2⟩ := ExtL.spec (a := r) (b := r') h
    refine ⟨by simp [e1], fun i v z => ?_⟩
    cases i with
    | zero => simp at z
    | succ i => simpa using e2 i v (by simpa using z)
  | some u :: r, w :: r', h => by
    obtain ⟨e0, h⟩ := h
    obtain ⟨e1, e2⟩ := ExtL.spec (a := r) (b := r') h
    refine ⟨by simp [e1], fun i v z => ?_⟩
    cases i with
    | zero => simp at z; subst z; simp [e0]
    | succ i => simpa using e2 i v (by simpa using z)
structure PF (X : Cx) (ifs : List Expr) (t : TT) : Prop where
  run : ∀ (pins : List (Addr × Obj)) (s : Shared) (σ : St) (H : Hp) (Q : Bool → Hp → Prop), Inv X pins σ H s → t σ H Q →
    wpAny (model X.prog X.w) X.A (forIn ifs true fun c r => if r = true then do let ok ← isTrue c X.env (eval c X.env); pure (ForInStep.yield ok) else pure (ForInStep.yield r)) (TP X pins σ Q) X.xe s
instance {X : Cx} {ifs : List Expr} {t : TT} : CoeFun (PF X ifs t) fun _ => ∀ (pins : List (Addr × Obj)) (s : Shared) (σ : St) (H : Hp) (Q : Bool → Hp → Prop), Inv X pins σ H s → t σ H Q →
    wpAny (model X.prog X.w) X.A (forIn ifs true fun c r => if r = true then do let ok ← isTrue c X.env (eval c X.env); pure (ForInStep.yield ok) else pure (ForInStep.yield r)) (TP X pins σ Q) X.xe s := ⟨PF.run⟩
def tAny : TT := fun _ H Q => Q true H
theorem pf_nil {X : Cx} : PF X [] tAny := ⟨fun pins s σ H Q I h => wpAny_tests_nil ⟨H, I, h⟩⟩
theorem pf_one {X : Cx} {c : Expr} {t : TT} (h : PT X c t) : PF X [c] t := ⟨fun pins s σ H Q I q => wpAny_tests_one (h pins s σ H Q I q)⟩
def LcGo (J : It) (g : TG) (tf : TT) (te : TE) (ix : List (Option Nat)) (σ : St) (H1 : Hp) (Q : VK) : Prop := ∃ W : Nat → Nat → List V → Hp → Prop, (∃ m, W 0 m [] H1) ∧ ∀ i m ys H, W i m ys H →
  (J.stop i H ∧ ys.length ≤ sizeLine ∧ ∀ D, H D = none → Q (.ref D) (upd H D (.lst ys))) ∨
  (J.go i H ∧ ys.length ≤ sizeLine ∧ ∀ x H', J.yld i H x H' → g x (st0 ix σ) H' fun σ2 H2 => ExtL (st0 ix σ) σ2 ∧ tf σ2 H2 fun b H3 => if b = true then te σ2 H3 fun y H4 => ∃ m', m' < m ∧ W (i + 1) m' (ys ++ [y]) H4 else ∃ m', m' < m ∧ W (i + 1) m' ys H3)
def tLC (wi : TI) (g : TG) (tf : TT) (te : TE) (ix : List (Option Nat)) : TE := fun σ H Q => wi σ H fun J H1 => LcGo J g tf te ix σ H1 Q
section
variable {X : Cx} {tg elt iter : Expr} {ifs : List Expr} {sc : Scope} {N' : List Str} {ix : List (Option Nat)} {pins : List (Addr × Obj)} {σ : St} {H2 : Hp} {s2 : Shared} {fp : List Addr} {cl : List (Str × Addr)} {C : Addr} {pos : Pos}
theorem cxC_ok (I : Inv X pins σ H2 s2) (hix : ixOk X.N X.env.scope sc N' ix = true) (e2 : ∀ x c, cl.lookup x = some c → X.env.cells.lookup x = some c) (e3 : ∀ x ∈ sc.names, x.2 = .free → ∃ c, cl.lookup x.1 = some c)
    (f2 : ∀ b ∈ fp, FpOk X pins H2 b) (fo : ∀ b ∈ fp, ∃ o, s2.heap.get? b = some o) (hC : s2.heap.objs.size ≤ C) : (cxC X sc N' C cl s2 H2 fp).Ok := by
  obtain ⟨k1, _, k3, _, _, _⟩ := ixOk_spec hix
  refine ⟨I.ok.mod, k1, I.ok.glob, I.ok.blt, hC, fun x y c a b => I.ok.inj x y c (e2 x c a) (e2 y c b), fun x hx => ?_, fun x c z => (by cases z), I.ok.hd, I.ok.frames, .inl rfl, fun b hb => ?_, I.bs, Nat.le_trans I.ok.bsz I.sz, fun b o e hb => ?_, fun b hb hf => ?_, I.stack, I.stkFree⟩
  · have hx' : (compEnvC sc cl C X.env).kindOf x = some .cell ∨ (compEnvC sc cl C X.env).kindOf x = some .free := hx
    rw [kindOf_rel] at hx'
    cases q : sc.names.lookup x with
    | none => rw [q] at hx'; rcases hx' with z | z <;> cases z
    | some k =>
      have hm := lookup_mem' q
      have hf : k = .free := by
        rw [q] at hx'
        have nk := k3 _ hm
        cases k with
        | free => rfl
        | cell => exact absurd rfl nk
        | _ => rcases hx' with z | z <;> (simp [relK] at z)
      exact e3 (x, k) hm hf
  · obtain ⟨o, ho⟩ := fo b hb
    exact ⟨Nat.ne_of_lt (Nat.lt_of_lt_of_le (Heap.lt_size ho) hC), fun x c q => (f2 b hb).2.2.2.2.1 x c (e2 x c q)⟩
  · have hb' : b ∈ fp := hb
    rcases (f2 b hb').2.2.2.1 with z | z
    · exact I.ok.noex b o e z
    · exact absurd (Nat.lt_of_lt_of_le (Heap.lt_size e) (Nat.le_trans I.ok.bsz z)) (Nat.lt_irrefl _)
  · have hb' : b ∈ fp := hb
    rcases List.mem_cons.mp (I.stkSub b hf) with z | z
    · exact (f2 b hb').2.1 z
    · exact (f2 b hb').2.2.1 z
end
section
variable {X : Cx} {tg elt iter : Expr} {ifs : List Expr} {sc sc0 : Scope} {N N' : List Str} {ix : List (Option Nat)} {pos : Pos} {wi : TI} {g : TG} {tf : TT} {te : TE}
structure LcEnd (X : Cx) (pins : List (Addr × Obj)) (σ : St) (H : Hp) (s : Shared) (C : Addr) : Prop where
  inv : Inv X pins σ H s
  ns : ∃ m, s.heap.Ns C m
  free : H C = none
  loc : C ≠ X.env.locals
  cel : ∀ x c, X.env.cells.lookup x = some c → c ≠ C
  abv : X.s₀.heap.objs.size ≤ C
  pin : ∀ p ∈ X.pn ++ pins, p.1 ≠ C
theorem LcEnd.gone {pins : List (Addr × Obj)} {σ : St} {H : Hp} {s : Shared} {C : Addr} {h' : Heap} (L : LcEnd X pins σ H s C) (sb : Heap.SameBut C s.heap h') : Inv X pins σ H { s with heap := h' } :=
  L.inv.turned (it := C) (t' := s.toks) (fun b o hb e => (sb.2 b hb).trans e) L.free L.loc (.inr L.abv) L.cel L.pin
set_option maxHeartbeats 2000000 in
theorem lc_core {pins : List (Addr × Obj)} {σ : St} {H : Hp} {s : Shared} {Q : VK} {use : Option (Value → Sem Unit)} {Qf : Value → Shared → Prop} {cpos : Pos} (hc : X.calm = true) (hix : ixOk X.N X.env.scope sc N' ix = true) (hi : PI X tg iter wi)
    (hg : ∀ C cl s H fp, PG (cxC X sc N' C cl s H fp) tg g) (hf : ∀ C cl s H fp, PF (cxC X sc N' C cl s H fp) ifs tf) (he : ∀ C cl s H fp, PE (cxC X sc N' C cl s H fp) elt te)
    (hs : ∀ x, foldedSetIterable iter X.env x = pure x) (I : Inv X pins σ H s) (h : tLC wi g tf te ix σ H Q)
    (hend : ∀ (C D : Addr) (H' : Hp) (s' : Shared), LcEnd X pins σ H' s' C → Q (.ref D) H' → compPost (model X.prog X.w) X.A X.xe use Qf (.ref D) C (.ok .next) s') :
    wpAny (model X.prog X.w) X.A (comprehension (.ListComp elt [⟨tg, iter, ifs, 0⟩] sc pos) sc X.env cpos (newList []) false (eval iter X.env) use) Qf X.xe s := by
  obtain ⟨hk, hlen, hcell, hfreeX, hnames, hat⟩ := ixOk_spec hix
  obtain ⟨cl, e1, e2, e3⟩ := closure_ex (env := X.env) (sc := sc) (fun x hx hf => I.ok.has x.1 (hfreeX x hx hf))
  refine wpAny_comprehension_free (use := use) (cl := cl) rfl hs e1 hk hnames (thn (hi pins s σ H _ I h) fun v s1 h1 => thn h1 fun itv s2 h2 => ?_)
  obtain ⟨it, fp, tn, J, H2, e, I2, T, st2, f2, W, ⟨m0, w0⟩, turn⟩ := h2
  subst e
  refine wpAny_newObj_type (wpAny_newFunctionEnv hcell (by intro y hy; simp at hy) (fun h₁ hns₁ hsb₁ => ?_) hk)
  dsimp only at hns₁ hsb₁ ⊢
  generalize hH2 : s2.heap.push { cls := .type "list", dict := none, data := .seq ([] : List Value).toArray } = G2 at hns₁ hsb₁ ⊢
  have hCs : G2.objs.size = s2.heap.objs.size + 1 := by rw [← hH2, Heap.size_push]
  have hDC : s2.heap.objs.size ≠ G2.objs.size := by rw [hCs]; exact Nat.ne_of_lt (Nat.lt_succ_self _)
  have hCle : s2.heap.objs.size ≤ G2.objs.size := by rw [hCs]; exact Nat.le_succ _
  have belowC : ∀ b, b < s2.heap.objs.size → b ≠ G2.objs.size := fun b hb => by rw [hCs]; exact Nat.ne_of_lt (Nat.lt_succ_of_lt hb)
  have belowD : ∀ b, b < s2.heap.objs.size → b ≠ s2.heap.objs.size := fun b hb => Nat.ne_of_lt hb
  have old : ∀ b o, s2.heap.get? b = some o → h₁.get? b = some o := fun b o e => hsb₁.extBut b o (belowC b (Heap.lt_size e)) (Heap.get?_push_of_some _ (hH2 ▸ Heap.get?_push_of_some _ e))
  have hacc : h₁.get? s2.heap.objs.size = some { cls := .type "list", data := .seq ([] : List Value).toArray } := hsb₁.extBut _ _ hDC (Heap.get?_push_of_some _ (hH2 ▸ Heap.get?_push_size _ rfl))
  have fo : ∀ b ∈ fp, ∃ o, s2.heap.get? b = some o := fun b hb => let ⟨o, ho, _⟩ := T.obj _ _ st2 b hb; ⟨o, ho⟩
  have fD : ∀ b ∈ fp, b ≠ s2.heap.objs.size := fun b hb => let ⟨o, ho⟩ := fo b hb; belowD b (Heap.lt_size ho)
  have ok' : (cxC X sc N' G2.objs.size cl s2 H2 fp).Ok := cxC_ok I2 hix e2 e3 f2 fo hCle
  have HD : H2 s2.heap.objs.size = none := I2.hok.fresh (Nat.le_refl _)
  have HC : H2 G2.objs.size = none := I2.hok.fresh hCle
  have I4 : Inv (cxC X sc N' G2.objs.size cl s2 H2 fp) [] (st0 ix σ) H2 { s2 with heap := h₁, toks := s2.toks + ([] : List (Str × Value)).length } := by
    refine ⟨ok', rfl, I2.bare, Un.kept old, ⟨_, hns₁, fun j x v a b c => ?_⟩, fun x c q => ?_, HC, fun x c q => I2.freeC x c (e2 x c q), fun p hp => (by cases hp), I2.hok.kept old, ?_⟩
    · -- a name of the block that stands for one around
      have a' : N'[j]? = some x := a
      have b' : (ix.map fun o => match o with | some i => (σ[i]?).getD none | none => none)[j]? = some (some v) := b
      rw [List.getElem?_map] at b'
      cases q : ix[j]? with
      | none => rw [q] at b'; cases b'
      | some o =>
        rw [q] at b'
        cases o with
        | none => cases b'
        | some i =>
          obtain ⟨n1, n2⟩ := hat j i x q a'
          have b'' : (σ[i]?).getD none = some v := Option.some.inj b'
          have sv : σ[i]? = some (some v) := by
            cases z : σ[i]? with
            | none => rw [z] at b''; cases b''
            | some y => rw [z] at b''; exact congrArg some b''
          obtain ⟨m, hn, hl⟩ := I2.loc
          have kx := hfreeX (x, .free) (lookup_mem' n2) rfl
          obtain ⟨u, r, lk⟩ := hl i x v n1 sv (.inr kx)
          refine ⟨u, r, .inr ⟨?_, ?_⟩⟩
          · show (compEnvC sc cl G2.objs.size X.env).kindOf x = some .cell ∨ (compEnvC sc cl G2.objs.size X.env).kindOf x = some .free
            rw [kindOf_rel, n2]
            show some (relK X.env x .free) = some .cell ∨ some (relK X.env x .free) = some .free
            unfold relK
            split
            · exact .inl rfl
            · exact .inr rfl
          · obtain ⟨c1, hc1⟩ := e3 (x, .free) (lookup_mem' n2) rfl
            refine ⟨c1, hc1, ?_⟩
            have hc2 := e2 x c1 hc1
            rcases lk with ⟨z, _⟩ | ⟨_, c, hcc, hcl⟩
            · have z' : X.env.scope.names.lookup x = some .local := z
              rcases kx with y | y <;> (rw [y] at z'; cases z')
            · rw [hc2] at hcc; cases hcc
              obtain ⟨o, ho, hd⟩ := hcl
              exact ⟨o, old c1 o ho, hd⟩
    · obtain ⟨v, o, ho, hd⟩ := I2.cell x c (e2 x c q)
      exact ⟨v, o, old c o ho, hd⟩
    · show (ix.map _).length = N'.length
      rw [List.length_map, hlen]
  have cellD : ∀ x c, cl.lookup x = some c → c ≠ s2.heap.objs.size := fun x c q z => by
    obtain ⟨v, o, ho, hd⟩ := I2.cell x c (e2 x c q)
    exact belowD c (Heap.lt_size ho) z
  have loop : ∀ s₃ : Shared, s₃ = { s2 with heap := h₁, toks := s2.toks + ([] : List (Str × Value)).length } →
      codeAny (model X.prog X.w) X.A (.compLoop (.ListComp elt [⟨tg, iter, ifs, 0⟩] sc pos) 0 (.ref it) (.ref s2.heap.objs.size) (compEnvC sc cl G2.objs.size X.env))
        (compPost (model X.prog X.w) X.A X.xe use Qf (.ref s2.heap.objs.size) G2.objs.size) s₃ := by
    rintro s₃ rfl
    refine codeAny_loop rfl (fun n s' => ∃ i ys H' its k, Inv (cxC X sc N' G2.objs.size cl s2 H2 fp) [] (st0 ix σ) H' s' ∧ tn i s'.heap ∧ (∀ b ∈ fp, H' b = none) ∧ H' s2.heap.objs.size = none ∧
      Vals ys its ∧ s'.heap.get? s2.heap.objs.size = some { cls := .type "list", data := .seq its.toArray k } ∧ W i n ys H') ?_ m0
      ⟨0, [], H2, [], _, I4, T.keep _ _ _ st2 (fun b _ o e => old b o e), fun b hb => (f2 b hb).1, HD, .nil, hacc, w0⟩
    rintro n s5 ⟨i, ys, H5, its, k, I5, st5, fr5, hD5, vv, oD, w5⟩
    show wpAny _ X.A ((compTurn (.ListComp elt [⟨tg, iter, ifs, 0⟩] sc pos) 0 (.ref it) (.ref s2.heap.objs.size) (compEnvC sc cl G2.objs.size X.env)).onRaise (fun x => do noteFrame x (compEnvC sc cl G2.objs.size X.env); theTreesLotGoes x)) _ _ s5
    refine wpAny_noted ?_
    rw [compTurn_list]
    have I5p : Inv (cxC X sc N' G2.objs.size cl s2 H2 fp) [(s2.heap.objs.size, { cls := .type "list", data := .seq its.toArray k })] (st0 ix σ) H5 s5 := I5.pins_of fun p hp => by
      have hp' : p = (s2.heap.objs.size, { cls := .type "list", data := .seq its.toArray k }) := by simpa using hp
      subst hp'
      refine ⟨oD, hD5, hDC, fun hb => ?_, fun v z => (by cases z)⟩
      obtain ⟨_, o, ho, _⟩ := I2.stack.mem (show s2.heap.objs.size ∈ frs X.stack from hb)
      exact Nat.lt_irrefl _ (Heap.lt_size ho)
    have fpk : ∀ {H' : Hp}, (∀ b ∈ fp, H' b = none) → ∀ b ∈ fp, FpOk (cxC X sc N' G2.objs.size cl s2 H2 fp) [(s2.heap.objs.size, ({ cls := .type "list", data := .seq its.toArray k } : Obj))] H' b := fun {H'} hn b hb => by
      refine ⟨hn b hb, (ok'.exf b hb).1, ok'.exfs b hb, .inl hb, (ok'.exf b hb).2, fun p hp => ?_⟩
      have hp' : p = (s2.heap.objs.size, ({ cls := .type "list", data := .seq its.toArray k } : Obj)) := by
        have z : p ∈ ([] : List (Addr × Obj)) ++ [(s2.heap.objs.size, ({ cls := .type "list", data := .seq its.toArray k } : Obj))] := hp
        simpa using z
      subst hp'
      exact (fD b hb).symm
    rcases turn i n ys H5 w5 with ⟨stop, hz, qn⟩ | ⟨go, hz, step⟩
    · refine wpAny_bind (wpAny_standAt (wpAny_bind (wpAny_mono (T.done (cxC X sc N' G2.objs.size cl s2 H2 fp) rfl rfl rfl hc i _ s5 (st0 ix σ) H5 (fun _ _ => False) I5p (fpk fr5) st5 stop) (fun r s6 ⟨hr, I6⟩ => ?_) fun _ _ f => f.elim)))
      subst hr
      refine wpAny_pure ?_
      obtain ⟨m, hn, _⟩ := I6.loc
      have oD6 : s6.heap.get? s2.heap.objs.size = some { cls := .type "list", data := .seq its.toArray k } := (I6.pin (s2.heap.objs.size, { cls := .type "list", data := .seq its.toArray k }) (by show _ ∈ ([] : List (Addr × Obj)) ++ _; simp)).1
      have u6 : Un (frs X.stack) fp H2 H5 s2.heap s6.heap := I6.base
      have HC5 : H5 G2.objs.size = none := I6.free
      refine hend _ _ (upd H5 s2.heap.objs.size (.lst ys)) s6 ⟨?_, ⟨m, hn⟩, by rw [upd_ne hDC.symm]; exact HC5, (belowC _ I2.lt).symm, fun x c q => ?_, Nat.le_trans I2.sz hCle, fun p hp => ?_⟩ (qn _ hD5)
      · refine I2.call' (s' := s6) (ch := fp) I6.os ?_ ?_ I6.bare fun b hb => ⟨(f2 b hb).2.2.2.1, (f2 b hb).2.1, (f2 b hb).2.2.2.2.1, (f2 b hb).2.2.2.2.2⟩
        · refine ⟨fun b o e n nf nx => u6.keep b o e n nf nx, fun b o e n nf nx => u6.slot b o e n nf nx, fun b o e n nx => ?_, fun b o e nx => u6.there b o e nx, fun b xs e => ?_, fun b o u e => ?_, fun b ps e => ?_⟩
          · rw [upd_ne (belowD b (Heap.lt_size e))]; exact u6.free b o e n nx
          · rw [upd_ne (ne_of_none e HD)]; exact u6.tups b xs e
          · rw [upd_ne (ne_of_none e HD)]; exact u6.frzs b o u e
          · rw [upd_ne (ne_of_none e HD)]; exact u6.tbls b ps e
        · intro b o e
          by_cases hb : b = s2.heap.objs.size
          · subst hb
            rw [upd_same] at e; cases e
            exact ⟨hz, its, k, vv, oD6⟩
          · rw [upd_ne hb] at e
            refine (I6.hok b o e).stay (fun c v hcc q => q) (fun c q => ?_) fun c xs q => ?_
            · rw [upd_ne (ne_of_none q hD5)]; exact q
            · rw [upd_ne (ne_of_none q hD5)]; exact q
      · obtain ⟨v, o, ho, hd⟩ := I2.cell x c q
        exact belowC c (Heap.lt_size ho)
      · exact belowC p.1 (Heap.lt_size (I2.pin p hp).1)
    · refine wpAny_bind (wpAny_standAt (wpAny_bind (wpAny_mono (T.item (cxC X sc N' G2.objs.size cl s2 H2 fp) rfl rfl rfl hc i _ s5 (st0 ix σ) H5 (fun _ _ => False) I5p (fpk fr5) st5 go) (fun r s6 ⟨u, hr, h6⟩ => ?_) fun _ _ f => f.elim)))
      subst hr
      refine wpAny_bind (wpAny_mono h6 (fun _ s7 ⟨x, H7, I7, r7, y7, st7, fr7⟩ => ?_) fun _ _ f => f.elim)
      have I7' := I7.pinned (fpk fr7) (T.obj _ _ st7)
      refine wpAny_bind (wpAny_mono (hg _ _ _ _ _ _ s7 (st0 ix σ) H7 x u _ I7' r7 (step x H7 y7)) (fun _ s8 ⟨σ8, H8, I8, x8, q8⟩ => ?_) fun _ _ f => f.elim)
      obtain ⟨xl, xv⟩ := x8.spec
      have keepT : ∀ {σ9 : St} {H9 : Hp} {s9 : Shared} {pl : List (Addr × Obj)}, (∀ p ∈ pinsAt fp s7.heap, p ∈ pl) → Inv (cxC X sc N' G2.objs.size cl s2 H2 fp) pl σ9 H9 s9 → tn (i + 1) s9.heap ∧ ∀ b ∈ fp, H9 b = none := fun {σ9 H9 s9 pl} hp I9 => by
        have pn : ∀ b o, b ∈ fp → s7.heap.get? b = some o → s9.heap.get? b = some o ∧ H9 b = none := fun b o hb e => by
          have := I9.pin (b, o) (List.mem_append_right _ (hp _ (mem_pinsAt hb e)))
          exact ⟨this.1, this.2.1⟩
        refine ⟨T.keep _ _ _ st7 fun b hb o e => (pn b o hb e).1, fun b hb => ?_⟩
        obtain ⟨o, e, _⟩ := T.obj _ _ st7 b hb
        exact (pn b o hb e).2
      refine wpAny_bind (wpAny_mono (hf _ _ _ _ _ _ s8 σ8 H8 _ I8 q8) (fun ok s9 ⟨H9, I9, q9⟩ => ?_) fun _ _ f => f.elim)
      have pD : ∀ {σ9 : St} {H9 : Hp} {s9 : Shared}, Inv (cxC X sc N' G2.objs.size cl s2 H2 fp) ([(s2.heap.objs.size, ({ cls := .type "list", data := .seq its.toArray k } : Obj))] ++ pinsAt fp s7.heap) σ9 H9 s9 →
          s9.heap.get? s2.heap.objs.size = some { cls := .type "list", data := .seq its.toArray k } ∧ H9 s2.heap.objs.size = none := fun {σ9 H9 s9} I9 => by
        have := I9.pin (s2.heap.objs.size, { cls := .type "list", data := .seq its.toArray k }) (List.mem_append_right _ (List.mem_append_left _ (by simp)))
        exact ⟨this.1, this.2.1⟩
      cases ok with
      | false =>
        obtain ⟨m', hm, w9⟩ := (show ∃ m', m' < n ∧ W (i + 1) m' ys H9 from by simpa using q9)
        obtain ⟨t9, fr9⟩ := keepT (fun p hp => List.mem_append_right _ hp) I9
        obtain ⟨oD9, hD9⟩ := pD I9
        refine wpAny_pure ⟨rfl, m', hm, i + 1, ys, H9, its, k, (I9.pins_of (pins' := []) fun p hp => nomatch hp).weak xl xv, t9, fr9, hD9, vv, oD9, w9⟩
      | true =>
        have q9' : te σ8 H9 fun y H4 => ∃ m', m' < n ∧ W (i + 1) m' (ys ++ [y]) H4 := by simpa using q9
        refine wpAny_bind (wpAny_bind (wpAny_mono (he _ _ _ _ _ _ s9 σ8 H9 _ I9 q9') (fun yv sA ⟨y, HA, IA, rA, m', hm, wA⟩ => ?_) fun _ _ f => f.elim))
        obtain ⟨oDA, hDA⟩ := pD IA
        have hsz : its.toArray.size ≤ sizeLine := by rw [List.size_toArray, ← vv.length]; exact hz
        refine wpAny_bind (wpAny_list_append_plain (hsz := hsz) ⟨_, oDA⟩ fun h9 pl9 sb9 => ?_)
        have IB : Inv (cxC X sc N' G2.objs.size cl s2 H2 fp) (pinsAt fp s7.heap) σ8 HA sA := IA.pins_of fun p hp => IA.pin p (List.mem_append_right _ (List.mem_append_right _ hp))
        have IC : Inv (cxC X sc N' G2.objs.size cl s2 H2 fp) (pinsAt fp s7.heap) σ8 HA { sA with heap := h9 } := IB.turned (it := s2.heap.objs.size) (t' := sA.toks) (fun b o hb e => (sb9.2 b hb).trans e) hDA hDC (.inr (Nat.le_refl _)) (fun x c q => cellD x c q) fun p hp => by
          have hp' : p ∈ pinsAt fp s7.heap := by
            have z : p ∈ ([] : List (Addr × Obj)) ++ pinsAt fp s7.heap := hp
            simpa using z
          exact fD p.1 (of_pinsAt hp').1
        obtain ⟨t9, fr9⟩ := keepT (fun p hp => hp) IC
        obtain ⟨k', oD'⟩ := pl9
        refine wpAny_pure (wpAny_pure ⟨rfl, m', hm, i + 1, ys ++ [y], HA, its ++ [yv], k', (IC.pins_of (pins' := []) fun p hp => nomatch hp).weak xl xv, t9, fr9, hDA, vv.append (.cons rA .nil), ?_, wA⟩)
        show h9.get? s2.heap.objs.size = _
        rw [oD']
        simp
  exact codeAny_compStart_list (loop _ rfl) (T.self X.A 0 _ _ _ (T.keep _ _ _ st2 (fun b _ o e => old b o e)) (loop _ rfl))
theorem pe_lc (hc : X.calm = true) (hix : ixOk N sc0 sc N' ix = true) (hi : PI X tg iter wi)
    (hg : ∀ C cl s H fp, PG (cxC X sc N' C cl s H fp) tg g) (hf : ∀ C cl s H fp, PF (cxC X sc N' C cl s H fp) ifs tf) (he : ∀ C cl s H fp, PE (cxC X sc N' C cl s H fp) elt te)
    (eN : X.N = N := by rfl) (eS : X.env.scope = sc0 := by rfl) (hs : ∀ x, foldedSetIterable iter X.env x = pure x := by intro _; rfl) :
    PE X (.ListComp elt [⟨tg, iter, ifs, 0⟩] sc pos) (tLC wi g tf te ix) := by
  refine ⟨?_⟩
  intro pins s σ H Q I h
  subst eN eS
  rw [eval_ListComp]
  refine lc_core (use := none) hc hix hi hg hf he hs I h fun C D H' s' L q => ?_
  obtain ⟨m, hn⟩ := L.ns
  exact ⟨m, hn, fun h' sb => ⟨.ref D, H', L.gone sb, rfl, q⟩⟩
def tSetLC (i : Nat) (t : TE) : TS := fun D σ H => t σ H fun v H1 => D.nx (σ.set i (some v)) H1
theorem ps_setLC {i : Nat} {y : Str} {py spos : Pos} (hN : X.N.Nodup) (hiy : X.N[i]? = some y) (hy : X.env.scope.names.lookup y = some .local) (hc : X.calm = true) (hix : ixOk N sc0 sc N' ix = true) (hi : PI X tg iter wi)
    (hg : ∀ C cl s H fp, PG (cxC X sc N' C cl s H fp) tg g) (hf : ∀ C cl s H fp, PF (cxC X sc N' C cl s H fp) ifs tf) (he : ∀ C cl s H fp, PE (cxC X sc N' C cl s H fp) elt te)
    (eN : X.N = N := by rfl) (eS : X.env.scope = sc0 := by rfl) (hs : ∀ x, foldedSetIterable iter X.env x = pure x := by intro _; rfl)
    (hsw : swapsWith (.ListComp elt [⟨tg, iter, ifs, 0⟩] sc pos) (some (.Name y py)) spos.line X.env = pure true := by rfl) :
    PS X (.Assign [.Name y py] (.ListComp elt [⟨tg, iter, ifs, 0⟩] sc pos) spos) (tSetLC i (tLC wi g tf te ix)) := by
  refine ⟨?_⟩
  intro pins s σ H Dn I h
  subst eN eS
  rw [exec_Assign_Name_used _ _ _ _ hsw]
  refine wpAny_bind (wpAny_standAt (wpAny_bind ?_))
  show wpAny _ X.A (do let _ ← comprehension (.ListComp elt [⟨tg, iter, ifs, 0⟩] sc pos) sc X.env _ (newList []) false (eval iter X.env) (some (assign (.Name y py) X.env))) _ _ s
  refine wpAny_bind (wpAny_mono (lc_core (use := some (assign (.Name y py) X.env)) (Qf := fun _ s' => SP X pins Dn .next s') hc hix hi hg hf he hs I h fun C D H' s' L q => ?_) (fun _ s' hq => wpAny_pure (wpAny_pure hq)) fun _ _ e => e)
  show wpAny _ X.A (assign (.Name y py) X.env (.ref D)) _ _ s'
  refine wpAny_assign_Name (store_ok2 L.inv hN hiy (.inl hy) (v := .ref D) rfl (fun s1 I1 hsb => ?_) (.inr hy))
  obtain ⟨a, sb, ha⟩ := hsb
  have haC : C ≠ a := by
    rcases ha with z | z
    · rw [z]; exact L.loc
    · exact (L.cel y a z).symm
  obtain ⟨m, hn⟩ := L.ns
  have L1 : LcEnd X pins (σ.set i (some (.ref D))) H' s1 C := ⟨I1, ⟨m, hn.sameBut sb haC⟩, L.free, L.loc, L.cel, L.abv, L.pin⟩
  exact ⟨m, hn.sameBut sb haC, fun h' sb' => ⟨_, H', L1.gone sb', q⟩⟩
end
end L2
namespace L2
open PySem
def Nx (Pv : Nat → List V → Hp → Prop) (n i : Nat) (ys : List V) (H : Hp) : Prop := ∃ m', m' < n - i ∧ (m' = n - (i + 1) ∧ i + 1 ≤ n ∧ Pv (i + 1) ys H)
theorem Nx.mk {Pv : Nat → List V → Hp → Prop} {n i : Nat} {ys : List V} {H : Hp} (h : i < n) (p : Pv (i + 1) ys H) : Nx Pv n i ys H := ⟨n - (i + 1), by lia, rfl, h, p⟩
theorem lc_list {K : PySem.W.Frag} {a : Addr} {xs : List V} {g : TG} {tf : TT} {te : TE} {ix : List (Option Nat)} {σ : St} {H : Hp} {Q : VK} (Pv : Nat → List V → Hp → Prop) (h0 : Pv 0 [] H)
    (hl : ∀ i ys H, i ≤ xs.length → Pv i ys H → SqL K H a xs ∧ ys.length ≤ sizeLine)
    (hs : ∀ i x ys H, xs[i]? = some x → Pv i ys H → g x (st0 ix σ) H fun σ2 H2 => ExtL (st0 ix σ) σ2 ∧ tf σ2 H2 fun b H3 => if b = true then te σ2 H3 fun y H4 => Nx Pv xs.length i (ys ++ [y]) H4 else Nx Pv xs.length i ys H3)
    (hd : ∀ ys H, Pv xs.length ys H → ∀ D, H D = none → Q (.ref D) (upd H D (.lst ys))) :
    LcGo (Itl K a) g tf te ix σ H Q := by
  refine ⟨fun i m ys H => m = xs.length - i ∧ i ≤ xs.length ∧ Pv i ys H, ⟨xs.length, by simp, Nat.zero_le _, h0⟩, ?_⟩
  rintro i m ys H ⟨rfl, hi, p⟩
  obtain ⟨q, hz⟩ := hl i ys H hi p
  by_cases hlt : i < xs.length
  · refine .inr ⟨⟨xs, xs[i], q, by simp [hlt]⟩, hz, fun x H' y => ?_⟩
    obtain ⟨e, y⟩ := y
    subst e
    exact hs i x ys _ (y xs q) p
  · have e : i = xs.length := by lia
    subst e
    exact .inl ⟨⟨xs, q, Nat.le_refl _⟩, hz, hd ys H p⟩
theorem lc_range {lo : Int} {n : Nat} {g : TG} {tf : TT} {te : TE} {ix : List (Option Nat)} {σ : St} {H : Hp} {Q : VK} (Pv : Nat → List V → Hp → Prop) (h0 : Pv 0 [] H)
    (hl : ∀ i ys H, i ≤ n → Pv i ys H → ys.length ≤ sizeLine)
    (hs : ∀ i ys H, i < n → Pv i ys H → g (.int (lo + i)) (st0 ix σ) H fun σ2 H2 => ExtL (st0 ix σ) σ2 ∧ tf σ2 H2 fun b H3 => if b = true then te σ2 H3 fun y H4 => Nx Pv n i (ys ++ [y]) H4 else Nx Pv n i ys H3)
    (hd : ∀ ys H, Pv n ys H → ∀ D, H D = none → Q (.ref D) (upd H D (.lst ys))) :
    LcGo (Itr lo n) g tf te ix σ H Q := by
  refine ⟨fun i m ys H => m = n - i ∧ i ≤ n ∧ Pv i ys H, ⟨n, by simp, Nat.zero_le _, h0⟩, ?_⟩
  rintro i m ys H ⟨rfl, hi, p⟩
  have hz := hl i ys H hi p
  by_cases hlt : i < n
  · refine .inr ⟨hlt, hz, fun x H' y => ?_⟩
    obtain ⟨e, y⟩ := y
    subst e y
    exact hs i ys _ hlt p
  · have e : i = n := by lia
    subst e
    exact .inl ⟨Nat.le_refl _, hz, hd ys H p⟩
theorem tAny_T {σ : St} {H : Hp} {A B : Hp → Prop} (h : A H) : tAny σ H fun b H3 => if b = true then A H3 else B H3 := by
  show if true = true then A H else B H
  rw [if_pos rfl]
  exact h
end L2
namespace L2
open PySem PySem.Spec PyProof.Rows
def EntOk (w : World) (p : Str × V) (e : DictEntry) : Prop := e.hash = hashStr w p.1 ∧ (∃ t, e.key = .str p.1 t) ∧ RelV p.2 e.val
def TopDict (w : World) (K : PySem.W.Frag) (a : Addr) (kvs : List (Str × V)) : Prop :=
  ∃ (es : Array DictEntry) (ep : Nat), K.lookup a = some { cls := .type "dict", data := .dict es ep } ∧ Paired (EntOk w) kvs es.toList
theorem keys_ent {P : Program} {w : World} : ∀ {kvs : List (Str × V)} {es : List DictEntry}, Paired (EntOk w) kvs es → ∀ e ∈ es, ∃ k, (strKind P w).is k e.key = true ∧ e.hash = (strKind P w).hash k
  | _, _, .nil, _, h => nomatch h
  | (x, y) :: r, e :: es, .cons h t, e', he => by
    rcases List.mem_cons.mp he with z | z
    · subst z
      obtain ⟨h1, ⟨tk, h2⟩, h3⟩ := h
      refine ⟨x, ?_, h1⟩
      rw [h2]
      show Value.isStrOf x (.str x tk) = true
      simp [Value.isStrOf]
    · exact keys_ent t e' z
section
variable {X : Cx}
theorem ints_of_vals : ∀ {ns : List Int} {us : List Value}, Vals (ns.map V.int) us → IntsAre us ns
  | [], _, .nil => .nil
  | n :: r, _, .cons h t => by
    obtain ⟨tk, rfl⟩ := h
    exact .cons n tk (ints_of_vals t)
theorem vals_of_ints : ∀ {ns : List Int} {us : List Value}, IntsAre us ns → Vals (ns.map V.int) us
  | _, _, .nil => .nil
  | _, _, .cons n t r => .cons ⟨t, rfl⟩ (vals_of_ints r)
end
mutual
inductive Dt (K : PySem.W.Frag) (H : Hp) : V → PyData → Prop
  | non : Dt K H .non .none
  | bl (b : Bool) : Dt K H (.bl b) (.bool b)
  | int (i : Int) : Dt K H (.int i) (.int i)
  | str (x : Str) : Dt K H (.str x) (.str x)
  | lst {a : Addr} {xs : List V} {ds : List PyData} : SqL K H a xs → DtAll K H xs ds → Dt K H (.ref a) (.list ds)
  | tup {a : Addr} {xs : List V} {ds : List PyData} : SqT K H a xs → DtAll K H xs ds → Dt K H (.ref a) (.tuple ds)
inductive DtAll (K : PySem.W.Frag) (H : Hp) : List V → List PyData → Prop
  | nil : DtAll K H [] []
  | cons {v : V} {d : PyData} {vs : List V} {ds : List PyData} : Dt K H v d → DtAll K H vs ds → DtAll K H (v :: vs) (d :: ds)
end
section
variable {X : Cx} {pins : List (Addr × Obj)} {σ : St} {H : Hp} {s : Shared}
mutual
theorem Dt.reads (I : Inv X pins σ H s) : ∀ {v : V} {d : PyData} {u : Value}, Dt X.K H v d → RelV v u → ∃ as, Reads s.heap u d as
  | _, _, _, .non, r => by cases r; exact ⟨_, .none⟩
  | _, _, _, .bl b, r => by cases r; exact ⟨_, .bool b⟩
  | _, _, _, .int i, r => by obtain ⟨t, rfl⟩ := r; exact ⟨_, .int i t⟩
  | _, _, _, .str x, r => by obtain ⟨t, rfl⟩ := r; exact ⟨_, .str x t⟩
  | _, _, _, .lst hS hA, r => by
    cases r
    obtain ⟨its, rv, ⟨o, n, e, c, dd, hd⟩, hz⟩ := I.list hS
    obtain ⟨as, ha⟩ := DtAll.reads I hA rv
    first
      | exact ⟨_, .list e c hd (by simpa using ha)⟩
      | exact ⟨_, .list e c dd (by simpa using ha)⟩
  | _, _, _, .tup hS hA, r => by
    cases r
    obtain ⟨its, rv, ⟨o, e, c, n, hd⟩, hz⟩ := I.tuple hS
    obtain ⟨as, ha⟩ := DtAll.reads I hA rv
    exact ⟨_, .tuple e c hd (by simpa using ha)⟩
theorem DtAll.reads (I : Inv X pins σ H s) : ∀ {vs : List V} {ds : List PyData} {us : List Value}, DtAll X.K H vs ds → Vals vs us → ∃ as, ReadsAll s.heap us ds as
  | _, _, _, .nil, .nil => ⟨_, .nil⟩
  | _, _, _, .cons h t, .cons r rr => by
    obtain ⟨a1, h1⟩ := Dt.reads I h r
    obtain ⟨a2, h2⟩ := DtAll.reads I t rr
    exact ⟨_, .cons h1 h2⟩
end
end
section
variable {X : Cx}
inductive rEqD (K : PySem.W.Frag) (x : V) (y : V) (H : Hp) (Q : VK) : Prop
  | mk (dx dy : _) : Dt K H x dx → Dt K H y dy → dx.canLay0 = true → dy.canLay0 = true → min dx.depth dy.depth ≤ 60 → Q (.bl (PyData.eqv dx dy)) H → rEqD K x y H Q
inductive rNeD (K : PySem.W.Frag) (x : V) (y : V) (H : Hp) (Q : VK) : Prop
  | mk (dx dy : _) : Dt K H x dx → Dt K H y dy → dx.canLay0 = true → dy.canLay0 = true → min dx.depth dy.depth ≤ 60 → Q (.bl (!PyData.eqv dx dy)) H → rNeD K x y H Q
theorem op_eqD {k : Nat} (hr : Room k X.A) : OpR X (compareOp .Eq) (rEqD X.K) := by
  intro pins s σ H x y v u Q I rx ry h
  obtain ⟨dx, dy, h1, h2, c1, c2, dp, q⟩ := h
  obtain ⟨as, ra⟩ := h1.reads I rx
  obtain ⟨bs, rb⟩ := h2.reads I ry
  exact SeqAt.compareEq_reads ra rb c1 c2 (by have := hr.un; lia) ⟨.bl _, H, I, rfl, q⟩
theorem op_neD {k : Nat} (hr : Room k X.A) : OpR X (compareOp .NotEq) (rNeD X.K) := by
  intro pins s σ H x y v u Q I rx ry h
  obtain ⟨dx, dy, h1, h2, c1, c2, dp, q⟩ := h
  obtain ⟨as, ra⟩ := h1.reads I rx
  obtain ⟨bs, rb⟩ := h2.reads I ry
  exact SeqAt.compareNe_reads ra rb c1 c2 (by have := hr.un; lia) ⟨.bl _, H, I, rfl, q⟩
end
end L2
namespace L2
open PySem PySem.Spec PyProof.Rows
theorem Inv.turnedS {X : Cx} {pins : List (Addr × Obj)} {σ : St} {H H' : Hp} {s : Shared} {h' : Heap} {t' : Nat} {ch : List Addr} (I : Inv X pins σ H s) (hf : ∀ b ∈ ch, FpOk X pins H b)
    (k : ∀ b o, b ∉ ch → s.heap.get? b = some o → h'.get? b = some o) (hH : ∀ b o, H b = some o → H' b = some o) (hN : ∀ b, b < s.heap.objs.size → H b = none → H' b = none)
    (new : ∀ b o, H b = none → H' b = some o → ObjOk X.prog X.w H' h' b o) : Inv X pins σ H' { s with heap := h', toks := t' } := by
  refine I.step (g' := s.gens) (d' := s.drawn) (ch := ch) (fun b hb => ?_) (fun b o _ _ hc e _ => k b o hc e) (fun b o _ _ hc e _ => ⟨o.slots, k b o hc e⟩) (fun b o _ e n => hN b (Heap.lt_size e) n)
    (fun b o hc e => ⟨o, k b o hc e⟩) (fun b xs e => hH b _ e) (fun b o u e => hH b _ e) (fun b ps e => ⟨#[], by rw [hH b _ e]; simp⟩) (fun m hm => ?_) (fun b u e => ?_) I.bare
  · obtain ⟨_, f1, _, f3, f4, f5⟩ := hf b hb
    exact ⟨f3, f1, f4, f5⟩
  · obtain ⟨o, es, ep, ho, r⟩ := hm
    exact ⟨o, es, ep, k _ o (fun z => (hf _ z).2.1 rfl) ho, r⟩
  · cases q : H b with
    | none => exact new b u q e
    | some v =>
      rw [hH b v q] at e
      cases e
      refine (I.hok b u q).stay (fun c v hc q' => k c v (fun z => ?_) q') (fun c q' => hH c _ q') fun c xs q' => hH c _ q'
      have n := (hf c z).1
      rcases hc with rfl | hc
      · rw [q] at n; cases n
      · rw [hc] at n; cases n
end L2
namespace L2
open PySem PySem.Spec PyProof.Rows
section
variable {X : Cx}
theorem isi_int_int : CallR X (.builtin "isinstance") (fun xs H Q => ∃ i, xs = [.int i, .ty "int"] ∧ Q (.bl true) H) := by
  intro pins s σ H xs us Q I r h
  obtain ⟨i, rfl, q⟩ := h
  cases r with
  | cons r0 rr =>
    cases rr with
    | cons r1 rr =>
      cases rr
      obtain ⟨t, rfl⟩ := r0
      cases r1
      exact IsiPair.int_int ⟨.bl true, H, I, rfl, q⟩
theorem isi_int_bool : CallR X (.builtin "isinstance") (fun xs H Q => ∃ i, xs = [.int i, .ty "bool"] ∧ Q (.bl false) H) := by
  intro pins s σ H xs us Q I r h
  obtain ⟨i, rfl, q⟩ := h
  cases r with
  | cons r0 rr =>
    cases rr with
    | cons r1 rr =>
      cases rr
      obtain ⟨t, rfl⟩ := r0
      cases r1
      exact IsiPair.int_bool ⟨.bl false, H, I.tok _, rfl, q⟩
theorem pe_ty {x : Str} {n : String} {pos : Pos} (hg : Gl X x) (hm : X.mg x = none) (hv : bootBuiltins x = some (.type n)) (hn : x ≠ "__name__" := by decide) (hd : (x == ("__debug__" : Str)) = false := by decide) : PE X (.Name x pos) (tC (.ty n)) :=
  pe_bltn hg hm hv rfl hn hd
theorem pairs_ent {P : Program} {w : World} : ∀ {kvs : List (Str × V)} {es : List DictEntry}, Paired (EntOk w) kvs es → ∃ vs : List (Str × Value), Pairs (strKind P w) es vs ∧ vs.map (·.1) = kvs.map (·.1)
  | _, _, .nil => ⟨[], .nil, rfl⟩
  | (x, y) :: r, e :: es, .cons h t => by
    obtain ⟨vs, p, q⟩ := pairs_ent (P := P) t
    obtain ⟨h1, ⟨tk, h2⟩, h3⟩ := h
    refine ⟨(x, e.val) :: vs, .cons ?_ rfl p, by rw [List.map_cons, List.map_cons, q]⟩
    rw [h2]
    show Value.isStrOf x (.str x tk) = true
    simp [Value.isStrOf]
theorem vals_keys {P : Program} {w : World} : ∀ {ks : List Str} {us : List Value}, us.length = ks.length → (∀ (j : Nat) k u, ks[j]? = some k → us[j]? = some u → (strKind P w).is k u = true) → Vals (ks.map V.str) us
  | [], [], _, _ => .nil
  | k :: ks, [], h, _ => by cases h
  | [], u :: us, h, _ => by cases h
  | k :: ks, u :: us, h, hv => by
    refine .cons ?_ (vals_keys (P := P) (w := w) (by simpa using h) fun j k' u' a b => hv (j + 1) k' u' (by simpa using a) (by simpa using b))
    obtain ⟨t, e⟩ := Value.isStrOf_shape (hv 0 k u rfl rfl)
    exact ⟨t, e⟩
theorem call_list_top (hc : X.calm = true) : CallR X (.type "list") (fun xs H Q => ∃ a kvs, xs = [.ref a] ∧ TopDict X.w X.K a kvs ∧ (kvs.map (·.1)).Nodup ∧ (a == sysModules) = false ∧ kvs.length ≤ 1000 ∧ ∀ p, H p = none → Q (.ref p) (upd H p (.lst (kvs.map fun kv => V.str kv.1)))) := by
  intro pins s σ H xs us Q I r h
  obtain ⟨a, kvs, rfl, ⟨es, ep, hk, hp⟩, nd, lo, hz, q⟩ := h
  cases r with
  | cons r0 rr =>
    cases rr
    cases r0
    have ho := I.kIn a _ hk
    obtain ⟨vs, pv, ek⟩ := pairs_ent (P := X.prog) hp
    have hat : s.heap.DictAt (strKind X.prog X.w) a vs ep := ⟨_, es, ho, ⟨rfl, rfl, rfl⟩, rfl, fun e he' => keys_ent hp e (by simpa using he'), pv, by rw [ek]; exact nd⟩
    have hl : vs.length = kvs.length := by
      have := congrArg List.length ek
      simpa using this
    have sz : (1000 : Nat) ≤ sizeLine := by decide
    refine PySem.W.kdl_call (PySem.W.kdl_dict (knd := strKind X.prog X.w) (kvs := vs) (ep := ep) lo) (I.ok.hd hc) hat (by lia) fun h' tk acc' c' hkeep hD hacc => ?_
    have hv : Vals ((kvs.map (·.1)).map V.str) acc'.toList := by
      refine vals_keys (P := X.prog) (w := X.w) (by rw [Array.length_toList, hacc.1, List.length_map, hl]) fun j k u e1 e2 => ?_
      obtain ⟨k', x', e3, e4⟩ := hacc.2 j u (by rw [← Array.getElem?_toList]; exact e2)
      rw [← ek, List.getElem?_map, e3] at e1
      have : k' = k := by simpa using e1
      rw [← this]; exact e4
    have e0 : kvs.map (fun kv => V.str kv.1) = (kvs.map (·.1)).map V.str := by rw [List.map_map]; rfl
    refine ⟨.ref s.heap.objs.size, upd H s.heap.objs.size (.lst (kvs.map fun kv => V.str kv.1)), I.laid (t' := tk) hkeep (Nat.le_refl _) ?_, rfl, q _ (I.hok.fresh (Nat.le_refl _))⟩
    refine ⟨by rw [List.length_map]; lia, acc'.toList, c', by rw [e0]; exact hv, ?_⟩
    rw [hD]
end
end L2
namespace L2
open PySem PySem.Spec PyProof.Rows
section
variable {X : Cx}
theorem isi_ty {T : String} : CallR X (.builtin "isinstance") (fun xs H Q => ∃ x t b, xs = [x, .ty T] ∧ TyOf X.K H x t ∧ PySem.W.kitOne X.K t (.type T) = some b ∧ Q (.bl b) H) := by
  intro pins s σ H xs us Q I r h
  obtain ⟨x, t, b, rfl, ty, e, q⟩ := h
  cases r with
  | cons r0 rr =>
    cases rr with
    | cons r1 rr =>
      cases rr
      cases r1
      exact isinst_ok I r0 ty e fun tk => ⟨.bl b, H, I.tok _, rfl, q⟩
theorem op_fdivB : OpR X (binaryOp .FloorDiv) (rI (fun _ j => 0 < j ∧ j < 18446744073709551616) fun i j => .int (i / j)) := opI fun i j _ _ _ _ _ hc q => by
  have h1 : (0 : Int) < j := hc.1
  have h2 : j < 18446744073709551616 := hc.2
  refine floordiv_int (by lia) (by rw [Int.fdiv_eq_ediv_of_nonneg i (by lia)]; exact q) (.inl (PyProof.noPylong_of_log2 ?_))
  have h3 : j.natAbs ≠ 0 := by lia
  have : j.natAbs.log2 < 64 := (Nat.log2_lt h3).mpr (by show j.natAbs < 2 ^ 64; lia)
  lia
end
end L2
namespace L2
open PySem PySem.Spec PyProof.Rows
theorem kV_is {P : Program} {w : World} {k : Key} {u : Value} (r : RelV (kV k) u) : (mixKind P w).is k u = true := by
  cases k with
  | inl i => obtain ⟨t, e⟩ := (show ∃ t, u = Value.int i t from r); subst e; exact mixKind_int P w i t
  | inr x => obtain ⟨t, e⟩ := (show ∃ t, u = Value.str x t from r); subst e; exact mixKind_str P w x t
theorem items_are {P : Program} {w : World} : ∀ {ks : List Key} {us : List Value}, Vals (ks.map kV) us → ItemsAre (mixKind P w) ks us
  | [], _, r => by rw [List.map_nil] at r; cases r; exact .nil
  | k :: ks, _, r => by
    rw [List.map_cons] at r
    cases r with
    | cons h t => exact .cons (kV_is h) (items_are t)
section
variable {P : Program} {w : World} {H : Hp} {h : Heap} {a : Addr}
theorem rd_of {u : HO} (ok : HOk P w H h) (e : Rd H a u) : ObjOk P w H h a u := e.ok ok
theorem dk_rd {kvs : List (Key × V)} (ok : HOk P w H h) (e : Rd H a (.dK kvs)) : kvs.length ≤ sizeLine ∧ (a == sysModules) = false ∧ ∃ vs, KV kvs vs ∧ h.DictOf (mixKind P w) a vs :=
  show ObjOk P w H h a (.dK kvs) from rd_of ok e
theorem dk_of {kvs : List (Key × V)} (ok : HOk P w H h) (e : H a = some (.dK kvs)) : kvs.length ≤ sizeLine ∧ (a == sysModules) = false ∧ ∃ vs, KV kvs vs ∧ h.DictOf (mixKind P w) a vs := dk_rd ok (.inl e)
theorem key_of {ks : List Key} (ok : HOk P w H h) (e : H a = some (.tup (ks.map kV))) : (tupleKind (mixKind P w)).is h ks a := by
  obtain ⟨_, its, r, o, h1, h2, n, h3⟩ := (show ObjOk P w H h a (.tup (ks.map kV)) from ok a _ e)
  exact ⟨o, its.toArray, n, h1, (Prod.mk.inj h2).1, h3, by simpa using items_are r⟩
end
section
variable {X : Cx} {pins : List (Addr × Obj)} {σ : St} {H : Hp} {s : Shared} {a : Addr} {y v : V} {u r : Value} {o : Option V} {A : Around} {E : Value → Shared → Prop}
theorem Inv.big (I : Inv X pins σ H s) : sysModules < s.heap.objs.size := by
  have h : mainGlobals < s.heap.objs.size := (I.mod.glob.keeps I.bk).lt
  exact Nat.lt_trans (by decide) h
theorem d_write {h' : Heap} {t' : Nat} {ob : HO} (I : Inv X pins σ H s) (mu : Mut (H a)) (hs : Heap.SameBut a s.heap h') (he : ∃ q, h'.get? a = some q) (new : ObjOk X.prog X.w (upd H a ob) h' a ob) :
    Inv X pins σ (upd H a ob) { s with heap := h', toks := t' } :=
  I.write (x := a) (e := a) mu (.inl rfl) (fun b q hb z => (hs.2 b hb).trans z) he new
end
theorem dk_empty {P : Program} {w : World} {H : Hp} (h : Heap) (hb : sysModules < h.objs.size) : ObjOk P w H (h.push { cls := .type "dict", data := .dict #[] }) h.objs.size (.dK []) :=
  ⟨Nat.zero_le _, beq_eq_false_iff_ne.mpr (Ne.symm (Nat.ne_of_lt hb)), [], .nil, Heap.DictOf.new h⟩
def tDNewK : TE := fun _ H Q => ∀ p, H p = none → Q (.ref p) (upd H p (.dK []))
section
variable {X : Cx} {pos : Pos}
theorem pe_dnewK : PE X (.Dict [] [] pos) tDNewK := ⟨fun pins s σ H Q I h =>
  wpAny_Dict_empty ⟨.ref s.heap.objs.size, _, I.laid (a := s.heap.objs.size) (o := .dK []) (t' := s.toks) (fun _ _ q => Heap.get?_push_of_some _ q) (Nat.le_refl _) (dk_empty s.heap I.big), rfl, h _ (I.hok.fresh (Nat.le_refl _))⟩⟩
end
end L2
namespace L2
open PySem PySem.Spec PyProof.Rows
theorem lc_tup {K : PySem.W.Frag} {a : Addr} {xs : List V} {g : TG} {tf : TT} {te : TE} {ix : List (Option Nat)} {σ : St} {H : Hp} {Q : VK} (Pv : Nat → List V → Hp → Prop) (h0 : Pv 0 [] H)
    (hl : ∀ i ys H, i ≤ xs.length → Pv i ys H → SqT K H a xs ∧ ys.length ≤ sizeLine)
    (hs : ∀ i x ys H, xs[i]? = some x → Pv i ys H → g x (st0 ix σ) H fun σ2 H2 => ExtL (st0 ix σ) σ2 ∧ tf σ2 H2 fun b H3 => if b = true then te σ2 H3 fun y H4 => Nx Pv xs.length i (ys ++ [y]) H4 else Nx Pv xs.length i ys H3)
    (hd : ∀ ys H, Pv xs.length ys H → ∀ D, H D = none → Q (.ref D) (upd H D (.lst ys))) :
    LcGo (Itt K a) g tf te ix σ H Q := by
  refine ⟨fun i m ys H => m = xs.length - i ∧ i ≤ xs.length ∧ Pv i ys H, ⟨xs.length, by simp, Nat.zero_le _, h0⟩, ?_⟩
  rintro i m ys H ⟨rfl, hi, p⟩
  obtain ⟨q, hz⟩ := hl i ys H hi p
  by_cases hlt : i < xs.length
  · refine .inr ⟨⟨xs, xs[i], q, by simp [hlt]⟩, hz, fun x H' y => ?_⟩
    obtain ⟨e, y⟩ := y
    subst e
    exact hs i x ys _ (y xs q) p
  · have e : i = xs.length := by lia
    subst e
    exact .inl ⟨⟨xs, q, Nat.le_refl _⟩, hz, hd ys H p⟩
def TupK (H H' : Hp) : Prop := ∀ a xs, H a = some (.tup xs) → H' a = some (.tup xs)
theorem TupK.trans {H H1 H2 : Hp} (a : TupK H H1) (b : TupK H1 H2) : TupK H H2 := fun c x e => b c x (a c x e)
theorem kt_same {H H' : Hp} (s : Same H H') : TupK H H' := fun a xs e => s _ _ e
def okS (x : Str) : Bool := (PyData.str x).canLay0
mutual
inductive Td (H : Hp) : V → PyData → Prop
  | int (i : Int) : Td H (.int i) (.int i)
  | str (x : Str) (h : okS x = true) : Td H (.str x) (.str x)
  | tup {a : Addr} {xs : List V} {ds : List PyData} : H a = some (.tup xs) → TdAll H xs ds → Td H (.ref a) (.tuple ds)
inductive TdAll (H : Hp) : List V → List PyData → Prop
  | nil : TdAll H [] []
  | cons {v : V} {d : PyData} {vs : List V} {ds : List PyData} : Td H v d → TdAll H vs ds → TdAll H (v :: vs) (d :: ds)
end
mutual
theorem Td.kt {H H' : Hp} (k : TupK H H') : ∀ {v : V} {d : PyData}, Td H v d → Td H' v d
  | _, _, .int i => .int i
  | _, _, .str x h => .str x h
  | _, _, .tup e t => .tup (k _ _ e) (TdAll.kt k t)
theorem TdAll.kt {H H' : Hp} (k : TupK H H') : ∀ {vs : List V} {ds : List PyData}, TdAll H vs ds → TdAll H' vs ds
  | _, _, .nil => .nil
  | _, _, .cons h t => .cons (Td.kt k h) (TdAll.kt k t)
end
mutual
theorem Td.dt {K : PySem.W.Frag} {H : Hp} : ∀ {v : V} {d : PyData}, Td H v d → Dt K H v d
  | _, _, .int i => .int i
  | _, _, .str x _ => .str x
  | _, _, .tup e t => .tup (SqT.of e) (TdAll.dt t)
theorem TdAll.dt {K : PySem.W.Frag} {H : Hp} : ∀ {vs : List V} {ds : List PyData}, TdAll H vs ds → DtAll K H vs ds
  | _, _, .nil => .nil
  | _, _, .cons h t => .cons (Td.dt h) (TdAll.dt t)
end
mutual
theorem Td.lay {H : Hp} : ∀ {v : V} {d : PyData}, Td H v d → d.canLay0 = true
  | _, _, .int i => rfl
  | _, _, .str x h => h
  | _, _, .tup e t => TdAll.lay t
theorem TdAll.lay {H : Hp} : ∀ {vs : List V} {ds : List PyData}, TdAll H vs ds → PyData.canLayAll0 ds = true
  | _, _, .nil => rfl
  | _, _, .cons h t => by
    simp only [PyData.canLayAll0, Td.lay h, TdAll.lay t, Bool.and_self]
end
mutual
theorem Td.eqv {H : Hp} : ∀ {v : V} {d : PyData}, Td H v d → PyData.eqv d d = true
  | _, _, .int i => by simp [PyData.eqv]
  | _, _, .str x _ => by simp [PyData.eqv]
  | _, _, .tup e t => by simp only [PyData.eqv]; exact TdAll.eqv t
theorem TdAll.eqv {H : Hp} : ∀ {vs : List V} {ds : List PyData}, TdAll H vs ds → PyData.eqvAll ds ds = true
  | _, _, .nil => by simp [PyData.eqvAll]
  | _, _, .cons h t => by
    simp only [PyData.eqvAll, Td.eqv h, TdAll.eqv t, Bool.and_self]
end
theorem TdAll.length {H : Hp} : ∀ {vs : List V} {ds : List PyData}, TdAll H vs ds → vs.length = ds.length
  | _, _, .nil => rfl
  | _, _, .cons _ t => by rw [List.length_cons, List.length_cons, TdAll.length t]
end L2
namespace L2
open PySem PySem.Spec PyProof.Rows
def tabOf (ps : List Nat) (led : Bool) : SetTable := { mask := 7, place := ps.toArray, dummies := #[], finger := 0, led := led, moves := 0, plain := true }
theorem free0 : ∀ (led : Bool) (h : Fin 8), (tabOf [] led).freeSlot (h.val : Int) = some (h.val, false) := by decide +kernel
theorem free1 : ∀ (led : Bool) (p h : Fin 8), p ≠ h → (tabOf [p.val] led).freeSlot (h.val : Int) = some (h.val, false) := by decide +kernel
theorem put0 : ∀ (led : Bool) (h : Fin 8), (tabOf [] led).put h.val = (tabOf [h.val] led, 0) := by decide +kernel
theorem put1 : ∀ (led : Bool) (p h : Fin 8), p ≠ h → (tabOf [p.val] led).put h.val = (if h.val < p.val then (tabOf [h.val, p.val] led, 0) else (tabOf [p.val, h.val] led, 1)) := by decide +kernel
theorem fits0 : ∀ (led : Bool), (tabOf [] led).fits 0 = true := by decide +kernel
theorem fits1 (led : Bool) (p : Nat) : (tabOf [p] led).fits 1 = true := by cases led <;> rfl
theorem fits2 (led : Bool) (p q : Nat) : (tabOf [p, q] led).fits 2 = true := by cases led <;> rfl
theorem full1 (led : Bool) (p : Nat) : (tabOf [p] led).tooFull = false := by cases led <;> rfl
theorem full2 (led : Bool) (p q : Nat) : (tabOf [p, q] led).tooFull = false := by cases led <;> rfl
def insN (k : Nat) : List Nat → List Nat
  | [] => [k]
  | [p] => if k = p then [p] else if k < p then [k, p] else [p, k]
  | l => l
inductive EntP : List Nat → List (Int × Value) → Prop
  | nil : EntP [] []
  | cons {p : Nat} {t : Tok} {ps : List Nat} {es : List (Int × Value)} : EntP ps es → EntP (p :: ps) (((p : Int), .int p t) :: es)
theorem lay_small {ps : List Nat} {led : Bool} {es : Array (Int × Value)} {k : Nat} {t : Tok} (he : EntP ps es.toList) (hl : ps = [] ∨ ∃ p, ps = [p] ∧ p ≠ k ∧ p < 8) (hk : k < 8) :
    ∃ es', layNew (tabOf ps led) es (k : Int) (.int k t) = (es', tabOf (insN k ps) led, false, false) ∧ EntP (insN k ps) es'.toList := by
  rcases hl with rfl | ⟨p, rfl, hne, hp⟩
  · have e0 : es = #[] := by
      generalize hl : es.toList = l at he
      cases he
      exact Array.toList_eq_nil_iff.mp hl
    subst e0
    refine ⟨#[((k : Int), .int k t)], ?_, .cons .nil⟩
    unfold layNew
    rw [free0 led ⟨k, hk⟩]
    dsimp only
    rw [put0 led ⟨k, hk⟩]
    dsimp only
    rfl
  · obtain ⟨tp, e0⟩ : ∃ tp, es = #[((p : Int), .int p tp)] := by
      generalize hl : es.toList = l at he
      cases he with
      | @cons _ tp _ _ r =>
        cases r
        refine ⟨tp, ?_⟩
        rw [← Array.toArray_toList (xs := es), hl]
    subst e0
    have hne' : (⟨p, hp⟩ : Fin 8) ≠ ⟨k, hk⟩ := fun z => hne (congrArg Fin.val z)
    unfold layNew
    rw [free1 led ⟨p, hp⟩ ⟨k, hk⟩ hne']
    dsimp only
    rw [put1 led ⟨p, hp⟩ ⟨k, hk⟩ hne']
    by_cases hlt : k < p
    · have e1 : insN k [p] = [k, p] := by simp [insN, hlt, Ne.symm hne]
      rw [e1]
      refine ⟨#[((k : Int), .int k t), ((p : Int), .int p tp)], ?_, .cons (.cons .nil)⟩
      dsimp only
      rw [if_pos hlt]
      rfl
    · have e1 : insN k [p] = [p, k] := by simp [insN, hlt, Ne.symm hne]
      rw [e1]
      refine ⟨#[((p : Int), .int p tp), ((k : Int), .int k t)], ?_, .cons (.cons .nil)⟩
      dsimp only
      rw [if_neg hlt]
      rfl
def SetSm (h : Heap) (a : Addr) (ps : List Nat) (led : Bool) : Prop := ∃ o es ep, h.get? a = some o ∧ o.ExactSet ∧ o.data = .set es ep (tabOf ps led) ∧ EntP ps es.toList
theorem EntP.elems {prog : Program} {w : World} {ps : List Nat} {es : List (Int × Value)} (h : EntP ps es) (hp : ∀ p ∈ ps, p < 8) : ElemsOf (intKind prog w) es := by
  induction h with
  | nil => exact fun e he => nomatch he
  | @cons p t ps es _ ih =>
    intro e he
    rcases List.mem_cons.mp he with z | z
    · subst z
      refine ⟨⟨p, intKind_is _ _ _ _, ?_⟩, rfl⟩
      have := hp p List.mem_cons_self
      have hh : ∀ q : Fin 8, (q.val : Int) = hashInt (q.val : Int) := by decide +kernel
      exact hh ⟨p, hp p List.mem_cons_self⟩
    · exact ih (fun q hq => hp q (List.mem_cons_of_mem _ hq)) e z
theorem isInt_eq (k p : Nat) (t : Tok) : Value.isInt (k : Int) (.int (p : Int) t) = decide (k = p) := by
  by_cases h : k = p
  · subst h
    simp [Value.isInt]
  · have : (k : Int) ≠ (p : Int) := by lia
    have h2 : (p : Int) ≠ (k : Int) := by lia
    simp [Value.isInt, h, this, h2]
theorem find_small {ps : List Nat} {k : Nat} {l : List (Int × Value)} (h : EntP ps l) (hl : ps = [] ∨ ∃ p, ps = [p]) : l.findIdx? (fun e => Value.isInt (k : Int) e.2) = if k ∈ ps then some 0 else none := by
  cases h with
  | nil => rfl
  | @cons p t ps es r =>
    have : ps = [] := by rcases hl with z | ⟨q, z⟩ <;> simp_all
    subst this
    cases r
    rw [List.findIdx?_cons]
    dsimp only
    rw [isInt_eq]
    by_cases z : k = p
    · subst z
      simp
    · simp [z]
theorem EntP.size {ps : List Nat} {es : List (Int × Value)} (h : EntP ps es) : es.length = ps.length := by
  induction h with
  | nil => rfl
  | cons _ ih => rw [List.length_cons, List.length_cons, ih]
theorem fitsN {led : Bool} {ps : List Nat} (h : ps.length ≤ 2) : (tabOf ps led).fits ps.length = true := by
  match ps, h with
  | [], _ => exact fits0 led
  | [p], _ => exact fits1 led p
  | [p, q], _ => exact fits2 led p q
section
variable {prog : Program} {w : World} {A : Around} {E : Value → Shared → Prop} {s : Shared}
theorem add_small {a : Addr} {ps : List Nat} {led : Bool} {k : Nat} {t : Tok} {Q : Bool → Shared → Prop} (hS : SetSm s.heap a ps led) (hl : ps = [] ∨ ∃ p, ps = [p]) (hp : ∀ p ∈ ps, p < 8) (hk : k < 8)
    (h : ∀ b h', Heap.SameBut a s.heap h' → SetSm h' a (insN k ps) led → Q b { s with heap := h' }) : wpAny (model prog w) A (setAddHashed a (.int k t) ((intKind prog w).hash (k : Int))) Q E s := by
  obtain ⟨o, es, ep, ho, hex, hd, hE⟩ := hS
  have hel := hE.elems (prog := prog) (w := w) hp
  have hl2 : ps.length ≤ 2 := by rcases hl with rfl | ⟨p, rfl⟩ <;> simp
  have hsz : es.size = ps.length := by rw [← Array.length_toList]; exact hE.size
  have hf : (tabOf ps led).fits es.size = true := by rw [hsz]; exact fitsN hl2
  have hkey : (intKind prog w).is (k : Int) (.int k t) = true := intKind_is _ _ _ _
  unfold setAddHashed setAddHashedIn
  refine wpAny_holding (wpAny_bind (wpAny_setState_of ho hd hf ?_))
  dsimp only
  rw [byScan_of (knd := intKind prog w) rfl (by rw [hsz]; unfold scanBound; lia) hel]
  simp only [↓reduceIte]
  unfold setAddByScan
  refine wpAny_bind ?_
  refine wpAny_bind (wpAny_rule ?_)
  refine wpAny_bind (wpAny_setScan_of hkey ho hd hf hel ?_)
  have hh : (intKind prog w).hash (k : Int) = (k : Int) := by
    have : ∀ q : Fin 8, hashInt (q.val : Int) = (q.val : Int) := by decide +kernel
    exact this ⟨k, hk⟩
  have e : s = { s with heap := s.heap } := by cases s; rfl
  have hfind := find_small (k := k) hE hl
  rw [show List.findIdx? (fun e => (intKind prog w).is (k : Int) e.2) es.toList = if k ∈ ps then some 0 else none from hfind]
  by_cases hm : k ∈ ps
  · rw [if_pos hm]
    dsimp only
    refine wpAny_pure (wpAny_pure ?_)
    have hin : insN k ps = ps := by
      rcases hl with rfl | ⟨p, rfl⟩
      · exact absurd hm (by simp)
      · have : k = p := by simpa using hm
        simp [insN, this]
    rw [e]
    exact h _ s.heap (Heap.SameBut.refl a s.heap) ⟨o, es, ep, ho, hex, by rw [hin]; exact hd, by rw [hin]; exact hE⟩
  · rw [if_neg hm]
    dsimp only
    have hnp : ps = [] ∨ ∃ p, ps = [p] ∧ p ≠ k ∧ p < 8 := by
      rcases hl with rfl | ⟨p, rfl⟩
      · exact .inl rfl
      · exact .inr ⟨p, rfl, fun z => hm (by simp [z]), hp p List.mem_cons_self⟩
    obtain ⟨es', eL, hE'⟩ := lay_small (led := led) (t := t) hE hnp hk
    rw [hh, eL]
    dsimp only
    refine wpAny_bind (wpAny_pure ?_)
    have pl : (tabOf (insN k ps) led).plain = true := rfl
    rw [if_pos pl]
    refine wpAny_bind ?_
    rw [hashByValue_scannable 8 (x := .int k t) rfl]
    refine wpAny_pure ?_
    rw [if_pos (show plainKind (Value.int (k : Int) t) = true from rfl)]
    have lins : insN k ps = [k] ∨ ∃ p q, insN k ps = [p, q] := by
      rcases hnp with rfl | ⟨p, rfl, ne, _⟩
      · exact .inl rfl
      · by_cases hlt : k < p
        · exact .inr ⟨k, p, by simp [insN, hlt, Ne.symm ne]⟩
        · exact .inr ⟨p, k, by simp [insN, hlt, Ne.symm ne]⟩
    have hsz' : es'.size = (insN k ps).length := by rw [← Array.length_toList]; exact hE'.size
    have hz : es'.size ≤ 2 := by rw [hsz']; rcases lins with z | ⟨p, q, z⟩ <;> rw [z] <;> simp
    refine wpAny_bind (wpAny_storeSet_of ho hd ?_ (fits_of_scanBound (by unfold scanBound; lia)))
    have nf : (tabOf (insN k ps) led).tooFull = false := by
      rcases lins with z | ⟨p, q, z⟩
      · rw [z]; exact full1 led _
      · rw [z]; exact full2 led _ _
    rw [nf]
    simp only [Bool.not_false, Bool.and_false, Bool.false_eq_true, ↓reduceIte]
    refine wpAny_pure ?_
    dsimp only
    refine wpAny_pure (h _ _ (Heap.SameBut.update s.heap a _) ?_)
    have hg : (s.heap.update a (Obj.putSet es' (tabOf (insN k ps) led))).get? a = some { o with data := .set es' (ep + 1) (tabOf (insN k ps) led) } := by
      have := Heap.get?_update_self (Obj.putSet es' (tabOf (insN k ps) led)) ho (by rw [putSet_of es' (tabOf (insN k ps) led) hd]; rfl)
      rw [putSet_of es' (tabOf (insN k ps) led) hd] at this
      exact this
    exact ⟨_, es', ep + 1, hg, hex, rfl, hE'⟩
end
def foldN (ns : List Nat) : List Nat := ns.foldl (fun ps k => insN k ps) []
theorem foldN_snoc (ns : List Nat) (k : Nat) : foldN (ns ++ [k]) = insN k (foldN ns) := by simp [foldN]
theorem SetSm.keep {h h' : Heap} {a : Addr} {ps : List Nat} {led : Bool} (S : SetSm h a ps led) (k : ∀ o, h.get? a = some o → h'.get? a = some o) : SetSm h' a ps led := by
  obtain ⟨o, es, ep, ho, r⟩ := S
  exact ⟨o, es, ep, k o ho, r⟩
theorem foldN_take {ns : List Nat} (h2 : ns.length ≤ 2) (h8 : ∀ k ∈ ns, k < 8) {i : Nat} (hi : i < ns.length) : (foldN (ns.take i) = [] ∨ ∃ p, foldN (ns.take i) = [p]) ∧ ∀ p ∈ foldN (ns.take i), p < 8 := by
  match ns, h2, hi with
  | [], _, hi => simp at hi
  | [k], _, hi =>
    have : i = 0 := by simpa using hi
    subst this
    exact ⟨.inl rfl, fun p hp => by simp [foldN] at hp⟩
  | [k, m], _, hi =>
    have : i = 0 ∨ i = 1 := by simp at hi; lia
    rcases this with rfl | rfl
    · exact ⟨.inl rfl, fun p hp => by simp [foldN] at hp⟩
    · refine ⟨.inr ⟨k, rfl⟩, fun p hp => ?_⟩
      have : p = k := by simpa [foldN, insN] using hp
      rw [this]
      exact h8 k List.mem_cons_self
section
variable {prog : Program} {w : World} {A : Around} {R : Result → Shared → Prop} {I : Addr} {fp wr : List Addr} {G : Array GenState → Array GenState → Prop} {n : Nat} {P : Nat → Value → Prop} {St : Nat → Shared → Prop}
theorem update_small (W : WalksS prog w A.in1 I fp wr G n P St) (S : Addr) (hSf : S ∉ fp) (ns : List Nat) (hn : ns.length = n) (h2 : n ≤ 2) (h8 : ∀ k ∈ ns, k < 8) (led : Bool)
    (hval : ∀ i v, P i v → ∃ t k, ns[i]? = some k ∧ v = .int (k : Int) t) :
    ∀ (k i : Nat) (s : Shared), n - i = k → i ≤ n → St i s → SetSm s.heap S (foldN (ns.take i)) led →
      (∀ s', Moved (S :: wr) G s s' → SetSm s'.heap S (foldN ns) led → R (.ok (.ret .none)) s') →
      codeAny (model prog w) A (.builtin "set.update.loop" ⟨[.ref S, .ref I], []⟩) R s := by
  have hSw : S ∉ wr := fun h => hSf (W.sub _ h)
  have hsub : ∀ b ∈ wr, b ∈ S :: wr := fun b hb => List.mem_cons_of_mem _ hb
  intro k
  induction k with
  | zero =>
    intro i s hk hi hst hS hR
    have hin : i = n := by lia
    subst hin
    refine codeAny_builtin F.entry_set_update_loop ?_
    rw [Around.under_plainId F.plain_set_update_loop _]
    show wpAny _ A.in1 (pyNext (.ref I) >>= _) _ _ s
    refine wpAny_bind (W.done s _ _ hst fun s' hm => ?_)
    show wpAny _ A.in1 (ret Value.none) _ _ s'
    refine wpAny_pure (hR s' (hm.mono hsub) ?_)
    rw [← hn, List.take_length] at hS
    exact hS.keep fun o ho => hm.heap S _ hSw ho
  | succ k ih =>
    intro i s hk hi hst hS hR
    have hlt : i < n := by lia
    refine codeAny_builtin F.entry_set_update_loop ?_
    rw [Around.under_plainId F.plain_set_update_loop _]
    show wpAny _ A.in1 (pyNext (.ref I) >>= _) _ _ s
    refine wpAny_bind (W.item i s _ _ hlt hst fun v s' hP hst' hm => ?_)
    obtain ⟨t, q, hq, rfl⟩ := hval i v hP
    have hS' := hS.keep fun o ho => hm.heap S _ hSw ho
    show wpAny _ A.in1 (holding [Value.int (q : Int) t] (setAdd S (.int (q : Int) t)) >>= _) _ _ s'
    refine wpAny_bind (wpAny_holding ?_)
    unfold setAdd
    refine wpAny_holding ?_
    refine wpAny_bind ((intKind prog w).pyHash (k := (q : Int)) (intKind_is _ _ _ _) ?_)
    obtain ⟨f1, f2⟩ := foldN_take (by lia : ns.length ≤ 2) h8 (by lia : i < ns.length)
    refine add_small (s := { s' with toks := s'.toks + 1 }) hS' f1 f2 (h8 q (List.mem_of_getElem? hq)) fun b h' hsb hS2 => ?_
    have et : ns.take (i + 1) = ns.take i ++ [q] := by
      rw [List.take_succ, hq]
      rfl
    refine wpAny_pure ⟨plainId_quiet F.plain_set_update_loop _, ih (i + 1) _ (by lia) hlt (W.frame _ s' _ _ hst' (Nat.le_succ _) fun b hb o e => ?_) (by rw [et, foldN_snoc]; exact hS2) fun s'' hm'' hS'' => ?_⟩
    · rw [hsb.2 b (fun h : b = S => hSf (by rw [← h]; exact hb))]; exact e
    · refine hR s'' (Moved.trans W.gtrans ((hm.mono hsub).then_heap (Nat.le_succ _) fun b o hb e => ?_) hm'') hS''
      rw [hsb.2 b (fun h : b = S => hb (by rw [h]; exact List.mem_cons_self))]; exact e
end
section
variable {prog : Program} {w : World} {A : Around} {E : Value → Shared → Prop} {s : Shared}
def ledOf (w : World) : Bool := !w.params.followText "set-order"
theorem set_new_led (a : Value) {Q₁ : Value → Shared → Prop}
    (h : Q₁ (.ref s.heap.objs.size) { s with heap := s.heap.push { cls := .type "set", dict := none, data := .set #[] 0 (.fresh 0 0 (ledOf w)) } }) :
    codeAny (model prog w) A (.call (.builtin "set.__new__") ⟨[.type "set", a], []⟩) (wants Q₁ E) s := by
  refine codeAny_of_tree ?_
  show wpAny _ A.in1 (do checkBuiltinCall "set.__new__" ⟨[.type "set", a], []⟩; again (.builtin "set.__new__" ⟨[.type "set", a], []⟩)) _ _ s
  refine wpAny_bind (wpAny_of_eq (F.newCall_set_1 a) (wpAny_pure ⟨plainId_quiet F.plain_set_new _, codeAny_builtin F.entry_set_new ?_⟩))
  rw [Around.under_plainId F.plain_set_new _]
  unfold Builtin.«set.__new__» Builtin.Frozenset.newClass
  have hsub := sub_set_self
  obtain ⟨hp, g, d, tk, os⟩ := s
  dsimp only
  wp_walk
  refine wpAny_askSetting (wpAny_pure ?_)
  dsimp only
  simp only [newObj]
  refine wpAny_bind (wpAny_alloc (wpAny_pure ?_))
  exact wpAny_pure h
end
section
variable {prog : Program} {w : World} {A : Around} {E : Value → Shared → Prop} {s : Shared}
set_option maxHeartbeats 3200000 in
theorem call_set_small {l : Addr} {items : Array Value} {ns : List Nat} {Q : Value → Shared → Prop}
    (hh : A.handled = none) (hl : s.heap.IsList l items) (hi : IntsAre items.toList (ns.map fun (k : Nat) => (k : Int))) (h2 : ns.length ≤ 2) (h8 : ∀ k ∈ ns, k < 8)
    (h : ∀ (h' : Heap) (tk : Nat), SetSm h' s.heap.objs.size (foldN ns) (ledOf w) → (∀ b o, b < s.heap.objs.size → s.heap.get? b = some o → h'.get? b = some o) → Q (.ref s.heap.objs.size) { s with heap := h', toks := tk }) :
    wpAny (model prog w) A (call (.type "set") [.ref l]) Q E s := by
  have hlen : ns.length = items.size := by
    have := hi.length
    rw [Array.length_toList, List.length_map] at this
    lia
  obtain ⟨c, tl, hmro⟩ := PySem.F.called_set.mro
  have hmade := PySem.F.called_set.made
  have hsub := PySem.F.called_set.sub
  refine wpAny_call (codeAny_of_tree ?_)
  show wpAny _ _ (callAny (.type "set") _) _ _ _
  refine wpAny_pure ⟨Code.quiet_builtin _ (by decide +kernel), codeAny_builtin PySem.F.entry_type_call ?_⟩
  rw [Around.under_plain (weight_type_call_type "set" [.ref l] []) rfl]
  have h1 := PySem.F.called_set.notType
  have h2' := PySem.F.called_set.canCreate
  have hct := PySem.F.typeCall_set_1 (.ref l)
  repeat (any_goals (first | assumption | wp_step))
  refine codeAny_mono (set_new_led (.ref l) (E := E) (Q₁ := fun obj s₁ => obj = .ref s.heap.objs.size ∧ s₁ = { s with heap := s.heap.push { cls := .type "set", dict := none, data := .set #[] 0 (.fresh 0 0 (ledOf w)) } }) ⟨rfl, rfl⟩) fun r s₁ hr => ?_
  cases r with
  | error e => exact hr
  | ok fl =>
    cases fl with
    | ret obj =>
      obtain ⟨rfl, rfl⟩ := hr
      have hS : (s.heap.push { cls := .type "set", dict := none, data := .set #[] 0 (.fresh 0 0 (ledOf w)) }).get? s.heap.objs.size = some { cls := .type "set", dict := none, data := .set #[] 0 (.fresh 0 0 (ledOf w)) } := Heap.get?_push_size _ rfl
      have hT : Shared.TypeIs { s with heap := s.heap.push { cls := .type "set", dict := none, data := .set #[] 0 (.fresh 0 0 (ledOf w)) } } (.ref s.heap.objs.size) "set" := ⟨_, hS, rfl⟩
      have hli := PySem.F.called_set.init.lookup
      have hbi := PySem.F.called_set.init.bind (.ref s.heap.objs.size)
      repeat (any_goals (first | assumption | wp_step))
      refine codeAny_mono (codeAny_call_builtin (R := wants (fun r s₂ => r = .none ∧ ∃ h' tk, s₂ = { s with heap := h', toks := tk } ∧ SetSm h' s.heap.objs.size (foldN ns) (ledOf w) ∧
          (∀ b o, b < s.heap.objs.size → s.heap.get? b = some o → h'.get? b = some o)) E) PySem.F.called_set.init.plain PySem.F.entry_set_init (PySem.check_set_init_1 hT ?_)) fun r₂ s₂ hr₂ => ?_
      · obtain ⟨ol, hol, hcl, nl, hdl⟩ := hl
        obtain ⟨ocls, odict, odata, oslots⟩ := ol
        simp only at hcl hdl
        subst hcl; subst hdl
        have hol' : (s.heap.push { cls := .type "set", dict := none, data := .set #[] 0 (.fresh 0 0 (ledOf w)) }).get? l = some { cls := .type "list", dict := odict, data := .seq items nl, slots := oslots } := Heap.get?_push_of_some _ hol
        have hsls := PySem.F.sub_list_set
        have hslf := PySem.F.sub_list_frozenset
        have hne : (Value.type "list" == Value.type "dict") = false := by decide
        have hl1 : (s.heap.push { cls := .type "set", dict := none, data := .set #[] 0 (.fresh 0 0 (ledOf w)) }).IsList l items := ⟨_, hol', rfl, nl, rfl⟩
        unfold Builtin.«set.__init__» noKeywords Builtin.Frozenset.updateFrom
        generalize hPI : pyIter = PI
        wp_walk
        subst hPI
        refine wpAny_pyIter_list hl1 ?_
        refine wpAny_bind (wpAny_runValue ?_)
        have hlS : l < s.heap.objs.size := Heap.lt_size hol
        have hh3 : A.in1.in1.in1.handled = none := by simp [hh]
        have hneI : l ≠ (s.heap.push { cls := .type "set", dict := none, data := .set #[] 0 (.fresh 0 0 (ledOf w)) }).objs.size := by
          rw [Heap.size_push]; exact Nat.ne_of_lt (Nat.lt_succ_of_lt hlS)
        have hSf : s.heap.objs.size ∉ [(s.heap.push { cls := .type "set", dict := none, data := .set #[] 0 (.fresh 0 0 (ledOf w)) }).objs.size, l] := by
          rw [Heap.size_push]; simp only [List.mem_cons, List.mem_singleton, List.not_mem_nil, or_false, not_or]
          exact ⟨Nat.ne_of_lt (Nat.lt_succ_self _), Nat.ne_of_gt hlS⟩
        have hval : ∀ (i : Nat) (v : Value), items[i]? = some v → ∃ t k, ns[i]? = some k ∧ v = .int (k : Int) t := fun i v hv => by
          obtain ⟨t, e⟩ := IntsAre.int_at hi i v (by rw [Array.getElem?_toList]; exact hv)
          have hlt : i < items.size := (Array.getElem?_eq_some_iff.mp hv).1
          refine ⟨t, ns[i], List.getElem?_eq_getElem (by lia), ?_⟩
          rw [e]
          congr 1
          simp [List.getD, show i < ns.length by lia]
        refine update_small ((Walks.list hh3 _ l hneI items).toS) s.heap.objs.size hSf ns hlen (by lia) h8 (ledOf w) hval (items.size - 0) 0 _ (by lia) (Nat.zero_le _)
          ⟨⟨_, Heap.get?_push_size _ rfl, rfl, rfl⟩, (hl1.push _)⟩ ?hS0 ?hR
        case hS0 =>
          have hget : ((s.heap.push { cls := .type "set", dict := none, data := .set #[] 0 (.fresh 0 0 (ledOf w)) }).push { cls := .type "list_iterator", data := .fields #[.ref l, .int 0 0] }).get? s.heap.objs.size
              = some { cls := .type "set", dict := none, data := .set #[] 0 (.fresh 0 0 (ledOf w)) } := Heap.get?_push_of_some _ hS
          exact ⟨_, #[], 0, hget, ⟨rfl, rfl, rfl⟩, rfl, .nil⟩
        case hR =>
          intro s' hm hS'
          obtain ⟨h', g', d', tk', os'⟩ := s'
          have eg : g' = s.gens := hm.gens
          have ed : d' = s.drawn := hm.drawn
          have eo : os' = s.os := hm.os
          subst eg; subst ed; subst eo
          show wpAny _ _ _ _ _ _
          refine wpAny_pure ?_
          show wpAny _ _ (ret Value.none) _ _ _
          refine wpAny_pure ⟨rfl, h', tk', rfl, hS', fun b o hb e => ?_⟩
          have hb1 : b ≠ s.heap.objs.size := Nat.ne_of_lt hb
          have hb2 : b ≠ (s.heap.push { cls := .type "set", dict := none, data := .set #[] 0 (.fresh 0 0 (ledOf w)) }).objs.size := by
            rw [Heap.size_push]; exact Nat.ne_of_lt (Nat.lt_succ_of_lt hb)
          exact hm.heap b o (by simp only [List.mem_cons, List.mem_singleton, List.not_mem_nil, or_false, not_or]; exact ⟨hb1, hb2⟩) (Heap.get?_push_of_some _ (Heap.get?_push_of_some _ e))
      · cases r₂ with
        | error e => exact hr₂
        | ok fl₂ =>
          cases fl₂ with
          | ret r =>
            obtain ⟨rfl, h', tk, rfl, hS', hk'⟩ := hr₂
            repeat (any_goals (first | assumption | wp_step))
            exact h _ _ hS' hk'
          | _ => exact hr₂.elim
    | _ => exact hr.elim
end
end L2
namespace L2
open PySem PySem.Spec PyProof.Rows
theorem slot_setit_next : Slot "set_iterator" "__next__" "set_iterator.__next__" :=
  .of (owner := "set_iterator") (n := "__next__") (by rw [typeLookup_type, builtinLookup_eq_fast]; kernel_rfl) (by decide +kernel) (by decide +kernel) (by decide +kernel)
    (by first | exact .inl (by decide +kernel) | exact .inr (by decide +kernel)) (by rw [isSubtype_type]; kernel_rfl)
theorem slot_setit_iter : Slot "set_iterator" "__iter__" "set_iterator.__iter__" :=
  .of (owner := "set_iterator") (n := "__iter__") (by rw [typeLookup_type, builtinLookup_eq_fast]; kernel_rfl) (by decide +kernel) (by decide +kernel) (by decide +kernel)
    (by first | exact .inl (by decide +kernel) | exact .inr (by decide +kernel)) (by rw [isSubtype_type]; kernel_rfl)
theorem entry_setit_next : entryFor table "set_iterator.__next__" = some Builtin.«set_iterator.__next__» := entryFor_of_tree (by kernel_rfl)
theorem args_setit_next (a : Value) : argsOk "set_iterator.__next__" ⟨[a], []⟩ := by unfold argsOk; kernel_rfl
theorem entry_set_iter' : entryFor table "set.__iter__" = some Builtin.«frozenset.__iter__» :=
  entryFor_alias (id' := "frozenset.__iter__") (by kernel_rfl) rfl (by decide +kernel) (by kernel_rfl)
theorem pick_go {α : Type} (next : Nat → Nat) : ∀ (n k : Nat) (left : List α) (out : Array α), left.length = n → ((pickOrder.go next n k left out).toList).Perm (out.toList ++ left)
  | 0, k, left, out, h => by
    have : left = [] := List.length_eq_zero_iff.mp h
    subst this
    simp [pickOrder.go]
  | n + 1, k, left, out, h => by
    have hlt : next k % left.length < left.length := Nat.mod_lt _ (by lia)
    rw [pickOrder.go, List.getElem?_eq_getElem hlt]
    dsimp only
    refine (pick_go next n (k + 1) _ _ (by rw [List.length_eraseIdx, if_pos hlt]; lia)).trans ?_
    rw [Array.toList_push, List.append_assoc]
    refine List.Perm.append_left _ ?_
    have := List.perm_middle (a := left[next k % left.length]) (l₁ := left.take (next k % left.length)) (l₂ := left.drop (next k % left.length + 1))
    rw [List.eraseIdx_eq_take_drop_succ, List.singleton_append]
    refine this.symm.trans ?_
    rw [← List.drop_eq_getElem_cons hlt, List.take_append_drop]
theorem pick_perm {α : Type} (next : Nat → Nat) (xs : Array α) : (pickOrder next xs).toList.Perm xs.toList := by
  have := pick_go next xs.size 0 xs.toList #[] (by simp)
  simpa [pickOrder] using this
end L2
namespace L2
open PySem PySem.Spec PyProof.Rows
def ordOf (w : World) (a : Addr) (ep : Nat) (es : Array (Int × Value)) : Array (Int × Value) := if w.params.followText "set-order" then pickOrder (w.params.setOrder a ep) es else es
theorem ord_perm (w : World) (a : Addr) (ep : Nat) (es : Array (Int × Value)) : (ordOf w a ep es).toList.Perm es.toList := by
  unfold ordOf
  split
  · exact pick_perm _ _
  · exact .refl _
def slotAt (w : World) (ps : List Nat) (i : Nat) : Nat := if w.params.followText "set-order" then 0 else match i with
  | 0 => 0
  | j + 1 => ps.getD j 0 + 1
structure SmAt (w : World) (h : Heap) (a : Addr) (ps : List Nat) (es : Array (Int × Value)) (ep : Nat) : Prop where
  at_ : ∃ o, h.get? a = some o ∧ o.ExactSet ∧ o.data = .set es ep (tabOf ps (ledOf w))
  ent : EntP ps es.toList
  two : ps.length ≤ 2
  rise : ps.Pairwise (· < ·)
theorem SmAt.size {w : World} {h : Heap} {a : Addr} {ps : List Nat} {es : Array (Int × Value)} {ep : Nat} (S : SmAt w h a ps es ep) : es.size = ps.length := by
  rw [← Array.length_toList]
  exact S.ent.size
theorem below_small {ps : List Nat} (h2 : ps.length ≤ 2) (hr : ps.Pairwise (· < ·)) : ∀ i, i ≤ ps.length → SetTable.below ps.toArray (match i with | 0 => 0 | j + 1 => ps.getD j 0 + 1) = i := by
  match ps, h2, hr with
  | [], _, _ =>
    intro i hi
    have : i = 0 := by simpa using hi
    subst this
    rfl
  | [p], _, _ =>
    intro i hi
    have : i = 0 ∨ i = 1 := by simp at hi; lia
    rcases this with rfl | rfl
    · simp [SetTable.below, SetTable.below.go]
    · simp [SetTable.below, SetTable.below.go]
  | [p, q], _, hr =>
    intro i hi
    have hpq : p < q := by simpa using hr
    have : i = 0 ∨ i = 1 ∨ i = 2 := by simp at hi; lia
    rcases this with rfl | rfl | rfl
    · simp [SetTable.below, SetTable.below.go]
    · have : ¬ q < p + 1 := by lia
      simp [SetTable.below, SetTable.below.go, this]
    · simp [SetTable.below, SetTable.below.go]
section
variable {prog : Program} {w : World} {A : Around} {E : Value → Shared → Prop} {s : Shared}
theorem setNext_small {a : Addr} {ps : List Nat} {es : Array (Int × Value)} {ep i : Nat} {Q : Option (Value × Nat) → Shared → Prop} (S : SmAt w s.heap a ps es ep) (hi : i ≤ ps.length)
    (h : Q (((ordOf w a ep es)[i]?).map fun e => (e.2, slotAt w ps (i + 1))) s) : wpAny (model prog w) A (setNext a (slotAt w ps i) i ep) Q E s := by
  obtain ⟨o, ho, hex, hd⟩ := S.at_
  have hf : (tabOf ps (ledOf w)).fits es.size = true := by rw [S.size]; exact fitsN S.two
  unfold setNext
  refine wpAny_bind (wpAny_setState_of ho hd hf ?_)
  dsimp only
  refine wpAny_bind ?_
  unfold setsByText
  refine wpAny_bind (wpAny_askSetting (wpAny_pure ?_))
  dsimp only
  cases hb : w.params.followText "set-order" with
  | true =>
    have hb' : (model prog w).w.params.followText "set-order" = true := hb
    rw [if_pos hb']
    rw [if_neg (by simp)]
    unfold setWalk
    refine wpAny_bind (wpAny_bind (wpAny_setState_of ho hd hf ?_))
    dsimp only
    unfold setsByText
    refine wpAny_bind (wpAny_bind (wpAny_askSetting (wpAny_pure ?_)))
    dsimp only
    rw [if_pos hb']
    refine wpAny_bind (wpAny_askSetting (wpAny_pure (wpAny_pure ?_)))
    have e1 : ordOf w a ep es = pickOrder (w.params.setOrder a ep) es := by unfold ordOf; rw [if_pos hb]
    have e2 : ∀ j, slotAt w ps j = 0 := fun j => by unfold slotAt; rw [if_pos hb]
    rw [e1, e2] at h
    rw [e2]
    exact h
  | false =>
    have hb' : ¬ (model prog w).w.params.followText "set-order" = true := by
      show ¬ w.params.followText "set-order" = true
      rw [hb]
      exact Bool.false_ne_true
    rw [if_neg hb']
    have hled : ledOf w = true := by unfold ledOf; rw [hb]; rfl
    rw [hled]
    split
    · rename_i hz
      exact Bool.noConfusion (show false = true from hz)
    · refine wpAny_bind ?_
      show wpAny _ _ (pure PUnit.unit) _ _ _
      refine wpAny_pure (wpAny_pure ?_)
      have e1 : ordOf w a ep es = es := by unfold ordOf; rw [if_neg (by rw [hb]; exact Bool.false_ne_true)]
      have e2 : ∀ j, slotAt w ps j = (match j with | 0 => 0 | j + 1 => ps.getD j 0 + 1) := fun j => by unfold slotAt; rw [if_neg (by rw [hb]; exact Bool.false_ne_true)]
      rw [e1, e2] at h
      rw [e2]
      have hbl := below_small S.two S.rise i hi
      have hplace : (tabOf ps true).place = ps.toArray := rfl
      rw [hplace, hbl]
      have hsz := S.size
      by_cases hlt : i < ps.length
      · have g1 : es[i]? = some es[i] := Array.getElem?_eq_getElem (by lia)
        have g2 : ps.toArray[i]? = some ps[i] := by simp [hlt]
        rw [g1, g2]
        rw [g1] at h
        have g3 : ps.getD i 0 = ps[i] := by simp [List.getD, hlt]
        have h' : Q (some (es[i].2, ps.getD i 0 + 1)) s := h
        rw [g3] at h'
        exact h'
      · have g1 : es[i]? = none := Array.getElem?_eq_none (by lia)
        rw [g1]
        rw [g1] at h
        exact h
def SetIt (h : Heap) (it a : Addr) (slot i n ep : Nat) : Prop := ∃ o, h.get? it = some o ∧ o.cls = .type "set_iterator" ∧ o.data = .fields #[.int slot 0, .int i 0, .ref a, .int n 0, .int ep 0]
theorem SetIt.typeIs {it a : Addr} {slot i n ep : Nat} (h : SetIt s.heap it a slot i n ep) : s.TypeIs (.ref it) "set_iterator" := let ⟨o, ho, hc, _⟩ := h; ⟨o, ho, hc⟩
theorem next_item {it a : Addr} {ps : List Nat} {es : Array (Int × Value)} {ep i : Nat} {x : Int × Value} {Q : Option Value → Shared → Prop} (hit : SetIt s.heap it a (slotAt w ps i) i ps.length ep) (S : SmAt w s.heap a ps es ep) (hi : i < ps.length)
    (hx : (ordOf w a ep es)[i]? = some x) (hQ : ∀ h', SetIt h' it a (slotAt w ps (i + 1)) (i + 1) ps.length ep → Heap.SameBut it s.heap h' → Q (some x.2) { s with heap := h' }) : wpAny (model prog w) A (pyNext (.ref it)) Q E s := by
  obtain ⟨o, ho, hc, hd⟩ := id hit
  obtain ⟨oS, hoS, hexS, hdS⟩ := S.at_
  have hf : (tabOf ps (ledOf w)).fits es.size = true := by rw [S.size]; exact fitsN S.two
  unfold pyNext
  refine wpAny_bind (wpAny_attempt (wpAny_callSpecial?_slot (name := Str.ofString "__next__") hit.typeIs slot_setit_next
    (wpAny_call_entry slot_setit_next hit.typeIs entry_setit_next ?_ (args_setit_next _))))
  show wpAny _ _ (fieldsOf (.ref it) >>= _) _ _ s
  refine wpAny_bind (wpAny_fieldsOf ho hd ?_)
  dsimp only
  show wpAny _ _ (setEntries a >>= _) _ _ s
  refine wpAny_bind (wpAny_setEntries_of hoS hdS hf ?_)
  have hsz : ((es.size : Int) != (ps.length : Int)) = false := by rw [S.size]; simp
  rw [hsz]
  simp only [Bool.false_eq_true, if_false]
  show wpAny _ _ (setNext a (Int.toNat (slotAt w ps i : Int)) (Int.toNat (i : Int)) (Int.toNat (ep : Int)) >>= _) _ _ s
  rw [Int.toNat_natCast, Int.toNat_natCast, Int.toNat_natCast]
  refine wpAny_bind (setNext_small S (by lia) ?_)
  rw [hx]
  show wpAny _ _ (setField (.ref it) 0 (rawInt (slotAt w ps (i + 1))) >>= _) _ _ s
  refine wpAny_bind (wpAny_setField ho hd (by simp) ?_)
  have hg1 := Heap.get?_update_self (h := s.heap) (a := it) (o := o) (Obj.mapFields (·.setIfInBounds 0 (rawInt (slotAt w ps (i + 1))))) ho (Obj.isFreed_of_fields (Obj.data_mapFields hd _))
  refine wpAny_bind (wpAny_setField hg1 (Obj.data_mapFields hd _) (by simp) ?_)
  refine wpAny_pure ⟨x.2, rfl, wpAny_pure (hQ _ ?_ ((Heap.SameBut.update ..).trans (Heap.SameBut.update ..)))⟩
  exact ⟨_, Heap.get?_update_self _ hg1 (Obj.isFreed_of_fields (Obj.data_mapFields (Obj.data_mapFields hd _) _)), (Obj.cls_mapFields ..).trans ((Obj.cls_mapFields ..).trans hc), by
    rw [Obj.data_mapFields (Obj.data_mapFields hd _)]; simp [rawInt]⟩
theorem next_end {it a : Addr} {ps : List Nat} {es : Array (Int × Value)} {ep : Nat} {Q : Option Value → Shared → Prop} (hh : A.handled = none) (hit : SetIt s.heap it a (slotAt w ps ps.length) ps.length ps.length ep) (S : SmAt w s.heap a ps es ep)
    (hQ : ∀ h', Heap.ExtBut it s.heap h' → Q none { s with heap := h' }) : wpAny (model prog w) A (pyNext (.ref it)) Q E s := by
  obtain ⟨o, ho, hc, hd⟩ := id hit
  obtain ⟨oS, hoS, hexS, hdS⟩ := S.at_
  have hf : (tabOf ps (ledOf w)).fits es.size = true := by rw [S.size]; exact fitsN S.two
  unfold pyNext
  refine wpAny_bind (wpAny_attempt (wpAny_callSpecial?_slot (name := Str.ofString "__next__") hit.typeIs slot_setit_next
    (wpAny_call_entry slot_setit_next hit.typeIs entry_setit_next ?_ (args_setit_next _))))
  show wpAny _ _ (fieldsOf (.ref it) >>= _) _ _ s
  refine wpAny_bind (wpAny_fieldsOf ho hd ?_)
  dsimp only
  show wpAny _ _ (setEntries a >>= _) _ _ s
  refine wpAny_bind (wpAny_setEntries_of hoS hdS hf ?_)
  have hsz : ((es.size : Int) != (ps.length : Int)) = false := by rw [S.size]; simp
  rw [hsz]
  simp only [Bool.false_eq_true, if_false]
  show wpAny _ _ (setNext a (Int.toNat (slotAt w ps ps.length : Int)) (Int.toNat (ps.length : Int)) (Int.toNat (ep : Int)) >>= _) _ _ s
  rw [Int.toNat_natCast, Int.toNat_natCast, Int.toNat_natCast]
  refine wpAny_bind (setNext_small S (Nat.le_refl _) ?_)
  have ho' : (ordOf w a ep es)[ps.length]? = none := by
    refine Array.getElem?_eq_none ?_
    have := (ord_perm w a ep es).length_eq
    rw [Array.length_toList, Array.length_toList, S.size] at this
    lia
  rw [ho']
  show wpAny _ _ (setField (.ref it) 2 .none >>= _) _ _ s
  refine wpAny_bind (wpAny_setField ho hd (by simp) ?_)
  show wpAny _ _ (newExc (.type "StopIteration") [] >>= _) _ _ _
  refine wpAny_bind ?_
  simp only [newExc, newTuple]
  refine wpAny_bind (wpAny_newObj_type ?_ (by size_fits))
  refine wpAny_bind (m := firstArgMember _ _) (wpAny_of_eq (a := Value.none) (by first | rfl | (simp only [firstArgMember]; rfl)) ?_)
  refine wpAny_newObj_type ?_ (by size_fits)
  simp only [raiseNew]
  refine wpAny_bind (wpAny_handled ?_)
  first | rw [show A.in1.handled = none from hh] | rw [hh]
  refine wpAny_bind (wpAny_pure (wpAny_throw ?_))
  refine wpAny_bind (wpAny_isInstance (T := "StopIteration") (b := true) ⟨_, Heap.get?_push_size _ rfl, rfl⟩ isSubtype_stop ?_)
  exact wpAny_pure (hQ _ (((Heap.SameBut.update ..).extBut.push _).push _))
theorem SmAt.keep {h h' : Heap} {a : Addr} {ps : List Nat} {es : Array (Int × Value)} {ep : Nat} (S : SmAt w h a ps es ep) (k : ∀ o, h.get? a = some o → h'.get? a = some o) : SmAt w h' a ps es ep := by
  obtain ⟨⟨o, ho, r⟩, a1, a2, a3⟩ := S
  exact ⟨⟨o, k o ho, r⟩, a1, a2, a3⟩
end
theorem entry_setit_iter : entryFor table "set_iterator.__iter__" = some Builtin.«dict_keyiterator.__iter__» :=
  entryFor_alias (id' := "dict_keyiterator.__iter__") (by kernel_rfl) (by first | rfl | decide +kernel | (unfold String.splitOn; simp +decide [String.splitOnAux])) (by decide +kernel) (by kernel_rfl)
theorem args_setit_iter (a : Value) : argsOk "set_iterator.__iter__" ⟨[a], []⟩ := by unfold argsOk; kernel_rfl
theorem walks_small {prog : Program} {w : World} {A : Around} (hh : A.handled = none) (I a : Addr) (hne : a ≠ I) (ps : List Nat) (es : Array (Int × Value)) (ep : Nat) :
    Walks prog w A I [I, a] [I] ps.length (fun i v => ∃ x, (ordOf w a ep es)[i]? = some x ∧ v = x.2) (fun i h => SetIt h I a (slotAt w ps i) i ps.length ep ∧ SmAt w h a ps es ep) where
  sub := fun b hb => by simp at hb; simp [hb]
  frame := fun _ _ _ st hk => ⟨let ⟨o, ho, r⟩ := st.1; ⟨o, hk I (by simp) o ho, r⟩, st.2.keep fun o e => hk a (by simp) o e⟩
  item := fun i s Q E hi st hQ => by
    have hlt : i < (ordOf w a ep es).size := by
      have := (ord_perm w a ep es).length_eq
      rw [Array.length_toList, Array.length_toList, st.2.size] at this
      lia
    refine next_item st.1 st.2 hi (x := (ordOf w a ep es)[i]) (Array.getElem?_eq_getElem hlt) fun h' hit' hs' => ?_
    exact hQ _ h' s.toks ⟨_, Array.getElem?_eq_getElem hlt, rfl⟩ ⟨hit', st.2.keep fun o e => hs'.extBut a o hne e⟩ fun b o hb e => hs'.extBut b o (fun h => hb (by simp [h])) e
  done := fun s Q E st hQ => next_end hh st.1 st.2 fun h' he' => hQ h' s.toks fun b o hb e => he' b o (fun h => hb (by simp [h])) e
  self := fun _ _ _ _ st hQ => by
    refine wpAny_pyIter_slot st.1.typeIs slot_setit_iter (wpAny_call_entry slot_setit_iter st.1.typeIs entry_setit_iter ?_ (args_setit_iter _))
    show wpAny _ _ (ret (.ref I)) _ _ _
    exact wpAny_pure ⟨_, rfl, "set_iterator", _, st.1.typeIs, slot_setit_next.lookup, hQ⟩
section
variable {prog : Program} {w : World} {A : Around} {E : Value → Shared → Prop} {s : Shared}
theorem iter_small {a : Addr} {ps : List Nat} {es : Array (Int × Value)} {ep : Nat} {Q : Value → Shared → Prop} (S : SmAt w s.heap a ps es ep)
    (hQ : Q (.ref s.heap.objs.size) { s with heap := s.heap.push { cls := .type "set_iterator", data := .fields #[.int 0 0, .int 0 0, .ref a, .int ps.length 0, .int ep 0] } }) : wpAny (model prog w) A (pyIter (.ref a)) Q E s := by
  obtain ⟨o, ho, hex, hd⟩ := S.at_
  have hf : (tabOf ps (ledOf w)).fits es.size = true := by rw [S.size]; exact fitsN S.two
  have hT : s.TypeIs (.ref a) "set" := ⟨o, ho, hex.1⟩
  refine wpAny_pyIter_slot hT PySem.F.slot_set_iter (wpAny_call_entry PySem.F.slot_set_iter hT entry_set_iter' ?_ (PySem.F.args_set_iter_1 _))
  unfold Builtin.«frozenset.__iter__» Builtin.Frozenset.slot0 slotArgs
  simp only [List.isEmpty_nil, Bool.not_true, Bool.false_eq_true, ↓reduceIte, bind_assoc, List.length_nil, bne_self_eq_false]
  unfold Builtin.Frozenset.addrOf Builtin.Frozenset.sizeOf
  refine wpAny_bind (wpAny_pure ?_)
  try dsimp only
  refine wpAny_bind (wpAny_pure ?_)
  refine wpAny_bind (wpAny_bind (wpAny_setEntries_of ho hd hf (wpAny_pure ?_)))
  unfold setDrawn
  refine wpAny_bind (wpAny_bind (wpAny_setState_of ho hd hf ?_))
  dsimp only
  unfold setsByText
  refine wpAny_bind (wpAny_bind (wpAny_askSetting (wpAny_pure ?_)))
  refine wpAny_pure ?_
  split
  · rename_i hz
    rw [Bool.and_eq_true] at hz
    exact Bool.noConfusion (show false = true from hz.2)
  · refine wpAny_bind (wpAny_pure ?_)
    refine wpAny_bind (wpAny_setEpoch_of ho hd hf ?_)
    refine wpAny_bind (wpAny_newObj_type (wpAny_pure ⟨_, rfl, "set_iterator", _, ⟨_, Heap.get?_push_size _ rfl, rfl⟩, slot_setit_next.lookup, ?_⟩))
    rw [S.size]
    exact hQ
theorem set_len_slot : typeLookup (.type "set") "__len__" = pure (some (.builtin "set.__len__")) := by rw [typeLookup_type, builtinLookup_eq_fast]; kernel_rfl
theorem collect_small {a : Addr} {ps : List Nat} {es : Array (Int × Value)} {ep : Nat} {Q : List Value → Shared → Prop} (hh : A.handled = none) (S : SmAt w s.heap a ps es ep)
    (hQ : ∀ s' acc, (∀ b o, s.heap.get? b = some o → s'.heap.get? b = some o) → s.heap.objs.size ≤ s'.heap.objs.size → s'.gens = s.gens → s'.drawn = s.drawn → s'.os = s.os → ItemsOf (fun i v => ∃ x, (ordOf w a ep es)[i]? = some x ∧ v = x.2) acc ps.length → Q acc.toList s') :
    wpAny (model prog w) A (collect (.ref a)) Q E s := by
  have hn : ps.length ≤ sizeLine := Nat.le_trans S.two (by decide)
  unfold collect
  refine wpAny_bind (wpAny_runValue (codeAny_builtin PySem.F.entry_proto_collect ?_))
  rw [Around.under_plainId PySem.F.plain_proto_collect _]
  show wpAny _ A.in1 (newList [] >>= fun l => again (.builtin "list.__iadd__" ⟨[l, .ref a], []⟩)) _ _ s
  refine wpAny_bind (wpAny_newObj_type ?_)
  refine wpAny_pure ⟨plainId_quiet PySem.F.plain_list_iadd _, codeAny_builtin PySem.F.entry_list_iadd ?_⟩
  rw [Around.under_plainId PySem.F.plain_list_iadd _]
  show wpAny _ A.in1 (Builtin.List.listExtendWith (.ref s.heap.objs.size) (.ref a) (.ref s.heap.objs.size)) _ _ _
  unfold Builtin.List.listExtendWith
  obtain ⟨o, ho, hex, hd⟩ := id S.at_
  have ha : a < s.heap.objs.size := Heap.lt_size ho
  have S1 : SmAt w (s.heap.push { cls := .type "list", data := .seq ([] : List Value).toArray }) a ps es ep := S.keep fun o e => Heap.get?_push_of_some _ e
  have hT : Shared.TypeIs { s with heap := s.heap.push { cls := .type "list", data := .seq ([] : List Value).toArray } } (.ref a) "set" := ⟨o, Heap.get?_push_of_some _ ho, hex.1⟩
  refine wpAny_bind (wpAny_typeOf (T := "set") (v := .ref a) hT ?_)
  have h1 : Builtin.List.listSameRef (.ref s.heap.objs.size) (.ref a) = false := by
    show (s.heap.objs.size == a) = false
    have : ¬ s.heap.objs.size = a := Nat.ne_of_gt ha
    simpa using this
  have h2 : (Value.type "set" == Value.type "list") = false := by decide
  have h3 : (Value.type "set" == Value.type "tuple") = false := by decide
  simp only [h1, h2, h3, Bool.or_false, Bool.false_eq_true, if_false]
  refine wpAny_bind (iter_small S1 ?_)
  refine wpAny_bind (wpAny_holding ?_)
  unfold Builtin.List.listLengthHint
  refine wpAny_bind (wpAny_specialOf (T := "set") (v := .ref a) ⟨o, Heap.get?_push_of_some _ (Heap.get?_push_of_some _ ho), hex.1⟩ set_len_slot ?_)
  wp_delta
  refine wpAny_bind (wpAny_isInstance (T := "set") (v := .ref a) (b := true) ⟨o, Heap.get?_push_of_some _ (Heap.get?_push_of_some _ ho), hex.1⟩ (by rw [isSubtype_type]; kernel_rfl) ?_)
  show wpAny _ A.in1 (typeOf (Value.ref a) >>= _) _ _ _
  refine wpAny_bind (wpAny_typeOf (T := "set") (v := .ref a) ⟨o, Heap.get?_push_of_some _ (Heap.get?_push_of_some _ ho), hex.1⟩ ?_)
  refine wpAny_pure ?_
  split
  · refine wpAny_bind (wpAny_rule ?_)
    generalize hH : s.heap.push { cls := .type "list", data := .seq ([] : List Value).toArray } = H at S1 hT ⊢
    have hHs : H.objs.size = s.heap.objs.size + 1 := by rw [← hH, Heap.size_push]
    have hS : (H.push { cls := .type "set_iterator", data := .fields #[.int 0 0, .int 0 0, .ref a, .int ps.length 0, .int ep 0] }).get? s.heap.objs.size = some { cls := .type "list", data := .seq ([] : List Value).toArray } := Heap.get?_push_of_some _ (hH ▸ Heap.get?_push_size _ rfl)
    unfold Builtin.List.listTouch
    refine wpAny_bind (wpAny_bind (listUpdate_at hS rfl ?_ (by size_fits) (by size_fits)))
    have hS1 := get?_update_seq (n := 0) hS (·.push .none)
    refine listUpdate_at hS1 rfl ?_ (by simp; exact Nat.le_trans (by decide : 1 ≤ 2) (by decide)) (by simp)
    have hS2 := get?_update_seq hS1 (·.pop)
    have sb : Heap.SameBut s.heap.objs.size (H.push { cls := .type "set_iterator", data := .fields #[.int 0 0, .int 0 0, .ref a, .int ps.length 0, .int ep 0] }) (((H.push { cls := .type "set_iterator", data := .fields #[.int 0 0, .int 0 0, .ref a, .int ps.length 0, .int ep 0] }).update s.heap.objs.size (Obj.mapSeq (·.push .none))).update s.heap.objs.size (Obj.mapSeq (·.pop))) := (Heap.SameBut.update ..).trans (Heap.SameBut.update ..)
    generalize ((H.push { cls := .type "set_iterator", data := .fields #[.int 0 0, .int 0 0, .ref a, .int ps.length 0, .int ep 0] }).update s.heap.objs.size (Obj.mapSeq (·.push .none))).update s.heap.objs.size (Obj.mapSeq (·.pop)) = H2 at *
    have hIS : H.objs.size ≠ s.heap.objs.size := by rw [hHs]; exact Nat.ne_of_gt (Nat.lt_succ_self _)
    have haS : a ≠ s.heap.objs.size := Nat.ne_of_lt ha
    have haI : a ≠ H.objs.size := by rw [hHs]; exact Nat.ne_of_lt (Nat.lt_succ_of_lt ha)
    have hSf : s.heap.objs.size ∉ [H.objs.size, a] := fun hm => by
      rcases List.mem_cons.mp hm with z | z
      · exact hIS z.symm
      · exact haS (List.mem_singleton.mp z).symm
    have hst : SetIt H2 H.objs.size a (slotAt w ps 0) 0 ps.length ep ∧ SmAt w H2 a ps es ep := by
      refine ⟨⟨_, sb.extBut _ _ hIS (Heap.get?_push_size _ rfl), rfl, ?_⟩, S1.keep fun o e => sb.extBut _ _ haS (Heap.get?_push_of_some _ e)⟩
      have : slotAt w ps 0 = 0 := by unfold slotAt; split <;> rfl
      rw [this]
      rfl
    refine wpAny_pure ⟨plainId_quiet PySem.F.plain_extend_loop _, codeAny_extend_loopS (walks_small (prog := prog) (w := w) (A := A.in1) hh H.objs.size a haI ps es ep).toS hn _ hSf _ ps.length 0 _ _ _ rfl (Nat.zero_le _) hst hS2 (ItemsOf.nil _) fun s' acc' c' hm hS' hacc => ?_⟩
    show wpAny _ A (load s.heap.objs.size >>= _) _ _ s'
    refine wpAny_bind (wpAny_load hS' ?_)
    refine wpAny_pure (hQ s' acc' (fun b ob e => hm.heap b ob (fun hb => ?_) (sb.extBut _ _ (Nat.ne_of_lt (Heap.lt_size e)) (Heap.get?_push_of_some _ (hH ▸ Heap.get?_push_of_some _ e)))) (Nat.le_of_lt (Heap.lt_size hS')) hm.gens hm.drawn hm.os hacc)
    have hlt := Heap.lt_size e
    rcases List.mem_cons.mp hb with h | h
    · exact absurd hlt (h ▸ Nat.lt_irrefl _)
    · rw [List.mem_singleton.mp h, hHs] at hlt; exact absurd hlt (Nat.not_lt.mpr (Nat.le_succ _))
  · rename_i hz
    exact absurd (by decide +kernel) hz
theorem rise_eq : ∀ {a b : List Int}, a.Perm b → a.Pairwise (· ≤ ·) → b.Pairwise (· ≤ ·) → a = b
  | [], b, p, _, _ => (List.nil_perm.mp p).symm
  | x :: a, b, p, ha, hb => by
    cases b with
    | nil => exact absurd p.length_eq (by simp)
    | cons y b =>
      have hx : ∀ {z}, z ∈ a → x ≤ z := fun h => List.rel_of_pairwise_cons ha h
      have hy : ∀ {z}, z ∈ b → y ≤ z := fun h => List.rel_of_pairwise_cons hb h
      have e : x = y := by
        have m1 : x ∈ y :: b := p.subset List.mem_cons_self
        have m2 : y ∈ x :: a := p.symm.subset List.mem_cons_self
        rcases List.mem_cons.mp m1 with z | z
        · exact z
        · rcases List.mem_cons.mp m2 with z2 | z2
          · exact z2.symm
          · exact Int.le_antisymm (hx z2) (hy z)
      subst e
      rw [rise_eq (List.Perm.cons_inv p) (List.Pairwise.of_cons ha) (List.Pairwise.of_cons hb)]
theorem ents_ints {ps : List Nat} {es : List (Int × Value)} (h : EntP ps es) : IntsAre (es.map (·.2)) (ps.map fun (k : Nat) => (k : Int)) := by
  induction h with
  | nil => exact .nil
  | cons _ ih => exact .cons _ _ ih
theorem items_list {f : Nat → Option (Int × Value)} {l : List (Int × Value)} {acc : Array Value} (h : ItemsOf (fun i v => ∃ x, l[i]? = some x ∧ v = x.2) acc l.length) : acc.toList = l.map (·.2) := by
  refine List.ext_getElem (by rw [Array.length_toList, h.1, List.length_map]) fun i h1 h2 => ?_
  obtain ⟨x, e1, e2⟩ := h.2 i (acc.toList[i]) (by rw [← Array.getElem?_toList]; exact List.getElem?_eq_getElem h1)
  rw [e2, List.getElem_map]
  obtain ⟨_, e3⟩ := List.getElem?_eq_some_iff.mp e1
  rw [e3]
theorem perm_ints {us vs : List Value} {ns : List Int} (p : us.Perm vs) (h : IntsAre vs ns) : ∃ ms, IntsAre us ms ∧ ms.Perm ns := by
  induction p generalizing ns with
  | nil => exact ⟨ns, h, .refl _⟩
  | cons x _ ih =>
    cases h with
    | cons n t r =>
      obtain ⟨ms, a, b⟩ := ih r
      exact ⟨n :: ms, .cons n t a, b.cons n⟩
  | swap x y l =>
    cases h with
    | cons n t r =>
      cases r with
      | cons m u r => exact ⟨m :: n :: _, .cons m u (.cons n t r), .swap ..⟩
  | trans _ _ ih1 ih2 =>
    obtain ⟨ms, a, b⟩ := ih2 h
    obtain ⟨ks, c, d⟩ := ih1 a
    exact ⟨ks, c, d.trans b⟩
set_option maxHeartbeats 2000000 in
theorem sorted_small {a : Addr} {ps : List Nat} {es : Array (Int × Value)} {ep : Nat} {Q : Value → Shared → Prop} (hh : A.handled = none) (S : SmAt w s.heap a ps es ep)
    (h : ∀ (s' : Shared) (D : Addr) (out : Array Value) (c : Nat), (∀ b o, s.heap.get? b = some o → s'.heap.get? b = some o) → s'.gens = s.gens → s'.drawn = s.drawn → s'.os = s.os → s.heap.objs.size ≤ D → s'.heap.get? D = some (seqObj "list" out c) →
      IntsAre out.toList (ps.map fun (k : Nat) => (k : Int)) → Q (.ref D) s') : wpAny (model prog w) A (call (.builtin "sorted") [.ref a]) Q E s := by
  refine Calls.call_function_entry kind_sorted plain_sorted entry_sorted (args_sorted1 _) ?_
  unfold Builtin.«sorted»
  refine wpAny_bind (m := checkCount "sorted" 1 1 _) (wpAny_pure ?_)
  refine wpAny_bind (collect_small hh S fun s1 acc keep hsz hg hdr hos hacc => ?_)
  have hord := (ord_perm w a ep es).length_eq
  rw [Array.length_toList, Array.length_toList, S.size] at hord
  have eacc : acc.toList = (ordOf w a ep es).toList.map (·.2) := by
    refine items_list (f := fun _ => none) ?_
    have : (fun (i : Nat) (v : Value) => ∃ x : Int × Value, (ordOf w a ep es)[i]? = some x ∧ v = x.2) = fun (i : Nat) (v : Value) => ∃ x : Int × Value, (ordOf w a ep es).toList[i]? = some x ∧ v = x.2 := by
      funext i v
      rw [Array.getElem?_toList]
    rw [this] at hacc
    rw [Array.length_toList, hord]
    exact hacc
  obtain ⟨ms, hI, hp⟩ := perm_ints ((ord_perm w a ep es).map (·.2)) (ents_ints S.ent)
  rw [← eacc] at hI
  have hz : acc.toList.length ≤ 2 := by rw [hI.length, hp.length_eq, List.length_map]; exact S.two
  refine wpAny_bind (wpAny_newList ?_ (Nat.le_trans hz (by decide)))
  have hoL : (s1.heap.push (seqObj "list" acc.toList.toArray 0)).get? s1.heap.objs.size = some (seqObj "list" acc.toList.toArray 0) := Heap.get?_push_size _ rfl
  show wpAny _ _ _ _ _ { s1 with heap := s1.heap.push (seqObj "list" acc.toList.toArray 0) }
  refine wpAny_bind (wpAny_holding (wpAny_call_entry slot_list_sort ⟨_, hoL, rfl⟩ entry_list_sort (list_sort_tree hoL hI (by lia) fun out ns' a1 a2 a3 => ⟨_, rfl, ?_⟩) (args_list_sort _)))
  have ens : ns' = ps.map fun (k : Nat) => (k : Int) := rise_eq (a2.trans hp) a3 (by
    rw [List.pairwise_map]
    exact S.rise.imp fun h => by lia)
  have hlt : s1.heap.objs.size < (s1.heap.push (seqObj "list" acc.toList.toArray 0)).objs.size := Heap.lt_size hoL
  obtain ⟨c, hc⟩ := sortedHeap_at (out := out) hoL
  refine wpAny_pure ⟨_, rfl, h _ _ out c (fun b o e => ?_) hg hdr hos hsz hc (by rw [← ens]; exact a1)⟩
  have hb := Heap.lt_size (keep b o e)
  show (sortedHeap _ _ _ _).get? b = some o
  rw [sortedHeap_old (Nat.ne_of_lt hb) (Nat.lt_trans hb hlt)]
  exact Heap.get?_push_of_some _ (keep b o e)
end
end L2
namespace L2
open PySem PySem.Spec PyProof.Rows
def natV (ns : List Nat) : List V := ns.map fun (k : Nat) => V.int (k : Int)
def SetO (w : World) (a : Addr) (ps : List Nat) : HO := .ext fun h => SetSm h a ps (ledOf w)
theorem natV_ints {ns : List Nat} : natV ns = (ns.map fun (k : Nat) => (k : Int)).map V.int := by unfold natV; rw [List.map_map]; rfl
theorem foldN_facts {ns : List Nat} (h2 : ns.length ≤ 2) : (foldN ns).length ≤ 2 ∧ (foldN ns).Pairwise (· < ·) ∧ ∀ k, k ∈ foldN ns ↔ k ∈ ns := by
  match ns, h2 with
  | [], _ => exact ⟨by simp [foldN], by simp [foldN], fun k => by simp [foldN]⟩
  | [a], _ => exact ⟨by simp [foldN, insN], by simp [foldN, insN], fun k => by simp [foldN, insN]⟩
  | [a, b], _ =>
    have e : foldN [a, b] = if b = a then [a] else if b < a then [b, a] else [a, b] := rfl
    rw [e]
    split
    · rename_i h
      subst h
      exact ⟨by simp, by simp, fun k => by simp⟩
    · rename_i h
      split
      · rename_i h2
        exact ⟨by simp, by simpa using h2, fun k => by simp [or_comm]⟩
      · rename_i h2
        exact ⟨by simp, by simp; lia, fun k => by simp⟩
section
variable {X : Cx}
theorem call_set2 (hc : X.calm = true) : CallR X (.type "set") (fun xs H Q => ∃ (l : Addr) (ns : List Nat), xs = [.ref l] ∧ SqL X.K H l (natV ns) ∧ ns.length ≤ 2 ∧ (∀ k ∈ ns, k < 8) ∧ ∀ a, H a = none → Q (.ref a) (upd H a (SetO X.w a (foldN ns)))) := by
  intro pins s σ H xs us Q I r h
  obtain ⟨l, ns, rfl, hS, h2, h8, q⟩ := h
  obtain ⟨u, rfl, rx⟩ := vals1 r
  cases rx
  obtain ⟨its, rv, pl, hz⟩ := I.list hS
  rw [natV_ints] at rv
  refine call_set_small (ns := ns) (I.ok.hd hc) pl.isList (by simpa using ints_of_vals rv) h2 h8 fun h' tk S keep => ?_
  have hk : ∀ b o, s.heap.get? b = some o → h'.get? b = some o := fun b o e => keep b o (Heap.lt_size e) e
  refine ⟨.ref s.heap.objs.size, _, I.laid (t' := tk) (a := s.heap.objs.size) (o := SetO X.w s.heap.objs.size (foldN ns)) hk (Nat.le_refl _) ?_, rfl, q _ (I.hok.fresh (Nat.le_refl _))⟩
  obtain ⟨o, es, ep, ho, hr⟩ := id S
  exact ⟨S, ⟨o, ho⟩, fun h1 h2 S1 k => S1.keep k⟩
theorem call_sortset (hc : X.calm = true) : CallR X (.builtin "sorted") (fun xs H Q => ∃ (a : Addr) (ps : List Nat), xs = [.ref a] ∧ H a = some (SetO X.w a ps) ∧ ps.length ≤ 2 ∧ ps.Pairwise (· < ·) ∧ ∀ p, H p = none → Q (.ref p) (upd H p (.lst (natV ps)))) := by
  intro pins s σ H xs us Q I r h
  obtain ⟨a, ps, rfl, hS, h2, hr, q⟩ := h
  obtain ⟨u, rfl, rx⟩ := vals1 r
  cases rx
  obtain ⟨S, _, _⟩ := (show ObjOk X.prog X.w H s.heap a (SetO X.w a ps) from I.hok a _ hS)
  obtain ⟨o, es, ep, ho, hex, hd, hE⟩ := S
  refine sorted_small (I.ok.hd hc) (⟨⟨o, ho, hex, hd⟩, hE, h2, hr⟩ : SmAt X.w s.heap a ps es ep) fun s' D out c keep hg hdr hos hD hout hI => ?_
  obtain ⟨h', g', d', tk', os'⟩ := s'
  have eg : g' = s.gens := hg
  have ed : d' = s.drawn := hdr
  have eo : os' = s.os := hos
  subst eg ed eo
  refine ⟨.ref D, _, I.laid (t' := tk') (a := D) (o := .lst (natV ps)) keep hD ?_, rfl, q _ (I.hok.fresh hD)⟩
  have v := vals_of_ints hI
  rw [← natV_ints] at v
  refine ⟨?_, out.toList, c, v, ?_⟩
  · unfold natV
    rw [List.length_map]
    exact Nat.le_trans h2 (by decide)
  · have := hout
    simpa [seqObj] using this
theorem emp_app (a : Str) : Str.empty ++ a = a := by
  show (⟨(#[] : Array Nat) ++ a.cps⟩ : Str) = a
  simp
theorem pe_fstr1 {a : Str} {e : Expr} {te : TE} {j : Nat} {p1 p2 p3 : Pos} (he : PE X e te) (ha : a.length ≤ sizeLine := by decide +kernel) : PE X (.JoinedStr [.Constant (.str a) j p1, .FormattedValue e (-1) none p2] p3)
    (fun σ H Q => te σ H fun x H1 => ∃ i : Int, x = .int i ∧ i.natAbs.log2 < 1920 ∧ (a ++ (toString i : Str)).length ≤ sizeLine ∧ Q (.str (a ++ (toString i : Str))) H1) := by
  refine ⟨?_⟩
  intro pins s σ H Q I h
  refine JoinedStr_many (joinParts_cons (Calls.Constant_str ?_))
  dsimp only
  rw [emp_app]
  refine ⟨ha, joinParts_cons (FormattedValue_plain (thn (he pins _ σ H _ (I.tok _) h) fun u s1 ⟨x, H1, I1, r1, i, ex, hi, hz, q⟩ => ?_))⟩
  subst ex
  obtain ⟨t, rfl⟩ := r1
  refine formatField_int_small hi ?_
  exact ⟨hz, joinParts_nil ⟨.str _, H1, I1.tok _, ⟨_, rfl⟩, q⟩ hz⟩
theorem call_any (hc : X.calm = true) : CallR X (.builtin "any") (fun xs H Q => ∃ (p : Addr) (bs : List Bool), xs = [.ref p] ∧ SqL X.K H p (bs.map V.bl) ∧ Q (.bl (bs.any id)) H) := by
  intro pins s σ H xs us Q I r h
  obtain ⟨p, bs, rfl, hS, q⟩ := h
  obtain ⟨u, rfl, rx⟩ := vals1 r
  cases rx
  obtain ⟨its, rv, pl, hz⟩ := I.list hS
  have hlen := rv.length
  rw [List.length_map] at hlen
  have hne : p ≠ s.heap.objs.size := by
    obtain ⟨o, ho, _⟩ := pl.isList
    exact Nat.ne_of_lt (Heap.lt_size ho)
  refine call_any_walk (wpAny_pyIter_list pl.isList ?_)
  refine ⟨s.heap.objs.size, _, _, _, _, _, fun i => bs.getD i false, rfl, Walks.list (A := X.A.in1) (I.ok.hd hc) s.heap.objs.size p hne its.toArray, ⟨⟨_, Heap.get?_push_size _ rfl, rfl, rfl⟩, pl.isList.at fun o e => Heap.get?_push_of_some _ e⟩, ?_, ?_⟩
  · intro i v s' Q' E' hv hq
    have hv' : its[i]? = some v := by simpa using hv
    have hlt : i < its.length := (List.getElem?_eq_some_iff.mp hv').1
    have hb : i < bs.length := by lia
    obtain ⟨u, hu, ru⟩ := rv.get (i := i) (x := .bl bs[i]) (by simp [hb])
    rw [hv'] at hu
    cases hu
    cases ru
    refine wpAny_truthy_bool ?_
    have e : bs.getD i false = bs[i] := by simp [List.getD, hb]
    dsimp only at hq
    rw [e] at hq
    exact hq
  · intro h' tk hk
    have e : (List.range its.toArray.size).any (fun i => bs.getD i false) = bs.any id := by
      rw [List.size_toArray, ← hlen, Bool.eq_iff_iff, List.any_eq_true, List.any_eq_true]
      constructor
      · rintro ⟨i, hi, z⟩
        have hi' := List.mem_range.mp hi
        rw [show bs.getD i false = bs[i] by simp [List.getD, hi']] at z
        exact ⟨_, List.getElem_mem hi', z⟩
      · rintro ⟨x, hx, z⟩
        obtain ⟨i, hi, e⟩ := List.getElem_of_mem hx
        refine ⟨i, List.mem_range.mpr hi, ?_⟩
        rw [show bs.getD i false = bs[i] by simp [List.getD, hi], e]
        exact z
    rw [e]
    exact ⟨.bl _, H, I.kept fun b o e => hk b o (fun z => absurd (Heap.lt_size e) (by rw [List.mem_singleton.mp z]; exact Nat.lt_irrefl _)) (Heap.get?_push_of_some _ e), rfl, q⟩
inductive tMethDI (X : Cx) (m : Str) (t : TA) (σ : St) (Q : VK) (x : V) (H1 : Hp) : Prop
  | mk (a dx C f : Addr) (fs : List (Str × V)) (fd : FuncData) (k : Nat) (ps : List Str) (sp : Sp) : x = .ref a → H1 a = some (.ins C dx fs) → fs.lookup m = none → Cls X.K C → Meth X.K C m f → FnOk X.prog X.w X.K X.mg X.base CX0 k f fd ps sp → Room k X.A → Binds X.K fd ps [] → (t σ H1 fun vs H2 => sp (.ref a :: vs) H2 Q E0) → tMethDI X m t σ Q x H1
def tMethD (X : Cx) (m : Str) (ta : TE) (t : TA) : TE := fun σ H Q => ta σ H fun x H1 => tMethDI X m t σ Q x H1
theorem pe_methD {pl : Sem Bool} {o e : Expr} {es : List Expr} {m : Str} {ta : TE} {t : TA} {pos apos : Pos} (he : PE X o ta) (ha : PA X (e :: es) t)
    (hst : starEach (e :: es) X.env = (false, eval e X.env) :: starEach es X.env := by rfl) (hpl : (backTo pos (starEach es X.env)).any (·.1) = false := by rfl)
    (ht : eval (.Call (.Attribute o m apos) (e :: es) [] pos) X.env = (do
      let ov ← eval o X.env
      standAt apos.atName
      let (f, first) ← holding [ov] (getMethod ov m pl)
      callWith pos f first (backTo pos (starEach (e :: es) X.env)) (backToKw pos (keywordEach [] X.env))) := by rfl) :
    PE X (.Call (.Attribute o m apos) (e :: es) [] pos) (tMethD X m ta t) := by
  refine ⟨?_⟩
  intro pins s σ H Q I h
  refine PySem.W.methodCall_KW (pl := pl) (thn (he pins s σ H _ I h) fun u s1 ⟨x, H1, I1, rx, a, dx, C, f, fs, fd, k, ps, sp, ex, ea, l, c, hm, F, hr, hb, q⟩ => ?_) ht
  subst ex
  obtain rfl : u = Value.ref a := rx
  refine getmeth_ok I1 ea c hm l ?_
  refine PySem.W.callWith_K (first := [.ref a]) (h₀ := X.base) I.ok.mod.kin hm.kp (thn (ha pos pins s1 σ H1 _ I1 q) fun us s2 ⟨vs, H2, I2, r, q2⟩ => ⟨I2.kIn, ?_⟩) hst hpl
  exact run_fn (us := .ref a :: us) (vs := .ref a :: vs) (dvs := []) (ds := []) F hr hb .nil pass0 I2 (.cons rfl r) (by rw [List.append_nil]; exact q2)
inductive tMethD0I (X : Cx) (m : Str) (Q : VK) (x : V) (H1 : Hp) : Prop
  | mk (a dx C f : Addr) (fs : List (Str × V)) (fd : FuncData) (k : Nat) (ps : List Str) (sp : Sp) : x = .ref a → H1 a = some (.ins C dx fs) → fs.lookup m = none → Cls X.K C → Meth X.K C m f → FnOk X.prog X.w X.K X.mg X.base CX0 k f fd ps sp → Room k X.A → Binds X.K fd ps [] → sp [.ref a] H1 Q E0 → tMethD0I X m Q x H1
def tMethD0 (X : Cx) (m : Str) (ta : TE) : TE := fun σ H Q => ta σ H fun x H1 => tMethD0I X m Q x H1
theorem pe_methD0 {pl : Sem Bool} {o : Expr} {m : Str} {ta : TE} {pos apos : Pos} (he : PE X o ta)
    (ht : eval (.Call (.Attribute o m apos) [] [] pos) X.env = (do
      let ov ← eval o X.env
      standAt apos.atName
      let (f, first) ← holding [ov] (getMethod ov m pl)
      callWith pos f first (backTo pos (starEach [] X.env)) (backToKw pos (keywordEach [] X.env))) := by rfl) :
    PE X (.Call (.Attribute o m apos) [] [] pos) (tMethD0 X m ta) := by
  refine ⟨?_⟩
  intro pins s σ H Q I h
  refine PySem.W.methodCall_KW (pl := pl) (thn (he pins s σ H _ I h) fun u s1 ⟨x, H1, I1, rx, a, dx, C, f, fs, fd, k, ps, sp, ex, ea, l, c, hm, F, hr, hb, q⟩ => ?_) ht
  subst ex
  obtain rfl : u = Value.ref a := rx
  refine getmeth_ok I1 ea c hm l ?_
  exact PySem.W.callWith_K0 (first := [.ref a]) I1.kIn hm.kp (run_fn (us := [.ref a]) (vs := [.ref a]) (dvs := []) (ds := []) F hr hb .nil pass0 I1 (.cons rfl .nil) q)
end
end L2
namespace L2
open PySem PySem.Spec PyProof.Rows
def Ite (K : PySem.W.Frag) (l : Addr) : It :=
  ⟨fun i H => ∃ xs x, SqL K H l xs ∧ xs[i]? = some x,
   fun i H v H' => ∃ T x, v = .ref T ∧ H T = none ∧ H' = upd H T (.tup [.int i, x]) ∧ ∀ xs, SqL K H l xs → xs[i]? = some x,
   fun i H => ∃ xs, SqL K H l xs ∧ xs.length ≤ i⟩
theorem turn_enum {P : Program} {w : World} {K : PySem.W.Frag} {elts : List Expr} {kt : Nat} {tp : Pos} {e it l : Addr} (hne : e ≠ it) :
    Turn P w K (.Tuple elts kt tp) (Ite K l) [e, it] e (fun i h => (∃ old, IsEnum h e it i old) ∧ h.IsListIter it l i) where
  mem := by simp
  obj := fun i h st b hb => by
    obtain ⟨⟨old, he⟩, ⟨o1, h1, _, d1⟩⟩ := st
    simp at hb
    rcases hb with rfl | rfl
    · exact ⟨_, he, fun v q => by cases q⟩
    · exact ⟨_, h1, fun v q => by rw [d1] at q; cases q⟩
  keep := fun i h h' st k => by
    obtain ⟨⟨old, he⟩, h1⟩ := st
    exact ⟨⟨old, k e (by simp) _ he⟩, h1.at fun o q => k it (by simp) o q⟩
  item := by
    intro X hP hw hK hc i pins s σ H E I hf st hg
    subst hP hw hK
    obtain ⟨xs, x, hx, ex⟩ := hg
    obtain ⟨⟨old, he⟩, h1⟩ := st
    obtain ⟨its1, rv1, p1, z1⟩ := I.list hx
    obtain ⟨u1, eu1, ru1⟩ := rv1.get ex
    refine wpAny_pyNext_enum_item he h1 p1.isList (x := u1) (by simpa using eu1) hne fun h' a1 a2 a3 a4 a5 => ⟨_, rfl, ?_⟩
    refine wpAny_letOwnedTupleGo_enum a1 fun h'' b1 b2 => ?_
    have hT : H s.heap.objs.size = none := I.hok.fresh (Nat.le_refl _)
    have low : ∀ b o, s.heap.get? b = some o → b ≠ s.heap.objs.size := fun b o q => Nat.ne_of_lt (Heap.lt_size q)
    refine ⟨.ref s.heap.objs.size, upd H s.heap.objs.size (.tup [.int i, x]), ?_, rfl, ⟨s.heap.objs.size, x, rfl, hT, rfl, fun xs' h => by rw [I.list_inj h hx]; exact ex⟩, ?_, fun b hb => ?_⟩
    · show Inv X pins σ (upd H s.heap.objs.size (.tup [.int i, x])) { s with heap := h'', toks := s.toks + 1 }
      refine Inv.turnedS (s := s) (h' := h'') (t' := s.toks + 1) (ch := [e, it]) I (fun b hb => hf b hb) (fun b o hc q => ?_) (fun b o q => by rw [upd_ne (ne_of_none q hT)]; exact q) (fun b hb n => by rw [upd_ne (Nat.ne_of_lt hb)]; exact n) fun b o n q => ?_
      · simp at hc
        exact b2.extBut b o hc.1 (a5 b o hc.1 hc.2 q)
      · by_cases eb : b = s.heap.objs.size
        · subst eb
          rw [upd_same] at q
          cases q
          refine ⟨by show 2 ≤ sizeLine; decide, [.int i s.toks, u1], .cons ⟨_, rfl⟩ (.cons ru1 .nil), _, b2.extBut _ _ ?_ a3, rfl, _, rfl⟩
          exact fun z => low e _ he z.symm
        · rw [upd_ne eb, n] at q
          cases q
    · refine ⟨⟨_, b1⟩, a2.at fun o q => b2.extBut _ o hne.symm q⟩
    · have n := (hf b hb).1
      have : b ≠ s.heap.objs.size := by
        simp at hb
        obtain ⟨_, q1, _⟩ := id h1
        rcases hb with rfl | rfl
        · exact low _ _ he
        · exact low _ _ q1
      rw [upd_ne this]
      exact n
  done := by
    intro X hP hw hK hc i pins s σ H E I hf st hg
    subst hP hw hK
    obtain ⟨xs, hx, hl⟩ := hg
    obtain ⟨⟨old, he⟩, h1⟩ := st
    obtain ⟨its1, rv1, p1, z1⟩ := I.list hx
    have e1 := rv1.length
    refine wpAny_pyNext_enum_end (I.ok.hd hc) he h1 p1.isList (by simp; lia) fun h' k => ⟨rfl, ?_⟩
    obtain ⟨f0, f1, f2, f3, f4, f5⟩ := hf it (by simp)
    exact I.turned (t' := s.toks) (fun b o hb q => k b o hb q) f0 f1 f3 f4 f5
  self := fun _ _ _ _ _ st h => wpAny_pyIter_enum st.1.choose_spec h
section
variable {X : Cx}
inductive iEnumI (K : PySem.W.Frag) (R : It → Hp → Prop) (vs : List V) (H1 : Hp) : Prop
  | mk (l : _) : vs = [.ref l] → (∃ xs, SqL K H1 l xs) → R (Ite K l) H1 → iEnumI K R vs H1
def iEnum (K : PySem.W.Frag) (ta : TA) : TI := fun σ H R => ta σ H fun vs H1 => iEnumI K R vs H1
theorem boot_enum : bootBuiltins "enumerate" = some (.type "enumerate") := by decide +kernel
theorem pi_enum {elts : List Expr} {kt : Nat} {tp : Pos} {a : Expr} {ta : TA} {p pos : Pos} (hg : Gl X "enumerate") (hm : X.mg "enumerate" = none) (ha : PA X [a] ta) (hs : starEach [a] X.env = [(false, eval a X.env)] := by rfl) :
    PI X (.Tuple elts kt tp) (.Call (.Name "enumerate" p) [a] [] pos) (iEnum X.K ta) := by
  refine ⟨?_⟩
  intro pins s σ H R I h
  refine Call_ (ld_blt I hg hm boot_enum (PyProof.Rows.callWith_type1 (thn (ha pos pins s σ H _ I h) fun us s1 ⟨vs, H1, I1, r1, q1⟩ => ?_) hs rfl))
  obtain ⟨l, e, ⟨xs, hx⟩, q⟩ := q1
  subst e
  cases r1 with
  | cons r rr =>
    cases rr
    cases r
    obtain ⟨its1, rv1, p1, z1⟩ := I1.list hx
    refine call_enumerate_list p1.isList fun h' a1 a2 a3 a4 => ?_
    refine wpAny_pyIter_enum a1 ?_
    refine ⟨_, [s1.heap.objs.size + 1, s1.heap.objs.size], _, _, H1, rfl, I1.kept (t' := s1.toks) a4, turn_enum (Nat.ne_of_gt (Nat.lt_succ_self _)), ⟨⟨_, a1⟩, a2⟩, fun b hb => ?_, q⟩
    have hb' : s1.heap.objs.size ≤ b := by
      simp only [List.mem_cons, List.not_mem_nil, or_false] at hb
      rcases hb with e | e <;> rw [e]
      · exact Nat.le_add_right _ _
      · exact Nat.le_refl _
    exact I1.fpOk hb' (I1.hok.fresh hb')
end
theorem for_enum {K : PySem.W.Frag} {l : Addr} {xs : List V} {g : TG} {tb : TS} {D : Ends} {σ : St} {H : Hp} (Pv : Nat → St → Hp → Prop) (h0 : Pv 0 σ H) (hl : ∀ i σ H, i ≤ xs.length → Pv i σ H → SqL K H l xs)
    (hs : ∀ i x σ H T, xs[i]? = some x → H T = none → Pv i σ H → g (.ref T) σ (upd H T (.tup [.int i, x])) fun σ2 H2 => tb { D with nx := Pv (i + 1), ct := Pv (i + 1), bk := D.nx } σ2 H2) (hd : ∀ σ H, Pv xs.length σ H → D.nx σ H) :
    ∃ W : Nat → Nat → St → Hp → Prop, (∃ m, W 0 m σ H) ∧ ∀ i m σ H, W i m σ H →
      ((Ite K l).stop i H ∧ D.nx σ H) ∨ ((Ite K l).go i H ∧ ∃ N : St → Hp → Prop, (∀ σ' H', N σ' H' → ∃ m', m' < m ∧ W (i + 1) m' σ' H') ∧ ∀ x H', (Ite K l).yld i H x H' → g x σ H' fun σ2 H2 => tb { D with nx := N, ct := N, bk := D.nx } σ2 H2) := by
  refine ⟨fun i m σ H => m = xs.length - i ∧ i ≤ xs.length ∧ Pv i σ H, ⟨xs.length, by simp, Nat.zero_le _, h0⟩, ?_⟩
  rintro i m σ H ⟨rfl, hi, p⟩
  have q := hl i σ H hi p
  by_cases hlt : i < xs.length
  · refine .inr ⟨⟨xs, xs[i], q, by simp [hlt]⟩, Pv (i + 1), fun σ' H' p' => ⟨xs.length - (i + 1), by lia, rfl, hlt, p'⟩, fun v H' y => ?_⟩
    obtain ⟨T, x, e1, hT, e2, hy⟩ := y
    subst e1 e2
    exact hs i x σ H T (hy xs q) hT p
  · have e : i = xs.length := by lia
    subst e
    exact .inl ⟨⟨xs, q, Nat.le_refl _⟩, hd σ H p⟩
end L2
namespace L2
open PySem PySem.Spec PyProof.Rows
theorem boot_max' : bootBuiltins "max" = some (.builtin "max") := by decide +kernel
section
variable {prog : Program} {w : World} {A : Around} {R : Result → Shared → Prop} {it ax S : Addr} {vs : List Value} {ns : List Int} {kw : List (Str × Value)}
def lst2 (v : Value) (c : Nat) : Obj := { cls := .type "list", dict := none, data := .seq #[v, v] c, slots := #[] }
def Grt (ns : List Int) (m : Int) : Prop := m ∈ ns ∧ ∀ x ∈ ns, x ≤ m
theorem loop_name : (toString "max" ++ toString ".loop" : String) = "max.loop" := by decide
theorem at_int {vs : List Value} {ns : List Int} (hi : IntsAre vs ns) (i : Nat) (v : Value) (h : vs.toArray[i]? = some v) : ∃ t, v = .int (ns.getD i 0) t := by
  have h' : vs[i]? = some v := by simpa using h
  have hl := hi.length
  have hlt : i < vs.length := (List.getElem?_eq_some_iff.mp h').1
  obtain ⟨t, ht⟩ := hi.get i ns[i] (by simp [show i < ns.length by lia])
  rw [h'] at ht
  cases ht
  exact ⟨t, by simp [List.getD, show i < ns.length by lia]⟩
theorem grt_snoc {l : List Int} {b x : Int} (h : Grt l b) : Grt (l ++ [x]) (if x > b then x else b) := by
  obtain ⟨h1, h2⟩ := h
  by_cases c : x > b
  · rw [if_pos c]
    refine ⟨by simp, fun y hy => ?_⟩
    rcases List.mem_append.mp hy with z | z
    · have := h2 y z; lia
    · have : y = x := by simpa using z
      lia
  · rw [if_neg c]
    refine ⟨List.mem_append_left _ h1, fun y hy => ?_⟩
    rcases List.mem_append.mp hy with z | z
    · exact h2 y z
    · have : y = x := by simpa using z
      lia
set_option maxHeartbeats 1000000 in
theorem mx_loop (hh : A.handled = none) (hne : ax ≠ it) (hS : S ∉ [it, ax]) (hi : IntsAre vs ns) : ∀ (k j : Nat) (s : Shared) (b : Int) (t : Tok) (c : Nat), vs.length - j = k → j ≤ vs.length → Grt (ns.take j) b →
    (s.heap.IsListIter it ax j ∧ s.heap.IsList ax vs.toArray) → s.heap.get? S = some (lst2 (.int b t) c) →
    (∀ m t' h' tk, Grt ns m → (∀ b o, b ≠ it → b ≠ S → s.heap.get? b = some o → h'.get? b = some o) → R (.ok (.ret (.int m t'))) { s with heap := h', toks := tk }) → codeAny (model prog w) A (.builtin "max.loop" ⟨[.ref it, .none, .ref S], kw⟩) R s := by
  have W := Walks.list (prog := prog) (w := w) (A := A.in1) hh it ax hne vs.toArray
  have hlen := hi.length
  have cmp := CmpOf.ints_gt (prog := prog) (w := w) (A := A.in1) (P := fun i v => vs.toArray[i]? = some v) (fun i => ns.getD i 0) (fun i v h => at_int hi i v h)
  have nw : S ∉ [it] := fun z => hS (by simp at z; simp [z])
  intro k
  induction k with
  | zero =>
    intro j s b t c hk hj hb st oS hR
    have ej : j = vs.toArray.size := by rw [List.size_toArray]; lia
    refine codeAny_builtin F.entry_max_loop ?_; rw [Around.under_plainId F.plain_max_loop _]
    show wpAny _ A.in1 (seqItems? (.ref S) >>= _) _ _ s; refine wpAny_bind (wpAny_seqItems oS rfl ?_)
    show wpAny _ A.in1 (tryCatch (pyNext (.ref it)) _ >>= _) _ _ s; refine wpAny_bind (wpAny_tryCatch (W.done s _ _ (ej ▸ st) fun h' tk keep => ?_))
    have oS' := keep S _ nw oS
    show wpAny _ A.in1 (updateSeq S (fun _ => #[]) >>= _) _ _ _; refine wpAny_bind (wpAny_updateSeq oS' rfl (wpAny_bind (wpAny_letGo (wpAny_pure ?_))))
    rw [List.take_of_length_le (by lia)] at hb
    exact hR b t _ tk hb fun a o ha hs e => (Heap.get?_update_other _ _ (Ne.symm hs)).trans (keep a o (by simpa using ha) e)
  | succ k ih =>
    intro j s b t c hk hj hb st oS hR
    have hlt : j < vs.toArray.size := by rw [List.size_toArray]; lia
    refine codeAny_builtin F.entry_max_loop ?_; rw [Around.under_plainId F.plain_max_loop _]
    show wpAny _ A.in1 (seqItems? (.ref S) >>= _) _ _ s; refine wpAny_bind (wpAny_seqItems oS rfl ?_)
    show wpAny _ A.in1 (tryCatch (pyNext (.ref it)) _ >>= _) _ _ s; refine wpAny_bind (wpAny_tryCatch (W.item j s _ _ hlt st fun v h' tk hP st' keep => ?_))
    have oS' := keep S _ nw oS
    obtain ⟨tv, rfl⟩ := at_int hi j v hP
    have et : ns.take (j + 1) = ns.take j ++ [ns.getD j 0] := by
      have : j < ns.length := by simp at hlt; lia
      rw [List.take_succ]
      simp [List.getD, this]
    have hb' := grt_snoc (x := ns.getD j 0) hb
    rw [← et] at hb'
    have more : ∀ a o, a ≠ it → a ≠ S → s.heap.get? a = some o → h'.get? a = some o := fun a o ha _ e => keep a o (by simpa using ha) e
    show wpAny _ A.in1 (tryCatch (holding [Value.int (ns.getD j 0) tv, .int (ns.getD j 0) tv] (richCompare .Gt (.int (ns.getD j 0) tv) (.int b t) >>= _)) _ >>= _) _ _ _
    refine wpAny_bind (wpAny_tryCatch (wpAny_holding (wpAny_bind ?_)))
    obtain ⟨i, hiN, ei⟩ : ∃ i, i < ns.length ∧ ns.getD i 0 = b := by
      obtain ⟨i, h1, h2⟩ := List.getElem_of_mem (List.mem_of_mem_take hb.1)
      exact ⟨i, h1, by simp [List.getD, h1, h2]⟩
    have key : ∀ (Q : Value → Shared → Prop) (E : Value → Shared → Prop) (s : Shared), Q (.bool (decide (ns.getD j 0 > b))) s → wpAny (model prog w) A.in1 (richCompare .Gt (.int (ns.getD j 0) tv) (.int b t)) Q E s := fun Q E s hq => by
      have c2 := CmpOf.ints_gt (prog := prog) (w := w) (A := A.in1) (P := fun (i : Nat) v => v = (if i = 0 then Value.int (ns.getD j 0) tv else .int b t)) (fun i => if i = 0 then ns.getD j 0 else b) (fun i v h => by
        subst h
        by_cases z : i = 0
        · exact ⟨tv, by simp [z]⟩
        · exact ⟨t, by simp [z]⟩)
      exact c2 0 1 _ _ s Q E (by simp) (by simp) (by simpa using hq)
    refine key _ _ _ (wpAny_bind (wpAny_holding (wpAny_truthy_bool (wpAny_bind (wpAny_letGo (wpAny_pure ?_))))))
    by_cases hgt : ns.getD j 0 > b
    · rw [if_pos hgt] at hb'
      rw [if_pos (decide_eq_true hgt)]
      refine wpAny_bind (wpAny_updateSeq oS' rfl (wpAny_bind (wpAny_letGo ?_))); rw [loop_name]
      refine wpAny_pure ⟨plainId_quiet F.plain_max_loop _, ih (j + 1) _ (ns.getD j 0) tv _ (by lia) (by simp at hlt; lia) hb' ?_ (Heap.get?_update_self _ oS' rfl) fun m t' g tk' hm kk => ?_⟩
      · exact W.frame _ _ _ st' fun a ha o e => (Heap.get?_update_other _ _ (fun z : S = a => hS (by rw [z]; exact ha))).trans e
      · exact hR m t' g tk' hm fun a o ha hs e => kk a o ha hs ((Heap.get?_update_other _ _ (Ne.symm hs)).trans (more a o ha hs e))
    · rw [if_neg hgt] at hb'
      rw [if_neg (by rw [decide_eq_false hgt]; exact Bool.false_ne_true)]
      refine wpAny_bind (wpAny_letGo ?_); rw [loop_name]
      refine wpAny_pure ⟨plainId_quiet F.plain_max_loop _, ih (j + 1) _ b t c (by lia) (by simp at hlt; lia) hb' st' oS' fun m t' g tk' hm kk => ?_⟩
      exact hR m t' g tk' hm fun a o ha hs e => kk a o ha hs (more a o ha hs e)
end
end L2
namespace L2
open PySem PySem.Spec PyProof.Rows
section
variable {prog : Program} {w : World} {A : Around} {R : Result → Shared → Prop} {it ax S : Addr} {vs : List Value} {ns : List Int} {kw : List (Str × Value)}
def lst0 (c : Nat) : Obj := { cls := .type "list", dict := none, data := .seq #[] c, slots := #[] }
theorem mx_first (hh : A.handled = none) (hne : ax ≠ it) (hS : S ∉ [it, ax]) (hi : IntsAre vs ns) (h0 : 0 < vs.length) {s : Shared} {c : Nat} (st : s.heap.IsListIter it ax 0 ∧ s.heap.IsList ax vs.toArray) (oS : s.heap.get? S = some (lst0 c))
    (hR : ∀ m t' h' tk, Grt ns m → (∀ b o, b ≠ it → b ≠ S → s.heap.get? b = some o → h'.get? b = some o) → R (.ok (.ret (.int m t'))) { s with heap := h', toks := tk }) : codeAny (model prog w) A (.builtin "max.loop" ⟨[.ref it, .none, .ref S], kw⟩) R s := by
  have W := Walks.list (prog := prog) (w := w) (A := A.in1) hh it ax hne vs.toArray
  have hlen := hi.length
  have nw : S ∉ [it] := fun z => hS (by simp at z; simp [z])
  refine codeAny_builtin F.entry_max_loop ?_; rw [Around.under_plainId F.plain_max_loop _]
  show wpAny _ A.in1 (seqItems? (.ref S) >>= _) _ _ s; refine wpAny_bind (wpAny_seqItems oS rfl ?_)
  show wpAny _ A.in1 (tryCatch (pyNext (.ref it)) _ >>= _) _ _ s; refine wpAny_bind (wpAny_tryCatch (W.item 0 s _ _ (by simpa using h0) st fun v h' tk hP st' keep => ?_))
  have oS' := keep S _ nw oS
  obtain ⟨tv, rfl⟩ := at_int hi 0 v hP
  have e1 : Grt (ns.take 1) (ns.getD 0 0) := by
    cases ns with
    | nil => rw [hlen] at h0; exact absurd h0 (by simp)
    | cons n r => exact ⟨by simp, fun x hx => by simp at hx; simp [hx]⟩
  show wpAny _ A.in1 (updateSeq S (fun _ => #[Value.int (ns.getD 0 0) tv, .int (ns.getD 0 0) tv]) >>= _) _ _ _; refine wpAny_bind (wpAny_updateSeq oS' rfl ?_); rw [loop_name]
  refine wpAny_pure ⟨plainId_quiet F.plain_max_loop _, mx_loop hh hne hS hi _ 1 _ (ns.getD 0 0) tv _ rfl (by lia) e1 ?_ (Heap.get?_update_self _ oS' rfl) fun m t' g tk' hm kk => ?_⟩
  · exact W.frame _ _ _ st' fun a ha o e => (Heap.get?_update_other _ _ (fun z : S = a => hS (by rw [z]; exact ha))).trans e
  · exact hR m t' g tk' hm fun a o ha hs e => kk a o ha hs ((Heap.get?_update_other _ _ (Ne.symm hs)).trans (keep a o (by simpa using ha) e))
theorem mx_none (hh : A.handled = none) (hne : ax ≠ it) (hS : S ∉ [it, ax]) (nm : Str) (d : Value) {s : Shared} {c : Nat} (st : s.heap.IsListIter it ax 0 ∧ s.heap.IsList ax #[]) (oS : s.heap.get? S = some (lst0 c))
    (hR : ∀ h' tk, (∀ b o, b ≠ it → b ≠ S → s.heap.get? b = some o → h'.get? b = some o) → R (.ok (.ret d)) { s with heap := h', toks := tk }) : codeAny (model prog w) A (.builtin "max.loop" ⟨[.ref it, .none, .ref S], [(nm, d)]⟩) R s := by
  have W := Walks.list (prog := prog) (w := w) (A := A.in1) hh it ax hne #[]
  have nw : S ∉ [it] := fun z => hS (by simp at z; simp [z])
  refine codeAny_builtin F.entry_max_loop ?_; rw [Around.under_plainId F.plain_max_loop _]
  show wpAny _ A.in1 (seqItems? (.ref S) >>= _) _ _ s; refine wpAny_bind (wpAny_seqItems oS rfl ?_)
  show wpAny _ A.in1 (tryCatch (pyNext (.ref it)) _ >>= _) _ _ s; refine wpAny_bind (wpAny_tryCatch (W.done s _ _ st fun h' tk keep => ?_))
  refine wpAny_bind (wpAny_rule (wpAny_pure ?_))
  exact hR h' tk fun a o ha hs e => keep a o (by simpa using ha) e
end
section
variable {prog : Program} {w : World} {A : Around} {E : Value → Shared → Prop} {s : Shared} {vs : List Value} {ns : List Int} {l : Addr} {Q : Value → Shared → Prop}
theorem past {h : Heap} {o : Obj} {l : Addr} (hlt : l < h.objs.size) : (h.push o).objs.size ∉ [h.objs.size, l] := fun z => by
  rcases List.mem_cons.mp z with z | z
  · rw [Heap.size_push] at z
    exact absurd z (Nat.succ_ne_self _)
  · have z' := List.mem_singleton.mp z
    rw [Heap.size_push] at z'
    rw [← z'] at hlt
    exact absurd hlt (Nat.not_lt.mpr (Nat.le_succ _))
theorem past1 {h : Heap} {o : Obj} {l : Addr} (hlt : l < h.objs.size) : l ≠ (h.push o).objs.size := Nat.ne_of_lt (by rw [Heap.size_push]; exact Nat.lt_succ_of_lt hlt)
theorem mx_dargs (a v : Value) : argsOk "max" ⟨[a], [(Str.ofString "default", v)]⟩ := by unfold argsOk; kernel_rfl
theorem mx_callD {d : Value} (hh : A.handled = none) (hl : s.heap.IsList l vs.toArray) (hi : IntsAre vs ns) (h : ∀ m t h' tk, Grt ns m → (∀ b o, s.heap.get? b = some o → h'.get? b = some o) → Q (.int m t) { s with heap := h', toks := tk })
    (hd : ns = [] → ∀ h' tk, (∀ b o, s.heap.get? b = some o → h'.get? b = some o) → Q d { s with heap := h', toks := tk }) : wpAny (model prog w) A (call (.builtin "max") [.ref l] [(Str.ofString "default", d)]) Q E s := by
  have hlt : l < s.heap.objs.size := let ⟨o, e, _⟩ := hl; Heap.lt_size e
  have hlen := hi.length
  refine kmb_tree F.kind_max F.plain_max F.entry_max (mx_dargs _ _) ?_
  show wpAny _ A.in1 (Builtin.Builtins.bindParams "max" ["key", "default"] 0 ⟨[], [(Str.ofString "default", d)]⟩ >>= _) _ _ s; refine wpAny_bind (wpAny_of_eq (show _ = pure [none, some d] from rfl) (wpAny_bind (wpAny_pure (wpAny_bind (wpAny_pyIter_list hl ?_)))))
  refine wpAny_bind (wpAny_newObj_type ?_); rw [loop_name]
  cases ns with
  | nil =>
    have ev : vs = [] := List.length_eq_zero_iff.mp (by simpa using hlen)
    subst ev
    refine wpAny_pure ⟨plainId_quiet F.plain_max_loop _, mx_none hh (Nat.ne_of_lt hlt) (past hlt) _ d ⟨⟨_, Heap.get?_push_of_some _ (Heap.get?_push_size _ rfl), rfl, rfl⟩, hl.at fun o e => Heap.get?_push_of_some _ (Heap.get?_push_of_some _ e)⟩ (Heap.get?_push_size _ rfl) fun h' tk kk => hd rfl h' tk fun b o e => ?_⟩
    exact kk b o (Nat.ne_of_lt (Heap.lt_size e)) (past1 (Heap.lt_size e)) (Heap.get?_push_of_some _ (Heap.get?_push_of_some _ e))
  | cons n r =>
    refine wpAny_pure ⟨plainId_quiet F.plain_max_loop _, mx_first hh (Nat.ne_of_lt hlt) (past hlt) hi (by rw [hlen]; simp) ⟨⟨_, Heap.get?_push_of_some _ (Heap.get?_push_size _ rfl), rfl, rfl⟩, hl.at fun o e => Heap.get?_push_of_some _ (Heap.get?_push_of_some _ e)⟩ (Heap.get?_push_size _ rfl) fun m t h' tk hm kk => h m t h' tk hm fun b o e => ?_⟩
    exact kk b o (Nat.ne_of_lt (Heap.lt_size e)) (past1 (Heap.lt_size e)) (Heap.get?_push_of_some _ (Heap.get?_push_of_some _ e))
end
section
variable {X : Cx}
def CallKR (X : Cx) (f : Value) (ks : List Str) (r : List V → List V → Hp → VK → Prop) : Prop :=
  ∀ (pins : List (Addr × Obj)) (s : Shared) (σ : St) (H : Hp) (xs zs : List V) (us ws : List Value) (Q : VK), Inv X pins σ H s → Vals xs us → Vals zs ws → r xs zs H Q →
    wpAny (model X.prog X.w) X.A (call f us (ks.zip ws)) (EP X pins σ Q) X.xe s
def tCBK (r : List V → List V → Hp → VK → Prop) (t tk : TA) : TE := fun σ H Q => t σ H fun vs H1 => tk σ H1 fun zs H2 => r vs zs H2 Q
theorem pe_callBK {x : Str} {p pos : Pos} {e : Expr} {es : List Expr} {kws : List Keyword} {t tk : TA} {id : String} {ks : List Str} {r : List V → List V → Hp → VK → Prop} (hc : CallKR X (.builtin id) ks r) (hg : Gl X x) (hm : X.mg x = none) (hv : bootBuiltins x = some (.builtin id)) (ha : PA X (e :: es) t) (hkw : PK X kws tk)
    (hks : (backToKw pos (keywordEach kws X.env)).filterMap (·.1) = ks := by rfl) (hn : x ≠ "__name__" := by decide) (hdb : (x == ("__debug__" : Str)) = false := by decide)
    (he : backTo pos (starEach (e :: es) X.env) = (false, eval e X.env) :: backTo pos (starEach es X.env) := by rfl) (hpl : (backTo pos (starEach (e :: es) X.env)).any (·.1) = false := by rfl)
    (hall : (backToKw pos (keywordEach kws X.env)).all (·.1.isSome) = true := by rfl) (hno : (backToKw pos (keywordEach kws X.env)).any (·.1.isNone) = false := by rfl) : PE X (.Call (.Name x p) (e :: es) kws pos) (tCBK r t tk) := by
  refine ⟨fun pins s σ H Q I h => ?_⟩
  refine wpAny_Call_Name_kw (ld_blt I hg hm hv ?_ hn hdb)
  refine callWith_kw (thn (ha pos pins s σ H _ I h) fun us s1 ⟨vs, H1, I1, r1, q1⟩ => ?_) he hpl hall hno
  refine thn (hkw pos pins s1 σ H1 _ I1 q1) fun ws s2 ⟨zs, H2, I2, r2, q2⟩ => ?_
  rw [hks]
  exact hc pins s2 σ H2 vs zs us ws Q I2 r1 r2 q2
theorem callK_max (hc : X.calm = true) : CallKR X (.builtin "max") ["default"] (fun xs zs H Q => ∃ (l : Addr) (ns : List Int) (d : V), xs = [.ref l] ∧ zs = [d] ∧ SqL X.K H l (ns.map V.int) ∧ (∀ m, Grt ns m → Q (.int m) H) ∧ (ns = [] → Q d H)) := by
  intro pins s σ H xs zs us ws Q I r rz h
  obtain ⟨l, ns, d, rfl, rfl, hS, q, qd⟩ := h
  obtain ⟨u, rfl, rx⟩ := vals1 r
  obtain ⟨du, rfl, rd⟩ := vals1 rz
  cases rx
  obtain ⟨its, rv, pl, hz⟩ := I.list hS
  exact mx_callD (I.ok.hd hc) pl.isList (ints_of_vals rv) (fun m t h' tk hm k => ⟨.int m, H, I.kept k, ⟨t, rfl⟩, q m hm⟩) fun e h' tk k => ⟨d, H, I.kept k, rd, qd e⟩
end
end L2
namespace PySem
open Sem (wp)
def tupIt (l : Addr) : Obj := { cls := .type "tuple_iterator", data := .fields #[.ref l, .int 0 0] }
def enumOver (it : Addr) : Obj := { cls := .type "enumerate", data := .fields #[.none, .bool false, .ref it, rawInt 0, .none, .none] }
theorem made_enum (l : Addr) (items : Array Value) (n : Nat) (od : Option Addr) (os : Array (Option Value)) : Meets (Builtin.«enumerate.__new__» ⟨[.type "enumerate", .ref l], []⟩) (fun _ R s =>
    s.heap.get? l = some { cls := .type "tuple", dict := od, data := .seq items n, slots := os } ∧ R (.ok (.ret (.ref (s.heap.push (tupIt l)).objs.size))) { s with heap := (s.heap.push (tupIt l)).push (enumOver s.heap.objs.size) }) :=
  .of_wp fun prog w A R s both => by
    rcases s with ⟨hp, gs, dr, tk, sys⟩
    have there := both.1
    have good := both.2
    have under := sub_enumerate
    have isT : hp.IsTuple l items := ⟨_, there, rfl, n, rfl⟩
    wp_walk using wpAny_loadPart' there
    refine wpAny_stack_any fun _ => wpAny_pure ?_
    split
    · rename_i c _ _ _ _ _
      rcases hb : (c == Value.type "enumerate") with _ | _ <;> (wp_walk using wpAny_loadPart' there, wpAny_pyIter_tuple isT; exact ⟨_, rfl, good⟩)
    · (wp_walk using wpAny_loadPart' there, wpAny_pyIter_tuple isT; exact ⟨_, rfl, good⟩)
section
variable {prog : Program} {w : World} {A : Around} {E : Value → Shared → Prop} {s : Shared}
theorem enum_of_tuple {l : Addr} {items : Array Value} {Q : Value → Shared → Prop} (isT : s.heap.IsTuple l items)
    (h : Q (.ref (s.heap.objs.size + 1)) { s with heap := (s.heap.push (tupIt l)).push (enumOver s.heap.objs.size) }) : wpAny (model prog w) A (call (.type "enumerate") [.ref l]) Q E s := by
  obtain ⟨o, there, isC, n, isD⟩ := isT
  cases o with
  | mk oc od odt osl =>
    dsimp only at isC isD
    subst isC isD
    have sz : (s.heap.push (tupIt l)).objs.size = s.heap.objs.size + 1 := Heap.size_push ..
    have lies : ((s.heap.push (tupIt l)).push (enumOver s.heap.objs.size)).get? (s.heap.objs.size + 1) = some (enumOver s.heap.objs.size) := sz ▸ Heap.get?_push_size (s.heap.push (tupIt l)) rfl
    refine callType_new F.called_enumerate (by decide) (F.typeCall_enumerate_1 _) (F.newCall_enumerate_1 _) (fun x => F.args_object_init_2 x _) F.entry_enumerate_new (made_enum l items n od osl) ⟨there, ?_⟩
    show _ ∧ _
    rw [sz]
    exact ⟨⟨_, lies, rfl⟩, h⟩
end
section
variable {prog : Program} {w : World} {A : Around} {E : Value → Shared → Prop} {s : Shared}
theorem nextOf_tuple_item {it t : Addr} {i : Nat} {items : Array Value} {x : Value} {Q : Value → Shared → Prop} (hit : s.heap.IsTupleIter it t i) (ht : s.heap.IsTuple t items) (hx : items[i]? = some x)
    (hQ : ∀ h', h'.IsTupleIter it t (i + 1) → Heap.SameBut it s.heap h' → Q x { s with heap := h' }) : wpAny (model prog w) A (Builtin.SmallTypes.nextOf (.ref it)) Q E s := by
  obtain ⟨o, ho, hc, hd⟩ := id hit
  obtain ⟨ol, hol, _, nl, hdl⟩ := ht
  unfold Builtin.SmallTypes.nextOf
  refine wpAny_bind (wpAny_callSpecial?_slot (name := Str.ofString "__next__") hit.typeIs F.slot_tuple_iterator_next
    (wpAny_call_entry F.slot_tuple_iterator_next hit.typeIs F.entry_tuple_iterator_next ?_ (F.args_tuple_iterator_next_1 _)))
  show wpAny _ _ (field (.ref it) 0 >>= _) _ _ s
  refine wpAny_bind (wpAny_field ho hd (x := .ref t) rfl ?_)
  show wpAny _ _ (if (Value.ref t == Value.none) = true then _ else _) _ _ s
  rw [if_neg (show ¬ ((Value.ref t == Value.none) = true) from Bool.false_ne_true)]
  show wpAny _ _ (field (.ref it) 1 >>= _) _ _ s
  refine wpAny_bind (wpAny_field ho hd (x := .int i 0) rfl ?_)
  show wpAny _ _ (seqItems? (.ref t) >>= _) _ _ s
  refine wpAny_bind (wpAny_seqItems hol hdl ?_)
  simp only [Int.toNat_natCast, hx]
  refine wpAny_bind (wpAny_setField ho hd (by simp) (wpAny_pure ⟨x, rfl, wpAny_pure (hQ _ ?_ (Heap.SameBut.update ..))⟩))
  exact ⟨_, Heap.get?_update_self _ ho (Obj.isFreed_of_fields (Obj.data_mapFields hd _)), (Obj.cls_mapFields ..).trans hc, by
    rw [Obj.data_mapFields hd]; simp [rawInt]⟩
theorem nextOf_tuple_end {it t : Addr} {i : Nat} {items : Array Value} {Q : Value → Shared → Prop} (hh : A.handled = none) (hit : s.heap.IsTupleIter it t i) (ht : s.heap.IsTuple t items) (hx : items[i]? = none)
    (hE : ∀ h' e, Heap.ExtBut it s.heap h' → (∃ o, h'.get? e = some o ∧ o.cls = .type "StopIteration") → E (.ref e) { s with heap := h' }) : wpAny (model prog w) A (Builtin.SmallTypes.nextOf (.ref it)) Q E s := by
  obtain ⟨o, ho, hc, hd⟩ := id hit
  obtain ⟨ol, hol, _, nl, hdl⟩ := ht
  unfold Builtin.SmallTypes.nextOf
  refine wpAny_bind (wpAny_callSpecial?_slot (name := Str.ofString "__next__") hit.typeIs F.slot_tuple_iterator_next
    (wpAny_call_entry F.slot_tuple_iterator_next hit.typeIs F.entry_tuple_iterator_next ?_ (F.args_tuple_iterator_next_1 _)))
  show wpAny _ _ (field (.ref it) 0 >>= _) _ _ s
  refine wpAny_bind (wpAny_field ho hd (x := .ref t) rfl ?_)
  show wpAny _ _ (if (Value.ref t == Value.none) = true then _ else _) _ _ s
  rw [if_neg (show ¬ ((Value.ref t == Value.none) = true) from Bool.false_ne_true)]
  show wpAny _ _ (field (.ref it) 1 >>= _) _ _ s
  refine wpAny_bind (wpAny_field ho hd (x := .int i 0) rfl ?_)
  show wpAny _ _ (seqItems? (.ref t) >>= _) _ _ s
  refine wpAny_bind (wpAny_seqItems hol hdl ?_)
  simp only [Int.toNat_natCast, hx]
  refine wpAny_bind (wpAny_rule (wpAny_bind (wpAny_setField ho hd (by simp) ?_)))
  show wpAny _ _ (newExc (.type "StopIteration") [] >>= _) _ _ _
  refine wpAny_bind ?_
  simp only [newExc, newTuple]
  refine wpAny_bind (wpAny_newObj_type ?_ (by size_fits))
  refine wpAny_bind (m := firstArgMember _ _) (wpAny_of_eq (a := Value.none) (by first | rfl | (simp only [firstArgMember]; rfl)) ?_)
  refine wpAny_newObj_type ?_ (by size_fits)
  simp only [raiseNew]
  refine wpAny_bind (wpAny_handled ?_)
  first | rw [show A.in1.handled = none from hh] | rw [hh]
  refine wpAny_bind (wpAny_pure (wpAny_throw ?_))
  exact hE _ _ (((Heap.SameBut.update ..).extBut.push _).push _) ⟨_, Heap.get?_push_size _ rfl, rfl⟩
end
theorem drawsTuple {prog : Program} {w : World} {A : Around} (hh : A.handled = none) (it l : Addr) (hne : l ≠ it) (items : Array Value) :
    Draws prog w A it [it, l] items.size (fun i v => items[i]? = some v) (fun i h => h.IsTupleIter it l i ∧ h.IsTuple l items) where
  live := fun _ _ st => let ⟨o, ho, _⟩ := st.1; ⟨o, ho⟩
  frame := fun _ _ _ st hk => ⟨let ⟨o, ho, r⟩ := st.1; ⟨o, hk it (by simp) o ho, r⟩, let ⟨o, ho, r⟩ := st.2; ⟨o, hk l (by simp) o ho, r⟩⟩
  item := fun i s Q E hi st hQ => by
    refine nextOf_tuple_item st.1 st.2 (x := items[i]) (by simp [hi]) fun h' hit' hs' => ?_
    exact hQ _ h' s.toks (by simp [hi]) ⟨hit', st.2.extBut hs'.extBut hne⟩ hs'
  done := fun s Q E st hE => nextOf_tuple_end hh st.1 st.2 (by simp) hE
end PySem
namespace L2
open PySem PySem.Spec PyProof.Rows
theorem itAt {h h' : Heap} {it l : Addr} {i : Nat} (a : h.IsTupleIter it l i) (k : ∀ o, h.get? it = some o → h'.get? it = some o) : h'.IsTupleIter it l i := let ⟨o, b, c⟩ := a; ⟨o, k o b, c⟩
theorem tupNe {h : Heap} {it l : Addr} {i : Nat} {items : Array Value} (t : h.IsTuple l items) (a : h.IsTupleIter it l i) : l ≠ it := by
  rintro rfl
  obtain ⟨o, x, c, _⟩ := t
  obtain ⟨o', x', c', _⟩ := a
  rw [x] at x'
  cases x'
  rw [c] at c'
  injection c' with z
  exact absurd z (by decide)
theorem enum_endT {prog : Program} {w : World} {A : Around} {E : Value → Shared → Prop} {s : Shared} {e it l : Addr} {i : Nat} {items : Array Value} {old : Value} {Q : Option Value → Shared → Prop} (hh : A.handled = none) (he : IsEnum s.heap e it i old) (h1 : s.heap.IsTupleIter it l i) (isT : s.heap.IsTuple l items) (hi : items.size ≤ i)
    (hQ : ∀ h', Heap.ExtBut it s.heap h' → Q none { s with heap := h' }) : wpAny (model prog w) A (pyNext (.ref e)) Q E s := by
  have hT : s.TypeIs (.ref e) "enumerate" := ⟨_, he, rfl⟩
  unfold pyNext
  refine wpAny_bind (wpAny_attempt (wpAny_callSpecial?_slot (name := Str.ofString "__next__") hT PySem.F.slot_enumerate_next (wpAny_call_entry PySem.F.slot_enumerate_next hT PySem.F.entry_enumerate_next ?_ (PySem.F.args_enumerate_next_1 _))))
  show wpAny _ _ (field (.ref e) 2 >>= _) _ _ _
  refine wpAny_bind (wpAny_field he rfl (x := .ref it) rfl ?_)
  refine wpAny_bind (PySem.nextOf_tuple_end hh h1 isT (Array.getElem?_eq_none hi) fun h' x he' hx' => ?_)
  obtain ⟨o, ho, hc⟩ := hx'
  refine wpAny_bind (wpAny_isInstance (T := "StopIteration") (b := true) ⟨o, ho, hc⟩ isSubtype_stop ?_)
  exact wpAny_pure (hQ _ he')
def IteT (K : PySem.W.Frag) (l : Addr) : It :=
  ⟨fun i H => ∃ xs x, SqT K H l xs ∧ xs[i]? = some x,
   fun i H v H' => ∃ T x, v = .ref T ∧ H T = none ∧ H' = upd H T (.tup [.int i, x]) ∧ ∀ xs, SqT K H l xs → xs[i]? = some x,
   fun i H => ∃ xs, SqT K H l xs ∧ xs.length ≤ i⟩
theorem turn_enumT {P : Program} {w : World} {K : PySem.W.Frag} {elts : List Expr} {kt : Nat} {tp : Pos} {e it l : Addr} (hne : e ≠ it) :
    Turn P w K (.Tuple elts kt tp) (IteT K l) [e, it] e (fun i h => (∃ old, IsEnum h e it i old) ∧ h.IsTupleIter it l i) where
  mem := by simp
  obj := fun i h st b hb => by
    obtain ⟨⟨old, he⟩, ⟨o1, h1, _, d1⟩⟩ := st
    simp at hb
    rcases hb with rfl | rfl
    · exact ⟨_, he, fun v q => by cases q⟩
    · exact ⟨_, h1, fun v q => by rw [d1] at q; cases q⟩
  keep := fun i h h' st k => by
    obtain ⟨⟨old, he⟩, h1⟩ := st
    exact ⟨⟨old, k e (by simp) _ he⟩, itAt h1 fun o q => k it (by simp) o q⟩
  item := by
    intro X hP hw hK hc i pins s σ H E I hf st hg
    subst hP hw hK
    obtain ⟨xs, x, hx, ex⟩ := hg
    obtain ⟨⟨old, he⟩, h1⟩ := st
    obtain ⟨its1, rv1, p1, z1⟩ := I.tuple hx
    obtain ⟨u1, eu1, ru1⟩ := rv1.get ex
    have isT : s.heap.IsTuple l its1.toArray := let ⟨o, a, b, n, c⟩ := p1; ⟨o, a, b, n, c⟩
    have nl : l ≠ it := tupNe isT h1
    have ne2 : e ∉ [it, l] := by
      intro m
      simp only [List.mem_cons, List.not_mem_nil, or_false] at m
      rcases m with m | m
      · exact hne m
      · subst m
        obtain ⟨o, a, b, _⟩ := isT
        rw [show s.heap.get? e = _ from he] at a
        cases a
        injection b with z
        exact absurd z (by decide)
    have hlt : i < its1.toArray.size := by
      have := (List.getElem?_eq_some_iff.mp eu1).1
      simpa using this
    refine wpAny_pyNext_enum_itemD (PySem.drawsTuple (A := X.A.in1) (show X.A.in1.handled = none from I.ok.hd hc) it l nl its1.toArray) he ⟨h1, isT⟩ hlt hne ne2 fun v h' tk px a1 a2' a3 a4 a5 => ⟨_, rfl, ?_⟩
    have evu : v = u1 := by
      have e2 : its1.toArray[i]? = some u1 := by simpa using eu1
      rw [e2] at px
      exact (Option.some.inj px).symm
    subst evu
    have a2 := a2'.1
    refine wpAny_letOwnedTupleGo_enum a1 fun h'' b1 b2 => ?_
    have hT : H s.heap.objs.size = none := I.hok.fresh (Nat.le_refl _)
    have low : ∀ b o, s.heap.get? b = some o → b ≠ s.heap.objs.size := fun b o q => Nat.ne_of_lt (Heap.lt_size q)
    refine ⟨.ref s.heap.objs.size, upd H s.heap.objs.size (.tup [.int i, x]), ?_, rfl, ⟨s.heap.objs.size, x, rfl, hT, rfl, fun xs' h => by rw [I.tuple_inj h hx]; exact ex⟩, ?_, fun b hb => ?_⟩
    · show Inv X pins σ (upd H s.heap.objs.size (.tup [.int i, x])) { s with heap := h'', toks := tk + 1 }
      refine Inv.turnedS (s := s) (h' := h'') (t' := tk + 1) (ch := [e, it]) I (fun b hb => hf b hb) (fun b o hc q => ?_) (fun b o q => by rw [upd_ne (ne_of_none q hT)]; exact q) (fun b hb n => by rw [upd_ne (Nat.ne_of_lt hb)]; exact n) fun b o n q => ?_
      · simp at hc
        exact b2.extBut b o hc.1 (a5 b o hc.1 hc.2 q)
      · by_cases eb : b = s.heap.objs.size
        · subst eb
          rw [upd_same] at q
          cases q
          refine ⟨by show 2 ≤ sizeLine; decide, [.int i tk, v], .cons ⟨_, rfl⟩ (.cons ru1 .nil), _, b2.extBut _ _ ?_ a3, rfl, _, rfl⟩
          exact fun z => low e _ he z.symm
        · rw [upd_ne eb, n] at q
          cases q
    · refine ⟨⟨_, b1⟩, itAt a2 fun o q => b2.extBut _ o hne.symm q⟩
    · have n := (hf b hb).1
      have : b ≠ s.heap.objs.size := by
        simp at hb
        obtain ⟨_, q1, _⟩ := id h1
        rcases hb with rfl | rfl
        · exact low _ _ he
        · exact low _ _ q1
      rw [upd_ne this]
      exact n
  done := by
    intro X hP hw hK hc i pins s σ H E I hf st hg
    subst hP hw hK
    obtain ⟨xs, hx, hl⟩ := hg
    obtain ⟨⟨old, he⟩, h1⟩ := st
    obtain ⟨its1, rv1, p1, z1⟩ := I.tuple hx
    have e1 := rv1.length
    have isT : s.heap.IsTuple l its1.toArray := let ⟨o, a, b, n, c⟩ := p1; ⟨o, a, b, n, c⟩
    have nl : l ≠ it := tupNe isT h1
    refine enum_endT (I.ok.hd hc) he h1 isT (by simp; lia) fun h' k => ⟨rfl, ?_⟩
    obtain ⟨f0, f1, f2, f3, f4, f5⟩ := hf it (by simp)
    exact I.turned (t' := s.toks) (fun b o hb q => k b o hb q) f0 f1 f3 f4 f5
  self := fun _ _ _ _ _ st h => wpAny_pyIter_enum st.1.choose_spec h
section
variable {X : Cx}
inductive iEnumTI (K : PySem.W.Frag) (R : It → Hp → Prop) (vs : List V) (H1 : Hp) : Prop
  | mk (l : _) : vs = [.ref l] → (∃ xs, SqT K H1 l xs) → R (IteT K l) H1 → iEnumTI K R vs H1
def iEnumT (K : PySem.W.Frag) (ta : TA) : TI := fun σ H R => ta σ H fun vs H1 => iEnumTI K R vs H1
theorem pi_enumT {elts : List Expr} {kt : Nat} {tp : Pos} {a : Expr} {ta : TA} {p pos : Pos} (hg : Gl X "enumerate") (hm : X.mg "enumerate" = none) (ha : PA X [a] ta) (hs : starEach [a] X.env = [(false, eval a X.env)] := by rfl) :
    PI X (.Tuple elts kt tp) (.Call (.Name "enumerate" p) [a] [] pos) (iEnumT X.K ta) := by
  refine ⟨?_⟩
  intro pins s σ H R I h
  refine Call_ (ld_blt I hg hm boot_enum (PyProof.Rows.callWith_type1 (thn (ha pos pins s σ H _ I h) fun us s1 ⟨vs, H1, I1, r1, q1⟩ => ?_) hs rfl))
  obtain ⟨l, e, ⟨xs, hx⟩, q⟩ := q1
  subst e
  cases r1 with
  | cons r rr =>
    cases rr
    cases r
    obtain ⟨its1, rv1, p1, z1⟩ := I1.tuple hx
    have isT : s1.heap.IsTuple l its1.toArray := let ⟨o, a, b, n, c⟩ := p1; ⟨o, a, b, n, c⟩
    refine PySem.enum_of_tuple isT ?_
    have sz : (s1.heap.push (PySem.tupIt l)).objs.size = s1.heap.objs.size + 1 := Heap.size_push ..
    have a1 : IsEnum ((s1.heap.push (PySem.tupIt l)).push (PySem.enumOver s1.heap.objs.size)) (s1.heap.objs.size + 1) s1.heap.objs.size 0 .none := sz ▸ Heap.get?_push_size (s1.heap.push (PySem.tupIt l)) rfl
    have a2 : ((s1.heap.push (PySem.tupIt l)).push (PySem.enumOver s1.heap.objs.size)).IsTupleIter s1.heap.objs.size l 0 := ⟨_, Heap.get?_push_of_some _ (Heap.get?_push_size _ rfl), rfl, rfl⟩
    have a4 : ∀ b o, s1.heap.get? b = some o → ((s1.heap.push (PySem.tupIt l)).push (PySem.enumOver s1.heap.objs.size)).get? b = some o := fun b o x => Heap.get?_push_of_some _ (Heap.get?_push_of_some _ x)
    refine wpAny_pyIter_enum a1 ?_
    refine ⟨_, [s1.heap.objs.size + 1, s1.heap.objs.size], _, _, H1, rfl, I1.kept (t' := s1.toks) a4, turn_enumT (Nat.ne_of_gt (Nat.lt_succ_self _)), ⟨⟨_, a1⟩, a2⟩, fun b hb => ?_, q⟩
    have hb' : s1.heap.objs.size ≤ b := by
      simp only [List.mem_cons, List.not_mem_nil, or_false] at hb
      rcases hb with e | e <;> rw [e]
      · exact Nat.le_add_right _ _
      · exact Nat.le_refl _
    exact I1.fpOk hb' (I1.hok.fresh hb')
end
theorem for_enumT {K : PySem.W.Frag} {l : Addr} {xs : List V} {g : TG} {tb : TS} {D : Ends} {σ : St} {H : Hp} (Pv : Nat → St → Hp → Prop) (h0 : Pv 0 σ H) (hl : ∀ i σ H, i ≤ xs.length → Pv i σ H → SqT K H l xs)
    (hs : ∀ i x σ H T, xs[i]? = some x → H T = none → Pv i σ H → g (.ref T) σ (upd H T (.tup [.int i, x])) fun σ2 H2 => tb { D with nx := Pv (i + 1), ct := Pv (i + 1), bk := D.nx } σ2 H2) (hd : ∀ σ H, Pv xs.length σ H → D.nx σ H) :
    ∃ W : Nat → Nat → St → Hp → Prop, (∃ m, W 0 m σ H) ∧ ∀ i m σ H, W i m σ H →
      ((IteT K l).stop i H ∧ D.nx σ H) ∨ ((IteT K l).go i H ∧ ∃ N : St → Hp → Prop, (∀ σ' H', N σ' H' → ∃ m', m' < m ∧ W (i + 1) m' σ' H') ∧ ∀ x H', (IteT K l).yld i H x H' → g x σ H' fun σ2 H2 => tb { D with nx := N, ct := N, bk := D.nx } σ2 H2) := by
  refine ⟨fun i m σ H => m = xs.length - i ∧ i ≤ xs.length ∧ Pv i σ H, ⟨xs.length, by simp, Nat.zero_le _, h0⟩, ?_⟩
  rintro i m σ H ⟨rfl, hi, p⟩
  have q := hl i σ H hi p
  by_cases hlt : i < xs.length
  · refine .inr ⟨⟨xs, xs[i], q, by simp [hlt]⟩, Pv (i + 1), fun σ' H' p' => ⟨xs.length - (i + 1), by lia, rfl, hlt, p'⟩, fun v H' y => ?_⟩
    obtain ⟨T, x, e1, hT, e2, hy⟩ := y
    subst e1 e2
    exact hs i x σ H T (hy xs q) hT p
  · have e : i = xs.length := by lia
    subst e
    exact .inl ⟨⟨xs, q, Nat.le_refl _⟩, hd σ H p⟩
end L2
namespace L3
open PySem L2
def top (i : Nat) : Stmt := PySem.Challenge.pw_rowsbeneath_k24_steps_packed.main.body.getD i (.Pass ⟨0, 0, 0, 0⟩)
abbrev sWhole : Stmt := top 2
abbrev sWithin : Stmt := top 3
abbrev sOps : Stmt := top 15
abbrev sHeaded : Stmt := top 29
abbrev sInner : Stmt := top 30
abbrev sField : Stmt := top 31
abbrev sSel : Stmt := top 32
abbrev sSource : Stmt := top 33
abbrev sIsStep : Stmt := top 34
abbrev sStepOf : Stmt := top 47
abbrev sCell : Stmt := top 49
abbrev sStream : Stmt := top 50
abbrev sTake : Stmt := top 51
abbrev sLSource : Stmt := top 52
abbrev sLSel : Stmt := top 53
abbrev sLStep : Stmt := top 54
abbrev sLaw : Stmt := top 61
abbrev sMeets : Stmt := top 17
abbrev sTouches : Stmt := top 18
abbrev sPacked : Stmt := top 19
abbrev sBeats : Stmt := top 20
abbrev sLSteps : Stmt := top 55
abbrev sLObjects : Stmt := top 56
abbrev sLTouched : Stmt := top 57
abbrev sLMeet : Stmt := top 58
abbrev sLDue : Stmt := top 59
abbrev sLSame : Stmt := top 60
def Fn (P : Program) (w : World) (K : PySem.W.Frag) (mg : Str → Option Value) (base : Heap) (x : Str) (k : Nat) (ps : List Str) (sp : Sp) : Prop :=
  ∃ (f : Addr) (fd : FuncData), mg x = some (.ref f) ∧ PySem.W.keepIn K (.ref f) = true ∧ Binds K fd ps [] ∧ FnOk P w K mg base CX0 k f fd ps sp
def tFn (sp : Sp) (t : TA) : TE := fun σ H Q => t σ H fun vs H1 => sp vs H1 Q E0
theorem pe_fn {X : Cx} {x : Str} {k : Nat} {ps : List Str} {sp : Sp} {p pos : Pos} {e : Expr} {es : List Expr} {t : TA} (h : Fn X.prog X.w X.K X.mg X.base x k ps sp) (hr : Room k X.A) (hg : Gl X x) (ha : PA X (e :: es) t) (hdb : (x == ("__debug__" : Str)) = false := by decide)
    (he : starEach (e :: es) X.env = (false, eval e X.env) :: starEach es X.env := by rfl) (hpl : (backTo pos (starEach es X.env)).any (·.1) = false := by rfl) : PE X (.Call (.Name x p) (e :: es) [] pos) (tFn sp t) := by
  obtain ⟨f, fd, hm, hk, hb, F⟩ := h
  refine ⟨?_⟩
  intro pins s σ H Q I q
  have ha' : PA X (e :: es) t := ha
  refine pe_call (dvs := []) (E := E0) F hr hg hm hk hb .nil pass0 ha' hdb he hpl pins s σ H Q I ?_
  show t σ H fun vs H1 => sp (vs ++ []) H1 Q E0
  have e2 : (fun vs H1 => sp (vs ++ []) H1 Q E0) = fun vs H1 => sp vs H1 Q E0 := by
    funext vs H1
    rw [List.append_nil]
  rw [e2]
  exact q
theorem pe_fn0 {X : Cx} {x : Str} {k : Nat} {sp : Sp} {p pos : Pos} (h : Fn X.prog X.w X.K X.mg X.base x k [] sp) (hr : Room k X.A) (hg : Gl X x) (hdb : (x == ("__debug__" : Str)) = false := by decide) : PE X (.Call (.Name x p) [] [] pos) (fun _ H Q => sp [] H Q E0) := by
  obtain ⟨f, fd, hm, hk, hb, F⟩ := h
  refine ⟨?_⟩
  intro pins s σ H Q I q
  exact pe_call0 (dvs := []) (E := E0) F hr hg hm hk hb .nil pass0 hdb pins s σ H Q I q
theorem same_new {H : Hp} {p : Addr} {o : HO} (h : H p = none) : Same H (upd H p o) := fun b u e => by rw [upd_ne (ne_of_none e h)]; exact e
theorem same_mut {H H2 : Hp} {p : Addr} {o : HO} (hp : H p = none) (s : Same H H2) : Same H (upd H2 p o) := fun b u e => by rw [upd_ne (ne_of_none e hp)]; exact s b u e
theorem iteB {A B : Prop} {b : Bool} (e : b = false) (h : B) : if b = true then A else B := by rw [e]; exact iteF h
theorem iteA {A B : Prop} {b : Bool} (e : b = true) (h : A) : if b = true then A else B := by rw [e]; exact iteT h
theorem boot_isi : bootBuiltins "isinstance" = some (.builtin "isinstance") := by decide +kernel
theorem boot_list' : bootBuiltins "list" = some (.type "list") := by decide +kernel
theorem boot_str' : bootBuiltins "str" = some (.type "str") := by decide +kernel
theorem boot_bool' : bootBuiltins "bool" = some (.type "bool") := by decide +kernel
theorem boot_tuple' : bootBuiltins "tuple" = some (.type "tuple") := by decide +kernel
structure Bl (mg : Str → Option Value) : Prop where
  len : mg "len" = none
  int : mg "int" = none
  max : mg "max" = none
  min : mg "min" = none
  range : mg "range" = none
  isinstance : mg "isinstance" = none
  list : mg "list" = none
  str : mg "str" = none
  bool : mg "bool" = none
  tuple : mg "tuple" = none
  all : mg "all" = none
def strm (x y z : Int) : HO := .lst [.int x, .int y, .int z]
def Strm (H : Hp) (p : Addr) : Prop := ∃ x y z : Int, H p = some (strm x y z)
def But (p : Addr) (H H' : Hp) : Prop := ∀ b o, H b = some o → b ≠ p → H' b = some o
theorem But.refl (p : Addr) (H : Hp) : But p H H := fun _ _ e _ => e
theorem But.trans {p : Addr} {H H1 H2 : Hp} (a : But p H H1) (b : But p H1 H2) : But p H H2 := fun c o e n => b c o (a c o e n) n
theorem But.same {p : Addr} {H H1 H2 : Hp} (a : But p H H1) (b : Same H1 H2) : But p H H2 := fun c o e n => b c o (a c o e n)
theorem but_of {p : Addr} {H H1 : Hp} (b : Same H H1) : But p H H1 := fun c o e _ => b c o e
theorem Strm.same {p : Addr} {H H1 : Hp} (a : Strm H p) (b : Same H H1) : Strm H1 p := let ⟨x, y, z, e⟩ := a; ⟨x, y, z, b _ _ e⟩
theorem Strm.ne {p q : Addr} {H : Hp} (a : Strm H p) (h : H q = none) : p ≠ q := let ⟨_, _, _, e⟩ := a; ne_of_none e h
inductive spCell (K : PySem.W.Frag) (vs : List V) (H : Hp) (Q : VK) (Z3 : XK) : Prop
  | mk (a : Addr) (ns : List Int) (k : Int) : vs = [.ref a, .int k] → SqL K H a (ns.map V.int) → 0 ≤ k → (∀ c : Int, Q (.int c) H) → spCell K vs H Q Z3
inductive spStream (vs : List V) (H : Hp) (Q : VK) (Z3 : XK) : Prop
  | mk (c : Int) : vs = [.int c] → (∀ (p : Addr) H', H p = none → Same H H' → Strm H' p → Q (.ref p) H') → spStream vs H Q Z3
inductive spTake (vs : List V) (H : Hp) (Q : VK) (Z3 : XK) : Prop
  | mk (p : Addr) (m : Nat) : vs = [.ref p, .int m] → Strm H p → 0 < m → m < 18446744073709551616 → (∀ (r : Nat) H', r < m → Strm H' p → But p H H' → Q (.int r) H') → spTake vs H Q Z3
section
variable {P : Program} {w : World} {K : PySem.W.Frag} {mg : Str → Option Value} {base : Heap}
theorem scCell : FnScope ["_law_script", "_law_k"] ["_law_script", "_law_k"] (defScope sCell) := ⟨rfl, rfl, rfl, by decide +kernel, rfl, by decide +kernel, by decide +kernel⟩
theorem ok_cell {f : Addr} {fd : FuncData} (F : Fun K "_law_cell" "_law_cell" sCell f fd) (T : Bl mg) : FnOk P w K mg base CX0 1 f fd ["_law_script", "_law_k"] (spCell K) := by
  refine F.ok scCell (fun vs H Q E h => ?_) (fun cdv A outer s H vs Q E hr h => ?_)
  · obtain ⟨a, ns, k, rfl, _⟩ := h
    rfl
  · obtain ⟨a, ns, k, rfl, hS, h0, q⟩ := h
    refine ⟨_, pss_cons (ps_if (pt_cmpR op_lt (pv 1) (pe_callB call_len_seq (by rfl) T.len PySem.boot_len (pa_cons (pv 0) pa_nil)) (nomark _)) (pss_one (ps_ret (pe_ix ix_list (pv 0) (pv 1) (fun _ _ => rfl)))) pss_nil)
      (pss_one (ps_ret (pe_op op_add (pe_op op_mul pe_int (pv 1)) pe_int))), ?_⟩
    refine ⟨_, rfl, _, rfl, a, _, rfl, .inl hS, _, _, rfl, rfl, _, rfl, ?_⟩
    refine ite2 (fun h => ?_) (fun h => ?_)
    · have hl : k < ((ns.map V.int).length : Int) := of_decide_eq_true h
      rw [List.length_map] at hl
      obtain ⟨n, rfl⟩ : ∃ n : Nat, k = n := ⟨k.toNat, by lia⟩
      have hn : n < ns.length := by lia
      refine ⟨_, rfl, _, rfl, a, _, _, _, rfl, rfl, hS, atI_nat (v := .int ns[n]) (by simp [hn]), q _⟩
    · exact ⟨_, rfl, _, _, rfl, rfl, .inl ⟨by decide, by decide⟩, _, _, rfl, rfl, q _⟩
theorem scStream : FnScope ["_law_cell_here"] ["_law_cell_here"] (defScope sStream) := ⟨rfl, rfl, rfl, by decide +kernel, rfl, by decide +kernel, by decide +kernel⟩
theorem ok_stream {f : Addr} {fd : FuncData} (F : Fun K "_law_stream" "_law_stream" sStream f fd) (T : Bl mg) : FnOk P w K mg base CX0 1 f fd ["_law_cell_here"] spStream := by
  refine F.ok scStream (fun vs H Q E h => ?_) (fun cdv A outer s H vs Q E hr h => ?_)
  · obtain ⟨c, rfl, _⟩ := h
    rfl
  · obtain ⟨c, rfl, q⟩ := h
    refine ⟨_, pss_one (ps_ret (pe_lst (pa_cons (pe_op op_mul (pv 0) (pe_callTy call_int1 (by rfl) T.int PyProof.Rows.boot_int (pa_cons (pe_cmpR op_ge (pv 0) (pe_op op_pow pe_int pe_int) (nomark _)) pa_nil)))
      (pa_cons (pe_op op_mod (pv 0) pe_int) (pa_cons pe_int pa_nil))))), ?_⟩
    refine ⟨_, rfl, _, rfl, _, _, rfl, rfl, ⟨by decide, by decide, by decide⟩, _, _, rfl, rfl, .inr ⟨_, rfl, ?_⟩⟩
    refine ⟨_, _, rfl, rfl, .inr (by split <;> decide), _, rfl, _, _, rfl, rfl, (by show (0 : Int) < 2147483629; decide), (by show 3 ≤ sizeLine; decide), fun l hl => ?_⟩
    exact q l _ hl (same_new hl) ⟨_, _, _, upd_same⟩
theorem scTake : FnScope ["_law_stream_here", "_law_many", "_law_digit", "_law_number"] ["_law_stream_here", "_law_many"] (defScope sTake) := ⟨rfl, rfl, rfl, by decide +kernel, rfl, by decide +kernel, by decide +kernel⟩
theorem sq_bound {n m : Int} (hm : 0 < m) (h : m < 2 ^ 64) : -(2 ^ 64) < n % m ∧ n % m < 2 ^ 64 := by
  have := Int.emod_nonneg n (show m ≠ 0 by lia)
  have := Int.emod_lt_of_pos n hm
  lia
theorem ok_take {f : Addr} {fd : FuncData} (F : Fun K "_law_take" "_law_take" sTake f fd) : FnOk P w K mg base CX0 1 f fd ["_law_stream_here", "_law_many"] spTake := by
  refine F.ok scTake (fun vs H Q E h => ?_) (fun cdv A outer s H vs Q E hr h => ?_)
  · obtain ⟨p, m, rfl, _⟩ := h
    rfl
  · obtain ⟨p, m, rfl, ⟨x, y, z, hp⟩, m0, m1, q⟩ := h
    have fin : ∀ (e x' y' z' : Int) H1, 0 ≤ e → e < m → But p H H1 → Q (.int e) (upd H1 p (strm x' y' z')) := fun e x' y' z' H1 h0 h1 b => by
      have := q e.toNat (upd H1 p (strm x' y' z')) (by lia) ⟨_, _, _, upd_same⟩ (fun c o e n => by rw [upd_ne n]; exact b c o e n)
      rw [Int.toNat_of_nonneg h0] at this
      exact this
    have b1 : ∀ o, But p H (upd H p o) := fun o c u e n => by rw [upd_ne n]; exact e
    refine ⟨_, pss_cons (ps_if (pt_cmpR op_gt (pe_ix ix_list (pv 0) pe_int (fun _ _ => rfl)) pe_int (nomark _))
        (pss_cons (ps_set (i := 2) scTake.nd rfl (Or.inl rfl) (pe_op op_mod (pe_ix ix_list (pv 0) pe_int (fun _ _ => rfl)) (pv 1)))
        (pss_cons (ps_asg (pe_op op_fdivB (pe_ix ix_list (pv 0) pe_int (fun _ _ => rfl)) (pv 1)) (pg_sub (pv 0) pe_int set_list))
        (pss_one (ps_ret (pv 2))))) pss_nil)
      (pss_cons (ps_asg (pe_op op_add (pe_ix ix_list (pv 0) pe_int (fun _ _ => rfl)) pe_int) (pg_sub (pv 0) pe_int set_list))
      (pss_cons (ps_set (i := 3) scTake.nd rfl (Or.inl rfl) (pe_op op_mod (pe_op op_add (pe_op op_mul (pe_op op_add (pe_ix ix_list (pv 0) pe_int (fun _ _ => rfl)) (pe_op op_mul pe_int (pe_ix ix_list (pv 0) pe_int (fun _ _ => rfl)))) pe_int) pe_int) pe_int))
      (pss_cons (ps_set (i := 3) scTake.nd rfl (Or.inl rfl) (pe_op op_mod (pe_op op_mul (pv 3) (pv 3)) pe_int))
      (pss_one (ps_ret (pe_op op_mod (pe_op op_fdiv (pe_op op_mod (pe_op op_add (pe_op op_mul (pv 3) (pv 3)) (pe_op op_mul pe_int (pe_ix ix_list (pv 0) pe_int (fun _ _ => rfl)))) pe_int) pe_int) (pv 1))))))), ?_⟩
    refine ⟨_, rfl, p, _, _, _, rfl, rfl, SqL.of hp, rfl, _, _, rfl, rfl, _, rfl, ?_⟩
    refine ite2 (fun h => ?_) (fun h => ?_)
    · refine ⟨_, rfl, p, _, _, _, rfl, rfl, SqL.of hp, rfl, _, rfl, _, _, rfl, rfl, (by show (0 : Int) < (m : Int); lia), ?_⟩
      refine ⟨_, rfl, p, _, _, _, rfl, rfl, SqL.of hp, rfl, _, rfl, _, _, rfl, rfl, ⟨by show (0 : Int) < (m : Int); lia, by show (m : Int) < 18446744073709551616; lia⟩, ?_⟩
      refine ⟨_, rfl, p, _, _, _, rfl, rfl, hp, rfl, ?_⟩
      refine ⟨_, rfl, ?_⟩
      exact fin _ _ _ _ _ (Int.emod_nonneg _ (by lia)) (Int.emod_lt_of_pos _ (by lia)) (But.refl _ _)
    · refine ⟨_, rfl, p, _, _, _, rfl, rfl, SqL.of hp, rfl, _, _, rfl, rfl, ?_⟩
      refine ⟨_, rfl, p, _, _, _, rfl, rfl, hp, rfl, ?_⟩
      refine ⟨_, rfl, p, _, _, _, rfl, rfl, SqL.of upd_same, rfl, _, rfl, p, _, _, _, rfl, rfl, SqL.of upd_same, rfl, _, _, rfl, rfl, .inl ⟨by decide, by decide⟩, _, _, rfl, rfl, _, _, rfl, rfl, .inr ⟨by decide, by decide⟩, _, _, rfl, rfl, _, _, rfl, rfl, (by show (0 : Int) < 2147483647; decide), ?_⟩
      refine ⟨_, rfl, _, rfl, _, _, rfl, rfl, .inl (sq_bound (by decide) (by decide)), _, _, rfl, rfl, (by show (0 : Int) < 2147483629; decide), ?_⟩
      refine ⟨_, rfl, _, rfl, _, _, rfl, rfl, .inl (sq_bound (by decide) (by decide)), _, rfl, p, _, _, _, rfl, rfl, SqL.of upd_same, rfl, _, _, rfl, rfl, .inl ⟨by decide, by decide⟩, _, _, rfl, rfl, _, _, rfl, rfl, (by show (0 : Int) < 2147483587; decide), _, _, rfl, rfl, ⟨by decide, by decide⟩, _, rfl, _, _, rfl, rfl, (by show (0 : Int) < (m : Int); lia), ?_⟩
      exact fin _ _ _ _ _ (Int.emod_nonneg _ (by lia)) (Int.emod_lt_of_pos _ (by lia)) (But.refl _ _)
end
end L3
namespace L3
open PySem L2
theorem at0 (x : V) (ys : List V) : atI (x :: ys) 0 = some x := atI_nat (j := 0) rfl
theorem dint (a b : Int) : decide (V.int a = V.int b) = decide (a = b) := by
  by_cases h : a = b
  · subst h; simp
  · have : V.int a ≠ V.int b := fun z => h (V.int.inj z)
    simp [h, this]
theorem dstr (a b : Str) : decide (V.str a = V.str b) = decide (a = b) := by
  by_cases h : a = b
  · subst h; simp
  · have : V.str a ≠ V.str b := fun z => h (V.str.inj z)
    simp [h, this]
theorem hdT {us : List V} {m : Nat} {n : Str} (h : us.length + 1 = m) : (decide (us.length + 1 = m) && decide (n = n)) = true := by simp [h]
theorem hdF {us : List V} {m : Nat} {n w : Str} (h : decide (n = w) = false) : (decide (us.length + 1 = m) && decide (n = w)) = false := by rw [h, Bool.and_false]
structure Cst (K : PySem.W.Frag) (mg : Str → Option Value) (w : World) (aO : Addr) (t1 t2 t3 t4 : Tok) (fs : Str → V) : Prop where
  inner : mg "HIGHEST_INNER" = some (.int 7 t1)
  word : mg "HIGHEST_WORD" = some (.int 16777215 t2)
  field : mg "HIGHEST_FIELD" = some (.int 2 t3)
  sel : mg "HIGHEST_SELECTED" = some (.int 3 t4)
  ops : mg "OPS" = some (.ref aO)
  dict : TopDict w K aO [("+", fs "+"), ("-", fs "-"), ("&", fs "&"), ("|", fs "|"), ("^", fs "^"), ("<<", fs "<<"), (">>", fs ">>"), ("<", fs "<"), ("=", fs "=")]
  lo : (aO == sysModules) = false
def opsL : List Str := ["+", "-", "&", "|", "^", "<<", ">>", "<", "="]
inductive spWhole (vs : List V) (H : Hp) (Q : VK) (Z3 : XK) : Prop
  | mk (i : Int) : vs = [.int i] → Q (.bl true) H → spWhole vs H Q Z3
inductive spWithin (vs : List V) (H : Hp) (Q : VK) (Z3 : XK) : Prop
  | mk (i lo hi : Int) : vs = [.int i, .int lo, .int hi] → lo ≤ i → i ≤ hi → Q (.bl true) H → spWithin vs H Q Z3
def spOps : Sp := fun vs H Q _ => vs = [] ∧ ∀ p, H p = none → Q (.ref p) (upd H p (.lst (opsL.map V.str)))
inductive spHeaded (vs : List V) (H : Hp) (Q : VK) (Z3 : XK) : Prop
  | mk (p : Addr) (n w : Str) (us : List V) (m : Nat) : vs = [.ref p, .str w, .int m] → H p = some (.tup (.str n :: us)) → Q (.bl (decide (us.length + 1 = m) && decide (n = w))) H → spHeaded vs H Q Z3
inductive spTo (hi : Int) (vs : List V) (H : Hp) (Q : VK) (Z3 : XK) : Prop
  | mk (i : Int) : vs = [.int i] → 0 ≤ i → i ≤ hi → Q (.bl true) H → spTo hi vs H Q Z3
inductive SelOK (H : Hp) (v : V) : Prop
  | mk (p : Addr) (n : Str) (i : Int) : v = .ref p → H p = some (.tup [.str n, .int i]) → ((n = "is" ∧ 0 ≤ i ∧ i ≤ 3) ∨ (n = "by" ∧ 0 ≤ i ∧ i ≤ 2)) → SelOK H v
inductive SrcOK (H : Hp) (v : V) (o : Option Nat) : Prop
  | mk (p : Addr) (n : Str) (i : Int) : v = .ref p → H p = some (.tup [.str n, .int i]) → ((n = "in" ∧ 0 ≤ i ∧ i ≤ 7 ∧ o = some i.toNat) ∨ (n = "number" ∧ 0 ≤ i ∧ i ≤ 16777215 ∧ o = none) ∨ (n = "field" ∧ 0 ≤ i ∧ i ≤ 2 ∧ o = none)) → SrcOK H v o
theorem SelOK.kt {H H' : Hp} (k : TupK H H') {v : V} (h : SelOK H v) : SelOK H' v := let ⟨p, n, i, a, b, c⟩ := h; ⟨p, n, i, a, k _ _ b, c⟩
theorem SrcOK.kt {H H' : Hp} (k : TupK H H') {v : V} {o : Option Nat} (h : SrcOK H v o) : SrcOK H' v o := let ⟨p, n, i, a, b, c⟩ := h; ⟨p, n, i, a, k _ _ b, c⟩
inductive spSel (vs : List V) (H : Hp) (Q : VK) (Z3 : XK) : Prop
  | mk (v : _) : vs = [v] → SelOK H v → Q (.bl true) H → spSel vs H Q Z3
inductive spSource (vs : List V) (H : Hp) (Q : VK) (Z3 : XK) : Prop
  | mk (v o : _) : vs = [v] → SrcOK H v o → Q (.bl true) H → spSource vs H Q Z3
structure Md where
  kind : Nat
  to : Nat
  src : List (Option Nat)
inductive Tol (H : Hp) : V → Md → Prop
  | get {p : Addr} {n : Nat} {s : V} : H p = some (.tup [.str "get", .int n, s]) → n < 8 → SelOK H s → Tol H (.ref p) ⟨0, n, []⟩
  | ask {p : Addr} {n : Nat} {s : V} : H p = some (.tup [.str "ask", .int n, s]) → n < 8 → SelOK H s → Tol H (.ref p) ⟨1, n, []⟩
  | cell {p : Addr} {n : Nat} {s : V} {o : Option Nat} : H p = some (.tup [.str "cell", .int n, s]) → n < 8 → SrcOK H s o → Tol H (.ref p) ⟨2, n, [o]⟩
  | two {p : Addr} {n : Nat} {f : Str} {s s' : V} {o o' : Option Nat} : H p = some (.tup [.str "two", .int n, .str f, s, s']) → n < 8 → f ∈ opsL → SrcOK H s o → SrcOK H s' o' → Tol H (.ref p) ⟨3, n, [o, o']⟩
  | put {p : Addr} {s s' : V} {o : Option Nat} : H p = some (.tup [.str "put", s, s']) → SelOK H s → SrcOK H s' o → Tol H (.ref p) ⟨4, 0, [o]⟩
  | tell {p : Addr} {s s' : V} {o : Option Nat} : H p = some (.tup [.str "tell", s, s']) → SelOK H s → SrcOK H s' o → Tol H (.ref p) ⟨5, 0, [o]⟩
  | store {p : Addr} {s s' : V} {o o' : Option Nat} : H p = some (.tup [.str "store", s, s']) → SrcOK H s o → SrcOK H s' o' → Tol H (.ref p) ⟨6, 0, [o, o']⟩
theorem Tol.kt {H H' : Hp} (k : TupK H H') {v : V} {m : Md} (h : Tol H v m) : Tol H' v m := by
  cases h with
  | get a b c => exact .get (k _ _ a) b (c.kt k)
  | ask a b c => exact .ask (k _ _ a) b (c.kt k)
  | cell a b c => exact .cell (k _ _ a) b (c.kt k)
  | two a b c d e => exact .two (k _ _ a) b c (d.kt k) (e.kt k)
  | put a b c => exact .put (k _ _ a) (b.kt k) (c.kt k)
  | tell a b c => exact .tell (k _ _ a) (b.kt k) (c.kt k)
  | store a b c => exact .store (k _ _ a) (b.kt k) (c.kt k)
inductive spIsStep (vs : List V) (H : Hp) (Q : VK) (Z3 : XK) : Prop
  | mk (v m : _) : vs = [v] → Tol H v m → (∀ H', Same H H' → Q (.bl true) H') → spIsStep vs H Q Z3
section
variable {P : Program} {w : World} {K : PySem.W.Frag} {mg : Str → Option Value} {base : Heap} {aO : Addr} {t1 t2 t3 t4 : Tok} {fs : Str → V}
theorem scWhole : FnScope ["thing"] ["thing"] (defScope sWhole) := ⟨rfl, rfl, rfl, by decide +kernel, rfl, by decide +kernel, by decide +kernel⟩
theorem ok_whole {f : Addr} {fd : FuncData} (F : Fun K "is_whole" "is_whole" sWhole f fd) (T : Bl mg) : FnOk P w K mg base CX0 1 f fd ["thing"] spWhole := by
  refine F.ok scWhole (fun vs H Q E h => ?_) (fun cdv A outer s H vs Q E hr h => ?_)
  · obtain ⟨i, rfl, _⟩ := h
    rfl
  · obtain ⟨i, rfl, q⟩ := h
    refine ⟨_, pss_one (ps_ret (pe_and (pe_callB isi_int_int (by rfl) T.isinstance boot_isi (pa_cons (pv 0) (pa_cons (pe_ty (by rfl) T.int PyProof.Rows.boot_int) pa_nil))) (pe_one (pe_not (pe_callB isi_int_bool (by rfl) T.isinstance boot_isi (pa_cons (pv 0) (pa_cons (pe_ty (by rfl) T.bool boot_bool') pa_nil))))))), ?_⟩
    exact ⟨_, rfl, i, rfl, _, rfl, iteT ⟨_, rfl, i, rfl, _, rfl, q⟩⟩
theorem scWithin : FnScope ["thing", "low", "high"] ["thing", "low", "high"] (defScope sWithin) := ⟨rfl, rfl, rfl, by decide +kernel, rfl, by decide +kernel, by decide +kernel⟩
theorem ok_within {f : Addr} {fd : FuncData} (F : Fun K "is_within" "is_within" sWithin f fd) (WH : Fn P w K mg base "is_whole" 1 ["thing"] spWhole) : FnOk P w K mg base CX0 2 f fd ["thing", "low", "high"] spWithin := by
  refine F.ok scWithin (fun vs H Q E h => ?_) (fun cdv A outer s H vs Q E hr h => ?_)
  · obtain ⟨i, lo, hi, rfl, _⟩ := h
    rfl
  · obtain ⟨i, lo, hi, rfl, h1, h2, q⟩ := h
    refine ⟨_, pss_one (ps_ret (pe_and (pe_fn WH hr rfl (pa_cons (pv 0) pa_nil)) (pe_one (pe_chain op_le op_le (pv 1) (pv 0) (pv 2))))), ?_⟩
    refine ⟨_, rfl, i, rfl, _, rfl, iteT ?_⟩
    refine ⟨_, rfl, _, rfl, _, _, rfl, rfl, _, rfl, iteA (by simpa using h1) ?_⟩
    refine ⟨_, rfl, _, _, rfl, rfl, ?_⟩
    show Q (.bl (decide (i ≤ hi))) H
    rw [decide_eq_true h2]
    exact q
theorem scOps : FnScope [] [] (defScope sOps) := ⟨rfl, rfl, rfl, by decide +kernel, rfl, by decide +kernel, by decide +kernel⟩
theorem ok_ops {f : Addr} {fd : FuncData} (F : Fun K "ops_told" "ops_told" sOps f fd) (T : Bl mg) (C : Cst K mg w aO t1 t2 t3 t4 fs) : FnOk P w K mg base CX0 1 f fd [] spOps := by
  refine F.ok scOps (fun vs H Q E h => ?_) (fun cdv A outer s H vs Q E hr h => ?_)
  · obtain ⟨rfl, _⟩ := h
    rfl
  · obtain ⟨rfl, q⟩ := h
    refine ⟨_, pss_one (ps_ret (pe_callTy (call_list_top rfl) (by rfl) T.list boot_list' (pa_cons (pe_glob (v := .ref aO) rfl C.ops rfl) pa_nil))), ?_⟩
    exact ⟨aO, _, rfl, C.dict, (show opsL.Nodup from by decide +kernel), C.lo, (by show 9 ≤ 1000; decide), fun p hp => q p hp⟩
theorem scHeaded : FnScope ["thing", "word", "many"] ["thing", "word", "many"] (defScope sHeaded) := ⟨rfl, rfl, rfl, by decide +kernel, rfl, by decide +kernel, by decide +kernel⟩
theorem ok_headed {f : Addr} {fd : FuncData} (F : Fun K "is_headed" "is_headed" sHeaded f fd) (T : Bl mg) : FnOk P w K mg base CX0 1 f fd ["thing", "word", "many"] spHeaded := by
  refine F.ok scHeaded (fun vs H Q E h => ?_) (fun cdv A outer s H vs Q E hr h => ?_)
  · obtain ⟨p, n, w, us, m, rfl, _⟩ := h
    rfl
  · obtain ⟨p, n, w, us, m, rfl, hp, q⟩ := h
    refine ⟨_, pss_one (ps_ret (pe_and (pe_callB (isi_ty (T := "tuple")) (by rfl) T.isinstance boot_isi (pa_cons (pv 0) (pa_cons (pe_ty (by rfl) T.tuple boot_tuple') pa_nil)))
      (pe_and (pe_cmpR op_eq (pe_callB call_len_seq (by rfl) T.len PySem.boot_len (pa_cons (pv 0) pa_nil)) (pv 2) (nomark _)) (pe_one (pe_cmpR op_eq (pe_ix ix_tup (pv 0) pe_int (fun _ _ => rfl)) (pv 1) (nomark _)))))), ?_⟩
    refine ⟨_, rfl, .ref p, _, _, rfl, .tup hp, rfl, _, rfl, iteT ?_⟩
    refine ⟨_, rfl, p, _, rfl, .inr (SqT.of hp), _, rfl, rfl, _, rfl, ?_⟩
    rw [dint]
    have e : decide (((V.str n :: us).length : Int) = (m : Int)) = decide (us.length + 1 = m) := by
      rw [List.length_cons]
      by_cases h : us.length + 1 = m
      · subst h; simp
      · have : ¬ ((us.length + 1 : Nat) : Int) = (m : Int) := by lia
        simp only [h, this, decide_false]
    rw [e]
    refine ite2 (fun h => ?_) (fun h => ?_)
    · refine ⟨_, rfl, p, _, _, _, rfl, rfl, SqT.of hp, at0 _ _, _, rfl, rfl, ?_⟩
      rw [dstr]
      rw [h, Bool.true_and] at q
      exact q
    · rw [Bool.eq_false_iff.mpr h, Bool.false_and] at q
      exact q
theorem scInner : FnScope ["thing"] ["thing"] (defScope sInner) := ⟨rfl, rfl, rfl, by decide +kernel, rfl, by decide +kernel, by decide +kernel⟩
theorem ok_inner {f : Addr} {fd : FuncData} (F : Fun K "is_inner" "is_inner" sInner f fd) (C : Cst K mg w aO t1 t2 t3 t4 fs) (WI : Fn P w K mg base "is_within" 2 ["thing", "low", "high"] spWithin) : FnOk P w K mg base CX0 3 f fd ["thing"] (spTo 7) := by
  refine F.ok scInner (fun vs H Q E h => ?_) (fun cdv A outer s H vs Q E hr h => ?_)
  · obtain ⟨i, rfl, _⟩ := h
    rfl
  · obtain ⟨i, rfl, h1, h2, q⟩ := h
    refine ⟨_, pss_one (ps_ret (pe_fn WI hr rfl (pa_cons (pv 0) (pa_cons pe_int (pa_cons (pe_glob (v := .int 7) rfl C.inner ⟨_, rfl⟩) pa_nil))))), ?_⟩
    exact ⟨_, rfl, i, 0, 7, rfl, h1, h2, q⟩
theorem scField : FnScope ["thing"] ["thing"] (defScope sField) := ⟨rfl, rfl, rfl, by decide +kernel, rfl, by decide +kernel, by decide +kernel⟩
theorem ok_field {f : Addr} {fd : FuncData} (F : Fun K "is_field" "is_field" sField f fd) (C : Cst K mg w aO t1 t2 t3 t4 fs) (WI : Fn P w K mg base "is_within" 2 ["thing", "low", "high"] spWithin) : FnOk P w K mg base CX0 3 f fd ["thing"] (spTo 2) := by
  refine F.ok scField (fun vs H Q E h => ?_) (fun cdv A outer s H vs Q E hr h => ?_)
  · obtain ⟨i, rfl, _⟩ := h
    rfl
  · obtain ⟨i, rfl, h1, h2, q⟩ := h
    refine ⟨_, pss_one (ps_ret (pe_fn WI hr rfl (pa_cons (pv 0) (pa_cons pe_int (pa_cons (pe_glob (v := .int 2) rfl C.field ⟨_, rfl⟩) pa_nil))))), ?_⟩
    exact ⟨_, rfl, i, 0, 2, rfl, h1, h2, q⟩
theorem scSel : FnScope ["thing"] ["thing"] (defScope sSel) := ⟨rfl, rfl, rfl, by decide +kernel, rfl, by decide +kernel, by decide +kernel⟩
theorem ok_sel {f : Addr} {fd : FuncData} (F : Fun K "is_sel" "is_sel" sSel f fd) (C : Cst K mg w aO t1 t2 t3 t4 fs) (WI : Fn P w K mg base "is_within" 2 ["thing", "low", "high"] spWithin) (HD : Fn P w K mg base "is_headed" 1 ["thing", "word", "many"] spHeaded) (FI : Fn P w K mg base "is_field" 3 ["thing"] (spTo 2)) :
    FnOk P w K mg base CX0 4 f fd ["thing"] spSel := by
  refine F.ok scSel (fun vs H Q E h => ?_) (fun cdv A outer s H vs Q E hr h => ?_)
  · obtain ⟨v, rfl, _⟩ := h
    rfl
  · obtain ⟨v, rfl, ⟨p, n, i, rfl, hp, hn⟩, q⟩ := h
    have hr1 : Room 1 _ := hr.mono (by decide)
    have hr2 : Room 2 _ := hr.mono (by decide)
    refine ⟨_, pss_cons (ps_if (pt_val (pe_fn HD hr1 rfl (pa_cons (pv 0) (pa_cons pe_str (pa_cons pe_int pa_nil))))) (pss_one (ps_ret (pe_fn WI hr2 rfl (pa_cons (pe_ix ix_tup (pv 0) pe_int (fun _ _ => rfl)) (pa_cons pe_int (pa_cons (pe_glob (v := .int 3) rfl C.sel ⟨_, rfl⟩) pa_nil)))))) pss_nil)
      (pss_one (ps_ret (pe_and (pe_fn HD hr1 rfl (pa_cons (pv 0) (pa_cons pe_str (pa_cons pe_int pa_nil)))) (pe_one (pe_fn FI hr rfl (pa_cons (pe_ix ix_tup (pv 0) pe_int (fun _ _ => rfl)) pa_nil)))))), ?_⟩
    rcases hn with ⟨rfl, h1, h2⟩ | ⟨rfl, h1, h2⟩
    · refine ⟨_, rfl, p, _, _, _, 2, rfl, hp, _, rfl, iteA (hdT rfl) ?_⟩
      exact ⟨_, rfl, p, _, _, _, rfl, rfl, SqT.of hp, rfl, i, 0, 3, rfl, h1, h2, q⟩
    · refine ⟨_, rfl, p, _, _, _, 2, rfl, hp, _, rfl, iteB (hdF (by decide +kernel)) ?_⟩
      refine ⟨_, rfl, p, _, _, _, 2, rfl, hp, _, rfl, iteA (hdT rfl) ?_⟩
      exact ⟨_, rfl, p, _, _, _, rfl, rfl, SqT.of hp, rfl, i, rfl, h1, h2, q⟩
theorem scSource : FnScope ["thing"] ["thing"] (defScope sSource) := ⟨rfl, rfl, rfl, by decide +kernel, rfl, by decide +kernel, by decide +kernel⟩
theorem ok_source {f : Addr} {fd : FuncData} (F : Fun K "is_source" "is_source" sSource f fd) (C : Cst K mg w aO t1 t2 t3 t4 fs) (WI : Fn P w K mg base "is_within" 2 ["thing", "low", "high"] spWithin) (HD : Fn P w K mg base "is_headed" 1 ["thing", "word", "many"] spHeaded) (FI : Fn P w K mg base "is_field" 3 ["thing"] (spTo 2)) (IN : Fn P w K mg base "is_inner" 3 ["thing"] (spTo 7)) :
    FnOk P w K mg base CX0 4 f fd ["thing"] spSource := by
  refine F.ok scSource (fun vs H Q E h => ?_) (fun cdv A outer s H vs Q E hr h => ?_)
  · obtain ⟨v, o, rfl, _⟩ := h
    rfl
  · obtain ⟨v, o, rfl, ⟨p, n, i, rfl, hp, hn⟩, q⟩ := h
    have hr1 : Room 1 _ := hr.mono (by decide)
    have hr2 : Room 2 _ := hr.mono (by decide)
    refine ⟨_, pss_cons (ps_if (pt_val (pe_fn HD hr1 rfl (pa_cons (pv 0) (pa_cons pe_str (pa_cons pe_int pa_nil))))) (pss_one (ps_ret (pe_fn IN hr rfl (pa_cons (pe_ix ix_tup (pv 0) pe_int (fun _ _ => rfl)) pa_nil)))) pss_nil)
      (pss_cons (ps_if (pt_val (pe_fn HD hr1 rfl (pa_cons (pv 0) (pa_cons pe_str (pa_cons pe_int pa_nil))))) (pss_one (ps_ret (pe_fn WI hr2 rfl (pa_cons (pe_ix ix_tup (pv 0) pe_int (fun _ _ => rfl)) (pa_cons pe_int (pa_cons (pe_glob (v := .int 16777215) rfl C.word ⟨_, rfl⟩) pa_nil)))))) pss_nil)
      (pss_one (ps_ret (pe_and (pe_fn HD hr1 rfl (pa_cons (pv 0) (pa_cons pe_str (pa_cons pe_int pa_nil)))) (pe_one (pe_fn FI hr rfl (pa_cons (pe_ix ix_tup (pv 0) pe_int (fun _ _ => rfl)) pa_nil))))))), ?_⟩
    rcases hn with ⟨rfl, h1, h2, _⟩ | ⟨rfl, h1, h2, _⟩ | ⟨rfl, h1, h2, _⟩
    · refine ⟨_, rfl, p, _, _, _, 2, rfl, hp, _, rfl, iteA (hdT rfl) ?_⟩
      exact ⟨_, rfl, p, _, _, _, rfl, rfl, SqT.of hp, rfl, i, rfl, h1, h2, q⟩
    · refine ⟨_, rfl, p, _, _, _, 2, rfl, hp, _, rfl, iteB (hdF (by decide +kernel)) ?_⟩
      refine ⟨_, rfl, p, _, _, _, 2, rfl, hp, _, rfl, iteA (hdT rfl) ?_⟩
      exact ⟨_, rfl, p, _, _, _, rfl, rfl, SqT.of hp, rfl, i, 0, 16777215, rfl, h1, h2, q⟩
    · refine ⟨_, rfl, p, _, _, _, 2, rfl, hp, _, rfl, iteB (hdF (by decide +kernel)) ?_⟩
      refine ⟨_, rfl, p, _, _, _, 2, rfl, hp, _, rfl, iteB (hdF (by decide +kernel)) ?_⟩
      refine ⟨_, rfl, p, _, _, _, 2, rfl, hp, _, rfl, iteA (hdT rfl) ?_⟩
      exact ⟨_, rfl, p, _, _, _, rfl, rfl, SqT.of hp, rfl, i, rfl, h1, h2, q⟩
end
end L3
namespace L3
open PySem L2
theorem in_ops : ∀ f ∈ opsL, inV (.str f) (opsL.map V.str) = true := by decide +kernel
section
variable {P : Program} {w : World} {K : PySem.W.Frag} {mg : Str → Option Value} {base : Heap} {aO : Addr} {t1 t2 t3 t4 : Tok} {fs : Str → V}
theorem scIsStep : FnScope ["thing"] ["thing"] (defScope sIsStep) := ⟨rfl, rfl, rfl, by decide +kernel, rfl, by decide +kernel, by decide +kernel⟩
set_option maxHeartbeats 2000000 in
theorem ok_isStep {f : Addr} {fd : FuncData} (F : Fun K "is_step" "is_step" sIsStep f fd) (HD : Fn P w K mg base "is_headed" 1 ["thing", "word", "many"] spHeaded) (IN : Fn P w K mg base "is_inner" 3 ["thing"] (spTo 7)) (SE : Fn P w K mg base "is_sel" 4 ["thing"] spSel) (SO : Fn P w K mg base "is_source" 4 ["thing"] spSource) (OP : Fn P w K mg base "ops_told" 1 [] spOps) :
    FnOk P w K mg base CX0 5 f fd ["thing"] spIsStep := by
  refine F.ok scIsStep (fun vs H Q E h => ?_) (fun cdv A outer s H vs Q E hr h => ?_)
  · obtain ⟨v, m, rfl, _⟩ := h
    rfl
  · obtain ⟨v, m, rfl, ht, q⟩ := h
    have hr1 : Room 1 _ := hr.mono (by decide)
    have hr3 : Room 3 _ := hr.mono (by decide)
    refine ⟨_, pss_cons (ps_if (PW.pt (pw_or (pt_val (pe_fn HD hr1 rfl (pa_cons (pv 0) (pa_cons pe_str (pa_cons pe_int pa_nil))))) (pw_or1 (pt_val (pe_fn HD hr1 rfl (pa_cons (pv 0) (pa_cons pe_str (pa_cons pe_int pa_nil)))))))) (pss_one (ps_ret (pe_and (pe_fn IN hr3 rfl (pa_cons (pe_ix ix_tup (pv 0) pe_int (fun _ _ => rfl)) pa_nil)) (pe_one (pe_fn SE hr rfl (pa_cons (pe_ix ix_tup (pv 0) pe_int (fun _ _ => rfl)) pa_nil)))))) pss_nil)
      (pss_cons (ps_if (pt_val (pe_fn HD hr1 rfl (pa_cons (pv 0) (pa_cons pe_str (pa_cons pe_int pa_nil))))) (pss_one (ps_ret (pe_and (pe_fn IN hr3 rfl (pa_cons (pe_ix ix_tup (pv 0) pe_int (fun _ _ => rfl)) pa_nil)) (pe_one (pe_fn SO hr rfl (pa_cons (pe_ix ix_tup (pv 0) pe_int (fun _ _ => rfl)) pa_nil)))))) pss_nil)
      (pss_cons (ps_if (pt_val (pe_fn HD hr1 rfl (pa_cons (pv 0) (pa_cons pe_str (pa_cons pe_int pa_nil))))) (pss_one (ps_ret (pe_and (pe_fn IN hr3 rfl (pa_cons (pe_ix ix_tup (pv 0) pe_int (fun _ _ => rfl)) pa_nil)) (pe_and (pe_cmpR op_in_seq (pe_ix ix_tup (pv 0) pe_int (fun _ _ => rfl)) (pe_fn0 OP hr1 rfl) rfl) (pe_and (pe_fn SO hr rfl (pa_cons (pe_ix ix_tup (pv 0) pe_int (fun _ _ => rfl)) pa_nil)) (pe_one (pe_fn SO hr rfl (pa_cons (pe_ix ix_tup (pv 0) pe_int (fun _ _ => rfl)) pa_nil)))))))) pss_nil)
      (pss_cons (ps_if (PW.pt (pw_or (pt_val (pe_fn HD hr1 rfl (pa_cons (pv 0) (pa_cons pe_str (pa_cons pe_int pa_nil))))) (pw_or1 (pt_val (pe_fn HD hr1 rfl (pa_cons (pv 0) (pa_cons pe_str (pa_cons pe_int pa_nil)))))))) (pss_one (ps_ret (pe_and (pe_fn SE hr rfl (pa_cons (pe_ix ix_tup (pv 0) pe_int (fun _ _ => rfl)) pa_nil)) (pe_one (pe_fn SO hr rfl (pa_cons (pe_ix ix_tup (pv 0) pe_int (fun _ _ => rfl)) pa_nil)))))) pss_nil)
      (pss_one (ps_ret (pe_and (pe_fn HD hr1 rfl (pa_cons (pv 0) (pa_cons pe_str (pa_cons pe_int pa_nil)))) (pe_and (pe_fn SO hr rfl (pa_cons (pe_ix ix_tup (pv 0) pe_int (fun _ _ => rfl)) pa_nil)) (pe_one (pe_fn SO hr rfl (pa_cons (pe_ix ix_tup (pv 0) pe_int (fun _ _ => rfl)) pa_nil)))))))))), ?_⟩
    cases ht with
    | @get p n s hp hn hs =>
      refine ⟨_, rfl, p, _, _, _, 3, rfl, hp, _, rfl, iteA (hdT rfl) ?_⟩
      refine ⟨_, rfl, p, _, _, _, rfl, rfl, SqT.of hp, rfl, n, rfl, by lia, by lia, _, rfl, iteT ?_⟩
      exact ⟨_, rfl, p, _, _, _, rfl, rfl, SqT.of hp, rfl, _, rfl, hs, q _ (Same.refl _)⟩
    | @ask p n s hp hn hs =>
      refine ⟨_, rfl, p, _, _, _, 3, rfl, hp, _, rfl, iteB (hdF (by decide +kernel)) ?_⟩
      refine ⟨_, rfl, p, _, _, _, 3, rfl, hp, _, rfl, iteA (hdT rfl) ?_⟩
      refine ⟨_, rfl, p, _, _, _, rfl, rfl, SqT.of hp, rfl, n, rfl, by lia, by lia, _, rfl, iteT ?_⟩
      exact ⟨_, rfl, p, _, _, _, rfl, rfl, SqT.of hp, rfl, _, rfl, hs, q _ (Same.refl _)⟩
    | @cell p n s o hp hn hs =>
      refine ⟨_, rfl, p, _, _, _, 3, rfl, hp, _, rfl, iteB (hdF (by decide +kernel)) ?_⟩
      refine ⟨_, rfl, p, _, _, _, 3, rfl, hp, _, rfl, iteB (hdF (by decide +kernel)) ?_⟩
      refine ⟨_, rfl, p, _, _, _, 3, rfl, hp, _, rfl, iteA (hdT rfl) ?_⟩
      refine ⟨_, rfl, p, _, _, _, rfl, rfl, SqT.of hp, rfl, n, rfl, by lia, by lia, _, rfl, iteT ?_⟩
      exact ⟨_, rfl, p, _, _, _, rfl, rfl, SqT.of hp, rfl, _, _, rfl, hs, q _ (Same.refl _)⟩
    | @two p n f s s' o o' hp hn hf hs hs2 =>
      refine ⟨_, rfl, p, _, _, _, 3, rfl, hp, _, rfl, iteB (hdF (by decide +kernel)) ?_⟩
      refine ⟨_, rfl, p, _, _, _, 3, rfl, hp, _, rfl, iteB (hdF (by decide +kernel)) ?_⟩
      refine ⟨_, rfl, p, _, _, _, 3, rfl, hp, _, rfl, iteB (hdF (by decide +kernel)) ?_⟩
      refine ⟨_, rfl, p, _, _, _, 5, rfl, hp, _, rfl, iteA (hdT rfl) ?_⟩
      refine ⟨_, rfl, p, _, _, _, rfl, rfl, SqT.of hp, rfl, n, rfl, by lia, by lia, _, rfl, iteT ?_⟩
      refine ⟨_, rfl, p, _, _, _, rfl, rfl, SqT.of hp, rfl, rfl, fun l nl => ?_⟩
      have s1 := same_new (o := .lst (opsL.map V.str)) nl
      refine ⟨l, _, rfl, .inl (SqL.of upd_same), rfl, by decide +kernel, _, rfl, iteA (in_ops _ hf) ?_⟩
      refine ⟨_, rfl, p, _, _, _, rfl, rfl, SqT.of (s1 _ _ hp), rfl, _, _, rfl, hs.kt (kt_same s1), _, rfl, iteT ?_⟩
      exact ⟨_, rfl, p, _, _, _, rfl, rfl, SqT.of (s1 _ _ hp), rfl, _, _, rfl, hs2.kt (kt_same s1), q _ s1⟩
    | @put p s s' o hp hs hs2 =>
      refine ⟨_, rfl, p, _, _, _, 3, rfl, hp, _, rfl, iteB (hdF (by decide +kernel)) ?_⟩
      refine ⟨_, rfl, p, _, _, _, 3, rfl, hp, _, rfl, iteB (hdF (by decide +kernel)) ?_⟩
      refine ⟨_, rfl, p, _, _, _, 3, rfl, hp, _, rfl, iteB (hdF (by decide +kernel)) ?_⟩
      refine ⟨_, rfl, p, _, _, _, 5, rfl, hp, _, rfl, iteB (hdF (by decide +kernel)) ?_⟩
      refine ⟨_, rfl, p, _, _, _, 3, rfl, hp, _, rfl, iteA (hdT rfl) ?_⟩
      refine ⟨_, rfl, p, _, _, _, rfl, rfl, SqT.of hp, rfl, _, rfl, hs, _, rfl, iteT ?_⟩
      exact ⟨_, rfl, p, _, _, _, rfl, rfl, SqT.of hp, rfl, _, _, rfl, hs2, q _ (Same.refl _)⟩
    | @tell p s s' o hp hs hs2 =>
      refine ⟨_, rfl, p, _, _, _, 3, rfl, hp, _, rfl, iteB (hdF (by decide +kernel)) ?_⟩
      refine ⟨_, rfl, p, _, _, _, 3, rfl, hp, _, rfl, iteB (hdF (by decide +kernel)) ?_⟩
      refine ⟨_, rfl, p, _, _, _, 3, rfl, hp, _, rfl, iteB (hdF (by decide +kernel)) ?_⟩
      refine ⟨_, rfl, p, _, _, _, 5, rfl, hp, _, rfl, iteB (hdF (by decide +kernel)) ?_⟩
      refine ⟨_, rfl, p, _, _, _, 3, rfl, hp, _, rfl, iteB (hdF (by decide +kernel)) ?_⟩
      refine ⟨_, rfl, p, _, _, _, 3, rfl, hp, _, rfl, iteA (hdT rfl) ?_⟩
      refine ⟨_, rfl, p, _, _, _, rfl, rfl, SqT.of hp, rfl, _, rfl, hs, _, rfl, iteT ?_⟩
      exact ⟨_, rfl, p, _, _, _, rfl, rfl, SqT.of hp, rfl, _, _, rfl, hs2, q _ (Same.refl _)⟩
    | @store p s s' o o' hp hs hs2 =>
      refine ⟨_, rfl, p, _, _, _, 3, rfl, hp, _, rfl, iteB (hdF (by decide +kernel)) ?_⟩
      refine ⟨_, rfl, p, _, _, _, 3, rfl, hp, _, rfl, iteB (hdF (by decide +kernel)) ?_⟩
      refine ⟨_, rfl, p, _, _, _, 3, rfl, hp, _, rfl, iteB (hdF (by decide +kernel)) ?_⟩
      refine ⟨_, rfl, p, _, _, _, 5, rfl, hp, _, rfl, iteB (hdF (by decide +kernel)) ?_⟩
      refine ⟨_, rfl, p, _, _, _, 3, rfl, hp, _, rfl, iteB (hdF (by decide +kernel)) ?_⟩
      refine ⟨_, rfl, p, _, _, _, 3, rfl, hp, _, rfl, iteB (hdF (by decide +kernel)) ?_⟩
      refine ⟨_, rfl, p, _, _, _, 3, rfl, hp, _, rfl, iteA (hdT rfl) ?_⟩
      refine ⟨_, rfl, p, _, _, _, rfl, rfl, SqT.of hp, rfl, _, _, rfl, hs, _, rfl, iteT ?_⟩
      exact ⟨_, rfl, p, _, _, _, rfl, rfl, SqT.of hp, rfl, _, _, rfl, hs2, q _ (Same.refl _)⟩
def nmK : Nat → Str
  | 0 => "Get"
  | 1 => "Ask"
  | 2 => "Cell"
  | 3 => "Two"
  | 4 => "Put"
  | 5 => "Tell"
  | _ => "Store"
def flK : Nat → List Str
  | 0 => ["to", "sel"]
  | 1 => ["to", "sel"]
  | 2 => ["to", "source"]
  | 3 => ["to", "op", "one", "other"]
  | 4 => ["sel", "source"]
  | 5 => ["sel", "source"]
  | _ => ["at", "source"]
structure Ct (K : PySem.W.Frag) (mg : Str → Option Value) (C fi : Nat → Addr) : Prop where
  cls : ∀ k, k < 7 → Cls K (C k)
  na : ∀ k, k < 7 → ∀ f ∈ flK k, NoAttr K (C k) f
  mk_ : ∀ k, k < 7 → Mk K (C k) (fi k)
  mg : ∀ k, k < 7 → mg (nmK k) = some (.ref (C k))
inductive spI2 (C : Addr) (a : Str) (b : Str) (vs : List V) (H : Hp) (Q : VK) (Z3 : XK) : Prop
  | mk (x dx : Addr) (u v : V) : vs = [.ref x, u, v] → H x = some (.ins C dx []) → Q .non (upd (upd H x (.ins C dx [(a, u)])) x (.ins C dx [(a, u), (b, v)])) → spI2 C a b vs H Q Z3
inductive spI4 (C : Addr) (a : Str) (b : Str) (c : Str) (d : Str) (vs : List V) (H : Hp) (Q : VK) (Z3 : XK) : Prop
  | mk (x dx : Addr) (u v y z : V) : vs = [.ref x, u, v, y, z] → H x = some (.ins C dx []) → Q .non (upd (upd (upd (upd H x (.ins C dx [(a, u)])) x (.ins C dx [(a, u), (b, v)])) x (.ins C dx [(a, u), (b, v), (c, y)])) x (.ins C dx [(a, u), (b, v), (c, y), (d, z)])) → spI4 C a b c d vs H Q Z3
abbrev sI0 : Stmt := inClass (top 37) 0
theorem scI0 : FnScope ["self", "to", "sel"] ["self", "to", "sel"] (defScope sI0) := ⟨rfl, rfl, rfl, by decide +kernel, rfl, by decide +kernel, by decide +kernel⟩
theorem ok_I0 {C fi : Nat → Addr} {f : Addr} {fd : FuncData} (F : Fun K "__init__" "Get.__init__" sI0 f fd) (T : Ct K mg C fi) : FnOk P w K mg base CX0 1 f fd ["self", "to", "sel"] (spI2 (C 0) "to" "sel") := by
  refine F.ok scI0 (fun vs H Q E h => ?_) (fun cdv A outer s H vs Q E hr h => ?_)
  · obtain ⟨x, dx, u, v, rfl, _⟩ := h
    rfl
  · obtain ⟨x, dx, u, v, rfl, hx, q⟩ := h
    refine ⟨_, pss_cons (ps_fld (pv 0) (pv 1) rfl) (pss_one (ps_fld (pv 0) (pv 2) rfl)), ?_⟩
    refine ⟨_, rfl, _, rfl, x, C 0, dx, _, rfl, hx, T.cls 0 (by decide), (T.na 0 (by decide) "to" (by decide +kernel)), (by show 0 < 1000; decide), ?_⟩
    exact ⟨_, rfl, _, rfl, x, C 0, dx, _, rfl, upd_same, T.cls 0 (by decide), (T.na 0 (by decide) "sel" (by decide +kernel)), (by show 1 < 1000; decide), q⟩
abbrev sI1 : Stmt := inClass (top 38) 0
theorem scI1 : FnScope ["self", "to", "sel"] ["self", "to", "sel"] (defScope sI1) := ⟨rfl, rfl, rfl, by decide +kernel, rfl, by decide +kernel, by decide +kernel⟩
theorem ok_I1 {C fi : Nat → Addr} {f : Addr} {fd : FuncData} (F : Fun K "__init__" "Ask.__init__" sI1 f fd) (T : Ct K mg C fi) : FnOk P w K mg base CX0 1 f fd ["self", "to", "sel"] (spI2 (C 1) "to" "sel") := by
  refine F.ok scI1 (fun vs H Q E h => ?_) (fun cdv A outer s H vs Q E hr h => ?_)
  · obtain ⟨x, dx, u, v, rfl, _⟩ := h
    rfl
  · obtain ⟨x, dx, u, v, rfl, hx, q⟩ := h
    refine ⟨_, pss_cons (ps_fld (pv 0) (pv 1) rfl) (pss_one (ps_fld (pv 0) (pv 2) rfl)), ?_⟩
    refine ⟨_, rfl, _, rfl, x, C 1, dx, _, rfl, hx, T.cls 1 (by decide), (T.na 1 (by decide) "to" (by decide +kernel)), (by show 0 < 1000; decide), ?_⟩
    exact ⟨_, rfl, _, rfl, x, C 1, dx, _, rfl, upd_same, T.cls 1 (by decide), (T.na 1 (by decide) "sel" (by decide +kernel)), (by show 1 < 1000; decide), q⟩
abbrev sI2 : Stmt := inClass (top 39) 0
theorem scI2 : FnScope ["self", "to", "source"] ["self", "to", "source"] (defScope sI2) := ⟨rfl, rfl, rfl, by decide +kernel, rfl, by decide +kernel, by decide +kernel⟩
theorem ok_I2 {C fi : Nat → Addr} {f : Addr} {fd : FuncData} (F : Fun K "__init__" "Cell.__init__" sI2 f fd) (T : Ct K mg C fi) : FnOk P w K mg base CX0 1 f fd ["self", "to", "source"] (spI2 (C 2) "to" "source") := by
  refine F.ok scI2 (fun vs H Q E h => ?_) (fun cdv A outer s H vs Q E hr h => ?_)
  · obtain ⟨x, dx, u, v, rfl, _⟩ := h
    rfl
  · obtain ⟨x, dx, u, v, rfl, hx, q⟩ := h
    refine ⟨_, pss_cons (ps_fld (pv 0) (pv 1) rfl) (pss_one (ps_fld (pv 0) (pv 2) rfl)), ?_⟩
    refine ⟨_, rfl, _, rfl, x, C 2, dx, _, rfl, hx, T.cls 2 (by decide), (T.na 2 (by decide) "to" (by decide +kernel)), (by show 0 < 1000; decide), ?_⟩
    exact ⟨_, rfl, _, rfl, x, C 2, dx, _, rfl, upd_same, T.cls 2 (by decide), (T.na 2 (by decide) "source" (by decide +kernel)), (by show 1 < 1000; decide), q⟩
abbrev sI3 : Stmt := inClass (top 40) 0
theorem scI3 : FnScope ["self", "to", "op", "one", "other"] ["self", "to", "op", "one", "other"] (defScope sI3) := ⟨rfl, rfl, rfl, by decide +kernel, rfl, by decide +kernel, by decide +kernel⟩
theorem ok_I3 {C fi : Nat → Addr} {f : Addr} {fd : FuncData} (F : Fun K "__init__" "Two.__init__" sI3 f fd) (T : Ct K mg C fi) : FnOk P w K mg base CX0 1 f fd ["self", "to", "op", "one", "other"] (spI4 (C 3) "to" "op" "one" "other") := by
  refine F.ok scI3 (fun vs H Q E h => ?_) (fun cdv A outer s H vs Q E hr h => ?_)
  · obtain ⟨x, dx, u, v, y, z, rfl, _⟩ := h
    rfl
  · obtain ⟨x, dx, u, v, y, z, rfl, hx, q⟩ := h
    refine ⟨_, pss_cons (ps_fld (pv 0) (pv 1) rfl) (pss_cons (ps_fld (pv 0) (pv 2) rfl) (pss_cons (ps_fld (pv 0) (pv 3) rfl) (pss_one (ps_fld (pv 0) (pv 4) rfl)))), ?_⟩
    refine ⟨_, rfl, _, rfl, x, C 3, dx, _, rfl, hx, T.cls 3 (by decide), (T.na 3 (by decide) "to" (by decide +kernel)), (by show 0 < 1000; decide), ?_⟩
    refine ⟨_, rfl, _, rfl, x, C 3, dx, _, rfl, upd_same, T.cls 3 (by decide), (T.na 3 (by decide) "op" (by decide +kernel)), (by show 1 < 1000; decide), ?_⟩
    refine ⟨_, rfl, _, rfl, x, C 3, dx, _, rfl, upd_same, T.cls 3 (by decide), (T.na 3 (by decide) "one" (by decide +kernel)), (by show 2 < 1000; decide), ?_⟩
    exact ⟨_, rfl, _, rfl, x, C 3, dx, _, rfl, upd_same, T.cls 3 (by decide), (T.na 3 (by decide) "other" (by decide +kernel)), (by show 3 < 1000; decide), q⟩
abbrev sI4 : Stmt := inClass (top 41) 0
theorem scI4 : FnScope ["self", "sel", "source"] ["self", "sel", "source"] (defScope sI4) := ⟨rfl, rfl, rfl, by decide +kernel, rfl, by decide +kernel, by decide +kernel⟩
theorem ok_I4 {C fi : Nat → Addr} {f : Addr} {fd : FuncData} (F : Fun K "__init__" "Put.__init__" sI4 f fd) (T : Ct K mg C fi) : FnOk P w K mg base CX0 1 f fd ["self", "sel", "source"] (spI2 (C 4) "sel" "source") := by
  refine F.ok scI4 (fun vs H Q E h => ?_) (fun cdv A outer s H vs Q E hr h => ?_)
  · obtain ⟨x, dx, u, v, rfl, _⟩ := h
    rfl
  · obtain ⟨x, dx, u, v, rfl, hx, q⟩ := h
    refine ⟨_, pss_cons (ps_fld (pv 0) (pv 1) rfl) (pss_one (ps_fld (pv 0) (pv 2) rfl)), ?_⟩
    refine ⟨_, rfl, _, rfl, x, C 4, dx, _, rfl, hx, T.cls 4 (by decide), (T.na 4 (by decide) "sel" (by decide +kernel)), (by show 0 < 1000; decide), ?_⟩
    exact ⟨_, rfl, _, rfl, x, C 4, dx, _, rfl, upd_same, T.cls 4 (by decide), (T.na 4 (by decide) "source" (by decide +kernel)), (by show 1 < 1000; decide), q⟩
abbrev sI5 : Stmt := inClass (top 42) 0
theorem scI5 : FnScope ["self", "sel", "source"] ["self", "sel", "source"] (defScope sI5) := ⟨rfl, rfl, rfl, by decide +kernel, rfl, by decide +kernel, by decide +kernel⟩
theorem ok_I5 {C fi : Nat → Addr} {f : Addr} {fd : FuncData} (F : Fun K "__init__" "Tell.__init__" sI5 f fd) (T : Ct K mg C fi) : FnOk P w K mg base CX0 1 f fd ["self", "sel", "source"] (spI2 (C 5) "sel" "source") := by
  refine F.ok scI5 (fun vs H Q E h => ?_) (fun cdv A outer s H vs Q E hr h => ?_)
  · obtain ⟨x, dx, u, v, rfl, _⟩ := h
    rfl
  · obtain ⟨x, dx, u, v, rfl, hx, q⟩ := h
    refine ⟨_, pss_cons (ps_fld (pv 0) (pv 1) rfl) (pss_one (ps_fld (pv 0) (pv 2) rfl)), ?_⟩
    refine ⟨_, rfl, _, rfl, x, C 5, dx, _, rfl, hx, T.cls 5 (by decide), (T.na 5 (by decide) "sel" (by decide +kernel)), (by show 0 < 1000; decide), ?_⟩
    exact ⟨_, rfl, _, rfl, x, C 5, dx, _, rfl, upd_same, T.cls 5 (by decide), (T.na 5 (by decide) "source" (by decide +kernel)), (by show 1 < 1000; decide), q⟩
abbrev sI6 : Stmt := inClass (top 43) 0
theorem scI6 : FnScope ["self", "at", "source"] ["self", "at", "source"] (defScope sI6) := ⟨rfl, rfl, rfl, by decide +kernel, rfl, by decide +kernel, by decide +kernel⟩
theorem ok_I6 {C fi : Nat → Addr} {f : Addr} {fd : FuncData} (F : Fun K "__init__" "Store.__init__" sI6 f fd) (T : Ct K mg C fi) : FnOk P w K mg base CX0 1 f fd ["self", "at", "source"] (spI2 (C 6) "at" "source") := by
  refine F.ok scI6 (fun vs H Q E h => ?_) (fun cdv A outer s H vs Q E hr h => ?_)
  · obtain ⟨x, dx, u, v, rfl, _⟩ := h
    rfl
  · obtain ⟨x, dx, u, v, rfl, hx, q⟩ := h
    refine ⟨_, pss_cons (ps_fld (pv 0) (pv 1) rfl) (pss_one (ps_fld (pv 0) (pv 2) rfl)), ?_⟩
    refine ⟨_, rfl, _, rfl, x, C 6, dx, _, rfl, hx, T.cls 6 (by decide), (T.na 6 (by decide) "at" (by decide +kernel)), (by show 0 < 1000; decide), ?_⟩
    exact ⟨_, rfl, _, rfl, x, C 6, dx, _, rfl, upd_same, T.cls 6 (by decide), (T.na 6 (by decide) "source" (by decide +kernel)), (by show 1 < 1000; decide), q⟩
end
end L3
namespace L3
open PySem L2
inductive StepV (C : Nat → Addr) (H : Hp) : V → Md → Prop
  | get {a dx : Addr} {n : Nat} {v : V} : H a = some (.ins (C 0) dx [("to", .int n), ("sel", v)]) → n < 8 → StepV C H (.ref a) ⟨0, n, []⟩
  | ask {a dx : Addr} {n : Nat} {v : V} : H a = some (.ins (C 1) dx [("to", .int n), ("sel", v)]) → n < 8 → StepV C H (.ref a) ⟨1, n, []⟩
  | cell {a dx : Addr} {n : Nat} {s : V} {o : Option Nat} : H a = some (.ins (C 2) dx [("to", .int n), ("source", s)]) → n < 8 → SrcOK H s o → StepV C H (.ref a) ⟨2, n, [o]⟩
  | two {a dx : Addr} {n : Nat} {f s s' : V} {o o' : Option Nat} : H a = some (.ins (C 3) dx [("to", .int n), ("op", f), ("one", s), ("other", s')]) → n < 8 → SrcOK H s o → SrcOK H s' o' → StepV C H (.ref a) ⟨3, n, [o, o']⟩
  | put {a dx : Addr} {v s : V} {o : Option Nat} : H a = some (.ins (C 4) dx [("sel", v), ("source", s)]) → SrcOK H s o → StepV C H (.ref a) ⟨4, 0, [o]⟩
  | tell {a dx : Addr} {v s : V} {o : Option Nat} : H a = some (.ins (C 5) dx [("sel", v), ("source", s)]) → SrcOK H s o → StepV C H (.ref a) ⟨5, 0, [o]⟩
  | store {a dx : Addr} {s s' : V} {o o' : Option Nat} : H a = some (.ins (C 6) dx [("at", s), ("source", s')]) → SrcOK H s o → SrcOK H s' o' → StepV C H (.ref a) ⟨6, 0, [o, o']⟩
theorem StepV.same {C : Nat → Addr} {H H' : Hp} (s : Same H H') {v : V} {m : Md} (h : StepV C H v m) : StepV C H' v m := by
  have k := kt_same s
  cases h with
  | get a b => exact .get (s _ _ a) b
  | ask a b => exact .ask (s _ _ a) b
  | cell a b c => exact .cell (s _ _ a) b (c.kt k)
  | two a b c d => exact .two (s _ _ a) b (c.kt k) (d.kt k)
  | put a b => exact .put (s _ _ a) (b.kt k)
  | tell a b => exact .tell (s _ _ a) (b.kt k)
  | store a b c => exact .store (s _ _ a) (b.kt k) (c.kt k)
theorem StepV.at_ {C : Nat → Addr} {H : Hp} {v : V} {m : Md} (h : StepV C H v m) : ∃ (a dx : Addr) (fs : List (Str × V)), v = .ref a ∧ H a = some (.ins (C m.kind) dx fs) ∧ m.kind < 7 ∧ fs.lookup ("uses_way" : Str) = none ∧ fs.lookup ("sources" : Str) = none ∧ fs.lookup ("targets" : Str) = none ∧ fs.lookup ("touched" : Str) = none ∧ fs.lookup ("reads" : Str) = none ∧ fs.lookup ("writes" : Str) = none := by
  cases h with
  | get a b => exact ⟨_, _, _, rfl, a, (by show 0 < 7; decide), rfl, rfl, rfl, rfl, rfl, rfl⟩
  | ask a b => exact ⟨_, _, _, rfl, a, (by show 1 < 7; decide), rfl, rfl, rfl, rfl, rfl, rfl⟩
  | cell a b c => exact ⟨_, _, _, rfl, a, (by show 2 < 7; decide), rfl, rfl, rfl, rfl, rfl, rfl⟩
  | two a b c d => exact ⟨_, _, _, rfl, a, (by show 3 < 7; decide), rfl, rfl, rfl, rfl, rfl, rfl⟩
  | put a b => exact ⟨_, _, _, rfl, a, (by show 4 < 7; decide), rfl, rfl, rfl, rfl, rfl, rfl⟩
  | tell a b => exact ⟨_, _, _, rfl, a, (by show 5 < 7; decide), rfl, rfl, rfl, rfl, rfl, rfl⟩
  | store a b c => exact ⟨_, _, _, rfl, a, (by show 6 < 7; decide), rfl, rfl, rfl, rfl, rfl, rfl⟩
def tgt (m : Md) : List Nat := if m.kind < 4 then [m.to] else []
theorem StepV.tgt8 {C : Nat → Addr} {H : Hp} {v : V} {m : Md} (h : StepV C H v m) : (tgt m).length ≤ 2 ∧ ∀ k ∈ tgt m, k < 8 := by
  cases h <;> simp_all [tgt]
abbrev Part := Str × Int
def SelC (x : Part) : Prop := (x.1 = "is" ∧ 0 ≤ x.2 ∧ x.2 ≤ 3) ∨ (x.1 = "by" ∧ 0 ≤ x.2 ∧ x.2 ≤ 2)
def SrcC (x : Part) : Prop := (x.1 = "in" ∧ 0 ≤ x.2 ∧ x.2 ≤ 7) ∨ (x.1 = "number" ∧ 0 ≤ x.2 ∧ x.2 ≤ 16777215) ∨ (x.1 = "field" ∧ 0 ≤ x.2 ∧ x.2 ≤ 2)
inductive Pt (H : Hp) (v : V) (x : Part) : Prop
  | mk (p : _) : v = .ref p → H p = some (.tup [.str x.1, .int x.2]) → Pt H v x
def inO (x : Part) : Option Nat := if x.1 = "in" then some x.2.toNat else none
theorem Pt.kt {H H' : Hp} (k : TupK H H') {v : V} {x : Part} (h : Pt H v x) : Pt H' v x := let ⟨p, a, b⟩ := h; ⟨p, a, k _ _ b⟩
theorem Pt.sel {H : Hp} {v : V} {x : Part} (h : Pt H v x) (c : SelC x) : SelOK H v := let ⟨p, a, b⟩ := h; ⟨p, x.1, x.2, a, b, c⟩
theorem Pt.src {H : Hp} {v : V} {x : Part} (h : Pt H v x) (c : SrcC x) : SrcOK H v (inO x) := by
  obtain ⟨p, a, b⟩ := h
  refine ⟨p, x.1, x.2, a, b, ?_⟩
  rcases c with ⟨e, h0, h1⟩ | ⟨e, h0, h1⟩ | ⟨e, h0, h1⟩
  · exact .inl ⟨e, h0, h1, by unfold inO; rw [if_pos e]⟩
  · exact .inr (.inl ⟨e, h0, h1, by unfold inO; rw [e]; rfl⟩)
  · exact .inr (.inr ⟨e, h0, h1, by unfold inO; rw [e]; rfl⟩)
inductive Sd
  | get (n : Nat) (x : Part)
  | ask (n : Nat) (x : Part)
  | cell (n : Nat) (x : Part)
  | two (n : Nat) (f : Str) (x y : Part)
  | put (x y : Part)
  | tell (x y : Part)
  | store (x y : Part)
def mdOf : Sd → Md
  | .get n _ => ⟨0, n, []⟩
  | .ask n _ => ⟨1, n, []⟩
  | .cell n x => ⟨2, n, [inO x]⟩
  | .two n _ x y => ⟨3, n, [inO x, inO y]⟩
  | .put _ y => ⟨4, 0, [inO y]⟩
  | .tell _ y => ⟨5, 0, [inO y]⟩
  | .store x y => ⟨6, 0, [inO x, inO y]⟩
inductive TolD (H : Hp) : V → Sd → Prop
  | get {p : Addr} {n : Nat} {s : V} {x : Part} : H p = some (.tup [.str "get", .int n, s]) → n < 8 → Pt H s x → SelC x → TolD H (.ref p) (.get n x)
  | ask {p : Addr} {n : Nat} {s : V} {x : Part} : H p = some (.tup [.str "ask", .int n, s]) → n < 8 → Pt H s x → SelC x → TolD H (.ref p) (.ask n x)
  | cell {p : Addr} {n : Nat} {s : V} {x : Part} : H p = some (.tup [.str "cell", .int n, s]) → n < 8 → Pt H s x → SrcC x → TolD H (.ref p) (.cell n x)
  | two {p : Addr} {n : Nat} {f : Str} {s s' : V} {x y : Part} : H p = some (.tup [.str "two", .int n, .str f, s, s']) → n < 8 → f ∈ opsL → Pt H s x → SrcC x → Pt H s' y → SrcC y → TolD H (.ref p) (.two n f x y)
  | put {p : Addr} {s s' : V} {x y : Part} : H p = some (.tup [.str "put", s, s']) → Pt H s x → SelC x → Pt H s' y → SrcC y → TolD H (.ref p) (.put x y)
  | tell {p : Addr} {s s' : V} {x y : Part} : H p = some (.tup [.str "tell", s, s']) → Pt H s x → SelC x → Pt H s' y → SrcC y → TolD H (.ref p) (.tell x y)
  | store {p : Addr} {s s' : V} {x y : Part} : H p = some (.tup [.str "store", s, s']) → Pt H s x → SrcC x → Pt H s' y → SrcC y → TolD H (.ref p) (.store x y)
theorem TolD.kt {H H' : Hp} (k : TupK H H') {v : V} {d : Sd} (h : TolD H v d) : TolD H' v d := by
  cases h with
  | get a b c e => exact .get (k _ _ a) b (c.kt k) e
  | ask a b c e => exact .ask (k _ _ a) b (c.kt k) e
  | cell a b c e => exact .cell (k _ _ a) b (c.kt k) e
  | two a b f c e g i => exact .two (k _ _ a) b f (c.kt k) e (g.kt k) i
  | put a c e g i => exact .put (k _ _ a) (c.kt k) e (g.kt k) i
  | tell a c e g i => exact .tell (k _ _ a) (c.kt k) e (g.kt k) i
  | store a c e g i => exact .store (k _ _ a) (c.kt k) e (g.kt k) i
theorem TolD.tol {H : Hp} {v : V} {d : Sd} (h : TolD H v d) : Tol H v (mdOf d) := by
  cases h with
  | get a b c e => exact .get a b (c.sel e)
  | ask a b c e => exact .ask a b (c.sel e)
  | cell a b c e => exact .cell a b (c.src e)
  | two a b f c e g i => exact .two a b f (c.src e) (g.src i)
  | put a c e g i => exact .put a (c.sel e) (g.src i)
  | tell a c e g i => exact .tell a (c.sel e) (g.src i)
  | store a c e g i => exact .store a (c.src e) (g.src i)
inductive ObD (C : Nat → Addr) (H : Hp) : V → V → Sd → Prop
  | get {a dx p : Addr} {n : Nat} {s : V} {x : Part} : H a = some (.ins (C 0) dx [("to", .int n), ("sel", s)]) → H p = some (.tup [.str "get", .int n, s]) → n < 8 → Pt H s x → SelC x → ObD C H (.ref a) (.ref p) (.get n x)
  | ask {a dx p : Addr} {n : Nat} {s : V} {x : Part} : H a = some (.ins (C 1) dx [("to", .int n), ("sel", s)]) → H p = some (.tup [.str "ask", .int n, s]) → n < 8 → Pt H s x → SelC x → ObD C H (.ref a) (.ref p) (.ask n x)
  | cell {a dx p : Addr} {n : Nat} {s : V} {x : Part} : H a = some (.ins (C 2) dx [("to", .int n), ("source", s)]) → H p = some (.tup [.str "cell", .int n, s]) → n < 8 → Pt H s x → SrcC x → ObD C H (.ref a) (.ref p) (.cell n x)
  | two {a dx p : Addr} {n : Nat} {f : Str} {s s' : V} {x y : Part} : H a = some (.ins (C 3) dx [("to", .int n), ("op", .str f), ("one", s), ("other", s')]) → H p = some (.tup [.str "two", .int n, .str f, s, s']) → n < 8 → f ∈ opsL → Pt H s x → SrcC x → Pt H s' y → SrcC y → ObD C H (.ref a) (.ref p) (.two n f x y)
  | put {a dx p : Addr} {s s' : V} {x y : Part} : H a = some (.ins (C 4) dx [("sel", s), ("source", s')]) → H p = some (.tup [.str "put", s, s']) → Pt H s x → SelC x → Pt H s' y → SrcC y → ObD C H (.ref a) (.ref p) (.put x y)
  | tell {a dx p : Addr} {s s' : V} {x y : Part} : H a = some (.ins (C 5) dx [("sel", s), ("source", s')]) → H p = some (.tup [.str "tell", s, s']) → Pt H s x → SelC x → Pt H s' y → SrcC y → ObD C H (.ref a) (.ref p) (.tell x y)
  | store {a dx p : Addr} {s s' : V} {x y : Part} : H a = some (.ins (C 6) dx [("at", s), ("source", s')]) → H p = some (.tup [.str "store", s, s']) → Pt H s x → SrcC x → Pt H s' y → SrcC y → ObD C H (.ref a) (.ref p) (.store x y)
theorem ObD.same {C : Nat → Addr} {H H' : Hp} (s : Same H H') {v u : V} {d : Sd} (h : ObD C H v u d) : ObD C H' v u d := by
  have k := kt_same s
  cases h with
  | get o a b c e => exact .get (s _ _ o) (k _ _ a) b (c.kt k) e
  | ask o a b c e => exact .ask (s _ _ o) (k _ _ a) b (c.kt k) e
  | cell o a b c e => exact .cell (s _ _ o) (k _ _ a) b (c.kt k) e
  | two o a b f c e g i => exact .two (s _ _ o) (k _ _ a) b f (c.kt k) e (g.kt k) i
  | put o a c e g i => exact .put (s _ _ o) (k _ _ a) (c.kt k) e (g.kt k) i
  | tell o a c e g i => exact .tell (s _ _ o) (k _ _ a) (c.kt k) e (g.kt k) i
  | store o a c e g i => exact .store (s _ _ o) (k _ _ a) (c.kt k) e (g.kt k) i
theorem ObD.sv {C : Nat → Addr} {H : Hp} {v u : V} {d : Sd} (h : ObD C H v u d) : StepV C H v (mdOf d) := by
  cases h with
  | get o a b c e => exact .get o b
  | ask o a b c e => exact .ask o b
  | cell o a b c e => exact .cell o b (c.src e)
  | two o a b f c e g i => exact .two o b (c.src e) (g.src i)
  | put o a c e g i => exact .put o (g.src i)
  | tell o a c e g i => exact .tell o (g.src i)
  | store o a c e g i => exact .store o (c.src e) (g.src i)
theorem ObD.tolD {C : Nat → Addr} {H : Hp} {v u : V} {d : Sd} (h : ObD C H v u d) : TolD H u d := by
  cases h with
  | get o a b c e => exact .get a b c e
  | ask o a b c e => exact .ask a b c e
  | cell o a b c e => exact .cell a b c e
  | two o a b f c e g i => exact .two a b f c e g i
  | put o a c e g i => exact .put a c e g i
  | tell o a c e g i => exact .tell a c e g i
  | store o a c e g i => exact .store a c e g i
inductive IniOk (P : Program) (w : World) (K : PySem.W.Frag) (mg : Str → Option Value) (base : Heap) (f : Addr) (ps : List Str) (sp : Sp) : Prop
  | mk (fd : _) : FnOk P w K mg base CX0 1 f fd ps sp → Binds K fd ps [] → IniOk P w K mg base f ps sp
inductive spStepOf (C : Nat → Addr) (vs : List V) (H : Hp) (Q : VK) (Z3 : XK) : Prop
  | mk (v d : _) : vs = [v] → TolD H v d → (∀ u H', Same H H' → ObD C H' u v d → Q u H') → spStepOf C vs H Q Z3
section
variable {P : Program} {w : World} {K : PySem.W.Frag} {mg : Str → Option Value} {base : Heap} {C fi : Nat → Addr}
theorem scStepOf : FnScope ["told"] ["told"] (defScope sStepOf) := ⟨rfl, rfl, rfl, by decide +kernel, rfl, by decide +kernel, by decide +kernel⟩
set_option maxHeartbeats 4000000 in
theorem ok_stepOf {f : Addr} {fd : FuncData} (F : Fun K "step_of" "step_of" sStepOf f fd) (T : Ct K mg C fi) (IS : Fn P w K mg base "is_step" 5 ["thing"] spIsStep) (I0 : IniOk P w K mg base (fi 0) ["self", "to", "sel"] (spI2 (C 0) "to" "sel")) (I1 : IniOk P w K mg base (fi 1) ["self", "to", "sel"] (spI2 (C 1) "to" "sel")) (I2 : IniOk P w K mg base (fi 2) ["self", "to", "source"] (spI2 (C 2) "to" "source")) (I3 : IniOk P w K mg base (fi 3) ["self", "to", "op", "one", "other"] (spI4 (C 3) "to" "op" "one" "other")) (I4 : IniOk P w K mg base (fi 4) ["self", "sel", "source"] (spI2 (C 4) "sel" "source")) (I5 : IniOk P w K mg base (fi 5) ["self", "sel", "source"] (spI2 (C 5) "sel" "source")) (I6 : IniOk P w K mg base (fi 6) ["self", "at", "source"] (spI2 (C 6) "at" "source")) :
    FnOk P w K mg base CX0 6 f fd ["told"] (spStepOf C) := by
  refine F.ok scStepOf (fun vs H Q E h => ?_) (fun cdv A outer s H vs Q E hr h => ?_)
  · obtain ⟨v, m, rfl, _⟩ := h
    rfl
  · obtain ⟨v, m, rfl, ht, q⟩ := h
    have hr2 : Room 2 _ := hr.mono (by decide)
    obtain ⟨fd0, F0, b0⟩ := I0
    obtain ⟨fd1, F1, b1⟩ := I1
    obtain ⟨fd2, F2, b2⟩ := I2
    obtain ⟨fd3, F3, b3⟩ := I3
    obtain ⟨fd4, F4, b4⟩ := I4
    obtain ⟨fd5, F5, b5⟩ := I5
    obtain ⟨fd6, F6, b6⟩ := I6
    refine ⟨_, pss_cons (ps_if (pt_not (pt_val (pe_fn IS hr rfl (pa_cons (pv 0) pa_nil)))) (pss_one ps_never) pss_nil)
      (pss_cons (ps_if (pt_cmpR op_eq (pe_ix ix_tup (pv 0) pe_int (fun _ _ => rfl)) pe_str (nomark _)) (pss_one (ps_ret (pe_make (T.mk_ 0 (by decide)) F0 hr2 rfl (T.mg 0 (by decide)) b0 .nil pass0 (pa_cons (pe_ix ix_tup (pv 0) pe_int (fun _ _ => rfl)) (pa_cons (pe_ix ix_tup (pv 0) pe_int (fun _ _ => rfl)) pa_nil))))) pss_nil)
      (pss_cons (ps_if (pt_cmpR op_eq (pe_ix ix_tup (pv 0) pe_int (fun _ _ => rfl)) pe_str (nomark _)) (pss_one (ps_ret (pe_make (T.mk_ 1 (by decide)) F1 hr2 rfl (T.mg 1 (by decide)) b1 .nil pass0 (pa_cons (pe_ix ix_tup (pv 0) pe_int (fun _ _ => rfl)) (pa_cons (pe_ix ix_tup (pv 0) pe_int (fun _ _ => rfl)) pa_nil))))) pss_nil)
      (pss_cons (ps_if (pt_cmpR op_eq (pe_ix ix_tup (pv 0) pe_int (fun _ _ => rfl)) pe_str (nomark _)) (pss_one (ps_ret (pe_make (T.mk_ 2 (by decide)) F2 hr2 rfl (T.mg 2 (by decide)) b2 .nil pass0 (pa_cons (pe_ix ix_tup (pv 0) pe_int (fun _ _ => rfl)) (pa_cons (pe_ix ix_tup (pv 0) pe_int (fun _ _ => rfl)) pa_nil))))) pss_nil)
      (pss_cons (ps_if (pt_cmpR op_eq (pe_ix ix_tup (pv 0) pe_int (fun _ _ => rfl)) pe_str (nomark _)) (pss_one (ps_ret (pe_make (T.mk_ 3 (by decide)) F3 hr2 rfl (T.mg 3 (by decide)) b3 .nil pass0 (pa_cons (pe_ix ix_tup (pv 0) pe_int (fun _ _ => rfl)) (pa_cons (pe_ix ix_tup (pv 0) pe_int (fun _ _ => rfl)) (pa_cons (pe_ix ix_tup (pv 0) pe_int (fun _ _ => rfl)) (pa_cons (pe_ix ix_tup (pv 0) pe_int (fun _ _ => rfl)) pa_nil))))))) pss_nil)
      (pss_cons (ps_if (pt_cmpR op_eq (pe_ix ix_tup (pv 0) pe_int (fun _ _ => rfl)) pe_str (nomark _)) (pss_one (ps_ret (pe_make (T.mk_ 4 (by decide)) F4 hr2 rfl (T.mg 4 (by decide)) b4 .nil pass0 (pa_cons (pe_ix ix_tup (pv 0) pe_int (fun _ _ => rfl)) (pa_cons (pe_ix ix_tup (pv 0) pe_int (fun _ _ => rfl)) pa_nil))))) pss_nil)
      (pss_cons (ps_if (pt_cmpR op_eq (pe_ix ix_tup (pv 0) pe_int (fun _ _ => rfl)) pe_str (nomark _)) (pss_one (ps_ret (pe_make (T.mk_ 5 (by decide)) F5 hr2 rfl (T.mg 5 (by decide)) b5 .nil pass0 (pa_cons (pe_ix ix_tup (pv 0) pe_int (fun _ _ => rfl)) (pa_cons (pe_ix ix_tup (pv 0) pe_int (fun _ _ => rfl)) pa_nil))))) pss_nil)
      (pss_one (ps_ret (pe_make (T.mk_ 6 (by decide)) F6 hr2 rfl (T.mg 6 (by decide)) b6 .nil pass0 (pa_cons (pe_ix ix_tup (pv 0) pe_int (fun _ _ => rfl)) (pa_cons (pe_ix ix_tup (pv 0) pe_int (fun _ _ => rfl)) pa_nil))))))))))), ?_⟩
    refine ⟨_, rfl, v, _, rfl, ht.tol, fun H1 s1 => ⟨_, rfl, iteF ?_⟩⟩
    have ht1 := ht.kt (kt_same s1)
    cases ht1 with
    | @get p n s x hp hn hs hc =>
      refine ⟨_, rfl, p, _, _, _, rfl, rfl, SqT.of hp, rfl, rfl, _, rfl, iteA (by decide +kernel) ?_⟩
      refine ⟨_, rfl, p, _, _, _, rfl, rfl, SqT.of hp, rfl, _, rfl, p, _, _, _, rfl, rfl, SqT.of hp, rfl, fun x dx nx nd ne => ⟨x, dx, _, _, rfl, upd_same, rfl, ?_⟩⟩
      exact q _ _ (s1.trans (same_mut nx (same_mut nx (same_mut nx (same_new nd))))) (.get upd_same ((same_mut nx (same_mut nx (same_mut nx (same_new nd)))) _ _ hp) hn (hs.kt (kt_same (same_mut nx (same_mut nx (same_mut nx (same_new nd)))))) hc)
    | @ask p n s x hp hn hs hc =>
      refine ⟨_, rfl, p, _, _, _, rfl, rfl, SqT.of hp, rfl, rfl, _, rfl, iteB (by decide +kernel) ?_⟩
      refine ⟨_, rfl, p, _, _, _, rfl, rfl, SqT.of hp, rfl, rfl, _, rfl, iteA (by decide +kernel) ?_⟩
      refine ⟨_, rfl, p, _, _, _, rfl, rfl, SqT.of hp, rfl, _, rfl, p, _, _, _, rfl, rfl, SqT.of hp, rfl, fun x dx nx nd ne => ⟨x, dx, _, _, rfl, upd_same, rfl, ?_⟩⟩
      exact q _ _ (s1.trans (same_mut nx (same_mut nx (same_mut nx (same_new nd))))) (.ask upd_same ((same_mut nx (same_mut nx (same_mut nx (same_new nd)))) _ _ hp) hn (hs.kt (kt_same (same_mut nx (same_mut nx (same_mut nx (same_new nd)))))) hc)
    | @cell p n s x hp hn hs hc =>
      refine ⟨_, rfl, p, _, _, _, rfl, rfl, SqT.of hp, rfl, rfl, _, rfl, iteB (by decide +kernel) ?_⟩
      refine ⟨_, rfl, p, _, _, _, rfl, rfl, SqT.of hp, rfl, rfl, _, rfl, iteB (by decide +kernel) ?_⟩
      refine ⟨_, rfl, p, _, _, _, rfl, rfl, SqT.of hp, rfl, rfl, _, rfl, iteA (by decide +kernel) ?_⟩
      refine ⟨_, rfl, p, _, _, _, rfl, rfl, SqT.of hp, rfl, _, rfl, p, _, _, _, rfl, rfl, SqT.of hp, rfl, fun x dx nx nd ne => ⟨x, dx, _, _, rfl, upd_same, rfl, ?_⟩⟩
      exact q _ _ (s1.trans (same_mut nx (same_mut nx (same_mut nx (same_new nd))))) (.cell upd_same ((same_mut nx (same_mut nx (same_mut nx (same_new nd)))) _ _ hp) hn (hs.kt (kt_same (same_mut nx (same_mut nx (same_mut nx (same_new nd)))))) hc)
    | @two p n f s s' x y hp hn hf hs hc hs2 hc2 =>
      refine ⟨_, rfl, p, _, _, _, rfl, rfl, SqT.of hp, rfl, rfl, _, rfl, iteB (by decide +kernel) ?_⟩
      refine ⟨_, rfl, p, _, _, _, rfl, rfl, SqT.of hp, rfl, rfl, _, rfl, iteB (by decide +kernel) ?_⟩
      refine ⟨_, rfl, p, _, _, _, rfl, rfl, SqT.of hp, rfl, rfl, _, rfl, iteB (by decide +kernel) ?_⟩
      refine ⟨_, rfl, p, _, _, _, rfl, rfl, SqT.of hp, rfl, rfl, _, rfl, iteA (by decide +kernel) ?_⟩
      refine ⟨_, rfl, p, _, _, _, rfl, rfl, SqT.of hp, rfl, _, rfl, p, _, _, _, rfl, rfl, SqT.of hp, rfl, _, rfl, p, _, _, _, rfl, rfl, SqT.of hp, rfl, _, rfl, p, _, _, _, rfl, rfl, SqT.of hp, rfl, fun x dx nx nd ne => ⟨x, dx, _, _, _, _, rfl, upd_same, rfl, ?_⟩⟩
      exact q _ _ (s1.trans (same_mut nx (same_mut nx (same_mut nx (same_mut nx (same_mut nx (same_new nd))))))) (.two upd_same ((same_mut nx (same_mut nx (same_mut nx (same_mut nx (same_mut nx (same_new nd)))))) _ _ hp) hn hf (hs.kt (kt_same (same_mut nx (same_mut nx (same_mut nx (same_mut nx (same_mut nx (same_new nd)))))))) hc (hs2.kt (kt_same (same_mut nx (same_mut nx (same_mut nx (same_mut nx (same_mut nx (same_new nd)))))))) hc2)
    | @put p s s' x y hp hs hc hs2 hc2 =>
      refine ⟨_, rfl, p, _, _, _, rfl, rfl, SqT.of hp, rfl, rfl, _, rfl, iteB (by decide +kernel) ?_⟩
      refine ⟨_, rfl, p, _, _, _, rfl, rfl, SqT.of hp, rfl, rfl, _, rfl, iteB (by decide +kernel) ?_⟩
      refine ⟨_, rfl, p, _, _, _, rfl, rfl, SqT.of hp, rfl, rfl, _, rfl, iteB (by decide +kernel) ?_⟩
      refine ⟨_, rfl, p, _, _, _, rfl, rfl, SqT.of hp, rfl, rfl, _, rfl, iteB (by decide +kernel) ?_⟩
      refine ⟨_, rfl, p, _, _, _, rfl, rfl, SqT.of hp, rfl, rfl, _, rfl, iteA (by decide +kernel) ?_⟩
      refine ⟨_, rfl, p, _, _, _, rfl, rfl, SqT.of hp, rfl, _, rfl, p, _, _, _, rfl, rfl, SqT.of hp, rfl, fun x dx nx nd ne => ⟨x, dx, _, _, rfl, upd_same, rfl, ?_⟩⟩
      exact q _ _ (s1.trans (same_mut nx (same_mut nx (same_mut nx (same_new nd))))) (.put upd_same ((same_mut nx (same_mut nx (same_mut nx (same_new nd)))) _ _ hp) (hs.kt (kt_same (same_mut nx (same_mut nx (same_mut nx (same_new nd)))))) hc (hs2.kt (kt_same (same_mut nx (same_mut nx (same_mut nx (same_new nd)))))) hc2)
    | @tell p s s' x y hp hs hc hs2 hc2 =>
      refine ⟨_, rfl, p, _, _, _, rfl, rfl, SqT.of hp, rfl, rfl, _, rfl, iteB (by decide +kernel) ?_⟩
      refine ⟨_, rfl, p, _, _, _, rfl, rfl, SqT.of hp, rfl, rfl, _, rfl, iteB (by decide +kernel) ?_⟩
      refine ⟨_, rfl, p, _, _, _, rfl, rfl, SqT.of hp, rfl, rfl, _, rfl, iteB (by decide +kernel) ?_⟩
      refine ⟨_, rfl, p, _, _, _, rfl, rfl, SqT.of hp, rfl, rfl, _, rfl, iteB (by decide +kernel) ?_⟩
      refine ⟨_, rfl, p, _, _, _, rfl, rfl, SqT.of hp, rfl, rfl, _, rfl, iteB (by decide +kernel) ?_⟩
      refine ⟨_, rfl, p, _, _, _, rfl, rfl, SqT.of hp, rfl, rfl, _, rfl, iteA (by decide +kernel) ?_⟩
      refine ⟨_, rfl, p, _, _, _, rfl, rfl, SqT.of hp, rfl, _, rfl, p, _, _, _, rfl, rfl, SqT.of hp, rfl, fun x dx nx nd ne => ⟨x, dx, _, _, rfl, upd_same, rfl, ?_⟩⟩
      exact q _ _ (s1.trans (same_mut nx (same_mut nx (same_mut nx (same_new nd))))) (.tell upd_same ((same_mut nx (same_mut nx (same_mut nx (same_new nd)))) _ _ hp) (hs.kt (kt_same (same_mut nx (same_mut nx (same_mut nx (same_new nd)))))) hc (hs2.kt (kt_same (same_mut nx (same_mut nx (same_mut nx (same_new nd)))))) hc2)
    | @store p s s' x y hp hs hc hs2 hc2 =>
      refine ⟨_, rfl, p, _, _, _, rfl, rfl, SqT.of hp, rfl, rfl, _, rfl, iteB (by decide +kernel) ?_⟩
      refine ⟨_, rfl, p, _, _, _, rfl, rfl, SqT.of hp, rfl, rfl, _, rfl, iteB (by decide +kernel) ?_⟩
      refine ⟨_, rfl, p, _, _, _, rfl, rfl, SqT.of hp, rfl, rfl, _, rfl, iteB (by decide +kernel) ?_⟩
      refine ⟨_, rfl, p, _, _, _, rfl, rfl, SqT.of hp, rfl, rfl, _, rfl, iteB (by decide +kernel) ?_⟩
      refine ⟨_, rfl, p, _, _, _, rfl, rfl, SqT.of hp, rfl, rfl, _, rfl, iteB (by decide +kernel) ?_⟩
      refine ⟨_, rfl, p, _, _, _, rfl, rfl, SqT.of hp, rfl, rfl, _, rfl, iteB (by decide +kernel) ?_⟩
      refine ⟨_, rfl, p, _, _, _, rfl, rfl, SqT.of hp, rfl, _, rfl, p, _, _, _, rfl, rfl, SqT.of hp, rfl, fun x dx nx nd ne => ⟨x, dx, _, _, rfl, upd_same, rfl, ?_⟩⟩
      exact q _ _ (s1.trans (same_mut nx (same_mut nx (same_mut nx (same_new nd))))) (.store upd_same ((same_mut nx (same_mut nx (same_mut nx (same_new nd)))) _ _ hp) (hs.kt (kt_same (same_mut nx (same_mut nx (same_mut nx (same_new nd)))))) hc (hs2.kt (kt_same (same_mut nx (same_mut nx (same_mut nx (same_new nd)))))) hc2)
end
end L3
namespace L3
open PySem L2
inductive spTg (C : Nat → Addr) (ks : List Nat) (vs : List V) (H : Hp) (Q : VK) (Z3 : XK) : Prop
  | mk (v m : _) : vs = [v] → StepV C H v m → m.kind ∈ ks → (∀ p, H p = none → Q (.ref p) (upd H p (.lst (natV (tgt m))))) → spTg C ks vs H Q Z3
inductive spSo (C : Nat → Addr) (ks : List Nat) (vs : List V) (H : Hp) (Q : VK) (Z3 : XK) : Prop
  | mk (v m : _) : vs = [v] → StepV C H v m → m.kind ∈ ks → (∀ p us, H p = none → Paired (SrcOK H) us m.src → Q (.ref p) (upd H p (.lst us))) → spSo C ks vs H Q Z3
inductive spUw (C : Nat → Addr) (ks : List Nat) (vs : List V) (H : Hp) (Q : VK) (Z3 : XK) : Prop
  | mk (v m : _) : vs = [v] → StepV C H v m → m.kind ∈ ks → Q (.bl (decide (m.kind ≠ 3))) H → spUw C ks vs H Q Z3
section
variable {P : Program} {w : World} {K : PySem.W.Frag} {mg : Str → Option Value} {base : Heap} {C fi : Nat → Addr}
abbrev sTgS : Stmt := inClass (top 36) 3
theorem scTgS : FnScope ["self"] ["self"] (defScope sTgS) := ⟨rfl, rfl, rfl, by decide +kernel, rfl, by decide +kernel, by decide +kernel⟩
theorem ok_TgS {f : Addr} {fd : FuncData} (F : Fun K "targets" "Step.targets" sTgS f fd) (T : Ct K mg C fi) : FnOk P w K mg base CX0 1 f fd ["self"] (spTg C [4, 5, 6]) := by
  refine F.ok scTgS (fun vs H Q E h => ?_) (fun cdv A outer s H vs Q E hr h => ?_)
  · obtain ⟨v, m, rfl, _⟩ := h
    rfl
  · obtain ⟨v, m, rfl, hv, hk, q⟩ := h
    refine ⟨_, pss_one (ps_ret (pe_lst pa_nil)), ?_⟩
    cases hv with
    | @get a dx n v ha hn =>
      exact absurd hk (by show ¬ 0 ∈ ([4, 5, 6] : List Nat); decide)
    | @ask a dx n v ha hn =>
      exact absurd hk (by show ¬ 1 ∈ ([4, 5, 6] : List Nat); decide)
    | @cell a dx n s o ha hn hs =>
      exact absurd hk (by show ¬ 2 ∈ ([4, 5, 6] : List Nat); decide)
    | @two a dx n f s s' o o' ha hn hs hs2 =>
      exact absurd hk (by show ¬ 3 ∈ ([4, 5, 6] : List Nat); decide)
    | @put a dx v s o ha hs =>
      exact ⟨(by show 0 ≤ sizeLine; decide), fun p hp => q p hp⟩
    | @tell a dx v s o ha hs =>
      exact ⟨(by show 0 ≤ sizeLine; decide), fun p hp => q p hp⟩
    | @store a dx s s' o o' ha hs hs2 =>
      exact ⟨(by show 0 ≤ sizeLine; decide), fun p hp => q p hp⟩
abbrev sTg0 : Stmt := inClass (top 37) 4
theorem scTg0 : FnScope ["self"] ["self"] (defScope sTg0) := ⟨rfl, rfl, rfl, by decide +kernel, rfl, by decide +kernel, by decide +kernel⟩
theorem ok_Tg0 {f : Addr} {fd : FuncData} (F : Fun K "targets" "Get.targets" sTg0 f fd) (T : Ct K mg C fi) : FnOk P w K mg base CX0 1 f fd ["self"] (spTg C [0]) := by
  refine F.ok scTg0 (fun vs H Q E h => ?_) (fun cdv A outer s H vs Q E hr h => ?_)
  · obtain ⟨v, m, rfl, _⟩ := h
    rfl
  · obtain ⟨v, m, rfl, hv, hk, q⟩ := h
    refine ⟨_, pss_one (ps_ret (pe_lst (pa_cons (pe_fld (pv 0) rfl) pa_nil))), ?_⟩
    cases hv with
    | @get a dx n v ha hn =>
      exact ⟨_, rfl, a, C 0, dx, _, _, rfl, ha, T.cls 0 (by decide), T.na 0 (by decide) "to" (by decide +kernel), rfl, (by show 1 ≤ sizeLine; decide), fun p hp => q p hp⟩
    | @ask a dx n v ha hn =>
      exact absurd hk (by show ¬ 1 ∈ ([0] : List Nat); decide)
    | @cell a dx n s o ha hn hs =>
      exact absurd hk (by show ¬ 2 ∈ ([0] : List Nat); decide)
    | @two a dx n f s s' o o' ha hn hs hs2 =>
      exact absurd hk (by show ¬ 3 ∈ ([0] : List Nat); decide)
    | @put a dx v s o ha hs =>
      exact absurd hk (by show ¬ 4 ∈ ([0] : List Nat); decide)
    | @tell a dx v s o ha hs =>
      exact absurd hk (by show ¬ 5 ∈ ([0] : List Nat); decide)
    | @store a dx s s' o o' ha hs hs2 =>
      exact absurd hk (by show ¬ 6 ∈ ([0] : List Nat); decide)
abbrev sTg1 : Stmt := inClass (top 38) 4
theorem scTg1 : FnScope ["self"] ["self"] (defScope sTg1) := ⟨rfl, rfl, rfl, by decide +kernel, rfl, by decide +kernel, by decide +kernel⟩
theorem ok_Tg1 {f : Addr} {fd : FuncData} (F : Fun K "targets" "Ask.targets" sTg1 f fd) (T : Ct K mg C fi) : FnOk P w K mg base CX0 1 f fd ["self"] (spTg C [1]) := by
  refine F.ok scTg1 (fun vs H Q E h => ?_) (fun cdv A outer s H vs Q E hr h => ?_)
  · obtain ⟨v, m, rfl, _⟩ := h
    rfl
  · obtain ⟨v, m, rfl, hv, hk, q⟩ := h
    refine ⟨_, pss_one (ps_ret (pe_lst (pa_cons (pe_fld (pv 0) rfl) pa_nil))), ?_⟩
    cases hv with
    | @get a dx n v ha hn =>
      exact absurd hk (by show ¬ 0 ∈ ([1] : List Nat); decide)
    | @ask a dx n v ha hn =>
      exact ⟨_, rfl, a, C 1, dx, _, _, rfl, ha, T.cls 1 (by decide), T.na 1 (by decide) "to" (by decide +kernel), rfl, (by show 1 ≤ sizeLine; decide), fun p hp => q p hp⟩
    | @cell a dx n s o ha hn hs =>
      exact absurd hk (by show ¬ 2 ∈ ([1] : List Nat); decide)
    | @two a dx n f s s' o o' ha hn hs hs2 =>
      exact absurd hk (by show ¬ 3 ∈ ([1] : List Nat); decide)
    | @put a dx v s o ha hs =>
      exact absurd hk (by show ¬ 4 ∈ ([1] : List Nat); decide)
    | @tell a dx v s o ha hs =>
      exact absurd hk (by show ¬ 5 ∈ ([1] : List Nat); decide)
    | @store a dx s s' o o' ha hs hs2 =>
      exact absurd hk (by show ¬ 6 ∈ ([1] : List Nat); decide)
abbrev sTg2 : Stmt := inClass (top 39) 4
theorem scTg2 : FnScope ["self"] ["self"] (defScope sTg2) := ⟨rfl, rfl, rfl, by decide +kernel, rfl, by decide +kernel, by decide +kernel⟩
theorem ok_Tg2 {f : Addr} {fd : FuncData} (F : Fun K "targets" "Cell.targets" sTg2 f fd) (T : Ct K mg C fi) : FnOk P w K mg base CX0 1 f fd ["self"] (spTg C [2]) := by
  refine F.ok scTg2 (fun vs H Q E h => ?_) (fun cdv A outer s H vs Q E hr h => ?_)
  · obtain ⟨v, m, rfl, _⟩ := h
    rfl
  · obtain ⟨v, m, rfl, hv, hk, q⟩ := h
    refine ⟨_, pss_one (ps_ret (pe_lst (pa_cons (pe_fld (pv 0) rfl) pa_nil))), ?_⟩
    cases hv with
    | @get a dx n v ha hn =>
      exact absurd hk (by show ¬ 0 ∈ ([2] : List Nat); decide)
    | @ask a dx n v ha hn =>
      exact absurd hk (by show ¬ 1 ∈ ([2] : List Nat); decide)
    | @cell a dx n s o ha hn hs =>
      exact ⟨_, rfl, a, C 2, dx, _, _, rfl, ha, T.cls 2 (by decide), T.na 2 (by decide) "to" (by decide +kernel), rfl, (by show 1 ≤ sizeLine; decide), fun p hp => q p hp⟩
    | @two a dx n f s s' o o' ha hn hs hs2 =>
      exact absurd hk (by show ¬ 3 ∈ ([2] : List Nat); decide)
    | @put a dx v s o ha hs =>
      exact absurd hk (by show ¬ 4 ∈ ([2] : List Nat); decide)
    | @tell a dx v s o ha hs =>
      exact absurd hk (by show ¬ 5 ∈ ([2] : List Nat); decide)
    | @store a dx s s' o o' ha hs hs2 =>
      exact absurd hk (by show ¬ 6 ∈ ([2] : List Nat); decide)
abbrev sTg3 : Stmt := inClass (top 40) 5
theorem scTg3 : FnScope ["self"] ["self"] (defScope sTg3) := ⟨rfl, rfl, rfl, by decide +kernel, rfl, by decide +kernel, by decide +kernel⟩
theorem ok_Tg3 {f : Addr} {fd : FuncData} (F : Fun K "targets" "Two.targets" sTg3 f fd) (T : Ct K mg C fi) : FnOk P w K mg base CX0 1 f fd ["self"] (spTg C [3]) := by
  refine F.ok scTg3 (fun vs H Q E h => ?_) (fun cdv A outer s H vs Q E hr h => ?_)
  · obtain ⟨v, m, rfl, _⟩ := h
    rfl
  · obtain ⟨v, m, rfl, hv, hk, q⟩ := h
    refine ⟨_, pss_one (ps_ret (pe_lst (pa_cons (pe_fld (pv 0) rfl) pa_nil))), ?_⟩
    cases hv with
    | @get a dx n v ha hn =>
      exact absurd hk (by show ¬ 0 ∈ ([3] : List Nat); decide)
    | @ask a dx n v ha hn =>
      exact absurd hk (by show ¬ 1 ∈ ([3] : List Nat); decide)
    | @cell a dx n s o ha hn hs =>
      exact absurd hk (by show ¬ 2 ∈ ([3] : List Nat); decide)
    | @two a dx n f s s' o o' ha hn hs hs2 =>
      exact ⟨_, rfl, a, C 3, dx, _, _, rfl, ha, T.cls 3 (by decide), T.na 3 (by decide) "to" (by decide +kernel), rfl, (by show 1 ≤ sizeLine; decide), fun p hp => q p hp⟩
    | @put a dx v s o ha hs =>
      exact absurd hk (by show ¬ 4 ∈ ([3] : List Nat); decide)
    | @tell a dx v s o ha hs =>
      exact absurd hk (by show ¬ 5 ∈ ([3] : List Nat); decide)
    | @store a dx s s' o o' ha hs hs2 =>
      exact absurd hk (by show ¬ 6 ∈ ([3] : List Nat); decide)
abbrev sSoS : Stmt := inClass (top 36) 1
theorem scSoS : FnScope ["self"] ["self"] (defScope sSoS) := ⟨rfl, rfl, rfl, by decide +kernel, rfl, by decide +kernel, by decide +kernel⟩
theorem ok_SoS {f : Addr} {fd : FuncData} (F : Fun K "sources" "Step.sources" sSoS f fd) (T : Ct K mg C fi) : FnOk P w K mg base CX0 1 f fd ["self"] (spSo C [0, 1]) := by
  refine F.ok scSoS (fun vs H Q E h => ?_) (fun cdv A outer s H vs Q E hr h => ?_)
  · obtain ⟨v, m, rfl, _⟩ := h
    rfl
  · obtain ⟨v, m, rfl, hv, hk, q⟩ := h
    refine ⟨_, pss_one (ps_ret (pe_lst pa_nil)), ?_⟩
    cases hv with
    | @get a dx n v ha hn =>
      exact ⟨(by show 0 ≤ sizeLine; decide), fun p hp => q p [] hp .nil⟩
    | @ask a dx n v ha hn =>
      exact ⟨(by show 0 ≤ sizeLine; decide), fun p hp => q p [] hp .nil⟩
    | @cell a dx n s o ha hn hs =>
      exact absurd hk (by show ¬ 2 ∈ ([0, 1] : List Nat); decide)
    | @two a dx n f s s' o o' ha hn hs hs2 =>
      exact absurd hk (by show ¬ 3 ∈ ([0, 1] : List Nat); decide)
    | @put a dx v s o ha hs =>
      exact absurd hk (by show ¬ 4 ∈ ([0, 1] : List Nat); decide)
    | @tell a dx v s o ha hs =>
      exact absurd hk (by show ¬ 5 ∈ ([0, 1] : List Nat); decide)
    | @store a dx s s' o o' ha hs hs2 =>
      exact absurd hk (by show ¬ 6 ∈ ([0, 1] : List Nat); decide)
abbrev sSo2 : Stmt := inClass (top 39) 3
theorem scSo2 : FnScope ["self"] ["self"] (defScope sSo2) := ⟨rfl, rfl, rfl, by decide +kernel, rfl, by decide +kernel, by decide +kernel⟩
theorem ok_So2 {f : Addr} {fd : FuncData} (F : Fun K "sources" "Cell.sources" sSo2 f fd) (T : Ct K mg C fi) : FnOk P w K mg base CX0 1 f fd ["self"] (spSo C [2]) := by
  refine F.ok scSo2 (fun vs H Q E h => ?_) (fun cdv A outer s H vs Q E hr h => ?_)
  · obtain ⟨v, m, rfl, _⟩ := h
    rfl
  · obtain ⟨v, m, rfl, hv, hk, q⟩ := h
    refine ⟨_, pss_one (ps_ret (pe_lst (pa_cons (pe_fld (pv 0) rfl) pa_nil))), ?_⟩
    cases hv with
    | @get a dx n v ha hn =>
      exact absurd hk (by show ¬ 0 ∈ ([2] : List Nat); decide)
    | @ask a dx n v ha hn =>
      exact absurd hk (by show ¬ 1 ∈ ([2] : List Nat); decide)
    | @cell a dx n s o ha hn hs =>
      exact ⟨_, rfl, a, C 2, dx, _, _, rfl, ha, T.cls 2 (by decide), T.na 2 (by decide) "source" (by decide +kernel), rfl, (by show 1 ≤ sizeLine; decide), fun p hp => q p _ hp (.cons hs .nil)⟩
    | @two a dx n f s s' o o' ha hn hs hs2 =>
      exact absurd hk (by show ¬ 3 ∈ ([2] : List Nat); decide)
    | @put a dx v s o ha hs =>
      exact absurd hk (by show ¬ 4 ∈ ([2] : List Nat); decide)
    | @tell a dx v s o ha hs =>
      exact absurd hk (by show ¬ 5 ∈ ([2] : List Nat); decide)
    | @store a dx s s' o o' ha hs hs2 =>
      exact absurd hk (by show ¬ 6 ∈ ([2] : List Nat); decide)
abbrev sSo4 : Stmt := inClass (top 41) 4
theorem scSo4 : FnScope ["self"] ["self"] (defScope sSo4) := ⟨rfl, rfl, rfl, by decide +kernel, rfl, by decide +kernel, by decide +kernel⟩
theorem ok_So4 {f : Addr} {fd : FuncData} (F : Fun K "sources" "Put.sources" sSo4 f fd) (T : Ct K mg C fi) : FnOk P w K mg base CX0 1 f fd ["self"] (spSo C [4]) := by
  refine F.ok scSo4 (fun vs H Q E h => ?_) (fun cdv A outer s H vs Q E hr h => ?_)
  · obtain ⟨v, m, rfl, _⟩ := h
    rfl
  · obtain ⟨v, m, rfl, hv, hk, q⟩ := h
    refine ⟨_, pss_one (ps_ret (pe_lst (pa_cons (pe_fld (pv 0) rfl) pa_nil))), ?_⟩
    cases hv with
    | @get a dx n v ha hn =>
      exact absurd hk (by show ¬ 0 ∈ ([4] : List Nat); decide)
    | @ask a dx n v ha hn =>
      exact absurd hk (by show ¬ 1 ∈ ([4] : List Nat); decide)
    | @cell a dx n s o ha hn hs =>
      exact absurd hk (by show ¬ 2 ∈ ([4] : List Nat); decide)
    | @two a dx n f s s' o o' ha hn hs hs2 =>
      exact absurd hk (by show ¬ 3 ∈ ([4] : List Nat); decide)
    | @put a dx v s o ha hs =>
      exact ⟨_, rfl, a, C 4, dx, _, _, rfl, ha, T.cls 4 (by decide), T.na 4 (by decide) "source" (by decide +kernel), rfl, (by show 1 ≤ sizeLine; decide), fun p hp => q p _ hp (.cons hs .nil)⟩
    | @tell a dx v s o ha hs =>
      exact absurd hk (by show ¬ 5 ∈ ([4] : List Nat); decide)
    | @store a dx s s' o o' ha hs hs2 =>
      exact absurd hk (by show ¬ 6 ∈ ([4] : List Nat); decide)
abbrev sSo5 : Stmt := inClass (top 42) 4
theorem scSo5 : FnScope ["self"] ["self"] (defScope sSo5) := ⟨rfl, rfl, rfl, by decide +kernel, rfl, by decide +kernel, by decide +kernel⟩
theorem ok_So5 {f : Addr} {fd : FuncData} (F : Fun K "sources" "Tell.sources" sSo5 f fd) (T : Ct K mg C fi) : FnOk P w K mg base CX0 1 f fd ["self"] (spSo C [5]) := by
  refine F.ok scSo5 (fun vs H Q E h => ?_) (fun cdv A outer s H vs Q E hr h => ?_)
  · obtain ⟨v, m, rfl, _⟩ := h
    rfl
  · obtain ⟨v, m, rfl, hv, hk, q⟩ := h
    refine ⟨_, pss_one (ps_ret (pe_lst (pa_cons (pe_fld (pv 0) rfl) pa_nil))), ?_⟩
    cases hv with
    | @get a dx n v ha hn =>
      exact absurd hk (by show ¬ 0 ∈ ([5] : List Nat); decide)
    | @ask a dx n v ha hn =>
      exact absurd hk (by show ¬ 1 ∈ ([5] : List Nat); decide)
    | @cell a dx n s o ha hn hs =>
      exact absurd hk (by show ¬ 2 ∈ ([5] : List Nat); decide)
    | @two a dx n f s s' o o' ha hn hs hs2 =>
      exact absurd hk (by show ¬ 3 ∈ ([5] : List Nat); decide)
    | @put a dx v s o ha hs =>
      exact absurd hk (by show ¬ 4 ∈ ([5] : List Nat); decide)
    | @tell a dx v s o ha hs =>
      exact ⟨_, rfl, a, C 5, dx, _, _, rfl, ha, T.cls 5 (by decide), T.na 5 (by decide) "source" (by decide +kernel), rfl, (by show 1 ≤ sizeLine; decide), fun p hp => q p _ hp (.cons hs .nil)⟩
    | @store a dx s s' o o' ha hs hs2 =>
      exact absurd hk (by show ¬ 6 ∈ ([5] : List Nat); decide)
abbrev sSo3 : Stmt := inClass (top 40) 4
theorem scSo3 : FnScope ["self"] ["self"] (defScope sSo3) := ⟨rfl, rfl, rfl, by decide +kernel, rfl, by decide +kernel, by decide +kernel⟩
theorem ok_So3 {f : Addr} {fd : FuncData} (F : Fun K "sources" "Two.sources" sSo3 f fd) (T : Ct K mg C fi) : FnOk P w K mg base CX0 1 f fd ["self"] (spSo C [3]) := by
  refine F.ok scSo3 (fun vs H Q E h => ?_) (fun cdv A outer s H vs Q E hr h => ?_)
  · obtain ⟨v, m, rfl, _⟩ := h
    rfl
  · obtain ⟨v, m, rfl, hv, hk, q⟩ := h
    refine ⟨_, pss_one (ps_ret (pe_lst (pa_cons (pe_fld (pv 0) rfl) (pa_cons (pe_fld (pv 0) rfl) pa_nil)))), ?_⟩
    cases hv with
    | @get a dx n v ha hn =>
      exact absurd hk (by show ¬ 0 ∈ ([3] : List Nat); decide)
    | @ask a dx n v ha hn =>
      exact absurd hk (by show ¬ 1 ∈ ([3] : List Nat); decide)
    | @cell a dx n s o ha hn hs =>
      exact absurd hk (by show ¬ 2 ∈ ([3] : List Nat); decide)
    | @two a dx n f s s' o o' ha hn hs hs2 =>
      exact ⟨_, rfl, a, C 3, dx, _, _, rfl, ha, T.cls 3 (by decide), T.na 3 (by decide) "one" (by decide +kernel), rfl, _, rfl, a, C 3, dx, _, _, rfl, ha, T.cls 3 (by decide), T.na 3 (by decide) "other" (by decide +kernel), rfl, (by show 2 ≤ sizeLine; decide), fun p hp => q p _ hp (.cons hs (.cons hs2 .nil))⟩
    | @put a dx v s o ha hs =>
      exact absurd hk (by show ¬ 4 ∈ ([3] : List Nat); decide)
    | @tell a dx v s o ha hs =>
      exact absurd hk (by show ¬ 5 ∈ ([3] : List Nat); decide)
    | @store a dx s s' o o' ha hs hs2 =>
      exact absurd hk (by show ¬ 6 ∈ ([3] : List Nat); decide)
abbrev sSo6 : Stmt := inClass (top 43) 3
theorem scSo6 : FnScope ["self"] ["self"] (defScope sSo6) := ⟨rfl, rfl, rfl, by decide +kernel, rfl, by decide +kernel, by decide +kernel⟩
theorem ok_So6 {f : Addr} {fd : FuncData} (F : Fun K "sources" "Store.sources" sSo6 f fd) (T : Ct K mg C fi) : FnOk P w K mg base CX0 1 f fd ["self"] (spSo C [6]) := by
  refine F.ok scSo6 (fun vs H Q E h => ?_) (fun cdv A outer s H vs Q E hr h => ?_)
  · obtain ⟨v, m, rfl, _⟩ := h
    rfl
  · obtain ⟨v, m, rfl, hv, hk, q⟩ := h
    refine ⟨_, pss_one (ps_ret (pe_lst (pa_cons (pe_fld (pv 0) rfl) (pa_cons (pe_fld (pv 0) rfl) pa_nil)))), ?_⟩
    cases hv with
    | @get a dx n v ha hn =>
      exact absurd hk (by show ¬ 0 ∈ ([6] : List Nat); decide)
    | @ask a dx n v ha hn =>
      exact absurd hk (by show ¬ 1 ∈ ([6] : List Nat); decide)
    | @cell a dx n s o ha hn hs =>
      exact absurd hk (by show ¬ 2 ∈ ([6] : List Nat); decide)
    | @two a dx n f s s' o o' ha hn hs hs2 =>
      exact absurd hk (by show ¬ 3 ∈ ([6] : List Nat); decide)
    | @put a dx v s o ha hs =>
      exact absurd hk (by show ¬ 4 ∈ ([6] : List Nat); decide)
    | @tell a dx v s o ha hs =>
      exact absurd hk (by show ¬ 5 ∈ ([6] : List Nat); decide)
    | @store a dx s s' o o' ha hs hs2 =>
      exact ⟨_, rfl, a, C 6, dx, _, _, rfl, ha, T.cls 6 (by decide), T.na 6 (by decide) "at" (by decide +kernel), rfl, _, rfl, a, C 6, dx, _, _, rfl, ha, T.cls 6 (by decide), T.na 6 (by decide) "source" (by decide +kernel), rfl, (by show 2 ≤ sizeLine; decide), fun p hp => q p _ hp (.cons hs (.cons hs2 .nil))⟩
abbrev sUwS : Stmt := inClass (top 36) 0
theorem scUwS : FnScope ["self"] ["self"] (defScope sUwS) := ⟨rfl, rfl, rfl, by decide +kernel, rfl, by decide +kernel, by decide +kernel⟩
theorem ok_UwS {f : Addr} {fd : FuncData} (F : Fun K "uses_way" "Step.uses_way" sUwS f fd) (T : Ct K mg C fi) : FnOk P w K mg base CX0 1 f fd ["self"] (spUw C [0, 1, 2, 4, 5, 6]) := by
  refine F.ok scUwS (fun vs H Q E h => ?_) (fun cdv A outer s H vs Q E hr h => ?_)
  · obtain ⟨v, m, rfl, _⟩ := h
    rfl
  · obtain ⟨v, m, rfl, hv, hk, q⟩ := h
    refine ⟨_, pss_one (ps_ret pe_bl), ?_⟩
    cases hv with
    | @get a dx n v ha hn =>
      exact q
    | @ask a dx n v ha hn =>
      exact q
    | @cell a dx n s o ha hn hs =>
      exact q
    | @two a dx n f s s' o o' ha hn hs hs2 =>
      exact absurd hk (by show ¬ 3 ∈ ([0, 1, 2, 4, 5, 6] : List Nat); decide)
    | @put a dx v s o ha hs =>
      exact q
    | @tell a dx v s o ha hs =>
      exact q
    | @store a dx s s' o o' ha hs hs2 =>
      exact q
abbrev sUw3 : Stmt := inClass (top 40) 3
theorem scUw3 : FnScope ["self"] ["self"] (defScope sUw3) := ⟨rfl, rfl, rfl, by decide +kernel, rfl, by decide +kernel, by decide +kernel⟩
theorem ok_Uw3 {f : Addr} {fd : FuncData} (F : Fun K "uses_way" "Two.uses_way" sUw3 f fd) (T : Ct K mg C fi) : FnOk P w K mg base CX0 1 f fd ["self"] (spUw C [3]) := by
  refine F.ok scUw3 (fun vs H Q E h => ?_) (fun cdv A outer s H vs Q E hr h => ?_)
  · obtain ⟨v, m, rfl, _⟩ := h
    rfl
  · obtain ⟨v, m, rfl, hv, hk, q⟩ := h
    refine ⟨_, pss_one (ps_ret pe_bl), ?_⟩
    cases hv with
    | @get a dx n v ha hn =>
      exact absurd hk (by show ¬ 0 ∈ ([3] : List Nat); decide)
    | @ask a dx n v ha hn =>
      exact absurd hk (by show ¬ 1 ∈ ([3] : List Nat); decide)
    | @cell a dx n s o ha hn hs =>
      exact absurd hk (by show ¬ 2 ∈ ([3] : List Nat); decide)
    | @two a dx n f s s' o o' ha hn hs hs2 =>
      exact q
    | @put a dx v s o ha hs =>
      exact absurd hk (by show ¬ 4 ∈ ([3] : List Nat); decide)
    | @tell a dx v s o ha hs =>
      exact absurd hk (by show ¬ 5 ∈ ([3] : List Nat); decide)
    | @store a dx s s' o o' ha hs hs2 =>
      exact absurd hk (by show ¬ 6 ∈ ([3] : List Nat); decide)
end
end L3
namespace L3
open PySem L2
structure Bl2 (mg : Str → Option Value) : Prop where
  sorted : mg "sorted" = none
  set : mg "set" = none
  any : mg "any" = none
  enumerate : mg "enumerate" = none
  reversed : mg "reversed" = none
theorem boot_sorted' : bootBuiltins "sorted" = some (.builtin "sorted") := by decide +kernel
theorem boot_set' : bootBuiltins "set" = some (.type "set") := by decide +kernel
theorem boot_any' : bootBuiltins "any" = some (.builtin "any") := by decide +kernel
def rN (k : Nat) : Str := "r" ++ (toString (k : Int) : Str)
def strsV (l : List Str) : List V := l.map V.str
def nms (m : Md) (ns : List Nat) : List Str := (foldN ns).map rN ++ (if m.kind = 3 then [] else [("way" : Str)])
def inR (m : Md) : List Nat := m.src.filterMap id
def readsN (m : Md) : List Str := nms m (inR m)
def writesN (m : Md) : List Str := nms m (tgt m)
theorem small8 : ∀ k < 8, ((k : Nat) : Int).natAbs.log2 < 1920 := by decide
theorem rN_len : ∀ k < 8, (rN k).length ≤ 10 := by decide +kernel
theorem StepV.in8 {C : Nat → Addr} {H : Hp} {v : V} {m : Md} (h : StepV C H v m) : (inR m).length ≤ 2 ∧ ∀ k ∈ inR m, k < 8 := by
  have one : ∀ {s : V} {o : Option Nat}, SrcOK H s o → ∀ k, o = some k → k < 8 := by
    rintro s o ⟨p, n, i, _, _, ⟨_, h0, h7, e⟩ | ⟨_, _, _, e⟩ | ⟨_, _, _, e⟩⟩ k hk
    · rw [e] at hk
      have := Option.some.inj hk
      lia
    · rw [e] at hk; cases hk
    · rw [e] at hk; cases hk
  have two : ∀ {l : List (Option Nat)}, l.length ≤ 2 → (∀ o ∈ l, ∀ k, o = some k → k < 8) → (l.filterMap id).length ≤ 2 ∧ ∀ k ∈ l.filterMap id, k < 8 := by
    intro l hl ho
    refine ⟨Nat.le_trans (List.length_filterMap_le _ _) hl, fun k hk => ?_⟩
    obtain ⟨o, h1, h2⟩ := List.mem_filterMap.mp hk
    exact ho o h1 k h2
  cases h with
  | get a b => exact two (by simp) (by simp)
  | ask a b => exact two (by simp) (by simp)
  | cell a b c => exact two (by simp) (by intro o ho; rw [List.mem_singleton.mp ho]; exact one c)
  | two a b c d => exact two (by simp) (by
      intro o ho
      rcases List.mem_cons.mp ho with z | z
      · rw [z]; exact one c
      · rw [List.mem_singleton.mp z]; exact one d)
  | put a c => exact two (by simp) (by intro o ho; rw [List.mem_singleton.mp ho]; exact one c)
  | tell a c => exact two (by simp) (by intro o ho; rw [List.mem_singleton.mp ho]; exact one c)
  | store a c d => exact two (by simp) (by
      intro o ho
      rcases List.mem_cons.mp ho with z | z
      · rw [z]; exact one c
      · rw [List.mem_singleton.mp z]; exact one d)
def MthOk (P : Program) (w : World) (K : PySem.W.Frag) (mg : Str → Option Value) (base : Heap) (C : Addr) (nm : Str) (n : Nat) (ps : List Str) (sp : Sp) : Prop := ∃ f fd, Meth K C nm f ∧ FnOk P w K mg base CX0 n f fd ps sp ∧ Binds K fd ps []
structure Mts (P : Program) (w : World) (K : PySem.W.Frag) (mg : Str → Option Value) (base : Heap) (C : Nat → Addr) : Prop where
  uw : ∀ k, k < 7 → ∃ ks, k ∈ ks ∧ MthOk P w K mg base (C k) "uses_way" 1 ["self"] (spUw C ks)
  so : ∀ k, k < 7 → ∃ ks, k ∈ ks ∧ MthOk P w K mg base (C k) "sources" 1 ["self"] (spSo C ks)
  tg : ∀ k, k < 7 → ∃ ks, k ∈ ks ∧ MthOk P w K mg base (C k) "targets" 1 ["self"] (spTg C ks)
abbrev sTouched : Stmt := inClass (top 36) 6
abbrev sReads : Stmt := inClass (top 36) 4
abbrev sWrites : Stmt := inClass (top 36) 5
inductive spTouched (C : Nat → Addr) (vs : List V) (H : Hp) (Q : VK) (Z3 : XK) : Prop
  | mk (v : V) (m : Md) (l : Addr) (ns : List Nat) : vs = [v, .ref l] → StepV C H v m → H l = some (.lst (natV ns)) → ns.length ≤ 2 → (∀ k ∈ ns, k < 8) → (∀ p H', Same H H' → H p = none → H' p = some (.lst (strsV (nms m ns))) → Q (.ref p) H') → spTouched C vs H Q Z3
inductive spRd (C : Nat → Addr) (vs : List V) (H : Hp) (Q : VK) (Z3 : XK) : Prop
  | mk (v : V) (m : Md) : vs = [v] → StepV C H v m → (∀ p H', Same H H' → H p = none → H' p = some (.lst (strsV (readsN m))) → Q (.ref p) H') → spRd C vs H Q Z3
inductive spWr (C : Nat → Addr) (vs : List V) (H : Hp) (Q : VK) (Z3 : XK) : Prop
  | mk (v : V) (m : Md) : vs = [v] → StepV C H v m → (∀ p H', Same H H' → H p = none → H' p = some (.lst (strsV (writesN m))) → Q (.ref p) H') → spWr C vs H Q Z3
section
variable {P : Program} {w : World} {K : PySem.W.Frag} {mg : Str → Option Value} {base : Heap} {C fi : Nat → Addr}
theorem scTouched : FnScope ["self", "inner", "names"] ["self", "inner"] (defScope sTouched) := ⟨rfl, rfl, rfl, by decide +kernel, rfl, by decide +kernel, by decide +kernel⟩
theorem ndR : (["r"] : List Str).Nodup := by decide +kernel
set_option maxHeartbeats 2000000 in
theorem ok_touched {f : Addr} {fd : FuncData} (F : Fun K "touched" "Step.touched" sTouched f fd) (T : Ct K mg C fi) (B : Bl2 mg) (U : Mts P w K mg base C) : FnOk P w K mg base CX0 2 f fd ["self", "inner"] (spTouched C) := by
  refine F.ok scTouched (fun vs H Q E h => ?_) (fun cdv A outer s H vs Q E hr h => ?_)
  · obtain ⟨v, m, l, ns, rfl, _⟩ := h
    rfl
  · obtain ⟨v, m, l, ns, rfl, hv, hl, h2, h8, q⟩ := h
    have sz : (1000 : Nat) ≤ sizeLine := by decide
    refine ⟨_, pss_cons (ps_setLC (i := 2) scTouched.nd rfl rfl (N' := ["r"]) (ix := [none]) (sc0 := defScope sTouched) (N := ["self", "inner", "names"]) rfl (by decide +kernel) (pi_list (pe_callB (call_sortset rfl) (by rfl) B.sorted boot_sorted' (pa_cons (pe_callTy (call_set2 rfl) (by rfl) B.set boot_set' (pa_cons (pv 1) pa_nil)) pa_nil)))
        (fun C' cl s H fp => pg_name (i := 0) ndR rfl (Or.inl rfl) (.inr rfl)) (fun _ _ _ _ _ => pf_nil) (fun C' cl s H fp => pe_fstr1 (pv 0)))
      (pss_one (ps_ret (pe_ifExp (pt_val (pe_methD0 (pv 0))) (pe_op op_cat (pv 2) (pe_lst (pa_cons pe_str pa_nil))) (pv 2)))), ?_⟩
    obtain ⟨f1, f2, f3⟩ := foldN_facts h2
    refine ⟨_, rfl, l, ns, rfl, SqL.of hl, h2, h8, fun a na => ⟨a, foldN ns, rfl, upd_same, f1, f2, fun p np => ⟨p, rfl, ⟨_, SqL.of upd_same⟩, ?_⟩⟩⟩
    have s1 : Same H (upd (upd H a (SetO w a (foldN ns))) p (.lst (natV (foldN ns)))) := (same_new na).trans (same_new np)
    have e1 : (upd (upd H a (SetO w a (foldN ns))) p (.lst (natV (foldN ns)))) p = some (.lst (natV (foldN ns))) := upd_same
    generalize hH : upd (upd H a (SetO w a (foldN ns))) p (.lst (natV (foldN ns))) = H1 at s1 e1
    have hH' : upd (upd H a (SetO ((cxOf CX0 P w K mg base ["self", "inner", "names"] "Step.touched" (defScope sTouched) f cdv A outer s H E).nox.w) a (foldN ns))) p (.lst (natV (foldN ns))) = H1 := hH
    rw [hH']
    refine lc_list (K := K) (a := p) (xs := natV (foldN ns)) (fun i ys H' => H' = H1 ∧ ys = (strsV ((foldN ns).map rN)).take i) ⟨rfl, rfl⟩ (fun i ys H' hi ⟨a1, a2⟩ => by
        subst a1 a2
        refine ⟨SqL.of e1, ?_⟩
        rw [List.length_take]
        have : (strsV ((foldN ns).map rN)).length ≤ 2 := by unfold strsV; rw [List.length_map, List.length_map]; exact f1
        lia) ?_ ?_
    · rintro i x ys H' hx ⟨rfl, rfl⟩
      have hlt : i < (natV (foldN ns)).length := (List.getElem?_eq_some_iff.mp hx).1
      have hlt' : i < (foldN ns).length := by unfold natV at hlt; rw [List.length_map] at hlt; exact hlt
      have ex : x = .int ((foldN ns)[i] : Int) := by
        have := (List.getElem?_eq_some_iff.mp hx).2
        rw [← this]
        unfold natV
        rw [List.getElem_map]
      subst ex
      have k8 : (foldN ns)[i] < 8 := h8 _ ((f3 _).mp (List.getElem_mem hlt'))
      refine ⟨trivial, tAny_T ?_⟩
      refine ⟨_, rfl, _, rfl, small8 _ k8, Nat.le_trans (rN_len _ k8) (by decide), ?_⟩
      refine Nx.mk hlt ⟨rfl, ?_⟩
      have g : (strsV ((foldN ns).map rN))[i]? = some (.str (rN (foldN ns)[i])) := by
        unfold strsV
        rw [List.getElem?_map, List.getElem?_map, List.getElem?_eq_getElem hlt']
        rfl
      rw [List.take_succ, g]
      rfl
    · rintro ys H' ⟨rfl, rfl⟩ D hD
      have eys : (strsV ((foldN ns).map rN)).take (natV (foldN ns)).length = strsV ((foldN ns).map rN) := by
        refine List.take_of_length_le ?_
        unfold strsV natV
        rw [List.length_map, List.length_map, List.length_map]
        exact Nat.le_refl _
      rw [eys]
      have s2 := same_new (o := .lst (strsV ((foldN ns).map rN))) hD
      have e2 : (upd H' D (.lst (strsV ((foldN ns).map rN)))) D = some (.lst (strsV ((foldN ns).map rN))) := upd_same
      generalize upd H' D (.lst (strsV ((foldN ns).map rN))) = H2 at *
      have s02 := s1.trans s2
      have nD : H D = none := s1.free hD
      obtain ⟨ad, dx, fs, rfl, ha, hk, l1, _⟩ := hv.at_
      obtain ⟨ks, hks, fu, fdu, Mu, Fu, Bu⟩ := U.uw m.kind hk
      refine ⟨_, rfl, ad, dx, C m.kind, fu, fs, fdu, 1, ["self"], _, rfl, s02 _ _ ha, l1, T.cls _ hk, Mu, Fu, hr, Bu, .ref ad, m, rfl, hv.same s02, hks, _, rfl, ?_⟩
      refine ite2 (fun h => ?_) (fun h => ?_)
      · have h3 : m.kind ≠ 3 := of_decide_eq_true h
        refine ⟨_, rfl, (by show 1 ≤ sizeLine; decide), fun lw nw => ?_⟩
        have s3 := same_new (o := .lst [.str "way"]) nw
        refine ⟨D, lw, _, _, rfl, rfl, s3 _ _ e2, upd_same, ?_, fun r nr => ?_⟩
        · unfold strsV
          rw [List.length_map, List.length_map]
          show _ + 1 ≤ _
          lia
        have s4 := same_new (o := .lst (strsV ((foldN ns).map rN) ++ [.str "way"])) nr
        refine q r _ (s02.trans (s3.trans s4)) (s02.free (s3.free nr)) ?_
        rw [upd_same]
        unfold nms strsV
        rw [if_neg h3, List.map_append]
        rfl
      · have h3 : m.kind = 3 := by
          by_cases z : m.kind = 3
          · exact z
          · exact absurd (decide_eq_true z) h
        refine ⟨_, rfl, q D _ s02 nD ?_⟩
        rw [e2]
        unfold nms
        rw [if_pos h3, List.append_nil]
end
end L3
namespace L3
open PySem L2
theorem ix_tupK {X : Cx} {K : PySem.W.Frag} (h : X.K = K) : IxR X (rIxT K) := by
  subst h
  exact ix_tup
theorem op_in_seqK {X : Cx} {K : PySem.W.Frag} (h : X.K = K) : OpR X (compareOp .In) (rIn K false) := by
  subst h
  exact op_in_seq
theorem inV_strs (x : Str) (l : List Str) : inV (.str x) (strsV l) = l.contains x := by
  unfold inV strsV
  rw [List.any_map, Bool.eq_iff_iff, List.any_eq_true, List.contains_iff_mem]
  constructor
  · rintro ⟨y, hy, e⟩
    have : y = x := by simpa [eqV] using e
    rw [← this]
    exact hy
  · intro hx
    exact ⟨x, hx, by simp [eqV]⟩
theorem flat_strs (l : List Str) : (strsV l).all flatV = true := by
  unfold strsV
  rw [List.all_map, List.all_eq_true]
  intro x _
  rfl
def touchB (names : List Str) (m : Md) : Bool := names.any fun x => (readsN m ++ writesN m).contains x
def meetB (a b : Md) : Bool := touchB (writesN a) b || touchB (writesN b) a
theorem nms_len {m : Md} {ns : List Nat} (h : ns.length ≤ 2) : (nms m ns).length ≤ 3 := by
  obtain ⟨f1, _⟩ := foldN_facts h
  unfold nms
  rw [List.length_append, List.length_map]
  split <;> simp <;> lia
structure Mts2 (P : Program) (w : World) (K : PySem.W.Frag) (mg : Str → Option Value) (base : Heap) (C : Nat → Addr) : Prop extends Mts P w K mg base C where
  to : ∀ k, k < 7 → MthOk P w K mg base (C k) "touched" 2 ["self", "inner"] (spTouched C)
structure Mts3 (P : Program) (w : World) (K : PySem.W.Frag) (mg : Str → Option Value) (base : Heap) (C : Nat → Addr) : Prop where
  rd : ∀ k, k < 7 → MthOk P w K mg base (C k) "reads" 3 ["self"] (spRd C)
  wr : ∀ k, k < 7 → MthOk P w K mg base (C k) "writes" 3 ["self"] (spWr C)
section
variable {P : Program} {w : World} {K : PySem.W.Frag} {mg : Str → Option Value} {base : Heap} {C fi : Nat → Addr}
theorem scWrites : FnScope ["self"] ["self"] (defScope sWrites) := ⟨rfl, rfl, rfl, by decide +kernel, rfl, by decide +kernel, by decide +kernel⟩
set_option maxHeartbeats 1000000 in
theorem ok_writes {f : Addr} {fd : FuncData} (F : Fun K "writes" "Step.writes" sWrites f fd) (T : Ct K mg C fi) (U : Mts2 P w K mg base C) : FnOk P w K mg base CX0 3 f fd ["self"] (spWr C) := by
  refine F.ok scWrites (fun vs H Q E h => ?_) (fun cdv A outer s H vs Q E hr h => ?_)
  · obtain ⟨v, m, rfl, _⟩ := h
    rfl
  · obtain ⟨v, m, rfl, hv, q⟩ := h
    have hr1 : Room 1 _ := hr.mono (by decide)
    refine ⟨_, pss_one (ps_ret (pe_methD (pv 0) (pa_cons (pe_methD0 (pv 0)) pa_nil))), ?_⟩
    obtain ⟨ad, dx, fs, rfl, ha, hk, l1, l2, l3, l4, l5, l6⟩ := hv.at_
    obtain ⟨ft, fdt, Mt, Ft, Bt⟩ := U.to m.kind hk
    obtain ⟨ks, hks, fg, fdg, Mg, Fg, Bg⟩ := U.tg m.kind hk
    refine ⟨_, rfl, ad, dx, C m.kind, ft, fs, fdt, 2, ["self", "inner"], _, rfl, ha, l4, T.cls _ hk, Mt, Ft, hr, Bt, ?_⟩
    refine ⟨_, rfl, ad, dx, C m.kind, fg, fs, fdg, 1, ["self"], _, rfl, ha, l3, T.cls _ hk, Mg, Fg, hr1, Bg, .ref ad, m, rfl, hv, hks, fun p np => ?_⟩
    have s1 := same_new (o := .lst (natV (tgt m))) np
    refine ⟨.ref ad, m, p, tgt m, rfl, hv.same s1, upd_same, hv.tgt8.1, hv.tgt8.2, fun r H' s2 nr er => ?_⟩
    exact q r H' (s1.trans s2) (s1.free nr) er
theorem scReads : FnScope ["self"] ["self"] (defScope sReads) := ⟨rfl, rfl, rfl, by decide +kernel, rfl, by decide +kernel, by decide +kernel⟩
theorem ndSrc : (["source"] : List Str).Nodup := by decide +kernel
set_option maxHeartbeats 2000000 in
theorem ok_reads {f : Addr} {fd : FuncData} (F : Fun K "reads" "Step.reads" sReads f fd) (T : Ct K mg C fi) (U : Mts2 P w K mg base C) : FnOk P w K mg base CX0 3 f fd ["self"] (spRd C) := by
  refine F.ok scReads (fun vs H Q E h => ?_) (fun cdv A outer s H vs Q E hr h => ?_)
  · obtain ⟨v, m, rfl, _⟩ := h
    rfl
  · obtain ⟨v, m, rfl, hv, q⟩ := h
    have hr1 : Room 1 _ := hr.mono (by decide)
    have sz : (1000 : Nat) ≤ sizeLine := by decide
    refine ⟨_, pss_one (ps_ret (pe_methD (pv 0) (pa_cons (pe_lc (N' := ["source"]) (ix := [none]) (sc0 := defScope sReads) (N := ["self"]) rfl (by decide +kernel) (pi_list (pe_methD0 (pv 0)))
        (fun C' cl s H fp => pg_name (i := 0) ndSrc rfl (Or.inl rfl) (.inr rfl)) (fun _ _ _ _ _ => pf_one (pt_cmpR op_eq (pe_ix (ix_tupK (K := K) rfl) (pv 0) pe_int (fun _ _ => rfl)) pe_str (nomark _))) (fun C' cl s H fp => pe_ix (ix_tupK (K := K) rfl) (pv 0) pe_int (fun _ _ => rfl))) pa_nil))), ?_⟩
    obtain ⟨ad, dx, fs, rfl, ha, hk, l1, l2, l3, l4, l5, l6⟩ := hv.at_
    obtain ⟨ft, fdt, Mt, Ft, Bt⟩ := U.to m.kind hk
    obtain ⟨ks, hks, fg, fdg, Mg, Fg, Bg⟩ := U.so m.kind hk
    refine ⟨_, rfl, ad, dx, C m.kind, ft, fs, fdt, 2, ["self", "inner"], _, rfl, ha, l4, T.cls _ hk, Mt, Ft, hr, Bt, ?_⟩
    refine ⟨_, rfl, ad, dx, C m.kind, fg, fs, fdg, 1, ["self"], _, rfl, ha, l2, T.cls _ hk, Mg, Fg, hr1, Bg, .ref ad, m, rfl, hv, hks, fun p us np hus => ?_⟩
    have s1 := same_new (o := .lst us) np
    have e1 : (upd H p (.lst us)) p = some (.lst us) := upd_same
    generalize upd H p (.lst us) = H1 at *
    have lus := hus.length
    have l8 : m.src.length ≤ 2 := by cases hv <;> simp
    refine ⟨p, rfl, ⟨_, SqL.of e1⟩, ?_⟩
    refine lc_list (K := K) (a := p) (xs := us) (fun i ys H' => H' = H1 ∧ ys = natV ((m.src.take i).filterMap id)) ⟨rfl, rfl⟩ (fun i ys H' hi ⟨a1, a2⟩ => by
        subst a1 a2
        refine ⟨SqL.of e1, ?_⟩
        unfold natV
        rw [List.length_map]
        have := List.length_filterMap_le (f := id) (l := m.src.take i)
        rw [List.length_take] at this
        lia) ?_ ?_
    · rintro i x ys H' hx ⟨rfl, rfl⟩
      have hlt : i < us.length := (List.getElem?_eq_some_iff.mp hx).1
      have hlt' : i < m.src.length := by lia
      have gsrc : m.src[i]? = some m.src[i] := List.getElem?_eq_getElem hlt'
      have hso : SrcOK H x m.src[i] := by
        have hxs : us[i] = x := (List.getElem?_eq_some_iff.mp hx).2
        have key : ∀ {a : List V} {b : List (Option Nat)}, Paired (SrcOK H) a b → ∀ (j : Nat) (h1 : j < a.length) (h2 : j < b.length), SrcOK H a[j] b[j] := by
          intro a b hp
          induction hp with
          | nil => intro j h1; simp at h1
          | cons hh _ ih =>
            intro j h1 h2
            cases j with
            | zero => exact hh
            | succ j => exact ih j (by simpa using h1) (by simpa using h2)
        have := key hus i hlt hlt'
        rw [hxs] at this
        exact this
      obtain ⟨ps, n, iv, rfl, hps, hn⟩ := hso
      have hps1 := s1 _ _ hps
      have et : m.src.take (i + 1) = m.src.take i ++ [m.src[i]] := by
        rw [List.take_succ, gsrc]
        rfl
      refine ⟨trivial, _, rfl, ps, _, _, _, rfl, rfl, SqT.of hps1, rfl, rfl, _, rfl, ?_⟩
      rcases hn with ⟨rfl, h0, h7, eo⟩ | ⟨rfl, h0, h7, eo⟩ | ⟨rfl, h0, h7, eo⟩
      · refine iteA (by decide +kernel) ?_
        refine ⟨_, rfl, ps, _, _, _, rfl, rfl, SqT.of hps1, rfl, ?_⟩
        refine Nx.mk hlt ⟨rfl, ?_⟩
        rw [et, List.filterMap_append, eo]
        unfold natV
        rw [List.map_append]
        have : ((iv.toNat : Nat) : Int) = iv := Int.toNat_of_nonneg h0
        simp [this]
      · refine iteB (by decide +kernel) ?_
        refine Nx.mk hlt ⟨rfl, ?_⟩
        rw [et, List.filterMap_append, eo]
        simp
      · refine iteB (by decide +kernel) ?_
        refine Nx.mk hlt ⟨rfl, ?_⟩
        rw [et, List.filterMap_append, eo]
        simp
    · rintro ys H' ⟨rfl, rfl⟩ D hD
      rw [lus, List.take_length]
      have s2 := same_new (o := .lst (natV (inR m))) hD
      refine ⟨.ref ad, m, D, inR m, rfl, hv.same (s1.trans s2), upd_same, hv.in8.1, hv.in8.2, fun r H2 s3 nr er => ?_⟩
      exact q r H2 ((s1.trans s2).trans s3) ((s1.trans s2).free nr) er
inductive spTouches (C : Nat → Addr) (vs : List V) (H : Hp) (Q : VK) (Z3 : XK) : Prop
  | mk (p : Addr) (names : List Str) (v : V) (m : Md) : vs = [.ref p, v] → H p = some (.lst (strsV names)) → names.length ≤ 3 → StepV C H v m → (∀ H', Same H H' → Q (.bl (touchB names m)) H') → spTouches C vs H Q Z3
inductive spMeets (C : Nat → Addr) (vs : List V) (H : Hp) (Q : VK) (Z3 : XK) : Prop
  | mk (v u : V) (m n : Md) : vs = [v, u] → StepV C H v m → StepV C H u n → (∀ H', Same H H' → Q (.bl (meetB m n)) H') → spMeets C vs H Q Z3
theorem scTouches : FnScope ["names", "step", "touched"] ["names", "step"] (defScope sTouches) := ⟨rfl, rfl, rfl, by decide +kernel, rfl, by decide +kernel, by decide +kernel⟩
theorem ndNm : (["name", "touched"] : List Str).Nodup := by decide +kernel
set_option maxHeartbeats 2000000 in
theorem ok_touches {f : Addr} {fd : FuncData} (F : Fun K "touches" "touches" sTouches f fd) (T : Ct K mg C fi) (B : Bl2 mg) (U : Mts3 P w K mg base C) : FnOk P w K mg base CX0 4 f fd ["names", "step"] (spTouches C) := by
  refine F.ok scTouches (fun vs H Q E h => ?_) (fun cdv A outer s H vs Q E hr h => ?_)
  · obtain ⟨p, names, v, m, rfl, _⟩ := h
    rfl
  · obtain ⟨p, names, v, m, rfl, hp, h3, hv, q⟩ := h
    have sz : (1000 : Nat) ≤ sizeLine := by decide
    refine ⟨_, pss_cons (ps_set (i := 2) scTouches.nd rfl (Or.inr rfl) (pe_op op_cat (pe_methD0 (pv 1)) (pe_methD0 (pv 1))))
      (pss_one (ps_ret (pe_callB (call_any rfl) (by rfl) B.any boot_any' (pa_cons (pe_lc (N' := ["name", "touched"]) (ix := [none, some 2]) (sc0 := defScope sTouches) (N := ["names", "step", "touched"]) rfl (by decide +kernel) (pi_list (pv 0))
        (fun C' cl s H fp => pg_name (i := 0) ndNm rfl (Or.inl rfl) (.inr rfl)) (fun _ _ _ _ _ => pf_nil) (fun C' cl s H fp => pe_cmpR (op_in_seqK (K := K) rfl) (pv 0) (pv 1) rfl)) pa_nil)))), ?_⟩
    obtain ⟨ad, dx, fs, rfl, ha, hk, l1, l2, l3, l4, l5, l6⟩ := hv.at_
    obtain ⟨fr, fdr, Mr, Fr, Br⟩ := U.rd m.kind hk
    obtain ⟨fw, fdw, Mw, Fw, Bw⟩ := U.wr m.kind hk
    refine ⟨_, rfl, ad, dx, C m.kind, fr, fs, fdr, 3, ["self"], _, rfl, ha, l5, T.cls _ hk, Mr, Fr, hr, Br, .ref ad, m, rfl, hv, fun p1 H1 s1 n1 e1 => ?_⟩
    refine ⟨_, rfl, ad, dx, C m.kind, fw, fs, fdw, 3, ["self"], _, rfl, s1 _ _ ha, l6, T.cls _ hk, Mw, Fw, hr, Bw, .ref ad, m, rfl, hv.same s1, fun p2 H2 s2 n2 e2 => ?_⟩
    have lr := nms_len (m := m) hv.in8.1
    have lw := nms_len (m := m) hv.tgt8.1
    refine ⟨p1, p2, _, _, rfl, rfl, s2 _ _ e1, e2, ?_, fun p3 n3 => ?_⟩
    · unfold strsV
      rw [List.length_map, List.length_map]
      have : (readsN m).length ≤ 3 := lr
      have : (writesN m).length ≤ 3 := lw
      lia
    have ecat : strsV (readsN m) ++ strsV (writesN m) = strsV (readsN m ++ writesN m) := by unfold strsV; rw [List.map_append]
    rw [ecat]
    have s3 := same_new (o := .lst (strsV (readsN m ++ writesN m))) n3
    have e3 : (upd H2 p3 (.lst (strsV (readsN m ++ writesN m)))) p3 = some (.lst (strsV (readsN m ++ writesN m))) := upd_same
    generalize upd H2 p3 (.lst (strsV (readsN m ++ writesN m))) = H3 at *
    have s03 := (s1.trans s2).trans s3
    refine ⟨_, rfl, p, rfl, ⟨_, SqL.of (s03 _ _ hp)⟩, ?_⟩
    have ln : (strsV names).length = names.length := by unfold strsV; rw [List.length_map]
    refine lc_list (K := K) (a := p) (xs := strsV names) (fun i ys H' => H' = H3 ∧ ys = ((names.take i).map fun x => (readsN m ++ writesN m).contains x).map V.bl) ⟨rfl, rfl⟩ (fun i ys H' hi ⟨a1, a2⟩ => by
        subst a1 a2
        refine ⟨SqL.of (s03 _ _ hp), ?_⟩
        rw [List.length_map, List.length_map, List.length_take]
        lia) ?_ ?_
    · rintro i x ys H' hx ⟨rfl, rfl⟩
      have hlt : i < (strsV names).length := (List.getElem?_eq_some_iff.mp hx).1
      have hlt' : i < names.length := by lia
      have ex : x = .str names[i] := by
        have := (List.getElem?_eq_some_iff.mp hx).2
        rw [← this]
        unfold strsV
        rw [List.getElem_map]
      subst ex
      refine ⟨⟨rfl, trivial⟩, tAny_T ?_⟩
      refine ⟨_, rfl, _, rfl, p3, _, rfl, .inl (SqL.of e3), rfl, flat_strs _, ?_⟩
      refine Nx.mk hlt ⟨rfl, ?_⟩
      have et : names.take (i + 1) = names.take i ++ [names[i]] := by
        rw [List.take_succ, List.getElem?_eq_getElem hlt']
        rfl
      rw [et, List.map_append, List.map_append]
      show _ ++ [V.bl (inV (.str names[i]) (strsV (readsN m ++ writesN m)))] = _
      rw [inV_strs]
      rfl
    · rintro ys H' ⟨rfl, rfl⟩ D hD
      rw [ln, List.take_length]
      have s4 := same_new (o := .lst ((names.map fun x => (readsN m ++ writesN m).contains x).map V.bl)) hD
      refine ⟨D, names.map fun x => (readsN m ++ writesN m).contains x, rfl, SqL.of upd_same, ?_⟩
      have ea : (names.map fun x => (readsN m ++ writesN m).contains x).any id = touchB names m := by
        unfold touchB
        rw [List.any_map]
        rfl
      rw [ea]
      exact q _ (s03.trans s4)
theorem scMeets : FnScope ["one", "other"] ["one", "other"] (defScope sMeets) := ⟨rfl, rfl, rfl, by decide +kernel, rfl, by decide +kernel, by decide +kernel⟩
set_option maxHeartbeats 1000000 in
theorem ok_meets {f : Addr} {fd : FuncData} (F : Fun K "meets" "meets" sMeets f fd) (T : Ct K mg C fi) (U : Mts3 P w K mg base C) (TC : Fn P w K mg base "touches" 4 ["names", "step"] (spTouches C)) : FnOk P w K mg base CX0 5 f fd ["one", "other"] (spMeets C) := by
  refine F.ok scMeets (fun vs H Q E h => ?_) (fun cdv A outer s H vs Q E hr h => ?_)
  · obtain ⟨v, u, m, n, rfl, _⟩ := h
    rfl
  · obtain ⟨v, u, m, n, rfl, hv, hu, q⟩ := h
    have hr3 : Room 3 _ := hr.mono (by decide)
    refine ⟨_, pss_one (ps_ret (pe_or (pe_fn TC hr rfl (pa_cons (pe_methD0 (pv 0)) (pa_cons (pv 1) pa_nil))) (pe_one (pe_fn TC hr rfl (pa_cons (pe_methD0 (pv 1)) (pa_cons (pv 0) pa_nil)))))), ?_⟩
    obtain ⟨a1, dx1, fs1, rfl, ha1, hk1, _, _, _, _, _, w1⟩ := hv.at_
    obtain ⟨a2, dx2, fs2, rfl, ha2, hk2, _, _, _, _, _, w2⟩ := hu.at_
    obtain ⟨f1, fd1, M1, F1, B1⟩ := U.wr m.kind hk1
    obtain ⟨f2, fd2, M2, F2, B2⟩ := U.wr n.kind hk2
    refine ⟨_, rfl, a1, dx1, C m.kind, f1, fs1, fd1, 3, ["self"], _, rfl, ha1, w1, T.cls _ hk1, M1, F1, hr3, B1, .ref a1, m, rfl, hv, fun p1 H1 s1 n1 e1 => ?_⟩
    refine ⟨_, rfl, p1, writesN m, .ref a2, n, rfl, e1, nms_len hv.tgt8.1, hu.same s1, fun H2 s2 => ⟨_, rfl, ?_⟩⟩
    have s02 := s1.trans s2
    refine ite2 (fun h => ?_) (fun h => ?_)
    · have := q H2 s02
      unfold meetB at this
      rw [h, Bool.true_or] at this
      exact this
    · refine ⟨_, rfl, a2, dx2, C n.kind, f2, fs2, fd2, 3, ["self"], _, rfl, s02 _ _ ha2, w2, T.cls _ hk2, M2, F2, hr3, B2, .ref a2, n, rfl, hu.same s02, fun p3 H3 s3 n3 e3 => ?_⟩
      refine ⟨_, rfl, p3, writesN n, .ref a1, m, rfl, e3, nms_len hu.tgt8.1, hv.same (s02.trans s3), fun H4 s4 => ?_⟩
      have := q H4 (s02.trans (s3.trans s4))
      unfold meetB at this
      rw [Bool.eq_false_iff.mpr h, Bool.false_or] at this
      exact this
end
end L3
namespace L2
open PySem PySem.Spec PyProof.Rows
abbrev Kn := Key ⊕ List Key
section
variable (P : Program) (w : World)
inductive ItsN (h : Heap) : List Kn → List Value → Prop
  | nil : ItsN h [] []
  | key {k : Key} {v : Value} {ks : List Kn} {vs : List Value} : (mixKind P w).is k v = true → ItsN h ks vs → ItsN h (.inl k :: ks) (v :: vs)
  | tup {l : List Key} {a : Addr} {ks : List Kn} {vs : List Value} : IsTupleKey (mixKind P w) h l a → ItsN h ks vs → ItsN h (.inr l :: ks) (.ref a :: vs)
def IsNest (h : Heap) (ks : List Kn) (a : Addr) : Prop := ∃ o items n, h.get? a = some o ∧ o.cls = .type "tuple" ∧ o.data = .seq items n ∧ ItsN P w h ks items.toList
def knHash : Kn → Int
  | .inl k => (mixKind P w).hash k
  | .inr l => tupleKeyHash (mixKind P w) l
def knDraws : Kn → Nat
  | .inl _ => 1
  | .inr l => l.length + 1
end
section
variable {P : Program} {w : World} {h : Heap} {s : Shared} {A : Around} {E : Value → Shared → Prop}
theorem mix_noref {k : Key} {a : Addr} : ¬ (mixKind P w).is k (.ref a) = true := fun e => by
  rcases keyIs_shape e with ⟨i, t, _, e⟩ | ⟨x, t, _, e⟩ <;> cases e
theorem ItsN.inj {x y : List Kn} {vs : List Value} (hx : ItsN P w h x vs) (hy : ItsN P w h y vs) : x = y := by
  induction hx generalizing y with
  | nil => cases hy; rfl
  | key h1 _ ih =>
    cases hy with
    | key h2 t2 => rw [(mixKind P w).inj _ _ _ h1 h2, ih t2]
    | tup h2 t2 => exact absurd h1 mix_noref
  | tup h1 _ ih =>
    cases hy with
    | key h2 t2 => exact absurd h2 mix_noref
    | tup h2 t2 => rw [h1.inj h2, ih t2]
theorem IsNest.typeIs {ks : List Kn} {a : Addr} (x : IsNest P w s.heap ks a) : s.TypeIs (.ref a) "tuple" := let ⟨o, _, _, ho, hc, _⟩ := x; ⟨o, ho, hc⟩
theorem IsNest.inj {a : Addr} {x y : List Kn} (hx : IsNest P w h x a) (hy : IsNest P w h y a) : x = y := by
  obtain ⟨o, items, n, ho, _, hd, hi⟩ := hx
  obtain ⟨o', items', n', ho', _, hd', hi'⟩ := hy
  obtain rfl : o = o' := Option.some.inj (ho.symm.trans ho')
  rw [hd] at hd'
  injection hd' with h1 _
  subst h1
  exact hi.inj hi'
theorem ItsN.mono {h' : Heap} {x : List Kn} {vs : List Value} (hx : ItsN P w h x vs) (k : ∀ l a, IsTupleKey (mixKind P w) h l a → IsTupleKey (mixKind P w) h' l a) : ItsN P w h' x vs := by
  induction hx with
  | nil => exact .nil
  | key h1 _ ih => exact .key h1 ih
  | tup h1 _ ih => exact .tup (k _ _ h1) ih
theorem IsNest.keeps {h' : Heap} {ks : List Kn} {a d : Addr} {o : Obj} {es ep} (x : IsNest P w h ks a) (ho : h.get? d = some o) (hd : o.data = .dict es ep) (hs : Heap.SameBut d h h') : IsNest P w h' ks a := by
  obtain ⟨o', items, n, ho', hc, hd', hi⟩ := x
  have hne : a ≠ d := by
    rintro rfl
    obtain rfl : o' = o := Option.some.inj (ho'.symm.trans ho)
    rw [hd] at hd'; exact nomatch hd'
  exact ⟨o', items, n, (hs.2 a hne).trans ho', hc, hd', hi.mono fun _ _ t => t.keeps ho hd hs⟩
def nestHash (P : Program) (w : World) (ks : List Kn) : Int := reduceHash (Builtin.Tuple.tupleHashOf (ks.map (knHash P w)))
def nestDraws (ks : List Kn) : Nat := (ks.map knDraws).sum + 1
theorem pyHash_nest {ks : List Kn} {a : Addr} {Q : Int → Shared → Prop} (hu : A.units + 8 < cLine) (hk : IsNest P w s.heap ks a) (h : Q (nestHash P w ks) { s with toks := s.toks + nestDraws ks }) :
    wpAny (model P w) A (pyHash (.ref a)) Q E s := by
  have hT := hk.typeIs
  obtain ⟨o, items, n, ho, _, hd, hi⟩ := hk
  unfold pyHash
  first | unfold pyHashByItsType | skip
  first | refine wpAny_bind (wpAny_cRoomFor_or (.inr (by lia)) ?_) | skip
  refine wpAny_bind (wpAny_specialOf hT F.slot_tuple_hash.lookup ?_)
  show wpAny _ _ (if (some (Value.builtin "tuple.__hash__") == some Value.none) = true then _ else _) Q E s
  rw [if_neg (by rw [beq_builtin_none]; exact Bool.false_ne_true)]
  refine wpAny_bind (wpAny_specialOf hT F.slot_tuple_hash.lookup ?_)
  show wpAny _ _ (callSpecialIfBoundUnlessNone? (.ref a) "__hash__" _ >>= _) Q E s
  refine wpAny_bind (wpAny_callSpecialIfBoundUnlessNone?_slot hT F.slot_tuple_hash (wpAny_call_entry F.slot_tuple_hash hT F.entry_tuple_hash ?_ (F.args_tuple_hash_1 _)))
  show wpAny _ _ (Builtin.Tuple.tupleItemsOf (.ref a) >>= _) _ _ s
  refine wpAny_bind (wpAny_tupleItemsOf ho hd ?_)
  refine wpAny_bind ?_
  rw [← Array.forIn_toList]
  refine wpAny_forIn_list _
    (fun rest (b : Array Int) s' => ∃ done left, ks = done ++ left ∧ ItsN P w s.heap left rest ∧ b.toList = done.map (knHash P w) ∧ s' = { s with toks := s.toks + (done.map knDraws).sum })
    _ ?_ ?_ _ _ ⟨[], ks, rfl, hi, rfl, rfl⟩
  · rintro x rest b s' ⟨done, left, rfl, hl, hb, rfl⟩
    cases hl with
    | @key k _ ks' _ h1 hl' =>
      refine wpAny_bind ((mixKind P w).pyHash h1 ?_)
      first
        | exact wpAny_pure ⟨done ++ [.inl k], ks', by simp, hl', by simp [hb, knHash], by simp [Nat.add_assoc, knDraws]⟩
        | exact wpAny_bind (wpAny_pure (wpAny_pure ⟨done ++ [.inl k], ks', by simp, hl', by simp [hb, knHash], by simp [Nat.add_assoc, knDraws]⟩))
    | @tup l b' ks' _ h1 hl' =>
      refine wpAny_bind (wpAny_pyHash_tuple (by show A.units + 1 < cLine; lia) h1 ?_)
      first
        | exact wpAny_pure ⟨done ++ [.inr l], ks', by simp, hl', by simp [hb, knHash], by simp [Nat.add_assoc, knDraws]⟩
        | exact wpAny_bind (wpAny_pure (wpAny_pure ⟨done ++ [.inr l], ks', by simp, hl', by simp [hb, knHash], by simp [Nat.add_assoc, knDraws]⟩))
  · rintro b s' ⟨done, left, rfl, hl, hb, rfl⟩
    cases hl
    rw [List.append_nil] at h
    show wpAny _ _ (retInt (Builtin.Tuple.tupleHashOf b.toList)) _ _ _
    rw [hb]
    refine wpAny_ret_mkInt ?_
    show wpAny _ _ (if (decide (-(2 : Int) ^ 63 ≤ Builtin.Tuple.tupleHashOf (done.map (knHash P w))) && decide (Builtin.Tuple.tupleHashOf (done.map (knHash P w)) < 2 ^ 63)) = true then _ else _) Q E _
    unfold nestHash reduceHash nestDraws at h
    by_cases hr : (decide (-(2 : Int) ^ 63 ≤ Builtin.Tuple.tupleHashOf (done.map (knHash P w))) && decide (Builtin.Tuple.tupleHashOf (done.map (knHash P w)) < 2 ^ 63)) = true
    · rw [if_pos hr]
      rw [if_pos hr] at h
      exact wpAny_pure (by simpa [Nat.add_assoc] using h)
    · rw [if_neg hr]
      rw [if_neg hr] at h
      exact wpAny_bind (wpAny_rule (wpAny_pure (by simpa [Nat.add_assoc] using h)))
theorem key_tuple {k : Key} {v : Value} {b : Addr} {items : Array Value} (hu : A.units < cLine) (h : (mixKind P w).is k v = true) (ht : s.heap.IsTuple b items) : SeqAt.EqAt A s v (.ref b) false := by
  rcases keyIs_shape h with ⟨i, t, rfl, rfl⟩ | ⟨x, t, rfl, rfl⟩
  · exact SeqAt.EqAt.int_tuple i t ht hu
  · exact SeqAt.EqAt.str_tuple x t ht hu
theorem tuple_key {k : Key} {v : Value} {b : Addr} {items : Array Value} (hu : A.units < cLine) (h : (mixKind P w).is k v = true) (ht : s.heap.IsTuple b items) : SeqAt.EqAt A s (.ref b) v false := by
  rcases keyIs_shape h with ⟨i, t, rfl, rfl⟩ | ⟨x, t, rfl, rfl⟩
  · exact SeqAt.EqAt.tuple_int i t ht hu
  · exact SeqAt.EqAt.tuple_str x t ht hu
theorem tk_isTuple {l : List Key} {a : Addr} (x : IsTupleKey (mixKind P w) h l a) : ∃ items, h.IsTuple a items := let ⟨o, items, n, ho, hc, hd, _⟩ := x; ⟨items, o, ho, hc, n, hd⟩
theorem its_eq {x y : List Kn} {u v : Value} {us vs : List Value} {Q : Bool → Shared → Prop} (hu : A.units < cLine) (hx : ItsN P w s.heap x (u :: us)) (hy : ItsN P w s.heap y (v :: vs))
    (h : ∀ a b x' y', x = a :: x' → y = b :: y' → ItsN P w s.heap x' us → ItsN P w s.heap y' vs → Q (decide (a = b)) s) : wpAny (model P w) A (eqBool u v) Q E s := by
  cases hx with
  | @key k _ ks _ h1 t1 =>
    cases hy with
    | @key k2 _ ks2 _ h2 t2 =>
      refine (mixKind P w).eqBool h1 h2 ?_
      have := h _ _ _ _ rfl rfl t1 t2
      simpa using this
    | @tup l b ks2 _ h2 t2 =>
      obtain ⟨items, ht⟩ := tk_isTuple h2
      refine key_tuple hu h1 ht P w E Q ?_
      have := h _ _ _ _ rfl rfl t1 t2
      simpa using this
  | @tup l a ks _ h1 t1 =>
    cases hy with
    | @key k2 _ ks2 _ h2 t2 =>
      obtain ⟨items, ht⟩ := tk_isTuple h1
      refine tuple_key hu h2 ht P w E Q ?_
      have := h _ _ _ _ rfl rfl t1 t2
      simpa using this
    | @tup l2 b ks2 _ h2 t2 =>
      refine wpAny_eqBool_tuple hu h1 h2 ?_
      have := h _ _ _ _ rfl rfl t1 t2
      simpa using this
theorem nest_eq_tree {x y : List Kn} {a b : Addr} {R : Fin → Shared → Prop} (hu : A.units < cLine) (hx : IsNest P w s.heap x a) (hy : IsNest P w s.heap y b) (h : R (.done (.ret (.bool (decide (x = y))))) s) :
    wpAny (model P w) A (Builtin.«tuple.__eq__» ⟨[.ref a, .ref b], []⟩) R E s := by
  have hTb := hy.typeIs
  obtain ⟨oa, xs, na, hoa, _, hda, hia⟩ := hx
  obtain ⟨ob, ys, nb, hob, _, hdb, hib⟩ := hy
  show wpAny _ _ (isInstance (.ref b) (.type "tuple") >>= _) _ _ s
  refine wpAny_bind (wpAny_isInstance hTb isSubtype_tuple_tuple ?_)
  simp only [Bool.not_true, Bool.false_eq_true, if_false]
  refine wpAny_bind (wpAny_tupleItemsOf hoa hda ?_)
  refine wpAny_bind (wpAny_tupleItemsOf hob hdb ?_)
  refine wpAny_bind ?_
  refine wpAny_forIn_list _
    (fun rest r s' => r.1 = none ∧ s' = s ∧ ∃ x' y' xs' ys', rest = List.zip xs' ys' ∧ ItsN P w s.heap x' xs' ∧ ItsN P w s.heap y' ys' ∧ decide (x' = y') = decide (x = y) ∧ (xs'.length == ys'.length) = (xs.size == ys.size))
    _ ?_ ?_ _ _ ⟨rfl, rfl, x, y, xs.toList, ys.toList, rfl, hia, hib, rfl, by simp⟩
  · rintro ⟨u, v⟩ rest r s' ⟨hr, rfl, x', y', xs', ys', hz, hx', hy', hdec, hlen⟩
    cases xs' with
    | nil => simp at hz
    | cons u' xs'' =>
      cases ys' with
      | nil => simp at hz
      | cons v' ys'' =>
        simp only [List.zip_cons_cons, List.cons.injEq, Prod.mk.injEq] at hz
        obtain ⟨⟨rfl, rfl⟩, rfl⟩ := hz
        refine wpAny_bind (its_eq hu hx' hy' ?_)
        rintro k1 k2 x'' y'' rfl rfl hx'' hy''
        by_cases hk : k1 = k2
        · subst hk
          rw [decide_eq_true rfl]
          simp only [Bool.not_true, Bool.false_eq_true, if_false]
          refine wpAny_pure ⟨rfl, rfl, x'', y'', xs'', ys'', rfl, hx'', hy'', ?_, by simpa using hlen⟩
          rw [← hdec]
          by_cases hxy : x'' = y''
          · simp [hxy]
          · simp [hxy]
        · rw [decide_eq_false hk]
          simp only [Bool.not_false, if_true]
          have hf : decide (x = y) = false := by rw [← hdec]; simp [hk]
          rw [hf] at h
          exact wpAny_bind (wpAny_pure (wpAny_pure (wpAny_pure h)))
  · rintro ⟨r1, r2⟩ s' ⟨hr, rfl, x', y', xs', ys', hz, hx', hy', hdec, hlen⟩
    simp only at hr
    subst hr
    refine wpAny_pure ?_
    have hfin : (xs.size == ys.size) = decide (x = y) := by
      rw [← hdec, ← hlen]
      cases hx' <;> cases hy' <;> first | (exfalso; simp at hz; done) | simp
    show R (.done (.ret (.bool (xs.size == ys.size)))) s'
    rw [hfin]; exact h
theorem eqBool_nest {x y : List Kn} {a b : Addr} {Q : Bool → Shared → Prop} (hu : A.units + 8 < cLine) (hx : IsNest P w s.heap x a) (hy : IsNest P w s.heap y b) (h : Q (decide (x = y)) s) :
    wpAny (model P w) A (eqBool (.ref a) (.ref b)) Q E s := by
  unfold eqBool
  try with_reducible refine wpAny_holding ?_
  show wpAny _ _ (if (Value.ref a == Value.ref b) = true then _ else _) Q E s
  by_cases hab : (Value.ref a == Value.ref b) = true
  · rw [if_pos hab]
    have e : a = b := by have := eq_of_beq hab; injection this
    subst e
    obtain rfl := hx.inj hy
    exact wpAny_bind (wpAny_rule (wpAny_pure (by simpa using h)))
  · rw [if_neg hab]
    exact wpAny_bind (wpAny_richCompare_same_room (op := .Eq) hx.typeIs hy.typeIs F.slot_tuple_eq
      (wpAny_call_entry F.slot_tuple_eq hx.typeIs F.entry_tuple_eq (nest_eq_tree (by show A.units + 1 < cLine; lia) hx hy ⟨_, rfl, (fun e => nomatch e), wpAny_truthy_bool h⟩) (F.args_tuple_eq_2 _ _)) (by lia))
theorem quiet_tuple (n : Nat) {ks : List Key} {a : Addr} {Q : Bool → Shared → Prop} (hk : IsTupleKey (mixKind P w) s.heap ks a) (h : Q true s) : wpAny (model P w) A (eqIsQuiet (n + 1) (.ref a)) Q E s := by
  have hT := hk.typeIs
  obtain ⟨o, items, n', ho, _, hd, hi⟩ := hk
  unfold eqIsQuiet
  refine wpAny_bind (wpAny_specialOf hT F.slot_tuple_eq.lookup ?_)
  show wpAny _ _ (isInstance (.ref a) (.type "tuple") >>= _) _ _ s
  refine wpAny_bind (wpAny_isInstance hT isSubtype_tuple_tuple ?_)
  simp only [Bool.not_true, Bool.false_eq_true, if_false]
  refine wpAny_bind (wpAny_seqItems ho hd ?_)
  refine wpAny_bind ?_
  show wpAny _ _ (forIn items _ _) _ _ s
  rw [← Array.forIn_toList]
  refine wpAny_forIn_list _ (fun rest r s' => r.1 = none ∧ s' = s ∧ ∀ v ∈ rest, carriedByValue v = true) _ ?_ ?_ _ _ ⟨rfl, rfl, hi.byValue⟩
  · rintro v rest r s' ⟨hr, rfl, hall⟩
    rw [eqIsQuiet_byValue _ (hall v List.mem_cons_self)]
    refine wpAny_bind (wpAny_pure ?_)
    simp only [Bool.not_true, Bool.false_eq_true, if_false]
    exact wpAny_pure ⟨rfl, rfl, fun u hu' => hall u (List.mem_cons_of_mem _ hu')⟩
  · rintro ⟨r1, r2⟩ s' ⟨hr, rfl, _⟩
    simp only at hr
    subst hr
    exact wpAny_pure h
theorem quiet_nest {ks : List Kn} {a : Addr} {Q : Bool → Shared → Prop} (hk : IsNest P w s.heap ks a) (h : Q true s) : wpAny (model P w) A (eqIsQuiet 8 (.ref a)) Q E s := by
  have hT := hk.typeIs
  obtain ⟨o, items, n, ho, _, hd, hi⟩ := hk
  unfold eqIsQuiet
  refine wpAny_bind (wpAny_specialOf hT F.slot_tuple_eq.lookup ?_)
  show wpAny _ _ (isInstance (.ref a) (.type "tuple") >>= _) _ _ s
  refine wpAny_bind (wpAny_isInstance hT isSubtype_tuple_tuple ?_)
  simp only [Bool.not_true, Bool.false_eq_true, if_false]
  refine wpAny_bind (wpAny_seqItems ho hd ?_)
  refine wpAny_bind ?_
  show wpAny _ _ (forIn items _ _) _ _ s
  rw [← Array.forIn_toList]
  refine wpAny_forIn_list _ (fun rest r s' => r.1 = none ∧ s' = s ∧ ∃ ks', ItsN P w s.heap ks' rest) _ ?_ ?_ _ _ ⟨rfl, rfl, ks, hi⟩
  · rintro v rest r s' ⟨hr, rfl, ks', hall⟩
    cases hall with
    | key h1 t1 =>
      rw [eqIsQuiet_byValue _ ((mixKind P w).byValue _ _ h1)]
      refine wpAny_bind (wpAny_pure ?_)
      simp only [Bool.not_true, Bool.false_eq_true, if_false]
      exact wpAny_pure ⟨rfl, rfl, _, t1⟩
    | tup h1 t1 =>
      refine wpAny_bind (quiet_tuple 6 h1 ?_)
      simp only [Bool.not_true, Bool.false_eq_true, if_false]
      exact wpAny_pure ⟨rfl, rfl, _, t1⟩
  · rintro ⟨r1, r2⟩ s' ⟨hr, rfl, _⟩
    simp only at hr
    subst hr
    exact wpAny_pure h
end
def nestKind (P : Program) (w : World) : HeapKind P w (List Kn) where
  is := IsNest P w
  hash := nestHash P w
  draws := nestDraws
  room := fun A => A.units + 8 < cLine
  inj := fun hx hy => hx.inj hy
  keeps := fun x ho hd hs => x.keeps ho hd hs
  pyHash := fun hu hk h => pyHash_nest hu hk h
  eqBool := fun hu hx hy h => eqBool_nest hu hx hy h
  quiet := fun hk h => quiet_nest hk h
end L2
namespace L2
open PySem PySem.Spec PyProof.Rows
section
variable {P : Program} {w : World} {K : Type} [DecidableEq K] {knd : HeapKind P w K} {s : Shared} {A : Around} {E : Value → Shared → Prop}
theorem setdef_heap {d a : Addr} {xs : List (K × Addr × Value)} {k : K} {v : Value} {Q : Value → Shared → Prop} (hu : knd.room A) (hkey : knd.is s.heap k a) (hm : s.heap.DictOfH knd d xs) (hsz : xs.length ≤ sizeLine)
    (h1 : ∀ p, (k, p) ∈ xs → Q p.2 { s with toks := s.toks + knd.draws k })
    (h2 : k ∉ xs.map (·.1) → ∀ h', h'.DictOfH knd d (xs ++ [(k, a, v)]) → Heap.SameBut d s.heap h' → Q v { s with heap := h', toks := s.toks + knd.draws k }) :
    wpAny (model P w) A (dictSetDefault d (.ref a) v) Q E s := by
  obtain ⟨o, es, ep, ho, hc, hd, he, his, hn⟩ := hm
  unfold dictSetDefault
  try with_reducible refine wpAny_holding ?_
  refine wpAny_bind (knd.pyHash hu hkey ?_)
  refine wpAny_bind (wpAny_dictFind_heap (s := { s with toks := s.toks + knd.draws k }) hu hkey ho hd he his hn ?_ ?_)
  · intro hno
    have hnot : k ∉ xs.map (·.1) := not_mem_keys_of_get hno
    refine wpAny_bind (wpAny_rule (wpAny_bind (wpAny_updateDictKeys (hz := by have e := size_of_entries he; lia) (s := { s with toks := s.toks + knd.draws k }) ho hd (wpAny_pure (h2 hnot _ ⟨_, _, ep + 1, Heap.get?_update_self _ ho (Obj.isFreed_of_dict (Obj.data_mapDictKeys hd _)),
      hc.mapDictKeys _, Obj.data_mapDictKeys hd _, ?_, ?_, ?_⟩ (Heap.SameBut.update ..))))))
    · simp [he, entryOfKey]
    · intro x hx
      rcases List.mem_append.mp hx with hx | hx
      · exact knd.keeps (his x hx) ho hd (Heap.SameBut.update ..)
      · simp only [List.mem_singleton] at hx
        subst hx
        exact knd.keeps hkey ho hd (Heap.SameBut.update ..)
    · rw [List.map_append, List.nodup_append]
      refine ⟨hn, by simp, ?_⟩
      intro x hx y hy
      simp only [List.map_cons, List.map_nil, List.mem_singleton] at hy
      subst hy
      exact fun e => hnot (e ▸ hx)
  · intro j p hj
    refine wpAny_bind (wpAny_dictEntries (s := { s with toks := s.toks + knd.draws k }) ho hd ?_)
    rw [entry_at he j, hj]
    exact wpAny_bind (wpAny_rule (wpAny_pure (h1 p (List.mem_of_getElem? hj))))
theorem meetsH_setdef (knd : HeapKind P w K) (d a : Addr) (hd : (d == sysModules) = false) (v : Value) :
    MeetsIn P w (Builtin.«dict.setdefault» ⟨[.ref d, .ref a, v], []⟩) (fun A R s => knd.room A.in1 ∧ ∃ k xs, knd.is s.heap k a ∧ s.heap.DictOfH knd d xs ∧ xs.length ≤ sizeLine ∧
      (∀ p, (k, p) ∈ xs → R (.ok (.ret p.2)) { s with toks := s.toks + knd.draws k }) ∧
      (k ∉ xs.map (·.1) → ∀ h', h'.DictOfH knd d (xs ++ [(k, a, v)]) → Heap.SameBut d s.heap h' → R (.ok (.ret v)) { s with heap := h', toks := s.toks + knd.draws k })) :=
  .of_wp fun A R s ⟨hu, k, xs, hk, hm, hz, h1, h2⟩ => by
    unfold Builtin.«dict.setdefault»
    refine wpAny_bind ?_
    unfold Builtin.Dict.keyAndDefault
    refine wpAny_bind (wpAny_notOrdered_dict (let ⟨o, _, _, ho, hc, _⟩ := hm; ⟨o, ho, hc.1⟩) ?_)
    show wpAny _ _ (pure (d, Value.ref a, some v)) _ _ s
    refine wpAny_pure ?_
    show wpAny _ _ (if (d == sysModules) = true then _ else (dictSetDefault d (.ref a) v >>= _)) _ _ s
    rw [if_neg (by rw [hd]; exact Bool.false_ne_true)]
    exact wpAny_bind (setdef_heap hu hk hm hz (fun p hp => wpAny_pure ⟨_, rfl, h1 p hp⟩) fun hn h' hm' hs' => wpAny_pure ⟨v, rfl, h2 hn h' hm' hs'⟩)
end
inductive NestV (H : Hp) : List Kn → List V → Prop
  | nil : NestV H [] []
  | key {k : Key} {ks : List Kn} {vs : List V} : NestV H ks vs → NestV H (.inl k :: ks) (kV k :: vs)
  | tup {l : List Key} {c : Addr} {ks : List Kn} {vs : List V} : H c = some (.tup (l.map kV)) → NestV H ks vs → NestV H (.inr l :: ks) (.ref c :: vs)
def NestH (H : Hp) (ks : List Kn) (b : Addr) : Prop := ∃ vs, H b = some (.tup vs) ∧ NestV H ks vs
theorem nestV_its {P : Program} {w : World} {H : Hp} {h : Heap} (ok : HOk P w H h) {ks : List Kn} {vs : List V} (n : NestV H ks vs) : ∀ {us : List Value}, Vals vs us → ItsN P w h ks us := by
  induction n with
  | nil => intro us r; cases r; exact .nil
  | key _ ih => intro us r; cases r with | cons a t => exact .key (kV_is a) (ih t)
  | tup e _ ih =>
    intro us r
    cases r with
    | cons a t =>
      cases a
      exact .tup (key_of ok e) (ih t)
theorem nest_of {P : Program} {w : World} {H : Hp} {h : Heap} (ok : HOk P w H h) {ks : List Kn} {b : Addr} (n : NestH H ks b) : IsNest P w h ks b := by
  obtain ⟨vs, e, n⟩ := n
  obtain ⟨_, its, r, o, h1, h2, n', h3⟩ := (show ObjOk P w H h b (.tup vs) from ok b _ e)
  exact ⟨o, its.toArray, n', h1, (Prod.mk.inj h2).1, h3, by simpa using nestV_its ok n r⟩
abbrev Dx := List (List Kn × Addr × Addr)
def vx (xs : Dx) : List (List Kn × Addr × Value) := xs.map fun x => (x.1, x.2.1, Value.ref x.2.2)
def DcP (P : Program) (w : World) (a : Addr) (xs : Dx) (h : Heap) : Prop := xs.length ≤ sizeLine ∧ (a == sysModules) = false ∧ ∃ o es ep, h.get? a = some o ∧ o.ExactDict ∧ o.data = .dict es ep ∧ es.toList = (vx xs).map (entryOfKey (nestKind P w)) ∧ ((vx xs).map (·.1)).Nodup
def DcO (P : Program) (w : World) (a : Addr) (xs : Dx) : HO := .ext (DcP P w a xs)
def DcN (P : Program) (w : World) (H : Hp) (a : Addr) (xs : Dx) : Prop := (xs = [] ∧ H a = some (.dK [])) ∨ H a = some (DcO P w a xs)
theorem DcN.of {P : Program} {w : World} {H : Hp} {h : Heap} {a : Addr} {xs : Dx} (n : DcN P w H a xs) (ok : HOk P w H h) : DcP P w a xs h := by
  rcases n with ⟨rfl, e⟩ | e
  · obtain ⟨z, hd, vs, rel, o, es, ep, h1, h2, h3, h4, h5, h6⟩ := dk_of ok e
    cases rel
    have e0 : es.toList = [] := by
      have := h5.length
      simpa using this
    exact ⟨by decide, hd, o, es, ep, h1, h2, h3, e0, .nil⟩
  · exact (show ObjOk P w H h a (DcO P w a xs) from ok a _ e).1
theorem DcN.mut {P : Program} {w : World} {H : Hp} {a : Addr} {xs : Dx} (n : DcN P w H a xs) : Mut (H a) := by
  rcases n with ⟨rfl, e⟩ | e <;> rw [e] <;> exact True.intro
theorem DcN.ne {P : Program} {w : World} {H : Hp} {a b : Addr} {xs : Dx} {ys : List V} (n : DcN P w H a xs) (e : H b = some (.tup ys)) : b ≠ a := by
  rintro rfl
  rcases n with ⟨_, z⟩ | z <;> rw [z] at e <;> cases e
section
variable {X : Cx}
def rSD (X : Cx) (a : Addr) (vs : List V) (H : Hp) (Q : VK) : Prop := ∃ xs b ks v, vs = [.ref b, .ref v] ∧ DcN X.prog X.w H a xs ∧ xs.length + 1 ≤ sizeLine ∧ NestH H ks b ∧ (∀ x ∈ xs, NestH H x.1 x.2.1) ∧
  (∀ b' v', (ks, b', v') ∈ xs → Q (.ref v') H) ∧ (ks ∉ xs.map (·.1) → Q (.ref v) (upd H a (DcO X.prog X.w a (xs ++ [(ks, b, v)]))))
def tSD (X : Cx) (to : TE) (t : TA) : TE := fun σ H Q => to σ H fun x H1 => ∃ a xs0, x = .ref a ∧ DcN X.prog X.w H1 a xs0 ∧ t σ H1 fun vs H2 => rSD X a vs H2 Q
theorem sd_call {k : Nat} (hr : Room k X.A) {pins : List (Addr × Obj)} {σ : St} {H : Hp} {s : Shared} {a : Addr} {vs : List V} {us : List Value} {Q : VK} (I : Inv X pins σ H s) (rv : Vals vs us) (h : rSD X a vs H Q) :
    wpAny (model X.prog X.w) X.A (call (.builtin "dict.setdefault") (.ref a :: us)) (EP X pins σ Q) X.xe s := by
  obtain ⟨xs, b, ks, v, rfl, hn, hz, hk, hall, q1, q2⟩ := h
  cases rv with
  | cons r1 rv =>
    cases rv with
    | cons r2 rv =>
      cases rv
      cases r1
      cases r2
      obtain ⟨z, hd, o, es, ep, ho, hc, hda, he, hnd⟩ := hn.of I.hok
      have dd : s.heap.DictOfH (nestKind X.prog X.w) a (vx xs) := ⟨o, es, ep, ho, hc, hda, he, fun x hx => by
        obtain ⟨y, hy, rfl⟩ := List.mem_map.mp hx
        exact nest_of I.hok (hall y hy), hnd⟩
      have hl : (vx xs).length = xs.length := List.length_map ..
      have hm : (vx xs).map (·.1) = xs.map (·.1) := by unfold vx; rw [List.map_map]; rfl
      refine call_meetsIn PySem.F.slot_dict_setdefault ⟨o, ho, hc.1⟩ PySem.F.entry_dict_setdefault (PySem.F.args_dict_setdefault_3 _ _ _) (meetsH_setdef (nestKind X.prog X.w) a b hd (.ref v)) ⟨?_, ks, vx xs, nest_of I.hok hk, dd, by lia, fun p hp => ?_, fun hno h' dd' hs => ?_⟩
      · have := hr.un
        show X.A.units + 1 + 8 < cLine
        lia
      · obtain ⟨y, hy, e⟩ := List.mem_map.mp hp
        cases e
        exact ⟨.ref y.2.2, _, I.tok _, rfl, q1 y.2.1 y.2.2 hy⟩
      · obtain ⟨o', es', ep', g1, g2, g3, g4, _, g5⟩ := dd'
        rw [hm] at hno
        have ev : vx xs ++ [(ks, b, Value.ref v)] = vx (xs ++ [(ks, b, v)]) := by unfold vx; rw [List.map_append]; rfl
        rw [ev] at g4 g5
        refine ⟨.ref v, _, d_write (ob := DcO X.prog X.w a (xs ++ [(ks, b, v)])) I hn.mut hs ⟨o', g1⟩ ⟨⟨by rw [List.length_append]; exact hz, hd, o', es', ep', g1, g2, g3, g4, g5⟩, ⟨o', g1⟩, fun h1 h2 p kk => ?_⟩, rfl, q2 hno⟩
        obtain ⟨z1, z2, o3, es3, ep3, f1, f2⟩ := p
        exact ⟨z1, z2, o3, es3, ep3, kk _ f1, f2⟩
variable {o e : Expr} {es : List Expr} {to : TE} {t : TA} {apos cpos : Pos}
theorem pe_setdef {k : Nat} (hr : Room k X.A) (ho : PE X o to) (ha : PA X (e :: es) t)
    (hbase : attributeBase o "setdefault" X.env (eval o X.env) = eval o X.env := by rfl)
    (hfew : ((backTo cpos (starEach (e :: es) X.env)).all (fun x => !x.1) && (backToKw cpos (keywordEach [] X.env)).all (fun x => x.1.isSome)
      && decide ((e :: es).length + ([] : List Keyword).length + (if ([] : List Keyword).isEmpty then 0 else 1) < 30)) = true := by rfl)
    (hline : (apos.endLine == cpos.line) = true := by rfl) (hs : starEach (e :: es) X.env = (false, eval e X.env) :: starEach es X.env := by rfl) (hplain : (backTo cpos (starEach es X.env)).any (·.1) = false := by rfl) :
    PE X (.Call (.Attribute o "setdefault" apos) (e :: es) [] cpos) (tSD X to t) := by
  refine ⟨?_⟩
  intro pins s σ H Q I h
  refine wpAny_Call_method_late hbase hfew hline rfl (thn (ho pins s σ H _ I h) fun v s1 ⟨x, H1, I1, r1, a, xs0, ex, hn, q1⟩ => ?_)
  subst ex
  cases r1
  obtain ⟨_, _, o', es', ep', g1, g2, _⟩ := hn.of I1.hok
  refine ⟨"dict", "dict.setdefault", PySem.F.plainAttrs_dict, PySem.F.slot_dict_setdefault, PySem.F.type_dict_setdefault, ⟨o', g1, g2.1⟩, fun b eb => ?_, ?_⟩
  · cases eb
    exact ⟨o', g1, g2.2.1⟩
  have hA := ha cpos pins s1 σ H1 _ I1 q1
  rw [hs] at hA ⊢
  refine Calls.callWith_builtin (by show (false || (backTo cpos (starEach es X.env)).any (·.1)) = false; rw [hplain] <;> rfl) (Calls.evalArgs_plain ?_)
  exact thn hA fun us s2 ⟨vs, H2, I2, r2, q2⟩ => sd_call hr I2 r2 q2
def tSDK (P : Program) (w : World) (to : TE) (t : TA) : TE := fun σ H Q => to σ H fun x H1 => ∃ a xs0, x = .ref a ∧ DcN P w H1 a xs0 ∧ t σ H1 fun vs H2 => ∃ xs b ks v, vs = [.ref b, .ref v] ∧ DcN P w H2 a xs ∧ xs.length + 1 ≤ sizeLine ∧ NestH H2 ks b ∧ (∀ x ∈ xs, NestH H2 x.1 x.2.1) ∧
  (∀ b' v', (ks, b', v') ∈ xs → Q (.ref v') H2) ∧ (ks ∉ xs.map (·.1) → Q (.ref v) (upd H2 a (DcO P w a (xs ++ [(ks, b, v)]))))
theorem pe_setdefK {P : Program} {w : World} {k : Nat} (hP : X.prog = P) (hw : X.w = w) (hr : Room k X.A) (ho : PE X o to) (ha : PA X (e :: es) t)
    (hbase : attributeBase o "setdefault" X.env (eval o X.env) = eval o X.env := by rfl)
    (hfew : ((backTo cpos (starEach (e :: es) X.env)).all (fun x => !x.1) && (backToKw cpos (keywordEach [] X.env)).all (fun x => x.1.isSome)
      && decide ((e :: es).length + ([] : List Keyword).length + (if ([] : List Keyword).isEmpty then 0 else 1) < 30)) = true := by rfl)
    (hline : (apos.endLine == cpos.line) = true := by rfl) (hs : starEach (e :: es) X.env = (false, eval e X.env) :: starEach es X.env := by rfl) (hplain : (backTo cpos (starEach es X.env)).any (·.1) = false := by rfl) :
    PE X (.Call (.Attribute o "setdefault" apos) (e :: es) [] cpos) (tSDK P w to t) := by
  subst hP hw
  exact pe_setdef hr ho ha hbase hfew hline hs hplain
end
end L2
namespace L3
open PySem L2
theorem Strm.kt {p : Addr} {H H' : Hp} (g : Strm H p) (b : But p H H') : TupK H H' := fun a xs e => b a _ e (by
  rintro rfl
  obtain ⟨x, y, z, h⟩ := g
  rw [h] at e
  cases e)
inductive spLSource (vs : List V) (H : Hp) (Q : VK) (Z3 : XK) : Prop
  | mk (p : Addr) (m : Nat) : vs = [.ref p, .int m] → Strm H p → 0 < m → m ≤ 8 → (∀ v o H', SrcOK H' v o → Strm H' p → But p H H' → Q v H') → spLSource vs H Q Z3
inductive spLSel (vs : List V) (H : Hp) (Q : VK) (Z3 : XK) : Prop
  | mk (p : Addr) : vs = [.ref p] → Strm H p → (∀ v H', SelOK H' v → Strm H' p → But p H H' → Q v H') → spLSel vs H Q Z3
inductive spLStep (vs : List V) (H : Hp) (Q : VK) (Z3 : XK) : Prop
  | mk (p : Addr) (m k : Nat) : vs = [.ref p, .int m, .int k] → Strm H p → 0 < m → m ≤ 8 → 0 < k → k ≤ 1000 → (∀ v d H', Tol H' v d → Strm H' p → But p H H' → Q v H') → spLStep vs H Q Z3
section
variable {P : Program} {w : World} {K : PySem.W.Frag} {mg : Str → Option Value} {base : Heap}
theorem scLSource : FnScope ["_law_stream_here", "_law_many", "_law_way"] ["_law_stream_here", "_law_many"] (defScope sLSource) := ⟨rfl, rfl, rfl, by decide +kernel, rfl, by decide +kernel, by decide +kernel⟩
set_option maxHeartbeats 1000000 in
theorem ok_lSource {f : Addr} {fd : FuncData} (F : Fun K "_law_source" "_law_source" sLSource f fd) (TK : Fn P w K mg base "_law_take" 1 ["_law_stream_here", "_law_many"] spTake) : FnOk P w K mg base CX0 2 f fd ["_law_stream_here", "_law_many"] spLSource := by
  refine F.ok scLSource (fun vs H Q E h => ?_) (fun cdv A outer s H vs Q E hr h => ?_)
  · obtain ⟨p, m, rfl, _⟩ := h
    rfl
  · obtain ⟨p, m, rfl, hp, m0, m8, q⟩ := h
    refine ⟨_, pss_cons (ps_set (i := 2) scLSource.nd rfl (Or.inl rfl) (pe_fn TK hr rfl (pa_cons (pv 0) (pa_cons pe_int pa_nil))))
      (pss_cons (ps_if (pt_cmpR op_lt (pv 2) pe_int (nomark _)) (pss_one (ps_ret (pe_tup (pa_cons pe_str (pa_cons (pe_fn TK hr rfl (pa_cons (pv 0) (pa_cons (pv 1) pa_nil))) pa_nil))))) pss_nil)
      (pss_cons (ps_if (pt_cmpR op_eq (pv 2) pe_int (nomark _)) (pss_one (ps_ret (pe_tup (pa_cons pe_str (pa_cons (pe_fn TK hr rfl (pa_cons (pv 0) (pa_cons (pe_ix ix_list (pe_lst (pa_cons pe_int (pa_cons (pe_op op_shl pe_int pe_int) pa_nil))) (pe_fn TK hr rfl (pa_cons (pv 0) (pa_cons pe_int pa_nil))) (fun _ _ => rfl)) pa_nil))) pa_nil))))) pss_nil)
      (pss_one (ps_ret (pe_tup (pa_cons pe_str (pa_cons (pe_fn TK hr rfl (pa_cons (pv 0) (pa_cons pe_int pa_nil))) pa_nil))))))), ?_⟩
    refine ⟨_, rfl, p, 5, rfl, hp, by decide, by decide, fun r1 H1 l1 g1 b1 => ?_⟩
    refine ⟨_, rfl, _, _, rfl, rfl, _, rfl, ite2 (fun h => ?_) (fun h => ?_)⟩
    · refine ⟨_, rfl, _, rfl, p, m, rfl, g1, m0, by lia, fun r2 H2 l2 g2 b2 => ⟨(by show 2 ≤ sizeLine; decide), fun t nt => ?_⟩⟩
      have s3 := same_new (o := .tup [.str "in", .int r2]) nt
      exact q _ (some r2) _ ⟨t, _, _, rfl, upd_same, .inl ⟨rfl, by lia, by lia, by simp⟩⟩ (g2.same s3) ((b1.trans b2).same s3)
    · refine ⟨_, rfl, rfl, _, rfl, ite2 (fun h2 => ?_) (fun h2 => ?_)⟩
      · refine ⟨_, rfl, _, _, rfl, rfl, ⟨by decide, by decide, by decide⟩, (by show 2 ≤ sizeLine; decide), fun lm nm => ?_⟩
        have s2 := same_new (o := .lst [.int 3, .int 16777216]) nm
        have e2 : (upd H1 lm (.lst [.int 3, .int 16777216])) lm = some (.lst [.int 3, .int 16777216]) := upd_same
        have g2 := g1.same s2
        refine ⟨_, rfl, p, 2, rfl, g2, by decide, by decide, fun r3 H3 l3 g3 b3 => ?_⟩
        have e3 := b3 _ _ e2 (g1.ne nm).symm
        obtain ⟨k, ek, k0, k1⟩ : ∃ k : Nat, atI [V.int 3, V.int 16777216] (r3 : Int) = some (.int k) ∧ 0 < k ∧ k ≤ 16777216 := by
          rcases (by lia : r3 = 0 ∨ r3 = 1) with rfl | rfl
          · exact ⟨3, rfl, by decide, by decide⟩
          · exact ⟨16777216, rfl, by decide, by decide⟩
        refine ⟨lm, _, _, _, rfl, rfl, SqL.of e3, ek, p, k, rfl, g3, k0, by lia, fun r4 H4 l4 g4 b4 => ⟨(by show 2 ≤ sizeLine; decide), fun t nt => ?_⟩⟩
        have s5 := same_new (o := .tup [.str "number", .int r4]) nt
        exact q _ none _ ⟨t, _, _, rfl, upd_same, .inr (.inl ⟨rfl, by lia, by lia, rfl⟩)⟩ (g4.same s5) ((((b1.same s2).trans b3).trans b4).same s5)
      · refine ⟨_, rfl, p, 3, rfl, g1, by decide, by decide, fun r2 H2 l2 g2 b2 => ⟨(by show 2 ≤ sizeLine; decide), fun t nt => ?_⟩⟩
        have s3 := same_new (o := .tup [.str "field", .int r2]) nt
        exact q _ none _ ⟨t, _, _, rfl, upd_same, .inr (.inr ⟨rfl, by lia, by lia, rfl⟩)⟩ (g2.same s3) ((b1.trans b2).same s3)
theorem scLSel : FnScope ["_law_stream_here"] ["_law_stream_here"] (defScope sLSel) := ⟨rfl, rfl, rfl, by decide +kernel, rfl, by decide +kernel, by decide +kernel⟩
theorem ok_lSel {f : Addr} {fd : FuncData} (F : Fun K "_law_sel" "_law_sel" sLSel f fd) (TK : Fn P w K mg base "_law_take" 1 ["_law_stream_here", "_law_many"] spTake) : FnOk P w K mg base CX0 2 f fd ["_law_stream_here"] spLSel := by
  refine F.ok scLSel (fun vs H Q E h => ?_) (fun cdv A outer s H vs Q E hr h => ?_)
  · obtain ⟨p, rfl, _⟩ := h
    rfl
  · obtain ⟨p, rfl, hp, q⟩ := h
    refine ⟨_, pss_cons (ps_if (pt_cmpR op_eq (pe_fn TK hr rfl (pa_cons (pv 0) (pa_cons pe_int pa_nil))) pe_int (nomark _)) (pss_one (ps_ret (pe_tup (pa_cons pe_str (pa_cons (pe_fn TK hr rfl (pa_cons (pv 0) (pa_cons pe_int pa_nil))) pa_nil))))) pss_nil)
      (pss_one (ps_ret (pe_tup (pa_cons pe_str (pa_cons (pe_fn TK hr rfl (pa_cons (pv 0) (pa_cons pe_int pa_nil))) pa_nil))))), ?_⟩
    refine ⟨_, rfl, p, 2, rfl, hp, by decide, by decide, fun r1 H1 l1 g1 b1 => ⟨rfl, _, rfl, ite2 (fun h => ?_) (fun h => ?_)⟩⟩
    · refine ⟨_, rfl, p, 4, rfl, g1, by decide, by decide, fun r2 H2 l2 g2 b2 => ⟨(by show 2 ≤ sizeLine; decide), fun t nt => ?_⟩⟩
      have s3 := same_new (o := .tup [.str "is", .int r2]) nt
      exact q _ _ ⟨t, _, _, rfl, upd_same, .inl ⟨rfl, by lia, by lia⟩⟩ (g2.same s3) ((b1.trans b2).same s3)
    · refine ⟨_, rfl, p, 3, rfl, g1, by decide, by decide, fun r2 H2 l2 g2 b2 => ⟨(by show 2 ≤ sizeLine; decide), fun t nt => ?_⟩⟩
      have s3 := same_new (o := .tup [.str "by", .int r2]) nt
      exact q _ _ ⟨t, _, _, rfl, upd_same, .inr ⟨rfl, by lia, by lia⟩⟩ (g2.same s3) ((b1.trans b2).same s3)
theorem scLStep : FnScope ["_law_stream_here", "_law_many", "_law_ways", "_law_way", "_law_to", "_law_op"] ["_law_stream_here", "_law_many", "_law_ways"] (defScope sLStep) := ⟨rfl, rfl, rfl, by decide +kernel, rfl, by decide +kernel, by decide +kernel⟩
set_option maxHeartbeats 4000000 in
theorem ok_lStep {f : Addr} {fd : FuncData} (F : Fun K "_law_step" "_law_step" sLStep f fd) (TK : Fn P w K mg base "_law_take" 1 ["_law_stream_here", "_law_many"] spTake) (SO : Fn P w K mg base "_law_source" 2 ["_law_stream_here", "_law_many"] spLSource) (SE : Fn P w K mg base "_law_sel" 2 ["_law_stream_here"] spLSel) :
    FnOk P w K mg base CX0 3 f fd ["_law_stream_here", "_law_many", "_law_ways"] spLStep := by
  refine F.ok scLStep (fun vs H Q E h => ?_) (fun cdv A outer s H vs Q E hr h => ?_)
  · obtain ⟨p, m, k, rfl, _⟩ := h
    rfl
  · obtain ⟨p, m, k, rfl, hp, m0, m8, k0, k1, q⟩ := h
    have hr1 : Room 1 _ := hr.mono (by decide)
    refine ⟨_, pss_cons (ps_set (i := 3) scLStep.nd rfl (Or.inl rfl) (pe_fn TK hr1 rfl (pa_cons (pv 0) (pa_cons (pv 2) pa_nil))))
      (pss_cons (ps_set (i := 4) scLStep.nd rfl (Or.inl rfl) (pe_fn TK hr1 rfl (pa_cons (pv 0) (pa_cons (pv 1) pa_nil))))
      (pss_cons (ps_if (pt_cmpR op_gt (pv 3) pe_int (nomark _))
        (pss_cons (ps_set (i := 5) scLStep.nd rfl (Or.inl rfl) (pe_ix ix_list (pe_lst (pa_cons pe_str (pa_cons pe_str (pa_cons pe_str (pa_cons pe_str (pa_cons pe_str (pa_cons pe_str (pa_cons pe_str (pa_cons pe_str (pa_cons pe_str pa_nil)))))))))) (pe_fn TK hr1 rfl (pa_cons (pv 0) (pa_cons pe_int pa_nil))) (fun _ _ => rfl)))
        (pss_one (ps_ret (pe_tup (pa_cons pe_str (pa_cons (pv 4) (pa_cons (pv 5) (pa_cons (pe_fn SO hr rfl (pa_cons (pv 0) (pa_cons (pv 1) pa_nil))) (pa_cons (pe_fn SO hr rfl (pa_cons (pv 0) (pa_cons (pv 1) pa_nil))) pa_nil))))))))) pss_nil)
      (pss_cons (ps_if (pt_cmpR op_lt (pv 3) pe_int (nomark _)) (pss_one (ps_ret (pe_tup (pa_cons (pe_ix ix_list (pe_lst (pa_cons pe_str (pa_cons pe_str pa_nil))) (pv 3) (fun _ _ => rfl)) (pa_cons (pv 4) (pa_cons (pe_fn SE hr rfl (pa_cons (pv 0) pa_nil)) pa_nil)))))) pss_nil)
      (pss_cons (ps_if (pt_cmpR op_eq (pv 3) pe_int (nomark _)) (pss_one (ps_ret (pe_tup (pa_cons pe_str (pa_cons (pv 4) (pa_cons (pe_fn SO hr rfl (pa_cons (pv 0) (pa_cons (pv 1) pa_nil))) pa_nil)))))) pss_nil)
      (pss_cons (ps_if (pt_cmpR op_eq (pv 3) pe_int (nomark _)) (pss_one (ps_ret (pe_tup (pa_cons pe_str (pa_cons (pe_fn SO hr rfl (pa_cons (pv 0) (pa_cons (pv 1) pa_nil))) (pa_cons (pe_fn SO hr rfl (pa_cons (pv 0) (pa_cons (pv 1) pa_nil))) pa_nil)))))) pss_nil)
      (pss_one (ps_ret (pe_tup (pa_cons (pe_ix ix_list (pe_lst (pa_cons pe_str (pa_cons pe_str pa_nil))) (pe_op op_sub (pv 3) pe_int) (fun _ _ => rfl)) (pa_cons (pe_fn SE hr rfl (pa_cons (pv 0) pa_nil)) (pa_cons (pe_fn SO hr rfl (pa_cons (pv 0) (pa_cons (pv 1) pa_nil))) pa_nil))))))))))), ?_⟩
    refine ⟨_, rfl, _, rfl, p, k, rfl, hp, k0, by lia, fun r1 H1 l1 g1 b1 => ?_⟩
    refine ⟨_, rfl, _, rfl, p, m, rfl, g1, m0, by lia, fun r2 H2 l2 g2 b2 => ?_⟩
    have B2 := b1.trans b2
    refine ⟨_, rfl, _, _, rfl, rfl, _, rfl, ite2 (fun h => ?_) (fun h => ?_)⟩
    · refine ⟨(by show 9 ≤ sizeLine; decide), fun lo no => ?_⟩
      have s3 := same_new (o := .lst [.str "+", .str "-", .str "&", .str "|", .str "^", .str "<<", .str ">>", .str "<", .str "="]) no
      have e3 : (upd H2 lo (.lst [.str "+", .str "-", .str "&", .str "|", .str "^", .str "<<", .str ">>", .str "<", .str "="])) lo = some (.lst [.str "+", .str "-", .str "&", .str "|", .str "^", .str "<<", .str ">>", .str "<", .str "="]) := upd_same
      generalize upd H2 lo (.lst [V.str "+", .str "-", .str "&", .str "|", .str "^", .str "<<", .str ">>", .str "<", .str "="]) = H3 at *
      refine ⟨_, rfl, p, 9, rfl, g2.same s3, by decide, by decide, fun r4 H4 l4 g4 b4 => ?_⟩
      have eo := b4 _ _ e3 (g2.ne no).symm
      obtain ⟨o, ho, mo⟩ : ∃ o : Str, atI [V.str "+", .str "-", .str "&", .str "|", .str "^", .str "<<", .str ">>", .str "<", .str "="] (r4 : Int) = some (.str o) ∧ o ∈ opsL := by
        rcases (by lia : r4 = 0 ∨ r4 = 1 ∨ r4 = 2 ∨ r4 = 3 ∨ r4 = 4 ∨ r4 = 5 ∨ r4 = 6 ∨ r4 = 7 ∨ r4 = 8) with rfl | rfl | rfl | rfl | rfl | rfl | rfl | rfl | rfl <;> exact ⟨_, rfl, by decide +kernel⟩
      refine ⟨lo, _, _, _, rfl, rfl, SqL.of eo, ho, ?_⟩
      refine ⟨_, rfl, _, rfl, _, rfl, _, rfl, p, m, rfl, g4, m0, m8, fun v o1 H5 hv g5 b5 => ?_⟩
      refine ⟨_, rfl, _, rfl, p, m, rfl, g5, m0, m8, fun u o2 H6 hu g6 b6 => ⟨(by show 5 ≤ sizeLine; decide), fun t nt => ?_⟩⟩
      have s7 := same_new (o := .tup [.str "two", .int r2, .str o, v, u]) nt
      exact q _ _ _ (.two upd_same (by lia) mo (hv.kt ((g5.kt b6).trans (kt_same s7))) (hu.kt (kt_same s7))) (g6.same s7) (((((B2.same s3).trans b4).trans b5).trans b6).same s7)
    · refine ⟨_, rfl, _, _, rfl, rfl, _, rfl, ite2 (fun h2 => ?_) (fun h2 => ?_)⟩
      · refine ⟨(by show 2 ≤ sizeLine; decide), fun lg ng => ?_⟩
        have s3 := same_new (o := .lst [.str "get", .str "ask"]) ng
        have e3 : (upd H2 lg (.lst [.str "get", .str "ask"])) lg = some (.lst [.str "get", .str "ask"]) := upd_same
        generalize upd H2 lg (.lst [V.str "get", .str "ask"]) = H3 at *
        have h2' : (r1 : Int) < 2 := of_decide_eq_true h2
        rcases (by lia : r1 = 0 ∨ r1 = 1) with rfl | rfl
        · refine ⟨_, rfl, lg, _, _, _, rfl, rfl, SqL.of e3, rfl, _, rfl, _, rfl, p, rfl, g2.same s3, fun v H4 hv g4 b4 => ⟨(by show 3 ≤ sizeLine; decide), fun t nt => ?_⟩⟩
          have s5 := same_new (o := .tup [.str "get", .int r2, v]) nt
          exact q _ _ _ (.get upd_same (by lia) (hv.kt (kt_same s5))) (g4.same s5) (((B2.same s3).trans b4).same s5)
        · refine ⟨_, rfl, lg, _, _, _, rfl, rfl, SqL.of e3, rfl, _, rfl, _, rfl, p, rfl, g2.same s3, fun v H4 hv g4 b4 => ⟨(by show 3 ≤ sizeLine; decide), fun t nt => ?_⟩⟩
          have s5 := same_new (o := .tup [.str "ask", .int r2, v]) nt
          exact q _ _ _ (.ask upd_same (by lia) (hv.kt (kt_same s5))) (g4.same s5) (((B2.same s3).trans b4).same s5)
      · refine ⟨_, rfl, rfl, _, rfl, ite2 (fun h3 => ?_) (fun h3 => ?_)⟩
        · refine ⟨_, rfl, _, rfl, _, rfl, p, m, rfl, g2, m0, m8, fun v o H3 hv g3 b3 => ⟨(by show 3 ≤ sizeLine; decide), fun t nt => ?_⟩⟩
          have s4 := same_new (o := .tup [.str "cell", .int r2, v]) nt
          exact q _ _ _ (.cell upd_same (by lia) (hv.kt (kt_same s4))) (g3.same s4) ((B2.trans b3).same s4)
        · refine ⟨_, rfl, rfl, _, rfl, ite2 (fun h4 => ?_) (fun h4 => ?_)⟩
          · refine ⟨_, rfl, _, rfl, p, m, rfl, g2, m0, m8, fun v o1 H3 hv g3 b3 => ?_⟩
            refine ⟨_, rfl, _, rfl, p, m, rfl, g3, m0, m8, fun u o2 H4 hu g4 b4 => ⟨(by show 3 ≤ sizeLine; decide), fun t nt => ?_⟩⟩
            have s5 := same_new (o := .tup [.str "store", v, u]) nt
            exact q _ _ _ (.store upd_same (hv.kt ((g3.kt b4).trans (kt_same s5))) (hu.kt (kt_same s5))) (g4.same s5) (((B2.trans b3).trans b4).same s5)
          · refine ⟨(by show 2 ≤ sizeLine; decide), fun lg ng => ?_⟩
            have s3 := same_new (o := .lst [.str "put", .str "tell"]) ng
            have e3 : (upd H2 lg (.lst [.str "put", .str "tell"])) lg = some (.lst [.str "put", .str "tell"]) := upd_same
            generalize upd H2 lg (.lst [V.str "put", .str "tell"]) = H3 at *
            have x1 : ¬ (5 : Int) < (r1 : Int) := fun z => h (decide_eq_true z)
            have x2 : ¬ (r1 : Int) < 2 := fun z => h2 (decide_eq_true z)
            have x3 : ¬ r1 = 2 := fun z => h3 (by subst z; decide)
            have x4 : ¬ r1 = 3 := fun z => h4 (by subst z; decide)
            rcases (by lia : r1 = 4 ∨ r1 = 5) with rfl | rfl
            · refine ⟨_, rfl, _, _, rfl, rfl, lg, _, _, _, rfl, rfl, SqL.of e3, rfl, _, rfl, p, rfl, g2.same s3, fun v H4 hv g4 b4 => ?_⟩
              refine ⟨_, rfl, _, rfl, p, m, rfl, g4, m0, m8, fun u o H5 hu g5 b5 => ⟨(by show 3 ≤ sizeLine; decide), fun t nt => ?_⟩⟩
              have s6 := same_new (o := .tup [.str "put", v, u]) nt
              exact q _ _ _ (.put upd_same (hv.kt ((g4.kt b5).trans (kt_same s6))) (hu.kt (kt_same s6))) (g5.same s6) ((((B2.same s3).trans b4).trans b5).same s6)
            · refine ⟨_, rfl, _, _, rfl, rfl, lg, _, _, _, rfl, rfl, SqL.of e3, rfl, _, rfl, p, rfl, g2.same s3, fun v H4 hv g4 b4 => ?_⟩
              refine ⟨_, rfl, _, rfl, p, m, rfl, g4, m0, m8, fun u o H5 hu g5 b5 => ⟨(by show 3 ≤ sizeLine; decide), fun t nt => ?_⟩⟩
              have s6 := same_new (o := .tup [.str "tell", v, u]) nt
              exact q _ _ _ (.tell upd_same (hv.kt ((g4.kt b5).trans (kt_same s6))) (hu.kt (kt_same s6))) (g5.same s6) ((((B2.same s3).trans b4).trans b5).same s6)
end
end L3
namespace L3
open PySem L2
def kd : Sd → Nat
  | .get _ _ => 0
  | .ask _ _ => 1
  | .cell _ _ => 2
  | .two _ _ _ _ => 3
  | .put _ _ => 4
  | .tell _ _ => 5
  | .store _ _ => 6
section
variable {P : Program} {w : World} {K : PySem.W.Frag} {mg : Str → Option Value} {base : Heap} {C fi : Nat → Addr}
inductive spTold (C : Nat → Addr) (k : Nat) (vs : List V) (H : Hp) (Q : VK) (Z3 : XK) : Prop
  | mk (v pu d : _) : vs = [v] → ObD C H v (.ref pu) d → kd d = k → (∀ p xs, H p = none → H pu = some (.tup xs) → Q (.ref p) (upd H p (.tup xs))) → spTold C k vs H Q Z3
abbrev sTo0 : Stmt := inClass (top 37) 1
theorem scTo0 : FnScope ["self"] ["self"] (defScope sTo0) := ⟨rfl, rfl, rfl, by decide +kernel, rfl, by decide +kernel, by decide +kernel⟩
theorem ok_To0 {f : Addr} {fd : FuncData} (F : Fun K "told" "Get.told" sTo0 f fd) (T : Ct K mg C fi) : FnOk P w K mg base CX0 1 f fd ["self"] (spTold C 0) := by
  refine F.ok scTo0 (fun vs H Q E h => ?_) (fun cdv A outer s H vs Q E hr h => ?_)
  · obtain ⟨v, pu, d, rfl, _⟩ := h
    rfl
  · obtain ⟨v, pu, d, rfl, hv, hk, q⟩ := h
    refine ⟨_, pss_one (ps_ret (pe_tup (pa_cons pe_str (pa_cons (pe_fld (pv 0) rfl) (pa_cons (pe_fld (pv 0) rfl) pa_nil))))), ?_⟩
    cases hv with
    | @get a dx p n s x ho hp hn hs hc =>
      exact ⟨_, rfl, a, C 0, dx, _, _, rfl, ho, T.cls 0 (by decide), T.na 0 (by decide) "to" (by decide +kernel), rfl, _, rfl, a, C 0, dx, _, _, rfl, ho, T.cls 0 (by decide), T.na 0 (by decide) "sel" (by decide +kernel), rfl, (by show 3 ≤ sizeLine; decide), fun t ht => q t _ ht hp⟩
    | @ask a dx p n s x ho hp hn hs hc =>
      exact absurd hk (by show ¬ 1 = 0; decide)
    | @cell a dx p n s x ho hp hn hs hc =>
      exact absurd hk (by show ¬ 2 = 0; decide)
    | @two a dx p n f s s' x y ho hp hn hf hs hc hs2 hc2 =>
      exact absurd hk (by show ¬ 3 = 0; decide)
    | @put a dx p s s' x y ho hp hs hc hs2 hc2 =>
      exact absurd hk (by show ¬ 4 = 0; decide)
    | @tell a dx p s s' x y ho hp hs hc hs2 hc2 =>
      exact absurd hk (by show ¬ 5 = 0; decide)
    | @store a dx p s s' x y ho hp hs hc hs2 hc2 =>
      exact absurd hk (by show ¬ 6 = 0; decide)
abbrev sTo1 : Stmt := inClass (top 38) 1
theorem scTo1 : FnScope ["self"] ["self"] (defScope sTo1) := ⟨rfl, rfl, rfl, by decide +kernel, rfl, by decide +kernel, by decide +kernel⟩
theorem ok_To1 {f : Addr} {fd : FuncData} (F : Fun K "told" "Ask.told" sTo1 f fd) (T : Ct K mg C fi) : FnOk P w K mg base CX0 1 f fd ["self"] (spTold C 1) := by
  refine F.ok scTo1 (fun vs H Q E h => ?_) (fun cdv A outer s H vs Q E hr h => ?_)
  · obtain ⟨v, pu, d, rfl, _⟩ := h
    rfl
  · obtain ⟨v, pu, d, rfl, hv, hk, q⟩ := h
    refine ⟨_, pss_one (ps_ret (pe_tup (pa_cons pe_str (pa_cons (pe_fld (pv 0) rfl) (pa_cons (pe_fld (pv 0) rfl) pa_nil))))), ?_⟩
    cases hv with
    | @get a dx p n s x ho hp hn hs hc =>
      exact absurd hk (by show ¬ 0 = 1; decide)
    | @ask a dx p n s x ho hp hn hs hc =>
      exact ⟨_, rfl, a, C 1, dx, _, _, rfl, ho, T.cls 1 (by decide), T.na 1 (by decide) "to" (by decide +kernel), rfl, _, rfl, a, C 1, dx, _, _, rfl, ho, T.cls 1 (by decide), T.na 1 (by decide) "sel" (by decide +kernel), rfl, (by show 3 ≤ sizeLine; decide), fun t ht => q t _ ht hp⟩
    | @cell a dx p n s x ho hp hn hs hc =>
      exact absurd hk (by show ¬ 2 = 1; decide)
    | @two a dx p n f s s' x y ho hp hn hf hs hc hs2 hc2 =>
      exact absurd hk (by show ¬ 3 = 1; decide)
    | @put a dx p s s' x y ho hp hs hc hs2 hc2 =>
      exact absurd hk (by show ¬ 4 = 1; decide)
    | @tell a dx p s s' x y ho hp hs hc hs2 hc2 =>
      exact absurd hk (by show ¬ 5 = 1; decide)
    | @store a dx p s s' x y ho hp hs hc hs2 hc2 =>
      exact absurd hk (by show ¬ 6 = 1; decide)
abbrev sTo2 : Stmt := inClass (top 39) 1
theorem scTo2 : FnScope ["self"] ["self"] (defScope sTo2) := ⟨rfl, rfl, rfl, by decide +kernel, rfl, by decide +kernel, by decide +kernel⟩
theorem ok_To2 {f : Addr} {fd : FuncData} (F : Fun K "told" "Cell.told" sTo2 f fd) (T : Ct K mg C fi) : FnOk P w K mg base CX0 1 f fd ["self"] (spTold C 2) := by
  refine F.ok scTo2 (fun vs H Q E h => ?_) (fun cdv A outer s H vs Q E hr h => ?_)
  · obtain ⟨v, pu, d, rfl, _⟩ := h
    rfl
  · obtain ⟨v, pu, d, rfl, hv, hk, q⟩ := h
    refine ⟨_, pss_one (ps_ret (pe_tup (pa_cons pe_str (pa_cons (pe_fld (pv 0) rfl) (pa_cons (pe_fld (pv 0) rfl) pa_nil))))), ?_⟩
    cases hv with
    | @get a dx p n s x ho hp hn hs hc =>
      exact absurd hk (by show ¬ 0 = 2; decide)
    | @ask a dx p n s x ho hp hn hs hc =>
      exact absurd hk (by show ¬ 1 = 2; decide)
    | @cell a dx p n s x ho hp hn hs hc =>
      exact ⟨_, rfl, a, C 2, dx, _, _, rfl, ho, T.cls 2 (by decide), T.na 2 (by decide) "to" (by decide +kernel), rfl, _, rfl, a, C 2, dx, _, _, rfl, ho, T.cls 2 (by decide), T.na 2 (by decide) "source" (by decide +kernel), rfl, (by show 3 ≤ sizeLine; decide), fun t ht => q t _ ht hp⟩
    | @two a dx p n f s s' x y ho hp hn hf hs hc hs2 hc2 =>
      exact absurd hk (by show ¬ 3 = 2; decide)
    | @put a dx p s s' x y ho hp hs hc hs2 hc2 =>
      exact absurd hk (by show ¬ 4 = 2; decide)
    | @tell a dx p s s' x y ho hp hs hc hs2 hc2 =>
      exact absurd hk (by show ¬ 5 = 2; decide)
    | @store a dx p s s' x y ho hp hs hc hs2 hc2 =>
      exact absurd hk (by show ¬ 6 = 2; decide)
abbrev sTo3 : Stmt := inClass (top 40) 1
theorem scTo3 : FnScope ["self"] ["self"] (defScope sTo3) := ⟨rfl, rfl, rfl, by decide +kernel, rfl, by decide +kernel, by decide +kernel⟩
theorem ok_To3 {f : Addr} {fd : FuncData} (F : Fun K "told" "Two.told" sTo3 f fd) (T : Ct K mg C fi) : FnOk P w K mg base CX0 1 f fd ["self"] (spTold C 3) := by
  refine F.ok scTo3 (fun vs H Q E h => ?_) (fun cdv A outer s H vs Q E hr h => ?_)
  · obtain ⟨v, pu, d, rfl, _⟩ := h
    rfl
  · obtain ⟨v, pu, d, rfl, hv, hk, q⟩ := h
    refine ⟨_, pss_one (ps_ret (pe_tup (pa_cons pe_str (pa_cons (pe_fld (pv 0) rfl) (pa_cons (pe_fld (pv 0) rfl) (pa_cons (pe_fld (pv 0) rfl) (pa_cons (pe_fld (pv 0) rfl) pa_nil))))))), ?_⟩
    cases hv with
    | @get a dx p n s x ho hp hn hs hc =>
      exact absurd hk (by show ¬ 0 = 3; decide)
    | @ask a dx p n s x ho hp hn hs hc =>
      exact absurd hk (by show ¬ 1 = 3; decide)
    | @cell a dx p n s x ho hp hn hs hc =>
      exact absurd hk (by show ¬ 2 = 3; decide)
    | @two a dx p n f s s' x y ho hp hn hf hs hc hs2 hc2 =>
      exact ⟨_, rfl, a, C 3, dx, _, _, rfl, ho, T.cls 3 (by decide), T.na 3 (by decide) "to" (by decide +kernel), rfl, _, rfl, a, C 3, dx, _, _, rfl, ho, T.cls 3 (by decide), T.na 3 (by decide) "op" (by decide +kernel), rfl, _, rfl, a, C 3, dx, _, _, rfl, ho, T.cls 3 (by decide), T.na 3 (by decide) "one" (by decide +kernel), rfl, _, rfl, a, C 3, dx, _, _, rfl, ho, T.cls 3 (by decide), T.na 3 (by decide) "other" (by decide +kernel), rfl, (by show 5 ≤ sizeLine; decide), fun t ht => q t _ ht hp⟩
    | @put a dx p s s' x y ho hp hs hc hs2 hc2 =>
      exact absurd hk (by show ¬ 4 = 3; decide)
    | @tell a dx p s s' x y ho hp hs hc hs2 hc2 =>
      exact absurd hk (by show ¬ 5 = 3; decide)
    | @store a dx p s s' x y ho hp hs hc hs2 hc2 =>
      exact absurd hk (by show ¬ 6 = 3; decide)
abbrev sTo4 : Stmt := inClass (top 41) 1
theorem scTo4 : FnScope ["self"] ["self"] (defScope sTo4) := ⟨rfl, rfl, rfl, by decide +kernel, rfl, by decide +kernel, by decide +kernel⟩
theorem ok_To4 {f : Addr} {fd : FuncData} (F : Fun K "told" "Put.told" sTo4 f fd) (T : Ct K mg C fi) : FnOk P w K mg base CX0 1 f fd ["self"] (spTold C 4) := by
  refine F.ok scTo4 (fun vs H Q E h => ?_) (fun cdv A outer s H vs Q E hr h => ?_)
  · obtain ⟨v, pu, d, rfl, _⟩ := h
    rfl
  · obtain ⟨v, pu, d, rfl, hv, hk, q⟩ := h
    refine ⟨_, pss_one (ps_ret (pe_tup (pa_cons pe_str (pa_cons (pe_fld (pv 0) rfl) (pa_cons (pe_fld (pv 0) rfl) pa_nil))))), ?_⟩
    cases hv with
    | @get a dx p n s x ho hp hn hs hc =>
      exact absurd hk (by show ¬ 0 = 4; decide)
    | @ask a dx p n s x ho hp hn hs hc =>
      exact absurd hk (by show ¬ 1 = 4; decide)
    | @cell a dx p n s x ho hp hn hs hc =>
      exact absurd hk (by show ¬ 2 = 4; decide)
    | @two a dx p n f s s' x y ho hp hn hf hs hc hs2 hc2 =>
      exact absurd hk (by show ¬ 3 = 4; decide)
    | @put a dx p s s' x y ho hp hs hc hs2 hc2 =>
      exact ⟨_, rfl, a, C 4, dx, _, _, rfl, ho, T.cls 4 (by decide), T.na 4 (by decide) "sel" (by decide +kernel), rfl, _, rfl, a, C 4, dx, _, _, rfl, ho, T.cls 4 (by decide), T.na 4 (by decide) "source" (by decide +kernel), rfl, (by show 3 ≤ sizeLine; decide), fun t ht => q t _ ht hp⟩
    | @tell a dx p s s' x y ho hp hs hc hs2 hc2 =>
      exact absurd hk (by show ¬ 5 = 4; decide)
    | @store a dx p s s' x y ho hp hs hc hs2 hc2 =>
      exact absurd hk (by show ¬ 6 = 4; decide)
abbrev sTo5 : Stmt := inClass (top 42) 1
theorem scTo5 : FnScope ["self"] ["self"] (defScope sTo5) := ⟨rfl, rfl, rfl, by decide +kernel, rfl, by decide +kernel, by decide +kernel⟩
theorem ok_To5 {f : Addr} {fd : FuncData} (F : Fun K "told" "Tell.told" sTo5 f fd) (T : Ct K mg C fi) : FnOk P w K mg base CX0 1 f fd ["self"] (spTold C 5) := by
  refine F.ok scTo5 (fun vs H Q E h => ?_) (fun cdv A outer s H vs Q E hr h => ?_)
  · obtain ⟨v, pu, d, rfl, _⟩ := h
    rfl
  · obtain ⟨v, pu, d, rfl, hv, hk, q⟩ := h
    refine ⟨_, pss_one (ps_ret (pe_tup (pa_cons pe_str (pa_cons (pe_fld (pv 0) rfl) (pa_cons (pe_fld (pv 0) rfl) pa_nil))))), ?_⟩
    cases hv with
    | @get a dx p n s x ho hp hn hs hc =>
      exact absurd hk (by show ¬ 0 = 5; decide)
    | @ask a dx p n s x ho hp hn hs hc =>
      exact absurd hk (by show ¬ 1 = 5; decide)
    | @cell a dx p n s x ho hp hn hs hc =>
      exact absurd hk (by show ¬ 2 = 5; decide)
    | @two a dx p n f s s' x y ho hp hn hf hs hc hs2 hc2 =>
      exact absurd hk (by show ¬ 3 = 5; decide)
    | @put a dx p s s' x y ho hp hs hc hs2 hc2 =>
      exact absurd hk (by show ¬ 4 = 5; decide)
    | @tell a dx p s s' x y ho hp hs hc hs2 hc2 =>
      exact ⟨_, rfl, a, C 5, dx, _, _, rfl, ho, T.cls 5 (by decide), T.na 5 (by decide) "sel" (by decide +kernel), rfl, _, rfl, a, C 5, dx, _, _, rfl, ho, T.cls 5 (by decide), T.na 5 (by decide) "source" (by decide +kernel), rfl, (by show 3 ≤ sizeLine; decide), fun t ht => q t _ ht hp⟩
    | @store a dx p s s' x y ho hp hs hc hs2 hc2 =>
      exact absurd hk (by show ¬ 6 = 5; decide)
abbrev sTo6 : Stmt := inClass (top 43) 1
theorem scTo6 : FnScope ["self"] ["self"] (defScope sTo6) := ⟨rfl, rfl, rfl, by decide +kernel, rfl, by decide +kernel, by decide +kernel⟩
theorem ok_To6 {f : Addr} {fd : FuncData} (F : Fun K "told" "Store.told" sTo6 f fd) (T : Ct K mg C fi) : FnOk P w K mg base CX0 1 f fd ["self"] (spTold C 6) := by
  refine F.ok scTo6 (fun vs H Q E h => ?_) (fun cdv A outer s H vs Q E hr h => ?_)
  · obtain ⟨v, pu, d, rfl, _⟩ := h
    rfl
  · obtain ⟨v, pu, d, rfl, hv, hk, q⟩ := h
    refine ⟨_, pss_one (ps_ret (pe_tup (pa_cons pe_str (pa_cons (pe_fld (pv 0) rfl) (pa_cons (pe_fld (pv 0) rfl) pa_nil))))), ?_⟩
    cases hv with
    | @get a dx p n s x ho hp hn hs hc =>
      exact absurd hk (by show ¬ 0 = 6; decide)
    | @ask a dx p n s x ho hp hn hs hc =>
      exact absurd hk (by show ¬ 1 = 6; decide)
    | @cell a dx p n s x ho hp hn hs hc =>
      exact absurd hk (by show ¬ 2 = 6; decide)
    | @two a dx p n f s s' x y ho hp hn hf hs hc hs2 hc2 =>
      exact absurd hk (by show ¬ 3 = 6; decide)
    | @put a dx p s s' x y ho hp hs hc hs2 hc2 =>
      exact absurd hk (by show ¬ 4 = 6; decide)
    | @tell a dx p s s' x y ho hp hs hc hs2 hc2 =>
      exact absurd hk (by show ¬ 5 = 6; decide)
    | @store a dx p s s' x y ho hp hs hc hs2 hc2 =>
      exact ⟨_, rfl, a, C 6, dx, _, _, rfl, ho, T.cls 6 (by decide), T.na 6 (by decide) "at" (by decide +kernel), rfl, _, rfl, a, C 6, dx, _, _, rfl, ho, T.cls 6 (by decide), T.na 6 (by decide) "source" (by decide +kernel), rfl, (by show 3 ≤ sizeLine; decide), fun t ht => q t _ ht hp⟩
end
end L3
namespace L3
open PySem L2
theorem ObD.at2 {C : Nat → Addr} {H : Hp} {v u : V} {d : Sd} (h : ObD C H v u d) : ∃ a dx fs, v = .ref a ∧ H a = some (.ins (C (kd d)) dx fs) ∧ fs.lookup ("told" : Str) = none ∧ fs.lookup ("words" : Str) = none ∧ fs.lookup ("reads" : Str) = none ∧ fs.lookup ("writes" : Str) = none := by
  cases h with
  | get o => exact ⟨_, _, _, rfl, o, rfl, rfl, rfl, rfl⟩
  | ask o => exact ⟨_, _, _, rfl, o, rfl, rfl, rfl, rfl⟩
  | cell o => exact ⟨_, _, _, rfl, o, rfl, rfl, rfl, rfl⟩
  | two o => exact ⟨_, _, _, rfl, o, rfl, rfl, rfl, rfl⟩
  | put o => exact ⟨_, _, _, rfl, o, rfl, rfl, rfl, rfl⟩
  | tell o => exact ⟨_, _, _, rfl, o, rfl, rfl, rfl, rfl⟩
  | store o => exact ⟨_, _, _, rfl, o, rfl, rfl, rfl, rfl⟩
theorem sel_ok {x : Part} (h : SelC x) : okS x.1 = true := by rcases h with ⟨e, _⟩ | ⟨e, _⟩ <;> (rw [e]; decide +kernel)
theorem src_ok {x : Part} (h : SrcC x) : okS x.1 = true := by rcases h with ⟨e, _⟩ | ⟨e, _⟩ | ⟨e, _⟩ <;> (rw [e]; decide +kernel)
theorem ops_ok : ∀ f ∈ opsL, okS f = true := by decide +kernel
theorem Pt.td {H : Hp} {v : V} {x : Part} (h : Pt H v x) (o : okS x.1 = true) : Td H v (.tuple [.str x.1, .int x.2]) := by
  obtain ⟨p, rfl, hp⟩ := h
  exact .tup hp (.cons (.str _ o) (.cons (.int _) .nil))
end L3
namespace L3
open PySem L2
theorem paired_snoc {α β : Type} {F : α → β → Prop} {x : α} {y : β} (h : F x y) : ∀ {xs : List α} {ys : List β}, Paired F xs ys → Paired F (xs ++ [x]) (ys ++ [y])
  | _, _, .nil => .cons h .nil
  | _, _, .cons a t => .cons a (paired_snoc h t)
end L3
namespace L3
open PySem L2
theorem isi_tyK {X : Cx} {K : PySem.W.Frag} (h : X.K = K) {T : String} : CallR X (.builtin "isinstance") (fun xs H Q => ∃ x t b, xs = [x, .ty T] ∧ TyOf K H x t ∧ PySem.W.kitOne K t (.type T) = some b ∧ Q (.bl b) H) := by
  subst h
  exact isi_ty
def PartOK (H : Hp) (x : V) (o : Option Nat) : Prop :=
  ((∃ s, x = .str s) ∧ o = none) ∨ ((∃ i, x = .int i) ∧ o = none) ∨ (∃ (p : Addr) (n : Str) (i : Int), x = .ref p ∧ H p = some (.tup [.str n, .int i]) ∧ n ≠ "in" ∧ o = none) ∨ (∃ (p : Addr) (k : Nat), x = .ref p ∧ H p = some (.tup [.str "in", .int k]) ∧ k < 8 ∧ o = some k)
theorem SelOK.part {H : Hp} {x : V} : SelOK H x → PartOK H x none := by
  rintro ⟨p, n, i, rfl, e, ⟨rfl, _⟩ | ⟨rfl, _⟩⟩
  · exact .inr (.inr (.inl ⟨p, _, i, rfl, e, by decide +kernel, rfl⟩))
  · exact .inr (.inr (.inl ⟨p, _, i, rfl, e, by decide +kernel, rfl⟩))
theorem SrcOK.part {H : Hp} {x : V} {o : Option Nat} : SrcOK H x o → PartOK H x o := by
  rintro ⟨p, n, i, rfl, e, ⟨rfl, h0, h7, rfl⟩ | ⟨rfl, _, _, rfl⟩ | ⟨rfl, _, _, rfl⟩⟩
  · obtain ⟨k, rfl⟩ : ∃ k : Nat, i = k := ⟨i.toNat, by lia⟩
    exact .inr (.inr (.inr ⟨p, k, rfl, e, by lia, by simp⟩))
  · exact .inr (.inr (.inl ⟨p, _, i, rfl, e, by decide +kernel, rfl⟩))
  · exact .inr (.inr (.inl ⟨p, _, i, rfl, e, by decide +kernel, rfl⟩))
structure Pts (H : Hp) (p : Addr) (nm : Str) (xs : List V) (os : List (Option Nat)) (m : Md) : Prop where
  at_ : H p = some (.tup (.str nm :: xs))
  pr : Paired (PartOK H) (.str nm :: xs) os
  os_ : os.filterMap id = inR m
  len : xs.length ≤ 4
  to_ : m.kind < 4 → xs[0]? = some (.int m.to) ∧ m.to < 8
  four : inV (.str nm) [.str "get", .str "ask", .str "cell", .str "two"] = decide (m.kind < 4)
  three : (!decide (V.str nm = V.str "two")) = decide (m.kind ≠ 3)
theorem four_get : inV (.str "get") [.str "get", .str "ask", .str "cell", .str "two"] = decide (0 < 4) := by decide +kernel
theorem three_get : (!decide (V.str "get" = V.str "two")) = decide (0 ≠ 3) := by decide +kernel
theorem four_ask : inV (.str "ask") [.str "get", .str "ask", .str "cell", .str "two"] = decide (1 < 4) := by decide +kernel
theorem three_ask : (!decide (V.str "ask" = V.str "two")) = decide (1 ≠ 3) := by decide +kernel
theorem four_cell : inV (.str "cell") [.str "get", .str "ask", .str "cell", .str "two"] = decide (2 < 4) := by decide +kernel
theorem three_cell : (!decide (V.str "cell" = V.str "two")) = decide (2 ≠ 3) := by decide +kernel
theorem four_two : inV (.str "two") [.str "get", .str "ask", .str "cell", .str "two"] = decide (3 < 4) := by decide +kernel
theorem three_two : (!decide (V.str "two" = V.str "two")) = decide (3 ≠ 3) := by decide +kernel
theorem four_put : inV (.str "put") [.str "get", .str "ask", .str "cell", .str "two"] = decide (4 < 4) := by decide +kernel
theorem three_put : (!decide (V.str "put" = V.str "two")) = decide (4 ≠ 3) := by decide +kernel
theorem four_tell : inV (.str "tell") [.str "get", .str "ask", .str "cell", .str "two"] = decide (5 < 4) := by decide +kernel
theorem three_tell : (!decide (V.str "tell" = V.str "two")) = decide (5 ≠ 3) := by decide +kernel
theorem four_store : inV (.str "store") [.str "get", .str "ask", .str "cell", .str "two"] = decide (6 < 4) := by decide +kernel
theorem three_store : (!decide (V.str "store" = V.str "two")) = decide (6 ≠ 3) := by decide +kernel
theorem Tol.parts {H : Hp} {v : V} {m : Md} (h : Tol H v m) : ∃ p nm xs os, v = .ref p ∧ Pts H p nm xs os m := by
  have s : ∀ z : Str, PartOK H (.str z) none := fun z => .inl ⟨⟨z, rfl⟩, rfl⟩
  have n : ∀ z : Int, PartOK H (.int z) none := fun z => .inr (.inl ⟨⟨z, rfl⟩, rfl⟩)
  cases h with
  | get a b c => exact ⟨_, _, _, _, rfl, a, .cons (s _) (.cons (n _) (.cons c.part .nil)), rfl, by simp, fun _ => ⟨rfl, b⟩, four_get, three_get⟩
  | ask a b c => exact ⟨_, _, _, _, rfl, a, .cons (s _) (.cons (n _) (.cons c.part .nil)), rfl, by simp, fun _ => ⟨rfl, b⟩, four_ask, three_ask⟩
  | cell a b c => exact ⟨_, _, _, _, rfl, a, .cons (s _) (.cons (n _) (.cons c.part .nil)), rfl, by simp, fun _ => ⟨rfl, b⟩, four_cell, three_cell⟩
  | two a b c d e => exact ⟨_, _, _, _, rfl, a, .cons (s _) (.cons (n _) (.cons (s _) (.cons d.part (.cons e.part .nil)))), rfl, by simp, fun _ => ⟨rfl, b⟩, four_two, three_two⟩
  | put a b c => exact ⟨_, _, _, _, rfl, a, .cons (s _) (.cons b.part (.cons c.part .nil)), rfl, by simp, fun z => absurd (show 4 < 4 from z) (by decide), four_put, three_put⟩
  | tell a b c => exact ⟨_, _, _, _, rfl, a, .cons (s _) (.cons b.part (.cons c.part .nil)), rfl, by simp, fun z => absurd (show 5 < 4 from z) (by decide), four_tell, three_tell⟩
  | store a b c => exact ⟨_, _, _, _, rfl, a, .cons (s _) (.cons b.part (.cons c.part .nil)), rfl, by simp, fun z => absurd (show 6 < 4 from z) (by decide), four_store, three_store⟩
theorem paired_at {α β : Type} {F : α → β → Prop} : ∀ {xs : List α} {ys : List β}, Paired F xs ys → ∀ {i : Nat} {x : α}, xs[i]? = some x → ∃ y, ys[i]? = some y ∧ F x y
  | _, _, .nil, _, _, h => by simp at h
  | _, _, .cons a t, 0, x, h => ⟨_, rfl, by simpa using (by simpa using h : _ = x) ▸ a⟩
  | _, _, .cons a t, i + 1, x, h => by simpa using paired_at t (by simpa using h)
theorem same_over {H J : Hp} {a : Addr} {o : HO} (s : Same H J) (n : H a = none) : Same H (upd J a o) := fun b u e => by rw [upd_ne (ne_of_none e n)]; exact s b u e
def wayL (m : Md) : List Str := if m.kind = 3 then [] else [("way" : Str)]
def lrd (m : Md) : List Str := (inR m).map rN ++ wayL m
def lwr (m : Md) : List Str := (tgt m).map rN ++ wayL m
inductive spLTouched (vs : List V) (H : Hp) (Q : VK) (Z3 : XK) : Prop
  | mk (v : V) (m : Md) : vs = [v] → Tol H v m → (∀ t a b H', Same H H' → H' t = some (.tup [.ref a, .ref b]) → H' a = some (.lst (strsV (lrd m))) → H' b = some (.lst (strsV (lwr m))) → Q (.ref t) H') → spLTouched vs H Q Z3
section
variable {P : Program} {w : World} {K : PySem.W.Frag} {mg : Str → Option Value} {base : Heap} {C : Nat → Addr}
theorem scLTouched : FnScope ["_law_told", "_law_reads", "_law_writes"] ["_law_told"] (defScope sLTouched) := ⟨rfl, rfl, rfl, by decide +kernel, rfl, by decide +kernel, by decide +kernel⟩
theorem rN_len' : ∀ k < 8, ("r" : Str).length + (toString ((k : Nat) : Int) : Str).length ≤ 10 := by decide +kernel
theorem ndPart : (["_law_part"] : List Str).Nodup := by decide +kernel
set_option maxHeartbeats 4000000 in
theorem ok_lTouched {f : Addr} {fd : FuncData} (F : Fun K "_law_touched" "_law_touched" sLTouched f fd) (B : Bl mg) : FnOk P w K mg base CX0 1 f fd ["_law_told"] spLTouched := by
  refine F.ok scLTouched (fun vs H Q E h => ?_) (fun cdv A outer s H vs Q E hr h => ?_)
  · obtain ⟨v, m, rfl, _⟩ := h
    rfl
  · obtain ⟨v, m, rfl, hv, q⟩ := h
    obtain ⟨p, nm, xs, os, rfl, T⟩ := hv.parts
    have sz : (1000 : Nat) ≤ sizeLine := by decide
    refine ⟨_, pss_cons (ps_setLC (i := 1) scLTouched.nd rfl rfl (N' := ["_law_part"]) (ix := [none]) (sc0 := defScope sLTouched) (N := ["_law_told", "_law_reads", "_law_writes"]) rfl (by decide +kernel) (pi_tup (pv 0))
        (fun C' cl s H fp => pg_name (i := 0) ndPart rfl (Or.inl rfl) (.inr rfl))
        (fun _ _ _ _ _ => pf_one (PW.pt (pw_and (pt_val (pe_callB (isi_tyK (K := K) rfl (T := "tuple")) (by rfl) B.isinstance boot_isi (pa_cons (pv 0) (pa_cons (pe_ty (by rfl) B.tuple boot_tuple') pa_nil)))) (pw_and1 (pt_cmpR op_eq (pe_ix (ix_tupK (K := K) rfl) (pv 0) pe_int (fun _ _ => rfl)) pe_str (nomark _))))))
        (fun C' cl s H fp => pe_op op_add_str pe_str (pe_callTy call_str_int (by rfl) B.str boot_str' (pa_cons (pe_ix (ix_tupK (K := K) rfl) (pv 0) pe_int (fun _ _ => rfl)) pa_nil))))
      (pss_cons (ps_set (i := 2) scLTouched.nd rfl (Or.inl rfl) (pe_lst pa_nil))
      (pss_cons (ps_if (pt_cmpR op_in_seq (pe_ix ix_tup (pv 0) pe_int (fun _ _ => rfl)) (pe_tup (pa_cons pe_str (pa_cons pe_str (pa_cons pe_str (pa_cons pe_str pa_nil))))) rfl)
        (pss_one (ps_expr (pe_bm PySem.F.plainAttrs_list PySem.F.slot_list_append PySem.F.type_list_append mt_append (pv 2) (pa_cons (pe_op op_add_str pe_str (pe_callTy call_str_int (by rfl) B.str boot_str' (pa_cons (pe_ix ix_tup (pv 0) pe_int (fun _ _ => rfl)) pa_nil))) pa_nil)))) pss_nil)
      (pss_cons (ps_if (pt_cmpR op_ne (pe_ix ix_tup (pv 0) pe_int (fun _ _ => rfl)) pe_str (nomark _))
        (pss_cons (ps_expr (pe_bm PySem.F.plainAttrs_list PySem.F.slot_list_append PySem.F.type_list_append mt_append (pv 1) (pa_cons pe_str pa_nil)))
        (pss_one (ps_expr (pe_bm PySem.F.plainAttrs_list PySem.F.slot_list_append PySem.F.type_list_append mt_append (pv 2) (pa_cons pe_str pa_nil))))) pss_nil)
      (pss_one (ps_ret (pe_tup (pa_cons (pv 1) (pa_cons (pv 2) pa_nil)))))))), ?_⟩
    refine ⟨_, rfl, p, rfl, ⟨_, SqT.of T.at_⟩, ?_⟩
    have ol : os.length = (V.str nm :: xs).length := T.pr.length.symm
    refine lc_tup (K := K) (a := p) (xs := .str nm :: xs) (fun i ys H' => H' = H ∧ ys = strsV (((os.take i).filterMap id).map rN)) ⟨rfl, rfl⟩ (fun i ys H' hi ⟨a1, a2⟩ => by
        subst a1 a2
        refine ⟨SqT.of T.at_, ?_⟩
        unfold strsV
        rw [List.length_map, List.length_map]
        have h1 := List.length_filterMap_le id (os.take i)
        have h2 : (os.take i).length ≤ os.length := by rw [List.length_take]; lia
        have h3 : (V.str nm :: xs).length ≤ 5 := by have := T.len; simp; lia
        lia) ?_ ?_
    · rintro i x ys H' hx ⟨rfl, rfl⟩
      have hlt : i < (V.str nm :: xs).length := (List.getElem?_eq_some_iff.mp hx).1
      obtain ⟨o, ho, hp⟩ := paired_at T.pr hx
      have tk : os.take (i + 1) = os.take i ++ [o] := by rw [List.take_succ, ho]; rfl
      have no : o = none → Nx (fun i ys H2 => H2 = H' ∧ ys = strsV (((os.take i).filterMap id).map rN)) (V.str nm :: xs).length i (strsV (((os.take i).filterMap id).map rN)) H' := fun e => Nx.mk hlt ⟨rfl, by rw [tk, e]; simp⟩
      refine ⟨trivial, ?_⟩
      rcases hp with ⟨⟨z, rfl⟩, e⟩ | ⟨⟨z, rfl⟩, e⟩ | ⟨r, n, z, rfl, hr', hn, e⟩ | ⟨r, k, rfl, hr', k8, e⟩
      · exact ⟨_, rfl, _, _, _, rfl, .str _, rfl, _, rfl, iteF (iteF (no e))⟩
      · exact ⟨_, rfl, _, _, _, rfl, .int _, rfl, _, rfl, iteF (iteF (no e))⟩
      · refine ⟨_, rfl, _, _, _, rfl, .tup hr', rfl, _, rfl, iteT ?_⟩
        refine ⟨_, rfl, r, _, _, _, rfl, rfl, SqT.of hr', rfl, rfl, _, rfl, ?_⟩
        refine iteB (by simpa using hn) (no e)
      · refine ⟨_, rfl, _, _, _, rfl, .tup hr', rfl, _, rfl, iteT ?_⟩
        refine ⟨_, rfl, r, _, _, _, rfl, rfl, SqT.of hr', rfl, rfl, _, rfl, iteA (by simp) ?_⟩
        refine ⟨_, rfl, r, _, _, _, rfl, rfl, SqT.of hr', rfl, _, rfl, small8 _ k8, _, _, rfl, rfl, Nat.le_trans (rN_len' _ k8) (by decide), ?_⟩
        refine Nx.mk hlt ⟨rfl, ?_⟩
        rw [tk, e]
        simp [strsV, rN]
    · rintro ys H' ⟨rfl, rfl⟩ D hD
      have eo : os.take (V.str nm :: xs).length = os := by rw [← ol]; exact List.take_length
      rw [eo, T.os_]
      have s1 := same_new (o := .lst (strsV ((inR m).map rN))) hD
      have e1 : (upd H' D (.lst (strsV ((inR m).map rN)))) D = some (.lst (strsV ((inR m).map rN))) := upd_same
      generalize upd H' D (.lst (strsV ((inR m).map rN))) = H1 at *
      refine ⟨(by show 0 ≤ sizeLine; decide), fun W hW => ?_⟩
      have s2 := same_new (o := .lst []) hW
      have e2 : (upd H1 W (.lst [])) W = some (.lst []) := upd_same
      have DW : D ≠ W := ne_of_none e1 hW
      generalize upd H1 W (.lst []) = H2 at *
      have a0 : atI (V.str nm :: xs) 0 = some (V.str nm) := show atI (V.str nm :: xs) ((0 : Nat) : Int) = _ from atI_nat rfl
      have fD : H' D = none := hD
      have fW : H' W = none := s1.free hW
      refine ⟨_, rfl, p, _, _, _, rfl, rfl, SqT.of (s2 _ _ (s1 _ _ T.at_)), a0, (by show 4 ≤ sizeLine; decide), fun t4 n4 => ?_⟩
      have s3 := same_new (o := .tup [.str "get", .str "ask", .str "cell", .str "two"]) n4
      have e4 : (upd H2 t4 (.tup [.str "get", .str "ask", .str "cell", .str "two"])) t4 = some (.tup [.str "get", .str "ask", .str "cell", .str "two"]) := upd_same
      generalize upd H2 t4 (.tup [.str "get", .str "ask", .str "cell", .str "two"]) = H3 at *
      have S3 : Same H' H3 := (s1.trans s2).trans s3
      have d3 := s3 _ _ (s2 _ _ e1)
      have w3 := s3 _ _ e2
      have fin : ∀ J, Same H' J → J D = some (.lst (strsV (lrd m))) → J W = some (.lst (strsV (lwr m))) → ∀ t, J t = none → Q (.ref t) (upd J t (.tup [.ref D, .ref W])) := fun J a b c t nt => q t D W _ (a.trans (same_new nt)) upd_same (same_new nt _ _ b) (same_new nt _ _ c)
      have rl : (strsV ((inR m).map rN)).length ≤ 5 := by
        unfold strsV
        rw [List.length_map, List.length_map, ← T.os_]
        have h1 := List.length_filterMap_le id os
        have h3 : (V.str nm :: xs).length ≤ 5 := by have := T.len; simp; lia
        lia
      have tl : (tgt m).length ≤ 1 := by unfold tgt; split <;> simp
      refine ⟨t4, _, rfl, .inr (SqT.of e4), rfl, rfl, _, rfl, ?_⟩
      refine ite2 (fun h => ?_) (fun h => ?_)
      · have k4 : m.kind < 4 := of_decide_eq_true (T.four ▸ h)
        obtain ⟨x0, m8⟩ := T.to_ k4
        have a1 : atI (V.str nm :: xs) 1 = some (.int m.to) := show atI (V.str nm :: xs) ((1 : Nat) : Int) = _ from atI_nat (by simpa using x0)
        refine ⟨_, rfl, .inl ⟨rfl, _, SqL.of w3⟩, _, rfl, p, _, _, _, rfl, rfl, SqT.of (S3 _ _ T.at_), a1, _, rfl, small8 _ m8, _, _, rfl, rfl, Nat.le_trans (rN_len' _ m8) (by decide), W, _, _, rfl, rfl, w3, (by show 0 < sizeLine; decide), ?_⟩
        have S4 : Same H' (upd H3 W (.lst ([] ++ [.str (rN m.to)]))) := same_over S3 fW
        have d4 : (upd H3 W (.lst ([] ++ [.str (rN m.to)]))) D = some (.lst (strsV ((inR m).map rN))) := by rw [upd_ne DW]; exact d3
        have w4 : (upd H3 W (.lst ([] ++ [.str (rN m.to)]))) W = some (.lst (strsV ((tgt m).map rN))) := by rw [upd_same]; unfold tgt; rw [if_pos k4]; rfl
        refine ⟨_, rfl, p, _, _, _, rfl, rfl, SqT.of (S4 _ _ T.at_), a0, rfl, _, rfl, ?_⟩
        refine ite2 (fun h2 => ?_) (fun h2 => ?_)
        · have k3 : m.kind ≠ 3 := of_decide_eq_true (T.three ▸ h2)
          refine ⟨_, rfl, .inl ⟨rfl, _, SqL.of d4⟩, D, _, _, rfl, rfl, d4, (by have := rl; lia), ?_⟩
          refine ⟨_, rfl, .inl ⟨rfl, _, SqL.of (show upd _ D _ W = _ from (upd_ne DW.symm).trans w4)⟩, W, _, _, rfl, rfl, (upd_ne DW.symm).trans w4, (by have := tl; unfold strsV; rw [List.length_map, List.length_map]; lia), ?_⟩
          refine ⟨_, rfl, _, rfl, (by show 2 ≤ sizeLine; decide), fun t nt => fin _ (same_over (same_over S4 fD) fW) ?_ ?_ t nt⟩
          · rw [upd_ne DW, upd_same]; unfold lrd wayL strsV; rw [if_neg k3, List.map_append]; rfl
          · rw [upd_same]; unfold lwr wayL strsV; rw [if_neg k3, List.map_append]; rfl
        · have k3 : m.kind = 3 := by
            by_cases z : m.kind = 3
            · exact z
            · exact absurd (T.three.trans (decide_eq_true z)) h2
          refine ⟨_, rfl, _, rfl, (by show 2 ≤ sizeLine; decide), fun t nt => fin _ S4 ?_ ?_ t nt⟩
          · rw [d4]; unfold lrd wayL; rw [if_pos k3, List.append_nil]
          · rw [w4]; unfold lwr wayL; rw [if_pos k3, List.append_nil]
      · have k4 : ¬ m.kind < 4 := fun z => h (T.four.trans (decide_eq_true z))
        have w4 : H3 W = some (.lst (strsV ((tgt m).map rN))) := by rw [w3]; unfold tgt; rw [if_neg k4]; rfl
        refine ⟨_, rfl, p, _, _, _, rfl, rfl, SqT.of (S3 _ _ T.at_), a0, rfl, _, rfl, ?_⟩
        refine ite2 (fun h2 => ?_) (fun h2 => ?_)
        · have k3 : m.kind ≠ 3 := of_decide_eq_true (T.three ▸ h2)
          refine ⟨_, rfl, .inl ⟨rfl, _, SqL.of d3⟩, D, _, _, rfl, rfl, d3, (by have := rl; lia), ?_⟩
          refine ⟨_, rfl, .inl ⟨rfl, _, SqL.of (show upd _ D _ W = _ from (upd_ne DW.symm).trans w4)⟩, W, _, _, rfl, rfl, (upd_ne DW.symm).trans w4, (by have := tl; unfold strsV; rw [List.length_map, List.length_map]; lia), ?_⟩
          refine ⟨_, rfl, _, rfl, (by show 2 ≤ sizeLine; decide), fun t nt => fin _ (same_over (same_over S3 fD) fW) ?_ ?_ t nt⟩
          · rw [upd_ne DW, upd_same]; unfold lrd wayL strsV; rw [if_neg k3, List.map_append]; rfl
          · rw [upd_same]; unfold lwr wayL strsV; rw [if_neg k3, List.map_append]; rfl
        · have k3 : m.kind = 3 := by
            by_cases z : m.kind = 3
            · exact z
            · exact absurd (T.three.trans (decide_eq_true z)) h2
          refine ⟨_, rfl, _, rfl, (by show 2 ≤ sizeLine; decide), fun t nt => fin _ S3 ?_ ?_ t nt⟩
          · rw [d3]; unfold lrd wayL; rw [if_pos k3, List.append_nil]
          · rw [w4]; unfold lwr wayL; rw [if_pos k3, List.append_nil]
end
end L3
namespace L3
open PySem L2
theorem dtAll_strs {K : PySem.W.Frag} {H : Hp} : ∀ l : List Str, DtAll K H (strsV l) (l.map PyData.str)
  | [] => .nil
  | x :: l => .cons (.str x) (dtAll_strs l)
theorem layAll_strs : ∀ l : List Str, (∀ x ∈ l, okS x = true) → PyData.canLayAll0 (l.map PyData.str) = true
  | [], _ => rfl
  | x :: l, h => by
    have h1 : (PyData.str x).canLay0 = true := h x (List.mem_cons_self ..)
    have h2 := layAll_strs l fun y hy => h y (List.mem_cons_of_mem _ hy)
    simp only [List.map_cons, PyData.canLayAll0, h1, h2, Bool.and_self]
theorem lay_strs {l : List Str} (h : ∀ x ∈ l, okS x = true) : (PyData.list (l.map PyData.str)).canLay0 = true := by
  have := layAll_strs l h
  simpa only [PyData.canLay0] using this
theorem eqv_strs (l : List Str) : PyData.eqv (.list (l.map PyData.str)) (.list []) = l.isEmpty := by cases l <;> rfl
theorem okRN : ∀ k < 8, okS (rN k) = true := by decide +kernel
theorem okWay : okS "way" = true := by decide +kernel
theorem Tol.ok_w {H : Hp} {v : V} {m : Md} (h : Tol H v m) : ∀ x ∈ lwr m, okS x = true := by
  obtain ⟨p, nm, xs, os, _, T⟩ := h.parts
  intro x hx
  unfold lwr at hx
  rcases List.mem_append.mp hx with z | z
  · obtain ⟨k, hk, rfl⟩ := List.mem_map.mp z
    unfold tgt at hk
    split at hk
    · rename_i k4
      rw [List.mem_singleton.mp hk]
      exact okRN _ (T.to_ k4).2
    · cases hk
  · unfold wayL at z
    split at z
    · cases z
    · rw [List.mem_singleton.mp z]
      exact okWay
theorem Tol.len_r {H : Hp} {v : V} {m : Md} (h : Tol H v m) : (lrd m).length ≤ 10 ∧ (lwr m).length ≤ 10 ∧ (inR m).length ≤ 2 ∧ (tgt m).length ≤ 2 := by
  have a : (inR m).length ≤ 2 := by
    unfold inR
    cases h <;> exact Nat.le_trans (List.length_filterMap_le _ _) (by simp)
  have b : (tgt m).length ≤ 1 := by unfold tgt; split <;> simp
  have c : (wayL m).length ≤ 1 := by unfold wayL; split <;> simp
  refine ⟨?_, ?_, a, by lia⟩
  · unfold lrd; rw [List.length_append, List.length_map]; lia
  · unfold lwr; rw [List.length_append, List.length_map]; lia
theorem mem_nms {m : Md} {ns : List Nat} (h : ns.length ≤ 2) (x : Str) : x ∈ nms m ns ↔ x ∈ ns.map rN ++ wayL m := by
  obtain ⟨_, _, f3⟩ := foldN_facts h
  unfold nms wayL
  rw [List.mem_append, List.mem_append, List.mem_map, List.mem_map]
  simp only [f3]
def lmeet (m n : Md) : Bool := (lwr m).any (fun x => (lrd n ++ lwr n).contains x) || (lwr n).any fun x => (lrd m).contains x
theorem lmeet_eq {H : Hp} {v u : V} {m n : Md} (hm : Tol H v m) (hn : Tol H u n) : lmeet m n = meetB m n := by
  obtain ⟨_, _, a1, a2⟩ := hm.len_r
  obtain ⟨_, _, b1, b2⟩ := hn.len_r
  have ra : ∀ x, x ∈ readsN m ↔ x ∈ lrd m := fun x => mem_nms a1 x
  have wa : ∀ x, x ∈ writesN m ↔ x ∈ lwr m := fun x => mem_nms a2 x
  have rb : ∀ x, x ∈ readsN n ↔ x ∈ lrd n := fun x => mem_nms b1 x
  have wb : ∀ x, x ∈ writesN n ↔ x ∈ lwr n := fun x => mem_nms b2 x
  unfold lmeet meetB touchB
  rw [Bool.eq_iff_iff]
  simp only [Bool.or_eq_true, List.any_eq_true, List.contains_iff_mem, List.mem_append, ra, wa, rb, wb]
  constructor
  · rintro (⟨x, h1, h2⟩ | ⟨x, h1, h2⟩)
    · exact .inl ⟨x, h1, h2⟩
    · exact .inr ⟨x, h1, .inl h2⟩
  · rintro (⟨x, h1, h2⟩ | ⟨x, h1, h2 | h2⟩)
    · exact .inl ⟨x, h1, h2⟩
    · exact .inr ⟨x, h1, h2⟩
    · exact .inl ⟨x, h2, .inr h1⟩
theorem filt_succ {p : Str → Bool} {l : List Str} {i : Nat} {x : Str} (h : l[i]? = some x) : (l.take (i + 1)).filter p = (l.take i).filter p ++ if p x = true then [x] else [] := by
  rw [List.take_succ, h, List.filter_append]
  cases e : p x <;> simp [e]
theorem filt_none {p : Str → Bool} {l : List Str} : (!(l.filter p).isEmpty) = l.any p := by
  induction l with
  | nil => rfl
  | cons x l ih =>
    rw [List.filter_cons, List.any_cons]
    cases e : p x
    · simpa [e] using ih
    · simp [e]
theorem strs_app (a b : List Str) : strsV a ++ strsV b = strsV (a ++ b) := (List.map_append ..).symm
theorem strs_at {l : List Str} {i : Nat} {x : V} (h : (strsV l)[i]? = some x) : ∃ z, x = .str z ∧ l[i]? = some z := by
  unfold strsV at h
  rw [List.getElem?_map] at h
  cases e : l[i]? with
  | none => rw [e] at h; cases h
  | some z => rw [e] at h; exact ⟨z, (Option.some.inj h).symm, rfl⟩
theorem strs_len (l : List Str) : (strsV l).length = l.length := List.length_map ..
inductive spLMeet (vs : List V) (H : Hp) (Q : VK) (Z3 : XK) : Prop
  | mk (v u : V) (m n : Md) : vs = [v, u] → Tol H v m → Tol H u n → (∀ H', Same H H' → Q (.bl (meetB m n)) H') → spLMeet vs H Q Z3
section
variable {P : Program} {w : World} {K : PySem.W.Frag} {mg : Str → Option Value} {base : Heap} {C : Nat → Addr}
theorem scLMeet : FnScope ["_law_one", "_law_other", "_law_mine", "_law_others"] ["_law_one", "_law_other"] (defScope sLMeet) := ⟨rfl, rfl, rfl, by decide +kernel, rfl, by decide +kernel, by decide +kernel⟩
theorem ndPl1 : (["_law_place", "_law_others"] : List Str).Nodup := by decide +kernel
theorem ndPl2 : (["_law_place", "_law_mine"] : List Str).Nodup := by decide +kernel
set_option maxHeartbeats 4000000 in
theorem ok_lMeet {f : Addr} {fd : FuncData} (F : Fun K "_law_meet" "_law_meet" sLMeet f fd) (LT : Fn P w K mg base "_law_touched" 1 ["_law_told"] spLTouched) : FnOk P w K mg base CX0 2 f fd ["_law_one", "_law_other"] spLMeet := by
  refine F.ok scLMeet (fun vs H Q E h => ?_) (fun cdv A outer s H vs Q E hr h => ?_)
  · obtain ⟨v, u, m, n, rfl, _⟩ := h
    rfl
  · obtain ⟨v, u, m, n, rfl, hv, hu, q⟩ := h
    have sz : (1000 : Nat) ≤ sizeLine := by decide
    obtain ⟨l1, l2, _, _⟩ := hv.len_r
    obtain ⟨l3, l4, _, _⟩ := hu.len_r
    refine ⟨_, pss_cons (ps_set (i := 2) scLMeet.nd rfl (Or.inr rfl) (pe_fn LT hr rfl (pa_cons (pv 0) pa_nil)))
      (pss_cons (ps_set (i := 3) scLMeet.nd rfl (Or.inr rfl) (pe_fn LT hr rfl (pa_cons (pv 1) pa_nil)))
      (pss_cons (ps_if (pt_cmpR (op_neD hr) (pe_lc (N' := ["_law_place", "_law_others"]) (ix := [none, some 3]) (sc0 := defScope sLMeet) (N := ["_law_one", "_law_other", "_law_mine", "_law_others"]) rfl (by decide +kernel) (pi_list (pe_ix ix_tup (pv 2) pe_int (fun _ _ => rfl)))
          (fun C' cl s H fp => pg_name (i := 0) ndPl1 rfl (Or.inl rfl) (.inr rfl))
          (fun _ _ _ _ _ => pf_one (pt_cmpR (op_in_seqK (K := K) rfl) (pv 0) (pe_op op_cat (pe_ix (ix_tupK (K := K) rfl) (pv 1) pe_int (fun _ _ => rfl)) (pe_ix (ix_tupK (K := K) rfl) (pv 1) pe_int (fun _ _ => rfl))) rfl))
          (fun C' cl s H fp => pv 0)) (pe_lst pa_nil) (nomark _)) (pss_one (ps_ret pe_bl)) pss_nil)
      (pss_one (ps_ret (pe_cmpR (op_neD hr) (pe_lc (N' := ["_law_place", "_law_mine"]) (ix := [none, some 2]) (sc0 := defScope sLMeet) (N := ["_law_one", "_law_other", "_law_mine", "_law_others"]) rfl (by decide +kernel) (pi_list (pe_ix ix_tup (pv 3) pe_int (fun _ _ => rfl)))
          (fun C' cl s H fp => pg_name (i := 0) ndPl2 rfl (Or.inl rfl) (.inr rfl))
          (fun _ _ _ _ _ => pf_one (pt_cmpR (op_in_seqK (K := K) rfl) (pv 0) (pe_ix (ix_tupK (K := K) rfl) (pv 1) pe_int (fun _ _ => rfl)) rfl))
          (fun C' cl s H fp => pv 0)) (pe_lst pa_nil) (nomark _)))))), ?_⟩
    refine ⟨_, rfl, v, m, rfl, hv, fun t1 r1 w1 H1 s1 et1 er1 ew1 => ?_⟩
    refine ⟨_, rfl, u, n, rfl, hu.kt (kt_same s1), fun t2 r2 w2 H2 s2 et2 er2 ew2 => ?_⟩
    have et1' := s2 _ _ et1
    have er1' := s2 _ _ er1
    have ew1' := s2 _ _ ew1
    have S2 := s1.trans s2
    refine ⟨_, rfl, t1, _, _, _, rfl, rfl, SqT.of et1', rfl, w1, rfl, ⟨_, SqL.of ew1'⟩, ?_⟩
    refine lc_list (K := K) (a := w1) (xs := strsV (lwr m)) (fun i ys H' => Same H2 H' ∧ ys = strsV (((lwr m).take i).filter fun x => (lrd n ++ lwr n).contains x)) ⟨Same.refl _, rfl⟩ (fun i ys H' hi ⟨a1, a2⟩ => by
        subst a2
        refine ⟨SqL.of (a1 _ _ ew1'), ?_⟩
        rw [strs_len]
        have h1 := List.length_filter_le (fun x => (lrd n ++ lwr n).contains x) ((lwr m).take i)
        have h2 : ((lwr m).take i).length ≤ (lwr m).length := by rw [List.length_take]; lia
        lia) ?_ ?_
    · rintro i x ys H' hx ⟨a1, rfl⟩
      have hlt : i < (strsV (lwr m)).length := (List.getElem?_eq_some_iff.mp hx).1
      obtain ⟨z, rfl, hz⟩ := strs_at hx
      refine ⟨⟨rfl, trivial⟩, ?_⟩
      refine ⟨_, rfl, _, rfl, t2, _, _, _, rfl, rfl, SqT.of (a1 _ _ et2), rfl, _, rfl, t2, _, _, _, rfl, rfl, SqT.of (a1 _ _ et2), rfl, r2, w2, _, _, rfl, rfl, a1 _ _ er2, a1 _ _ ew2, (by rw [strs_len, strs_len]; lia), fun c nc => ?_⟩
      have a2 := a1.trans (same_new (o := .lst (strsV (lrd n) ++ strsV (lwr n))) nc)
      refine ⟨c, _, rfl, .inl (SqL.of upd_same), rfl, (by rw [strs_app]; exact flat_strs _), _, rfl, ?_⟩
      have eb : inV (.str z) (strsV (lrd n) ++ strsV (lwr n)) = (lrd n ++ lwr n).contains z := by rw [strs_app, inV_strs]
      refine ite2 (fun h => ?_) (fun h => ?_)
      · have h' : (lrd n ++ lwr n).contains z = true := eb ▸ h
        refine ⟨_, rfl, Nx.mk hlt ⟨a2, ?_⟩⟩
        rw [filt_succ hz, if_pos h', ← strs_app]
        rfl
      · have h' : ¬ (lrd n ++ lwr n).contains z = true := fun y => h (eb.trans y)
        refine Nx.mk hlt ⟨a2, ?_⟩
        rw [filt_succ hz, if_neg h', List.append_nil]
    · rintro ys H3 ⟨s3, rfl⟩ D hD
      rw [strs_len, List.take_length]
      have s4 := same_new (o := .lst (strsV ((lwr m).filter fun x => (lrd n ++ lwr n).contains x))) hD
      have e4 : (upd H3 D (.lst (strsV ((lwr m).filter fun x => (lrd n ++ lwr n).contains x)))) D = some (.lst (strsV ((lwr m).filter fun x => (lrd n ++ lwr n).contains x))) := upd_same
      generalize upd H3 D (.lst (strsV ((lwr m).filter fun x => (lrd n ++ lwr n).contains x))) = H4 at *
      refine ⟨(by show 0 ≤ sizeLine; decide), fun e ne => ?_⟩
      have s5 := same_new (o := .lst []) ne
      have e5 : (upd H4 e (.lst [])) e = some (.lst []) := upd_same
      generalize upd H4 e (.lst []) = H5 at *
      have S5 : Same H2 H5 := s3.trans (s4.trans s5)
      refine ⟨_, _, .lst (SqL.of (s5 _ _ e4)) (dtAll_strs _), .lst (SqL.of e5) .nil, lay_strs (fun x hx => hv.ok_w x (List.mem_filter.mp hx).1), rfl, Nat.le_trans (Nat.min_le_right _ _) (by decide), _, rfl, ?_⟩
      rw [eqv_strs, filt_none]
      refine ite2 (fun h => ?_) (fun h => ?_)
      · have : meetB m n = true := by rw [← lmeet_eq hv hu]; unfold lmeet; rw [h]; rfl
        rw [← this]
        exact q _ (S2.trans S5)
      · have hf : (lwr m).any (fun x => (lrd n ++ lwr n).contains x) = false := by simpa using h
        refine ⟨_, rfl, t2, _, _, _, rfl, rfl, SqT.of (S5 _ _ et2), rfl, w2, rfl, ⟨_, SqL.of (S5 _ _ ew2)⟩, ?_⟩
        refine lc_list (K := K) (a := w2) (xs := strsV (lwr n)) (fun i ys H' => H' = H5 ∧ ys = strsV (((lwr n).take i).filter fun x => (lrd m).contains x)) ⟨rfl, rfl⟩ (fun i ys H' hi ⟨a1, a2⟩ => by
            subst a1 a2
            refine ⟨SqL.of (S5 _ _ ew2), ?_⟩
            rw [strs_len]
            have h1 := List.length_filter_le (fun x => (lrd m).contains x) ((lwr n).take i)
            have h2 : ((lwr n).take i).length ≤ (lwr n).length := by rw [List.length_take]; lia
            lia) ?_ ?_
        · rintro i x ys H' hx ⟨rfl, rfl⟩
          have hlt : i < (strsV (lwr n)).length := (List.getElem?_eq_some_iff.mp hx).1
          obtain ⟨z, rfl, hz⟩ := strs_at hx
          refine ⟨⟨rfl, trivial⟩, ?_⟩
          refine ⟨_, rfl, _, rfl, t1, _, _, _, rfl, rfl, SqT.of (S5 _ _ et1'), rfl, r1, _, rfl, .inl (SqL.of (S5 _ _ er1')), rfl, flat_strs _, _, rfl, ?_⟩
          have eb : inV (.str z) (strsV (lrd m)) = (lrd m).contains z := inV_strs _ _
          refine ite2 (fun h => ?_) (fun h => ?_)
          · have h' : (lrd m).contains z = true := eb ▸ h
            refine ⟨_, rfl, Nx.mk hlt ⟨rfl, ?_⟩⟩
            rw [filt_succ hz, if_pos h', ← strs_app]
            rfl
          · have h' : ¬ (lrd m).contains z = true := fun y => h (eb.trans y)
            refine Nx.mk hlt ⟨rfl, ?_⟩
            rw [filt_succ hz, if_neg h', List.append_nil]
        · rintro ys H6 ⟨rfl, rfl⟩ D2 hD2
          rw [strs_len, List.take_length]
          have s7 := same_new (o := .lst (strsV ((lwr n).filter fun x => (lrd m).contains x))) hD2
          have e7 : (upd H6 D2 (.lst (strsV ((lwr n).filter fun x => (lrd m).contains x)))) D2 = some (.lst (strsV ((lwr n).filter fun x => (lrd m).contains x))) := upd_same
          generalize upd H6 D2 (.lst (strsV ((lwr n).filter fun x => (lrd m).contains x))) = H7 at *
          refine ⟨(by show 0 ≤ sizeLine; decide), fun e' ne' => ?_⟩
          have s8 := same_new (o := .lst []) ne'
          have e8 : (upd H7 e' (.lst [])) e' = some (.lst []) := upd_same
          generalize upd H7 e' (.lst []) = H8 at *
          refine ⟨_, _, .lst (SqL.of (s8 _ _ e7)) (dtAll_strs _), .lst (SqL.of e8) .nil, lay_strs (fun x hx => hu.ok_w x (List.mem_filter.mp hx).1), rfl, Nat.le_trans (Nat.min_le_right _ _) (by decide), ?_⟩
          rw [eqv_strs, filt_none]
          have : meetB m n = (lwr n).any fun x => (lrd m).contains x := by rw [← lmeet_eq hv hu]; unfold lmeet; rw [hf]; rfl
          rw [← this]
          exact q _ (S2.trans (S5.trans (s7.trans s8)))
end
end L3
namespace TK
def mxl (l : List Nat) : Nat := l.foldl max 0
def stp (f : Nat → Nat → Bool) (n : Nat) (l : List Nat) : List Nat := ((List.range n).filter fun o => f o n).map fun o => l.getD o 0 + 1
def nums (f : Nat → Nat → Bool) : Nat → List Nat
  | 0 => []
  | n + 1 => nums f n ++ [mxl (stp f n (nums f n))]
theorem nums_len (f : Nat → Nat → Bool) : ∀ n, (nums f n).length = n
  | 0 => rfl
  | n + 1 => by rw [nums, List.length_append, nums_len f n]; rfl
theorem foldl_max (l : List Nat) : ∀ a, a ≤ l.foldl max a ∧ (∀ x ∈ l, x ≤ l.foldl max a) ∧ (l.foldl max a = a ∨ l.foldl max a ∈ l) := by
  induction l with
  | nil => intro a; exact ⟨Nat.le_refl _, fun x h => (nomatch h), .inl rfl⟩
  | cons y l ih =>
    intro a
    obtain ⟨h1, h2, h3⟩ := ih (max a y)
    rw [List.foldl_cons]
    refine ⟨by lia, fun x hx => ?_, ?_⟩
    · rcases List.mem_cons.mp hx with rfl | hx
      · lia
      · exact h2 x hx
    · rcases h3 with h3 | h3
      · rcases Nat.le_total a y with h | h
        · exact .inr (by rw [h3, Nat.max_eq_right h]; exact List.mem_cons_self ..)
        · exact .inl (by rw [h3, Nat.max_eq_left h])
      · exact .inr (List.mem_cons_of_mem _ h3)
theorem le_mxl {l : List Nat} {x : Nat} (h : x ∈ l) : x ≤ mxl l := (foldl_max l 0).2.1 x h
theorem mxl_mem {l : List Nat} (h : l ≠ []) : mxl l ∈ l := by
  rcases (foldl_max l 0).2.2 with e | e
  · cases l with
    | nil => exact absurd rfl h
    | cons y l =>
      have := (foldl_max (y :: l) 0).2.1 y (List.mem_cons_self ..)
      have y0 : y = 0 := by rw [e] at this; lia
      show mxl (y :: l) ∈ _
      have : mxl (y :: l) = y := by rw [y0] at e ⊢; exact e
      rw [this]
      exact List.mem_cons_self ..
  · exact e
theorem mxl_snoc (l : List Nat) (b : Nat) : mxl (l ++ [b]) = max (mxl l) b := by unfold mxl; rw [List.foldl_append]; rfl
def tops (l : List Nat) : Nat := if l = [] then 0 else mxl l + 1
theorem tops_lt {l : List Nat} {x : Nat} (h : x ∈ l) : x < tops l := by
  unfold tops
  rw [if_neg (List.ne_nil_of_mem h)]
  have := le_mxl h
  lia
theorem tops_snoc (l : List Nat) (b : Nat) : tops (l ++ [b]) = max (tops l) (b + 1) := by
  unfold tops
  rw [if_neg (by simp), mxl_snoc]
  split
  · rename_i h; subst h; show max 0 b + 1 = _; lia
  · lia
theorem nums_last (f : Nat → Nat → Bool) (n : Nat) : mxl (stp f n (nums f n)) ≤ tops (nums f n) := by
  by_cases h : stp f n (nums f n) = []
  · rw [h]; exact Nat.zero_le _
  · have := mxl_mem h
    unfold stp at this
    obtain ⟨o, ho, e⟩ := List.mem_map.mp this
    have ho' : o < n := List.mem_range.mp (List.mem_filter.mp ho).1
    have hm : (nums f n).getD o 0 ∈ nums f n := by
      rw [List.getD_eq_getElem?_getD, List.getElem?_eq_getElem (by rw [nums_len]; exact ho')]
      exact List.getElem_mem _
    have := tops_lt hm
    unfold stp
    rw [← e]
    lia
def dueB (l : List Nat) (n : Nat) : List (List Nat) := (List.range (tops (l.take n))).map fun k => (List.range n).filter fun i => l.getD i 0 == k
theorem dueB_len (l : List Nat) (n : Nat) : (dueB l n).length = tops (l.take n) := by unfold dueB; rw [List.length_map, List.length_range]
theorem filt_new {l : List Nat} {i b k : Nat} (h : l[i]? = some b) : ((List.range (i + 1)).filter fun j => l.getD j 0 == k) = ((List.range i).filter fun j => l.getD j 0 == k) ++ if b = k then [i] else [] := by
  rw [List.range_succ, List.filter_append]
  congr 1
  have e : l.getD i 0 = b := by rw [List.getD_eq_getElem?_getD, h]; rfl
  by_cases z : b = k
  · simp [z, h]
  · simp [z, h]
theorem filt_top {l : List Nat} {i k : Nat} (hi : i ≤ l.length) (h : tops (l.take i) ≤ k) : ((List.range i).filter fun j => l.getD j 0 == k) = [] := by
  rw [List.filter_eq_nil_iff]
  intro j hj e
  have hj' : j < i := List.mem_range.mp hj
  have ej : l.getD j 0 = k := by simpa using e
  have hm : l.getD j 0 ∈ l.take i := by
    rw [List.getD_eq_getElem?_getD, List.getElem?_eq_getElem (by lia)]
    have : (l.take i)[j]? = some l[j] := by rw [List.getElem?_take_of_lt hj', List.getElem?_eq_getElem (by lia)]
    exact List.mem_of_getElem? this
  have := tops_lt hm
  lia
theorem take_snoc {l : List Nat} {i b : Nat} (h : l[i]? = some b) : l.take (i + 1) = l.take i ++ [b] := by rw [List.take_succ, h]; rfl
theorem dueB_new {l : List Nat} {i b : Nat} (h : l[i]? = some b) (e : b = tops (l.take i)) : dueB l (i + 1) = dueB l i ++ [[i]] := by
  have hi : i ≤ l.length := Nat.le_of_lt (List.getElem?_eq_some_iff.mp h).1
  unfold dueB
  rw [take_snoc h, tops_snoc, show max (tops (l.take i)) (b + 1) = tops (l.take i) + 1 by lia, List.range_succ (n := tops (l.take i)), List.map_append]
  congr 1
  · refine List.map_congr_left fun k hk => ?_
    have hk' : k < tops (l.take i) := List.mem_range.mp hk
    rw [filt_new h, if_neg (by lia), List.append_nil]
  · show [List.filter _ _] = _
    rw [filt_new h, if_pos e, filt_top hi (Nat.le_refl _)]
    rfl
theorem dueB_old {l : List Nat} {i b : Nat} (h : l[i]? = some b) (e : b < tops (l.take i)) : ∃ xs, (dueB l i)[b]? = some xs ∧ dueB l (i + 1) = (dueB l i).set b (xs ++ [i]) := by
  refine ⟨(List.range i).filter fun j => l.getD j 0 == b, ?_, ?_⟩
  · unfold dueB
    rw [List.getElem?_map, List.getElem?_range e]
    rfl
  · refine List.ext_getElem? fun k => ?_
    have en : tops (l.take (i + 1)) = tops (l.take i) := by rw [take_snoc h, tops_snoc]; lia
    by_cases hk : k < tops (l.take i)
    · unfold dueB
      rw [en, List.getElem?_map, List.getElem?_range hk, List.getElem?_set]
      simp only [Option.map_some, List.length_map, List.length_range]
      rw [filt_new h]
      by_cases z : b = k
      · subst z; simp [e]
      · simp [z, List.getElem?_range hk]
    · rw [List.getElem?_eq_none (by rw [dueB_len, en]; lia), List.getElem?_eq_none (by rw [List.length_set, dueB_len]; lia)]
theorem nums_at (f : Nat → Nat → Bool) {n i : Nat} (h : i < n) : (nums f n)[i]? = some (mxl (stp f i (nums f i))) ∧ (nums f n).take i = nums f i := by
  induction n with
  | zero => lia
  | succ n ih =>
    by_cases e : i = n
    · subst e
      have l := nums_len f i
      refine ⟨?_, ?_⟩
      · show (nums f i ++ [_])[i]? = _
        rw [List.getElem?_append_right (by lia), l]
        simp
      · show (nums f i ++ [_]).take i = _
        rw [List.take_append_of_le_length (by lia), List.take_of_length_le (by lia)]
    · obtain ⟨h1, h2⟩ := ih (by lia)
      have l := nums_len f n
      refine ⟨?_, ?_⟩
      · show (nums f n ++ [_])[i]? = _
        rw [List.getElem?_append_left (by lia), h1]
      · show (nums f n ++ [_]).take i = _
        rw [List.take_append_of_le_length (by lia), h2]
theorem nums_le (f : Nat → Nat → Bool) {n i b : Nat} (h : (nums f n)[i]? = some b) : b ≤ tops ((nums f n).take i) := by
  have hi : i < n := by have := (List.getElem?_eq_some_iff.mp h).1; rw [nums_len] at this; exact this
  obtain ⟨h1, h2⟩ := nums_at f hi
  rw [h1] at h
  cases h
  rw [h2]
  exact nums_last f i
theorem stp_succ (f : Nat → Nat → Bool) (n : Nat) (l : List Nat) (i : Nat) : (((List.range (i + 1)).filter fun o => f o n).map fun o => l.getD o 0 + 1) = (((List.range i).filter fun o => f o n).map fun o => l.getD o 0 + 1) ++ if f i n = true then [l.getD i 0 + 1] else [] := by
  rw [List.range_succ, List.filter_append, List.map_append]
  congr 1
  by_cases h : f i n = true <;> simp [h]
theorem nums_pos (f : Nat → Nat → Bool) (n : Nat) : tops (nums f n) ≤ n := by
  induction n with
  | zero => exact Nat.le_refl _
  | succ n ih =>
    show tops (nums f n ++ [_]) ≤ _
    rw [tops_snoc]
    have := nums_last f n
    lia
end TK
namespace L2
open PySem PySem.Spec PyProof.Rows
def ixOkZ (z : Str) (N : List Str) (sc0 sc : Scope) (N' : List Str) (ix : List (Option Nat)) : Bool :=
  sc.kind == .function && ix.length == N'.length && (sc.names.filter fun p => p.2 == .cell) == [(z, .cell)] && sc.names.lookup z == some .cell &&
  sc.names.all (fun p => (p.2 != .free || (sc0.names.lookup p.1 == some .cell || sc0.names.lookup p.1 == some .free)) && (p.2 != .local || sc.names.lookup p.1 == some .local)) &&
  (List.range N'.length).all fun j => match ix[j]?, N'[j]? with
    | some (some i), some x => N[i]? == some x && sc.names.lookup x == some .free
    | _, _ => true
theorem ixOkZ_spec {z : Str} {N : List Str} {sc0 sc : Scope} {N' : List Str} {ix : List (Option Nat)} (h : ixOkZ z N sc0 sc N' ix = true) :
    sc.kind = .function ∧ ix.length = N'.length ∧ ((sc.names.filter fun p => p.2 == .cell) = [(z, .cell)] ∧ sc.names.lookup z = some .cell) ∧ (∀ p ∈ sc.names, p.2 = .free → sc0.names.lookup p.1 = some .cell ∨ sc0.names.lookup p.1 = some .free) ∧
      (∀ p ∈ sc.names, p.2 = .local → sc.names.lookup p.1 = some .local) ∧ ∀ (j i : Nat) (x : Str), ix[j]? = some (some i) → N'[j]? = some x → N[i]? = some x ∧ sc.names.lookup x = some .free := by
  unfold ixOkZ at h
  simp only [Bool.and_eq_true, List.all_eq_true, beq_iff_eq, bne_iff_ne, Bool.or_eq_true, ne_eq] at h
  obtain ⟨⟨⟨⟨⟨h1, h2⟩, h5⟩, h6⟩, h3⟩, h4⟩ := h
  refine ⟨h1, h2, ⟨h5, h6⟩, fun p hp hf => ?_, fun p hp hl => ?_, fun j i x e1 e2 => ?_⟩
  · rcases (h3 p hp).1 with z | z
    · exact absurd hf z
    · exact z
  · rcases (h3 p hp).2 with z | z
    · exact absurd hl z
    · exact z
  · have hj : j < N'.length := (List.getElem?_eq_some_iff.mp e2).1
    have := h4 j (List.mem_range.mpr hj)
    rw [e1, e2] at this
    simpa using this
theorem cells_none : ∀ (ns : List (Str × NameKind)) (n : Nat) (acc : List (Str × Addr)) (h : Heap), (ns.filter fun p => p.2 == .cell) = [] → cellsFrom n ns acc = acc ∧ pushCells h ns = h
  | [], _, _, _, _ => ⟨rfl, rfl⟩
  | (x, k) :: r, n, acc, h, e => by
    rw [List.filter_cons] at e
    unfold cellsFrom pushCells
    split at e
    · cases e
    · rename_i q
      have q' : ¬ (k == NameKind.cell) = true := q
      rw [if_neg q', if_neg q']
      exact cells_none r n acc h e
theorem cells_one {z : Str} : ∀ (ns : List (Str × NameKind)) (n : Nat) (acc : List (Str × Addr)) (h : Heap), (ns.filter fun p => p.2 == .cell) = [(z, .cell)] → cellsFrom n ns acc = (z, n) :: acc ∧ pushCells h ns = h.push { cls := .type "cell", data := .cell none }
  | [], _, _, _, e => by cases e
  | (x, k) :: r, n, acc, h, e => by
    rw [List.filter_cons] at e
    unfold cellsFrom pushCells
    split at e
    · rename_i q
      have q' : (k == NameKind.cell) = true := q
      rw [if_pos q', if_pos q']
      injection e with e1 e2
      cases e1
      exact cells_none r _ _ _ e2
    · rename_i q
      have q' : ¬ (k == NameKind.cell) = true := q
      rw [if_neg q', if_neg q']
      exact cells_one r n acc h e
theorem newEnvZ {M : Model} {A : Around} {E : Value → Shared → Prop} {s : Shared} {z : Str} {scope : Scope} {globals : Addr} {closure : List (Str × Addr)} {qual : Str} {env : Env} {Q : Env → Shared → Prop}
    (hz : (scope.names.filter fun p => p.2 == .cell) = [(z, .cell)])
    (hQ : ∀ h' : Heap, h'.Ns s.heap.objs.size (fun _ => none) → h'.IsCell (s.heap.objs.size + 1) none → (∀ b o, s.heap.get? b = some o → h'.get? b = some o) →
      Q (newEnv scope s.heap.objs.size globals ((z, s.heap.objs.size + 1) :: closure) qual none .none (some env) builtinsNs) { s with heap := h' }) :
    wpAny M A (newFunctionEnv scope globals closure [] qual none .none (some env)) Q E s := by
  simp only [newFunctionEnv, Option.isSome_some, if_true]
  refine wpAny_bind (wpAny_alloc ?_)
  refine wpAny_bind (wpAny_layCells _ (fun name kind cells => by cases hkc : kind == NameKind.cell <;> simp [hkc]) _ _ _ _ ?_)
  have e := cells_one scope.names (s.heap.push { cls := .type "dict", data := .dict #[] }).objs.size closure (s.heap.push { cls := .type "dict", data := .dict #[] }) hz
  rw [Heap.size_push] at e
  rw [show ({ s with heap := s.heap.push { cls := .type "dict", data := .dict #[] } } : Shared).heap.objs.size = s.heap.objs.size + 1 from Heap.size_push .., e.1, e.2]
  rw [List.forIn_nil]
  refine wpAny_bind (wpAny_pure (wpAny_pure (hQ _ ?_ ?_ ?_)))
  · exact (Heap.Ns.new s.heap (.type "dict")).keeps fun b o e => Heap.get?_push_of_some _ e
  · have := Heap.get?_push_size (o := { cls := .type "cell", data := .cell none }) (s.heap.push { cls := .type "dict", data := .dict #[] }) rfl
    rw [Heap.size_push] at this
    exact ⟨_, this, rfl⟩
  · exact fun b o e => Heap.get?_push_of_some _ (Heap.get?_push_of_some _ e)
def cxZ (z : Str) (X : Cx) (sc : Scope) (N' : List Str) (C : Addr) (cl : List (Str × Addr)) (s : Shared) (H : Hp) (fp : List Addr) : Cx := { cxC X sc N' C cl s H fp with fn := fun x => x == z }
section
variable {X : Cx} {z : Str} {tg elt iter : Expr} {ifs : List Expr} {sc : Scope} {N' : List Str} {ix : List (Option Nat)} {pins : List (Addr × Obj)} {σ : St} {H2 : Hp} {s2 : Shared} {fp : List Addr} {cl : List (Str × Addr)} {C n : Addr} {pos : Pos}
theorem cons_lk {x : Str} {c : Addr} (h : ((z, n) :: cl).lookup x = some c) : (x = z ∧ c = n) ∨ cl.lookup x = some c := by
  rw [List.lookup_cons] at h
  cases e : x == z with
  | true => rw [e] at h; cases h; exact .inl ⟨by simpa using e, rfl⟩
  | false => rw [e] at h; exact .inr h
theorem lk_cons {x : Str} {c : Addr} (h : cl.lookup x = some c) (hx : x ≠ z) : ((z, n) :: cl).lookup x = some c := by
  rw [List.lookup_cons, show (x == z) = false by simpa using hx]
  exact h
theorem lk_self : ((z, n) :: cl).lookup z = some n := by rw [List.lookup_cons, show (z == z) = true by simp]
theorem cell_lt (I : Inv X pins σ H2 s2) {x : Str} {c : Addr} (h : X.env.cells.lookup x = some c) : c < s2.heap.objs.size := by
  obtain ⟨v, o, ho, _⟩ := I.cell x c h
  exact Heap.lt_size ho
theorem cxZ_ok (I : Inv X pins σ H2 s2) (hix : ixOkZ z X.N X.env.scope sc N' ix = true) (e2 : ∀ x c, cl.lookup x = some c → X.env.cells.lookup x = some c) (e3 : ∀ x ∈ sc.names, x.2 = .free → ∃ c, cl.lookup x.1 = some c)
    (f2 : ∀ b ∈ fp, FpOk X pins H2 b) (fo : ∀ b ∈ fp, ∃ o, s2.heap.get? b = some o) (hC : s2.heap.objs.size ≤ C) (hn : s2.heap.objs.size ≤ n) : (cxZ z X sc N' C ((z, n) :: cl) s2 H2 fp).Ok := by
  obtain ⟨k1, _, ⟨k3, k4⟩, _, _, _⟩ := ixOkZ_spec hix
  refine ⟨I.ok.mod, k1, I.ok.glob, I.ok.blt, hC, fun x y c a b => ?_, fun x hx => ?_, fun x c z' q => ?_, I.ok.hd, I.ok.frames, .inl rfl, fun b hb => ?_, I.bs, Nat.le_trans I.ok.bsz I.sz, fun b o e hb => ?_, fun b hb hf => ?_, I.stack, I.stkFree⟩
  · rcases cons_lk a with ⟨ax, ac⟩ | a' <;> rcases cons_lk b with ⟨bx, bc⟩ | b'
    · rw [ax, bx]
    · have := cell_lt I (e2 y c b')
      rw [ac] at this
      exact absurd this (Nat.not_lt.mpr hn)
    · have := cell_lt I (e2 x c a')
      rw [bc] at this
      exact absurd this (Nat.not_lt.mpr hn)
    · exact I.ok.inj x y c (e2 x c a') (e2 y c b')
  · have hx' : (compEnvC sc ((z, n) :: cl) C X.env).kindOf x = some .cell ∨ (compEnvC sc ((z, n) :: cl) C X.env).kindOf x = some .free := hx
    rw [kindOf_rel] at hx'
    cases q : sc.names.lookup x with
    | none => rw [q] at hx'; rcases hx' with z | z <;> cases z
    | some k =>
      have hm := lookup_mem' q
      by_cases hxz : x = z
      · subst hxz
        exact ⟨n, lk_self⟩
      · have hf : k = .free := by
          rw [q] at hx'
          cases k with
          | free => rfl
          | cell =>
            have : (x, NameKind.cell) ∈ sc.names.filter fun p => p.2 == .cell := List.mem_filter.mpr ⟨hm, rfl⟩
            rw [k3] at this
            cases List.mem_singleton.mp this
            exact absurd rfl hxz
          | _ => rcases hx' with z | z <;> (simp [relK] at z)
        obtain ⟨c, hc⟩ := e3 (x, k) hm hf
        exact ⟨c, lk_cons hc hxz⟩
  · have hz : x = z := by
      have z2 : (x == z) = true := z'
      simpa using z2
    subst hz
    have : ((x, n) :: cl).lookup x = some c := q
    rw [lk_self] at this
    cases this
    exact hn
  · obtain ⟨o, ho⟩ := fo b hb
    refine ⟨Nat.ne_of_lt (Nat.lt_of_lt_of_le (Heap.lt_size ho) hC), fun x c q => ?_⟩
    rcases cons_lk q with ⟨_, rfl⟩ | q'
    · exact (Nat.ne_of_lt (Nat.lt_of_lt_of_le (Heap.lt_size ho) hn)).symm
    · exact (f2 b hb).2.2.2.2.1 x c (e2 x c q')
  · have hb' : b ∈ fp := hb
    rcases (f2 b hb').2.2.2.1 with z | z
    · exact I.ok.noex b o e z
    · exact absurd (Nat.lt_of_lt_of_le (Heap.lt_size e) (Nat.le_trans I.ok.bsz z)) (Nat.lt_irrefl _)
  · have hb' : b ∈ fp := hb
    rcases List.mem_cons.mp (I.stkSub b hf) with z | z
    · exact (f2 b hb').2.1 z
    · exact (f2 b hb').2.2.1 z
end
section
variable {X : Cx} {z : Str} {tg elt iter : Expr} {ifs : List Expr} {sc sc0 : Scope} {N N' : List Str} {ix : List (Option Nat)} {pos : Pos} {wi : TI} {g : TG} {tf : TT} {te : TE}
set_option maxHeartbeats 4000000 in
theorem lc_coreZ {pins : List (Addr × Obj)} {σ : St} {H : Hp} {s : Shared} {Q : VK} {use : Option (Value → Sem Unit)} {Qf : Value → Shared → Prop} {cpos : Pos} (hc : X.calm = true) (hix : ixOkZ z X.N X.env.scope sc N' ix = true) (hi : PI X tg iter wi)
    (hg : ∀ C cl s H fp, PG (cxZ z X sc N' C cl s H fp) tg g) (hf : ∀ C cl s H fp, PF (cxZ z X sc N' C cl s H fp) ifs tf) (he : ∀ C cl s H fp, PE (cxZ z X sc N' C cl s H fp) elt te)
    (hs : ∀ x, foldedSetIterable iter X.env x = pure x) (I : Inv X pins σ H s) (h : tLC wi g tf te ix σ H Q)
    (hend : ∀ (C D : Addr) (H' : Hp) (s' : Shared), LcEnd X pins σ H' s' C → Q (.ref D) H' → compPost (model X.prog X.w) X.A X.xe use Qf (.ref D) C (.ok .next) s') :
    wpAny (model X.prog X.w) X.A (comprehension (.ListComp elt [⟨tg, iter, ifs, 0⟩] sc pos) sc X.env cpos (newList []) false (eval iter X.env) use) Qf X.xe s := by
  obtain ⟨hk, hlen, ⟨hcz, hzl⟩, hfreeX, hnames, hat⟩ := ixOkZ_spec hix
  obtain ⟨cl, e1, e2, e3⟩ := closure_ex (env := X.env) (sc := sc) (fun x hx hf => I.ok.has x.1 (hfreeX x hx hf))
  refine wpAny_comprehension_free (use := use) (cl := cl) rfl hs e1 hk hnames (thn (hi pins s σ H _ I h) fun v s1 h1 => thn h1 fun itv s2 h2 => ?_)
  obtain ⟨it, fp, tn, J, H2, e, I2, T, st2, f2, W, ⟨m0, w0⟩, turn⟩ := h2
  subst e
  refine wpAny_newObj_type (newEnvZ hcz fun h₁ hns₁ hcl₁ kp₁ => ?_)
  dsimp only at hns₁ hcl₁ kp₁ ⊢
  generalize hH2 : s2.heap.push { cls := .type "list", dict := none, data := .seq ([] : List Value).toArray } = G2 at hns₁ hcl₁ kp₁ ⊢
  have hCs : G2.objs.size = s2.heap.objs.size + 1 := by rw [← hH2, Heap.size_push]
  have hDC : s2.heap.objs.size ≠ G2.objs.size := by rw [hCs]; exact Nat.ne_of_lt (Nat.lt_succ_self _)
  have hCle : s2.heap.objs.size ≤ G2.objs.size := by rw [hCs]; exact Nat.le_succ _
  have belowC : ∀ b, b < s2.heap.objs.size → b ≠ G2.objs.size := fun b hb => by rw [hCs]; exact Nat.ne_of_lt (Nat.lt_succ_of_lt hb)
  have belowD : ∀ b, b < s2.heap.objs.size → b ≠ s2.heap.objs.size := fun b hb => Nat.ne_of_lt hb
  have old : ∀ b o, s2.heap.get? b = some o → h₁.get? b = some o := fun b o e => kp₁ b o (hH2 ▸ Heap.get?_push_of_some _ e)
  have hacc : h₁.get? s2.heap.objs.size = some { cls := .type "list", data := .seq ([] : List Value).toArray } := kp₁ _ _ (hH2 ▸ Heap.get?_push_size _ rfl)
  have hnle : s2.heap.objs.size ≤ G2.objs.size + 1 := Nat.le_trans hCle (Nat.le_succ _)
  have hnD : G2.objs.size + 1 ≠ s2.heap.objs.size := by rw [hCs]; exact (Nat.ne_of_lt (Nat.lt_succ_of_lt (Nat.lt_succ_self _))).symm
  have fo : ∀ b ∈ fp, ∃ o, s2.heap.get? b = some o := fun b hb => let ⟨o, ho, _⟩ := T.obj _ _ st2 b hb; ⟨o, ho⟩
  have fD : ∀ b ∈ fp, b ≠ s2.heap.objs.size := fun b hb => let ⟨o, ho⟩ := fo b hb; belowD b (Heap.lt_size ho)
  have ok' : (cxZ z X sc N' G2.objs.size ((z, G2.objs.size + 1) :: cl) s2 H2 fp).Ok := cxZ_ok I2 hix e2 e3 f2 fo hCle hnle
  have HD : H2 s2.heap.objs.size = none := I2.hok.fresh (Nat.le_refl _)
  have HC : H2 G2.objs.size = none := I2.hok.fresh hCle
  have I4 : Inv (cxZ z X sc N' G2.objs.size ((z, G2.objs.size + 1) :: cl) s2 H2 fp) [] (st0 ix σ) H2 { s2 with heap := h₁ } := by
    refine ⟨ok', rfl, I2.bare, Un.kept old, ⟨_, hns₁, fun j x v a b c => ?_⟩, fun x c q => ?_, HC, fun x c q => (cons_lk q).elim (fun e => e.2 ▸ I2.hok.fresh hnle) (fun q => I2.freeC x c (e2 x c q)), fun p hp => (by cases hp), I2.hok.kept old, ?_⟩
    · -- a name of the block that stands for one around
      have a' : N'[j]? = some x := a
      have b' : (ix.map fun o => match o with | some i => (σ[i]?).getD none | none => none)[j]? = some (some v) := b
      rw [List.getElem?_map] at b'
      cases q : ix[j]? with
      | none => rw [q] at b'; cases b'
      | some o =>
        rw [q] at b'
        cases o with
        | none => cases b'
        | some i =>
          obtain ⟨n1, n2⟩ := hat j i x q a'
          have b'' : (σ[i]?).getD none = some v := Option.some.inj b'
          have sv : σ[i]? = some (some v) := by
            cases zz : σ[i]? with
            | none => rw [zz] at b''; cases b''
            | some y => rw [zz] at b''; exact congrArg some b''
          obtain ⟨m, hn, hl⟩ := I2.loc
          have kx := hfreeX (x, .free) (lookup_mem' n2) rfl
          obtain ⟨u, r, lk⟩ := hl i x v n1 sv (.inr kx)
          refine ⟨u, r, .inr ⟨?_, ?_⟩⟩
          · show (compEnvC sc ((z, G2.objs.size + 1) :: cl) G2.objs.size X.env).kindOf x = some .cell ∨ (compEnvC sc ((z, G2.objs.size + 1) :: cl) G2.objs.size X.env).kindOf x = some .free
            rw [kindOf_rel, n2]
            show some (relK X.env x .free) = some .cell ∨ some (relK X.env x .free) = some .free
            unfold relK
            split
            · exact .inl rfl
            · exact .inr rfl
          · obtain ⟨c1, hc1⟩ := e3 (x, .free) (lookup_mem' n2) rfl
            refine ⟨c1, lk_cons hc1 (fun y => by rw [y, hzl] at n2; cases n2), ?_⟩
            have hc2 := e2 x c1 hc1
            rcases lk with ⟨z, _⟩ | ⟨_, c, hcc, hcl⟩
            · have z' : X.env.scope.names.lookup x = some .local := z
              rcases kx with y | y <;> (rw [y] at z'; cases z')
            · rw [hc2] at hcc; cases hcc
              obtain ⟨o, ho, hd⟩ := hcl
              exact ⟨o, old c1 o ho, hd⟩
    · rcases cons_lk q with ⟨_, rfl⟩ | q
      · exact ⟨none, hcl₁⟩
      · obtain ⟨v, o, ho, hd⟩ := I2.cell x c (e2 x c q)
        exact ⟨v, o, old c o ho, hd⟩
    · show (ix.map _).length = N'.length
      rw [List.length_map, hlen]
  have cellD : ∀ x c, ((z, G2.objs.size + 1) :: cl).lookup x = some c → c ≠ s2.heap.objs.size := fun x c q y => by
    rcases cons_lk q with ⟨_, rfl⟩ | q
    · exact hnD y
    · obtain ⟨v, o, ho, hd⟩ := I2.cell x c (e2 x c q)
      exact belowD c (Heap.lt_size ho) y
  have loop : ∀ s₃ : Shared, s₃ = { s2 with heap := h₁ } →
      codeAny (model X.prog X.w) X.A (.compLoop (.ListComp elt [⟨tg, iter, ifs, 0⟩] sc pos) 0 (.ref it) (.ref s2.heap.objs.size) (compEnvC sc ((z, G2.objs.size + 1) :: cl) G2.objs.size X.env))
        (compPost (model X.prog X.w) X.A X.xe use Qf (.ref s2.heap.objs.size) G2.objs.size) s₃ := by
    rintro s₃ rfl
    refine codeAny_loop rfl (fun n s' => ∃ i ys H' its k, Inv (cxZ z X sc N' G2.objs.size ((z, G2.objs.size + 1) :: cl) s2 H2 fp) [] (st0 ix σ) H' s' ∧ tn i s'.heap ∧ (∀ b ∈ fp, H' b = none) ∧ H' s2.heap.objs.size = none ∧
      Vals ys its ∧ s'.heap.get? s2.heap.objs.size = some { cls := .type "list", data := .seq its.toArray k } ∧ W i n ys H') ?_ m0
      ⟨0, [], H2, [], _, I4, T.keep _ _ _ st2 (fun b _ o e => old b o e), fun b hb => (f2 b hb).1, HD, .nil, hacc, w0⟩
    rintro n s5 ⟨i, ys, H5, its, k, I5, st5, fr5, hD5, vv, oD, w5⟩
    show wpAny _ X.A ((compTurn (.ListComp elt [⟨tg, iter, ifs, 0⟩] sc pos) 0 (.ref it) (.ref s2.heap.objs.size) (compEnvC sc ((z, G2.objs.size + 1) :: cl) G2.objs.size X.env)).onRaise (fun x => do noteFrame x (compEnvC sc ((z, G2.objs.size + 1) :: cl) G2.objs.size X.env); theTreesLotGoes x)) _ _ s5
    refine wpAny_noted ?_
    rw [compTurn_list]
    have I5p : Inv (cxZ z X sc N' G2.objs.size ((z, G2.objs.size + 1) :: cl) s2 H2 fp) [(s2.heap.objs.size, { cls := .type "list", data := .seq its.toArray k })] (st0 ix σ) H5 s5 := I5.pins_of fun p hp => by
      have hp' : p = (s2.heap.objs.size, { cls := .type "list", data := .seq its.toArray k }) := by simpa using hp
      subst hp'
      refine ⟨oD, hD5, hDC, fun hb => ?_, fun v z => (by cases z)⟩
      obtain ⟨_, o, ho, _⟩ := I2.stack.mem (show s2.heap.objs.size ∈ frs X.stack from hb)
      exact Nat.lt_irrefl _ (Heap.lt_size ho)
    have fpk : ∀ {H' : Hp}, (∀ b ∈ fp, H' b = none) → ∀ b ∈ fp, FpOk (cxZ z X sc N' G2.objs.size ((z, G2.objs.size + 1) :: cl) s2 H2 fp) [(s2.heap.objs.size, ({ cls := .type "list", data := .seq its.toArray k } : Obj))] H' b := fun {H'} hn b hb => by
      refine ⟨hn b hb, (ok'.exf b hb).1, ok'.exfs b hb, .inl hb, (ok'.exf b hb).2, fun p hp => ?_⟩
      have hp' : p = (s2.heap.objs.size, ({ cls := .type "list", data := .seq its.toArray k } : Obj)) := by
        have z : p ∈ ([] : List (Addr × Obj)) ++ [(s2.heap.objs.size, ({ cls := .type "list", data := .seq its.toArray k } : Obj))] := hp
        simpa using z
      subst hp'
      exact (fD b hb).symm
    rcases turn i n ys H5 w5 with ⟨stop, hz, qn⟩ | ⟨go, hz, step⟩
    · refine wpAny_bind (wpAny_standAt (wpAny_bind (wpAny_mono (T.done (cxZ z X sc N' G2.objs.size ((z, G2.objs.size + 1) :: cl) s2 H2 fp) rfl rfl rfl hc i _ s5 (st0 ix σ) H5 (fun _ _ => False) I5p (fpk fr5) st5 stop) (fun r s6 ⟨hr, I6⟩ => ?_) fun _ _ f => f.elim)))
      subst hr
      refine wpAny_pure ?_
      obtain ⟨m, hn, _⟩ := I6.loc
      have oD6 : s6.heap.get? s2.heap.objs.size = some { cls := .type "list", data := .seq its.toArray k } := (I6.pin (s2.heap.objs.size, { cls := .type "list", data := .seq its.toArray k }) (by show _ ∈ ([] : List (Addr × Obj)) ++ _; simp)).1
      have u6 : Un (frs X.stack) fp H2 H5 s2.heap s6.heap := I6.base
      have HC5 : H5 G2.objs.size = none := I6.free
      refine hend _ _ (upd H5 s2.heap.objs.size (.lst ys)) s6 ⟨?_, ⟨m, hn⟩, by rw [upd_ne hDC.symm]; exact HC5, (belowC _ I2.lt).symm, fun x c q => ?_, Nat.le_trans I2.sz hCle, fun p hp => ?_⟩ (qn _ hD5)
      · refine I2.call' (s' := s6) (ch := fp) I6.os ?_ ?_ I6.bare fun b hb => ⟨(f2 b hb).2.2.2.1, (f2 b hb).2.1, (f2 b hb).2.2.2.2.1, (f2 b hb).2.2.2.2.2⟩
        · refine ⟨fun b o e n nf nx => u6.keep b o e n nf nx, fun b o e n nf nx => u6.slot b o e n nf nx, fun b o e n nx => ?_, fun b o e nx => u6.there b o e nx, fun b xs e => ?_, fun b o u e => ?_, fun b ps e => ?_⟩
          · rw [upd_ne (belowD b (Heap.lt_size e))]; exact u6.free b o e n nx
          · rw [upd_ne (ne_of_none e HD)]; exact u6.tups b xs e
          · rw [upd_ne (ne_of_none e HD)]; exact u6.frzs b o u e
          · rw [upd_ne (ne_of_none e HD)]; exact u6.tbls b ps e
        · intro b o e
          by_cases hb : b = s2.heap.objs.size
          · subst hb
            rw [upd_same] at e; cases e
            exact ⟨hz, its, k, vv, oD6⟩
          · rw [upd_ne hb] at e
            refine (I6.hok b o e).stay (fun c v hcc q => q) (fun c q => ?_) fun c xs q => ?_
            · rw [upd_ne (ne_of_none q hD5)]; exact q
            · rw [upd_ne (ne_of_none q hD5)]; exact q
      · obtain ⟨v, o, ho, hd⟩ := I2.cell x c q
        exact belowC c (Heap.lt_size ho)
      · exact belowC p.1 (Heap.lt_size (I2.pin p hp).1)
    · refine wpAny_bind (wpAny_standAt (wpAny_bind (wpAny_mono (T.item (cxZ z X sc N' G2.objs.size ((z, G2.objs.size + 1) :: cl) s2 H2 fp) rfl rfl rfl hc i _ s5 (st0 ix σ) H5 (fun _ _ => False) I5p (fpk fr5) st5 go) (fun r s6 ⟨u, hr, h6⟩ => ?_) fun _ _ f => f.elim)))
      subst hr
      refine wpAny_bind (wpAny_mono h6 (fun _ s7 ⟨x, H7, I7, r7, y7, st7, fr7⟩ => ?_) fun _ _ f => f.elim)
      have I7' := I7.pinned (fpk fr7) (T.obj _ _ st7)
      refine wpAny_bind (wpAny_mono (hg _ _ _ _ _ _ s7 (st0 ix σ) H7 x u _ I7' r7 (step x H7 y7)) (fun _ s8 ⟨σ8, H8, I8, x8, q8⟩ => ?_) fun _ _ f => f.elim)
      obtain ⟨xl, xv⟩ := x8.spec
      have keepT : ∀ {σ9 : St} {H9 : Hp} {s9 : Shared} {pl : List (Addr × Obj)}, (∀ p ∈ pinsAt fp s7.heap, p ∈ pl) → Inv (cxZ z X sc N' G2.objs.size ((z, G2.objs.size + 1) :: cl) s2 H2 fp) pl σ9 H9 s9 → tn (i + 1) s9.heap ∧ ∀ b ∈ fp, H9 b = none := fun {σ9 H9 s9 pl} hp I9 => by
        have pn : ∀ b o, b ∈ fp → s7.heap.get? b = some o → s9.heap.get? b = some o ∧ H9 b = none := fun b o hb e => by
          have := I9.pin (b, o) (List.mem_append_right _ (hp _ (mem_pinsAt hb e)))
          exact ⟨this.1, this.2.1⟩
        refine ⟨T.keep _ _ _ st7 fun b hb o e => (pn b o hb e).1, fun b hb => ?_⟩
        obtain ⟨o, e, _⟩ := T.obj _ _ st7 b hb
        exact (pn b o hb e).2
      refine wpAny_bind (wpAny_mono (hf _ _ _ _ _ _ s8 σ8 H8 _ I8 q8) (fun ok s9 ⟨H9, I9, q9⟩ => ?_) fun _ _ f => f.elim)
      have pD : ∀ {σ9 : St} {H9 : Hp} {s9 : Shared}, Inv (cxZ z X sc N' G2.objs.size ((z, G2.objs.size + 1) :: cl) s2 H2 fp) ([(s2.heap.objs.size, ({ cls := .type "list", data := .seq its.toArray k } : Obj))] ++ pinsAt fp s7.heap) σ9 H9 s9 →
          s9.heap.get? s2.heap.objs.size = some { cls := .type "list", data := .seq its.toArray k } ∧ H9 s2.heap.objs.size = none := fun {σ9 H9 s9} I9 => by
        have := I9.pin (s2.heap.objs.size, { cls := .type "list", data := .seq its.toArray k }) (List.mem_append_right _ (List.mem_append_left _ (by simp)))
        exact ⟨this.1, this.2.1⟩
      cases ok with
      | false =>
        obtain ⟨m', hm, w9⟩ := (show ∃ m', m' < n ∧ W (i + 1) m' ys H9 from by simpa using q9)
        obtain ⟨t9, fr9⟩ := keepT (fun p hp => List.mem_append_right _ hp) I9
        obtain ⟨oD9, hD9⟩ := pD I9
        refine wpAny_pure ⟨rfl, m', hm, i + 1, ys, H9, its, k, (I9.pins_of (pins' := []) fun p hp => nomatch hp).weak xl xv, t9, fr9, hD9, vv, oD9, w9⟩
      | true =>
        have q9' : te σ8 H9 fun y H4 => ∃ m', m' < n ∧ W (i + 1) m' (ys ++ [y]) H4 := by simpa using q9
        refine wpAny_bind (wpAny_bind (wpAny_mono (he _ _ _ _ _ _ s9 σ8 H9 _ I9 q9') (fun yv sA ⟨y, HA, IA, rA, m', hm, wA⟩ => ?_) fun _ _ f => f.elim))
        obtain ⟨oDA, hDA⟩ := pD IA
        have hsz : its.toArray.size ≤ sizeLine := by rw [List.size_toArray, ← vv.length]; exact hz
        refine wpAny_bind (wpAny_list_append_plain (hsz := hsz) ⟨_, oDA⟩ fun h9 pl9 sb9 => ?_)
        have IB : Inv (cxZ z X sc N' G2.objs.size ((z, G2.objs.size + 1) :: cl) s2 H2 fp) (pinsAt fp s7.heap) σ8 HA sA := IA.pins_of fun p hp => IA.pin p (List.mem_append_right _ (List.mem_append_right _ hp))
        have IC : Inv (cxZ z X sc N' G2.objs.size ((z, G2.objs.size + 1) :: cl) s2 H2 fp) (pinsAt fp s7.heap) σ8 HA { sA with heap := h9 } := IB.turned (it := s2.heap.objs.size) (t' := sA.toks) (fun b o hb e => (sb9.2 b hb).trans e) hDA hDC (.inr (Nat.le_refl _)) (fun x c q => cellD x c q) fun p hp => by
          have hp' : p ∈ pinsAt fp s7.heap := by
            have z : p ∈ ([] : List (Addr × Obj)) ++ pinsAt fp s7.heap := hp
            simpa using z
          exact fD p.1 (of_pinsAt hp').1
        obtain ⟨t9, fr9⟩ := keepT (fun p hp => hp) IC
        obtain ⟨k', oD'⟩ := pl9
        refine wpAny_pure (wpAny_pure ⟨rfl, m', hm, i + 1, ys ++ [y], HA, its ++ [yv], k', (IC.pins_of (pins' := []) fun p hp => nomatch hp).weak xl xv, t9, fr9, hDA, vv.append (.cons rA .nil), ?_, wA⟩)
        show h9.get? s2.heap.objs.size = _
        rw [oD']
        simp
  exact codeAny_compStart_list (loop _ rfl) (T.self X.A 0 _ _ _ (T.keep _ _ _ st2 (fun b _ o e => old b o e)) (loop _ rfl))
theorem pe_lcZ (hc : X.calm = true) (hix : ixOkZ z N sc0 sc N' ix = true) (hi : PI X tg iter wi)
    (hg : ∀ C cl s H fp, PG (cxZ z X sc N' C cl s H fp) tg g) (hf : ∀ C cl s H fp, PF (cxZ z X sc N' C cl s H fp) ifs tf) (he : ∀ C cl s H fp, PE (cxZ z X sc N' C cl s H fp) elt te)
    (eN : X.N = N := by rfl) (eS : X.env.scope = sc0 := by rfl) (hs : ∀ x, foldedSetIterable iter X.env x = pure x := by intro _; rfl) :
    PE X (.ListComp elt [⟨tg, iter, ifs, 0⟩] sc pos) (tLC wi g tf te ix) := by
  refine ⟨?_⟩
  intro pins s σ H Q I h
  subst eN eS
  rw [eval_ListComp]
  refine lc_coreZ (use := none) hc hix hi hg hf he hs I h fun C D H' s' L q => ?_
  obtain ⟨m, hn⟩ := L.ns
  exact ⟨m, hn, fun h' sb => ⟨.ref D, H', L.gone sb, rfl, q⟩⟩
end
end L2
namespace L2
open PySem PySem.Spec PyProof.Rows
section
variable {X : Cx}
def iEnumE (K : PySem.W.Frag) (ta : TA) : TI := fun σ H R => iEnum K ta σ H R ∨ iEnumT K ta σ H R
theorem pi_enumE {elts : List Expr} {kt : Nat} {tp : Pos} {a : Expr} {ta : TA} {p pos : Pos} (hg : Gl X "enumerate") (hm : X.mg "enumerate" = none) (ha : PA X [a] ta) (hs : starEach [a] X.env = [(false, eval a X.env)] := by rfl) : PI X (.Tuple elts kt tp) (.Call (.Name "enumerate" p) [a] [] pos) (iEnumE X.K ta) :=
  ⟨fun pins s σ H R I h => h.elim ((pi_enum hg hm ha hs).run pins s σ H R I) ((pi_enumT hg hm ha hs).run pins s σ H R I)⟩
end
theorem enumE {K : PySem.W.Frag} {l : Addr} {xs : List V} {g : TG} {tb : TS} {D : Ends} {σ : St} {H : Hp} {ta : TA} (hta : ∀ Q : List V → Hp → Prop, Q [.ref l] H → ta σ H Q) (Pv : Nat → St → Hp → Prop) (h0 : Pv 0 σ H) (hl : (∀ i σ H, i ≤ xs.length → Pv i σ H → SqL K H l xs) ∨ (∀ i σ H, i ≤ xs.length → Pv i σ H → SqT K H l xs))
    (hs : ∀ i x σ H T, xs[i]? = some x → H T = none → Pv i σ H → g (.ref T) σ (upd H T (.tup [.int i, x])) fun σ2 H2 => tb { D with nx := Pv (i + 1), ct := Pv (i + 1), bk := D.nx } σ2 H2) (hd : ∀ σ H, Pv xs.length σ H → D.nx σ H) :
    iEnumE K ta σ H fun it H => ∃ W : Nat → Nat → St → Hp → Prop, (∃ m, W 0 m σ H) ∧ ∀ i m σ H, W i m σ H →
      (it.stop i H ∧ D.nx σ H) ∨ (it.go i H ∧ ∃ N : St → Hp → Prop, (∀ σ' H', N σ' H' → ∃ m', m' < m ∧ W (i + 1) m' σ' H') ∧ ∀ x H', it.yld i H x H' → g x σ H' fun σ2 H2 => tb { D with nx := N, ct := N, bk := D.nx } σ2 H2) := by
  rcases hl with hl | hl
  · exact .inl (hta _ ⟨l, rfl, ⟨xs, hl 0 σ H (Nat.zero_le _) h0⟩, for_enum Pv h0 hl hs hd⟩)
  · exact .inr (hta _ ⟨l, rfl, ⟨xs, hl 0 σ H (Nat.zero_le _) h0⟩, for_enumT Pv h0 hl hs hd⟩)
theorem ix_listK {X : Cx} {K : PySem.W.Frag} (h : X.K = K) : IxR X (rIxL K) := by
  subst h
  exact ix_list
end L2
namespace L3
open PySem L2
theorem ix_eK {X : Cx} {K : PySem.W.Frag} (h : X.K = K) : IxR X (fun x y H Q => rIxL K x y H Q ∨ rIxT K x y H Q) := IxR.or (ix_listK h) (ix_tupK h)
theorem grt_mxl {l : List Nat} {m : Int} (h : Grt (l.map fun (k : Nat) => (k : Int)) m) : m = (TK.mxl l : Nat) := by
  obtain ⟨h1, h2⟩ := h
  obtain ⟨k, hk, rfl⟩ := List.mem_map.mp h1
  have a := TK.le_mxl hk
  have b := h2 _ (List.mem_map.mpr ⟨_, TK.mxl_mem (List.ne_nil_of_mem hk), rfl⟩)
  lia
theorem natV_app (l : List Nat) (k : Nat) : natV l ++ [V.int (k : Int)] = natV (l ++ [k]) := by unfold natV; rw [List.map_append]; rfl
theorem natV_at {l : List Nat} {i k : Nat} (h : l[i]? = some k) : (natV l)[i]? = some (.int (k : Int)) := by unfold natV; rw [List.getElem?_map, h]; rfl
theorem natV_len (l : List Nat) : (natV l).length = l.length := by unfold natV; rw [List.length_map]
def Seq (H : Hp) (a : Addr) (zs : List V) : Prop := H a = some (.lst zs) ∨ H a = some (.tup zs)
theorem Seq.same {H H' : Hp} {a : Addr} {zs : List V} (s : Same H H') (h : Seq H a zs) : Seq H' a zs := h.imp (s _ _) (s _ _)
theorem Seq.ix {K : PySem.W.Frag} {H : Hp} {a : Addr} {zs : List V} {i : Nat} {z : V} {Q : VK} (h : Seq H a zs) (e : zs[i]? = some z) (q : Q z H) : rIxL K (.ref a) (.int (i : Int)) H Q ∨ rIxT K (.ref a) (.int (i : Int)) H Q :=
  h.imp (fun h => ⟨a, _, _, _, rfl, rfl, SqL.of h, atI_nat e, q⟩) (fun h => ⟨a, _, _, _, rfl, rfl, SqT.of h, atI_nat e, q⟩)
def mtF (ms : List Md) (i j : Nat) : Bool := match ms[i]?, ms[j]? with
  | some m, some n => meetB m n
  | _, _ => false
def numsM (ms : List Md) (n : Nat) : List Nat := TK.nums (mtF ms) n
def spBeats (C : Nat → Addr) : Sp := fun vs H Q _ => ∃ (a : Addr) (zs : List V) (ms : List Md), vs = [.ref a] ∧ Seq H a zs ∧ Paired (StepV C H) zs ms ∧ zs.length ≤ 200 ∧ ∀ l H', Same H H' → H l = none → H' l = some (.lst (natV (numsM ms ms.length))) → Q (.ref l) H'
inductive JB (H : Hp) (a l : Addr) (ms : List Md) (i : Nat) (σ : St) (H' : Hp) : Prop
  | mk (v2 v3 v4 : Option V) : σ = [some (.ref a), some (.ref l), v2, v3, v4] → Same H H' → H' l = some (.lst (natV (numsM ms i))) → JB H a l ms i σ H'
section
variable {P : Program} {w : World} {K : PySem.W.Frag} {mg : Str → Option Value} {base : Heap} {C fi : Nat → Addr}
theorem scBeats : FnScope ["steps", "told", "at", "step", "ahead"] ["steps"] (defScope sBeats) := ⟨rfl, rfl, rfl, by decide +kernel, rfl, by decide +kernel, by decide +kernel⟩
theorem ndOther : (["other", "told", "steps", "step"] : List Str).Nodup := by decide +kernel
set_option maxHeartbeats 4000000 in
theorem ok_beats {f : Addr} {fd : FuncData} (F : Fun K "beats_told" "beats_told" sBeats f fd) (B : Bl mg) (B2 : Bl2 mg) (ME : Fn P w K mg base "meets" 5 ["one", "other"] (spMeets C)) : FnOk P w K mg base CX0 6 f fd ["steps"] (spBeats C) := by
  refine F.ok scBeats (fun vs H Q E h => ?_) (fun cdv A outer s H vs Q E hr h => ?_)
  · obtain ⟨a, zs, ms, rfl, _⟩ := h
    rfl
  · obtain ⟨a, zs, ms, rfl, hS, hP, hz, q⟩ := h
    have sz : (1000 : Nat) ≤ sizeLine := by decide
    have hml : zs.length = ms.length := hP.length
    refine ⟨_, pss_cons (ps_set (i := 1) scBeats.nd rfl (Or.inr rfl) (pe_lst pa_nil))
      (pss_cons (ps_for PassesOwn.never rfl (pi_enumE rfl B2.enumerate (pa_cons (pv 0) pa_nil)) (pg_tup rfl (pgs_cons (pg_name (i := 2) scBeats.nd rfl (Or.inl rfl)) (pgs_cons (pg_name (i := 3) scBeats.nd rfl (Or.inr rfl)) pgs_nil)))
        (pss_cons (ps_setLC (i := 4) scBeats.nd rfl rfl (N' := ["other", "told", "steps", "step"]) (ix := [none, some 1, some 0, some 3]) (sc0 := defScope sBeats) (N := ["steps", "told", "at", "step", "ahead"]) rfl (by decide +kernel) (pi_range1 rfl B.range (pa_cons (pv 2) pa_nil))
            (fun C' cl s H fp => pg_name (i := 0) ndOther rfl (Or.inl rfl) (.inr rfl))
            (fun _ _ _ _ _ => pf_one (pt_val (pe_fn ME (hr.mono (by decide)) rfl (pa_cons (pe_ix (ix_eK (K := K) rfl) (pv 2) (pv 0) (fun _ _ => rfl)) (pa_cons (pv 3) pa_nil)))))
            (fun C' cl s H fp => pe_op op_add (pe_ix (ix_listK (K := K) rfl) (pv 1) (pv 0) (fun _ _ => rfl)) pe_int))
        (pss_one (ps_expr (pe_bm PySem.F.plainAttrs_list PySem.F.slot_list_append PySem.F.type_list_append mt_append (pv 1) (pa_cons (pe_callBK (callK_max rfl) (by rfl) B.max boot_max' (pa_cons (pv 4) pa_nil) (pk_cons pe_int pk_nil)) pa_nil))))))
      (pss_one (ps_ret (pv 1)))), ?_⟩
    refine ⟨(by show 0 ≤ sizeLine; decide), fun l nl => ?_⟩
    have s0 := same_new (o := .lst []) nl
    have e0 : (upd H l (.lst [])) l = some (.lst []) := upd_same
    generalize upd H l (.lst []) = H0 at *
    have nla : l ≠ a := by
      rintro rfl
      rcases hS with h | h <;> rw [h] at nl <;> cases nl
    refine enumE (K := K) (l := a) (xs := zs) (fun Q' h => ⟨_, rfl, h⟩) (fun i σ H' => JB H a l ms i σ H') ⟨none, none, none, rfl, s0, e0⟩ (hS.elim (fun h => .inl fun _ _ H' _ ⟨_, _, _, _, s', _⟩ => SqL.of (s' _ _ h)) (fun h => .inr fun _ _ H' _ ⟨_, _, _, _, s', _⟩ => SqT.of (s' _ _ h))) ?_ ?_
    · rintro i x σ H1 T1 hx nT ⟨v2, v3, v4, rfl, s1, e1⟩
      obtain ⟨n, hn, hxn⟩ := paired_at hP hx
      have hi : i < zs.length := (List.getElem?_eq_some_iff.mp hx).1
      have s2 := same_new (o := .tup [.int (i : Int), x]) nT
      have nlT : l ≠ T1 := ne_of_none e1 nT
      refine ⟨T1, _, rfl, SqT.of upd_same, rfl, _, _, rfl, _, _, rfl, rfl, ?_⟩
      generalize upd H1 T1 (.tup [.int (i : Int), x]) = H2 at *
      have e2 := s2 _ _ e1
      have s02 := s1.trans s2
      refine ⟨_, rfl, (i : Int), rfl, by lia, by lia, ?_⟩
      refine lc_range (lo := 0) (fun j ys H' => Same H2 H' ∧ ys = natV (((List.range j).filter fun o => mtF ms o i).map fun o => (numsM ms i).getD o 0 + 1)) ⟨Same.refl _, rfl⟩ (fun j ys H' hj ⟨_, a2⟩ => by
          have hj' : j ≤ i := by simpa using hj
          rw [a2, natV_len, List.length_map]
          have := List.length_filter_le (fun o => mtF ms o i) (List.range j)
          rw [List.length_range] at this
          lia) ?_ ?_
      · rintro j ys H3 hj ⟨s3, rfl⟩
        have hj' : j < i := by simpa using hj
        have hjz : j < zs.length := by lia
        obtain ⟨m, hm, hzm⟩ := paired_at hP (List.getElem?_eq_getElem hjz)
        have s03 := s02.trans s3
        refine ⟨⟨rfl, rfl, rfl, trivial⟩, ?_⟩
        rw [Int.zero_add]
        refine ⟨_, rfl, _, rfl, (hS.same s03).ix (List.getElem?_eq_getElem hjz) ?_⟩
        refine ⟨_, rfl, _, _, m, n, rfl, hzm.same s03, hxn.same s03, fun H4 s4 => ⟨_, rfl, ?_⟩⟩
        have ef : mtF ms j i = meetB m n := by unfold mtF; rw [hm, hn]
        refine ite2 (fun h => ?_) (fun h => ?_)
        · have ev : (numsM ms i)[j]? = some ((numsM ms i).getD j 0) := by
            have hl : j < (numsM ms i).length := by unfold numsM; rw [TK.nums_len]; exact hj'
            rw [List.getD_eq_getElem?_getD, List.getElem?_eq_getElem hl]
            rfl
          refine ⟨_, rfl, _, rfl, l, _, _, _, rfl, rfl, SqL.of ((s3.trans s4) _ _ e2), atI_nat (natV_at ev), _, _, rfl, rfl, ?_⟩
          refine Nx.mk (by simpa using hj') ⟨s3.trans s4, ?_⟩
          rw [TK.stp_succ, if_pos (ef.trans h), ← natV_app]
          rfl
        · refine Nx.mk (by simpa using hj') ⟨s3.trans s4, ?_⟩
          rw [TK.stp_succ, if_neg (fun z => h (ef.symm.trans z)), List.append_nil]
      · rintro ys H3 ⟨s3, e3⟩ la nla2
        rw [Int.toNat_natCast] at e3
        subst e3
        have s4 := same_new (o := .lst (natV (((List.range i).filter fun o => mtF ms o i).map fun o => (numsM ms i).getD o 0 + 1))) nla2
        have e4 : (upd H3 la (.lst (natV (((List.range i).filter fun o => mtF ms o i).map fun o => (numsM ms i).getD o 0 + 1)))) la = some (.lst (natV (((List.range i).filter fun o => mtF ms o i).map fun o => (numsM ms i).getD o 0 + 1))) := upd_same
        generalize upd H3 la (.lst (natV (((List.range i).filter fun o => mtF ms o i).map fun o => (numsM ms i).getD o 0 + 1))) = H4 at *
        have e5 := (s3.trans s4) _ _ e2
        have s05 := s02.trans (s3.trans s4)
        have fin : ∀ m : Nat, m = TK.mxl (TK.stp (mtF ms) i (numsM ms i)) → ∀ σ, (∃ v2 v3 v4 : Option V, σ = [some (.ref a), some (.ref l), v2, v3, v4]) → JB H a l ms (i + 1) σ (upd H4 l (.lst (natV (numsM ms i) ++ [.int (m : Int)]))) := by
          rintro m rfl σ ⟨v2, v3, v4, rfl⟩
          refine ⟨_, _, _, rfl, same_mut nl s05, ?_⟩
          rw [natV_app]
          exact upd_same
        have hlen : (natV (numsM ms i)).length + 1 ≤ sizeLine := by rw [natV_len]; unfold numsM; rw [TK.nums_len]; lia
        refine ⟨_, rfl, .inl ⟨rfl, _, SqL.of e5⟩, _, rfl, la, _, _, rfl, rfl, (by rw [natV_ints] at e4; exact SqL.of e4), fun m hm => ?_, fun h0 => ?_⟩
        · rw [grt_mxl hm]
          exact ⟨l, _, _, rfl, rfl, e5, hlen, fin _ rfl _ ⟨_, _, _, rfl⟩⟩
        · refine ⟨l, _, _, rfl, rfl, e5, hlen, fin 0 ?_ _ ⟨_, _, _, rfl⟩⟩
          have : TK.stp (mtF ms) i (numsM ms i) = [] := List.map_eq_nil_iff.mp h0
          rw [this]
          rfl
    · rintro σ H1 ⟨v2, v3, v4, rfl, s1, e1⟩
      refine ⟨_, rfl, ?_⟩
      rw [hml] at e1
      exact q l H1 s1 nl e1
end
end L3
namespace L3
open PySem L2
abbrev LsN (H : Hp) (a : Addr) (xs : List Nat) : Prop := H a = some (.lst (natV xs))
structure LL (H0 H : Hp) (l : Addr) (as : List Addr) (xss : List (List Nat)) : Prop where
  ls : H l = some (.lst (as.map V.ref))
  it : Paired (LsN H) as xss
  nd : as.Nodup
  fr : ∀ a ∈ as, H0 a = none
theorem paired_ix {α β : Type} {F G : α → β → Prop} : ∀ {xs : List α} {ys : List β}, Paired F xs ys → (∀ (j : Nat) x z, xs[j]? = some x → F x z → G x z) → Paired G xs ys
  | _, _, .nil, _ => .nil
  | _, _, .cons a t, h => .cons (h 0 _ _ rfl a) (paired_ix t fun j x z hx f => h (j + 1) x z hx f)
theorem paired_set {α β : Type} {F G : α → β → Prop} {y : β} : ∀ {xs : List α} {ys : List β} {b : Nat}, Paired F xs ys → (∀ x, xs[b]? = some x → G x y) → (∀ (j : Nat) x z, j ≠ b → xs[j]? = some x → F x z → G x z) → Paired G xs (ys.set b y)
  | _, _, _, .nil, _, _ => .nil
  | _, _, 0, .cons a t, h1, h2 => .cons (h1 _ rfl) (paired_ix t fun j x z hx f => h2 (j + 1) x z (by lia) hx f)
  | _, _, b + 1, .cons a t, h1, h2 => .cons (h2 0 _ _ (by lia) rfl a) (paired_set (b := b) t (fun x hx => h1 x hx) (fun j x z hj hx f => h2 (j + 1) x z (by lia) hx f))
def dueM (ms : List Md) (n : Nat) : List (List Nat) := TK.dueB (numsM ms ms.length) n
def spPacked (C : Nat → Addr) : Sp := fun vs H Q _ => ∃ (a : Addr) (zs : List V) (ms : List Md), vs = [.ref a] ∧ Seq H a zs ∧ Paired (StepV C H) zs ms ∧ zs.length ≤ 200 ∧ ∀ l as H', Same H H' → H l = none → l ∉ as → LL H H' l as (dueM ms ms.length) → Q (.ref l) H'
inductive JP (H2 : Hp) (a l : Addr) (ms : List Md) (i : Nat) (σ : St) (H' : Hp) : Prop
  | mk (v2 v3 : Option V) (as : List Addr) : σ = [some (.ref a), some (.ref l), v2, v3] → But l H2 H' → LL H2 H' l as (dueM ms i) → JP H2 a l ms i σ H'
theorem pk_put {H2 H5 : Hp} {a l : Addr} {as : List Addr} {xss : List (List Nat)} {xs : List Nat} {ms : List Md} {b i : Nat} (b5 : But l H2 H5) (L5 : LL H2 H5 l as xss) (el : H2 l = some (.lst [])) (hx : xss[b]? = some xs) (hs : xss.set b (xs ++ [i]) = dueM ms (i + 1)) :
    ∃ ad, as[b]? = some ad ∧ H5 ad = some (.lst (natV xs)) ∧ ∀ v2 v3, JP H2 a l ms (i + 1) [some (.ref a), some (.ref l), v2, v3] (upd H5 ad (.lst (natV xs ++ [.int (i : Int)]))) := by
  have hb : b < as.length := by rw [L5.it.length]; exact (List.getElem?_eq_some_iff.mp hx).1
  obtain ⟨xs', hx', hl⟩ := paired_at L5.it (List.getElem?_eq_getElem hb)
  rw [hx] at hx'
  cases hx'
  have hn : H2 as[b] = none := L5.fr _ (List.getElem_mem hb)
  have nl : l ≠ as[b] := fun z => by rw [← z, el] at hn; cases hn
  refine ⟨as[b], List.getElem?_eq_getElem hb, hl, fun v2 v3 => ⟨v2, v3, as, rfl, fun c u e nc => ?_, ?_, ?_, L5.nd, L5.fr⟩⟩
  · rw [upd_ne (ne_of_none e hn)]
    exact b5 c u e nc
  · rw [upd_ne nl]
    exact L5.ls
  · rw [← hs]
    refine paired_set L5.it (fun x h => ?_) (fun j x z hj h f => ?_)
    · rw [List.getElem?_eq_getElem hb] at h
      cases h
      show upd _ _ _ _ = _
      rw [upd_same, natV_app]
    · show upd _ _ _ _ = _
      rw [upd_ne ?_]
      · exact f
      · rintro rfl
        exact hj ((List.getElem?_inj (by lia) L5.nd).mp ((List.getElem?_eq_getElem hb).trans h.symm)).symm
theorem dueB_small {l : List Nat} {n k : Nat} {xs : List Nat} (h : (TK.dueB l n)[k]? = some xs) : xs.length ≤ n := by
  unfold TK.dueB at h
  rw [List.getElem?_map] at h
  obtain ⟨j, _, rfl⟩ := Option.map_eq_some_iff.mp h
  have := List.length_filter_le (fun i => l.getD i 0 == j) (List.range n)
  rwa [List.length_range] at this
section
variable {P : Program} {w : World} {K : PySem.W.Frag} {mg : Str → Option Value} {base : Heap} {C fi : Nat → Addr}
theorem scPacked : FnScope ["steps", "beats", "at", "beat"] ["steps"] (defScope sPacked) := ⟨rfl, rfl, rfl, by decide +kernel, rfl, by decide +kernel, by decide +kernel⟩
set_option maxHeartbeats 4000000 in
theorem ok_packed {f : Addr} {fd : FuncData} (F : Fun K "packed" "packed" sPacked f fd) (B : Bl mg) (B2 : Bl2 mg) (BT : Fn P w K mg base "beats_told" 6 ["steps"] (spBeats C)) : FnOk P w K mg base CX0 7 f fd ["steps"] (spPacked C) := by
  refine F.ok scPacked (fun vs H Q E h => ?_) (fun cdv A outer s H vs Q E hr h => ?_)
  · obtain ⟨a, zs, ms, rfl, _⟩ := h
    rfl
  · obtain ⟨a, zs, ms, rfl, hS, hP, hz, q⟩ := h
    have sz : (1000 : Nat) ≤ sizeLine := by decide
    have hml : zs.length = ms.length := hP.length
    refine ⟨_, pss_cons (ps_set (i := 1) scPacked.nd rfl (Or.inl rfl) (pe_lst pa_nil))
      (pss_cons (ps_for PassesOwn.never rfl (pi_enum rfl B2.enumerate (pa_cons (pe_fn BT hr rfl (pa_cons (pv 0) pa_nil)) pa_nil)) (pg_tup rfl (pgs_cons (pg_name (i := 2) scPacked.nd rfl (Or.inl rfl)) (pgs_cons (pg_name (i := 3) scPacked.nd rfl (Or.inl rfl)) pgs_nil)))
        (pss_cons (ps_if (pt_cmpR op_eq (pv 3) (pe_callB call_len_seq (by rfl) B.len PySem.boot_len (pa_cons (pv 1) pa_nil)) (nomark _)) (pss_one (ps_expr (pe_bm PySem.F.plainAttrs_list PySem.F.slot_list_append PySem.F.type_list_append mt_append (pv 1) (pa_cons (pe_lst pa_nil) pa_nil)))) pss_nil)
        (pss_one (ps_expr (pe_bm PySem.F.plainAttrs_list PySem.F.slot_list_append PySem.F.type_list_append mt_append (pe_ix ix_list (pv 1) (pv 3) (fun _ _ => rfl)) (pa_cons (pv 2) pa_nil))))))
      (pss_one (ps_ret (pv 1)))), ?_⟩
    refine ⟨(by show 0 ≤ sizeLine; decide), fun l nl => ?_⟩
    have s0 := same_new (o := .lst []) nl
    have e0 : (upd H l (.lst [])) l = some (.lst []) := upd_same
    generalize upd H l (.lst []) = H1 at *
    refine ⟨_, rfl, a, zs, ms, rfl, hS.same s0, Paired.mapP hP fun _ _ h => h.same s0, hz, fun lt H2 s2 nlt e2 => ?_⟩
    have el2 := s2 _ _ e0
    have nll : lt ≠ l := fun z => by rw [z, e0] at nlt; cases nlt
    have hnl : (numsM ms ms.length).length = ms.length := TK.nums_len _ _
    refine ⟨lt, rfl, ⟨_, SqL.of e2⟩, ?_⟩
    refine for_enum (K := K) (l := lt) (xs := natV (numsM ms ms.length)) (fun i σ H' => JP H2 a l ms i σ H') ⟨none, none, [], rfl, fun _ _ h _ => h, ⟨el2, .nil, .nil, fun _ h => (nomatch h)⟩⟩ (fun i σ H' _ ⟨_, _, _, _, b', _⟩ => SqL.of (b' _ _ e2 nll)) ?_ ?_
    · rintro i x σ H3 T1 hx nT ⟨v2, v3, as, rfl, b3, L3⟩
      have hi : i < ms.length := by
        have := (List.getElem?_eq_some_iff.mp hx).1
        rw [natV_len, hnl] at this
        exact this
      obtain ⟨b, hb⟩ : ∃ b, (numsM ms ms.length)[i]? = some b := ⟨_, List.getElem?_eq_getElem (by lia)⟩
      have hx' : x = .int (b : Int) := by
        rw [natV_at hb] at hx
        exact (Option.some.inj hx).symm
      subst hx'
      have hle := TK.nums_le (mtF ms) hb
      have s4 := same_new (o := .tup [.int (i : Int), .int (b : Int)]) nT
      refine ⟨T1, _, rfl, SqT.of upd_same, rfl, _, _, rfl, _, _, rfl, rfl, ?_⟩
      generalize upd H3 T1 (.tup [.int (i : Int), .int (b : Int)]) = H4 at *
      have L4 : LL H2 H4 l as (dueM ms i) := ⟨s4 _ _ L3.ls, Paired.mapP L3.it fun _ _ h => s4 _ _ h, L3.nd, L3.fr⟩
      have b4 : But l H2 H4 := b3.same s4
      have la : as.length = (dueM ms i).length := L4.it.length
      have ld : (dueM ms i).length = TK.tops ((numsM ms ms.length).take i) := TK.dueB_len _ _
      have sm : ∀ {k : Nat} {xs : List Nat}, (dueM ms i)[k]? = some xs → xs.length ≤ i := fun h => dueB_small h
      refine ⟨_, rfl, _, rfl, l, _, rfl, .inl (SqL.of L4.ls), rfl, _, rfl, ite2 (fun h => ?_) (fun h => ?_)⟩
      · have hbe : b = TK.tops ((numsM ms ms.length).take i) := by
          have := V.int.inj (of_decide_eq_true h)
          rw [List.length_map, la, ld] at this
          lia
        refine ⟨_, rfl, .inl ⟨rfl, _, SqL.of L4.ls⟩, (by show 0 ≤ sizeLine; decide), fun la' nla => ?_⟩
        have s5 := same_new (o := .lst []) nla
        have e5 : (upd H4 la' (.lst [])) la' = some (.lst []) := upd_same
        generalize upd H4 la' (.lst []) = H5 at *
        have nl5 : l ≠ la' := ne_of_none L4.ls nla
        have n2 : H2 la' = none := by
          cases e : H2 la' with
          | none => rfl
          | some o => rw [b4 _ _ e nl5.symm] at nla; cases nla
        refine ⟨l, _, _, rfl, rfl, s5 _ _ L4.ls, (by rw [List.length_map]; have := TK.nums_pos (mtF ms) i; have t := (TK.nums_at (mtF ms) hi).2; unfold numsM at ld; rw [t] at ld; lia), ?_⟩
        have L6 : LL H2 (upd H5 l (.lst (as.map V.ref ++ [.ref la']))) l (as ++ [la']) (dueM ms i ++ [[]]) := by
          refine ⟨by rw [upd_same, List.map_append]; rfl, ?_, ?_, fun c hc => ?_⟩
          · refine paired_snoc ?_ (paired_ix L4.it fun j x z hx f => ?_)
            · show upd _ _ _ _ = _
              rw [upd_ne nl5.symm]
              exact e5
            · show upd _ _ _ _ = _
              have : x ≠ l := fun z => by
                have := L4.fr x (List.mem_of_getElem? hx)
                rw [z, el2] at this
                cases this
              rw [upd_ne this]
              exact s5 _ _ f
          · rw [List.nodup_append]
            refine ⟨L4.nd, by simp, fun c hc d hd => ?_⟩
            rw [List.mem_singleton.mp hd]
            rintro rfl
            obtain ⟨j, hj⟩ := List.mem_iff_getElem?.mp hc
            obtain ⟨_, _, z⟩ := paired_at L4.it hj
            rw [z] at nla
            cases nla
          · rcases List.mem_append.mp hc with hc | hc
            · exact L4.fr c hc
            · rw [List.mem_singleton.mp hc]
              exact n2
        have b6 : But l H2 (upd H5 l (.lst (as.map V.ref ++ [.ref la']))) := fun c u e nc => by rw [upd_ne nc]; exact (b4.same s5) c u e nc
        have hx6 : (dueM ms i ++ [[]])[b]? = some [] := by rw [List.getElem?_append_right (by lia), hbe, ld, Nat.sub_self]; rfl
        have hs6 : (dueM ms i ++ [[]]).set b ([] ++ [i]) = dueM ms (i + 1) := by
          show _ = TK.dueB _ _
          rw [TK.dueB_new hb hbe, List.set_append_right _ _ (by lia), hbe, ld, Nat.sub_self]
          rfl
        obtain ⟨ad, h1, h2, h3⟩ := pk_put (a := a) b6 L6 el2 hx6 hs6
        generalize upd H5 l (.lst (as.map V.ref ++ [.ref la'])) = H6 at *
        refine ⟨_, rfl, _, rfl, l, _, _, .ref ad, rfl, rfl, SqL.of L6.ls, atI_nat (by rw [List.getElem?_map, h1]; rfl), .inl ⟨rfl, _, SqL.of h2⟩, _, rfl, ad, _, _, rfl, rfl, h2, (by show 0 + 1 ≤ sizeLine; decide), h3 _ _⟩
      · have hbe : b < TK.tops ((numsM ms ms.length).take i) := by
          have hne : b ≠ (as.map V.ref).length := fun z => h (decide_eq_true (by rw [z]))
          rw [List.length_map, la, ld] at hne
          have : b ≤ TK.tops ((numsM ms ms.length).take i) := hle
          lia
        obtain ⟨xs, hx6, hs6⟩ := TK.dueB_old hb hbe
        obtain ⟨ad, h1, h2, h3⟩ := pk_put (a := a) b4 L4 el2 hx6 hs6.symm
        have := sm hx6
        refine ⟨_, rfl, _, rfl, l, _, _, .ref ad, rfl, rfl, SqL.of L4.ls, atI_nat (by rw [List.getElem?_map, h1]; rfl), .inl ⟨rfl, _, SqL.of h2⟩, _, rfl, ad, _, _, rfl, rfl, h2, (by rw [natV_len]; lia), h3 _ _⟩
    · rintro σ H3 ⟨v2, v3, as, rfl, b3, L3⟩
      rw [natV_len, hnl] at L3
      have s01 := s0.trans s2
      refine ⟨_, rfl, q l as H3 (fun c u e => b3 c u (s01 c u e) (ne_of_none e nl)) nl (fun z => by have := L3.fr l z; rw [el2] at this; cases this) ⟨L3.ls, L3.it, L3.nd, fun c hc => ?_⟩⟩
      cases e : H c with
      | none => rfl
      | some u =>
        have := s01 _ _ e
        rw [L3.fr c hc] at this
        cases this
end
end L3
namespace L3
open PySem L2
theorem SelOK.pt {H : Hp} {v : V} (h : SelOK H v) : ∃ x, Pt H v x ∧ SelC x := let ⟨p, x, n, a, b, c⟩ := h; ⟨(x, n), ⟨p, a, b⟩, c⟩
theorem SrcOK.pt {H : Hp} {v : V} {o : Option Nat} (h : SrcOK H v o) : ∃ x, Pt H v x ∧ SrcC x := by
  obtain ⟨p, x, n, a, b, c⟩ := h
  refine ⟨(x, n), ⟨p, a, b⟩, ?_⟩
  rcases c with ⟨e, h0, h1, _⟩ | ⟨e, h0, h1, _⟩ | ⟨e, h0, h1, _⟩
  · exact .inl ⟨e, h0, h1⟩
  · exact .inr (.inl ⟨e, h0, h1⟩)
  · exact .inr (.inr ⟨e, h0, h1⟩)
theorem Tol.toD {H : Hp} {v : V} {m : Md} (h : Tol H v m) : ∃ d, TolD H v d := by
  cases h with
  | get a b c => obtain ⟨x, h1, h2⟩ := c.pt; exact ⟨_, .get a b h1 h2⟩
  | ask a b c => obtain ⟨x, h1, h2⟩ := c.pt; exact ⟨_, .ask a b h1 h2⟩
  | cell a b c => obtain ⟨x, h1, h2⟩ := c.pt; exact ⟨_, .cell a b h1 h2⟩
  | two a b f c e => obtain ⟨x, h1, h2⟩ := c.pt; obtain ⟨y, h3, h4⟩ := e.pt; exact ⟨_, .two a b f h1 h2 h3 h4⟩
  | put a c e => obtain ⟨x, h1, h2⟩ := c.pt; obtain ⟨y, h3, h4⟩ := e.pt; exact ⟨_, .put a h1 h2 h3 h4⟩
  | tell a c e => obtain ⟨x, h1, h2⟩ := c.pt; obtain ⟨y, h3, h4⟩ := e.pt; exact ⟨_, .tell a h1 h2 h3 h4⟩
  | store a c e => obtain ⟨x, h1, h2⟩ := c.pt; obtain ⟨y, h3, h4⟩ := e.pt; exact ⟨_, .store a h1 h2 h3 h4⟩
def ptD (x : Part) : PyData := .tuple [.str x.1, .int x.2]
def dtD : Sd → PyData
  | .get n x => .tuple [.str "get", .int n, ptD x]
  | .ask n x => .tuple [.str "ask", .int n, ptD x]
  | .cell n x => .tuple [.str "cell", .int n, ptD x]
  | .two n f x y => .tuple [.str "two", .int n, .str f, ptD x, ptD y]
  | .put x y => .tuple [.str "put", ptD x, ptD y]
  | .tell x y => .tuple [.str "tell", ptD x, ptD y]
  | .store x y => .tuple [.str "store", ptD x, ptD y]
theorem okW : ∀ z ∈ (["get", "ask", "cell", "two", "put", "tell", "store"] : List Str), okS z = true := by decide +kernel
theorem TolD.dd {H : Hp} {v : V} {d : Sd} (h : TolD H v d) : Td H v (dtD d) := by
  cases h with
  | get a b c e => exact .tup a (.cons (.str _ (okW _ (by decide +kernel))) (.cons (.int _) (.cons (c.td (sel_ok e)) .nil)))
  | ask a b c e => exact .tup a (.cons (.str _ (okW _ (by decide +kernel))) (.cons (.int _) (.cons (c.td (sel_ok e)) .nil)))
  | cell a b c e => exact .tup a (.cons (.str _ (okW _ (by decide +kernel))) (.cons (.int _) (.cons (c.td (src_ok e)) .nil)))
  | two a b f c e g i => exact .tup a (.cons (.str _ (okW _ (by decide +kernel))) (.cons (.int _) (.cons (.str _ (ops_ok _ f)) (.cons (c.td (src_ok e)) (.cons (g.td (src_ok i)) .nil)))))
  | put a c e g i => exact .tup a (.cons (.str _ (okW _ (by decide +kernel))) (.cons (c.td (sel_ok e)) (.cons (g.td (src_ok i)) .nil)))
  | tell a c e g i => exact .tup a (.cons (.str _ (okW _ (by decide +kernel))) (.cons (c.td (sel_ok e)) (.cons (g.td (src_ok i)) .nil)))
  | store a c e g i => exact .tup a (.cons (.str _ (okW _ (by decide +kernel))) (.cons (c.td (src_ok e)) (.cons (g.td (src_ok i)) .nil)))
def ptK (x : Part) : Kn := .inr [.inr x.1, .inl x.2]
def kyD : Sd → List Kn
  | .get n x => [.inl (.inr "get"), .inl (.inl n), ptK x]
  | .ask n x => [.inl (.inr "ask"), .inl (.inl n), ptK x]
  | .cell n x => [.inl (.inr "cell"), .inl (.inl n), ptK x]
  | .two n f x y => [.inl (.inr "two"), .inl (.inl n), .inl (.inr f), ptK x, ptK y]
  | .put x y => [.inl (.inr "put"), ptK x, ptK y]
  | .tell x y => [.inl (.inr "tell"), ptK x, ptK y]
  | .store x y => [.inl (.inr "store"), ptK x, ptK y]
theorem ptK_inj {x y : Part} (h : ptK x = ptK y) : x = y := by
  unfold ptK at h
  injection h with h
  injection h with h1 h2
  injection h2 with h2
  injection h1 with h1
  injection h2 with h2
  exact Prod.ext h1 h2
def nmN (s : Str) : Nat := if s = "get" then 0 else if s = "ask" then 1 else if s = "cell" then 2 else if s = "two" then 3 else if s = "put" then 4 else if s = "tell" then 5 else 6
def kyN : List Kn → Nat
  | .inl (.inr s) :: _ => nmN s
  | _ => 7
theorem kyN_kd (d : Sd) : kyN (kyD d) = kd d := by
  have h0 : nmN "get" = 0 := by decide +kernel
  have h1 : nmN "ask" = 1 := by decide +kernel
  have h2 : nmN "cell" = 2 := by decide +kernel
  have h3 : nmN "two" = 3 := by decide +kernel
  have h4 : nmN "put" = 4 := by decide +kernel
  have h5 : nmN "tell" = 5 := by decide +kernel
  have h6 : nmN "store" = 6 := by decide +kernel
  cases d <;> assumption
theorem ky_inj {d e : Sd} (h : kyD d = kyD e) : d = e := by
  have hk : kd d = kd e := by rw [← kyN_kd, ← kyN_kd, h]
  cases d <;> cases e <;> first | (exfalso; simp [kd] at hk; done) | skip
  all_goals
    simp only [kyD, List.cons.injEq, Sum.inl.injEq, Sum.inr.injEq, and_true, true_and] at h
  · rw [Int.ofNat.inj h.1, ptK_inj h.2]
  · rw [Int.ofNat.inj h.1, ptK_inj h.2]
  · rw [Int.ofNat.inj h.1, ptK_inj h.2]
  · rw [Int.ofNat.inj h.1, h.2.1, ptK_inj h.2.2.1, ptK_inj h.2.2.2]
  · rw [ptK_inj h.1, ptK_inj h.2]
  · rw [ptK_inj h.1, ptK_inj h.2]
  · rw [ptK_inj h.1, ptK_inj h.2]
theorem Pt.nest {H : Hp} {v : V} {x : Part} {ks : List Kn} {vs : List V} (h : Pt H v x) (t : NestV H ks vs) : NestV H (ptK x :: ks) (v :: vs) := by
  obtain ⟨p, rfl, hp⟩ := h
  exact .tup hp t
theorem TolD.nest {H : Hp} {p : Addr} {d : Sd} (h : TolD H (.ref p) d) : NestH H (kyD d) p := by
  cases h with
  | get a b c e => exact ⟨_, a, .key (k := .inr "get") (.key (k := .inl _) (c.nest .nil))⟩
  | ask a b c e => exact ⟨_, a, .key (k := .inr "ask") (.key (k := .inl _) (c.nest .nil))⟩
  | cell a b c e => exact ⟨_, a, .key (k := .inr "cell") (.key (k := .inl _) (c.nest .nil))⟩
  | two a b f c e g i => exact ⟨_, a, .key (k := .inr "two") (.key (k := .inl _) (.key (k := .inr _) (c.nest (g.nest .nil))))⟩
  | put a c e g i => exact ⟨_, a, .key (k := .inr "put") (c.nest (g.nest .nil))⟩
  | tell a c e g i => exact ⟨_, a, .key (k := .inr "tell") (c.nest (g.nest .nil))⟩
  | store a c e g i => exact ⟨_, a, .key (k := .inr "store") (c.nest (g.nest .nil))⟩
theorem tols_td {H : Hp} : ∀ {us : List V} {ds : List Sd}, Paired (TolD H) us ds → TdAll H us (ds.map dtD)
  | _, _, .nil => .nil
  | _, _, .cons a t => .cons a.dd (tols_td t)
theorem dtD_depth (d : Sd) : (dtD d).depth ≤ 5 := by cases d <;> (simp [dtD, ptD, PyData.depth, PyData.depthAll])
theorem dts_depth : ∀ ds : List Sd, PyData.depthAll (ds.map dtD) ≤ 5
  | [] => by simp [PyData.depthAll]
  | d :: ds => by
    have := dtD_depth d
    have := dts_depth ds
    simp only [List.map_cons, PyData.depthAll]
    lia
end L3
namespace L3
open PySem L2
def spLSteps : Sp := fun vs H Q _ => ∃ (p : Addr) (n : Nat), vs = [.ref p, .int (n : Int)] ∧ n ≤ 100 ∧ Strm H p ∧ ∀ (l : Addr) (us : List V) (ds : List Sd) (H' : Hp), H l = none → H' l = some (.lst us) → Paired (TolD H') us ds → us.length ≤ 100 → Strm H' p → But p H H' → p ≠ l → Q (.ref l) H'
theorem ne_nil_data {K : PySem.W.Frag} {H : Hp} {l e : Addr} {us : List V} {ds : List PyData} {Q : VK} (hl : H l = some (.lst us)) (he : H e = some (.lst [])) (t : TdAll H us ds) (q : Q (.bl (!us.isEmpty)) H) : rNeD K (.ref l) (.ref e) H Q := by
  refine ⟨_, _, .lst (SqL.of hl) t.dt, .lst (SqL.of he) .nil, t.lay, rfl, Nat.le_trans (Nat.min_le_right _ _) (by decide), ?_⟩
  have : PyData.eqv (.list ds) (.list []) = us.isEmpty := by
    have := t.length
    cases us <;> cases ds <;> first | rfl | (simp at this)
  rw [this]
  exact q
inductive JS (H : Hp) (p l : Addr) (n m k : Nat) (i : Nat) (σ : St) (H' : Hp) : Prop
  | mk (v5 : Option V) (us : List V) (ds : List Sd) : σ = [some (.ref p), some (.int (n : Int)), some (.int (m : Int)), some (.int (k : Int)), some (.ref l), v5] → Strm H' p → But p H H' → H' l = some (.lst us) → Paired (TolD H') us ds → us.length = i → JS H p l n m k i σ H'
section
variable {P : Program} {w : World} {K : PySem.W.Frag} {mg : Str → Option Value} {base : Heap} {C fi : Nat → Addr}
theorem scLSteps : FnScope ["_law_stream_here", "_law_most", "_law_many", "_law_ways", "_law_found", "_law_k"] ["_law_stream_here", "_law_most"] (defScope sLSteps) := ⟨rfl, rfl, rfl, by decide +kernel, rfl, by decide +kernel, by decide +kernel⟩
theorem many_at {r : Nat} (h : r < 6) : ∃ m : Nat, atI [V.int 1, .int 2, .int 3, .int 5, .int 8, .int 8] (r : Int) = some (.int m) ∧ 0 < m ∧ m ≤ 8 := by
  rcases (by lia : r = 0 ∨ r = 1 ∨ r = 2 ∨ r = 3 ∨ r = 4 ∨ r = 5) with rfl | rfl | rfl | rfl | rfl | rfl
  · exact ⟨1, rfl, by decide, by decide⟩
  · exact ⟨2, rfl, by decide, by decide⟩
  · exact ⟨3, rfl, by decide, by decide⟩
  · exact ⟨5, rfl, by decide, by decide⟩
  · exact ⟨8, rfl, by decide, by decide⟩
  · exact ⟨8, rfl, by decide, by decide⟩
theorem ways_at {r : Nat} (h : r < 6) : ∃ k : Nat, atI [V.int 12, .int 12, .int 24, .int 7, .int 6, .int 100] (r : Int) = some (.int k) ∧ 0 < k ∧ k ≤ 1000 := by
  rcases (by lia : r = 0 ∨ r = 1 ∨ r = 2 ∨ r = 3 ∨ r = 4 ∨ r = 5) with rfl | rfl | rfl | rfl | rfl | rfl
  · exact ⟨12, rfl, by decide, by decide⟩
  · exact ⟨12, rfl, by decide, by decide⟩
  · exact ⟨24, rfl, by decide, by decide⟩
  · exact ⟨7, rfl, by decide, by decide⟩
  · exact ⟨6, rfl, by decide, by decide⟩
  · exact ⟨100, rfl, by decide, by decide⟩
set_option maxHeartbeats 4000000 in
theorem ok_lSteps {f : Addr} {fd : FuncData} (F : Fun K "_law_steps" "_law_steps" sLSteps f fd) (B : Bl mg) (TK : Fn P w K mg base "_law_take" 1 ["_law_stream_here", "_law_many"] spTake) (SP : Fn P w K mg base "_law_step" 3 ["_law_stream_here", "_law_many", "_law_ways"] spLStep) :
    FnOk P w K mg base CX0 4 f fd ["_law_stream_here", "_law_most"] spLSteps := by
  refine F.ok scLSteps (fun vs H Q E h => ?_) (fun cdv A outer s H vs Q E hr h => ?_)
  · obtain ⟨p, n, rfl, _⟩ := h
    rfl
  · obtain ⟨p, n, rfl, hn, hp, q⟩ := h
    have hr1 : Room 1 _ := hr.mono (by decide)
    have sz : (1000 : Nat) ≤ sizeLine := by decide
    refine ⟨_, pss_cons (ps_set (i := 2) scLSteps.nd rfl (Or.inl rfl) (pe_ix ix_list (pe_lst (pa_cons pe_int (pa_cons pe_int (pa_cons pe_int (pa_cons pe_int (pa_cons pe_int (pa_cons pe_int pa_nil))))))) (pe_fn TK hr1 rfl (pa_cons (pv 0) (pa_cons pe_int pa_nil))) (fun _ _ => rfl)))
      (pss_cons (ps_set (i := 3) scLSteps.nd rfl (Or.inl rfl) (pe_ix ix_list (pe_lst (pa_cons pe_int (pa_cons pe_int (pa_cons pe_int (pa_cons pe_int (pa_cons pe_int (pa_cons pe_int pa_nil))))))) (pe_fn TK hr1 rfl (pa_cons (pv 0) (pa_cons pe_int pa_nil))) (fun _ _ => rfl)))
      (pss_cons (ps_set (i := 4) scLSteps.nd rfl (Or.inl rfl) (pe_lst pa_nil))
      (pss_cons (ps_for PassesOwn.never rfl (pi_range1 rfl B.range (pa_cons (pe_fn TK hr1 rfl (pa_cons (pv 0) (pa_cons (pe_op op_add (pv 1) pe_int) pa_nil))) pa_nil)) (pg_name (i := 5) scLSteps.nd rfl (Or.inl rfl))
        (pss_one (ps_if (PW.pt (pw_and (pt_cmpR (op_neD hr) (pv 4) (pe_lst pa_nil) (nomark _)) (pw_and1 (pt_cmpR op_eq (pe_fn TK hr1 rfl (pa_cons (pv 0) (pa_cons pe_int pa_nil))) pe_int (nomark _)))))
          (pss_one (ps_expr (pe_bm PySem.F.plainAttrs_list PySem.F.slot_list_append PySem.F.type_list_append mt_append (pv 4) (pa_cons (pe_ix ix_list (pv 4) (pe_fn TK hr1 rfl (pa_cons (pv 0) (pa_cons (pe_callB call_len_seq (by rfl) B.len PySem.boot_len (pa_cons (pv 4) pa_nil)) pa_nil))) (fun _ _ => rfl)) pa_nil))))
          (pss_one (ps_expr (pe_bm PySem.F.plainAttrs_list PySem.F.slot_list_append PySem.F.type_list_append mt_append (pv 4) (pa_cons (pe_fn SP hr rfl (pa_cons (pv 0) (pa_cons (pv 2) (pa_cons (pv 3) pa_nil)))) pa_nil)))))))
      (pss_one (ps_ret (pv 4)))))), ?_⟩
    refine ⟨(by show 6 ≤ sizeLine; decide), fun l1 n1 => ?_⟩
    have s1 := same_new (o := .lst [.int 1, .int 2, .int 3, .int 5, .int 8, .int 8]) n1
    have e1 : (upd H l1 (.lst [.int 1, .int 2, .int 3, .int 5, .int 8, .int 8])) l1 = some (.lst [.int 1, .int 2, .int 3, .int 5, .int 8, .int 8]) := upd_same
    generalize upd H l1 (.lst [V.int 1, .int 2, .int 3, .int 5, .int 8, .int 8]) = H1 at *
    refine ⟨_, rfl, p, 6, rfl, hp.same s1, by decide, by decide, fun r2 H2 t2 g2 b2 => ?_⟩
    obtain ⟨m, em, m0, m8⟩ := many_at t2
    refine ⟨l1, _, _, _, rfl, rfl, SqL.of (b2 _ _ e1 (hp.ne n1).symm), em, ?_⟩
    refine ⟨(by show 6 ≤ sizeLine; decide), fun l3 n3 => ?_⟩
    have s3 := same_new (o := .lst [.int 12, .int 12, .int 24, .int 7, .int 6, .int 100]) n3
    have e3 : (upd H2 l3 (.lst [.int 12, .int 12, .int 24, .int 7, .int 6, .int 100])) l3 = some (.lst [.int 12, .int 12, .int 24, .int 7, .int 6, .int 100]) := upd_same
    generalize upd H2 l3 (.lst [V.int 12, .int 12, .int 24, .int 7, .int 6, .int 100]) = H3 at *
    refine ⟨_, rfl, p, 6, rfl, g2.same s3, by decide, by decide, fun r4 H4 t4 g4 b4 => ?_⟩
    obtain ⟨k, ek, k0, k1⟩ := ways_at t4
    refine ⟨l3, _, _, _, rfl, rfl, SqL.of (b4 _ _ e3 (g2.ne n3).symm), ek, ?_⟩
    have B4 : But p H H4 := ((((but_of s1).trans b2).same s3).trans b4)
    refine ⟨(by show 0 ≤ sizeLine; decide), fun l nl => ?_⟩
    have pl : p ≠ l := g4.ne nl
    have nlH : H l = none := by
      cases e : H l with
      | none => rfl
      | some o => rw [B4 _ _ e pl.symm] at nl; cases nl
    have s5 := same_new (o := .lst []) nl
    have e5 : (upd H4 l (.lst [])) l = some (.lst []) := upd_same
    generalize upd H4 l (.lst []) = H5 at *
    refine ⟨_, rfl, _, rfl, _, _, rfl, rfl, p, n + 1, rfl, g4.same s5, by lia, by lia, fun r6 H6 t6 g6 b6 => ⟨(r6 : Int), rfl, by lia, by lia, ?_⟩⟩
    refine for_range (lo := 0) (fun i σ H' => JS H p l n m k i σ H') ⟨none, [], [], rfl, g6, (B4.same s5).trans b6, b6 _ _ e5 pl.symm, .nil, rfl⟩ ?_ ?_
    · rintro i σ H7 hi ⟨v5, us, ds, rfl, g7, b7, e7, p7, hl7⟩
      have hi' : i < r6 := by simpa using hi
      have put : ∀ (H8 : Hp) (v : V) (d : Sd) (v5 : Option V), Strm H8 p → But p H H8 → H8 l = some (.lst us) → Paired (TolD H8) us ds → TolD H8 v d → JS H p l n m k (i + 1) [some (.ref p), some (.int (n : Int)), some (.int (m : Int)), some (.int (k : Int)), some (.ref l), v5] (upd H8 l (.lst (us ++ [v]))) := by
        intro H8 v d v5 g8 b8 e8 p8 hv
        have kt : TupK H8 (upd H8 l (.lst (us ++ [v]))) := fun c xs e => by
          rw [upd_ne (fun z => by rw [z, e8] at e; cases e)]
          exact e
        refine ⟨v5, us ++ [v], ds ++ [d], rfl, ?_, fun c u e nc => ?_, upd_same, paired_snoc (hv.kt kt) (Paired.mapP p8 fun _ _ h => h.kt kt), by rw [List.length_append, hl7]; rfl⟩
        · obtain ⟨x, y, z, e⟩ := g8
          exact ⟨x, y, z, by rw [upd_ne pl]; exact e⟩
        · rw [upd_ne (fun z => by rw [z, nlH] at e; cases e)]
          exact b8 c u e nc
      have td7 := tols_td p7
      refine ⟨_, rfl, (by show 0 ≤ sizeLine; decide), fun le ne => ?_⟩
      have s8 := same_new (o := .lst []) ne
      have e8' : (upd H7 le (.lst [])) le = some (.lst []) := upd_same
      have nle : l ≠ le := ne_of_none e7 ne
      generalize upd H7 le (.lst []) = H8 at *
      have g8 := g7.same s8
      have b8 := b7.same s8
      have e8 := s8 _ _ e7
      have p8 : Paired (TolD H8) us ds := Paired.mapP p7 fun _ _ h => h.kt (kt_same s8)
      refine ne_nil_data e8 e8' (td7.kt (kt_same s8)) ?_
      refine ⟨_, rfl, ite2 (fun hne => ?_) (fun hne => ?_)⟩
      · have hpos : 0 < us.length := by
          cases us with
          | nil => cases hne
          | cons _ _ => exact Nat.succ_pos _
        refine ⟨_, rfl, p, 6, rfl, g8, by decide, by decide, fun r9 H9 t9 g9 b9 => ⟨rfl, _, rfl, ite2 (fun h0 => ?_) (fun h0 => ?_)⟩⟩
        · have e9 := b9 _ _ e8 pl.symm
          have p9 : Paired (TolD H9) us ds := Paired.mapP p8 fun _ _ h => h.kt (g8.kt b9)
          refine ⟨_, rfl, .inl ⟨rfl, _, SqL.of e9⟩, _, rfl, _, rfl, _, rfl, l, _, rfl, .inl (SqL.of e9), p, us.length, rfl, g9, hpos, by lia, fun r10 H10 t10 g10 b10 => ?_⟩
          have e10 := b10 _ _ e9 pl.symm
          have p10 : Paired (TolD H10) us ds := Paired.mapP p9 fun _ _ h => h.kt (g9.kt b10)
          obtain ⟨d, hd, td⟩ := paired_at p10 (List.getElem?_eq_getElem t10)
          exact ⟨l, _, _, _, rfl, rfl, SqL.of e10, atI_nat (List.getElem?_eq_getElem t10), l, us, _, rfl, rfl, e10, by lia, put H10 _ d _ g10 ((b8.trans b9).trans b10) e10 p10 td⟩
        · have e9 := b9 _ _ e8 pl.symm
          refine ⟨_, rfl, .inl ⟨rfl, _, SqL.of e9⟩, _, rfl, _, rfl, _, rfl, p, m, k, rfl, g9, m0, m8, k0, k1, fun v md H10 hv g10 b10 => ?_⟩
          obtain ⟨d, hd⟩ := hv.toD
          have e10 := b10 _ _ e9 pl.symm
          exact ⟨l, us, v, rfl, rfl, e10, by lia, put H10 v d _ g10 ((b8.trans b9).trans b10) e10 (Paired.mapP p8 fun _ _ h => h.kt ((g8.kt b9).trans (g9.kt b10))) hd⟩
      · refine ⟨_, rfl, .inl ⟨rfl, _, SqL.of e8⟩, _, rfl, _, rfl, _, rfl, p, m, k, rfl, g8, m0, m8, k0, k1, fun v md H10 hv g10 b10 => ?_⟩
        obtain ⟨d, hd⟩ := hv.toD
        have e10 := b10 _ _ e8 pl.symm
        exact ⟨l, us, v, rfl, rfl, e10, by lia, put H10 v d _ g10 (b8.trans b10) e10 (Paired.mapP p8 fun _ _ h => h.kt (g8.kt b10)) hd⟩
    · rintro σ H7 ⟨v5, us, ds, rfl, g7, b7, e7, p7, hl7⟩
      have : us.length = r6 := by simpa using hl7
      exact ⟨_, rfl, q l us ds H7 nlH e7 p7 (by lia) g7 b7 pl⟩
end
end L3
namespace L3
open PySem L2
theorem ObD.kp {C : Nat → Addr} {H H' : Hp} (s : ∀ b c dx fs, H b = some (.ins c dx fs) → H' b = some (.ins c dx fs)) (k : TupK H H') {v u : V} {d : Sd} (h : ObD C H v u d) : ObD C H' v u d := by
  cases h with
  | get o a b c e => exact .get (s _ _ _ _ o) (k _ _ a) b (c.kt k) e
  | ask o a b c e => exact .ask (s _ _ _ _ o) (k _ _ a) b (c.kt k) e
  | cell o a b c e => exact .cell (s _ _ _ _ o) (k _ _ a) b (c.kt k) e
  | two o a b f c e g i => exact .two (s _ _ _ _ o) (k _ _ a) b f (c.kt k) e (g.kt k) i
  | put o a c e g i => exact .put (s _ _ _ _ o) (k _ _ a) (c.kt k) e (g.kt k) i
  | tell o a c e g i => exact .tell (s _ _ _ _ o) (k _ _ a) (c.kt k) e (g.kt k) i
  | store o a c e g i => exact .store (s _ _ _ _ o) (k _ _ a) (c.kt k) e (g.kt k) i
def ObT (C : Nat → Addr) (H : Hp) (v : V) (d : Sd) : Prop := ∃ u, ObD C H v u d
theorem ObT.same {C : Nat → Addr} {H H' : Hp} {v : V} {d : Sd} (h : ObT C H v d) (s : Same H H') : ObT C H' v d := let ⟨u, o⟩ := h; ⟨u, o.same s⟩
theorem ObT.sv {C : Nat → Addr} {H : Hp} {v : V} {d : Sd} (h : ObT C H v d) : StepV C H v (mdOf d) := let ⟨_, o⟩ := h; o.sv
def spLObj (C : Nat → Addr) : Sp := fun vs H Q _ => ∃ (p lt : Addr) (us : List V) (ds : List Sd), vs = [.ref p, .ref lt] ∧ Strm H p ∧ H lt = some (.lst us) ∧ p ≠ lt ∧ Paired (TolD H) us ds ∧ us.length ≤ 100 ∧ ∀ (l : Addr) (zs : List V) (H' : Hp), H l = none → H' l = some (.lst zs) → Paired (ObT C H') zs ds → Strm H' p → But p H H' → p ≠ l → Q (.ref l) H'
structure JO (P : Program) (w : World) (C : Nat → Addr) (H2 : Hp) (a : Addr) (ds : List Sd) (i : Nat) (ys : List V) (H' : Hp) (xs : Dx) : Prop where
  bt : But a H2 H'
  dc : DcN P w H' a xs
  ob : ∀ x ∈ xs, ∃ d, x.1 = kyD d ∧ ObD C H' (.ref x.2.2) (.ref x.2.1) d
  pr : Paired (ObT C H') ys (ds.take i)
  ln : ys.length = i
  xl : xs.length ≤ i
theorem ObD.ref {C : Nat → Addr} {H : Hp} {v u : V} {d : Sd} (h : ObD C H v u d) : ∃ a p, v = .ref a ∧ u = .ref p := by cases h <;> exact ⟨_, _, rfl, rfl⟩
theorem TolD.ref {H : Hp} {u : V} {d : Sd} (h : TolD H u d) : ∃ p, u = .ref p := by cases h <;> exact ⟨_, rfl⟩
section
variable {P : Program} {w : World} {K : PySem.W.Frag} {mg : Str → Option Value} {base : Heap} {C fi : Nat → Addr}
theorem scLObj : FnScope ["_law_stream_here", "_law_told", "_law_made"] ["_law_stream_here", "_law_told"] (defScope sLObjects) := ⟨rfl, rfl, rfl, by decide +kernel, rfl, by decide +kernel, by decide +kernel⟩
theorem ndOne : (["_law_one"] : List Str).Nodup := by decide +kernel
theorem ndOneM : (["_law_one", "_law_made"] : List Str).Nodup := by decide +kernel
set_option maxHeartbeats 4000000 in
theorem ok_lObj {f : Addr} {fd : FuncData} (F : Fun K "_law_objects" "_law_objects" sLObjects f fd) (TK : Fn P w K mg base "_law_take" 1 ["_law_stream_here", "_law_many"] spTake) (SO : Fn P w K mg base "step_of" 6 ["told"] (spStepOf C)) : FnOk P w K mg base CX0 7 f fd ["_law_stream_here", "_law_told"] (spLObj C) := by
  refine F.ok scLObj (fun vs H Q E h => ?_) (fun cdv A outer s H vs Q E hr h => ?_)
  · obtain ⟨p, lt, us, ds, rfl, _⟩ := h
    rfl
  · obtain ⟨p, lt, us, ds, rfl, hp, hlt, plt, hP, h100, q⟩ := h
    have hr1 : Room 1 _ := hr.mono (by decide)
    have hr6 : Room 6 _ := hr.mono (by decide)
    have sz : (1000 : Nat) ≤ sizeLine := by decide
    refine ⟨_, pss_cons (ps_set (i := 2) scLObj.nd rfl (Or.inr rfl) pe_dnewK)
      (pss_cons (ps_if (pt_cmpR op_eq (pe_fn TK hr1 rfl (pa_cons (pv 0) (pa_cons pe_int pa_nil))) pe_int (nomark _))
          (pss_one (ps_ret (pe_lc (N' := ["_law_one"]) (ix := [none]) (sc0 := defScope sLObjects) (N := ["_law_stream_here", "_law_told", "_law_made"]) rfl (by decide +kernel) (pi_list (pv 1))
            (fun C' cl s H fp => pg_name (i := 0) ndOne rfl (Or.inl rfl) (.inr rfl)) (fun _ _ _ _ _ => pf_nil) (fun C' cl s H fp => pe_fn SO hr6 rfl (pa_cons (pv 0) pa_nil))))) pss_nil)
      (pss_one (ps_ret (pe_lc (N' := ["_law_one", "_law_made"]) (ix := [none, some 2]) (sc0 := defScope sLObjects) (N := ["_law_stream_here", "_law_told", "_law_made"]) rfl (by decide +kernel) (pi_list (pv 1))
            (fun C' cl s H fp => pg_name (i := 0) ndOneM rfl (Or.inl rfl) (.inr rfl)) (fun _ _ _ _ _ => pf_nil) (fun C' cl s H fp => pe_setdefK (P := P) (w := w) rfl rfl hr6 (pv 1) (pa_cons (pv 0) (pa_cons (pe_fn SO hr6 rfl (pa_cons (pv 0) pa_nil)) pa_nil))))))), ?_⟩
    refine fun a na => ?_
    have s1 := same_new (o := .dK []) na
    have e1 : (upd H a (.dK [])) a = some (.dK []) := upd_same
    have pa' : p ≠ a := hp.ne na
    generalize upd H a (.dK []) = H1 at *
    refine ⟨_, rfl, p, 2, rfl, hp.same s1, by decide, by decide, fun r2 H2 t2 g2 b2 => ⟨rfl, _, rfl, ?_⟩⟩
    have B2 : But p H H2 := (but_of s1).trans b2
    have elt : H2 lt = some (.lst us) := B2 _ _ hlt plt.symm
    have P2 : Paired (TolD H2) us ds := Paired.mapP hP fun _ _ h => h.kt ((kt_same s1).trans ((hp.same s1).kt b2))
    have ea : H2 a = some (.dK []) := b2 _ _ e1 pa'.symm
    have nla : lt ≠ a := fun z => by rw [z, na] at hlt; cases hlt
    refine ite2 (fun h => ?_) (fun h => ?_)
    · refine ⟨_, rfl, lt, rfl, ⟨_, SqL.of elt⟩, ?_⟩
      refine lc_list (K := K) (a := lt) (xs := us) (fun i ys H' => Same H2 H' ∧ Paired (ObT C H') ys (ds.take i) ∧ ys.length = i) ⟨Same.refl _, .nil, rfl⟩ (fun i ys H' hi ⟨a1, a2, a3⟩ => ⟨SqL.of (a1 _ _ elt), by lia⟩) ?_ ?_
      · rintro j x ys H4 hx ⟨a1, a2, a3⟩
        have hlt' : j < us.length := (List.getElem?_eq_some_iff.mp hx).1
        obtain ⟨d, hd, td⟩ := paired_at P2 hx
        refine ⟨trivial, tAny_T ?_⟩
        refine ⟨_, rfl, x, d, rfl, td.kt (kt_same a1), fun z H5 s5 hz => ?_⟩
        refine Nx.mk hlt' ⟨a1.trans s5, ?_, by rw [List.length_append, a3]; rfl⟩
        rw [List.take_succ, hd]
        exact paired_snoc ⟨_, hz⟩ (Paired.mapP a2 fun _ _ h => h.same s5)
      · rintro zs H4 ⟨a1, a2, a3⟩ ls nls
        have ml : ds.take us.length = ds := by rw [P2.length]; exact List.take_length
        rw [ml] at a2
        have s5 := same_new (o := .lst zs) nls
        have pls : p ≠ ls := (g2.same a1).ne nls
        refine q ls zs _ ?_ upd_same (Paired.mapP a2 fun _ _ h => h.same s5) ((g2.same a1).same s5) ((B2.same a1).same s5) pls
        cases e : H ls with
        | none => rfl
        | some o => rw [a1 _ _ (B2 _ _ e pls.symm)] at nls; cases nls
    · refine ⟨_, rfl, lt, rfl, ⟨_, SqL.of elt⟩, ?_⟩
      refine lc_list (K := K) (a := lt) (xs := us) (fun i ys H' => ∃ xs, JO P w C H2 a ds i ys H' xs) ⟨[], fun _ _ h _ => h, .inl ⟨rfl, ea⟩, fun _ h => (nomatch h), .nil, rfl, Nat.le_refl _⟩ (fun i ys H' hi ⟨xs, J⟩ => ⟨SqL.of (J.bt _ _ elt nla), by have := J.ln; lia⟩) ?_ ?_
      · rintro j x ys H4 hx ⟨xs, J⟩
        have hlt' : j < us.length := (List.getElem?_eq_some_iff.mp hx).1
        obtain ⟨d, hd, td⟩ := paired_at P2 hx
        have nt : ∀ {H5 : Hp} {b : Addr} {zz : List V} , H5 a = H4 a → H5 b = some (.tup zz) → b ≠ a := fun e5 e z => by
          rw [z, e5] at e
          rcases J.dc with ⟨_, y⟩ | y <;> rw [y] at e <;> cases e
        have kt24 : TupK H2 H4 := fun b zz e => J.bt b _ e fun z => by rw [z, ea] at e; cases e
        have td4 := td.kt kt24
        refine ⟨⟨rfl, trivial⟩, tAny_T ?_⟩
        obtain ⟨b, rfl⟩ := td.ref
        refine ⟨_, rfl, a, xs, rfl, J.dc, _, rfl, _, rfl, .ref b, d, rfl, td4, fun z H5 s5 hz => ?_⟩
        obtain ⟨zo, _, rfl, eb⟩ := hz.ref
        have dc5 : DcN P w H5 a xs := J.dc.imp (fun ⟨e0, y⟩ => ⟨e0, s5 _ _ y⟩) (fun y => s5 _ _ y)
        have ob5 : ∀ x ∈ xs, ∃ d, x.1 = kyD d ∧ ObD C H5 (.ref x.2.2) (.ref x.2.1) d := fun x hx => let ⟨d, e, o⟩ := J.ob x hx; ⟨d, e, o.same s5⟩
        have pr5 : Paired (ObT C H5) ys (ds.take j) := Paired.mapP J.pr fun _ _ h => h.same s5
        have bt5 : But a H2 H5 := J.bt.same s5
        have ln := J.ln
        have xl := J.xl
        refine ⟨xs, b, kyD d, zo, rfl, dc5, by lia, (td4.kt (kt_same s5)).nest, fun x hx => ?_, fun b' v' hm => ?_, fun hno => ?_⟩
        · obtain ⟨d', e, o⟩ := ob5 x hx
          rw [e]
          exact o.tolD.nest
        · obtain ⟨d', e, o⟩ := ob5 _ hm
          have ed : d = d' := ky_inj e
          subst ed
          refine Nx.mk hlt' ⟨xs, bt5, dc5, ob5, ?_, by rw [List.length_append, ln]; rfl, by lia⟩
          rw [List.take_succ, hd]
          exact paired_snoc ⟨_, o⟩ pr5
        · have ki : ∀ c C' dx fs, H5 c = some (.ins C' dx fs) → upd H5 a (DcO P w a (xs ++ [(kyD d, b, zo)])) c = some (.ins C' dx fs) := fun c C' dx fs e => by
            rw [upd_ne (fun z => by rw [z] at e; rcases dc5 with ⟨_, y⟩ | y <;> rw [y] at e <;> cases e)]
            exact e
          have kk : TupK H5 (upd H5 a (DcO P w a (xs ++ [(kyD d, b, zo)]))) := fun c zz e => by
            rw [upd_ne (dc5.ne e)]
            exact e
          refine Nx.mk hlt' ⟨xs ++ [(kyD d, b, zo)], fun c u e nc => by rw [upd_ne nc]; exact bt5 c u e nc, .inr upd_same, fun x hx => ?_, ?_, by rw [List.length_append, ln]; rfl, by rw [List.length_append]; show xs.length + 1 ≤ j + 1; lia⟩
          · rcases List.mem_append.mp hx with hx | hx
            · obtain ⟨d', e, o⟩ := ob5 x hx
              exact ⟨d', e, o.kp ki kk⟩
            · rw [List.mem_singleton.mp hx]
              exact ⟨d, rfl, hz.kp ki kk⟩
          · rw [List.take_succ, hd]
            exact paired_snoc ⟨_, hz.kp ki kk⟩ (Paired.mapP pr5 fun _ _ ⟨u, o⟩ => ⟨u, o.kp ki kk⟩)
      · rintro zs H4 ⟨xs, J⟩ ls nls
        have a2 := J.pr
        have ml : ds.take us.length = ds := by rw [P2.length]; exact List.take_length
        rw [ml] at a2
        have s5 := same_new (o := .lst zs) nls
        have g4 : Strm H4 p := let ⟨x, y, z, e⟩ := g2; ⟨x, y, z, J.bt _ _ e pa'⟩
        have pls : p ≠ ls := g4.ne nls
        have B4 : But p H H4 := fun c u e nc => J.bt c u (B2 c u e nc) (ne_of_none e na)
        refine q ls zs _ ?_ upd_same (Paired.mapP a2 fun _ _ h => h.same s5) (g4.same s5) (B4.same s5) pls
        cases e : H ls with
        | none => rfl
        | some o => rw [B4 _ _ e pls.symm] at nls; cases nls
end
end L3
namespace L3
open PySem L2
theorem call_lenK {X : Cx} {K : PySem.W.Frag} (h : X.K = K) : CallR X (.builtin "len") (fun xs H Q => ∃ (p : Addr) (ys : List V), xs = [.ref p] ∧ (SqL K H p ys ∨ SqT K H p ys) ∧ Q (.int (ys.length : Int)) H) := by
  subst h
  exact call_len_seq
def lcSc (s : Stmt) : Scope := match s with
  | .Return (some (.ListComp _ _ sc _)) _ => sc
  | _ => defScope s
def rlS (sc sc0 : Scope) : Scope := { sc with names := sc.names.map fun (n, k) => if (k == .free && sc0.kind == .function && sc0.names.lookup n == some .cell) then (n, .cell) else (n, k) }
def scO : Scope := lcSc ((defBody sLDue).getD 2 (.Pass ⟨0, 0, 0, 0⟩))
structure LD (H : Hp) (l : Addr) (as : List Addr) (xss : List (List Nat)) : Prop where
  ls : H l = some (.lst (as.map V.ref))
  it : Paired (LsN H) as xss
theorem LD.same {H H' : Hp} {l : Addr} {as : List Addr} {xss : List (List Nat)} (s : Same H H') (h : LD H l as xss) : LD H' l as xss := ⟨s _ _ h.ls, Paired.mapP h.it fun _ _ e => s _ _ e⟩
def spLDue : Sp := fun vs H Q _ => ∃ (a : Addr) (us : List V) (ds : List Sd), vs = [.ref a] ∧ H a = some (.lst us) ∧ Paired (TolD H) us ds ∧ us.length ≤ 200 ∧ ∀ l as H', Same H H' → H l = none → (∀ x ∈ as, H x = none) → LD H' l as (dueM (ds.map mdOf) ds.length) → Q (.ref l) H'
inductive JD (H : Hp) (a l : Addr) (ms : List Md) (i : Nat) (σ : St) (H' : Hp) : Prop
  | mk (v2 v3 v4 : Option V) : σ = [some (.ref a), some (.ref l), v2, v3, v4] → Same H H' → H' l = some (.lst (natV (numsM ms i))) → JD H a l ms i σ H'
def teDue (K : PySem.W.Frag) : TE := tLC (iRng1 (tCons (tCB (fun xs H Q => ∃ (p : Addr) (ys : List V), xs = [.ref p] ∧ (SqL K H p ys ∨ SqT K H p ys) ∧ Q (.int (ys.length : Int)) H) (tCons (tVar 1) tNil)) tNil)) (gName 0) (tTest (tOp rEq (tOp (rIxL K) (tVar 1) (tVar 0)) (tVar 2))) (tVar 0) [none, some 2, some 0]
theorem none_of {H H' : Hp} {a : Addr} (s : Same H H') (h : H' a = none) : H a = none := by
  cases e : H a with
  | none => rfl
  | some u => rw [s _ _ e] at h; cases h
theorem due_go {K : PySem.W.Frag} {H1 : Hp} {a l : Addr} {us : List V} {nu : List Nat} {T : Nat} {v2 v3 v4 : Option V} {Q : VK} (ha : H1 a = some (.lst us)) (hl : H1 l = some (.lst (natV nu))) (hlen : nu.length = us.length) (hz : us.length ≤ 200) (hT : T = TK.tops nu) (hT2 : T ≤ 200)
    (q : ∀ l' as H', Same H1 H' → H1 l' = none → (∀ x ∈ as, H1 x = none) → LD H' l' as (TK.dueB nu us.length) → Q (.ref l') H') : LcGo (Itr 0 T) (gName 0) tAny (teDue K) [none, some 0, some 1] [some (.ref a), some (.ref l), v2, v3, v4] H1 Q := by
  have sz : (1000 : Nat) ≤ sizeLine := by decide
  have hd : (TK.dueB nu us.length).length = T := by rw [TK.dueB_len, ← hlen, List.take_length, hT]
  refine lc_range (lo := 0) (n := T) (fun k ys H' => ∃ as : List Addr, Same H1 H' ∧ ys = as.map V.ref ∧ Paired (LsN H') as ((TK.dueB nu us.length).take k) ∧ ∀ x ∈ as, H1 x = none) ⟨[], Same.refl _, rfl, .nil, fun _ h => (nomatch h)⟩ (fun k ys H' hk ⟨as, _, e, p, _⟩ => by
      have := p.length
      rw [e, List.length_map, this, List.length_take]
      lia) ?_ ?_
  · rintro k ys H2 hk ⟨as, s2, rfl, p2, f2⟩
    refine ⟨⟨rfl, rfl, trivial⟩, tAny_T ?_⟩
    rw [Int.zero_add]
    refine ⟨_, rfl, a, us, rfl, .inl (SqL.of (s2 _ _ ha)), (us.length : Int), rfl, by lia, by lia, ?_⟩
    refine lc_range (lo := 0) (fun j ys H' => Same H2 H' ∧ ys = natV ((List.range j).filter fun i => nu.getD i 0 == k)) ⟨Same.refl _, rfl⟩ (fun j ys H' hj ⟨_, e⟩ => by
        have hj' : j ≤ us.length := by simpa using hj
        rw [e, natV_len]
        have := List.length_filter_le (fun i => nu.getD i 0 == k) (List.range j)
        rw [List.length_range] at this
        lia) ?_ ?_
    · rintro j ys H3 hj ⟨s3, rfl⟩
      have hj' : j < us.length := by simpa using hj
      obtain ⟨b, hb⟩ : ∃ b, nu[j]? = some b := ⟨_, List.getElem?_eq_getElem (by lia)⟩
      refine ⟨⟨rfl, rfl, trivial⟩, ?_⟩
      rw [Int.zero_add]
      refine ⟨_, rfl, _, rfl, l, _, _, _, rfl, rfl, SqL.of ((s2.trans s3) _ _ hl), atI_nat (natV_at hb), _, rfl, rfl, _, rfl, ite2 (fun h => ?_) (fun h => ?_)⟩
      · have hbk : b = k := by
          have := V.int.inj (of_decide_eq_true h)
          lia
        refine ⟨_, rfl, Nx.mk (by simpa using hj') ⟨s3, ?_⟩⟩
        rw [TK.filt_new hb, if_pos hbk, ← natV_app]
      · have hbk : ¬ b = k := fun z => h (decide_eq_true (by rw [z]))
        refine Nx.mk (by simpa using hj') ⟨s3, ?_⟩
        rw [TK.filt_new hb, if_neg hbk, List.append_nil]
    · rintro ys H3 ⟨s3, e3⟩ la nla
      rw [Int.toNat_natCast] at e3
      subst e3
      have s4 := same_new (o := .lst (natV ((List.range us.length).filter fun i => nu.getD i 0 == k))) nla
      have s24 := s3.trans s4
      refine Nx.mk hk ⟨as ++ [la], s2.trans s24, by rw [List.map_append]; rfl, ?_, fun x hx => ?_⟩
      rotate_left
      · rcases List.mem_append.mp hx with hx | hx
        · exact f2 x hx
        · rw [List.mem_singleton.mp hx]; exact none_of (s2.trans s3) nla
      have ek : (TK.dueB nu us.length)[k]? = some ((List.range us.length).filter fun i => nu.getD i 0 == k) := by
        unfold TK.dueB
        rw [List.getElem?_map, List.getElem?_range (by rw [← hlen, List.take_length, ← hT]; exact hk)]
        rfl
      rw [List.take_succ, ek]
      refine paired_snoc (F := LsN _) upd_same (Paired.mapP p2 fun a b h => ?_)
      exact s24 _ _ h
  · rintro ys H2 ⟨as, s2, rfl, p2, f2⟩ l' nl'
    have s3 := same_new (o := .lst (as.map V.ref)) nl'
    refine q l' as _ (s2.trans s3) (none_of s2 nl') f2 ⟨upd_same, ?_⟩
    rw [← hd, List.take_length] at p2
    exact Paired.mapP p2 fun _ _ h => s3 _ _ h
section
variable {P : Program} {w : World} {K : PySem.W.Frag} {mg : Str → Option Value} {base : Heap} {C fi : Nat → Addr}
theorem scLDue : FnScope ["_law_told", "_law_numbers", "_law_at", "_law_one", "_law_behind"] ["_law_told"] (defScope sLDue) := ⟨rfl, rfl, rfl, by decide +kernel, rfl, by decide +kernel, by decide +kernel⟩
theorem ndAhead : (["_law_ahead", "_law_numbers", "_law_told", "_law_one"] : List Str).Nodup := by decide +kernel
theorem ndKk : (["_law_k", "_law_told", "_law_numbers"] : List Str).Nodup := by decide +kernel
theorem ndAtK : (["_law_at", "_law_numbers", "_law_k"] : List Str).Nodup := by decide +kernel
set_option maxHeartbeats 4000000 in
theorem ok_lDue {f : Addr} {fd : FuncData} (F : Fun K "_law_due" "_law_due" sLDue f fd) (B : Bl mg) (B2 : Bl2 mg) (LM : Fn P w K mg base "_law_meet" 2 ["_law_one", "_law_other"] spLMeet) : FnOk P w K mg base CX0 3 f fd ["_law_told"] spLDue := by
  refine F.ok scLDue (fun vs H Q E h => ?_) (fun cdv A outer s H vs Q E hr h => ?_)
  · obtain ⟨a, us, ds, rfl, _⟩ := h
    rfl
  · obtain ⟨a, us, ds, rfl, hS, hP, hz, q⟩ := h
    have sz : (1000 : Nat) ≤ sizeLine := by decide
    have hml : us.length = ds.length := hP.length
    have hr2 : Room 2 _ := hr.mono (by decide)
    generalize em : ds.map mdOf = ms at *
    have hmm : ms.length = ds.length := by rw [← em, List.length_map]
    refine ⟨_, pss_cons (ps_set (i := 1) scLDue.nd rfl (Or.inr rfl) (pe_lst pa_nil))
      (pss_cons (ps_for PassesOwn.never rfl (pi_enum rfl B2.enumerate (pa_cons (pv 0) pa_nil)) (pg_tup rfl (pgs_cons (pg_name (i := 2) scLDue.nd rfl (Or.inl rfl)) (pgs_cons (pg_name (i := 3) scLDue.nd rfl (Or.inr rfl)) pgs_nil)))
        (pss_cons (ps_setLC (i := 4) scLDue.nd rfl rfl (N' := ["_law_ahead", "_law_numbers", "_law_told", "_law_one"]) (ix := [none, some 1, some 0, some 3]) (sc0 := defScope sLDue) (N := ["_law_told", "_law_numbers", "_law_at", "_law_one", "_law_behind"]) rfl (by decide +kernel) (pi_range1 rfl B.range (pa_cons (pv 2) pa_nil))
            (fun C' cl s H fp => pg_name (i := 0) ndAhead rfl (Or.inl rfl) (.inr rfl))
            (fun _ _ _ _ _ => pf_one (pt_val (pe_fn LM hr2 rfl (pa_cons (pe_ix (ix_listK (K := K) rfl) (pv 2) (pv 0) (fun _ _ => rfl)) (pa_cons (pv 3) pa_nil)))))
            (fun C' cl s H fp => pe_op op_add (pe_ix (ix_listK (K := K) rfl) (pv 1) (pv 0) (fun _ _ => rfl)) pe_int))
        (pss_one (ps_expr (pe_bm PySem.F.plainAttrs_list PySem.F.slot_list_append PySem.F.type_list_append mt_append (pv 1) (pa_cons (pe_callBK (callK_max rfl) (by rfl) B.max boot_max' (pa_cons (pv 4) pa_nil) (pk_cons pe_int pk_nil)) pa_nil))))))
      (pss_one (ps_ret (pe_lcZ (z := "_law_k") (N' := ["_law_k", "_law_told", "_law_numbers"]) (ix := [none, some 0, some 1]) (sc0 := defScope sLDue) (N := ["_law_told", "_law_numbers", "_law_at", "_law_one", "_law_behind"]) rfl (by decide +kernel)
          (pi_range1 rfl B.range (pa_cons (pe_op op_add (pe_callBK (callK_max rfl) (by rfl) B.max boot_max' (pa_cons (pv 1) pa_nil) (pk_cons (pe_un un_neg pe_int) pk_nil)) pe_int) pa_nil))
          (fun C' cl s H fp => pg_name (i := 0) ndKk rfl (Or.inr rfl) (.inl rfl)) (fun _ _ _ _ _ => pf_nil)
          (fun C' cl s H fp => pe_lc (N' := ["_law_at", "_law_numbers", "_law_k"]) (ix := [none, some 2, some 0]) (sc0 := rlS scO (defScope sLDue)) (N := ["_law_k", "_law_told", "_law_numbers"]) rfl (by decide +kernel) (pi_range1 rfl B.range (pa_cons (pe_callB (call_lenK (K := K) rfl) (by rfl) B.len PySem.boot_len (pa_cons (pv 1) pa_nil)) pa_nil))
            (fun C' cl s H fp => pg_name (i := 0) ndAtK rfl (Or.inl rfl) (.inr rfl))
            (fun _ _ _ _ _ => pf_one (pt_cmpR op_eq (pe_ix (ix_listK (K := K) rfl) (pv 1) (pv 0) (fun _ _ => rfl)) (pv 2) (nomark _)))
            (fun C' cl s H fp => pv 0)))))), ?_⟩
    have tolm : ∀ {H' : Hp} {i : Nat} {x : V}, Same H H' → us[i]? = some x → ∃ m, ms[i]? = some m ∧ Tol H' x m := fun {H' i x} s' hx => by
      obtain ⟨d, hd, td⟩ := paired_at hP hx
      refine ⟨mdOf d, ?_, (td.kt (kt_same s')).tol⟩
      rw [← em, List.getElem?_map, hd]
      rfl
    refine ⟨(by show 0 ≤ sizeLine; decide), fun l nl => ?_⟩
    have s0 := same_new (o := .lst []) nl
    have e0 : (upd H l (.lst [])) l = some (.lst []) := upd_same
    generalize upd H l (.lst []) = H0 at *
    refine ⟨_, rfl, a, rfl, ⟨_, SqL.of (s0 _ _ hS)⟩, ?_⟩
    refine for_enum (K := K) (l := a) (xs := us) (fun i σ H' => JD H a l ms i σ H') ⟨none, none, none, rfl, s0, e0⟩ (fun _ _ H' _ ⟨_, _, _, _, s', _⟩ => SqL.of (s' _ _ hS)) ?_ ?_
    · rintro i x σ H1 T1 hx nT ⟨v2, v3, v4, rfl, s1, e1⟩
      have hi : i < us.length := (List.getElem?_eq_some_iff.mp hx).1
      have s2 := same_new (o := .tup [.int (i : Int), x]) nT
      refine ⟨T1, _, rfl, SqT.of upd_same, rfl, _, _, rfl, _, _, rfl, rfl, ?_⟩
      generalize upd H1 T1 (.tup [.int (i : Int), x]) = H2 at *
      have e2 := s2 _ _ e1
      have s02 := s1.trans s2
      refine ⟨_, rfl, (i : Int), rfl, by lia, by lia, ?_⟩
      refine lc_range (lo := 0) (fun j ys H' => Same H2 H' ∧ ys = natV (((List.range j).filter fun o => mtF ms o i).map fun o => (numsM ms i).getD o 0 + 1)) ⟨Same.refl _, rfl⟩ (fun j ys H' hj ⟨_, a2⟩ => by
          have hj' : j ≤ i := by simpa using hj
          rw [a2, natV_len, List.length_map]
          have := List.length_filter_le (fun o => mtF ms o i) (List.range j)
          rw [List.length_range] at this
          lia) ?_ ?_
      · rintro j ys H3 hj ⟨s3, rfl⟩
        have hj' : j < i := by simpa using hj
        have hjz : j < us.length := by lia
        have s03 := s02.trans s3
        obtain ⟨m, hm, tm⟩ := tolm s03 (List.getElem?_eq_getElem hjz)
        obtain ⟨n, hn, tn⟩ := tolm s03 hx
        refine ⟨⟨rfl, rfl, rfl, trivial⟩, ?_⟩
        rw [Int.zero_add]
        refine ⟨_, rfl, _, rfl, a, _, _, _, rfl, rfl, SqL.of (s03 _ _ hS), atI_nat (List.getElem?_eq_getElem hjz), ?_⟩
        refine ⟨_, rfl, _, _, m, n, rfl, tm, tn, fun H4 s4 => ⟨_, rfl, ?_⟩⟩
        have ef : mtF ms j i = meetB m n := by unfold mtF; rw [hm, hn]
        refine ite2 (fun h => ?_) (fun h => ?_)
        · have ev : (numsM ms i)[j]? = some ((numsM ms i).getD j 0) := by
            have hl : j < (numsM ms i).length := by unfold numsM; rw [TK.nums_len]; exact hj'
            rw [List.getD_eq_getElem?_getD, List.getElem?_eq_getElem hl]
            rfl
          refine ⟨_, rfl, _, rfl, l, _, _, _, rfl, rfl, SqL.of ((s3.trans s4) _ _ e2), atI_nat (natV_at ev), _, _, rfl, rfl, ?_⟩
          refine Nx.mk (by simpa using hj') ⟨s3.trans s4, ?_⟩
          rw [TK.stp_succ, if_pos (ef.trans h), ← natV_app]
          rfl
        · refine Nx.mk (by simpa using hj') ⟨s3.trans s4, ?_⟩
          rw [TK.stp_succ, if_neg (fun z => h (ef.symm.trans z)), List.append_nil]
      · rintro ys H3 ⟨s3, e3⟩ la nla2
        rw [Int.toNat_natCast] at e3
        subst e3
        have s4 := same_new (o := .lst (natV (((List.range i).filter fun o => mtF ms o i).map fun o => (numsM ms i).getD o 0 + 1))) nla2
        have e4 : (upd H3 la (.lst (natV (((List.range i).filter fun o => mtF ms o i).map fun o => (numsM ms i).getD o 0 + 1)))) la = some (.lst (natV (((List.range i).filter fun o => mtF ms o i).map fun o => (numsM ms i).getD o 0 + 1))) := upd_same
        generalize upd H3 la (.lst (natV (((List.range i).filter fun o => mtF ms o i).map fun o => (numsM ms i).getD o 0 + 1))) = H4 at *
        have e5 := (s3.trans s4) _ _ e2
        have s05 := s02.trans (s3.trans s4)
        have fin : ∀ m : Nat, m = TK.mxl (TK.stp (mtF ms) i (numsM ms i)) → ∀ σ, (∃ v2 v3 v4 : Option V, σ = [some (.ref a), some (.ref l), v2, v3, v4]) → JD H a l ms (i + 1) σ (upd H4 l (.lst (natV (numsM ms i) ++ [.int (m : Int)]))) := by
          rintro m rfl σ ⟨v2, v3, v4, rfl⟩
          refine ⟨_, _, _, rfl, same_mut nl s05, ?_⟩
          rw [natV_app]
          exact upd_same
        have hlen : (natV (numsM ms i)).length + 1 ≤ sizeLine := by rw [natV_len]; unfold numsM; rw [TK.nums_len]; lia
        refine ⟨_, rfl, .inl ⟨rfl, _, SqL.of e5⟩, _, rfl, la, _, _, rfl, rfl, (by rw [natV_ints] at e4; exact SqL.of e4), fun m hm => ?_, fun h0 => ?_⟩
        · rw [grt_mxl hm]
          exact ⟨l, _, _, rfl, rfl, e5, hlen, fin _ rfl _ ⟨_, _, _, rfl⟩⟩
        · refine ⟨l, _, _, rfl, rfl, e5, hlen, fin 0 ?_ _ ⟨_, _, _, rfl⟩⟩
          have : TK.stp (mtF ms) i (numsM ms i) = [] := List.map_eq_nil_iff.mp h0
          rw [this]
          rfl
    · rintro σ H1 ⟨v2, v3, v4, rfl, s1, e1⟩
      have hnl : (numsM ms us.length).length = us.length := TK.nums_len _ _
      have enu : numsM ms us.length = numsM ms ms.length := by rw [hml, hmm]
      have hT2 : TK.tops (numsM ms us.length) ≤ us.length := TK.nums_pos (mtF ms) us.length
      have hg := due_go (K := K) (v2 := v2) (v3 := v3) (v4 := v4) (Q := Q) (s1 _ _ hS) e1 hnl hz rfl (Nat.le_trans hT2 hz) (fun l' as H' s' nl' f' L => q l' as H' (s1.trans s') (none_of s1 nl') (fun x hx => none_of s1 (f' x hx)) (by unfold dueM; rw [← enu, ← hml]; exact L))
      refine ⟨_, rfl, _, rfl, l, _, _, rfl, rfl, (by rw [natV_ints] at e1; exact SqL.of e1), fun m hm => ?_, fun h0 => ?_⟩
      · have hne : numsM ms us.length ≠ [] := fun z => by
          rw [z] at hm
          exact (nomatch hm.1)
        rw [grt_mxl hm]
        have et : TK.tops (numsM ms us.length) = TK.mxl (numsM ms us.length) + 1 := if_neg hne
        rw [et] at hg
        exact ⟨_, _, rfl, rfl, ((TK.mxl (numsM ms us.length) + 1 : Nat) : Int), rfl, by lia, by rw [et] at hT2; lia, hg⟩
      · have hne : numsM ms us.length = [] := List.map_eq_nil_iff.mp h0
        have et : TK.tops (numsM ms us.length) = 0 := if_pos hne
        rw [et] at hg
        exact ⟨_, _, rfl, rfl, ((0 : Nat) : Int), rfl, by lia, by lia, hg⟩
end
end L3
namespace L3
open PySem L2
def nsD (xs : List Nat) : PyData := .list (xs.map fun (k : Nat) => PyData.int (k : Int))
def lsD (xss : List (List Nat)) : PyData := .list (xss.map nsD)
theorem dt_nats {K : PySem.W.Frag} {H : Hp} : ∀ l : List Nat, DtAll K H (natV l) (l.map fun (k : Nat) => PyData.int (k : Int))
  | [] => .nil
  | x :: l => .cons (.int x) (dt_nats l)
theorem lay_nats : ∀ l : List Nat, PyData.canLayAll0 (l.map fun (k : Nat) => PyData.int (k : Int)) = true
  | [] => rfl
  | x :: l => by simp [PyData.canLayAll0, PyData.canLay0, lay_nats l]
theorem eqv_nats : ∀ l : List Nat, PyData.eqvAll (l.map fun (k : Nat) => PyData.int (k : Int)) (l.map fun (k : Nat) => PyData.int (k : Int)) = true
  | [] => rfl
  | x :: l => by simp [PyData.eqvAll, PyData.eqv, eqv_nats l]
theorem depth_nats : ∀ l : List Nat, PyData.depthAll (l.map fun (k : Nat) => PyData.int (k : Int)) ≤ 1
  | [] => by simp [PyData.depthAll]
  | x :: r => by
    have := depth_nats r
    simp only [List.map_cons, PyData.depthAll, PyData.depth]
    lia
theorem lay_ls : ∀ l : List (List Nat), PyData.canLayAll0 (l.map nsD) = true
  | [] => rfl
  | x :: l => by
    have h : (nsD x).canLay0 = true := lay_nats x
    simp only [List.map_cons, PyData.canLayAll0, h, lay_ls l, Bool.and_self]
theorem eqv_ls : ∀ l : List (List Nat), PyData.eqvAll (l.map nsD) (l.map nsD) = true
  | [] => rfl
  | x :: l => by
    have h : PyData.eqv (nsD x) (nsD x) = true := by unfold nsD; simp only [PyData.eqv]; exact eqv_nats x
    simp only [List.map_cons, PyData.eqvAll, h, eqv_ls l, Bool.and_self]
theorem depth_ls : ∀ l : List (List Nat), PyData.depthAll (l.map nsD) ≤ 3
  | [] => by simp [PyData.depthAll]
  | x :: r => by
    have := depth_ls r
    have := depth_nats x
    simp only [List.map_cons, PyData.depthAll, nsD, PyData.depth]
    lia
theorem dt_ls {K : PySem.W.Frag} {H : Hp} : ∀ {as : List Addr} {xss : List (List Nat)}, Paired (LsN H) as xss → DtAll K H (as.map V.ref) (xss.map nsD)
  | _, _, .nil => .nil
  | _, _, .cons a t => .cons (.lst (SqL.of a) (dt_nats _)) (dt_ls t)
theorem LD.dt {K : PySem.W.Frag} {H : Hp} {l : Addr} {as : List Addr} {xss : List (List Nat)} (h : LD H l as xss) : Dt K H (.ref l) (lsD xss) := .lst (SqL.of h.ls) (dt_ls h.it)
theorem ne_ls {K : PySem.W.Frag} {H : Hp} {l l' : Addr} {as as' : List Addr} {xss : List (List Nat)} {Q : VK} (h : LD H l as xss) (h' : LD H l' as' xss) (q : Q (.bl false) H) : rNeD K (.ref l) (.ref l') H Q := by
  refine ⟨_, _, h.dt, h'.dt, lay_ls xss, lay_ls xss, ?_, ?_⟩
  · have := depth_ls xss
    simp only [lsD, PyData.depth]
    lia
  · have : PyData.eqv (lsD xss) (lsD xss) = true := by unfold lsD; simp only [PyData.eqv]; exact eqv_ls xss
    rw [this]
    exact q
def spLSame : Sp := fun vs H Q _ => ∃ (l l' : Addr) (as as' : List Addr) (xss : List (List Nat)), vs = [.ref l, .ref l'] ∧ LD H l as xss ∧ LD H l' as' xss ∧ (∀ xs ∈ xss, xs.length ≤ 200) ∧ ∀ H', Same H H' → Q (.bl true) H'
section
variable {P : Program} {w : World} {K : PySem.W.Frag} {mg : Str → Option Value} {base : Heap} {C fi : Nat → Addr}
theorem scLSame : FnScope ["_law_found", "_law_due_here", "_law_beat"] ["_law_found", "_law_due_here"] (defScope sLSame) := ⟨rfl, rfl, rfl, by decide +kernel, rfl, by decide +kernel, by decide +kernel⟩
theorem ndAt : (["_law_at"] : List Str).Nodup := by decide +kernel
set_option maxHeartbeats 4000000 in
theorem ok_lSame {f : Addr} {fd : FuncData} (F : Fun K "_law_same" "_law_same" sLSame f fd) (B : Bl mg) : FnOk P w K mg base CX0 1 f fd ["_law_found", "_law_due_here"] spLSame := by
  refine F.ok scLSame (fun vs H Q E h => ?_) (fun cdv A outer s H vs Q E hr h => ?_)
  · obtain ⟨l, l', as, as', xss, rfl, _⟩ := h
    rfl
  · obtain ⟨l, l', as, as', xss, rfl, h1, h2, hsm, q⟩ := h
    have sz : (1000 : Nat) ≤ sizeLine := by decide
    refine ⟨_, pss_cons (ps_if (PW.pt (pw_or (pt_not (pt_val (pe_callB (isi_ty (T := "list")) (by rfl) B.isinstance boot_isi (pa_cons (pv 0) (pa_cons (pe_ty (by rfl) B.list boot_list') pa_nil))))) (pw_or1 (pt_cmpR (op_neD hr) (pv 0) (pv 1) (nomark _))))) (pss_one (ps_ret pe_bl)) pss_nil)
      (pss_cons (ps_for PassesOwn.never rfl (pi_list (pv 0)) (pg_name (i := 2) scLSame.nd rfl (Or.inl rfl))
        (pss_one (ps_if (PW.pt (pw_or (pt_not (pt_val (pe_callB (isi_ty (T := "list")) (by rfl) B.isinstance boot_isi (pa_cons (pv 2) (pa_cons (pe_ty (by rfl) B.list boot_list') pa_nil))))) (pw_or1 (pt_cmpR op_in_seq pe_bl (pe_lc (N' := ["_law_at"]) (ix := [none]) (sc0 := defScope sLSame) (N := ["_law_found", "_law_due_here", "_law_beat"]) rfl (by decide +kernel) (pi_list (pv 2))
            (fun C' cl s H fp => pg_name (i := 0) ndAt rfl (Or.inl rfl) (.inr rfl)) (fun _ _ _ _ _ => pf_nil) (fun C' cl s H fp => pe_callB (isi_tyK (K := K) rfl (T := "bool")) (by rfl) B.isinstance boot_isi (pa_cons (pv 0) (pa_cons (pe_ty (by rfl) B.bool boot_bool') pa_nil)))) rfl)))) (pss_one (ps_ret pe_bl)) pss_nil)))
      (pss_one (ps_ret pe_bl))), ?_⟩
    refine ⟨_, rfl, _, _, _, rfl, .lst h1.ls, rfl, _, rfl, iteF ?_⟩
    refine ⟨_, rfl, _, rfl, ne_ls h1 h2 ⟨_, rfl, iteF ?_⟩⟩
    refine ⟨_, rfl, l, rfl, ⟨_, SqL.of h1.ls⟩, ?_⟩
    refine for_list (K := K) (a := l) (xs := as.map V.ref) (fun i σ H' => ∃ v : Option V, σ = [some (.ref l), some (.ref l'), v] ∧ Same H H') ⟨_, rfl, Same.refl _⟩ (fun i σ H' _ ⟨_, _, s'⟩ => SqL.of (s' _ _ h1.ls)) ?_ ?_
    · rintro i x σ H1 hx ⟨v, rfl, s1⟩
      rw [List.getElem?_map] at hx
      obtain ⟨b, hb, rfl⟩ := Option.map_eq_some_iff.mp hx
      obtain ⟨xs, hxs, hl⟩ := paired_at h1.it hb
      have hlen := hsm xs (List.mem_of_getElem? hxs)
      have hl1 := s1 _ _ hl
      refine ⟨_, rfl, _, _, _, rfl, .lst hl1, rfl, _, rfl, iteF ?_⟩
      refine ⟨_, rfl, b, rfl, ⟨_, SqL.of hl1⟩, ?_⟩
      refine lc_list (K := K) (a := b) (xs := natV xs) (fun j ys H' => Same H1 H' ∧ ys = (List.replicate j false).map V.bl) ⟨Same.refl _, rfl⟩ (fun j ys H' hj ⟨s', e⟩ => ⟨SqL.of (s' _ _ hl1), by rw [natV_len] at hj; rw [e, List.length_map, List.length_replicate]; lia⟩) ?_ ?_
      · rintro j y ys H2 hy ⟨s2, rfl⟩
        have hj : j < (natV xs).length := (List.getElem?_eq_some_iff.mp hy).1
        obtain ⟨k, rfl⟩ : ∃ k : Nat, y = .int (k : Int) := by
          unfold natV at hy
          rw [List.getElem?_map] at hy
          obtain ⟨k, _, rfl⟩ := Option.map_eq_some_iff.mp hy
          exact ⟨k, rfl⟩
        refine ⟨trivial, tAny_T ?_⟩
        refine ⟨_, rfl, _, _, _, rfl, .int _, rfl, ?_⟩
        refine Nx.mk hj ⟨s2, ?_⟩
        rw [List.replicate_succ', List.map_append]
        rfl
      · rintro ys H2 ⟨s2, rfl⟩ D nD
        have s3 := same_new (o := .lst ((List.replicate (natV xs).length false).map V.bl)) nD
        refine ⟨D, _, rfl, .inl (SqL.of upd_same), rfl, ?_, _, rfl, ?_⟩
        · rw [List.all_eq_true]
          intro y hy
          obtain ⟨b, _, rfl⟩ := List.mem_map.mp hy
          rfl
        · have : inV (.bl true) ((List.replicate (natV xs).length false).map V.bl) = false := by
            unfold inV
            rw [List.any_eq_false]
            intro y hy
            obtain ⟨b, hb, rfl⟩ := List.mem_map.mp hy
            rw [(List.mem_replicate.mp hb).2]
            decide
          refine iteB this ?_
          exact ⟨_, rfl, s1.trans (s2.trans s3)⟩
    · rintro σ H1 ⟨v, rfl, s1⟩
      exact q _ s1
end
end L3
namespace L2
open PySem PySem.Spec PyProof.Rows
section
variable {X : Cx}
def tMethK (P : Program) (w : World) (K : PySem.W.Frag) (mg : Str → Option Value) (base : Heap) (k : Nat) (m : Str) (ta : TE) : TE := fun σ H Q => ta σ H fun x H1 => ∃ (a dx C f : Addr) (fs : List (Str × V)) (fd : FuncData) (ps : List Str) (sp : Sp), x = .ref a ∧ H1 a = some (.ins C dx fs) ∧ fs.lookup m = none ∧
  Cls K C ∧ Meth K C m f ∧ FnOk P w K mg base CX0 k f fd ps sp ∧ Binds K fd ps [] ∧ sp [.ref a] H1 Q E0
theorem pe_methK {P : Program} {w : World} {K : PySem.W.Frag} {mg : Str → Option Value} {base : Heap} {k : Nat} {pl : Sem Bool} {o : Expr} {m : Str} {ta : TE} {pos apos : Pos} (hP : X.prog = P) (hw : X.w = w) (hK : X.K = K) (hmg : X.mg = mg) (hbs : X.base = base) (hr : Room k X.A) (he : PE X o ta)
    (ht : eval (.Call (.Attribute o m apos) [] [] pos) X.env = (do
      let ov ← eval o X.env
      standAt apos.atName
      let (f, first) ← holding [ov] (getMethod ov m pl)
      callWith pos f first (backTo pos (starEach [] X.env)) (backToKw pos (keywordEach [] X.env))) := by rfl) :
    PE X (.Call (.Attribute o m apos) [] [] pos) (tMethK P w K mg base k m ta) := by
  subst hP hw hK hmg hbs
  refine ⟨?_⟩
  intro pins s σ H Q I h
  refine PySem.W.methodCall_KW (pl := pl) (thn (he pins s σ H _ I h) fun u s1 ⟨x, H1, I1, rx, a, dx, C, f, fs, fd, ps, sp, ex, ea, l, c, hm, F, hb, q⟩ => ?_) ht
  subst ex
  obtain rfl : u = Value.ref a := rx
  refine getmeth_ok I1 ea c hm l ?_
  exact PySem.W.callWith_K0 (first := [.ref a]) I1.kIn hm.kp (run_fn (us := [.ref a]) (vs := [.ref a]) (dvs := []) (ds := []) F hr hb .nil pass0 I1 (.cons rfl .nil) q)
end
end L2
namespace L3
open PySem L2
structure Mts5 (P : Program) (w : World) (K : PySem.W.Frag) (mg : Str → Option Value) (base : Heap) (C : Nat → Addr) : Prop where
  told : ∀ k, k < 7 → MthOk P w K mg base (C k) "told" 1 ["self"] (spTold C k)
theorem kd_lt (d : Sd) : kd d < 7 := by cases d <;> simp [kd]
theorem TolD.copy {H H' : Hp} {pu p : Addr} {d : Sd} {xs : List V} (h : TolD H (.ref pu) d) (e : H pu = some (.tup xs)) (e' : H' p = some (.tup xs)) (k : TupK H H') : TolD H' (.ref p) d := by
  cases h with
  | get a b c f => rw [a] at e; cases e; exact .get e' b (c.kt k) f
  | ask a b c f => rw [a] at e; cases e; exact .ask e' b (c.kt k) f
  | cell a b c f => rw [a] at e; cases e; exact .cell e' b (c.kt k) f
  | two a b g c f i j => rw [a] at e; cases e; exact .two e' b g (c.kt k) f (i.kt k) j
  | put a c f i j => rw [a] at e; cases e; exact .put e' (c.kt k) f (i.kt k) j
  | tell a c f i j => rw [a] at e; cases e; exact .tell e' (c.kt k) f (i.kt k) j
  | store a c f i j => rw [a] at e; cases e; exact .store e' (c.kt k) f (i.kt k) j
theorem ne_told {K : PySem.W.Frag} {H : Hp} {l l' : Addr} {us us' : List V} {ds : List Sd} {Q : VK} (h : H l = some (.lst us)) (h' : H l' = some (.lst us')) (p : Paired (TolD H) us ds) (p' : Paired (TolD H) us' ds) (q : Q (.bl false) H) : rNeD K (.ref l) (.ref l') H Q := by
  have t := tols_td p
  have t' := tols_td p'
  refine ⟨_, _, .lst (SqL.of h) t.dt, .lst (SqL.of h') t'.dt, t.lay, t'.lay, ?_, ?_⟩
  · have := dts_depth ds
    simp only [PyData.depth]
    lia
  · have : PyData.eqv (.list (ds.map dtD)) (.list (ds.map dtD)) = true := by simp only [PyData.eqv]; exact t.eqv
    rw [this]
    exact q
theorem due_small (ms : List Md) (n : Nat) : ∀ xs ∈ dueM ms n, xs.length ≤ n := fun xs hx => by
  obtain ⟨k, hk⟩ := List.mem_iff_getElem?.mp hx
  exact dueB_small hk
theorem forty (b : Bool) : ∃ n : Nat, atI [V.int 40, .int 100] (if b = true then 1 else 0) = some (.int (n : Int)) ∧ n ≤ 100 := by
  cases b
  · exact ⟨40, rfl, by decide⟩
  · exact ⟨100, rfl, by decide⟩
theorem bs_same {p : Addr} {H H2 H3 : Hp} (s : Same H H2) (hp : H p = none) (b : But p H2 H3) : Same H H3 := fun c u e => b c u (s c u e) (ne_of_none e hp)
theorem paired_mapR {α β γ : Type} {F : α → γ → Prop} {g : β → γ} : ∀ {xs : List α} {ys : List β}, Paired (fun x y => F x (g y)) xs ys → Paired F xs (ys.map g)
  | _, _, .nil => .nil
  | _, _, .cons a t => .cons a (paired_mapR t)
theorem LD.but {H H' : Hp} {p l : Addr} {as : List Addr} {xss : List (List Nat)} (b : But p H H') (n1 : l ≠ p) (n2 : ∀ x ∈ as, x ≠ p) (h : LD H l as xss) : LD H' l as xss :=
  ⟨b _ _ h.ls n1, paired_ix h.it fun j x z hx e => b _ _ e (n2 x (List.mem_of_getElem? hx))⟩
def spLaw (K : PySem.W.Frag) : Sp := fun vs H Q _ => ∃ (a : Addr) (ns : List Int), vs = [.ref a] ∧ SqL K H a (ns.map V.int) ∧ ns.length ≤ 63 ∧ ∀ H', Q (.bl true) H'
section
variable {P : Program} {w : World} {K : PySem.W.Frag} {mg : Str → Option Value} {base : Heap} {C fi : Nat → Addr}
theorem scLaw : FnScope ["_law_script", "_law_k", "_law_stream_here", "_law_told", "_law_due_here", "_law_steps_here", "_law_kept", "_law_found", "_law_beat"] ["_law_script"] (defScope sLaw) := ⟨rfl, rfl, rfl, by decide +kernel, rfl, by decide +kernel, by decide +kernel⟩
theorem ndSh : (["_law_step_here"] : List Str).Nodup := by decide +kernel
set_option maxHeartbeats 8000000 in
theorem ok_law {f : Addr} {fd : FuncData} (F : Fun K "law" "law" sLaw f fd) (B : Bl mg) (T : Ct K mg C fi) (U : Mts5 P w K mg base C) (CL : Fn P w K mg base "_law_cell" 1 ["_law_script", "_law_k"] (spCell K)) (ST : Fn P w K mg base "_law_stream" 1 ["_law_cell_here"] spStream) (TK' : Fn P w K mg base "_law_take" 1 ["_law_stream_here", "_law_many"] spTake)
    (LS : Fn P w K mg base "_law_steps" 4 ["_law_stream_here", "_law_most"] spLSteps) (DU : Fn P w K mg base "_law_due" 3 ["_law_told"] spLDue) (OB : Fn P w K mg base "_law_objects" 7 ["_law_stream_here", "_law_told"] (spLObj C)) (PK : Fn P w K mg base "packed" 7 ["steps"] (spPacked C)) (SA : Fn P w K mg base "_law_same" 1 ["_law_found", "_law_due_here"] spLSame) (SO : Fn P w K mg base "step_of" 6 ["told"] (spStepOf C)) :
    FnOk P w K mg base CX0 8 f fd ["_law_script"] (spLaw K) := by
  refine F.ok scLaw (fun vs H Q E h => ?_) (fun cdv A outer s H vs Q E hr h => ?_)
  · obtain ⟨a, ns, rfl, _⟩ := h
    rfl
  · obtain ⟨l, ns, rfl, hS, hlen, q⟩ := h
    have hr1 : Room 1 _ := hr.mono (by decide)
    have hr3 : Room 3 _ := hr.mono (by decide)
    have hr4 : Room 4 _ := hr.mono (by decide)
    have hr6 : Room 6 _ := hr.mono (by decide)
    have hr7 : Room 7 _ := hr.mono (by decide)
    have sz : (1000 : Nat) ≤ sizeLine := by decide
    refine ⟨_, pss_cons (ps_for PassesOwn.never rfl (pi_range1 rfl B.range (pa_cons (pe_callB (call_max2 rfl) (by rfl) B.max PyProof.Rows.boot_max (pa_cons pe_int (pa_cons (pe_callB (call_min2 rfl) (by rfl) B.min PyProof.Rows.boot_min (pa_cons (pe_callB call_len_seq (by rfl) B.len PySem.boot_len (pa_cons (pv 0) pa_nil)) (pa_cons pe_int pa_nil))) pa_nil))) pa_nil)) (pg_name (i := 1) scLaw.nd rfl (Or.inl rfl))
        (pss_cons (ps_set (i := 2) scLaw.nd rfl (Or.inl rfl) (pe_fn ST hr1 rfl (pa_cons (pe_fn CL hr1 rfl (pa_cons (pv 0) (pa_cons (pv 1) pa_nil))) pa_nil)))
        (pss_cons (ps_set (i := 3) scLaw.nd rfl (Or.inl rfl) (pe_fn LS hr4 rfl (pa_cons (pv 2) (pa_cons (pe_ix ix_list (pe_lst (pa_cons pe_int (pa_cons pe_int pa_nil))) (pe_callTy call_int1 (by rfl) B.int PyProof.Rows.boot_int (pa_cons (pe_cmpR op_eq (pe_fn TK' hr1 rfl (pa_cons (pv 2) (pa_cons pe_int pa_nil))) pe_int (nomark _)) pa_nil)) (fun _ _ => rfl)) pa_nil))))
        (pss_cons (ps_set (i := 4) scLaw.nd rfl (Or.inl rfl) (pe_fn DU hr3 rfl (pa_cons (pv 3) pa_nil)))
        (pss_cons (ps_set (i := 5) scLaw.nd rfl (Or.inl rfl) (pe_fn OB hr7 rfl (pa_cons (pv 2) (pa_cons (pv 3) pa_nil))))
        (pss_cons (ps_set (i := 6) scLaw.nd rfl (Or.inl rfl) (pe_callTy call_tuple_of (by rfl) B.tuple boot_tuple' (pa_cons (pv 5) pa_nil)))
        (pss_cons (ps_set (i := 7) scLaw.nd rfl (Or.inl rfl) (pe_fn PK hr7 rfl (pa_cons (pv 5) pa_nil)))
        (pss_cons (ps_if (PW.pt (pw_or (pt_not (pt_val (pe_fn SA hr1 rfl (pa_cons (pv 7) (pa_cons (pv 4) pa_nil))))) (pw_or1 (pt_cmpR (op_neD hr) (pe_lc (N' := ["_law_step_here"]) (ix := [none]) (sc0 := defScope sLaw) (N := ["_law_script", "_law_k", "_law_stream_here", "_law_told", "_law_due_here", "_law_steps_here", "_law_kept", "_law_found", "_law_beat"]) rfl (by decide +kernel) (pi_list (pv 5))
            (fun C' cl s H fp => pg_name (i := 0) ndSh rfl (Or.inl rfl) (.inr rfl)) (fun _ _ _ _ _ => pf_nil) (fun C' cl s H fp => pe_methK (P := P) (w := w) (K := K) (mg := mg) (base := base) (k := 1) rfl rfl rfl rfl rfl hr1 (pv 0))) (pv 3) (nomark _))))) (pss_one (ps_ret pe_bl)) pss_nil)
        (pss_cons (ps_for PassesOwn.never rfl (pi_list (pv 7)) (pg_name (i := 8) scLaw.nd rfl (Or.inl rfl))
          (pss_one (ps_expr (pe_bm PySem.F.plainAttrs_list PySem.F.slot_list_append PySem.F.type_list_append mt_append (pv 8) (pa_cons pe_int pa_nil)))))
        (pss_cons (ps_expr (pe_bm0 PySem.F.plainAttrs_list PySem.F.slot_list_clear PySem.F.type_list_clear mt_clear (pv 7)))
        (pss_cons (ps_expr (pe_bm0 PySem.F.plainAttrs_list PySem.F.slot_list_clear PySem.F.type_list_clear mt_clear (pv 5)))
        (pss_one (ps_if (PW.pt (pw_or (pt_not (pt_val (pe_fn SA hr1 rfl (pa_cons (pe_fn PK hr7 rfl (pa_cons (pv 6) pa_nil)) (pa_cons (pv 4) pa_nil))))) (pw_or1 (pt_not (pt_val (pe_fn SA hr1 rfl (pa_cons (pe_fn PK hr7 rfl (pa_cons (pe_lc (N' := ["_law_one"]) (ix := [none]) (sc0 := defScope sLaw) (N := ["_law_script", "_law_k", "_law_stream_here", "_law_told", "_law_due_here", "_law_steps_here", "_law_kept", "_law_found", "_law_beat"]) rfl (by decide +kernel) (pi_list (pv 3))
            (fun C' cl s H fp => pg_name (i := 0) ndOne rfl (Or.inl rfl) (.inr rfl)) (fun _ _ _ _ _ => pf_nil) (fun C' cl s H fp => pe_fn SO hr6 rfl (pa_cons (pv 0) pa_nil))) pa_nil)) (pa_cons (pv 4) pa_nil)))))))) (pss_one (ps_ret pe_bl)) pss_nil)))))))))))))
      (pss_one (ps_ret (pe_and (pe_cmpR (op_eqD hr) (pe_fn PK hr7 rfl (pa_cons (pe_lst pa_nil) pa_nil)) (pe_lst pa_nil) (nomark _)) (pe_one (pe_cmpR (op_eqD hr) (pe_fn PK hr7 rfl (pa_cons (pe_tup pa_nil) pa_nil)) (pe_lst pa_nil) (nomark _)))))), ?_⟩
    refine ⟨_, rfl, l, _, rfl, .inl hS, _, _, rfl, _, _, rfl, _, rfl, ?_, ?_, ?_⟩
    · split <;> (try split) <;> lia
    · rw [List.length_map]; split <;> (try split) <;> lia
    refine for_range (lo := 0) (fun i σ H2 => ∃ v1 v2 v3 v4 v5 v6 v7 v8 : Option V, σ = [some (.ref l), v1, v2, v3, v4, v5, v6, v7, v8] ∧ Same H H2) ⟨_, _, _, _, _, _, _, _, rfl, Same.refl _⟩ ?_ ?_
    · rintro i σ H1 hi ⟨v1, v2, v3, v4, v5, v6, v7, v8, rfl, s1⟩
      refine ⟨_, rfl, _, rfl, l, ns, 0 + (i : Int), rfl, s1.seq hS, by lia, fun c => ⟨c, rfl, fun p H2 np s2 g2 => ?_⟩⟩
      refine ⟨_, rfl, (by show 2 ≤ sizeLine; decide), fun lm nm => ?_⟩
      have s3 := same_new (o := .lst [.int 40, .int 100]) nm
      have e3 : (upd H2 lm (.lst [.int 40, .int 100])) lm = some (.lst [.int 40, .int 100]) := upd_same
      have plm : p ≠ lm := g2.ne nm
      generalize upd H2 lm (.lst [V.int 40, .int 100]) = H3 at *
      have g3 := g2.same s3
      refine ⟨_, rfl, p, 8, rfl, g3, by decide, by decide, fun r4 H4 t4 g4 b4 => ⟨rfl, .inr ⟨_, rfl, ?_⟩⟩⟩
      obtain ⟨n, hn, hn1⟩ := forty (decide (V.int (r4 : Int) = V.int 0))
      refine ⟨lm, _, _, _, rfl, rfl, SqL.of (b4 _ _ e3 plm.symm), hn, ?_⟩
      refine ⟨p, n, rfl, hn1, g4, fun lt us ds H5 nlt e5 p5 len5 g5 b5 plt => ?_⟩
      have S15 : Same H1 H5 := bs_same (bs_same (s2.trans s3) np b4) np b5
      have hds : us.length = ds.length := p5.length
      -- due
      refine ⟨_, rfl, lt, us, ds, rfl, e5, p5, by lia, fun ld ad H6 s6 nld nad L6 => ?_⟩
      have p5s : ∃ o, H5 p = some o := let ⟨_, _, _, e⟩ := g5; ⟨_, e⟩
      have ldp : ld ≠ p := fun z => by obtain ⟨o, e⟩ := p5s; rw [z, e] at nld; cases nld
      have adp : ∀ x ∈ ad, x ≠ p := fun x hx z => by obtain ⟨o, e⟩ := p5s; have := nad x hx; rw [z, e] at this; cases this
      -- objects
      refine ⟨_, rfl, _, rfl, p, lt, us, ds, rfl, g5.same s6, s6 _ _ e5, plt, Paired.mapP p5 fun _ _ h => h.kt (kt_same s6), len5, fun ls zs H7 nls e7 p7 g7 b7 pls => ?_⟩
      have np1 : H1 p = none := np
      have S17 : Same H1 H7 := bs_same (S15.trans s6) np1 b7
      have n1ls : H1 ls = none := none_of (S15.trans s6) nls
      have lds : ld ≠ ls := fun z => by rw [← z, L6.ls] at nls; cases nls
      have lts : lt ≠ ls := fun z => by have := s6 _ _ e5; rw [z, nls] at this; cases this
      have adls : ∀ x ∈ ad, x ≠ ls := fun x hx z => by
        obtain ⟨k, hk⟩ := List.mem_iff_getElem?.mp hx
        obtain ⟨y, _, hy⟩ := paired_at L6.it hk
        have hy' : H6 x = _ := hy
        rw [z, nls] at hy'
        cases hy'
      have L7 : LD H7 ld ad (dueM (ds.map mdOf) ds.length) := L6.but b7 ldp adp
      have t7 : H7 lt = some (.lst us) := b7 _ _ (s6 _ _ e5) plt.symm
      have q7 : Paired (TolD H7) us ds := Paired.mapP p5 fun _ _ h => h.kt ((kt_same s6).trans ((g5.same s6).kt b7))
      have hzs : zs.length = ds.length := p7.length
      clear L6 b7 g7 ldp adp nad nld p5s g5 b5 b4 g4 g3 g2 e3
      -- kept
      refine ⟨_, rfl, ls, zs, rfl, .inl ⟨SqL.of e7, fun t nt => ?_⟩⟩
      have s8 := same_new (o := .tup zs) nt
      have e8 : (upd H7 t (.tup zs)) t = some (.tup zs) := upd_same
      generalize upd H7 t (.tup zs) = H8 at *
      have els := s8 _ _ e7
      have tls : t ≠ ls := fun z => by rw [z, els] at e8; cases e8
      have L8 := L7.same s8
      have t8 := s8 _ _ t7
      have q8 : Paired (TolD H8) us ds := Paired.mapP q7 fun _ _ h => h.kt (kt_same s8)
      have o8 : Paired (ObT C H8) zs ds := Paired.mapP p7 fun _ _ h => h.same s8
      have S18 : Same H1 H8 := S17.trans s8
      clear L7 t7 q7 p7 s8 e7 nt S17
      have pks : ∀ {H' : Hp} {zs' : List V}, Paired (ObT C H') zs' ds → Paired (StepV C H') zs' (ds.map mdOf) := fun h => paired_mapR (Paired.mapP h fun _ _ o => o.sv)
      have hlm : (ds.map mdOf).length = ds.length := List.length_map ..
      have sml : ∀ xs ∈ dueM (ds.map mdOf) ds.length, xs.length ≤ 200 := fun xs hx => by have := due_small _ _ xs hx; lia
      -- found
      refine ⟨_, rfl, ls, zs, ds.map mdOf, rfl, .inl els, pks o8, by lia, fun lf af H9 s9 nlf hnf L9 => ?_⟩
      rw [hlm] at L9
      refine ⟨_, rfl, _, rfl, lf, ld, af, ad, _, rfl, ⟨L9.ls, L9.it⟩, L8.same s9, sml, fun H10 s10 => ⟨_, rfl, iteF ?_⟩⟩
      have s810 := s9.trans s10
      have els10 := s810 _ _ els
      -- what they tell
      refine ⟨_, rfl, ls, rfl, ⟨_, SqL.of els10⟩, ?_⟩
      refine lc_list (K := K) (a := ls) (xs := zs) (fun i ys H' => Same H10 H' ∧ Paired (TolD H') ys (ds.take i) ∧ ys.length = i) ⟨Same.refl _, .nil, rfl⟩ (fun i ys H' hi ⟨a1, a2, a3⟩ => ⟨SqL.of (a1 _ _ els10), by lia⟩) ?_ ?_
      · rintro j x ys H11 hx ⟨a1, a2, a3⟩
        have hj : j < zs.length := (List.getElem?_eq_some_iff.mp hx).1
        obtain ⟨d, hd, u, o⟩ := paired_at o8 hx
        have o11 := o.same (s810.trans a1)
        obtain ⟨_, pu, _, rfl⟩ := o11.ref
        obtain ⟨a, dx, fs, rfl, ha, hlk, _⟩ := o11.at2
        obtain ⟨f1, fd1, M1, F1, B1⟩ := U.told (kd d) (kd_lt d)
        refine ⟨trivial, tAny_T ?_⟩
        refine ⟨_, rfl, a, dx, C (kd d), f1, fs, fd1, ["self"], _, rfl, ha, hlk, T.cls _ (kd_lt d), M1, F1, B1, .ref a, pu, d, rfl, o11, rfl, fun pn xs npn hxs => ?_⟩
        have s12 := same_new (o := .tup xs) npn
        refine Nx.mk hj ⟨a1.trans s12, ?_, by rw [List.length_append, a3]; rfl⟩
        rw [List.take_succ, hd]
        exact paired_snoc (o11.tolD.copy hxs upd_same (kt_same s12)) (Paired.mapP a2 fun _ _ h => h.kt (kt_same s12))
      · rintro ys H11 ⟨a1, a2, a3⟩ D nD
        have ml : ds.take zs.length = ds := by rw [hzs]; exact List.take_length
        rw [ml] at a2
        have s12 := same_new (o := .lst ys) nD
        have e12 : (upd H11 D (.lst ys)) D = some (.lst ys) := upd_same
        generalize upd H11 D (.lst ys) = H12 at *
        have s812 := s810.trans (a1.trans s12)
        refine ⟨_, rfl, ne_told e12 (s812 _ _ t8) (Paired.mapP a2 fun _ _ h => h.kt (kt_same s12)) (Paired.mapP q8 fun _ _ h => h.kt (kt_same s812)) ⟨_, rfl, iteF ?_⟩⟩
        have s912 := s10.trans (a1.trans s12)
        -- changed
        have haf : af.length ≤ 200 := by
          have := L9.it.length
          have h2 := TK.dueB_len (numsM (ds.map mdOf) (ds.map mdOf).length) ds.length
          have h3 := TK.nums_pos (mtF (ds.map mdOf)) (ds.map mdOf).length
          have h4 : (numsM (ds.map mdOf) (ds.map mdOf).length).take ds.length = numsM (ds.map mdOf) (ds.map mdOf).length := List.take_of_length_le (by unfold numsM; rw [TK.nums_len, hlm]; exact Nat.le_refl _)
          rw [h4] at h2
          have h5 : (dueM (ds.map mdOf) ds.length).length = _ := h2
          have h6 : TK.tops (numsM (ds.map mdOf) (ds.map mdOf).length) ≤ (ds.map mdOf).length := h3
          lia
        refine ⟨_, rfl, lf, rfl, ⟨_, SqL.of (s912 _ _ L9.ls)⟩, ?_⟩
        refine for_list (K := K) (a := lf) (xs := af.map V.ref) (fun i σ H' => ∃ v1 v8 : Option V, σ = [some (.ref l), v1, some (.ref p), some (.ref lt), some (.ref ld), some (.ref ls), some (.ref t), some (.ref lf), v8] ∧ Same H8 H' ∧ H' lf = some (.lst (af.map V.ref)) ∧ ∀ b ∈ af, ∃ ys, H' b = some (.lst ys) ∧ ys.length ≤ 200 + i)
          ⟨_, _, rfl, s812, s912 _ _ L9.ls, fun b hb => by
            obtain ⟨k, hk⟩ := List.mem_iff_getElem?.mp hb
            obtain ⟨xs, hxs, hy⟩ := paired_at L9.it hk
            exact ⟨_, s912 _ _ hy, by rw [natV_len]; exact sml xs (List.mem_of_getElem? hxs)⟩⟩ (fun i σ H' _ ⟨_, _, _, _, e, _⟩ => SqL.of e) ?_ ?_
        · rintro j x σ H13 hx ⟨v1, v8, rfl, s13, e13, f13⟩
          rw [List.getElem?_map] at hx
          obtain ⟨b, hb, rfl⟩ := Option.map_eq_some_iff.mp hx
          have hj : j < af.length := (List.getElem?_eq_some_iff.mp hb).1
          have hm := List.mem_of_getElem? hb
          obtain ⟨ys', ey, ly⟩ := f13 b hm
          refine ⟨_, rfl, .inl ⟨rfl, _, SqL.of ey⟩, b, ys', _, rfl, rfl, ey, by lia, ?_⟩
          refine ⟨_, _, rfl, same_mut (L9.fr b hm) s13, ?_, fun c hc => ?_⟩
          · rw [upd_ne (fun z : lf = b => hnf (by rw [z]; exact hm))]
            exact e13
          · by_cases z : c = b
            · subst z
              exact ⟨_, upd_same, by rw [List.length_append]; show ys'.length + 1 ≤ _; lia⟩
            · obtain ⟨zs', ez, lz⟩ := f13 c hc
              exact ⟨zs', by rw [upd_ne z]; exact ez, by lia⟩
        · rintro σ H13 ⟨v1, v8, rfl, s13, e13, f13⟩
          refine ⟨_, rfl, .inl ⟨rfl, _, SqL.of e13⟩, lf, _, rfl, rfl, e13, ?_⟩
          have s14 : Same H8 (upd H13 lf (.lst [])) := same_mut nlf s13
          generalize upd H13 lf (.lst []) = H14 at *
          refine ⟨_, rfl, .inl ⟨rfl, _, SqL.of (s14 _ _ els)⟩, ls, _, rfl, rfl, s14 _ _ els, ?_⟩
          have b15 : But ls H8 (upd H14 ls (.lst [])) := fun c u e nc => by rw [upd_ne nc]; exact s14 c u e
          generalize upd H14 ls (.lst []) = H15 at *
          have S115 : Same H1 H15 := bs_same S18 n1ls b15
          have L15 : LD H15 ld ad (dueM (ds.map mdOf) ds.length) := L8.but b15 lds adls
          have kt15 : TupK H8 H15 := fun c xs e => b15 c _ e fun z => by rw [z, els] at e; cases e
          have o15 : Paired (ObT C H15) zs ds := Paired.mapP o8 fun _ _ ⟨u, o⟩ => ⟨u, o.kp (fun c C' dx fs e => b15 c _ e fun z => by rw [z, els] at e; cases e) kt15⟩
          have t15 : H15 lt = some (.lst us) := b15 _ _ t8 lts
          have q15 : Paired (TolD H15) us ds := Paired.mapP q8 fun _ _ h => h.kt kt15
          refine ⟨_, rfl, t, zs, ds.map mdOf, rfl, .inr (kt15 _ _ e8), pks o15, by lia, fun l1 a1 H16 s16 n16 hn16 L16 => ?_⟩
          rw [hlm] at L16
          refine ⟨_, rfl, l1, ld, a1, ad, _, rfl, ⟨L16.ls, L16.it⟩, L15.same s16, sml, fun H17 s17 => ⟨_, rfl, iteF ?_⟩⟩
          have s1517 := s16.trans s17
          have t17 := s1517 _ _ t15
          refine ⟨_, rfl, lt, rfl, ⟨_, SqL.of t17⟩, ?_⟩
          refine lc_list (K := K) (a := lt) (xs := us) (fun i ys H' => Same H17 H' ∧ Paired (ObT C H') ys (ds.take i) ∧ ys.length = i) ⟨Same.refl _, .nil, rfl⟩ (fun i ys H' hi ⟨a1, a2, a3⟩ => ⟨SqL.of (a1 _ _ t17), by lia⟩) ?_ ?_
          · rintro j x ys H18 hx ⟨a1, a2, a3⟩
            have hj : j < us.length := (List.getElem?_eq_some_iff.mp hx).1
            obtain ⟨d, hd, td⟩ := paired_at q15 hx
            refine ⟨trivial, tAny_T ?_⟩
            refine ⟨_, rfl, x, d, rfl, td.kt (kt_same (s1517.trans a1)), fun z H19 s19 hz => ?_⟩
            refine Nx.mk hj ⟨a1.trans s19, ?_, by rw [List.length_append, a3]; rfl⟩
            rw [List.take_succ, hd]
            exact paired_snoc ⟨_, hz⟩ (Paired.mapP a2 fun _ _ h => h.same s19)
          · rintro zs2 H18 ⟨a1, a2, a3⟩ D2 nD2
            have ml2 : ds.take us.length = ds := by rw [hds]; exact List.take_length
            rw [ml2] at a2
            have s19 := same_new (o := .lst zs2) nD2
            have e19 : (upd H18 D2 (.lst zs2)) D2 = some (.lst zs2) := upd_same
            generalize upd H18 D2 (.lst zs2) = H19 at *
            have s1519 := s1517.trans (a1.trans s19)
            refine ⟨D2, zs2, ds.map mdOf, rfl, .inl e19, pks (Paired.mapP a2 fun _ _ h => h.same s19), by lia, fun l2 a2' H20 s20 n20 hn20 L20 => ?_⟩
            rw [hlm] at L20
            refine ⟨_, rfl, l2, ld, a2', ad, _, rfl, ⟨L20.ls, L20.it⟩, L15.same (s1519.trans s20), sml, fun H21 s21 => ⟨_, rfl, iteF ?_⟩⟩
            exact ⟨_, _, _, _, _, _, _, _, rfl, s1.trans (S115.trans (s1519.trans (s20.trans s21)))⟩
    · rintro σ H1 ⟨v1, v2, v3, v4, v5, v6, v7, v8, rfl, s1⟩
      have eqn : ∀ {H' : Hp} {l1 l2 : Addr} {a1 : List Addr} {Q' : VK}, LL H' H' l1 a1 [] ∨ LD H' l1 a1 [] → H' l2 = some (.lst []) → Q' (.bl true) H' → rEqD K (.ref l1) (.ref l2) H' Q' := fun {H' l1 l2 a1 Q'} h e q' => by
        have e1 : H' l1 = some (.lst []) := by
          rcases h with h | h
          · have := h.it; cases this; exact h.ls
          · have := h.it; cases this; exact h.ls
        exact ⟨_, _, .lst (SqL.of e1) .nil, .lst (SqL.of e) .nil, rfl, rfl, by decide, q'⟩
      have d0 : dueM [] ([] : List Md).length = [] := rfl
      refine ⟨(by show 0 ≤ sizeLine; decide), fun l0 n0 => ?_⟩
      have e0 : (upd H1 l0 (.lst [])) l0 = some (.lst []) := upd_same
      generalize upd H1 l0 (.lst []) = H2 at *
      refine ⟨l0, [], [], rfl, .inl e0, .nil, Nat.zero_le _, fun l1 a1 H3 s3 n1 hn1 L3 => ?_⟩
      refine ⟨(by show 0 ≤ sizeLine; decide), fun l2 n2 => ?_⟩
      have s4 := same_new (o := .lst []) n2
      have e4 : (upd H3 l2 (.lst [])) l2 = some (.lst []) := upd_same
      generalize upd H3 l2 (.lst []) = H4 at *
      have L4 : LD H4 l1 a1 [] := LD.same s4 ⟨L3.ls, L3.it⟩
      refine eqn (.inr L4) e4 ⟨_, rfl, iteT ?_⟩
      refine ⟨(by show 0 ≤ sizeLine; decide), fun l5 n5 => ?_⟩
      have e5 : (upd H4 l5 (.tup [])) l5 = some (.tup []) := upd_same
      generalize upd H4 l5 (.tup []) = H5 at *
      refine ⟨l5, [], [], rfl, .inr e5, .nil, Nat.zero_le _, fun l6 a6 H6 s6 n6 hn6 L6 => ?_⟩
      refine ⟨(by show 0 ≤ sizeLine; decide), fun l7 n7 => ?_⟩
      have s7 := same_new (o := .lst []) n7
      have e7 : (upd H6 l7 (.lst [])) l7 = some (.lst []) := upd_same
      generalize upd H6 l7 (.lst []) = H7 at *
      exact eqn (.inr (LD.same s7 ⟨L6.ls, L6.it⟩)) e7 (q _)
end
end L3
namespace L3
open PySem L2
def DefIn (K : PySem.W.Frag) (x : Str) (st : Stmt) (f : Addr) : Prop :=
  PySem.W.nsIn K mainGlobals x = some (some (.ref f)) ∧ ∃ fd : FuncData, Fun K x x st f fd
theorem def_mk {K : PySem.W.Frag} {x : Str} {st : Stmt} {f : Addr} {oc : Value} {od an : Option Addr} {osl : Array (Option Value)} {kV doc pm cdv ct : Value} (a : PySem.W.nsIn K mainGlobals x = some (some (.ref f)))
    (l : K.lookup f = some ⟨oc, od, .func (PySem.W.fnOf x x (defArgs st) (defBody st) (defScope st) .none kV doc pm an cdv ct), osl⟩) (c : PySem.W.codeIn K cdv x = true) (k : PySem.W.keepIn K (.ref f) = true) : DefIn K x st f := ⟨a, _, fun_mk l c k⟩
theorem fn_mk {P : Program} {w : World} {K : PySem.W.Frag} {mg : Str → Option Value} {base h : Heap} {x : Str} {st : Stmt} {f : Addr} {k : Nat} {ps : List Str} {sp : Sp} (X : K.In h) (G : h.Ns mainGlobals mg) (D : DefIn K x st f)
    (hb : ∀ (kV doc pm : Value) (an : Option Addr) (cdv ct : Value) (us : List Value), us.length = ps.length → bindArgs (PySem.W.fnOf x x (defArgs st) (defBody st) (defScope st) .none kV doc pm an cdv ct) ⟨us, []⟩ = pure (ps.zip us))
    (ok : ∀ fd, Fun K x x st f fd → FnOk P w K mg base CX0 k f fd ps sp) : Fn P w K mg base x k ps sp := by
  obtain ⟨a, fd, F⟩ := D
  exact ⟨f, fd, PySem.W.mg_of X G a, F.kp, F.binds hb, ok fd F⟩
structure MIn (K : PySem.W.Frag) (x qual : Str) (st : Stmt) (f : Addr) : Prop where
  fu : ∃ fd : FuncData, Fun K x qual st f fd
  fn : PySem.W.isFn K (.ref f) = true
theorem min_mk {K : PySem.W.Frag} {x qual : Str} {st : Stmt} {f : Addr} {oc : Value} {od an : Option Addr} {osl : Array (Option Value)} {kV doc pm cdv ct : Value}
    (l : K.lookup f = some ⟨oc, od, .func (PySem.W.fnOf x qual (defArgs st) (defBody st) (defScope st) .none kV doc pm an cdv ct), osl⟩) (c : PySem.W.codeIn K cdv qual = true) (k : PySem.W.keepIn K (.ref f) = true) (n : PySem.W.isFn K (.ref f) = true) : MIn K x qual st f := ⟨⟨_, fun_mk l c k⟩, n⟩
theorem mth_mk {P : Program} {w : World} {K : PySem.W.Frag} {mg : Str → Option Value} {base : Heap} {Cc f : Addr} {x qual : Str} {st : Stmt} {k : Nat} {ps : List Str} {sp : Sp} (a : PySem.W.findIn K (.ref Cc) x = some (some (.ref f))) (D : MIn K x qual st f)
    (hb : ∀ (kV doc pm : Value) (an : Option Addr) (cdv ct : Value) (us : List Value), us.length = ps.length → bindArgs (PySem.W.fnOf x qual (defArgs st) (defBody st) (defScope st) .none kV doc pm an cdv ct) ⟨us, []⟩ = pure (ps.zip us))
    (ok : ∀ fd, Fun K x qual st f fd → FnOk P w K mg base CX0 k f fd ps sp) : MthOk P w K mg base Cc x k ps sp := by
  obtain ⟨⟨fd, F⟩, n⟩ := D
  exact ⟨f, fd, ⟨a, n, F.kp⟩, ok fd F, F.binds hb⟩
theorem ini_mk {P : Program} {w : World} {K : PySem.W.Frag} {mg : Str → Option Value} {base : Heap} {f : Addr} {x qual : Str} {st : Stmt} {ps : List Str} {sp : Sp} (D : MIn K x qual st f)
    (hb : ∀ (kV doc pm : Value) (an : Option Addr) (cdv ct : Value) (us : List Value), us.length = ps.length → bindArgs (PySem.W.fnOf x qual (defArgs st) (defBody st) (defScope st) .none kV doc pm an cdv ct) ⟨us, []⟩ = pure (ps.zip us))
    (ok : ∀ fd, Fun K x qual st f fd → FnOk P w K mg base CX0 1 f fd ps sp) : IniOk P w K mg base f ps sp := by
  obtain ⟨⟨fd, F⟩, n⟩ := D
  exact ⟨fd, ok fd F, F.binds hb⟩
def NaAll (K : PySem.W.Frag) (c : Addr) : List Str → Prop
  | [] => True
  | f :: r => NoAttr K c f ∧ NaAll K c r
theorem NaAll.get {K : PySem.W.Frag} {c : Addr} : ∀ {l : List Str}, NaAll K c l → ∀ f ∈ l, NoAttr K c f
  | _ :: _, h, f, hf => by
    rcases List.mem_cons.mp hf with rfl | z
    · exact h.1
    · exact NaAll.get h.2 f z
structure CK (K : PySem.W.Frag) (n : Str) (c i : Addr) (fl : List Str) (uw so tg to rd wr td : Addr) : Prop where
  ns : PySem.W.nsIn K mainGlobals n = some (some (.ref c))
  cls : Cls K c
  na : NaAll K c fl
  mk_ : Mk K c i
  uw_ : PySem.W.findIn K (.ref c) "uses_way" = some (some (.ref uw))
  so_ : PySem.W.findIn K (.ref c) "sources" = some (some (.ref so))
  tg_ : PySem.W.findIn K (.ref c) "targets" = some (some (.ref tg))
  to_ : PySem.W.findIn K (.ref c) "touched" = some (some (.ref to))
  rd_ : PySem.W.findIn K (.ref c) "reads" = some (some (.ref rd))
  wr_ : PySem.W.findIn K (.ref c) "writes" = some (some (.ref wr))
  td_ : PySem.W.findIn K (.ref c) "told" = some (some (.ref td))
def seven (a b c d e f g : Addr) : Nat → Addr
  | 0 => a
  | 1 => b
  | 2 => c
  | 3 => d
  | 4 => e
  | 5 => f
  | _ => g
theorem lt7 {p : Nat → Prop} (h0 : p 0) (h1 : p 1) (h2 : p 2) (h3 : p 3) (h4 : p 4) (h5 : p 5) (h6 : p 6) : ∀ k, k < 7 → p k := by
  intro k hk
  rcases (by lia : k = 0 ∨ k = 1 ∨ k = 2 ∨ k = 3 ∨ k = 4 ∨ k = 5 ∨ k = 6) with rfl | rfl | rfl | rfl | rfl | rfl | rfl <;> assumption
set_option maxHeartbeats 8000000 in
theorem all_mk {l : PySem.W.OpenLaw} {w : World} {K : PySem.W.Frag} {h : Heap} {mg : Str → Option Value} {fa aO c0 c1 c2 c3 c4 c5 c6 i0 i1 i2 i3 i4 i5 i6 tS t0 t1 t2 t3 oS o2 o4 o5 o3 o6 uS u3 fT fR fW q0 q1 q2 q3 q4 q5 q6 f0 f1 f2 f3 f4 f5 f6 f7 f8 f9 f10 f11 f12 f13 f14 f15 f16 f17 f18 f19 f20 f21 f22 f23 f24 f25 f26 e1 e2 e3 e4 e5 e6 e7 e8 e9 : Addr} {k1 k2 k3 k4 : Tok} (X : K.In h) (G : h.Ns mainGlobals mg) (hfa : mg "law" = some (.ref fa))
    (d0 : DefIn K "is_whole" sWhole f0)
    (d1 : DefIn K "is_within" sWithin f1)
    (d2 : DefIn K "ops_told" sOps f2)
    (d3 : DefIn K "is_headed" sHeaded f3)
    (d4 : DefIn K "is_inner" sInner f4)
    (d5 : DefIn K "is_field" sField f5)
    (d6 : DefIn K "is_sel" sSel f6)
    (d7 : DefIn K "is_source" sSource f7)
    (d8 : DefIn K "is_step" sIsStep f8)
    (d9 : DefIn K "step_of" sStepOf f9)
    (d10 : DefIn K "meets" sMeets f10)
    (d11 : DefIn K "touches" sTouches f11)
    (d12 : DefIn K "packed" sPacked f12)
    (d13 : DefIn K "beats_told" sBeats f13)
    (d14 : DefIn K "_law_cell" sCell f14)
    (d15 : DefIn K "_law_stream" sStream f15)
    (d16 : DefIn K "_law_take" sTake f16)
    (d17 : DefIn K "_law_source" sLSource f17)
    (d18 : DefIn K "_law_sel" sLSel f18)
    (d19 : DefIn K "_law_step" sLStep f19)
    (d20 : DefIn K "_law_steps" sLSteps f20)
    (d21 : DefIn K "_law_objects" sLObjects f21)
    (d22 : DefIn K "_law_touched" sLTouched f22)
    (d23 : DefIn K "_law_meet" sLMeet f23)
    (d24 : DefIn K "_law_due" sLDue f24)
    (d25 : DefIn K "_law_same" sLSame f25)
    (d26 : DefIn K "law" sLaw f26)
    (C0 : CK K "Get" c0 i0 ["to", "sel"] uS oS t0 fT fR fW q0) (I0 : MIn K "__init__" "Get.__init__" sI0 i0) (Q0 : MIn K "told" "Get.told" sTo0 q0)
    (C1 : CK K "Ask" c1 i1 ["to", "sel"] uS oS t1 fT fR fW q1) (I1 : MIn K "__init__" "Ask.__init__" sI1 i1) (Q1 : MIn K "told" "Ask.told" sTo1 q1)
    (C2 : CK K "Cell" c2 i2 ["to", "source"] uS o2 t2 fT fR fW q2) (I2 : MIn K "__init__" "Cell.__init__" sI2 i2) (Q2 : MIn K "told" "Cell.told" sTo2 q2)
    (C3 : CK K "Two" c3 i3 ["to", "op", "one", "other"] u3 o3 t3 fT fR fW q3) (I3 : MIn K "__init__" "Two.__init__" sI3 i3) (Q3 : MIn K "told" "Two.told" sTo3 q3)
    (C4 : CK K "Put" c4 i4 ["sel", "source"] uS o4 tS fT fR fW q4) (I4 : MIn K "__init__" "Put.__init__" sI4 i4) (Q4 : MIn K "told" "Put.told" sTo4 q4)
    (C5 : CK K "Tell" c5 i5 ["sel", "source"] uS o5 tS fT fR fW q5) (I5 : MIn K "__init__" "Tell.__init__" sI5 i5) (Q5 : MIn K "told" "Tell.told" sTo5 q5)
    (C6 : CK K "Store" c6 i6 ["at", "source"] uS o6 tS fT fR fW q6) (I6 : MIn K "__init__" "Store.__init__" sI6 i6) (Q6 : MIn K "told" "Store.told" sTo6 q6)
    (mtS : MIn K "targets" "Step.targets" sTgS tS)
    (mt0 : MIn K "targets" "Get.targets" sTg0 t0)
    (mt1 : MIn K "targets" "Ask.targets" sTg1 t1)
    (mt2 : MIn K "targets" "Cell.targets" sTg2 t2)
    (mt3 : MIn K "targets" "Two.targets" sTg3 t3)
    (moS : MIn K "sources" "Step.sources" sSoS oS)
    (mo2 : MIn K "sources" "Cell.sources" sSo2 o2)
    (mo4 : MIn K "sources" "Put.sources" sSo4 o4)
    (mo5 : MIn K "sources" "Tell.sources" sSo5 o5)
    (mo3 : MIn K "sources" "Two.sources" sSo3 o3)
    (mo6 : MIn K "sources" "Store.sources" sSo6 o6)
    (muS : MIn K "uses_way" "Step.uses_way" sUwS uS)
    (mu3 : MIn K "uses_way" "Two.uses_way" sUw3 u3)
    (mT : MIn K "touched" "Step.touched" sTouched fT) (mR : MIn K "reads" "Step.reads" sReads fR) (mW : MIn K "writes" "Step.writes" sWrites fW)
    (n1 : PySem.W.nsIn K mainGlobals "HIGHEST_INNER" = some (some (.int 7 k1))) (n2 : PySem.W.nsIn K mainGlobals "HIGHEST_WORD" = some (some (.int 16777215 k2))) (n3 : PySem.W.nsIn K mainGlobals "HIGHEST_FIELD" = some (some (.int 2 k3))) (n4 : PySem.W.nsIn K mainGlobals "HIGHEST_SELECTED" = some (some (.int 3 k4)))
    (aOps : PySem.W.nsIn K mainGlobals "OPS" = some (some (.ref aO))) (dO : TopDict w K aO [("+", .ref e1), ("-", .ref e2), ("&", .ref e3), ("|", .ref e4), ("^", .ref e5), ("<<", .ref e6), (">>", .ref e7), ("<", .ref e8), ("=", .ref e9)]) (lo : (aO == sysModules) = false)
    (z1 : PySem.W.nsIn K mainGlobals "len" = some none)
    (z2 : PySem.W.nsIn K mainGlobals "int" = some none)
    (z3 : PySem.W.nsIn K mainGlobals "max" = some none)
    (z4 : PySem.W.nsIn K mainGlobals "min" = some none)
    (z5 : PySem.W.nsIn K mainGlobals "range" = some none)
    (z6 : PySem.W.nsIn K mainGlobals "isinstance" = some none)
    (z7 : PySem.W.nsIn K mainGlobals "list" = some none)
    (z8 : PySem.W.nsIn K mainGlobals "str" = some none)
    (z9 : PySem.W.nsIn K mainGlobals "bool" = some none)
    (z10 : PySem.W.nsIn K mainGlobals "tuple" = some none)
    (z11 : PySem.W.nsIn K mainGlobals "all" = some none)
    (z12 : PySem.W.nsIn K mainGlobals "sorted" = some none)
    (z13 : PySem.W.nsIn K mainGlobals "set" = some none)
    (z14 : PySem.W.nsIn K mainGlobals "any" = some none)
    (z15 : PySem.W.nsIn K mainGlobals "enumerate" = some none)
    (z16 : PySem.W.nsIn K mainGlobals "reversed" = some none) :
    ∃ fd : FuncData, (∀ (s : Shared) (v : Value), BindsTo s fd ⟨[v], []⟩ [("_law_script", v)]) ∧ ∀ base : Heap, K.In base → base.Ns mainGlobals mg → FnOk l.prog w K mg base CX0 8 fa fd ["_law_script"] (spLaw K) := by
  have B : Bl mg := ⟨PySem.W.mg_none_of X G z1, PySem.W.mg_none_of X G z2, PySem.W.mg_none_of X G z3, PySem.W.mg_none_of X G z4, PySem.W.mg_none_of X G z5, PySem.W.mg_none_of X G z6, PySem.W.mg_none_of X G z7, PySem.W.mg_none_of X G z8, PySem.W.mg_none_of X G z9, PySem.W.mg_none_of X G z10, PySem.W.mg_none_of X G z11⟩
  have B2 : Bl2 mg := ⟨PySem.W.mg_none_of X G z12, PySem.W.mg_none_of X G z13, PySem.W.mg_none_of X G z14, PySem.W.mg_none_of X G z15, PySem.W.mg_none_of X G z16⟩
  have fsv : ∃ fs : Str → V, Cst K mg w aO k1 k2 k3 k4 fs := ⟨fun x => (([("+", .ref e1), ("-", .ref e2), ("&", .ref e3), ("|", .ref e4), ("^", .ref e5), ("<<", .ref e6), (">>", .ref e7), ("<", .ref e8), ("=", .ref e9)] : List (Str × V)).lookup x).getD .non, PySem.W.mg_of X G n1, PySem.W.mg_of X G n2, PySem.W.mg_of X G n3, PySem.W.mg_of X G n4, PySem.W.mg_of X G aOps, dO, lo⟩
  obtain ⟨fs, Z⟩ := fsv
  have T : Ct K mg (seven c0 c1 c2 c3 c4 c5 c6) (seven i0 i1 i2 i3 i4 i5 i6) := ⟨lt7 C0.cls C1.cls C2.cls C3.cls C4.cls C5.cls C6.cls, lt7 C0.na.get C1.na.get C2.na.get C3.na.get C4.na.get C5.na.get C6.na.get, lt7 C0.mk_ C1.mk_ C2.mk_ C3.mk_ C4.mk_ C5.mk_ C6.mk_, lt7 (PySem.W.mg_of X G C0.ns) (PySem.W.mg_of X G C1.ns) (PySem.W.mg_of X G C2.ns) (PySem.W.mg_of X G C3.ns) (PySem.W.mg_of X G C4.ns) (PySem.W.mg_of X G C5.ns) (PySem.W.mg_of X G C6.ns)⟩
  obtain ⟨a14, fd, F⟩ := d26
  have e := hfa.symm.trans (PySem.W.mg_of X G a14)
  cases e
  obtain ⟨oc, od, kV, doc, pm, an, cdv, ct, osl, rfl, lk, hcd⟩ := id F.ex
  refine ⟨PySem.W.fnOf "law" "law" (defArgs sLaw) (defBody sLaw) (defScope sLaw) .none kV doc pm an cdv ct, fun s v => .of_eq rfl, fun base _ _ => ?_⟩
  have U : Mts l.prog w K mg base (seven c0 c1 c2 c3 c4 c5 c6) := ⟨lt7 ⟨[0, 1, 2, 4, 5, 6], by decide, mth_mk C0.uw_ muS (fun _ _ _ _ _ _ us hl => match us, hl with | [_], _ => rfl) (fun fd F => ok_UwS F T)⟩ ⟨[0, 1, 2, 4, 5, 6], by decide, mth_mk C1.uw_ muS (fun _ _ _ _ _ _ us hl => match us, hl with | [_], _ => rfl) (fun fd F => ok_UwS F T)⟩ ⟨[0, 1, 2, 4, 5, 6], by decide, mth_mk C2.uw_ muS (fun _ _ _ _ _ _ us hl => match us, hl with | [_], _ => rfl) (fun fd F => ok_UwS F T)⟩ ⟨[3], by decide, mth_mk C3.uw_ mu3 (fun _ _ _ _ _ _ us hl => match us, hl with | [_], _ => rfl) (fun fd F => ok_Uw3 F T)⟩ ⟨[0, 1, 2, 4, 5, 6], by decide, mth_mk C4.uw_ muS (fun _ _ _ _ _ _ us hl => match us, hl with | [_], _ => rfl) (fun fd F => ok_UwS F T)⟩ ⟨[0, 1, 2, 4, 5, 6], by decide, mth_mk C5.uw_ muS (fun _ _ _ _ _ _ us hl => match us, hl with | [_], _ => rfl) (fun fd F => ok_UwS F T)⟩ ⟨[0, 1, 2, 4, 5, 6], by decide, mth_mk C6.uw_ muS (fun _ _ _ _ _ _ us hl => match us, hl with | [_], _ => rfl) (fun fd F => ok_UwS F T)⟩,
    lt7 ⟨[0, 1], by decide, mth_mk C0.so_ moS (fun _ _ _ _ _ _ us hl => match us, hl with | [_], _ => rfl) (fun fd F => ok_SoS F T)⟩ ⟨[0, 1], by decide, mth_mk C1.so_ moS (fun _ _ _ _ _ _ us hl => match us, hl with | [_], _ => rfl) (fun fd F => ok_SoS F T)⟩ ⟨[2], by decide, mth_mk C2.so_ mo2 (fun _ _ _ _ _ _ us hl => match us, hl with | [_], _ => rfl) (fun fd F => ok_So2 F T)⟩ ⟨[3], by decide, mth_mk C3.so_ mo3 (fun _ _ _ _ _ _ us hl => match us, hl with | [_], _ => rfl) (fun fd F => ok_So3 F T)⟩ ⟨[4], by decide, mth_mk C4.so_ mo4 (fun _ _ _ _ _ _ us hl => match us, hl with | [_], _ => rfl) (fun fd F => ok_So4 F T)⟩ ⟨[5], by decide, mth_mk C5.so_ mo5 (fun _ _ _ _ _ _ us hl => match us, hl with | [_], _ => rfl) (fun fd F => ok_So5 F T)⟩ ⟨[6], by decide, mth_mk C6.so_ mo6 (fun _ _ _ _ _ _ us hl => match us, hl with | [_], _ => rfl) (fun fd F => ok_So6 F T)⟩,
    lt7 ⟨[0], by decide, mth_mk C0.tg_ mt0 (fun _ _ _ _ _ _ us hl => match us, hl with | [_], _ => rfl) (fun fd F => ok_Tg0 F T)⟩ ⟨[1], by decide, mth_mk C1.tg_ mt1 (fun _ _ _ _ _ _ us hl => match us, hl with | [_], _ => rfl) (fun fd F => ok_Tg1 F T)⟩ ⟨[2], by decide, mth_mk C2.tg_ mt2 (fun _ _ _ _ _ _ us hl => match us, hl with | [_], _ => rfl) (fun fd F => ok_Tg2 F T)⟩ ⟨[3], by decide, mth_mk C3.tg_ mt3 (fun _ _ _ _ _ _ us hl => match us, hl with | [_], _ => rfl) (fun fd F => ok_Tg3 F T)⟩ ⟨[4, 5, 6], by decide, mth_mk C4.tg_ mtS (fun _ _ _ _ _ _ us hl => match us, hl with | [_], _ => rfl) (fun fd F => ok_TgS F T)⟩ ⟨[4, 5, 6], by decide, mth_mk C5.tg_ mtS (fun _ _ _ _ _ _ us hl => match us, hl with | [_], _ => rfl) (fun fd F => ok_TgS F T)⟩ ⟨[4, 5, 6], by decide, mth_mk C6.tg_ mtS (fun _ _ _ _ _ _ us hl => match us, hl with | [_], _ => rfl) (fun fd F => ok_TgS F T)⟩⟩
  have U2 : Mts2 l.prog w K mg base (seven c0 c1 c2 c3 c4 c5 c6) := ⟨U, lt7 (mth_mk C0.to_ mT (fun _ _ _ _ _ _ us hl => match us, hl with | [_, _], _ => rfl) (fun fd F => ok_touched F T B2 U)) (mth_mk C1.to_ mT (fun _ _ _ _ _ _ us hl => match us, hl with | [_, _], _ => rfl) (fun fd F => ok_touched F T B2 U)) (mth_mk C2.to_ mT (fun _ _ _ _ _ _ us hl => match us, hl with | [_, _], _ => rfl) (fun fd F => ok_touched F T B2 U)) (mth_mk C3.to_ mT (fun _ _ _ _ _ _ us hl => match us, hl with | [_, _], _ => rfl) (fun fd F => ok_touched F T B2 U)) (mth_mk C4.to_ mT (fun _ _ _ _ _ _ us hl => match us, hl with | [_, _], _ => rfl) (fun fd F => ok_touched F T B2 U)) (mth_mk C5.to_ mT (fun _ _ _ _ _ _ us hl => match us, hl with | [_, _], _ => rfl) (fun fd F => ok_touched F T B2 U)) (mth_mk C6.to_ mT (fun _ _ _ _ _ _ us hl => match us, hl with | [_, _], _ => rfl) (fun fd F => ok_touched F T B2 U))⟩
  have U3 : Mts3 l.prog w K mg base (seven c0 c1 c2 c3 c4 c5 c6) := ⟨lt7 (mth_mk C0.rd_ mR (fun _ _ _ _ _ _ us hl => match us, hl with | [_], _ => rfl) (fun fd F => ok_reads F T U2)) (mth_mk C1.rd_ mR (fun _ _ _ _ _ _ us hl => match us, hl with | [_], _ => rfl) (fun fd F => ok_reads F T U2)) (mth_mk C2.rd_ mR (fun _ _ _ _ _ _ us hl => match us, hl with | [_], _ => rfl) (fun fd F => ok_reads F T U2)) (mth_mk C3.rd_ mR (fun _ _ _ _ _ _ us hl => match us, hl with | [_], _ => rfl) (fun fd F => ok_reads F T U2)) (mth_mk C4.rd_ mR (fun _ _ _ _ _ _ us hl => match us, hl with | [_], _ => rfl) (fun fd F => ok_reads F T U2)) (mth_mk C5.rd_ mR (fun _ _ _ _ _ _ us hl => match us, hl with | [_], _ => rfl) (fun fd F => ok_reads F T U2)) (mth_mk C6.rd_ mR (fun _ _ _ _ _ _ us hl => match us, hl with | [_], _ => rfl) (fun fd F => ok_reads F T U2)), lt7 (mth_mk C0.wr_ mW (fun _ _ _ _ _ _ us hl => match us, hl with | [_], _ => rfl) (fun fd F => ok_writes F T U2)) (mth_mk C1.wr_ mW (fun _ _ _ _ _ _ us hl => match us, hl with | [_], _ => rfl) (fun fd F => ok_writes F T U2)) (mth_mk C2.wr_ mW (fun _ _ _ _ _ _ us hl => match us, hl with | [_], _ => rfl) (fun fd F => ok_writes F T U2)) (mth_mk C3.wr_ mW (fun _ _ _ _ _ _ us hl => match us, hl with | [_], _ => rfl) (fun fd F => ok_writes F T U2)) (mth_mk C4.wr_ mW (fun _ _ _ _ _ _ us hl => match us, hl with | [_], _ => rfl) (fun fd F => ok_writes F T U2)) (mth_mk C5.wr_ mW (fun _ _ _ _ _ _ us hl => match us, hl with | [_], _ => rfl) (fun fd F => ok_writes F T U2)) (mth_mk C6.wr_ mW (fun _ _ _ _ _ _ us hl => match us, hl with | [_], _ => rfl) (fun fd F => ok_writes F T U2))⟩
  have U5 : Mts5 l.prog w K mg base (seven c0 c1 c2 c3 c4 c5 c6) := ⟨lt7 (mth_mk C0.td_ Q0 (fun _ _ _ _ _ _ us hl => match us, hl with | [_], _ => rfl) (fun fd F => ok_To0 F T)) (mth_mk C1.td_ Q1 (fun _ _ _ _ _ _ us hl => match us, hl with | [_], _ => rfl) (fun fd F => ok_To1 F T)) (mth_mk C2.td_ Q2 (fun _ _ _ _ _ _ us hl => match us, hl with | [_], _ => rfl) (fun fd F => ok_To2 F T)) (mth_mk C3.td_ Q3 (fun _ _ _ _ _ _ us hl => match us, hl with | [_], _ => rfl) (fun fd F => ok_To3 F T)) (mth_mk C4.td_ Q4 (fun _ _ _ _ _ _ us hl => match us, hl with | [_], _ => rfl) (fun fd F => ok_To4 F T)) (mth_mk C5.td_ Q5 (fun _ _ _ _ _ _ us hl => match us, hl with | [_], _ => rfl) (fun fd F => ok_To5 F T)) (mth_mk C6.td_ Q6 (fun _ _ _ _ _ _ us hl => match us, hl with | [_], _ => rfl) (fun fd F => ok_To6 F T))⟩
  have WH := fn_mk (P := l.prog) (w := w) (base := base) X G d0 (fun _ _ _ _ _ _ us hl => match us, hl with | [_], _ => rfl) (fun fd F => ok_whole F B)
  have WI := fn_mk (P := l.prog) (w := w) (base := base) X G d1 (fun _ _ _ _ _ _ us hl => match us, hl with | [_, _, _], _ => rfl) (fun fd F => ok_within F WH)
  have OP := fn_mk (P := l.prog) (w := w) (base := base) X G d2 (fun _ _ _ _ _ _ us hl => match us, hl with | [], _ => rfl) (fun fd F => ok_ops F B Z)
  have HD := fn_mk (P := l.prog) (w := w) (base := base) X G d3 (fun _ _ _ _ _ _ us hl => match us, hl with | [_, _, _], _ => rfl) (fun fd F => ok_headed F B)
  have IN := fn_mk (P := l.prog) (w := w) (base := base) X G d4 (fun _ _ _ _ _ _ us hl => match us, hl with | [_], _ => rfl) (fun fd F => ok_inner F Z WI)
  have FI := fn_mk (P := l.prog) (w := w) (base := base) X G d5 (fun _ _ _ _ _ _ us hl => match us, hl with | [_], _ => rfl) (fun fd F => ok_field F Z WI)
  have SE := fn_mk (P := l.prog) (w := w) (base := base) X G d6 (fun _ _ _ _ _ _ us hl => match us, hl with | [_], _ => rfl) (fun fd F => ok_sel F Z WI HD FI)
  have SO := fn_mk (P := l.prog) (w := w) (base := base) X G d7 (fun _ _ _ _ _ _ us hl => match us, hl with | [_], _ => rfl) (fun fd F => ok_source F Z WI HD FI IN)
  have IS := fn_mk (P := l.prog) (w := w) (base := base) X G d8 (fun _ _ _ _ _ _ us hl => match us, hl with | [_], _ => rfl) (fun fd F => ok_isStep F HD IN SE SO OP)
  have J0 := ini_mk (P := l.prog) (w := w) (mg := mg) (base := base) I0 (fun _ _ _ _ _ _ us hl => match us, hl with | [_, _, _], _ => rfl) (fun fd F => ok_I0 F T)
  have J1 := ini_mk (P := l.prog) (w := w) (mg := mg) (base := base) I1 (fun _ _ _ _ _ _ us hl => match us, hl with | [_, _, _], _ => rfl) (fun fd F => ok_I1 F T)
  have J2 := ini_mk (P := l.prog) (w := w) (mg := mg) (base := base) I2 (fun _ _ _ _ _ _ us hl => match us, hl with | [_, _, _], _ => rfl) (fun fd F => ok_I2 F T)
  have J3 := ini_mk (P := l.prog) (w := w) (mg := mg) (base := base) I3 (fun _ _ _ _ _ _ us hl => match us, hl with | [_, _, _, _, _], _ => rfl) (fun fd F => ok_I3 F T)
  have J4 := ini_mk (P := l.prog) (w := w) (mg := mg) (base := base) I4 (fun _ _ _ _ _ _ us hl => match us, hl with | [_, _, _], _ => rfl) (fun fd F => ok_I4 F T)
  have J5 := ini_mk (P := l.prog) (w := w) (mg := mg) (base := base) I5 (fun _ _ _ _ _ _ us hl => match us, hl with | [_, _, _], _ => rfl) (fun fd F => ok_I5 F T)
  have J6 := ini_mk (P := l.prog) (w := w) (mg := mg) (base := base) I6 (fun _ _ _ _ _ _ us hl => match us, hl with | [_, _, _], _ => rfl) (fun fd F => ok_I6 F T)
  have SF := fn_mk (P := l.prog) (w := w) (base := base) X G d9 (fun _ _ _ _ _ _ us hl => match us, hl with | [_], _ => rfl) (fun fd F => ok_stepOf F T IS J0 J1 J2 J3 J4 J5 J6)
  have TC := fn_mk (P := l.prog) (w := w) (base := base) X G d11 (fun _ _ _ _ _ _ us hl => match us, hl with | [_, _], _ => rfl) (fun fd F => ok_touches F T B2 U3)
  have ME := fn_mk (P := l.prog) (w := w) (base := base) X G d10 (fun _ _ _ _ _ _ us hl => match us, hl with | [_, _], _ => rfl) (fun fd F => ok_meets F T U3 TC)
  have BT := fn_mk (P := l.prog) (w := w) (base := base) X G d13 (fun _ _ _ _ _ _ us hl => match us, hl with | [_], _ => rfl) (fun fd F => ok_beats F B B2 ME)
  have PK := fn_mk (P := l.prog) (w := w) (base := base) X G d12 (fun _ _ _ _ _ _ us hl => match us, hl with | [_], _ => rfl) (fun fd F => ok_packed F B B2 BT)
  have CL := fn_mk (P := l.prog) (w := w) (base := base) X G d14 (fun _ _ _ _ _ _ us hl => match us, hl with | [_, _], _ => rfl) (fun fd F => ok_cell F B)
  have ST := fn_mk (P := l.prog) (w := w) (base := base) X G d15 (fun _ _ _ _ _ _ us hl => match us, hl with | [_], _ => rfl) (fun fd F => ok_stream F B)
  have TK1 := fn_mk (P := l.prog) (w := w) (base := base) X G d16 (fun _ _ _ _ _ _ us hl => match us, hl with | [_, _], _ => rfl) (fun fd F => ok_take F)
  have LSO := fn_mk (P := l.prog) (w := w) (base := base) X G d17 (fun _ _ _ _ _ _ us hl => match us, hl with | [_, _], _ => rfl) (fun fd F => ok_lSource F TK1)
  have LSE := fn_mk (P := l.prog) (w := w) (base := base) X G d18 (fun _ _ _ _ _ _ us hl => match us, hl with | [_], _ => rfl) (fun fd F => ok_lSel F TK1)
  have LST := fn_mk (P := l.prog) (w := w) (base := base) X G d19 (fun _ _ _ _ _ _ us hl => match us, hl with | [_, _, _], _ => rfl) (fun fd F => ok_lStep F TK1 LSO LSE)
  have LSS := fn_mk (P := l.prog) (w := w) (base := base) X G d20 (fun _ _ _ _ _ _ us hl => match us, hl with | [_, _], _ => rfl) (fun fd F => ok_lSteps F B TK1 LST)
  have OB := fn_mk (P := l.prog) (w := w) (base := base) X G d21 (fun _ _ _ _ _ _ us hl => match us, hl with | [_, _], _ => rfl) (fun fd F => ok_lObj F TK1 SF)
  have LT := fn_mk (P := l.prog) (w := w) (base := base) X G d22 (fun _ _ _ _ _ _ us hl => match us, hl with | [_], _ => rfl) (fun fd F => ok_lTouched F B)
  have LM := fn_mk (P := l.prog) (w := w) (base := base) X G d23 (fun _ _ _ _ _ _ us hl => match us, hl with | [_, _], _ => rfl) (fun fd F => ok_lMeet F LT)
  have DU := fn_mk (P := l.prog) (w := w) (base := base) X G d24 (fun _ _ _ _ _ _ us hl => match us, hl with | [_], _ => rfl) (fun fd F => ok_lDue F B B2 LM)
  have SA := fn_mk (P := l.prog) (w := w) (base := base) X G d25 (fun _ _ _ _ _ _ us hl => match us, hl with | [_, _], _ => rfl) (fun fd F => ok_lSame F B)
  exact ok_law F B T U5 CL ST TK1 LSS DU OB PK SA SF
theorem top_mk {w : World} {K : PySem.W.Frag} {a f1 f2 f3 f4 f5 f6 f7 f8 f9 : Addr} {t1 t2 t3 t4 t5 t6 t7 t8 t9 : Tok} {ep : Nat}
    (h : K.lookup a = some { cls := .type "dict", data := .dict #[⟨PyData.keyHash w.params "+", .str "+" t1, .ref f1⟩, ⟨PyData.keyHash w.params "-", .str "-" t2, .ref f2⟩, ⟨PyData.keyHash w.params "&", .str "&" t3, .ref f3⟩, ⟨PyData.keyHash w.params "|", .str "|" t4, .ref f4⟩, ⟨PyData.keyHash w.params "^", .str "^" t5, .ref f5⟩,
      ⟨PyData.keyHash w.params "<<", .str "<<" t6, .ref f6⟩, ⟨PyData.keyHash w.params ">>", .str ">>" t7, .ref f7⟩, ⟨PyData.keyHash w.params "<", .str "<" t8, .ref f8⟩, ⟨PyData.keyHash w.params "=", .str "=" t9, .ref f9⟩] ep }) :
    TopDict w K a [("+", .ref f1), ("-", .ref f2), ("&", .ref f3), ("|", .ref f4), ("^", .ref f5), ("<<", .ref f6), (">>", .ref f7), ("<", .ref f8), ("=", .ref f9)] :=
  ⟨_, ep, h, .cons ⟨rfl, ⟨_, rfl⟩, rfl⟩ (.cons ⟨rfl, ⟨_, rfl⟩, rfl⟩ (.cons ⟨rfl, ⟨_, rfl⟩, rfl⟩ (.cons ⟨rfl, ⟨_, rfl⟩, rfl⟩ (.cons ⟨rfl, ⟨_, rfl⟩, rfl⟩ (.cons ⟨rfl, ⟨_, rfl⟩, rfl⟩ (.cons ⟨rfl, ⟨_, rfl⟩, rfl⟩ (.cons ⟨rfl, ⟨_, rfl⟩, rfl⟩ (.cons ⟨rfl, ⟨_, rfl⟩, rfl⟩ .nil))))))))⟩
theorem ck_mk {K : PySem.W.Frag} {n : Str} {c i : Addr} {fl : List Str} {uw so tg to rd wr td : Addr} (ns : PySem.W.nsIn K mainGlobals n = some (some (.ref c))) (g1 : PySem.W.plainGet K c Str.empty = true) (g2 : PySem.W.hasDictIn K c = true) (g3 : PySem.W.plainOver K c = true)
    (g4 : PySem.W.findIn K (.ref c) "__setattr__" = some (some (.builtin "object.__setattr__"))) (m1 : PySem.W.makesIn K c = true) (m2 : PySem.W.findIn K (.ref c) "__init__" = some (some (.ref i))) (m3 : PySem.W.isFn K (.ref i) = true) (m4 : PySem.W.keepIn K (.ref c) = true)
    (h1 : PySem.W.findIn K (.ref c) "uses_way" = some (some (.ref uw))) (h2 : PySem.W.findIn K (.ref c) "sources" = some (some (.ref so))) (h3 : PySem.W.findIn K (.ref c) "targets" = some (some (.ref tg))) (h4 : PySem.W.findIn K (.ref c) "touched" = some (some (.ref to))) (h5 : PySem.W.findIn K (.ref c) "reads" = some (some (.ref rd))) (h6 : PySem.W.findIn K (.ref c) "writes" = some (some (.ref wr))) (h7 : PySem.W.findIn K (.ref c) "told" = some (some (.ref td))) (na : NaAll K c fl) : CK K n c i fl uw so tg to rd wr td :=
  ⟨ns, ⟨g1, g2, g3, g4⟩, na, ⟨m1, m2, m3, m4⟩, h1, h2, h3, h4, h5, h6, h7⟩
theorem na2 {K : PySem.W.Frag} {c : Addr} {a b : Str} (x : PySem.W.findIn K (.ref c) a = some none) (y : PySem.W.findIn K (.ref c) b = some none) : NaAll K c [a, b] := ⟨x, y, trivial⟩
theorem na4 {K : PySem.W.Frag} {c : Addr} {a b d e : Str} (x : PySem.W.findIn K (.ref c) a = some none) (y : PySem.W.findIn K (.ref c) b = some none) (z : PySem.W.findIn K (.ref c) d = some none) (u : PySem.W.findIn K (.ref c) e = some none) : NaAll K c [a, b, d, e] := ⟨x, y, z, u, trivial⟩
end L3
namespace PySem.W.Fast
def tw100111047707100060:=0
def tw10020313215107504237:=0
def tw10072623722722087666:=0
def tw10103365122301130050:=0
def tw10134336206879150106:=0
def tw10197486624533755017:=0
def tw10309393092615249454:=0
def tw10335654638601051078:=0
def tw10375675890367295065:=0
def tw10380820357937969159:=0
def tw10496805873385765456:=0
def tw10563436388733295492:=0
def tw10620592572393401071:=0
def tw1062680367642735265:=0
def tw1064003995948445809:=0
def tw10654437462853566805:=0
def tw1070050445498356275:=0
def tw10725796963194241571:=0
def tw1088014560007985477:=0
def tw1103409756459756976:=0
def tw11065962846586858594:=0
def tw11084947170685374740:=0
def tw11115768971565416941:=0
def tw11118607297591851115:=0
def tw11142784157760410461:=0
def tw11175258083938174441:=0
def tw11191084418855292934:=0
def tw11224509761018806844:=0
def tw11335011603120826092:=0
def tw11347268793205374877:=0
def tw11381721267276934622:=0
def tw1142209896649560855:=0
def tw11454022585614770154:=0
def tw11652203515170554457:=0
def tw11665178246228886399:=0
def tw11691798851610147132:=0
def tw11713104780285916964:=0
def tw11760784863906320857:=0
def tw11803228730168251952:=0
def tw11842898673454331072:=0
def tw11854577929732928513:=0
def tw1193067120636722718:=0
def tw11939501296758194345:=0
def tw12023459379171069857:=0
def tw12037180394039090583:=0
def tw12091846433256437809:=0
def tw12149673277471312191:=0
def tw12202884824169532005:=0
def tw12215886943657198745:=0
def tw12298605645065226252:=0
def tw12362776824259025332:=0
def tw12445356946096608250:=0
def tw12447418932991897692:=0
def tw12456655003352554398:=0
def tw12475002537884190920:=0
def tw12491596437403670757:=0
def tw12527240622781122694:=0
def tw12589250924968705744:=0
def tw12602199228629392501:=0
def tw1266617738835647322:=0
def tw12675753975092435211:=0
def tw12794354007496921304:=0
def tw12802857064993369476:=0
def tw12883527937602904826:=0
def tw12901889925154621978:=0
def tw12961302054366489223:=0
def tw13011969329128936554:=0
def tw13016155180362046744:=0
def tw13025892049797146879:=0
def tw13141579577599470948:=0
def tw13203199232862803944:=0
def tw13245421261526469266:=0
def tw133364425069768583:=0
def tw13429835411723854341:=0
def tw13434809251298981747:=0
def tw13458224135953761295:=0
def tw13465919108591961400:=0
def tw13532309089683827844:=0
def tw13532544124312397147:=0
def tw13599888769635148018:=0
def tw13600121539212400972:=0
def tw13661059994716741355:=0
def tw13662352773392870906:=0
def tw13705856068875984771:=0
def tw13768331417418353197:=0
def tw13803126167448351558:=0
def tw13810726751556739531:=0
def tw13849285318993149538:=0
def tw13922183202548001608:=0
def tw14026892063159321882:=0
def tw1403752608362661254:=0
def tw14119091357518262483:=0
def tw14168374992886753313:=0
def tw14207933814466550148:=0
def tw14270776168795636885:=0
def tw1430302345295025466:=0
def tw14369997647850124809:=0
def tw14444288488183847852:=0
def tw14477051889809424623:=0
def tw14525147818295944313:=0
def tw14638514034402879979:=0
def tw14642741876489458715:=0
def tw14658441019517249635:=0
def tw14698931467984043406:=0
def tw14755485456699526098:=0
def tw14797159955600011588:=0
def tw14825090579465967569:=0
def tw1483105566612700673:=0
def tw14932332366220097968:=0
def tw14957123385919390459:=0
def tw14976708135839220909:=0
def tw14981506111324277469:=0
def tw15013787990799824119:=0
def tw15109840646582493233:=0
def tw15123163585938158922:=0
def tw15190029474734055073:=0
def tw15201285308095921769:=0
def tw15208423150486267979:=0
def tw15249942893763221550:=0
def tw1525218624961603249:=0
def tw15264433515271903759:=0
def tw15271884070938559104:=0
def tw15288762149907363097:=0
def tw15346041914448972528:=0
def tw15361405548255755807:=0
def tw15610015507728149642:=0
def tw1562213323904886651:=0
def tw15657275170349890512:=0
def tw15661730953040259923:=0
def tw15718716832544605007:=0
def tw15758745713288595113:=0
def tw1578756640193331636:=0
def tw15958675161031488796:=0
def tw15977401438090313563:=0
def tw16038845948451159506:=0
def tw16041248870695888659:=0
def tw16085615461320041050:=0
def tw16097028795280153921:=0
def tw16174893473210306037:=0
def tw16175810894903621752:=0
def tw16199581998818752298:=0
def tw16216576043642164174:=0
def tw16255911454029617465:=0
def tw16301147966889436803:=0
def tw16450438233792701770:=0
def tw16464585809901857342:=0
def tw16466780617047849260:=0
def tw16497282874461002273:=0
def tw16499503421586757351:=0
def tw16511109872731556458:=0
def tw16531051925284185900:=0
def tw16605016874954128420:=0
def tw16609388655466068138:=0
def tw16631480551270373853:=0
def tw16641611090344563535:=0
def tw16703300721690548798:=0
def tw16705648045983634000:=0
def tw16724115358215542773:=0
def tw16756334537618924179:=0
def tw16865287202788792201:=0
def tw16889211044983248884:=0
def tw16919176823829396860:=0
def tw1696339644781514815:=0
def tw16976321726397704479:=0
def tw17071889838100969023:=0
def tw17111756323202582818:=0
def tw171215365718704149:=0
def tw17246071734917670161:=0
def tw17321891076488380708:=0
def tw17387366409829807305:=0
def tw17411042165223295144:=0
def tw17517140280544607220:=0
def tw17573886343066847344:=0
def tw17579101544163553813:=0
def tw17628078616778250542:=0
def tw17691985351247737712:=0
def tw17720282889876942759:=0
def tw17755576127175454534:=0
def tw17755917982683268445:=0
def tw17868595694573489103:=0
def tw17961559167479706799:=0
def tw18039762485246011313:=0
def tw18067978787772212575:=0
def tw18079735903311726447:=0
def tw18095954086314127540:=0
def tw1814493037075355562:=0
def tw1817323240103432459:=0
def tw1823188852732723960:=0
def tw18259648400012466708:=0
def tw18419762396027352907:=0
def tw1884731266831356219:=0
def tw1889543300479294060:=0
def tw1893915307821767339:=0
def tw1899616304069909377:=0
def tw1953658887669356532:=0
def tw1997824876893717653:=0
def tw2044569130810643378:=0
def tw2082554634672369782:=0
def tw2107851797686271417:=0
def tw2114449699253758652:=0
def tw2156925837485169230:=0
def tw2276140799748523469:=0
def tw2295420709545847186:=0
def tw2295913516767021456:=0
def tw232384379648728993:=0
def tw2334267672443159600:=0
def tw2339387542046900794:=0
def tw2344791838267033519:=0
def tw2348933889359508709:=0
def tw2416517446360525824:=0
def tw2438571739549447184:=0
def tw2488307353222192217:=0
def tw2529551237203793418:=0
def tw2539222016470665875:=0
def tw2557148133508291050:=0
def tw2587296970540603387:=0
def tw2607892309641353168:=0
def tw2626806100001118591:=0
def tw2673971000334385489:=0
def tw2690775411510814067:=0
def tw273877888299503851:=0
def tw2741798582304454373:=0
def tw2761853804535979686:=0
def tw2876662418433995429:=0
def tw29287238191716873:=0
def tw2956848769522838406:=0
def tw3031708511817132627:=0
def tw3037584300576616206:=0
def tw3202766208941401544:=0
def tw3204747896741568513:=0
def tw320682677070134745:=0
def tw3264795314649731171:=0
def tw3267615176140354243:=0
def tw3274842494312381031:=0
def tw3300505655136808210:=0
def tw3320958680873593982:=0
def tw332351119814675724:=0
def tw3467414757411890928:=0
def tw3520468633629856870:=0
def tw3610279964086697716:=0
def tw3641173062560103954:=0
def tw3662486444430688048:=0
def tw3681719694243466693:=0
def tw3696005616050422222:=0
def tw3705727049537734739:=0
def tw3799278569110085602:=0
def tw3814021077661558205:=0
def tw3824779748911834388:=0
def tw382802144917436910:=0
def tw3832888740711849272:=0
def tw3841965263057028823:=0
def tw3882098972367427072:=0
def tw3936718993702608665:=0
def tw3983350396807648581:=0
def tw4020992693614169170:=0
def tw4205287719367196087:=0
def tw4257338893261251748:=0
def tw4267994712325999092:=0
def tw4279150917072814582:=0
def tw435609884323622382:=0
def tw4443325129799739177:=0
def tw4466594927036177677:=0
def tw4475485194126957780:=0
def tw4486682010636272961:=0
def tw4509999712686983431:=0
def tw4568051956232952599:=0
def tw4579500882251321340:=0
def tw4651980536510772004:=0
def tw4668784867653994745:=0
def tw4734970291048367729:=0
def tw4770496644066754555:=0
def tw4816344376034768776:=0
def tw4833880533869613282:=0
def tw48794072621509494:=0
def tw4890439469997994803:=0
def tw4913203592597832804:=0
def tw4926752280304445531:=0
def tw4964203655798445022:=0
def tw5034180957703620105:=0
def tw5037190830657183005:=0
def tw5131449859746660097:=0
def tw5140866802559302585:=0
def tw5156855557632658050:=0
def tw5168646203452408968:=0
def tw5232935824154345805:=0
def tw5437121533178006899:=0
def tw5495534404341785355:=0
def tw5539663835766923962:=0
def tw5568152657100772947:=0
def tw579515553643505058:=0
def tw585131922356255561:=0
def tw5851517434972066733:=0
def tw5905252443996521952:=0
def tw5938132541076217218:=0
def tw6049043888743454533:=0
def tw60747173297937337:=0
def tw6104297016100077988:=0
def tw6120525153953465741:=0
def tw6146766326417149441:=0
def tw6165054678207031309:=0
def tw6170604543843205772:=0
def tw6185388671332701572:=0
def tw62168585955590534:=0
def tw6233626421810113592:=0
def tw625951690503652930:=0
def tw6259700252062594324:=0
def tw6290956548428680978:=0
def tw6299588789736606799:=0
def tw6303268234435393849:=0
def tw6441954520112307566:=0
def tw6454456725207161533:=0
def tw6475549611731251522:=0
def tw6538428880976853499:=0
def tw6555769983885006939:=0
def tw6651470491079744843:=0
def tw667617908028431771:=0
def tw6713991876138184585:=0
def tw6719679123994773570:=0
def tw6777683332806569080:=0
def tw6782908059442896001:=0
def tw6811925568158215276:=0
def tw6828037160513424238:=0
def tw6881014721725446796:=0
def tw6906348334467718494:=0
def tw6914838185334163237:=0
def tw6920633687596861827:=0
def tw6930388175467073598:=0
def tw6950009768909023689:=0
def tw6976188195069033159:=0
def tw7044729157192196076:=0
def tw7088640488675053521:=0
def tw7117950664878970520:=0
def tw7169297296444287462:=0
def tw7253124890136216687:=0
def tw7302629422490160635:=0
def tw7360254674763648358:=0
def tw7402222213062087076:=0
def tw7497793146959049229:=0
def tw7521076621443448765:=0
def tw7528571987702561492:=0
def tw7566861457264918105:=0
def tw7572699685608143024:=0
def tw7620222119413273182:=0
def tw7620704552859303189:=0
def tw7622628396341970044:=0
def tw7668942097271008921:=0
def tw7729955301167451018:=0
def tw7806172423154903901:=0
def tw7830564554003770482:=0
def tw7859425942762578299:=0
def tw7908113369627142878:=0
def tw7999167740334214502:=0
def tw8067404754482459172:=0
def tw8285884484148738146:=0
def tw8319742133718474983:=0
def tw8348897414561189725:=0
def tw835882109267601989:=0
def tw8369935320207334126:=0
def tw8385805102275495420:=0
def tw8396825285906670123:=0
def tw8412553888789685796:=0
def tw8450899398427010833:=0
def tw8557064757874701516:=0
def tw8604319387615354268:=0
def tw8638222433461106617:=0
def tw8708841738776616563:=0
def tw8717623906763048200:=0
def tw8722935197905519287:=0
def tw8813490968078254864:=0
def tw8852245757791114985:=0
def tw8923304483129332480:=0
def tw895740942315487731:=0
def tw9037449339795324169:=0
def tw9053735125765117863:=0
def tw9109584884521752740:=0
def tw9120213954581009366:=0
def tw9151264939792493883:=0
def tw9181969775610460671:=0
def tw9214667216618398368:=0
def tw9234423032045693369:=0
def tw9283648507781953003:=0
def tw9330481032191041201:=0
def tw9380914773002782000:=0
def tw9391533648765559714:=0
def tw942098980050038215:=0
def tw9428965271731540841:=0
def tw944478564081064528:=0
def tw9464310779687964406:=0
def tw9541658513904739553:=0
def tw9624711650573400545:=0
def tw9630530579358393647:=0
def tw9675739144244743116:=0
def tw9685712097209753677:=0
def tw9727644852822875341:=0
def tw9782310309821707769:=0
def tw9821787417274412454:=0
def tw9900498173397627893:=0
def tw9918857328314567034:=0
def tw9923400340101980678:=0
def tw9941167220219811635:=0
def tw9963341835094106957:=0
def tw996943072610750313:=0
end PySem.W.Fast
local macro_rules | `(tactic| walk_at "a") => `(tactic| (refine' L3.def_mk ?a ?l ?c ?k; (case a => k_is); (case l => k_is); (case c => k_is); (case k => k_is)))
local macro_rules | `(tactic| walk_at "d") => `(tactic| (refine' L3.min_mk ?l ?c ?k ?n; (case l => k_is); (case c => k_is); (case k => k_is); (case n => k_is)))
local macro_rules | `(tactic| walk_at "e") => `(tactic| (refine' L3.ck_mk ?ns ?g1 ?g2 ?g3 ?g4 ?m1 ?m2 ?m3 ?m4 ?h1 ?h2 ?h3 ?h4 ?h5 ?h6 ?h7 ?na; (case ns => k_is); (case g1 => k_is); (case g2 => k_is); (case g3 => k_is); (case g4 => k_is); (case m1 => k_is); (case m2 => k_is); (case m3 => k_is); (case m4 => k_is); (case h1 => k_is); (case h2 => k_is); (case h3 => k_is); (case h4 => k_is); (case h5 => k_is); (case h6 => k_is); (case h7 => k_is); (case na => (first | (refine' L3.na2 ?x ?y; (case x => k_is); (case y => k_is)) | (refine' L3.na4 ?x ?y ?z ?u; (case x => k_is); (case y => k_is); (case z => k_is); (case u => k_is))))))
open PySem PySem.W PyProof.Rows
set_option maxRecDepth 100000 in
set_option maxHeartbeats 0 in
theorem PySem.Challenge.cw_rowsbeneath_k24_steps_packed_holds : PySem.Challenge.rw_rowsbeneath_k24_steps_packed.Holds := by
  w_on; o_law; k_head; (case hw => w_witness2)
  k_fill
  refine L2.walk_ofK (l := PySem.Challenge.rw_rowsbeneath_k24_steps_packed) (n := 63) (k := 8) (x := "_law_script") (CX := L2.CX0) (sp := L3.spLaw) rfl (by decide) rfl ⟨rfl, by decide, by decide⟩ (fun w h Y => PySem.W.kIn_of Y) ?F (fun _ _ a ns hl _ hS => ⟨a, ns, rfl, hS, hl, fun _ => rfl⟩) (fun _ _ _ _ z => z)
  case F =>
    intro w mg fa h KX G hmg
    refine' L3.all_mk KX G hmg ?d0 ?d1 ?d2 ?d3 ?d4 ?d5 ?d6 ?d7 ?d8 ?d9 ?d10 ?d11 ?d12 ?d13 ?d14 ?d15 ?d16 ?d17 ?d18 ?d19 ?d20 ?d21 ?d22 ?d23 ?d24 ?d25 ?d26 ?C0 ?I0 ?Q0 ?C1 ?I1 ?Q1 ?C2 ?I2 ?Q2 ?C3 ?I3 ?Q3 ?C4 ?I4 ?Q4 ?C5 ?I5 ?Q5 ?C6 ?I6 ?Q6 ?mtS ?mt0 ?mt1 ?mt2 ?mt3 ?moS ?mo2 ?mo4 ?mo5 ?mo3 ?mo6 ?muS ?mu3 ?mT ?mR ?mW ?n1 ?n2 ?n3 ?n4 ?aOps ?dO ?lo ?z1 ?z2 ?z3 ?z4 ?z5 ?z6 ?z7 ?z8 ?z9 ?z10 ?z11 ?z12 ?z13 ?z14 ?z15 ?z16
    (case d0 => walk_at "a")
    (case d1 => walk_at "a")
    (case d2 => walk_at "a")
    (case d3 => walk_at "a")
    (case d4 => walk_at "a")
    (case d5 => walk_at "a")
    (case d6 => walk_at "a")
    (case d7 => walk_at "a")
    (case d8 => walk_at "a")
    (case d9 => walk_at "a")
    (case d10 => walk_at "a")
    (case d11 => walk_at "a")
    (case d12 => walk_at "a")
    (case d13 => walk_at "a")
    (case d14 => walk_at "a")
    (case d15 => walk_at "a")
    (case d16 => walk_at "a")
    (case d17 => walk_at "a")
    (case d18 => walk_at "a")
    (case d19 => walk_at "a")
    (case d20 => walk_at "a")
    (case d21 => walk_at "a")
    (case d22 => walk_at "a")
    (case d23 => walk_at "a")
    (case d24 => walk_at "a")
    (case d25 => walk_at "a")
    (case d26 => walk_at "a")
    (case C0 => walk_at "e")
    (case C1 => walk_at "e")
    (case C2 => walk_at "e")
    (case C3 => walk_at "e")
    (case C4 => walk_at "e")
    (case C5 => walk_at "e")
    (case C6 => walk_at "e")
    (case I0 => walk_at "d")
    (case Q0 => walk_at "d")
    (case I1 => walk_at "d")
    (case Q1 => walk_at "d")
    (case I2 => walk_at "d")
    (case Q2 => walk_at "d")
    (case I3 => walk_at "d")
    (case Q3 => walk_at "d")
    (case I4 => walk_at "d")
    (case Q4 => walk_at "d")
    (case I5 => walk_at "d")
    (case Q5 => walk_at "d")
    (case I6 => walk_at "d")
    (case Q6 => walk_at "d")
    (case mtS => walk_at "d")
    (case mt0 => walk_at "d")
    (case mt1 => walk_at "d")
    (case mt2 => walk_at "d")
    (case mt3 => walk_at "d")
    (case moS => walk_at "d")
    (case mo2 => walk_at "d")
    (case mo4 => walk_at "d")
    (case mo5 => walk_at "d")
    (case mo3 => walk_at "d")
    (case mo6 => walk_at "d")
    (case muS => walk_at "d")
    (case mu3 => walk_at "d")
    (case mT => walk_at "d")
    (case mR => walk_at "d")
    (case mW => walk_at "d")
    (case n1 => k_is)
    (case n2 => k_is)
    (case n3 => k_is)
    (case n4 => k_is)
    (case aOps => k_is)
    (case dO => refine' L3.top_mk ?h; (case h => k_is))
    (case lo => rfl)
    (case z1 => k_is)
    (case z2 => k_is)
    (case z3 => k_is)
    (case z4 => k_is)
    (case z5 => k_is)
    (case z6 => k_is)
    (case z7 => k_is)
    (case z8 => k_is)
    (case z9 => k_is)
    (case z10 => k_is)
    (case z11 => k_is)
    (case z12 => k_is)
    (case z13 => k_is)
    (case z14 => k_is)
    (case z15 => k_is)
    (case z16 => k_is)
