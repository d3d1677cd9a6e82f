import PyProof.Rows.All
import Wide.All
import OpenK.AllK
import Wide.FinOn
import PyProof.EqAt
import PyProof.EqKinds
import PyProof.TupleCall
import Lean
import PyProof.SetNew
import PyProof.SetRoads
import PySem.Challenge.RW_pactway_k27_deep_and_many
set_option Elab.async false
set_option linter.all false
set_option maxRecDepth 100000
/-! THE HAND LAYER, for ints, bools, texts, own classes, LISTS and tuples (index, slices, in, append, pop ..), calls, loops. Paste it whole ahead of your own text; what your proof does not reach may be deleted. -/
namespace L2
open PySem PySem.Spec PyProof.Rows

/-- a key: an int or a str -/
abbrev Key := Sum Int Str
def keyIs : Key → Value → Bool
  | .inl k, v => Value.isInt k v
  | .inr x, v => Value.isStrOf x v
def keyH (w : World) : Key → Int
  | .inl k => hashInt k
  | .inr x => hashStr w x
theorem keyIs_shape : ∀ {k : Key} {v : Value}, keyIs k v = true → (∃ i t, k = Sum.inl i ∧ v = Value.int i t) ∨ (∃ x t, k = Sum.inr x ∧ v = Value.str x t)
  | .inl i, v, h => by
    obtain ⟨t, e⟩ := Value.isInt_shape (k := i) (v := v) h
    exact .inl ⟨i, t, rfl, e⟩
  | .inr x, v, h => by
    obtain ⟨t, e⟩ := Value.isStrOf_shape (x := x) (v := v) h
    exact .inr ⟨x, t, rfl, e⟩
theorem keyIs_int (i : Int) (t : Tok) : keyIs (.inl i) (.int i t) = true := by simp [keyIs, Value.isInt]
theorem keyIs_str (x : Str) (t : Tok) : keyIs (.inr x) (.str x t) = true := by simp [keyIs, Value.isStrOf]
theorem key_ll (a b : Int) : decide ((Sum.inl a : Key) = Sum.inl b) = (a == b) := by
  by_cases e : a = b
  · subst e; simp
  · have h : ¬ (Sum.inl a : Key) = Sum.inl b := fun q => e (Sum.inl.inj q)
    rw [decide_eq_false h]
    exact (beq_eq_false_iff_ne.mpr e).symm
theorem key_rr (a b : Str) : decide ((Sum.inr a : Key) = Sum.inr b) = decide (a = b) := by
  by_cases e : a = b
  · subst e; simp
  · have h : ¬ (Sum.inr a : Key) = Sum.inr b := fun q => e (Sum.inr.inj q)
    rw [decide_eq_false h, decide_eq_false e]
theorem key_lr (a : Int) (b : Str) : decide ((Sum.inl a : Key) = Sum.inr b) = false := decide_eq_false (fun q => nomatch q)
theorem key_rl (a : Str) (b : Int) : decide ((Sum.inr a : Key) = Sum.inl b) = false := decide_eq_false (fun q => nomatch q)

def mixKind (prog : Program) (w : World) : PySem.KeyKind prog w Key where
  is := keyIs
  hash := keyH w
  inj := fun v a b ha hb => by
    rcases keyIs_shape ha with ⟨i, t, rfl, rfl⟩ | ⟨x, t, rfl, rfl⟩
    · rcases keyIs_shape hb with ⟨j, u, rfl, e⟩ | ⟨y, u, rfl, e⟩
      · injection e with e1 _; rw [e1]
      · exact nomatch e
    · rcases keyIs_shape hb with ⟨j, u, rfl, e⟩ | ⟨y, u, rfl, e⟩
      · exact nomatch e
      · injection e with e1 _; rw [e1]
  byValue := fun k v h => by
    rcases keyIs_shape h with ⟨i, t, rfl, rfl⟩ | ⟨x, t, rfl, rfl⟩ <;> rfl
  pyHash := fun hv h => by
    rcases keyIs_shape hv with ⟨i, t, rfl, rfl⟩ | ⟨x, t, rfl, rfl⟩
    · exact wpAny_pyHash_int h
    · exact wpAny_pyHash_str h
  eqBool := fun hu hv h => by
    rcases keyIs_shape hu with ⟨i, t, rfl, rfl⟩ | ⟨x, t, rfl, rfl⟩
    · rcases keyIs_shape hv with ⟨j, u, rfl, rfl⟩ | ⟨y, u, rfl, rfl⟩
      · rw [key_ll] at h; exact wpAny_eqBool_int h
      · rw [key_lr] at h; exact SeqAt.EqAt.int_str i t y u _ _ _ _ h
    · rcases keyIs_shape hv with ⟨j, u, rfl, rfl⟩ | ⟨y, u, rfl, rfl⟩
      · rw [key_rl] at h; exact SeqAt.EqAt.str_int x t j u _ _ _ _ h
      · rw [key_rr] at h; exact wpAny_eqBool_str h
  «strs» := fun k x t v h => by
    rcases keyIs_shape h with ⟨i, u, rfl, e⟩ | ⟨y, u, rfl, e⟩
    · exact nomatch e
    · injection e with e1 _
      subst e1
      cases v <;> rfl

theorem mixKind_int (prog : Program) (w : World) (i : Int) (t : Tok) : (mixKind prog w).is (.inl i) (.int i t) = true := keyIs_int i t
theorem mixKind_str (prog : Program) (w : World) (x : Str) (t : Tok) : (mixKind prog w).is (.inr x) (.str x t) = true := keyIs_str x t
end L2

namespace L2
open PySem PySem.Spec PyProof.Rows

/-- a value, without the heap -/
inductive V where
  | non | bl (b : Bool) | int (i : Int) | str (x : Str) | byt (b : Array UInt8) | flt (b : UInt64) | ref (a : Addr) | ty (n : String)
  deriving DecidableEq

def RelV : V → Value → Prop
  | .non, u => u = Value.none
  | .bl b, u => u = Value.bool b
  | .int i, u => ∃ t, u = Value.int i t
  | .str x, u => ∃ t, u = Value.str x t
  | .byt b, u => ∃ t, u = Value.bytes b t
  | .flt b, u => ∃ t, u = Value.float b t
  | .ref a, u => u = Value.ref a
  | .ty n, u => u = Value.type n

abbrev Vals : List V → List Value → Prop := Paired RelV
theorem Vals.length {xs : List V} {us : List Value} (r : Vals xs us) : xs.length = us.length := Paired.length r
theorem Vals.get : ∀ {xs : List V} {us : List Value} {i : Nat} {x : V}, Vals xs us → xs[i]? = some x → ∃ u, us[i]? = some u ∧ RelV x u
  | _, _, _, _, .nil, e => by simp at e
  | _, _, 0, _, .cons r _, e => by simp at e; subst e; exact ⟨_, rfl, r⟩
  | _, _, i + 1, x, .cons _ t, e => by
    obtain ⟨u, h1, h2⟩ := Vals.get (i := i) (x := x) t (by simpa using e)
    exact ⟨u, by simpa using h1, h2⟩
theorem Vals.set {x : V} {u : Value} (r : RelV x u) : ∀ {xs : List V} {us : List Value} (i : Nat), Vals xs us → Vals (xs.set i x) (us.set i u)
  | _, _, _, .nil => .nil
  | _, _, 0, .cons _ t => .cons r t
  | _, _, i + 1, .cons q t => .cons q (Vals.set r i t)
theorem Vals.append : ∀ {xs ys : List V} {us ws : List Value}, Vals xs us → Vals ys ws → Vals (xs ++ ys) (us ++ ws)
  | _, _, _, _, .nil, s => s
  | _, _, _, _, .cons r t, s => .cons r (Vals.append t s)
theorem Vals.take : ∀ {xs : List V} {us : List Value} (n : Nat), Vals xs us → Vals (xs.take n) (us.take n)
  | _, _, 0, _ => .nil
  | _, _, _ + 1, .nil => .nil
  | _, _, n + 1, .cons r t => .cons r (Vals.take n t)
theorem Vals.drop : ∀ {xs : List V} {us : List Value} (n : Nat), Vals xs us → Vals (xs.drop n) (us.drop n)
  | _, _, 0, r => r
  | _, _, _ + 1, .nil => .nil
  | _, _, n + 1, .cons _ t => Vals.drop n t
def RelO : Option V → Option Value → Prop
  | some v, some u => RelV v u
  | none, none => True
  | _, _ => False
def KV {κ : Type} : List (κ × V) → List (κ × Value) → Prop := Paired fun (p : κ × V) (q : κ × Value) => p.1 = q.1 ∧ RelV p.2 q.2

/-- a key of a dict (00_mix): an int or a text -/
def kV : Key → V
  | .inl i => .int i
  | .inr x => .str x

/-- what stands at a tracked address -/
inductive HO where
  /-- a list -/
  | lst (xs : List V)
  /-- a tuple (never changes) -/
  | tup (xs : List V)
  /-- a dict whose keys are ints and texts; one whose keys are tuples of ints and texts (the empty one is both) -/
  | dK (kvs : List (Key × V)) | dT (kvs : List (List Key × V))
  /-- a set of ints: its members, its size -/
  | set (S : Int → Bool) (n : Nat)
  /-- an instance of the class at C, its dict at dx, its attributes -/
  | ins (C dx : Addr) (fs : List (Str × V))
  /-- the dict of the instance at x -/
  | own (x : Addr)
  /-- the dict of an exception -/
  | xd (fs : List (Str × V))
  /-- a bound method, f of x -/
  | met (f x : Addr)
  /-- a range object lo, lo + 1, .. below hi -/
  | rng (lo hi : Int)
  /-- a thing that is known to the object (the script; a dict while a loop walks it): read, never written while it is so -/
  | frz (o : Obj) (u : HO)
  /-- a code object's table -/
  | tbl (ps : Array Value)
  /-- any other thing, by what is true of its one object (a def of one's own: SetO a S n := HO.ext fun h => ..) -/
  | ext (φ : Heap → Prop)

abbrev Hp := Addr → Option HO
def upd (H : Hp) (a : Addr) (o : HO) : Hp := fun b => if b = a then some o else H b
theorem upd_same {H : Hp} {a : Addr} {o : HO} : upd H a o a = some o := by unfold upd; rw [if_pos rfl]
theorem upd_ne {H : Hp} {a b : Addr} {o : HO} (h : b ≠ a) : upd H a o b = H b := by unfold upd; rw [if_neg h]
theorem upd_upd {H : Hp} {a : Addr} {o u : HO} : upd (upd H a o) a u = upd H a u := by
  funext b; unfold upd; split <;> rfl
/-- two objects of different content stand apart -/
theorem ne_of {H : Hp} {a b : Addr} {o u : HO} (h : H a = some o) (h' : H b = some u) (d : o ≠ u) : a ≠ b := by
  intro e; subst e; rw [h] at h'; exact d (Option.some.inj h')
theorem ne_of_none {H : Hp} {a b : Addr} {o : HO} (h : H a = some o) (h' : H b = none) : a ≠ b := by
  intro e; subst e; rw [h] at h'; cases h'

section
variable (P : Program) (w : World)
def ObjOk (H : Hp) (h : Heap) (a : Addr) : HO → Prop
  | .lst xs => xs.length ≤ sizeLine ∧ ∃ (its : List Value) (n : Nat), Vals xs its ∧ h.get? a = some { cls := .type "list", data := .seq its.toArray n }
  | .tup xs => xs.length ≤ sizeLine ∧ ∃ its : List Value, Vals xs its ∧ IsTup h a its.toArray
  | .dK kvs => kvs.length ≤ sizeLine ∧ (a == sysModules) = false ∧ ∃ vs, KV kvs vs ∧ h.DictOf (mixKind P w) a vs
  | .dT kvs => kvs.length ≤ sizeLine ∧ (a == sysModules) = false ∧ ∃ xs : List (List Key × Addr × Value),
      Paired (fun (p : List Key × V) (q : List Key × Addr × Value) => p.1 = q.1 ∧ H q.2.1 = some (.tup (p.1.map kV)) ∧ RelV p.2 q.2.2) kvs xs ∧
      ∃ o es ep, h.get? a = some o ∧ o.ExactDict ∧ o.data = .dict es ep ∧ es.toList = xs.map (entryOfKey (tupleKind (mixKind P w))) ∧ (xs.map (·.1)).Nodup
  | .set S n => h.SetOf (intKind P w) a S n
  | .ins C dx fs => H dx = some (.own a) ∧ fs.length ≤ 1000 ∧ dx ≠ a ∧ h.get? a = some (PySem.W.instObj C dx) ∧
      ∃ mA, h.Ns1 dx mA ∧ (∀ f, RelO (fs.lookup f) (mA f)) ∧ PySem.Within mA (fs.map (·.1))
  | .own _ => ∃ o, h.get? a = some o
  | .xd fs => ∃ mA, h.Ns1 a mA ∧ ∀ f, RelO (fs.lookup f) (mA f)
  | .rng lo hi => ∃ t u v, h.get? a = some { cls := .type "range", data := .fields #[.int lo t, .int hi u, .int 1 v] }
  | .frz o u => h.get? a = some o ∧ ObjOk H h a u
  | .tbl ps => h.get? a = some { cls := .none, data := .fields ps }
  | .met f x => h.get? a = some (PySem.W.methodObj (.ref f) (.ref x))
  | .ext φ => φ h ∧ (∃ o, h.get? a = some o) ∧ ∀ h1 h2 : Heap, φ h1 → (∀ o, h1.get? a = some o → h2.get? a = some o) → φ h2
/-- the abstract heap is held -/
def HOk (H : Hp) (h : Heap) : Prop := ∀ a o, H a = some o → ObjOk P w H h a o
end

section
variable {P : Program} {w : World} {H H' : Hp} {h h' : Heap} {a : Addr} {o : HO}
theorem ObjOk.lt (x : ObjOk P w H h a o) : a < h.objs.size := by
  cases o with
  | lst xs => obtain ⟨_, _, _, _, e⟩ := x; exact Heap.lt_size e
  | tup xs => obtain ⟨_, _, _, p⟩ := x; exact p.lt
  | dK kvs => obtain ⟨_, _, _, _, o, _, _, e, _⟩ := x; exact Heap.lt_size e
  | dT kvs => obtain ⟨_, _, _, _, o, _, _, e, _⟩ := x; exact Heap.lt_size e
  | set S n => obtain ⟨o, _, _, _, e, _⟩ := x; exact Heap.lt_size e
  | ins C dx fs => obtain ⟨_, _, _, e, _⟩ := x; exact Heap.lt_size e
  | own y => obtain ⟨_, e⟩ := x; exact Heap.lt_size e
  | xd fs => obtain ⟨_, ⟨_, _, _, e, _⟩, _⟩ := x; exact Heap.lt_size e
  | rng lo hi => obtain ⟨_, _, _, e⟩ := x; exact Heap.lt_size e
  | frz ob u => obtain ⟨e, _⟩ := x; exact Heap.lt_size e
  | tbl ps => exact Heap.lt_size (show h.get? a = some _ from x)
  | met f y => exact Heap.lt_size (show h.get? a = some _ from x)
  | ext φ => obtain ⟨_, ⟨_, e⟩, _⟩ := x; exact Heap.lt_size e
theorem Paired.mapP {α β : Type} {F G : α → β → Prop} : ∀ {l₁ : List α} {l₂ : List β}, Paired F l₁ l₂ → (∀ a b, F a b → G a b) → Paired G l₁ l₂
  | _, _, .nil, _ => .nil
  | _, _, .cons r t, f => .cons (f _ _ r) (Paired.mapP t f)
theorem Paired.imp' {α β : Type} {F G : α → β → Prop} (f : ∀ a b, F a b → G a b) {l₁ : List α} {l₂ : List β} (r : Paired F l₁ l₂) : Paired G l₁ l₂ := Paired.mapP r f
/-- what an object's description leans on: its own object, its own dict, the tuples -/
theorem ObjOk.stay (x : ObjOk P w H h a o) (k : ∀ b u, (b = a ∨ H b = some (.own a)) → h.get? b = some u → h'.get? b = some u)
    (ho : ∀ b, H b = some (.own a) → H' b = some (.own a)) (ht : ∀ b xs, H b = some (.tup xs) → H' b = some (.tup xs)) : ObjOk P w H' h' a o := by
  induction o with
  | lst xs => obtain ⟨z, its, n, r, e⟩ := x; exact ⟨z, its, n, r, k _ _ (.inl rfl) e⟩
  | tup xs => obtain ⟨z, its, r, ob, e, c⟩ := x; exact ⟨z, its, r, ob, k _ _ (.inl rfl) e, c⟩
  | dK kvs => obtain ⟨z, y, vs, r, ob, es, ep, e, c⟩ := x; exact ⟨z, y, vs, r, ob, es, ep, k _ _ (.inl rfl) e, c⟩
  | dT kvs =>
    obtain ⟨z, y, xs, r, ob, es, ep, e, c⟩ := x
    exact ⟨z, y, xs, Paired.mapP r fun p q z => ⟨z.1, ht _ _ z.2.1, z.2.2⟩, ob, es, ep, k _ _ (.inl rfl) e, c⟩
  | set S n => obtain ⟨ob, es, ep, t, e, c⟩ := x; exact ⟨ob, es, ep, t, k _ _ (.inl rfl) e, c⟩
  | ins C dx fs =>
    obtain ⟨d, z, ne, e, mA, ⟨od, es, ep, e2, c⟩, r⟩ := x
    exact ⟨ho _ d, z, ne, k _ _ (.inl rfl) e, mA, ⟨od, es, ep, k _ _ (.inr d) e2, c⟩, r⟩
  | own y => obtain ⟨ob, e⟩ := x; exact ⟨ob, k _ _ (.inl rfl) e⟩
  | xd fs => obtain ⟨mA, ⟨od, es, ep, e, c⟩, r⟩ := x; exact ⟨mA, ⟨od, es, ep, k _ _ (.inl rfl) e, c⟩, r⟩
  | rng lo hi => obtain ⟨t, u, v, e⟩ := x; exact ⟨t, u, v, k _ _ (.inl rfl) e⟩
  | frz ob u ih => obtain ⟨e, q⟩ := x; exact ⟨k _ _ (.inl rfl) e, ih q⟩
  | tbl ps =>
    have e : h.get? a = some { cls := .none, data := .fields ps } := x
    show h'.get? a = some { cls := .none, data := .fields ps }
    exact k a _ (.inl rfl) e
  | met f y =>
    have e : h.get? a = some (PySem.W.methodObj (.ref f) (.ref y)) := x
    show h'.get? a = some (PySem.W.methodObj (.ref f) (.ref y))
    exact k a _ (.inl rfl) e
  | ext φ => obtain ⟨p, ⟨o, e⟩, st⟩ := x; exact ⟨st _ _ p fun o q => k _ _ (.inl rfl) q, ⟨o, k _ _ (.inl rfl) e⟩, st⟩
theorem HOk.lt (x : HOk P w H h) (e : H a = some o) : a < h.objs.size := (x a o e).lt
theorem HOk.fresh (x : HOk P w H h) (e : h.objs.size ≤ a) : H a = none := by
  cases q : H a with
  | none => rfl
  | some u => exact absurd (Nat.lt_of_lt_of_le (x.lt q) e) (Nat.lt_irrefl _)
/-- every object of the heap is kept -/
theorem HOk.kept (x : HOk P w H h) (k : ∀ b u, h.get? b = some u → h'.get? b = some u) : HOk P w H h' := fun a o e =>
  (x a o e).stay (fun b u _ q => k b u q) (fun _ q => q) fun _ _ q => q
/-- a new object is laid and tracked -/
theorem HOk.laid (x : HOk P w H h) (k : ∀ b u, h.get? b = some u → h'.get? b = some u) (hp : h.objs.size ≤ a) (new : ObjOk P w (upd H a o) h' a o) : HOk P w (upd H a o) h' := fun b u e => by
  have hn := x.fresh hp
  by_cases hb : b = a
  · subst hb; rw [upd_same] at e; cases e; exact new
  · rw [upd_ne hb] at e
    exact (x b u e).stay (fun c v _ q => k c v q) (fun c q => by rw [upd_ne (ne_of_none q hn)]; exact q) fun c xs q => by rw [upd_ne (ne_of_none q hn)]; exact q
end

/-- what may be read as u: it is u, or a known u -/
def Rd (H : Hp) (a : Addr) (u : HO) : Prop := H a = some u ∨ ∃ o, H a = some (.frz o u)
theorem Rd.ok {P : Program} {w : World} {H : Hp} {h : Heap} {a : Addr} {u : HO} (r : Rd H a u) (x : HOk P w H h) : ObjOk P w H h a u := by
  rcases r with r | ⟨o, r⟩
  · exact x a u r
  · obtain ⟨_, q⟩ := x a _ r
    exact q
/-- what may be written -/
def Mut : Option HO → Prop
  | some (.lst _) => True
  | some (.dK _) => True
  | some (.dT _) => True
  | some (.set _ _) => True
  | some (.ins _ _ _) => True
  | some (.ext _) => True
  | _ => False
section
variable {P : Program} {w : World} {H : Hp} {h h' : Heap} {x e : Addr} {o' : HO}
/-- the object at e is changed: x itself, or the dict of the instance x -/
theorem HOk.write (ok : HOk P w H h) (mu : Mut (H x)) (he : e = x ∨ H e = some (.own x)) (k : ∀ b u, b ≠ e → h.get? b = some u → h'.get? b = some u) (heo : ∃ u, h'.get? e = some u)
    (new : ObjOk P w (upd H x o') h' x o') : HOk P w (upd H x o') h' := fun b u q => by
  have nown : ∀ c y, H c = some (.own y) → c ≠ x := fun c y r z => by subst z; rw [r] at mu; exact mu
  have ntup : ∀ c xs, H c = some (.tup xs) → c ≠ x := fun c xs r z => by subst z; rw [r] at mu; exact mu
  by_cases hb : b = x
  · subst hb; rw [upd_same] at q; cases q; exact new
  · rw [upd_ne hb] at q
    by_cases hbe : b = e
    · have q' : H b = some (.own x) := by
        rcases he with z | z
        · exact absurd (hbe.trans z) hb
        · rw [hbe]; exact z
      rw [q] at q'; cases q'
      obtain ⟨v, hv⟩ := heo
      exact ⟨v, by rw [hbe]; exact hv⟩
    · refine (ok b u q).stay (fun c v hc r => k c v ?_ r) (fun c r => by rw [upd_ne (nown c b r)]; exact r) fun c xs r => by rw [upd_ne (ntup c xs r)]; exact r
      rcases hc with rfl | hc
      · exact hbe
      · rintro rfl
        rcases he with z | z
        · exact nown c b hc z
        · rw [hc] at z; cases z; exact hb rfl
end

/-! ### kept unless tracked; of the frames at fs (the callers') the slots may change (an exception that passes writes there); of the records at ex (iterators) nothing is said -/
structure Un (fs ex : List Addr) (H H' : Hp) (h h' : Heap) : Prop where
  keep : ∀ b o, h.get? b = some o → H b = none → b ∉ fs → b ∉ ex → h'.get? b = some o
  slot : ∀ b o, h.get? b = some o → H b = none → b ∈ fs → b ∉ ex → ∃ sl, h'.get? b = some { o with slots := sl }
  free : ∀ b o, h.get? b = some o → H b = none → b ∉ ex → H' b = none
  there : ∀ b o, h.get? b = some o → b ∉ ex → ∃ o', h'.get? b = some o'
  tups : ∀ b xs, H b = some (.tup xs) → H' b = some (.tup xs)
  frzs : ∀ b o u, H b = some (.frz o u) → H' b = some (.frz o u)
  tbls : ∀ b ps, H b = some (.tbl ps) → ∃ more, H' b = some (.tbl (ps ++ more))
section
variable {fs fs' ex ex' : List Addr} {H H1 H2 : Hp} {h h1 h2 h' : Heap} {a x e : Addr} {o : HO}
theorem Un.any (u : Un fs ex H H1 h h1) {b : Addr} {ob : Obj} (q : h.get? b = some ob) (n : H b = none) (hx : b ∉ ex) : ∃ sl, h1.get? b = some { ob with slots := sl } := by
  by_cases hb : b ∈ fs
  · exact u.slot b ob q n hb hx
  · exact ⟨ob.slots, u.keep b ob q n hb hx⟩
theorem Un.kept (k : ∀ b u, h.get? b = some u → h'.get? b = some u) : Un fs ex H H h h' :=
  ⟨fun b ob q _ _ _ => k b ob q, fun b ob q _ _ _ => ⟨ob.slots, k b ob q⟩, fun _ _ _ n _ => n, fun b ob q _ => ⟨ob, k b ob q⟩, fun _ _ q => q, fun _ _ _ q => q, fun _ ps q => ⟨#[], by rw [q]; simp⟩⟩
theorem Un.refl : Un fs ex H H h h := Un.kept fun _ _ q => q
theorem Un.laid (k : ∀ b u, h.get? b = some u → h'.get? b = some u) (hp : h.objs.size ≤ a) (hn : H a = none) : Un fs ex H (upd H a o) h h' where
  keep := fun b u q _ _ _ => k b u q
  slot := fun b u q _ _ _ => ⟨u.slots, k b u q⟩
  free := fun b u q n _ => by rw [upd_ne (Nat.ne_of_lt (Nat.lt_of_lt_of_le (Heap.lt_size q) hp))]; exact n
  there := fun b u q _ => ⟨u, k b u q⟩
  tups := fun b xs q => by rw [upd_ne (ne_of_none q hn)]; exact q
  frzs := fun b u xs q => by rw [upd_ne (ne_of_none q hn)]; exact q
  tbls := fun b ps q => ⟨#[], by rw [upd_ne (ne_of_none q hn), q]; simp⟩
theorem Un.write (mu : Mut (H x)) (he : e = x ∨ H e = some (.own x)) (k : ∀ b u, b ≠ e → h.get? b = some u → h'.get? b = some u) (heo : ∃ u, h'.get? e = some u) : Un fs ex H (upd H x o) h h' := by
  have hx : ∀ b, H b = none → b ≠ x := fun b n z => by subst z; rw [n] at mu; exact mu
  have hb : ∀ b, H b = none → b ≠ e := fun b n z => by
    subst z
    rcases he with r | r
    · exact hx b n r
    · rw [n] at r; cases r
  have hm : ∀ b u, H b = some u → ¬ Mut (some u) → b ≠ x := fun b u q nm z => by subst z; rw [q] at mu; exact nm mu
  refine ⟨fun b u q n _ _ => k b u (hb b n) q, fun b u q n _ _ => ⟨u.slots, k b u (hb b n) q⟩, fun b u q n _ => by rw [upd_ne (hx b n)]; exact n, fun b u q _ => ?_,
    fun b xs q => by rw [upd_ne (hm b _ q fun z => z)]; exact q, fun b u xs q => by rw [upd_ne (hm b _ q fun z => z)]; exact q, fun b ps q => ⟨#[], by rw [upd_ne (hm b _ q fun z => z), q]; simp⟩⟩
  by_cases hbe : b = e
  · subst hbe; exact heo
  · exact ⟨u, k b u hbe q⟩
end

/-! ### the heap without what is tracked -/
def trk (h : Heap) (H : Hp) : List Addr := (List.range h.objs.size).filter fun a => (H a).isSome
def hidT (h : Heap) (H : Hp) : Heap := PySem.W.hideAll h (trk h H)
theorem hidT_size (h : Heap) (H : Hp) : (hidT h H).objs.size = h.objs.size := PySem.W.hideAll_size _ _
theorem hidT_get {h : Heap} {H : Hp} {b : Addr} {o : Obj} (e : h.get? b = some o) (n : H b = none) : (hidT h H).get? b = some o :=
  PySem.W.hideAll_get _ e fun hm => by
    have q : (H b).isSome = true := (List.mem_filter.mp hm).2
    rw [n] at q; simp at q
theorem of_hidT {h : Heap} {H : Hp} {b : Addr} {o : Obj} (e : (hidT h H).get? b = some o) : h.get? b = some o ∧ H b = none := by
  have e' : h.get? b = some o := PySem.W.of_hideAll (trk h H) e
  refine ⟨e', ?_⟩
  cases q : H b with
  | none => rfl
  | some x =>
    have hm : b ∈ trk h H := List.mem_filter.mpr ⟨List.mem_range.mpr (Heap.lt_size e'), by simp [q]⟩
    have z : (hidT h H).get? b = none := PySem.W.hideAll_none (trk h H) hm
    rw [z] at e; cases e

/-! ### OpenK's ledger, filled with every new object but one -/
def allNews (g h : Heap) (L : Addr) : List (Addr × Obj) := (List.range h.objs.size).filterMap fun a => if a = L ∨ (g.get? a).isSome = true then none else (h.get? a).map fun o => (a, o)
def rest (g h : Heap) (L d : Addr) : List (Addr × Obj) := (allNews g h L).filter fun p => decide (p.1 ≠ d)
end L2

namespace L2
open PySem PySem.Spec PyProof.Rows

/-- the module's facts, over the base: the heap at the law's entry without what is tracked there -/
structure Mod (K : PySem.W.Frag) (mg : Str → Option Value) (base : Heap) : Prop where
  kin : K.In base
  glob : base.Ns mainGlobals mg
  blt : ∃ mb, base.Ns builtinsNs mb ∧ ∀ x : Str, x ≠ "__name__" → mb x = bootBuiltins x
  nolimit : base.NoLimit

/-- the context: a def's body (or a comprehension's block) running. base: fixed through the whole law; s₀, H₀: the entry; outer: the frames whose slots others may change (a def's callers); stack: all frames that run;
   ex: iterators that were made ahead of the entry and are walked here (a comprehension's); fn: the names whose cells were made at the entry (a def: all; a comprehension's block: its own); calm: not within an except suite; pn: pins that every state bears; xe: what is wanted of an exception that leaves the code -/
structure Cx where
  prog : Program
  w : World
  K : PySem.W.Frag
  mg : Str → Option Value
  base : Heap
  A : Around
  N : List Str
  s₀ : Shared
  H₀ : Hp
  env : Env
  outer : List Env
  stack : List Env
  ex : List Addr
  fn : Str → Bool
  calm : Bool
  pn : List (Addr × Obj)
  xe : Value → Shared → Prop
/-- the callers' frames -/
def frs (l : List Env) : List Addr := l.filterMap (·.frame)
abbrev Cx.fs (X : Cx) : List Addr := frs X.outer

def Vis (sc : Scope) (x : Str) : Prop := sc.names.lookup x = some .local ∨ sc.names.lookup x = some .cell ∨ sc.names.lookup x = some .free
def Loc (sc : Scope) (x : Str) : Prop := sc.names.lookup x = some .local ∨ sc.names.lookup x = some .cell
def Look (env : Env) (h : Heap) (m : Str → Option Value) (x : Str) (u : Value) : Prop :=
  (env.kindOf x = some .local ∧ m x = some u) ∨ ((env.kindOf x = some .cell ∨ env.kindOf x = some .free) ∧ ∃ c, env.cells.lookup x = some c ∧ h.IsCell c (some u))

structure Cx.Ok (X : Cx) : Prop where
  mod : Mod X.K X.mg X.base
  kind : X.env.scope.kind = .function
  glob : X.env.globals = mainGlobals
  blt : X.env.builtins = builtinsNs
  above : X.s₀.heap.objs.size ≤ X.env.locals
  inj : ∀ x y c, X.env.cells.lookup x = some c → X.env.cells.lookup y = some c → x = y
  has : ∀ x, (X.env.kindOf x = some .cell ∨ X.env.kindOf x = some .free) → ∃ c, X.env.cells.lookup x = some c
  cab : ∀ x c, X.fn x = true → X.env.cells.lookup x = some c → X.s₀.heap.objs.size ≤ c
  hd : X.calm = true → X.A.handled = none
  frames : X.A.frames = some X.stack
  stk : X.stack = X.outer ∨ (X.stack = X.env :: X.outer ∧ X.env.frame = some X.env.locals)
  exf : ∀ b ∈ X.ex, b ≠ X.env.locals ∧ ∀ x c, X.env.cells.lookup x = some c → c ≠ b
  bs : ∀ b o, X.base.get? b = some o → X.s₀.heap.get? b = some o ∧ X.H₀ b = none
  bsz : X.base.objs.size ≤ X.s₀.heap.objs.size
  noex : ∀ b o, X.base.get? b = some o → b ∉ X.ex
  exfs : ∀ b ∈ X.ex, b ∉ X.fs
  funs : X.s₀.heap.FunFrames X.base X.outer
  frf : ∀ b ∈ X.fs, X.H₀ b = none

structure Inv (X : Cx) (pins : List (Addr × Obj)) (σ : List (Option V)) (H : Hp) (s : Shared) : Prop where
  ok : X.Ok
  os : s.os = X.s₀.os
  bare : AllBare s.gens
  base : Un X.fs X.ex X.H₀ H X.s₀.heap s.heap
  loc : ∃ m, s.heap.Ns X.env.locals m ∧ ∀ (i : Nat) (x : Str) (v : V), X.N[i]? = some x → σ[i]? = some (some v) → Vis X.env.scope x → ∃ u, RelV v u ∧ Look X.env s.heap m x u
  cell : ∀ x c, X.env.cells.lookup x = some c → ∃ v, s.heap.IsCell c v
  free : H X.env.locals = none
  freeC : ∀ x c, X.env.cells.lookup x = some c → H c = none
  pin : ∀ p ∈ X.pn ++ pins, s.heap.get? p.1 = some p.2 ∧ H p.1 = none ∧ p.1 ≠ X.env.locals ∧ p.1 ∉ X.fs ∧ ∀ v, p.2.data ≠ .cell v
  hok : HOk X.prog X.w H s.heap
  len : σ.length = X.N.length

section
variable {X : Cx} {pins : List (Addr × Obj)} {σ : List (Option V)} {H H' : Hp} {s : Shared} {h' : Heap}

theorem Cx.Ok.nofr (ok : X.Ok) {b : Addr} {o : Obj} (e : X.base.get? b = some o) : b ∉ X.fs := fun hb => by
  have := (ok.funs.mem hb).1
  rw [e] at this; cases this
theorem Inv.bs (I : Inv X pins σ H s) : ∀ b o, X.base.get? b = some o → s.heap.get? b = some o ∧ H b = none := fun b o e =>
  ⟨I.base.keep b o (I.ok.bs b o e).1 (I.ok.bs b o e).2 (I.ok.nofr e) (I.ok.noex b o e), I.base.free b o (I.ok.bs b o e).1 (I.ok.bs b o e).2 (I.ok.noex b o e)⟩
theorem Inv.bk (I : Inv X pins σ H s) : ∀ b o, X.base.get? b = some o → s.heap.get? b = some o := fun b o e => (I.bs b o e).1
theorem Inv.mod (I : Inv X pins σ H s) : Mod X.K X.mg X.base := I.ok.mod
theorem Inv.kIn (I : Inv X pins σ H s) : X.K.In s.heap := I.ok.mod.kin.keeps I.bk
/-- the frame over the base: for OpenK's rules (K.In X.base is I.mod.kin) -/
theorem Inv.fr (I : Inv X pins σ H s) : ∃ m, Fr X.base X.env.locals s.heap m :=
  let ⟨m, hn, _⟩ := I.loc
  ⟨m, hn, I.bk, Nat.le_trans I.ok.bsz I.ok.above⟩
theorem Inv.lt (I : Inv X pins σ H s) : X.env.locals < s.heap.objs.size := let ⟨_, hn, _⟩ := I.loc; hn.lt
theorem Inv.sz (I : Inv X pins σ H s) : X.s₀.heap.objs.size ≤ s.heap.objs.size := Nat.le_trans I.ok.above (Nat.le_of_lt I.lt)
theorem Inv.nofs (I : Inv X pins σ H s) {a : Addr} (h : s.heap.objs.size ≤ a) : a ∉ X.fs := fun hb => by
  obtain ⟨_, o, ho, _⟩ := I.ok.funs.mem hb
  exact absurd (Nat.lt_of_lt_of_le (Heap.lt_size ho) (Nat.le_trans I.sz h)) (Nat.lt_irrefl _)
theorem Inv.cne (I : Inv X pins σ H s) : ∀ x c, X.env.cells.lookup x = some c → c ≠ X.env.locals := fun x c e z => by
  obtain ⟨v, o, ho, hd⟩ := I.cell x c e
  obtain ⟨m, ⟨o', es, ep, ho', hd', _⟩, _⟩ := I.loc
  rw [z, ho'] at ho; cases ho; rw [hd'] at hd; cases hd
theorem Inv.funs (I : Inv X pins σ H s) : s.heap.FunFrames X.base X.outer := by
  have all : ∀ (l : List Env), (∀ b ∈ frs l, b ∈ X.fs) → X.s₀.heap.FunFrames X.base l → s.heap.FunFrames X.base l := by
    intro l
    induction l with
    | nil => intro _ _; trivial
    | cons env r ih =>
      intro hs hl
      obtain ⟨hk, ⟨L, o, hf, hn, ho, hd⟩, hr⟩ := hl
      have hL : L ∈ X.fs := hs L (by unfold frs; rw [List.filterMap_cons, hf]; exact List.mem_cons_self)
      obtain ⟨sl, e⟩ := I.base.slot L o ho (I.ok.frf L hL) hL fun z => I.ok.exfs L z hL
      exact ⟨hk, ⟨L, _, hf, hn, e, hd⟩, ih (fun b hb => hs b (by unfold frs; rw [List.filterMap_cons, hf]; exact List.mem_cons_of_mem _ hb)) hr⟩
  exact all X.outer (fun _ hb => hb) I.ok.funs

/-- the frames that run, for a call -/
theorem Inv.stack (I : Inv X pins σ H s) : s.heap.FunFrames X.base X.stack := by
  rcases I.ok.stk with e | ⟨e, hf⟩
  · rw [e]; exact I.funs
  · rw [e]
    obtain ⟨m, hn, _⟩ := I.loc
    refine .cons (by rw [I.ok.kind]; decide) hf hn ?_ I.funs
    exact Heap.get?_none_of_le (Nat.le_trans I.ok.bsz I.ok.above)
theorem Inv.stkSub (I : Inv X pins σ H s) : ∀ b ∈ frs X.stack, b ∈ X.env.locals :: X.fs := fun b hb => by
  rcases I.ok.stk with e | ⟨e, hf⟩
  · rw [e] at hb; exact List.mem_cons_of_mem _ hb
  · rw [e] at hb
    unfold frs at hb
    rw [List.filterMap_cons, hf] at hb
    exact hb
theorem Inv.stkFree (I : Inv X pins σ H s) : ∀ b ∈ frs X.stack, H b = none := fun b hb => by
  rcases List.mem_cons.mp (I.stkSub b hb) with e | hb
  · rw [e]; exact I.free
  · obtain ⟨_, o, ho, _⟩ := I.ok.funs.mem hb
    exact I.base.free b o ho (I.ok.frf b hb) fun z => I.ok.exfs b z hb

/-- THE STEP: the untracked objects but the frame and the records at ch are kept (the callers' frames up to slots), the frame's map is kept, the new abstract heap is held -/
theorem Inv.step {g' : Array GenState} {t' : Nat} {d' : Drawn} {ch : List Addr} (I : Inv X pins σ H s)
    (hch : ∀ b ∈ ch, (b ∈ X.ex ∨ X.s₀.heap.objs.size ≤ b) ∧ b ≠ X.env.locals ∧ (∀ x c, X.env.cells.lookup x = some c → c ≠ b) ∧ ∀ p ∈ X.pn ++ pins, p.1 ≠ b)
    (keep : ∀ b o, b ≠ X.env.locals → b ∉ X.fs → b ∉ ch → s.heap.get? b = some o → H b = none → h'.get? b = some o)
    (slot : ∀ b o, b ≠ X.env.locals → b ∈ X.fs → b ∉ ch → s.heap.get? b = some o → H b = none → ∃ sl, h'.get? b = some { o with slots := sl }) (free : ∀ b o, b ∉ ch → s.heap.get? b = some o → H b = none → H' b = none)
    (there : ∀ b o, b ∉ ch → s.heap.get? b = some o → ∃ o', h'.get? b = some o')
    (tups : ∀ b xs, H b = some (.tup xs) → H' b = some (.tup xs)) (frzs : ∀ b o u, H b = some (.frz o u) → H' b = some (.frz o u)) (tbls : ∀ b ps, H b = some (.tbl ps) → ∃ more, H' b = some (.tbl (ps ++ more)))
    (ns : ∀ m, s.heap.Ns X.env.locals m → h'.Ns X.env.locals m) (hok : HOk X.prog X.w H' h') (hg : AllBare g') :
    Inv X pins σ H' { s with heap := h', gens := g', drawn := d', toks := t' } := by
  have neL : ∀ b o, X.s₀.heap.get? b = some o → b ≠ X.env.locals := fun b o e => Nat.ne_of_lt (Nat.lt_of_lt_of_le (Heap.lt_size e) I.ok.above)
  have neC : ∀ b o, X.s₀.heap.get? b = some o → b ∉ X.ex → b ∉ ch := fun b o e hx hb => by
    rcases (hch b hb).1 with z | z
    · exact hx z
    · exact absurd (Nat.lt_of_lt_of_le (Heap.lt_size e) z) (Nat.lt_irrefl _)
  have cellK : ∀ x c, X.env.cells.lookup x = some c → ∀ v, s.heap.IsCell c v → h'.IsCell c v := fun x c e v ⟨o, ho, hd⟩ => by
    have nch : c ∉ ch := fun z => (hch c z).2.2.1 x c e rfl
    by_cases hc : c ∈ X.fs
    · obtain ⟨sl, q⟩ := slot c o (I.cne x c e) hc nch ho (I.freeC x c e)
      exact ⟨_, q, hd⟩
    · exact ⟨o, keep c o (I.cne x c e) hc nch ho (I.freeC x c e), hd⟩
  refine ⟨I.ok, I.os, hg, ⟨fun b o e n hb hx => ?_, fun b o e n hb hx => ?_, fun b o e n hx => ?_, fun b o e hx => ?_, fun b xs e => tups b xs (I.base.tups b xs e), fun b o xs e => frzs b o xs (I.base.frzs b o xs e), fun b ps e => ?_⟩, ?_, fun x c e => ?_, ?_, fun x c e => ?_, fun p hp => ?_, hok, I.len⟩
  · exact keep b o (neL b o e) hb (neC b o e hx) (I.base.keep b o e n hb hx) (I.base.free b o e n hx)
  · obtain ⟨sl, e1⟩ := I.base.slot b o e n hb hx
    obtain ⟨sl', e2⟩ := slot b _ (neL b o e) hb (neC b o e hx) e1 (I.base.free b o e n hx)
    exact ⟨sl', e2⟩
  · obtain ⟨o', e1⟩ := I.base.there b o e hx
    exact free b o' (neC b o e hx) e1 (I.base.free b o e n hx)
  · obtain ⟨o', e1⟩ := I.base.there b o e hx
    exact there b o' (neC b o e hx) e1
  · obtain ⟨m1, e1⟩ := I.base.tbls b ps e
    obtain ⟨m2, e2⟩ := tbls b _ e1
    exact ⟨m1 ++ m2, by rw [e2, Array.append_assoc]⟩
  · obtain ⟨m, hn, hl⟩ := I.loc
    refine ⟨m, ns m hn, fun i x v e1 e2 e3 => ?_⟩
    obtain ⟨u, r, l⟩ := hl i x v e1 e2 e3
    refine ⟨u, r, ?_⟩
    rcases l with l | ⟨k, c, e, z⟩
    · exact .inl l
    · exact .inr ⟨k, c, e, cellK x c e _ z⟩
  · obtain ⟨v, z⟩ := I.cell x c e
    exact ⟨v, cellK x c e v z⟩
  · obtain ⟨m, ⟨o, _, _, ho, _⟩, _⟩ := I.loc
    exact free _ o (fun z => (hch _ z).2.1 rfl) ho I.free
  · obtain ⟨v, o, ho, hd⟩ := I.cell x c e
    exact free c o (fun z => (hch c z).2.2.1 x c e rfl) ho (I.freeC x c e)
  · obtain ⟨e, n, ne, nf, d⟩ := I.pin p hp
    have nch : p.1 ∉ ch := fun z => (hch p.1 z).2.2.2 p hp rfl
    exact ⟨keep p.1 p.2 ne nf nch e n, free p.1 p.2 nch e n, ne, nf, d⟩
/-- .. where the frame's own object is kept too -/
theorem Inv.un {t' : Nat} (I : Inv X pins σ H s) (u : Un X.fs [] H H' s.heap h') (hok : HOk X.prog X.w H' h') : Inv X pins σ H' { s with heap := h', toks := t' } := by
  obtain ⟨m, ⟨o, es, ep, ho, r⟩, _⟩ := id I.loc
  obtain ⟨sl, hL⟩ := u.any ho I.free (by simp)
  exact I.step (g' := s.gens) (d' := s.drawn) (ch := []) (fun _ z => nomatch z) (fun b o _ hb _ e n => u.keep b o e n hb (by simp)) (fun b o _ hb _ e n => u.slot b o e n hb (by simp)) (fun b o _ e n => u.free b o e n (by simp)) (fun b o _ e => u.there b o e (by simp)) u.tups u.frzs u.tbls (fun m' hm => by
    obtain ⟨o', es', ep', ho', r'⟩ := hm
    rw [ho] at ho'; cases ho'
    exact ⟨_, es', ep', hL, r'⟩) hok I.bare
/-- behind a call (or a comprehension's block): the slots of this frame may have changed too, the records at ch may have turned -/
theorem Inv.call {g' : Array GenState} {t' : Nat} {d' : Drawn} {ch : List Addr} (I : Inv X pins σ H s) (u : Un (frs X.stack) ch H H' s.heap h') (hok : HOk X.prog X.w H' h') (hg : AllBare g')
    (hch : ∀ b ∈ ch, (b ∈ X.ex ∨ X.s₀.heap.objs.size ≤ b) ∧ b ≠ X.env.locals ∧ (∀ x c, X.env.cells.lookup x = some c → c ≠ b) ∧ ∀ p ∈ X.pn ++ pins, p.1 ≠ b) :
    Inv X pins σ H' { s with heap := h', gens := g', drawn := d', toks := t' } := by
  obtain ⟨m, ⟨o, es, ep, ho, r⟩, _⟩ := id I.loc
  obtain ⟨sl, hL⟩ := u.any ho I.free fun z => (hch _ z).2.1 rfl
  exact I.step (ch := ch) hch (fun b o hL hb hc e n => u.keep b o e n (fun z => (List.mem_cons.mp (I.stkSub b z)).elim hL hb) hc) (fun b o _ _ hc e n => u.any e n hc) (fun b o hc e n => u.free b o e n hc) (fun b o hc e => u.there b o e hc) u.tups u.frzs u.tbls (fun m' hm => by
    obtain ⟨o', es', ep', ho', r'⟩ := hm
    rw [ho] at ho'; cases ho'
    exact ⟨_, es', ep', hL, r'⟩) hok hg
/-- an untracked record of ours (an iterator) has turned -/
theorem Inv.turned {t' : Nat} {it : Addr} (I : Inv X pins σ H s) (k : ∀ b o, b ≠ it → s.heap.get? b = some o → h'.get? b = some o) (hn : H it = none) (hL : it ≠ X.env.locals)
    (h1 : it ∈ X.ex ∨ X.s₀.heap.objs.size ≤ it) (h2 : ∀ x c, X.env.cells.lookup x = some c → c ≠ it) (h3 : ∀ p ∈ X.pn ++ pins, p.1 ≠ it) : Inv X pins σ H { s with heap := h', toks := t' } := by
  have nit : ∀ b u, H b = some u → b ≠ it := fun b u e z => by rw [z, hn] at e; cases e
  refine I.step (g' := s.gens) (d' := s.drawn) (ch := [it]) (fun b hb => ?_) (fun b o _ _ hc e _ => k b o (fun z => hc (by simp [z])) e) (fun b o _ _ hc e _ => ⟨o.slots, k b o (fun z => hc (by simp [z])) e⟩) (fun _ _ _ _ n => n)
    (fun b o hc e => ⟨o, k b o (fun z => hc (by simp [z])) e⟩) (fun _ _ e => e) (fun _ _ _ e => e) (fun b ps e => ⟨#[], by rw [e]; simp⟩) (fun m hm => ?_) (fun b u e => ?_) I.bare
  · have e : b = it := by simpa using hb
    subst e
    exact ⟨h1, hL, h2, h3⟩
  · obtain ⟨o, es, ep, ho, r⟩ := hm
    exact ⟨o, es, ep, k _ o (Ne.symm hL) ho, r⟩
  · refine (I.hok b u e).stay (fun c v hc q => k c v ?_ q) (fun _ q => q) fun _ _ q => q
    rcases hc with z | z
    · rw [z]; exact nit b u e
    · exact nit c _ z
theorem Inv.tok (I : Inv X pins σ H s) (t : Nat) : Inv X pins σ H { s with toks := t } := I.un (h' := s.heap) (t' := t) Un.refl I.hok
/-- all objects kept -/
theorem Inv.kept {t' : Nat} (I : Inv X pins σ H s) (k : ∀ b u, s.heap.get? b = some u → h'.get? b = some u) : Inv X pins σ H { s with heap := h', toks := t' } := I.un (Un.kept k) (I.hok.kept k)
/-- a new object laid and tracked -/
theorem Inv.laid {a : Addr} {o : HO} {t' : Nat} (I : Inv X pins σ H s) (k : ∀ b u, s.heap.get? b = some u → h'.get? b = some u) (hp : s.heap.objs.size ≤ a) (new : ObjOk X.prog X.w (upd H a o) h' a o) :
    Inv X pins σ (upd H a o) { s with heap := h', toks := t' } := I.un (Un.laid k hp (I.hok.fresh hp)) (I.hok.laid k hp new)
/-- an object written -/
theorem Inv.write {x e : Addr} {o : HO} {t' : Nat} (I : Inv X pins σ H s) (mu : Mut (H x)) (he : e = x ∨ H e = some (.own x)) (k : ∀ b u, b ≠ e → s.heap.get? b = some u → h'.get? b = some u) (heo : ∃ u, h'.get? e = some u)
    (new : ObjOk X.prog X.w (upd H x o) h' x o) : Inv X pins σ (upd H x o) { s with heap := h', toks := t' } := I.un (Un.write mu he k heo) (I.hok.write mu he k heo new)
/-- forgetting slots, pins -/
theorem Inv.weak {σ' : List (Option V)} (I : Inv X pins σ H s) (hl : σ'.length = σ.length) (w : ∀ (i : Nat) v, σ'[i]? = some (some v) → σ[i]? = some (some v)) : Inv X pins σ' H s :=
  ⟨I.ok, I.os, I.bare, I.base, let ⟨m, hn, hl'⟩ := I.loc; ⟨m, hn, fun i x v e1 e2 e3 => hl' i x v e1 (w i v e2) e3⟩, I.cell, I.free, I.freeC, I.pin, I.hok, hl.trans I.len⟩
theorem Inv.pins_of {pins' : List (Addr × Obj)} (I : Inv X pins σ H s) (h : ∀ p ∈ pins', s.heap.get? p.1 = some p.2 ∧ H p.1 = none ∧ p.1 ≠ X.env.locals ∧ p.1 ∉ X.fs ∧ ∀ v, p.2.data ≠ .cell v) : Inv X pins' σ H s :=
  ⟨I.ok, I.os, I.bare, I.base, I.loc, I.cell, I.free, I.freeC, fun p hp => (List.mem_append.mp hp).elim (fun z => I.pin p (List.mem_append_left _ z)) (h p), I.hok, I.len⟩

theorem nodup_ix {N : List Str} (hN : N.Nodup) {i j : Nat} {x : Str} (a : N[i]? = some x) (b : N[j]? = some x) : i = j := by
  obtain ⟨h1, e1⟩ := List.getElem?_eq_some_iff.mp a
  obtain ⟨h2, e2⟩ := List.getElem?_eq_some_iff.mp b
  exact (List.getElem_inj hN).mp (e1.trans e2.symm)

/-- a name is stored; what changed -/
theorem store_ok2 {M : Model} {A : Around} {E : Value → Shared → Prop} {i : Nat} {x : Str} {v : V} {u : Value} {Q : Unit → Shared → Prop} (I : Inv X pins σ H s) (hN : X.N.Nodup) (hi : X.N[i]? = some x) (hx : Loc X.env.scope x) (r : RelV v u)
    (h : ∀ s', Inv X pins (σ.set i (some v)) H s' → (∃ a, Heap.SameBut a s.heap s'.heap ∧ (a = X.env.locals ∨ X.env.cells.lookup x = some a)) → Q () s') (hf : X.fn x = true ∨ X.env.scope.names.lookup x = some .local := by first | exact .inl rfl | exact .inr rfl | assumption) : wpAny M A (storeName X.env x u) Q E s := by
  obtain ⟨m, hn, hl⟩ := id I.loc
  have hcls : (X.env.scope.kind == .class || (X.env.scope.kind == .module && X.env.locals != X.env.globals)) = false := by rw [I.ok.kind]; rfl
  have hiσ : i < σ.length := by rw [I.len]; exact (List.getElem?_eq_some_iff.mp hi).1
  have cne := I.cne
  have tracked : ∀ {a : Addr} {h' : Heap}, (∃ o, s.heap.get? a = some o ∧ H a = none) → Heap.SameBut a s.heap h' → HOk X.prog X.w H h' := fun {a h'} ha hs b ob e => by
    obtain ⟨_, _, hfree⟩ := ha
    refine (I.hok b ob e).stay (fun c w' hc q => (hs.2 c ?_).trans q) (fun _ q => q) fun _ _ q => q
    rintro rfl
    rcases hc with rfl | hc
    · rw [hfree] at e; cases e
    · rw [hfree] at hc; cases hc
  rcases hx with hk | hk
  · refine wpAny_storeName_local hk hn (fun h' hn' hs => ?_) hcls
    obtain ⟨oL, _, _, hoL, _⟩ := id hn
    refine h _ ⟨I.ok, I.os, I.bare, ⟨fun b o e n hb hx => ?_, fun b o e n hb hx => ?_, I.base.free, fun b o e hx => ?_, I.base.tups, I.base.frzs, I.base.tbls⟩, ⟨_, hn', fun j y v' e1 e2 e3 => ?_⟩, fun y c e => ?_, I.free, I.freeC, fun p hp => ?_, tracked ⟨oL, hoL, I.free⟩ hs, by simpa using I.len⟩ ⟨_, hs, .inl rfl⟩
    · exact (hs.2 b (Nat.ne_of_lt (Nat.lt_of_lt_of_le (Heap.lt_size e) I.ok.above))).trans (I.base.keep b o e n hb hx)
    · obtain ⟨sl, e1⟩ := I.base.slot b o e n hb hx
      exact ⟨sl, (hs.2 b (Nat.ne_of_lt (Nat.lt_of_lt_of_le (Heap.lt_size e) I.ok.above))).trans e1⟩
    · obtain ⟨o', e1⟩ := I.base.there b o e hx
      exact ⟨o', (hs.2 b (Nat.ne_of_lt (Nat.lt_of_lt_of_le (Heap.lt_size e) I.ok.above))).trans e1⟩
    · by_cases hj : j = i
      · subst hj
        rw [hi] at e1; cases e1
        rw [List.getElem?_set_self hiσ] at e2
        cases e2
        exact ⟨u, r, .inl ⟨hk, by simp⟩⟩
      · rw [List.getElem?_set_ne (Ne.symm hj)] at e2
        obtain ⟨u', r', q⟩ := hl j y v' e1 e2 e3
        refine ⟨u', r', ?_⟩
        rcases q with ⟨k, e⟩ | ⟨k, c, e, z⟩
        · refine .inl ⟨k, ?_⟩
          have : y ≠ x := fun e => hj (nodup_ix hN e1 (e ▸ hi))
          simp [this, e]
        · exact .inr ⟨k, c, e, z.sameBut hs (cne y c e)⟩
    · obtain ⟨w', z⟩ := I.cell y c e
      exact ⟨w', z.sameBut hs (cne y c e)⟩
    · obtain ⟨e, n, ne, nf, d⟩ := I.pin p hp
      exact ⟨(hs.2 p.1 ne).trans e, n, ne, nf, d⟩
  · have hfn : X.fn x = true := by
      rcases hf with z | z
      · exact z
      · rw [z] at hk; cases hk
    obtain ⟨c, hc⟩ := I.ok.has x (.inl hk)
    obtain ⟨w', z⟩ := I.cell x c hc
    refine wpAny_storeName_cell I.ok.kind hk hc z (fun h' hc' hs => ?_)
    obtain ⟨oc, hoc, hocd⟩ := id z
    refine h { s with heap := h' } ⟨I.ok, I.os, I.bare, ⟨fun b o e n hb hx => ?_, fun b o e n hb hx => ?_, I.base.free, fun b o e hx => ?_, I.base.tups, I.base.frzs, I.base.tbls⟩, ⟨m, hn.sameBut hs (Ne.symm (cne x c hc)), fun j y v' e1 e2 e3 => ?_⟩, fun y c' e => ?_, I.free, I.freeC, fun p hp => ?_, tracked ⟨oc, hoc, I.freeC x c hc⟩ hs, by simpa using I.len⟩ ⟨c, hs, .inr hc⟩
    · exact (hs.2 b (Nat.ne_of_lt (Nat.lt_of_lt_of_le (Heap.lt_size e) (I.ok.cab x c hfn hc)))).trans (I.base.keep b o e n hb hx)
    · obtain ⟨sl, e1⟩ := I.base.slot b o e n hb hx
      exact ⟨sl, (hs.2 b (Nat.ne_of_lt (Nat.lt_of_lt_of_le (Heap.lt_size e) (I.ok.cab x c hfn hc)))).trans e1⟩
    · obtain ⟨o', e1⟩ := I.base.there b o e hx
      exact ⟨o', (hs.2 b (Nat.ne_of_lt (Nat.lt_of_lt_of_le (Heap.lt_size e) (I.ok.cab x c hfn hc)))).trans e1⟩
    · by_cases hj : j = i
      · subst hj
        rw [hi] at e1; cases e1
        rw [List.getElem?_set_self hiσ] at e2
        cases e2
        exact ⟨u, r, .inr ⟨.inl hk, c, hc, hc'⟩⟩
      · rw [List.getElem?_set_ne (Ne.symm hj)] at e2
        obtain ⟨u', r', q⟩ := hl j y v' e1 e2 e3
        refine ⟨u', r', ?_⟩
        rcases q with q | ⟨k, c', e, z'⟩
        · exact .inl q
        · refine .inr ⟨k, c', e, z'.sameBut hs ?_⟩
          rintro rfl
          exact hj (nodup_ix hN e1 (I.ok.inj _ _ _ e hc ▸ hi))
    · by_cases hcc : c' = c
      · subst hcc; exact ⟨_, hc'⟩
      · obtain ⟨w2, z2⟩ := I.cell y c' e
        exact ⟨w2, z2.sameBut hs hcc⟩
    · obtain ⟨e, n, ne, nf, d⟩ := I.pin p hp
      refine ⟨(hs.2 p.1 ?_).trans e, n, ne, nf, d⟩
      intro q
      rw [q, hoc] at e
      have q' : oc = p.2 := Option.some.inj e
      exact d w' (by rw [← q']; exact hocd)
theorem store_ok {M : Model} {A : Around} {E : Value → Shared → Prop} {i : Nat} {x : Str} {v : V} {u : Value} {Q : Unit → Shared → Prop} (I : Inv X pins σ H s) (hN : X.N.Nodup) (hi : X.N[i]? = some x) (hx : Loc X.env.scope x) (r : RelV v u)
    (h : ∀ s', Inv X pins (σ.set i (some v)) H s' → Q () s') (hf : X.fn x = true ∨ X.env.scope.names.lookup x = some .local := by first | exact .inl rfl | exact .inr rfl | assumption) : wpAny M A (storeName X.env x u) Q E s :=
  store_ok2 I hN hi hx r (fun s' I' _ => h s' I') hf
/-- behind a call or a block, the state as it is -/
theorem Inv.call' {s' : Shared} {ch : List Addr} (I : Inv X pins σ H s) (ho : s'.os = s.os) (u : Un (frs X.stack) ch H H' s.heap s'.heap) (hok : HOk X.prog X.w H' s'.heap) (hg : AllBare s'.gens)
    (hch : ∀ b ∈ ch, (b ∈ X.ex ∨ X.s₀.heap.objs.size ≤ b) ∧ b ≠ X.env.locals ∧ (∀ x c, X.env.cells.lookup x = some c → c ≠ b) ∧ ∀ p ∈ X.pn ++ pins, p.1 ≠ b) : Inv X pins σ H' s' := by
  obtain ⟨h', g', d', t', o'⟩ := s'
  have e : o' = s.os := ho
  subst e
  exact I.call (g' := g') (t' := t') (d' := d') u hok hg hch
end

/-! ### the judgements -/
/-- an exception: its class, its own dict's address (where it has one), the abstract heap behind it -/
abbrev XK := Value → Option Addr → Hp → Prop
abbrev St := List (Option V)
abbrev VK := V → Hp → Prop
/-- an expression's reading; a test's; an argument list's -/
abbrev TE := St → Hp → VK → Prop
abbrev TT := St → Hp → (Bool → Hp → Prop) → Prop
abbrev TA := St → Hp → (List V → Hp → Prop) → Prop
/-- what is wanted behind a statement -/
structure Ends where
  nx : St → Hp → Prop
  rt : VK
  bk : St → Hp → Prop := fun _ _ => False
  ct : St → Hp → Prop := fun _ _ => False
abbrev TS := Ends → St → Hp → Prop

def EP (X : Cx) (pins : List (Addr × Obj)) (σ : St) (Q : VK) (u : Value) (s' : Shared) : Prop := ∃ v H', Inv X pins σ H' s' ∧ RelV v u ∧ Q v H'
def TP (X : Cx) (pins : List (Addr × Obj)) (σ : St) (Q : Bool → Hp → Prop) (b : Bool) (s' : Shared) : Prop := ∃ H', Inv X pins σ H' s' ∧ Q b H'
def AP (X : Cx) (pins : List (Addr × Obj)) (σ : St) (Q : List V → Hp → Prop) (us : List Value) (s' : Shared) : Prop := ∃ vs H', Inv X pins σ H' s' ∧ Vals vs us ∧ Q vs H'
def SP (X : Cx) (pins : List (Addr × Obj)) (D : Ends) (f : Flow) (s' : Shared) : Prop :=
  match f with
  | .next => ∃ σ' H', Inv X pins σ' H' s' ∧ D.nx σ' H'
  | .brk => ∃ σ' H', Inv X pins σ' H' s' ∧ D.bk σ' H'
  | .cont => ∃ σ' H', Inv X pins σ' H' s' ∧ D.ct σ' H'
  | .ret u => ∃ v σ' H', Inv X pins σ' H' s' ∧ RelV v u ∧ D.rt v H'

def PE (X : Cx) (e : Expr) (t : TE) : Prop :=
  ∀ (pins : List (Addr × Obj)) (s : Shared) (σ : St) (H : Hp) (Q : VK), Inv X pins σ H s → t σ H Q → wpAny (model X.prog X.w) X.A (eval e X.env) (EP X pins σ Q) X.xe s
def PT (X : Cx) (e : Expr) (t : TT) : Prop :=
  ∀ (pins : List (Addr × Obj)) (s : Shared) (σ : St) (H : Hp) (Q : Bool → Hp → Prop), Inv X pins σ H s → t σ H Q → wpAny (model X.prog X.w) X.A (isTrue e X.env (eval e X.env)) (TP X pins σ Q) X.xe s
/-- a test whatever its 'whole' is (and, or) -/
def PW (X : Cx) (e : Expr) (t : TT) : Prop :=
  ∀ (whole : Sem Value) (pins : List (Addr × Obj)) (s : Shared) (σ : St) (H : Hp) (Q : Bool → Hp → Prop), Inv X pins σ H s → t σ H Q → wpAny (model X.prog X.w) X.A (isTrue e X.env whole) (TP X pins σ Q) X.xe s
theorem PW.pt {X : Cx} {e : Expr} {t : TT} (h : PW X e t) : PT X e t := h _
/-- an argument list (no star), from the left -/
def PA (X : Cx) (es : List Expr) (t : TA) : Prop :=
  ∀ (pos : Pos) (pins : List (Addr × Obj)) (s : Shared) (σ : St) (H : Hp) (Q : List V → Hp → Prop), Inv X pins σ H s → t σ H Q → wpAny (model X.prog X.w) X.A (spliced (backTo pos (starEach es X.env))) (AP X pins σ Q) X.xe s
def PS (X : Cx) (st : Stmt) (t : TS) : Prop :=
  ∀ (pins : List (Addr × Obj)) (s : Shared) (σ : St) (H : Hp) (D : Ends), Inv X pins σ H s → t D σ H → wpAny (model X.prog X.w) X.A (exec st X.env) (SP X pins D) X.xe s
def PSs (X : Cx) (st : List Stmt) (t : TS) : Prop :=
  ∀ (pins : List (Addr × Obj)) (s : Shared) (σ : St) (H : Hp) (D : Ends), Inv X pins σ H s → t D σ H → wpAny (model X.prog X.w) X.A (execs st X.env) (SP X pins D) X.xe s
/-- weaken the end -/
theorem thn {α : Type} {t : Sem α} {Q Q' : α → Shared → Prop} {M : Model} {A : Around} {E : Value → Shared → Prop} {s : Shared} (h : wpAny M A t Q E s) (hQ : ∀ a s, Q a s → Q' a s) : wpAny M A t Q' E s := wpAny_mono h hQ fun _ _ x => x
end L2

namespace L2
open PySem PySem.Spec PyProof.Rows
section
variable {X : Cx}

/-- two expressions in a row -/
theorem bin {a b : Expr} {ta tb : TE} (ha : PE X a ta) (hb : PE X b tb) {pins : List (Addr × Obj)} {s : Shared} {σ : St} {H : Hp} {R : V → V → Hp → Prop} (I : Inv X pins σ H s) (h : ta σ H fun x H1 => tb σ H1 fun y H2 => R x y H2)
    {α : Type} {Q : α → Shared → Prop} {f : Value → Value → Sem α}
    (hf : ∀ v u s2 x y H2, Inv X pins σ H2 s2 → RelV x v → RelV y u → R x y H2 → wpAny (model X.prog X.w) X.A (f v u) Q X.xe s2) :
    wpAny (model X.prog X.w) X.A (eval a X.env) (fun v s₁ => wpAny (model X.prog X.w) X.A (eval b X.env) (fun u s₂ => wpAny (model X.prog X.w) X.A (f v u) Q X.xe s₂) X.xe s₁) X.xe s := by
  refine thn (ha pins s σ H _ I h) fun v s1 ⟨x, H1, I1, r1, q1⟩ => ?_
  refine thn (hb pins s1 σ H1 _ I1 q1) fun u s2 ⟨y, H2, I2, r2, q2⟩ => ?_
  exact hf v u s2 x y H2 I2 r1 r2 q2

/-! ### names and constants -/
def tVar (i : Nat) : TE := fun σ H Q => ∃ v, σ[i]? = some (some v) ∧ Q v H
def tC (v : V) : TE := fun _ H Q => Q v H
theorem pe_var {i : Nat} {x : Str} {pos : Pos} (hN : X.N[i]? = some x) (hv : Vis X.env.scope x) (hd : (x == ("__debug__" : Str)) = false := by decide) (hcd : (x == ("__classdict__" : Str)) = false := by decide) : PE X (.Name x pos) (tVar i) := by
  intro pins s σ H Q I h
  obtain ⟨v, e, h⟩ := h
  obtain ⟨m, hn, hl⟩ := I.loc
  obtain ⟨u, r, l⟩ := hl i x v hN e hv
  have fin : EP X pins σ Q u s := ⟨v, H, I, r, h⟩
  rcases l with ⟨hk, hm⟩ | ⟨hk, c, hc, hcell⟩
  · exact wpAny_Name (wpAny_loadName_local I.ok.kind hk hn hm fin) hd
  · rcases hk with hk | hk
    · exact wpAny_Name (wpAny_loadName_cell I.ok.kind hk hc hcell fin) hd
    · exact wpAny_Name (wpAny_loadName_free I.ok.kind hk hc hcell fin hcd) hd
theorem pe_int {i j pos} : PE X (.Constant (.int i) j pos) (tC (.int i)) := fun _ _ _ H _ I h => wpAny_Constant_int ⟨.int i, H, I.tok _, ⟨_, rfl⟩, h⟩
theorem pe_bl {b j pos} : PE X (.Constant (.bool b) j pos) (tC (.bl b)) := fun _ _ _ H _ I h => Constant_bool ⟨.bl b, H, I, rfl, h⟩
theorem pe_non {j pos} : PE X (.Constant .none j pos) (tC .non) := fun _ _ _ H _ I h => Constant_none ⟨.non, H, I, rfl, h⟩
theorem pe_str {x j pos} : PE X (.Constant (.str x) j pos) (tC (.str x)) := fun _ _ _ H _ I h => Calls.Constant_str ⟨.str x, H, I.tok _, ⟨_, rfl⟩, h⟩

/-- a global name of the def -/
def Gl (X : Cx) (x : Str) : Prop := X.env.kindOf x = some .globalImplicit
theorem ld_glob {E : Value → Shared → Prop} {pins : List (Addr × Obj)} {s : Shared} {σ : St} {H : Hp} {x : Str} {u : Value} {pos : Pos} {Q : Value → Shared → Prop} (I : Inv X pins σ H s) (hg : Gl X x) (hm : X.mg x = some u) (h : Q u s)
    (hd : (x == ("__debug__" : Str)) = false := by decide) : wpAny (model X.prog X.w) X.A (eval (.Name x pos) X.env) Q E s :=
  Calls.Name_function_global I.ok.kind hg (Calls.loadGlobal_global (by rw [I.ok.glob]; exact I.mod.glob.keeps I.bk) hm h) hd
theorem ld_blt {E : Value → Shared → Prop} {pins : List (Addr × Obj)} {s : Shared} {σ : St} {H : Hp} {x : Str} {u : Value} {pos : Pos} {Q : Value → Shared → Prop} (I : Inv X pins σ H s) (hg : Gl X x) (hm : X.mg x = none) (hv : bootBuiltins x = some u) (h : Q u s)
    (hn : x ≠ "__name__" := by decide) (hd : (x == ("__debug__" : Str)) = false := by decide) : wpAny (model X.prog X.w) X.A (eval (.Name x pos) X.env) Q E s := by
  obtain ⟨mb, h1, h2⟩ := I.mod.blt
  exact Calls.Name_function_global I.ok.kind hg (Calls.loadGlobal_builtin (by rw [I.ok.glob]; exact I.mod.glob.keeps I.bk) hm (by rw [I.ok.blt]; exact h1.keeps I.bk) ((h2 x hn).trans hv) h) hd
/-- a module's constant, a class, a function, as a value -/
theorem pe_glob {x : Str} {v : V} {u : Value} {pos : Pos} (hg : Gl X x) (hm : X.mg x = some u) (r : RelV v u) (hd : (x == ("__debug__" : Str)) = false := by decide) : PE X (.Name x pos) (tC v) :=
  fun _ _ _ H _ I h => ld_glob I hg hm ⟨v, H, I, r, h⟩ hd
theorem pe_bltn {x : Str} {v : V} {u : Value} {pos : Pos} (hg : Gl X x) (hm : X.mg x = none) (hv : bootBuiltins x = some u) (r : RelV v u) (hn : x ≠ "__name__" := by decide) (hd : (x == ("__debug__" : Str)) = false := by decide) : PE X (.Name x pos) (tC v) :=
  fun _ _ _ H _ I h => ld_blt I hg hm hv ⟨v, H, I, r, h⟩ hn hd

/-! ### arithmetic -/
/-- two ints -/
def t2I (ta tb : TE) (k : Int → Int → Hp → Prop) : St → Hp → Prop := fun σ H => ta σ H fun x H1 => tb σ H1 fun y H2 => ∃ i j, x = .int i ∧ y = .int j ∧ k i j H2
def tAdd (ta tb : TE) : TE := fun σ H Q => t2I ta tb (fun i j H2 => Q (.int (i + j)) H2) σ H
def tSub (ta tb : TE) : TE := fun σ H Q => t2I ta tb (fun i j H2 => Q (.int (i - j)) H2) σ H
/-- the left factor below 2^64 -/
def tMul (ta tb : TE) : TE := fun σ H Q => t2I ta tb (fun i j H2 => (-(2 ^ 64) < i ∧ i < 2 ^ 64) ∧ Q (.int (i * j)) H2) σ H
variable {a b : Expr} {ta tb : TE} {pos : Pos}
/-! ### comparisons -/
def PC (X : Cx) (op : CmpOp) (a b : Expr) (t : TE) : Prop :=
  ∀ (pins : List (Addr × Obj)) (s : Shared) (σ : St) (H : Hp) (Q : VK), Inv X pins σ H s → t σ H Q →
    wpAny (model X.prog X.w) X.A (eval a X.env) (fun v s₁ => wpAny (model X.prog X.w) X.A (eval b X.env) (fun u s₂ => wpAny (model X.prog X.w) X.A (compareOp op v u) (EP X pins σ Q) X.xe s₂) X.xe s₁) X.xe s
def tCmp (p : Int → Int → Bool) (ta tb : TE) : TE := fun σ H Q => t2I ta tb (fun i j H2 => Q (.bl (p i j)) H2) σ H
abbrev tLt : TE → TE → TE := tCmp fun i j => decide (i < j)
abbrev tLe : TE → TE → TE := tCmp fun i j => decide (i ≤ j)
abbrev tGt : TE → TE → TE := tCmp fun i j => decide (j < i)
abbrev tGe : TE → TE → TE := tCmp fun i j => decide (j ≤ i)
abbrev tEqI : TE → TE → TE := tCmp fun i j => decide (i = j)
abbrev tNeI : TE → TE → TE := tCmp fun i j => !decide (i = j)
/-- is None -/
def tIsN (ta : TE) : TE := fun σ H Q => ta σ H fun x H1 => Q (.bl (decide (x = .non))) H1
def tNotN (ta : TE) : TE := fun σ H Q => ta σ H fun x H1 => Q (.bl (!decide (x = .non))) H1
/-- a comparison as a value, as a test -/
def tB (t : TE) : TT := fun σ H Q => t σ H fun x H1 => ∃ c, x = .bl c ∧ Q c H1
theorem pt_cmp {op : CmpOp} {t : TE} (h : PC X op a b t) (h1 : behindInMarks op b = false := by first | exact nobehind _ (by decide) (by decide) | rfl) : PT X (.Compare a [op] [b] pos) (tB t) := by
  intro pins s σ H Q I hw
  refine wpAny_isTrue_Compare1 (thn (h pins s σ H _ I hw) fun v s1 h1 => thn h1 fun u s2 h2 => thn h2 fun c s3 ⟨x, H1, I1, r1, q1⟩ => ?_) h1
  obtain ⟨d, rfl, q⟩ := q1
  cases r1
  exact wpAny_truthy_bool ⟨H1, I1, q⟩
/-- an expression whose value is a bool, as a test -/
theorem pt_val {e : Expr} {t : TE} (h : PE X e t) (he : ∀ whole, isTrue e X.env whole = (do let v ← whole; standAt e.pos; holding [v] (truthy v)) := by intro _; rfl) : PT X e (tB t) := by
  intro pins s σ H Q I hw
  refine isTrue_plain (thn (h pins s σ H _ I hw) fun v s1 ⟨x, H1, I1, r1, q1⟩ => ?_) (he _)
  obtain ⟨d, rfl, q⟩ := q1
  cases r1
  exact wpAny_truthy_bool ⟨H1, I1, q⟩

/-! ### and, or, not -/
variable {tA tB' : TT} {rest : List Expr}
def tAnd (t u : TT) : TT := fun σ H Q => t σ H fun c H1 => if c = true then u σ H1 Q else Q false H1
def tOr (t u : TT) : TT := fun σ H Q => t σ H fun c H1 => if c = true then Q true H1 else u σ H1 Q
def tNot (t : TT) : TT := fun σ H Q => t σ H fun c H1 => Q (!c) H1
theorem pw_and1 (ha : PT X a tA) : PW X (.BoolOp .And [a] pos) tA := by
  intro wh pins s σ H Q I h
  refine isTrue_and (thn (ha pins s σ H Q I h) fun c s1 e => ?_)
  cases c with
  | true => exact isTrue_and_nil e
  | false => exact e
theorem pw_or1 (ha : PT X a tA) : PW X (.BoolOp .Or [a] pos) tA := by
  intro wh pins s σ H Q I h
  refine isTrue_or (thn (ha pins s σ H Q I h) fun c s1 e => ?_)
  cases c with
  | false => exact isTrue_or_nil e
  | true => exact e
theorem pw_and (ha : PT X a tA) (hb : PW X (.BoolOp .And (b :: rest) pos) tB') : PW X (.BoolOp .And (a :: b :: rest) pos) (tAnd tA tB') := by
  intro wh pins s σ H Q I h
  refine isTrue_and (thn (ha pins s σ H _ I h) fun c s1 ⟨H1, I1, q1⟩ => ?_)
  cases c with
  | true => exact hb wh pins s1 σ H1 Q I1 q1
  | false => exact ⟨H1, I1, q1⟩
theorem pw_or (ha : PT X a tA) (hb : PW X (.BoolOp .Or (b :: rest) pos) tB') : PW X (.BoolOp .Or (a :: b :: rest) pos) (tOr tA tB') := by
  intro wh pins s σ H Q I h
  refine isTrue_or (thn (ha pins s σ H _ I h) fun c s1 ⟨H1, I1, q1⟩ => ?_)
  cases c with
  | true => exact ⟨H1, I1, q1⟩
  | false => exact hb wh pins s1 σ H1 Q I1 q1
theorem pt_not (ha : PT X a tA) : PT X (.UnaryOp .Not a pos) (tNot tA) := by
  intro pins s σ H Q I h
  exact isTrue_not (ha pins s σ H (fun c H1 => Q (!c) H1) I h)
/-- .. as values (bools) -/
def tAndV (ta tb : TE) : TE := fun σ H Q => ta σ H fun x H1 => ∃ c, x = .bl c ∧ if c = true then tb σ H1 Q else Q (.bl false) H1
def tOrV (ta tb : TE) : TE := fun σ H Q => ta σ H fun x H1 => ∃ c, x = .bl c ∧ if c = true then Q (.bl true) H1 else tb σ H1 Q
def tNotV (ta : TE) : TE := fun σ H Q => ta σ H fun x H1 => ∃ c, x = .bl c ∧ Q (.bl (!c)) H1
theorem pe_one {op} {t : TE} (h : PE X a t) : PE X (.BoolOp op [a] pos) t := fun pins s σ H Q I hw => BoolOp_one (h pins s σ H Q I hw)
theorem pe_and (ha : PE X a ta) (hb : PE X (.BoolOp .And (b :: rest) pos) tb) : PE X (.BoolOp .And (a :: b :: rest) pos) (tAndV ta tb) := by
  intro pins s σ H Q I h
  refine BoolOp_and (thn (ha pins s σ H _ I h) fun v s1 ⟨x, H1, I1, r1, q1⟩ => ?_)
  obtain ⟨c, rfl, q1⟩ := q1
  cases r1
  refine wpAny_truthy_bool ?_
  cases c with
  | true => exact hb pins s1 σ H1 Q I1 q1
  | false => exact ⟨.bl false, H1, I1, rfl, q1⟩
theorem pe_or (ha : PE X a ta) (hb : PE X (.BoolOp .Or (b :: rest) pos) tb) : PE X (.BoolOp .Or (a :: b :: rest) pos) (tOrV ta tb) := by
  intro pins s σ H Q I h
  refine BoolOp_or (thn (ha pins s σ H _ I h) fun v s1 ⟨x, H1, I1, r1, q1⟩ => ?_)
  obtain ⟨c, rfl, q1⟩ := q1
  cases r1
  refine wpAny_truthy_bool ?_
  cases c with
  | false => exact hb pins s1 σ H1 Q I1 q1
  | true => exact ⟨.bl true, H1, I1, rfl, q1⟩
theorem pe_not (ha : PE X a ta) : PE X (.UnaryOp .Not a pos) (tNotV ta) := by
  intro pins s σ H Q I h
  refine UnaryOp_ (thn (ha pins s σ H _ I h) fun v s1 ⟨x, H1, I1, r1, q1⟩ => ?_)
  obtain ⟨c, rfl, q1⟩ := q1
  cases r1
  exact not_of (wpAny_truthy_bool ⟨.bl (!c), H1, I1, rfl, q1⟩)
/-- a if t else b -/
def tIf (t : TT) (ta tb : TE) : TE := fun σ H Q => t σ H fun c H1 => if c = true then ta σ H1 Q else tb σ H1 Q
end
end L2

namespace L2
open PySem PySem.Spec PyProof.Rows

/-! ### a list, a tuple that is read: tracked, frozen, or an object of the module -/
def SqL (K : PySem.W.Frag) (H : Hp) (a : Addr) (xs : List V) : Prop :=
  Rd H a (.lst xs) ∨
    ∃ (o : Obj) (its : Array Value) (n : Nat), K.lookup a = some o ∧ o.cls = .type "list" ∧ o.dict = none ∧ o.data = .seq its n ∧ its.size ≤ sizeLine ∧ Vals xs its.toList
def SqT (K : PySem.W.Frag) (H : Hp) (a : Addr) (xs : List V) : Prop :=
  Rd H a (.tup xs) ∨
    ∃ (o : Obj) (its : Array Value) (n : Nat), K.lookup a = some o ∧ o.cls = .type "tuple" ∧ o.data = .seq its n ∧ its.size ≤ sizeLine ∧ Vals xs its.toList
def absV : Value → Option V
  | .none => some .non
  | .bool b => some (.bl b)
  | .int i _ => some (.int i)
  | .str x _ => some (.str x)
  | .bytes b _ => some (.byt b)
  | .float b _ => some (.flt b)
  | .ref a => some (.ref a)
  | .type n => some (.ty n)
  | _ => none
theorem RelV.abs {x : V} {u : Value} (r : RelV x u) : absV u = some x := by
  cases x with
  | non => cases r; rfl
  | bl _ => cases r; rfl
  | int _ => obtain ⟨t, rfl⟩ := r; rfl
  | str _ => obtain ⟨t, rfl⟩ := r; rfl
  | byt _ => obtain ⟨t, rfl⟩ := r; rfl
  | flt _ => obtain ⟨t, rfl⟩ := r; rfl
  | ref _ => cases r; rfl
  | ty _ => cases r; rfl
theorem RelV.inj {x y : V} {u : Value} (r : RelV x u) (q : RelV y u) : x = y := Option.some.inj (r.abs.symm.trans q.abs)
theorem Vals.inj : ∀ {xs ys : List V} {us : List Value}, Vals xs us → Vals ys us → xs = ys
  | _, _, _, .nil, .nil => rfl
  | _, _, _, .cons r t, .cons r' t' => by rw [r.inj r', Vals.inj t t']
section
variable {X : Cx} {pins : List (Addr × Obj)} {σ : St} {H : Hp} {s : Shared} {a : Addr} {xs ys : List V}
theorem SqL.of {K : PySem.W.Frag} (h : H a = some (.lst xs)) : SqL K H a xs := .inl (.inl h)
theorem SqT.of {K : PySem.W.Frag} (h : H a = some (.tup xs)) : SqT K H a xs := .inl (.inl h)
theorem Inv.list (I : Inv X pins σ H s) (h : SqL X.K H a xs) : ∃ its : List Value, Vals xs its ∧ PlainL s.heap a its.toArray ∧ xs.length ≤ sizeLine := by
  rcases h with h | ⟨o, its, n, hk, hc, hd, hs, hz, r⟩
  · obtain ⟨z, its, n, r, e⟩ := h.ok I.hok
    exact ⟨its, r, ⟨_, n, e, rfl, rfl, rfl⟩, z⟩
  · refine ⟨its.toList, r, ⟨o, n, I.kIn a o hk, hc, hd, by simpa using hs⟩, ?_⟩
    have e := r.length
    simp only [Array.length_toList] at e
    omega
theorem Inv.tuple (I : Inv X pins σ H s) (h : SqT X.K H a xs) : ∃ its : List Value, Vals xs its ∧ IsTup s.heap a its.toArray ∧ xs.length ≤ sizeLine := by
  rcases h with h | ⟨o, its, n, hk, hc, hs, hz, r⟩
  · obtain ⟨z, its, r, p⟩ := h.ok I.hok
    exact ⟨its, r, p, z⟩
  · refine ⟨its.toList, r, ⟨o, I.kIn a o hk, hc, n, by simpa using hs⟩, ?_⟩
    have e := r.length
    simp only [Array.length_toList] at e
    omega
theorem Inv.list_inj (I : Inv X pins σ H s) (h : SqL X.K H a xs) (h' : SqL X.K H a ys) : xs = ys := by
  obtain ⟨its, r, ⟨o, n, e, _, _, d⟩, _⟩ := I.list h
  obtain ⟨its', r', ⟨o', n', e', _, _, d'⟩, _⟩ := I.list h'
  rw [e] at e'; cases e'
  rw [d] at d'
  injection d' with d1 _
  have : its = its' := by simpa using congrArg Array.toList d1
  subst this
  exact r.inj r'
end

/-! ### another wish about exceptions -/
abbrev Cx.wish (X : Cx) (E : Value → Shared → Prop) : Cx := { X with xe := E }
/-- no exception leaves -/
abbrev Cx.nox (X : Cx) : Cx := X.wish fun _ _ => False
theorem Cx.Ok.wish {X : Cx} (ok : X.Ok) (E : Value → Shared → Prop) : (X.wish E).Ok :=
  ⟨ok.mod, ok.kind, ok.glob, ok.blt, ok.above, ok.inj, ok.has, ok.cab, ok.hd, ok.frames, ok.stk, ok.exf, ok.bs, ok.bsz, ok.noex, ok.exfs, ok.funs, ok.frf⟩
theorem Cx.Ok.unwish {X : Cx} {E : Value → Shared → Prop} (ok : (X.wish E).Ok) : X.Ok :=
  ⟨ok.mod, ok.kind, ok.glob, ok.blt, ok.above, ok.inj, ok.has, ok.cab, ok.hd, ok.frames, ok.stk, ok.exf, ok.bs, ok.bsz, ok.noex, ok.exfs, ok.funs, ok.frf⟩
section
variable {X : Cx} {pins : List (Addr × Obj)} {σ : St} {H : Hp} {s : Shared} {E : Value → Shared → Prop}
theorem Inv.wish (I : Inv X pins σ H s) (E : Value → Shared → Prop) : Inv (X.wish E) pins σ H s := ⟨I.ok.wish E, I.os, I.bare, I.base, I.loc, I.cell, I.free, I.freeC, I.pin, I.hok, I.len⟩
theorem Inv.unwish (I : Inv (X.wish E) pins σ H s) : Inv X pins σ H s := ⟨I.ok.unwish, I.os, I.bare, I.base, I.loc, I.cell, I.free, I.freeC, I.pin, I.hok, I.len⟩
theorem SP.unwish {D : Ends} {f : Flow} {s' : Shared} (h : SP (X.wish E) pins D f s') : SP X pins D f s' := by
  cases f with
  | next => obtain ⟨σ', H', I, q⟩ := h; exact ⟨σ', H', I.unwish, q⟩
  | brk => obtain ⟨σ', H', I, q⟩ := h; exact ⟨σ', H', I.unwish, q⟩
  | cont => obtain ⟨σ', H', I, q⟩ := h; exact ⟨σ', H', I.unwish, q⟩
  | ret u => obtain ⟨v, σ', H', I, r, q⟩ := h; exact ⟨v, σ', H', I.unwish, r, q⟩
theorem PSs.nox {st : List Stmt} {t : TS} (h : PSs X.nox st t) : PSs X st t := fun pins s σ H D I hw =>
  wpAny_mono (h pins s σ H D (I.wish _) hw) (fun _ _ q => q.unwish) fun _ _ z => False.elim z
end

/-! ### blocks and small statements -/
section
variable {X : Cx} {st : Stmt} {rest : List Stmt} {t u : TS} {e : Expr} {te : TE} {pos : Pos}
def tNext : TS := fun D σ H => D.nx σ H
def tSeq (t u : TS) : TS := fun D σ H => t { D with nx := u D } σ H
theorem pss_nil : PSs X [] tNext := fun _ _ σ H _ I h => wpAny_execs_nil ⟨σ, H, I, h⟩
theorem pss_cons (h1 : PS X st t) (h2 : PSs X rest u) : PSs X (st :: rest) (tSeq t u) := by
  intro pins s σ H D I h
  refine wpAny_execs_cons (thn (h1 pins s σ H { D with nx := u D } I h) fun f s1 q => ?_)
  cases f with
  | next =>
    obtain ⟨σ', H', I', q⟩ := q
    exact h2 pins s1 σ' H' D I' q
  | ret v => exact q
  | brk => exact q
  | cont => exact q
theorem pss_one (h1 : PS X st t) : PSs X [st] t := by
  intro pins s σ H D I h
  refine wpAny_execs_cons (thn (h1 pins s σ H D I h) fun f s1 q => ?_)
  cases f with
  | next => exact wpAny_execs_nil q
  | ret v => exact q
  | brk => exact q
  | cont => exact q
def tBreak : TS := fun D σ H => D.bk σ H
def tCont : TS := fun D σ H => D.ct σ H
theorem ps_break : PS X (.Break pos) tBreak := fun _ _ σ H _ I h => wpAny_Break ⟨σ, H, I, h⟩
/-- in a def's body nothing is shown -/
theorem Inv.quiet {pins : List (Addr × Obj)} {σ : St} {H : Hp} {s : Shared} (I : Inv X pins σ H s) : interactive X.env = false := by simp [interactive, I.ok.kind]
/-- an expression whose value is dropped -/
def tDrop (te : TE) : TS := fun D σ H => te σ H fun _ H1 => D.nx σ H1
theorem ps_expr (he : PE X e te) (hs : swapsWith e none pos.line X.env = pure false := by rfl) : PS X (.Expr e pos) (tDrop te) := by
  intro pins s σ H D I h
  exact wpAny_Expr_any (thn (he pins s σ H _ I h) fun v s1 ⟨x, H1, I1, r1, q1⟩ => ⟨σ, H1, I1, q1⟩) I.quiet hs
def tRet (te : TE) : TS := fun D σ H => te σ H D.rt
theorem ps_ret (he : PE X e te) : PS X (.Return (some e) pos) (tRet te) := by
  intro pins s σ H D I h
  exact wpAny_Return_some (thn (he pins s σ H _ I h) fun v s1 ⟨x, H1, I1, r1, q1⟩ => ⟨x, σ, H1, I1, r1, q1⟩)
def tRetN : TS := fun D _ H => D.rt .non H
def tIfS (c : TT) (t u : TS) : TS := fun D σ H => c σ H fun b H1 => if b = true then t D σ H1 else u D σ H1
theorem ps_if {c : Expr} {a b : List Stmt} {tc : TT} (hc : PT X c tc) (ha : PSs X a t) (hb : PSs X b u) : PS X (.If c a b pos) (tIfS tc t u) := by
  intro pins s σ H D I h
  refine wpAny_If (thn (hc pins s σ H _ I h) fun d s1 ⟨H1, I1, q1⟩ => ?_)
  cases d with
  | true => exact ha pins s1 σ H1 D I1 q1
  | false => exact hb pins s1 σ H1 D I1 q1
/-- code that the proof never comes to -/
def tNever : TS := fun _ _ _ => False
end

/-! ### targets -/
abbrev TG := V → St → Hp → (St → Hp → Prop) → Prop
abbrev TGs := List V → St → Hp → (St → Hp → Prop) → Prop
def PG (X : Cx) (target : Expr) (t : TG) : Prop :=
  ∀ (pins : List (Addr × Obj)) (s : Shared) (σ : St) (H : Hp) (v : V) (u : Value) (Q : St → Hp → Prop), Inv X pins σ H s → RelV v u → t v σ H Q →
    wpAny (model X.prog X.w) X.A (assign target X.env u) (fun _ s' => ∃ σ' H', Inv X pins σ' H' s' ∧ Q σ' H') X.xe s
/-- several targets, one after another -/
def PGs (X : Cx) (ts : List Expr) (t : TGs) : Prop :=
  ∀ (pins : List (Addr × Obj)) (s : Shared) (σ : St) (H : Hp) (vs : List V) (us : List Value) (Q : St → Hp → Prop), Inv X pins σ H s → Vals vs us → t vs σ H Q →
    wpAny (model X.prog X.w) X.A (assignInOrder ((assignEach ts X.env).map (·.2)) us) (fun _ s' => ∃ σ' H', Inv X pins σ' H' s' ∧ Q σ' H') X.xe s
/-- o[i] = v, by values -/
abbrev TSet := V → V → V → Hp → (Hp → Prop) → Prop
def PSet (X : Cx) (t : TSet) : Prop :=
  ∀ (pins : List (Addr × Obj)) (s : Shared) (σ : St) (H : Hp) (o i v : V) (ov iv u : Value) (Q : Hp → Prop), Inv X pins σ H s → RelV o ov → RelV i iv → RelV v u → t o i v H Q →
    wpAny (model X.prog X.w) X.A (setItem ov iv u) (fun _ s' => ∃ H', Inv X pins σ H' s' ∧ Q H') X.xe s
/-- a op= b, by values -/
abbrev TIp := V → V → Hp → VK → Prop
def PIp (X : Cx) (op : Operator) (t : TIp) : Prop :=
  ∀ (pins : List (Addr × Obj)) (s : Shared) (σ : St) (H : Hp) (x y : V) (v u : Value) (Q : VK), Inv X pins σ H s → RelV x v → RelV y u → t x y H Q →
    wpAny (model X.prog X.w) X.A (inplaceOp op v u) (EP X pins σ Q) X.xe s
section
variable {X : Cx} {pos : Pos}
def gName (i : Nat) : TG := fun v σ H Q => Q (σ.set i (some v)) H
theorem pg_name {i : Nat} {x : Str} (hN : X.N.Nodup) (hi : X.N[i]? = some x) (hx : Loc X.env.scope x) (hf : X.fn x = true ∨ X.env.scope.names.lookup x = some .local := by first | exact .inl rfl | exact .inr rfl | assumption) : PG X (.Name x pos) (gName i) := by
  intro pins s σ H v u Q I r h
  exact wpAny_assign_Name (store_ok I hN hi hx r (fun s' I' => ⟨_, H, I', h⟩) hf)
def gNil : TGs := fun vs σ H Q => vs = [] ∧ Q σ H
def gCons (t : TG) (u : TGs) : TGs := fun vs σ H Q => ∃ v r, vs = v :: r ∧ t v σ H fun σ' H' => u r σ' H' Q
theorem pgs_nil : PGs X [] gNil := by
  intro pins s σ H vs us Q I r h
  obtain ⟨e, h⟩ := h
  subst e
  cases r
  exact assignInOrder_nil ⟨σ, H, I, h⟩
theorem pgs_cons {e : Expr} {es : List Expr} {t : TG} {u : TGs} (h1 : PG X e t) (h2 : PGs X es u)
    (hs : (assignEach (e :: es) X.env).map (·.2) = assign e X.env :: (assignEach es X.env).map (·.2) := by rfl) : PGs X (e :: es) (gCons t u) := by
  intro pins s σ H vs us Q I r h
  obtain ⟨v, vr, e1, h⟩ := h
  subst e1
  cases r with
  | cons r rr =>
    rw [hs]
    refine assignInOrder_cons (thn (h1 pins s σ H _ _ _ I r h) fun _ s1 ⟨σ1, H1, I1, q1⟩ => ?_)
    exact h2 pins s1 σ1 H1 _ _ Q I1 rr q1
/-- (a, b, ..) = a tuple of that length -/
def gTup (K : PySem.W.Frag) (n : Nat) (t : TGs) : TG := fun v σ H Q => ∃ a xs, v = .ref a ∧ SqT K H a xs ∧ xs.length = n ∧ t xs σ H Q
theorem pg_tup {es : List Expr} {k : Nat} {t : TGs} {n : Nat} (hc : X.calm = true) (h : PGs X es t)
    (hn : (assignEach es X.env).length = n := by rfl) (hst : (assignEach es X.env).findIdx? (·.1) = none := by rfl) : PG X (.Tuple es k pos) (gTup X.K n t) := by
  intro pins s σ H v u Q I r hw
  obtain ⟨a, xs, e1, hq, hl, hw⟩ := hw
  subst e1
  cases r
  obtain ⟨its, rv, ht, hz⟩ := I.tuple hq
  refine assign_Tuple_tuple (I.ok.hd hc) ht (by simp [hn, ← hl, rv.length]) hst fun h' hx => ?_
  have I1 : Inv X pins σ H { s with heap := h' } := I.kept (t' := s.toks) fun b o e => hx b o (Nat.ne_of_lt (Heap.lt_size e)) e
  exact h pins _ σ H xs _ Q I1 (by simpa using rv) hw
/-- o[i] = .. -/
def gSub (to ti : TE) (t : TSet) : TG := fun v σ H Q => to σ H fun o H1 => ti σ H1 fun i H2 => t o i v H2 fun H3 => Q σ H3
theorem pg_sub {o i : Expr} {to ti : TE} {t : TSet} (ho : PE X o to) (hi : PE X i ti) (hs : PSet X t)
    (ha : ∀ v, assign (.Subscript o i pos) X.env v = (do
      let ov ← holding [v] (eval o X.env)
      let iv ← holding [v, ov] (eval i X.env)
      standAt pos
      holding [v, ov, iv] (setItem ov iv v)
      release [v, ov, iv] []) := by intro _; rfl) : PG X (.Subscript o i pos) (gSub to ti t) := by
  intro pins s σ H v u Q I r h
  rw [ha]
  refine wpAny_bind (wpAny_holding (thn (ho pins s σ H _ I h) fun ov s1 ⟨x, H1, I1, r1, q1⟩ => ?_))
  refine wpAny_bind (wpAny_holding (thn (hi pins s1 σ H1 _ I1 q1) fun iv s2 ⟨y, H2, I2, r2, q2⟩ => ?_))
  refine wpAny_bind (wpAny_standAt (wpAny_bind (wpAny_holding (thn (hs pins s2 σ H2 x y v ov iv u _ I2 r1 r2 r q2) fun _ s3 ⟨H3, I3, q3⟩ => ?_))))
  exact wpAny_release ⟨σ, H3, I3, q3⟩
/-- target = value -/
def tAsg (te : TE) (g : TG) : TS := fun D σ H => te σ H fun x H1 => g x σ H1 D.nx
theorem ps_asg {tg e : Expr} {te : TE} {g : TG} (he : PE X e te) (hg : PG X tg g) (hs : swapsWithSole [tg] e pos.line X.env = pure false := by rfl) (hw : swappedStores [tg] e X.env = pure none := by rfl)
    (h1 : (assignEach [tg] X.env).map (·.2) = [assign tg X.env] := by rfl) : PS X (.Assign [tg] e pos) (tAsg te g) := by
  intro pins s σ H D I h
  refine wpAny_Assign_stores (thn (he pins s σ H _ I h) fun v s1 ⟨x, H1, I1, r1, q1⟩ => ?_) hs hw
  rw [h1]
  exact thn (hg pins s1 σ H1 x v _ I1 r1 q1) fun _ s2 q => q
/-- name = value -/
theorem ps_set {i : Nat} {x : Str} {e : Expr} {te : TE} {pos' : Pos} (hN : X.N.Nodup) (hi : X.N[i]? = some x) (hx : Loc X.env.scope x) (he : PE X e te) (hs : swapsWith e (some (.Name x pos')) pos.line X.env = pure false := by rfl) (hf : X.fn x = true ∨ X.env.scope.names.lookup x = some .local := by first | exact .inl rfl | exact .inr rfl | assumption) :
    PS X (.Assign [.Name x pos'] e pos) (tAsg te (gName i)) := by
  intro pins s σ H D I h
  refine wpAny_Assign_Name (thn (he pins s σ H _ I h) fun v s1 ⟨y, H1, I1, r1, q1⟩ => ?_) hs
  exact store_ok I1 hN hi hx r1 (fun s2 I2 => ⟨_, H1, I2, q1⟩) hf
/-- a, b = x, y with plain local names: stored from the right; the pair itself is not tracked (the opening rows as in PyProof/Rows/TupAssign.lean:23) -/
def tPar (i j : Nat) (ta : TA) : TS := fun D σ H => ta σ H fun vs H1 => ∃ v w, vs = [v, w] ∧ D.nx ((σ.set i (some v)).set j (some w)) H1
/-- name op= e -/
def tAug (i : Nat) (te : TE) (ti : TIp) : TS := fun D σ H => ∃ x, σ[i]? = some (some x) ∧ te σ H fun y H1 => ti x y H1 fun z H2 => D.nx (σ.set i (some z)) H2
/-- o[i] op= e -/
def tAugS (to ti te : TE) (tget : V → V → Hp → VK → Prop) (tip : TIp) (tset : TSet) : TS := fun D σ H => to σ H fun o H1 => ti σ H1 fun i H2 => tget o i H2 fun x H3 => te σ H3 fun y H4 => tip x y H4 fun z H5 => tset o i z H5 fun H6 => D.nx σ H6
/-- o[i], by values -/
def PGet (X : Cx) (t : V → V → Hp → VK → Prop) : Prop :=
  ∀ (pins : List (Addr × Obj)) (s : Shared) (σ : St) (H : Hp) (o i : V) (ov iv : Value) (Q : VK), Inv X pins σ H s → RelV o ov → RelV i iv → t o i H Q →
    wpAny (model X.prog X.w) X.A (getItem ov iv) (EP X pins σ Q) X.xe s
/-- ints -/
def ipI (f : Int → Int → Int) : TIp := fun x y H Q => ∃ i j, x = .int i ∧ y = .int j ∧ Q (.int (f i j)) H
end

/-! ### while -/
section
variable {X : Cx} {pos : Pos}
/-- the invariant W with its measure -/
def tWhile (c : TT) (tb : TS) : TS := fun D σ H => ∃ W : Nat → St → Hp → Prop, (∃ m, W m σ H) ∧ ∀ m σ H, W m σ H →
  c σ H fun b H1 => if b = true then ∃ N : St → Hp → Prop, (∀ σ' H', N σ' H' → ∃ m', m' < m ∧ W m' σ' H') ∧ tb { D with nx := N, ct := N, bk := D.nx } σ H1 else D.nx σ H1
end

/-! ### what a loop or a comprehension walks -/
/-- at turn i: it yields x (the heap may grow), or it stops -/
structure It where
  go : Nat → Hp → Prop
  yld : Nat → Hp → V → Hp → Prop
  stop : Nat → Hp → Prop
/-- the iterator's own objects may turn: they are not the frame's, not pinned, younger than the entry (or a comprehension's own) -/
def FpOk (X : Cx) (pins : List (Addr × Obj)) (H : Hp) (b : Addr) : Prop :=
  H b = none ∧ b ≠ X.env.locals ∧ b ∉ X.fs ∧ (b ∈ X.ex ∨ X.s₀.heap.objs.size ≤ b) ∧ (∀ x c, X.env.cells.lookup x = some c → c ≠ b) ∧ ∀ p ∈ X.pn ++ pins, p.1 ≠ b
theorem Inv.fpOk {X : Cx} {pins : List (Addr × Obj)} {σ : St} {H H' : Hp} {s : Shared} {b : Addr} (I : Inv X pins σ H s) (hb : s.heap.objs.size ≤ b) (hn : H' b = none) : FpOk X pins H' b := by
  refine ⟨hn, Nat.ne_of_gt (Nat.lt_of_lt_of_le I.lt hb), I.nofs hb, .inr (Nat.le_trans I.sz hb), fun x c e z => ?_, fun p hp z => ?_⟩
  · obtain ⟨v, q⟩ := I.cell x c e
    exact absurd (Nat.lt_of_lt_of_le q.lt (by rw [z]; exact hb)) (Nat.lt_irrefl _)
  · exact absurd (Nat.lt_of_lt_of_le (Heap.lt_size (I.pin p hp).1) (by rw [z]; exact hb)) (Nat.lt_irrefl _)
structure Turn (P : Program) (w : World) (K : PySem.W.Frag) (tg : Expr) (J : It) (fp : List Addr) (it : Addr) (tn : Nat → Heap → Prop) : Prop where
  mem : it ∈ fp
  obj : ∀ i h, tn i h → ∀ b ∈ fp, ∃ o, h.get? b = some o ∧ ∀ v, o.data ≠ .cell v
  keep : ∀ i h h', tn i h → (∀ b ∈ fp, ∀ o, h.get? b = some o → h'.get? b = some o) → tn i h'
  item : ∀ (X : Cx), X.prog = P → X.w = w → X.K = K → X.calm = true → ∀ (i : Nat) (pins : List (Addr × Obj)) (s : Shared) (σ : St) (H : Hp) (E : Value → Shared → Prop), Inv X pins σ H s → (∀ b ∈ fp, FpOk X pins H b) → tn i s.heap → J.go i H →
    wpAny (model P w) X.A (pyNext (.ref it)) (fun r s1 => ∃ u, r = some u ∧
      wpAny (model P w) X.A (letOwnedTupleGo tg (.ref it) u) (fun _ s2 => ∃ x H', Inv X pins σ H' s2 ∧ RelV x u ∧ J.yld i H x H' ∧ tn (i + 1) s2.heap ∧ ∀ b ∈ fp, H' b = none) E s1) E s
  done : ∀ (X : Cx), X.prog = P → X.w = w → X.K = K → X.calm = true → ∀ (i : Nat) (pins : List (Addr × Obj)) (s : Shared) (σ : St) (H : Hp) (E : Value → Shared → Prop), Inv X pins σ H s → (∀ b ∈ fp, FpOk X pins H b) → tn i s.heap → J.stop i H →
    wpAny (model P w) X.A (pyNext (.ref it)) (fun r s1 => r = none ∧ Inv X pins σ H s1) E s
  self : ∀ (A : Around) (i : Nat) (s : Shared) (Q : Value → Shared → Prop) (E : Value → Shared → Prop), tn i s.heap → Q (.ref it) s → wpAny (model P w) A (pyIter (.ref it)) Q E s
abbrev TI := St → Hp → (It → Hp → Prop) → Prop
/-- an iterator has come -/
def PIE (X : Cx) (pins : List (Addr × Obj)) (σ : St) (tg : Expr) (R : It → Hp → Prop) (itv : Value) (s2 : Shared) : Prop :=
  ∃ (it : Addr) (fp : List Addr) (tn : Nat → Heap → Prop) (J : It) (H' : Hp), itv = .ref it ∧ Inv X pins σ H' s2 ∧ Turn X.prog X.w X.K tg J fp it tn ∧ tn 0 s2.heap ∧ (∀ b ∈ fp, FpOk X pins H' b) ∧ R J H'
def PI (X : Cx) (tg iter : Expr) (wi : TI) : Prop :=
  ∀ (pins : List (Addr × Obj)) (s : Shared) (σ : St) (H : Hp) (R : It → Hp → Prop), Inv X pins σ H s → wi σ H R →
    wpAny (model X.prog X.w) X.A (eval iter X.env) (fun v s1 => wpAny (model X.prog X.w) X.A (pyIter v) (PIE X pins σ tg R) X.xe s1) X.xe s

/-- the step ahead of the store is nothing for an iterator that keeps no tuple -/
theorem go_of {M : Model} {A : Around} {E : Value → Shared → Prop} {s : Shared} {tg : Expr} {it : Addr} {u : Value} {o : Obj} {n : String} {vs : Array Value} {Q : Unit → Shared → Prop} (ho : s.heap.get? it = some o) (hc : o.cls = .type n) (hd : o.data = .fields vs)
    (hn : ["enumerate", "zip", "dict_itemiterator", "dict_reverseitemiterator", "odict_iterator", "itertools.zip_longest", "itertools.pairwise"].contains n = false) (hQ : Q () s) : wpAny M A (letOwnedTupleGo tg (.ref it) u) Q E s := by
  unfold letOwnedTupleGo
  cases tg <;> first
    | exact wpAny_pure hQ
    | (cases u <;> first
        | exact wpAny_pure hQ
        | (refine wpAny_bind (wpAny_load ho ?_)
           rw [hc, hd]
           show wpAny M A (if (["enumerate", "zip", "dict_itemiterator", "dict_reverseitemiterator", "odict_iterator", "itertools.zip_longest", "itertools.pairwise"].contains n && vs[0]? == some (rawInt _)) = true then _ else _) Q E s
           rw [if_neg (by intro h; rw [hn, Bool.false_and] at h; cases h)]
           exact wpAny_pure hQ))

/-- the list at a, as it stands at each turn (a loop may append to it) -/
def Itl (K : PySem.W.Frag) (a : Addr) : It :=
  ⟨fun i H => ∃ xs x, SqL K H a xs ∧ xs[i]? = some x, fun i H x H' => H' = H ∧ ∀ xs, SqL K H a xs → xs[i]? = some x, fun i H => ∃ xs, SqL K H a xs ∧ xs.length ≤ i⟩
def Itt (K : PySem.W.Frag) (a : Addr) : It :=
  ⟨fun i H => ∃ xs x, SqT K H a xs ∧ xs[i]? = some x, fun i H x H' => H' = H ∧ ∀ xs, SqT K H a xs → xs[i]? = some x, fun i H => ∃ xs, SqT K H a xs ∧ xs.length ≤ i⟩
/-- lo, lo + 1, .. (n of them) -/
def Itr (lo : Int) (n : Nat) : It := ⟨fun i _ => i < n, fun i H x H' => H' = H ∧ x = .int (lo + i), fun i _ => n ≤ i⟩
theorem turn_list {P : Program} {w : World} {K : PySem.W.Frag} {tg : Expr} (a it : Addr) : Turn P w K tg (Itl K a) [it] it (fun i h => h.IsListIter it a i) where
  mem := by simp
  obj := fun i h st b hb => by
    have e : b = it := by simpa using hb
    subst e
    obtain ⟨o, e, c, d⟩ := st
    exact ⟨o, e, fun v z => by rw [d] at z; cases z⟩
  keep := fun i h h' st k => st.at fun o e => k it (by simp) o e
  item := by
    intro X hP hw hK hc i pins s σ H E I hf st hg
    subst hP hw hK
    obtain ⟨xs, x, hq, hx⟩ := hg
    obtain ⟨its, rv, p, hz⟩ := I.list hq
    obtain ⟨u, hu, ru⟩ := rv.get hx
    obtain ⟨f0, f1, f2, f3, f4, f5⟩ := hf it (by simp)
    refine wpAny_pyNext_list_item st p.isList (x := u) (by simpa using hu) fun h' st' sb => ?_
    have I1 : Inv X pins σ H { s with heap := h' } := I.turned (t' := s.toks) (fun b o hb e => (sb.2 b hb).trans e) f0 f1 f3 f4 f5
    obtain ⟨o, e, c, d⟩ := id st'
    exact ⟨u, rfl, go_of (s := { s with heap := h' }) e c d (by decide) ⟨x, H, I1, ru, ⟨rfl, fun ys hy => by rw [I.list_inj hy hq]; exact hx⟩, st', fun b hb => (hf b hb).1⟩⟩
  done := by
    intro X hP hw hK hc i pins s σ H E I hf st hg
    subst hP hw hK
    obtain ⟨xs, hq, hx⟩ := hg
    obtain ⟨its, rv, p, hz⟩ := I.list hq
    obtain ⟨f0, f1, f2, f3, f4, f5⟩ := hf it (by simp)
    have hl := rv.length
    exact wpAny_pyNext_list_end (I.ok.hd hc) st p.isList (by simp; omega) fun h' eb => ⟨rfl, I.turned (t' := s.toks) (fun b o hb e => eb b o hb e) f0 f1 f3 f4 f5⟩
  self := fun _ _ _ _ _ st h => wpAny_pyIter_listiter st h
theorem turn_range {P : Program} {w : World} {K : PySem.W.Frag} {tg : Expr} (it : Addr) (lo : Int) (n : Nat) : Turn P w K tg (Itr lo n) [it] it (fun i h => IsRangeIter h it (lo + (i : Nat) * 1) ((n : Int) - (i : Nat)) 1) where
  mem := by simp
  obj := fun i h st b hb => by
    have e : b = it := by simpa using hb
    subst e
    exact ⟨_, st, fun v z => by
      have z' : Data.fields _ = Data.cell v := z
      cases z'⟩
  keep := fun i h h' st k => k it (by simp) _ st
  item := by
    intro X hP hw hK hc i pins s σ H E I hf st hg
    subst hP hw hK
    obtain ⟨f0, f1, f2, f3, f4, f5⟩ := hf it (by simp)
    have W := Walks.range (prog := X.prog) (w := X.w) (I.ok.hd hc) it lo 1 n
    refine W.item i s _ _ hg st fun v h' tk hv st' kk => ?_
    obtain ⟨t, rfl⟩ := hv
    have I1 : Inv X pins σ H { s with heap := h', toks := tk } := I.turned (fun b o hb e => kk b o (by simpa using hb) e) f0 f1 f3 f4 f5
    refine ⟨_, rfl, go_of (s := { s with heap := h', toks := tk }) (n := "range_iterator") st' rfl rfl (by decide) ⟨.int (lo + i), H, I1, ⟨t, ?_⟩, ⟨rfl, rfl⟩, st', fun b hb => (hf b hb).1⟩⟩
    rw [Int.mul_one]
  done := by
    intro X hP hw hK hc i pins s σ H E I hf st hg
    subst hP hw hK
    obtain ⟨f0, f1, f2, f3, f4, f5⟩ := hf it (by simp)
    exact wpAny_pyNext_range_end (I.ok.hd hc) st (by have : n ≤ i := hg; omega) fun h' eb => ⟨rfl, I.turned (t' := s.toks) (fun b o hb e => eb b o hb e) f0 f1 f3 f4 f5⟩
  self := fun _ _ _ _ _ st h => wpAny_pyIter_rangeiter st h
end L2

namespace L2
open PySem PySem.Spec PyProof.Rows
section
variable {X : Cx} {tg : Expr}
def iList (K : PySem.W.Frag) (tl : TE) : TI := fun σ H R => tl σ H fun x H1 => ∃ a, x = .ref a ∧ (∃ xs, SqL K H1 a xs) ∧ R (Itl K a) H1
def iTup (K : PySem.W.Frag) (tl : TE) : TI := fun σ H R => tl σ H fun x H1 => ∃ a, x = .ref a ∧ (∃ xs, SqT K H1 a xs) ∧ R (Itt K a) H1
theorem pi_list {l : Expr} {tl : TE} (hl : PE X l tl) : PI X tg l (iList X.K tl) := by
  intro pins s σ H R I h
  refine thn (hl pins s σ H _ I h) fun v s1 ⟨x, H1, I1, r1, q1⟩ => ?_
  obtain ⟨a, e, ⟨xs, hq⟩, q⟩ := q1
  subst e
  cases r1
  obtain ⟨its, rv, p, hz⟩ := I1.list hq
  refine wpAny_pyIter_list p.isList ?_
  refine ⟨s1.heap.objs.size, [s1.heap.objs.size], _, _, H1, rfl, I1.kept (t' := s1.toks) fun b o e => Heap.get?_push_of_some _ e, turn_list a _, ⟨_, Heap.get?_push_size _ rfl, rfl, rfl⟩, fun b hb => ?_, q⟩
  have e : b = s1.heap.objs.size := by simpa using hb
  subst e
  exact I1.fpOk (Nat.le_refl _) (I1.hok.fresh (Nat.le_refl _))
/-- a range object just made, walked -/
theorem range_it {pins : List (Addr × Obj)} {σ : St} {H : Hp} {s : Shared} {R : It → Hp → Prop} {E : Value → Shared → Prop} {lo hi : Int} {t u v : Tok} {tk : Nat} (I : Inv X pins σ H s) (h1 : -(2 ^ 62) ≤ lo) (h2 : lo < 2 ^ 62) (h3 : -(2 ^ 62) ≤ hi) (h4 : hi < 2 ^ 62)
    (q : R (Itr lo (hi - lo).toNat) H) : wpAny (model X.prog X.w) X.A (pyIter (.ref s.heap.objs.size)) (PIE X pins σ tg R) E { s with heap := s.heap.push { cls := .type "range", data := .fields #[.int lo t, .int hi u, .int 1 v] }, toks := tk } := by
  refine wpAny_pyIter_range (IsRange.new ..) (small_one h1 h2 h3 h4) ?_
  have I1 : Inv X pins σ H { s with heap := s.heap.push { cls := .type "range", data := .fields #[.int lo t, .int hi u, .int 1 v] }, toks := tk } := I.kept fun b o e => Heap.get?_push_of_some _ e
  refine ⟨(s.heap.push { cls := .type "range", data := .fields #[.int lo t, .int hi u, .int 1 v] }).objs.size, [(s.heap.push { cls := .type "range", data := .fields #[.int lo t, .int hi u, .int 1 v] }).objs.size], _, _, H, rfl,
    I1.kept (t' := tk) fun b o e => Heap.get?_push_of_some _ e, turn_range _ lo (hi - lo).toNat, ?_, fun b hb => ?_, q⟩
  · have e1 : lo + ((0 : Nat) : Int) * 1 = lo := by simp
    have e2 : (((hi - lo).toNat : Nat) : Int) - ((0 : Nat) : Int) = Builtin.Range.rangeSize lo hi 1 := by rw [rangeSize_one]; split <;> omega
    show IsRangeIter _ _ (lo + ((0 : Nat) : Int) * 1) ((((hi - lo).toNat : Nat) : Int) - ((0 : Nat) : Int)) 1
    rw [e1, e2]
    exact Heap.get?_push_size _ rfl
  · have e : b = (s.heap.push { cls := .type "range", data := .fields #[.int lo t, .int hi u, .int 1 v] }).objs.size := by simpa using hb
    subst e
    exact I1.fpOk (Nat.le_refl _) (I1.hok.fresh (Nat.le_refl _))
def iRng1 (ta : TA) : TI := fun σ H R => ta σ H fun vs H1 => ∃ j : Int, vs = [.int j] ∧ -(2 ^ 62) ≤ j ∧ j < 2 ^ 62 ∧ R (Itr 0 j.toNat) H1
def iRng2 (ta : TA) : TI := fun σ H R => ta σ H fun vs H1 => ∃ i j : Int, vs = [.int i, .int j] ∧ (-(2 ^ 62) ≤ i ∧ i < 2 ^ 62 ∧ -(2 ^ 62) ≤ j ∧ j < 2 ^ 62) ∧ R (Itr i (j - i).toNat) H1
theorem pi_range1 {a : Expr} {ta : TA} {p pos : Pos} (hg : Gl X "range") (hm : X.mg "range" = none) (ha : PA X [a] ta) (hs : starEach [a] X.env = [(false, eval a X.env)] := by rfl) : PI X tg (.Call (.Name "range" p) [a] [] pos) (iRng1 ta) := by
  intro pins s σ H R I h
  refine Call_ (ld_blt I hg hm boot_range (PyProof.Rows.callWith_type1 (thn (ha pos pins s σ H _ I h) fun us s1 ⟨vs, H1, I1, r1, q1⟩ => ?_) hs rfl))
  obtain ⟨j, e, q1, q2, q⟩ := q1
  subst e
  cases r1 with
  | cons r rr =>
    cases rr
    obtain ⟨t, rfl⟩ := r
    exact call_range_1 (range_it I1 (by omega) (by omega) q1 q2 (by simpa using q))
theorem pi_range2 {a b : Expr} {ta : TA} {p pos : Pos} (hg : Gl X "range") (hm : X.mg "range" = none) (ha : PA X [a, b] ta) (hs : starEach [a, b] X.env = [(false, eval a X.env), (false, eval b X.env)] := by rfl) (hs2 : starEach [b] X.env = [(false, eval b X.env)] := by rfl) :
    PI X tg (.Call (.Name "range" p) [a, b] [] pos) (iRng2 ta) := by
  intro pins s σ H R I h
  refine Call_ (ld_blt I hg hm boot_range (PyProof.Rows.callWith_type1 (thn (ha pos pins s σ H _ I h) fun us s1 ⟨vs, H1, I1, r1, q1⟩ => ?_) (by rw [hs, hs2]) (by rw [hs2]; rfl)))
  obtain ⟨i, j, e, ⟨q1, q2, q3, q4⟩, q⟩ := q1
  subst e
  cases r1 with
  | cons r rr =>
    cases rr with
    | cons r' rr =>
      cases rr
      obtain ⟨t, rfl⟩ := r
      obtain ⟨t', rfl⟩ := r'
      exact call_range_2 (range_it I1 q1 q2 q3 q4 q)

/-! ### for -/
/-- W: the invariant by the turn and a measure; N: what the body is to reach -/
def tFor (wi : TI) (g : TG) (tb : TS) : TS := fun D σ H => wi σ H fun J H1 => ∃ W : Nat → Nat → St → Hp → Prop, (∃ m, W 0 m σ H1) ∧ ∀ i m σ H, W i m σ H →
  (J.stop i H ∧ D.nx σ H) ∨ (J.go i H ∧ ∃ N : St → Hp → Prop, (∀ σ' H', N σ' H' → ∃ m', m' < m ∧ W (i + 1) m' σ' H') ∧ ∀ x H', J.yld i H x H' → g x σ H' fun σ2 H2 => tb { D with nx := N, ct := N, bk := D.nx } σ2 H2)
/-- the records at fp as they stand -/
def pinsAt (fp : List Addr) (h : Heap) : List (Addr × Obj) := fp.filterMap fun b => (h.get? b).map fun o => (b, o)
theorem mem_pinsAt {fp : List Addr} {h : Heap} {b : Addr} {o : Obj} (hb : b ∈ fp) (e : h.get? b = some o) : (b, o) ∈ pinsAt fp h := List.mem_filterMap.mpr ⟨b, hb, by rw [e]; rfl⟩
theorem of_pinsAt {fp : List Addr} {h : Heap} {p : Addr × Obj} (hp : p ∈ pinsAt fp h) : p.1 ∈ fp ∧ h.get? p.1 = some p.2 := by
  obtain ⟨b, hb, e⟩ := List.mem_filterMap.mp hp
  cases q : h.get? b with
  | none => rw [q] at e; cases e
  | some o =>
    rw [q] at e
    have e' : (b, o) = p := Option.some.inj e
    subst e'
    exact ⟨hb, q⟩
theorem Inv.pinned {pins : List (Addr × Obj)} {σ : St} {H : Hp} {s : Shared} {fp : List Addr} (I : Inv X pins σ H s) (hf : ∀ b ∈ fp, FpOk X pins H b) (ho : ∀ b ∈ fp, ∃ o, s.heap.get? b = some o ∧ ∀ v, o.data ≠ .cell v) : Inv X (pins ++ pinsAt fp s.heap) σ H s :=
  I.pins_of fun p hp => (List.mem_append.mp hp).elim (fun z => I.pin p (List.mem_append_right _ z)) fun z => by
    obtain ⟨hb, e⟩ := of_pinsAt z
    obtain ⟨f0, f1, f2, _⟩ := hf p.1 hb
    obtain ⟨o, e', d⟩ := ho p.1 hb
    rw [e] at e'; cases e'
    exact ⟨e, f0, f1, f2, d⟩
theorem Inv.unpinned {pins pl : List (Addr × Obj)} {σ : St} {H : Hp} {s : Shared} (I : Inv X (pins ++ pl) σ H s) : Inv X pins σ H s := I.pins_of fun p hp => I.pin p (List.mem_append_right _ (List.mem_append_left _ hp))
theorem ps_for {iter : Expr} {body : List Stmt} {wi : TI} {g : TG} {tb : TS} {pos : Pos} (hp : PassesOwn (model X.prog X.w) X.A X.env X.xe) (hc : X.calm = true) (hi : PI X tg iter wi) (hg : PG X tg g) (hb : PSs X body tb)
    (hs : ∀ x, foldedSetIterable iter X.env x = pure x := by intro _; rfl) : PS X (.For tg iter body [] pos) (tFor wi g tb) := by
  intro pins s σ H D I h
  refine wpAny_For (thn (hi pins s σ H _ I h) fun v s1 h1 => thn h1 fun itv s2 h2 => ?_) hs
  obtain ⟨it, fp, tn, J, H2, e, I2, T, st2, f2, W, ⟨m0, w0⟩, turn⟩ := h2
  subst e
  -- what stays true of the iterator's objects through the loop
  have stat : ∀ {H' : Hp}, (∀ b ∈ fp, H' b = none) → ∀ b ∈ fp, FpOk X pins H' b := fun hn b hb => ⟨hn b hb, (f2 b hb).2⟩
  refine codeAny_forLoop_any (fun n s' => ∃ i σ' H', Inv X pins σ' H' s' ∧ tn i s'.heap ∧ (∀ b ∈ fp, H' b = none) ∧ W i n σ' H') ?_ m0 ⟨0, σ, H2, I2, st2, fun b hb => (f2 b hb).1, w0⟩
  rintro n s3 ⟨i, σ3, H3, I3, st3, fr3, w3⟩
  rcases turn i n σ3 H3 w3 with ⟨stop, qn⟩ | ⟨go, N, hN, step⟩
  · refine wpAny_passesOwn hp (thn (T.done X rfl rfl rfl hc i pins s3 σ3 H3 X.xe I3 (stat fr3) st3 stop) fun r s4 ⟨hr, I4⟩ => ?_)
    subst hr
    exact wpAny_execs_nil ⟨σ3, H3, I4, qn⟩
  · refine wpAny_passesOwn hp (thn (T.item X rfl rfl rfl hc i pins s3 σ3 H3 X.xe I3 (stat fr3) st3 go) fun r s4 ⟨u, hr, h4⟩ => ?_)
    subst hr
    refine wpAny_passesOwn hp (thn h4 fun _ s5 ⟨x, H5, I5, r5, y5, st5, fr5⟩ => ?_)
    have I5' := I5.pinned (stat fr5) (T.obj _ _ st5)
    refine wpAny_passesOwn hp (thn (hg _ s5 σ3 H5 x u _ I5' r5 (step x H5 y5)) fun _ s6 ⟨σ6, H6, I6, q6⟩ => ?_)
    refine wpAny_passesOwn hp (thn (hb _ s6 σ6 H6 _ I6 q6) fun f s7 q7 => ?_)
    have again : ∀ {σ7 : St} {H7 : Hp}, Inv X (pins ++ pinsAt fp s5.heap) σ7 H7 s7 → N σ7 H7 → ∃ m, m < n ∧ ∃ i σ' H', Inv X pins σ' H' s7 ∧ tn i s7.heap ∧ (∀ b ∈ fp, H' b = none) ∧ W i m σ' H' := fun {σ7 H7} I7 n7 => by
      obtain ⟨m', hm, w7⟩ := hN σ7 H7 n7
      refine ⟨m', hm, i + 1, σ7, H7, I7.unpinned, T.keep _ _ _ st5 fun b hb o e => (I7.pin (b, o) (List.mem_append_right _ (List.mem_append_right _ (mem_pinsAt hb e)))).1, fun b hb => ?_, w7⟩
      obtain ⟨o, e, d⟩ := T.obj _ _ st5 b hb
      exact (I7.pin (b, o) (List.mem_append_right _ (List.mem_append_right _ (mem_pinsAt hb e)))).2.1
    cases f with
    | next => obtain ⟨σ7, H7, I7, n7⟩ := q7; exact again I7 n7
    | cont => obtain ⟨σ7, H7, I7, n7⟩ := q7; exact again I7 n7
    | brk => obtain ⟨σ7, H7, I7, q7⟩ := q7; exact ⟨σ7, H7, I7.unpinned, q7⟩
    | ret v => obtain ⟨x7, σ7, H7, I7, r7, q7⟩ := q7; exact ⟨x7, σ7, H7, I7.unpinned, r7, q7⟩
end

/-! ### the forms one uses -/
/-- over a list that the body leaves as it is -/
theorem for_list {K : PySem.W.Frag} {a : Addr} {xs : List V} {g : TG} {tb : TS} {D : Ends} {σ : St} {H : Hp} (Pv : Nat → St → Hp → Prop) (h0 : Pv 0 σ H) (hl : ∀ i σ H, i ≤ xs.length → Pv i σ H → SqL K H a xs)
    (hs : ∀ i x σ H, xs[i]? = some x → Pv i σ H → g x σ H fun σ2 H2 => tb { D with nx := Pv (i + 1), ct := Pv (i + 1), bk := D.nx } σ2 H2) (hd : ∀ σ H, Pv xs.length σ H → D.nx σ H) :
    ∃ W : Nat → Nat → St → Hp → Prop, (∃ m, W 0 m σ H) ∧ ∀ i m σ H, W i m σ H →
      ((Itl K a).stop i H ∧ D.nx σ H) ∨ ((Itl K a).go i H ∧ ∃ N : St → Hp → Prop, (∀ σ' H', N σ' H' → ∃ m', m' < m ∧ W (i + 1) m' σ' H') ∧ ∀ x H', (Itl K a).yld i H x H' → g x σ H' fun σ2 H2 => tb { D with nx := N, ct := N, bk := D.nx } σ2 H2) := by
  refine ⟨fun i m σ H => m = xs.length - i ∧ i ≤ xs.length ∧ Pv i σ H, ⟨xs.length, by simp, Nat.zero_le _, h0⟩, ?_⟩
  rintro i m σ H ⟨rfl, hi, p⟩
  have q := hl i σ H hi p
  by_cases hlt : i < xs.length
  · refine .inr ⟨⟨xs, xs[i], q, by simp [hlt]⟩, Pv (i + 1), fun σ' H' p' => ⟨xs.length - (i + 1), by omega, rfl, hlt, p'⟩, fun x H' y => ?_⟩
    obtain ⟨e, y⟩ := y
    subst e
    exact hs i x σ _ (y xs q) p
  · have e : i = xs.length := by omega
    subst e
    exact .inl ⟨⟨xs, q, Nat.le_refl _⟩, hd σ H p⟩
theorem for_range {lo : Int} {n : Nat} {g : TG} {tb : TS} {D : Ends} {σ : St} {H : Hp} (Pv : Nat → St → Hp → Prop) (h0 : Pv 0 σ H)
    (hs : ∀ i σ H, i < n → Pv i σ H → g (.int (lo + i)) σ H fun σ2 H2 => tb { D with nx := Pv (i + 1), ct := Pv (i + 1), bk := D.nx } σ2 H2) (hd : ∀ σ H, Pv n σ H → D.nx σ H) :
    ∃ W : Nat → Nat → St → Hp → Prop, (∃ m, W 0 m σ H) ∧ ∀ i m σ H, W i m σ H →
      ((Itr lo n).stop i H ∧ D.nx σ H) ∨ ((Itr lo n).go i H ∧ ∃ N : St → Hp → Prop, (∀ σ' H', N σ' H' → ∃ m', m' < m ∧ W (i + 1) m' σ' H') ∧ ∀ x H', (Itr lo n).yld i H x H' → g x σ H' fun σ2 H2 => tb { D with nx := N, ct := N, bk := D.nx } σ2 H2) := by
  refine ⟨fun i m σ H => m = n - i ∧ i ≤ n ∧ Pv i σ H, ⟨n, by simp, Nat.zero_le _, h0⟩, ?_⟩
  rintro i m σ H ⟨rfl, hi, p⟩
  by_cases hlt : i < n
  · refine .inr ⟨hlt, Pv (i + 1), fun σ' H' p' => ⟨n - (i + 1), by omega, rfl, hlt, p'⟩, fun x H' y => ?_⟩
    obtain ⟨e, y⟩ := y
    subst e y
    exact hs i σ _ hlt p
  · have e : i = n := by omega
    subst e
    exact .inl ⟨Nat.le_refl _, hd σ H p⟩
end L2

namespace L2
open PySem PySem.Spec PyProof.Rows

abbrev R2 := V → V → Hp → VK → Prop
/-- a two-place operation on values: f is binaryOp op, inplaceOp op or compareOp op -/
def OpR (X : Cx) (f : Value → Value → Sem Value) (r : R2) : Prop :=
  ∀ (pins : List (Addr × Obj)) (s : Shared) (σ : St) (H : Hp) (x y : V) (v u : Value) (Q : VK), Inv X pins σ H s → RelV x v → RelV y u → r x y H Q →
    wpAny (model X.prog X.w) X.A (f v u) (EP X pins σ Q) X.xe s
/-- a one-place operation -/
def UnR (X : Cx) (f : Value → Sem Value) (r : V → Hp → VK → Prop) : Prop :=
  ∀ (pins : List (Addr × Obj)) (s : Shared) (σ : St) (H : Hp) (x : V) (v : Value) (Q : VK), Inv X pins σ H s → RelV x v → r x H Q →
    wpAny (model X.prog X.w) X.A (f v) (EP X pins σ Q) X.xe s
/-- a call of a value that is known (a builtin, a type) with values -/
def CallR (X : Cx) (f : Value) (r : List V → Hp → VK → Prop) : Prop :=
  ∀ (pins : List (Addr × Obj)) (s : Shared) (σ : St) (H : Hp) (xs : List V) (us : List Value) (Q : VK), Inv X pins σ H s → Vals xs us → r xs H Q →
    wpAny (model X.prog X.w) X.A (call f us) (EP X pins σ Q) X.xe s
/-- a value's truth -/
def TruR (X : Cx) (r : V → Hp → (Bool → Hp → Prop) → Prop) : Prop :=
  ∀ (pins : List (Addr × Obj)) (s : Shared) (σ : St) (H : Hp) (x : V) (v : Value) (Q : Bool → Hp → Prop), Inv X pins σ H s → RelV x v → r x H Q →
    wpAny (model X.prog X.w) X.A (truthy v) (TP X pins σ Q) X.xe s

def tOp (r : R2) (ta tb : TE) : TE := fun σ H Q => ta σ H fun x H1 => tb σ H1 fun y H2 => r x y H2 Q
def tUn (r : V → Hp → VK → Prop) (ta : TE) : TE := fun σ H Q => ta σ H fun x H1 => r x H1 Q
/-- ints in, under C, and a value out -/
def rI (C : Int → Int → Prop) (g : Int → Int → V) : R2 := fun x y H Q => ∃ i j, x = .int i ∧ y = .int j ∧ C i j ∧ Q (g i j) H
def rI0 (g : Int → Int → V) : R2 := fun x y H Q => ∃ i j, x = .int i ∧ y = .int j ∧ Q (g i j) H
def rU (g : Int → V) : V → Hp → VK → Prop := fun x H Q => ∃ i, x = .int i ∧ Q (g i) H

section
variable {X : Cx} {a b c : Expr} {ta tb tc : TE} {pos : Pos}

theorem binT (ha : PE X a ta) (hb : PE X b tb) {pins : List (Addr × Obj)} {s : Shared} {σ : St} {H : Hp} {R : V → V → Hp → Prop} (I : Inv X pins σ H s)
    (h : ta σ H fun x H1 => tb σ H1 fun y H2 => R x y H2) {Q : Value → Shared → Prop} {f : Value → Value → Sem Value}
    (hf : ∀ v u s2 x y H2, Inv X pins σ H2 s2 → RelV x v → RelV y u → R x y H2 → wpAny (model X.prog X.w) X.A (f v u) Q X.xe s2) :
    wpAny (model X.prog X.w) X.A (eval a X.env) (fun v s₁ => wpAny (model X.prog X.w) X.A (eval b X.env) (fun u s₂ => wpAny (model X.prog X.w) X.A (f v u) Q X.xe s₂) X.xe s₁) X.xe s := by
  refine thn (ha pins s σ H _ I h) fun v s1 ⟨x, H1, I1, r1, q1⟩ => ?_
  refine thn (hb pins s1 σ H1 _ I1 q1) fun u s2 ⟨y, H2, I2, r2, q2⟩ => ?_
  exact hf v u s2 x y H2 I2 r1 r2 q2

theorem pe_op {op : Operator} {r : R2} (ho : OpR X (binaryOp op) r) (ha : PE X a ta) (hb : PE X b tb) : PE X (.BinOp a op b pos) (tOp r ta tb) := by
  intro pins s σ H Q I h
  exact wpAny_BinOp (binT ha hb I h fun v u s2 x y H2 I2 rx ry q => ho pins s2 σ H2 x y v u Q I2 rx ry q)
theorem pe_un {op : UnaryOp} {r : V → Hp → VK → Prop} (ho : UnR X (unaryOp op) r) (ha : PE X a ta) : PE X (.UnaryOp op a pos) (tUn r ta) := by
  intro pins s σ H Q I h
  exact UnaryOp_ (thn (ha pins s σ H _ I h) fun v s1 ⟨x, H1, I1, r1, q1⟩ => ho pins s1 σ H1 x v Q I1 r1 q1)
/-! ### ints -/
theorem opI {f : Value → Value → Sem Value} {C : Int → Int → Prop} {g : Int → Int → Int}
    (rule : ∀ (i j : Int) (t u : Tok) (s : Shared) (Q : Value → Shared → Prop) (E : Value → Shared → Prop), C i j → Q (.int (g i j) s.toks) { s with toks := s.toks + 1 } → wpAny (model X.prog X.w) X.A (f (.int i t) (.int j u)) Q E s) :
    OpR X f (rI C fun i j => .int (g i j)) := by
  intro pins s σ H x y v u Q I rx ry h
  obtain ⟨i, j, rfl, rfl, hc, q⟩ := h
  obtain ⟨t, rfl⟩ := rx
  obtain ⟨t', rfl⟩ := ry
  exact rule i j t t' s _ _ hc ⟨.int (g i j), H, I.tok _, ⟨_, rfl⟩, q⟩
theorem opI0 {f : Value → Value → Sem Value} {g : Int → Int → Int}
    (rule : ∀ (i j : Int) (t u : Tok) (s : Shared) (Q : Value → Shared → Prop) (E : Value → Shared → Prop), Q (.int (g i j) s.toks) { s with toks := s.toks + 1 } → wpAny (model X.prog X.w) X.A (f (.int i t) (.int j u)) Q E s) :
    OpR X f (rI0 fun i j => .int (g i j)) := by
  intro pins s σ H x y v u Q I rx ry h
  obtain ⟨i, j, rfl, rfl, q⟩ := h
  obtain ⟨t, rfl⟩ := rx
  obtain ⟨t', rfl⟩ := ry
  exact rule i j t t' s _ _ ⟨.int (g i j), H, I.tok _, ⟨_, rfl⟩, q⟩
theorem opB0 {f : Value → Value → Sem Value} {g : Int → Int → Bool}
    (rule : ∀ (i j : Int) (t u : Tok) (s : Shared) (Q : Value → Shared → Prop) (E : Value → Shared → Prop), Q (.bool (g i j)) s → wpAny (model X.prog X.w) X.A (f (.int i t) (.int j u)) Q E s) :
    OpR X f (rI0 fun i j => .bl (g i j)) := by
  intro pins s σ H x y v u Q I rx ry h
  obtain ⟨i, j, rfl, rfl, q⟩ := h
  obtain ⟨t, rfl⟩ := rx
  obtain ⟨t', rfl⟩ := ry
  exact rule i j t t' s _ _ ⟨.bl (g i j), H, I, rfl, q⟩

def CDiv (i j : Int) : Prop := 0 < j ∧ j < 1073741824
def CDivN (i j : Int) : Prop := j ≠ 0 ∧ j.natAbs < 1073741824
def CPow (i j : Int) : Prop := 0 ≤ j ∧ j ≤ 1000000 ∧ i.natAbs < 2 ^ 64
def CMul (i j : Int) : Prop := (-(2 ^ 64) < i ∧ i < 2 ^ 64) ∨ (-(2 ^ 64) < j ∧ j < 2 ^ 64)
theorem CMul.ok {i j : Int} (h : CMul i j) : IntMulOk i j := by
  rcases h with ⟨h1, h2⟩ | ⟨h1, h2⟩
  · exact .of_left (intBits_le_64 h1 h2)
  · exact .of_right (intBits_le_64 h1 h2)
theorem op_add : OpR X (binaryOp .Add) (rI0 fun i j => .int (i + j)) := opI0 fun _ _ _ _ _ _ _ q => add_int q
theorem op_sub : OpR X (binaryOp .Sub) (rI0 fun i j => .int (i - j)) := opI0 fun _ _ _ _ _ _ _ q => sub_int q
theorem op_mul : OpR X (binaryOp .Mult) (rI CMul fun i j => .int (i * j)) := opI fun _ _ _ _ _ _ _ hc q => mul_int q hc.ok
/-- // by a positive divisor -/
theorem op_fdiv : OpR X (binaryOp .FloorDiv) (rI CDiv fun i j => .int (i / j)) := opI fun i j _ _ _ _ _ hc q => by
  have h1 : (0 : Int) < j := hc.1
  have h2 : j < 1073741824 := hc.2
  exact floordiv_int (by omega) (by rw [Int.fdiv_eq_ediv_of_nonneg i (by omega)]; exact q) (.inl (PyProof.noPylong_small (by omega)))
/-- % by a positive divisor of any size -/
theorem op_mod : OpR X (binaryOp .Mod) (rI (fun _ j => 0 < j) fun i j => .int (i % j)) := opI fun i j _ _ _ _ _ hc q => by
  have h1 : (0 : Int) < j := hc
  exact mod_int' (by omega) (by rw [Int.fmod_eq_emod_of_nonneg i (by omega)]; exact q)
theorem unI {f : Value → Sem Value} {g : Int → Int}
    (rule : ∀ (i : Int) (t : Tok) (s : Shared) (Q : Value → Shared → Prop) (E : Value → Shared → Prop), Q (.int (g i) s.toks) { s with toks := s.toks + 1 } → wpAny (model X.prog X.w) X.A (f (.int i t)) Q E s) :
    UnR X f (rU fun i => .int (g i)) := by
  intro pins s σ H x v Q I rx h
  obtain ⟨i, rfl, q⟩ := h
  obtain ⟨t, rfl⟩ := rx
  exact rule i t s _ _ ⟨.int (g i), H, I.tok _, ⟨_, rfl⟩, q⟩
theorem un_neg : UnR X (unaryOp .USub) (rU fun i => .int (-i)) := unI fun _ _ _ _ _ q => neg_int q
/-! ### bools among ints: n += (a < b) -/
end

/-! ### comparisons -/
/-- the scalars that == tells apart as data does -/
def scal : V → V → Bool
  | .non, .non => true | .non, .int _ => true | .int _, .non => true | .non, .bl _ => true | .bl _, .non => true | .non, .str _ => true | .str _, .non => true
  | .int _, .int _ => true | .bl _, .bl _ => true | .str _, .str _ => true | .byt _, .byt _ => true
  | .int _, .str _ => true | .str _, .int _ => true | .bl _, .str _ => true | .str _, .bl _ => true
  | _, _ => false
def rEq : R2 := fun x y H Q => scal x y = true ∧ Q (.bl (decide (x = y))) H
def rNe : R2 := fun x y H Q => scal x y = true ∧ Q (.bl (!decide (x = y))) H

theorem dec_int {i j : Int} : decide (V.int i = V.int j) = (i == j) := by
  rw [Bool.eq_iff_iff]
  simp
theorem dec_bl {i j : Bool} : decide (V.bl i = V.bl j) = (i == j) := by
  rw [Bool.eq_iff_iff]
  simp
theorem dec_str {i j : Str} : decide (V.str i = V.str j) = (i == j) := by
  rw [Bool.eq_iff_iff]
  simp
theorem dec_byt {i j : Array UInt8} : decide (V.byt i = V.byt j) = (i.toList == j.toList) := by
  rw [Bool.eq_iff_iff]
  cases i
  cases j
  simp

section
variable {X : Cx} {a b c : Expr} {ta tb tc : TE} {pos : Pos}
theorem fin_bl {pins : List (Addr × Obj)} {σ : St} {H : Hp} {s : Shared} {Q : VK} {k k' : Bool} (I : Inv X pins σ H s) (q : Q (.bl k) H) (e : k = k') : EP X pins σ Q (.bool k') s := by
  subst e
  exact ⟨.bl k, H, I, rfl, q⟩
theorem op_eq : OpR X (compareOp .Eq) rEq := by
  intro pins s σ H x y v u Q I rx ry h
  obtain ⟨hs, q⟩ := h
  cases x with
  | non =>
    cases rx
    cases y with
    | non => cases ry; exact PySem.EqNone.eq_none_none (fin_bl I q (by simp))
    | bl j => cases ry; exact PySem.EqNone.eq_none_bool (fin_bl I q (by simp))
    | int j => obtain ⟨t', rfl⟩ := ry; exact PySem.EqNone.eq_none_int (fin_bl I q (by simp))
    | str j => obtain ⟨t', rfl⟩ := ry; exact PySem.EqNone.eq_none_str (fin_bl I q (by simp))
    | _ => exact absurd (show false = true from hs) Bool.false_ne_true
  | bl i =>
    cases rx
    cases y with
    | non => cases ry; exact PySem.EqNone.eq_bool_none (fin_bl I q (by simp))
    | bl j => cases ry; exact eq_bool (fin_bl I q dec_bl)
    | str j => obtain ⟨t', rfl⟩ := ry; exact PySem.EqMixed.eq_bool_str (fin_bl I q (by simp))
    | _ => exact absurd (show false = true from hs) Bool.false_ne_true
  | int i =>
    obtain ⟨t, rfl⟩ := rx
    cases y with
    | non => cases ry; exact PySem.EqNone.eq_int_none (fin_bl I q (by simp))
    | int j => obtain ⟨t', rfl⟩ := ry; exact eq_int (fin_bl I q dec_int)
    | str j => obtain ⟨t', rfl⟩ := ry; exact PySem.EqMixed.eq_int_str (fin_bl I q (by simp))
    | _ => exact absurd (show false = true from hs) Bool.false_ne_true
  | str i =>
    obtain ⟨t, rfl⟩ := rx
    cases y with
    | non => cases ry; exact PySem.EqNone.eq_str_none (fin_bl I q (by simp))
    | bl j => cases ry; exact PySem.EqMixed.eq_str_bool (fin_bl I q (by simp))
    | int j => obtain ⟨t', rfl⟩ := ry; exact PySem.EqMixed.eq_str_int (fin_bl I q (by simp))
    | str j => obtain ⟨t', rfl⟩ := ry; exact eq_str (fin_bl I q dec_str)
    | _ => exact absurd (show false = true from hs) Bool.false_ne_true
  | byt i =>
    obtain ⟨t, rfl⟩ := rx
    cases y with
    | byt j => obtain ⟨t', rfl⟩ := ry; exact PySem.W.eq_bytes (fin_bl I q dec_byt)
    | _ => exact absurd (show false = true from hs) Bool.false_ne_true
  | _ => cases y <;> exact absurd (show false = true from hs) Bool.false_ne_true
theorem op_ne : OpR X (compareOp .NotEq) rNe := by
  intro pins s σ H x y v u Q I rx ry h
  obtain ⟨hs, q⟩ := h
  cases x with
  | non =>
    cases rx
    cases y with
    | non => cases ry; exact PySem.EqNone.ne_none_none (fin_bl I q (by simp))
    | bl j => cases ry; exact PySem.EqNone.ne_none_bool (fin_bl I q (by simp))
    | int j => obtain ⟨t', rfl⟩ := ry; exact PySem.EqNone.ne_none_int (fin_bl I q (by simp))
    | str j => obtain ⟨t', rfl⟩ := ry; exact PySem.EqNone.ne_none_str (fin_bl I q (by simp))
    | _ => exact absurd (show false = true from hs) Bool.false_ne_true
  | bl i =>
    cases rx
    cases y with
    | non => cases ry; exact PySem.EqNone.ne_bool_none (fin_bl I q (by simp))
    | bl j => cases ry; exact ne_bool (fin_bl I q (congrArg not dec_bl))
    | str j => obtain ⟨t', rfl⟩ := ry; exact PySem.EqMixed.ne_bool_str (fin_bl I q (by simp))
    | _ => exact absurd (show false = true from hs) Bool.false_ne_true
  | int i =>
    obtain ⟨t, rfl⟩ := rx
    cases y with
    | non => cases ry; exact PySem.EqNone.ne_int_none (fin_bl I q (by simp))
    | int j => obtain ⟨t', rfl⟩ := ry; exact ne_int (fin_bl I q (congrArg not dec_int))
    | str j => obtain ⟨t', rfl⟩ := ry; exact PySem.EqMixed.ne_int_str (fin_bl I q (by simp))
    | _ => exact absurd (show false = true from hs) Bool.false_ne_true
  | str i =>
    obtain ⟨t, rfl⟩ := rx
    cases y with
    | non => cases ry; exact PySem.EqNone.ne_str_none (fin_bl I q (by simp))
    | bl j => cases ry; exact PySem.EqMixed.ne_str_bool (fin_bl I q (by simp))
    | int j => obtain ⟨t', rfl⟩ := ry; exact PySem.EqMixed.ne_str_int (fin_bl I q (by simp))
    | str j => obtain ⟨t', rfl⟩ := ry; exact ne_str (fin_bl I q (congrArg not dec_str))
    | _ => exact absurd (show false = true from hs) Bool.false_ne_true
  | byt i =>
    obtain ⟨t, rfl⟩ := rx
    cases y with
    | byt j => obtain ⟨t', rfl⟩ := ry; exact PySem.W.ne_bytes (fin_bl I q (congrArg not dec_byt))
    | _ => exact absurd (show false = true from hs) Bool.false_ne_true
  | _ => cases y <;> exact absurd (show false = true from hs) Bool.false_ne_true

theorem op_lt : OpR X (compareOp .Lt) (rI0 fun i j => .bl (decide (i < j))) := opB0 fun _ _ _ _ _ _ _ q => lt_int q
theorem op_le : OpR X (compareOp .LtE) (rI0 fun i j => .bl (decide (i ≤ j))) := opB0 fun _ _ _ _ _ _ _ q => le_int q
theorem op_gt : OpR X (compareOp .Gt) (rI0 fun i j => .bl (decide (j < i))) := opB0 fun _ _ _ _ _ _ _ q => gt_int q
/-- the one string within the other -/
theorem op_in_str : OpR X (compareOp .In) (fun x y H Q => ∃ i j, x = .str i ∧ y = .str j ∧ Q (.bl (!(Builtin.Str.occurrences j i 0 j.length 1).isEmpty)) H) := by
  intro pins s σ H x y v u Q I rx ry h
  obtain ⟨i, j, rfl, rfl, q⟩ := h
  obtain ⟨t, rfl⟩ := rx
  obtain ⟨t', rfl⟩ := ry
  exact in_str (fin_bl I q rfl)

/-- is None, is not None: the right side a value none -/
theorem op_isN : OpR X (compareOp .Is) (fun x y H Q => y = .non ∧ Q (.bl (decide (x = .non))) H) := by
  intro pins s σ H x y v u Q I rx ry h
  obtain ⟨rfl, q⟩ := h
  cases ry
  refine is_none_gen (fin_bl I q ?_)
  cases x <;> first
    | (cases rx; rfl)
    | (obtain ⟨t, rfl⟩ := rx; rfl)
theorem op_notN : OpR X (compareOp .IsNot) (fun x y H Q => y = .non ∧ Q (.bl (!decide (x = .non))) H) := by
  intro pins s σ H x y v u Q I rx ry h
  obtain ⟨rfl, q⟩ := h
  cases ry
  refine isnot_none_gen (fin_bl I q ?_)
  cases x <;> first
    | (cases rx; rfl)
    | (obtain ⟨t, rfl⟩ := rx; rfl)

/-- is, is not of two objects that are tracked lists or instances -/
def isObj : HO → Bool
  | .lst _ => true
  | .ins _ _ _ => true
  | _ => false
theorem nomark (b : Expr) {op : CmpOp} (h : op ≠ .In := by decide) (h2 : op ≠ .NotIn := by decide) : behindInMarks op b = false := by
  have e1 : (op == CmpOp.In) = false := by cases op <;> first | rfl | exact absurd rfl h
  have e2 : (op == CmpOp.NotIn) = false := by cases op <;> first | rfl | exact absurd rfl h2
  cases b <;> simp [behindInMarks, e1, e2]
/-- a comparison as a value; hm: nomark b, or (for in, not in) by with_unfolding_all rfl -/
theorem pe_cmpR {op : CmpOp} {r : R2} (ho : OpR X (compareOp op) r) (ha : PE X a ta) (hb : PE X b tb) (hm : behindInMarks op b = false) : PE X (.Compare a [op] [b] pos) (tOp r ta tb) := by
  intro pins s σ H Q I h
  exact wpAny_Compare1 (binT ha hb I h fun v u s2 x y H2 I2 rx ry q => ho pins s2 σ H2 x y v u Q I2 rx ry q) hm
/-- a reading of a value as a test -/
def tTest (t : TE) : TT := fun σ H Q => t σ H fun x H' => ∃ k, x = .bl k ∧ Q k H'
theorem pt_cmpR {op : CmpOp} {r : R2} (ho : OpR X (compareOp op) r) (ha : PE X a ta) (hb : PE X b tb) (hm : behindInMarks op b = false) : PT X (.Compare a [op] [b] pos) (tTest (tOp r ta tb)) := by
  intro pins s σ H Q I h
  refine wpAny_isTrue_Compare1 (thn (ha pins s σ H _ I h) fun v s1 ⟨x, H1, I1, r1, q1⟩ => thn (hb pins s1 σ H1 _ I1 q1) fun u s2 ⟨y, H2, I2, r2, q2⟩ =>
    thn (ho pins s2 σ H2 x y v u _ I2 r1 r2 q2) fun c s3 ⟨z, H3, I3, r3, k, e, q3⟩ => ?_) hm
  subst e
  cases r3
  exact wpAny_truthy_bool ⟨H3, I3, q3⟩
/-- a op1 b op2 c -/
def tChain (r r' : R2) (ta tb tc : TE) : TE := fun σ H Q => ta σ H fun x H1 => tb σ H1 fun y H2 => r x y H2 fun z H3 => ∃ k, z = .bl k ∧
  (if k = true then tc σ H3 fun w' H4 => r' y w' H4 Q else Q (.bl false) H3)
theorem pe_chain {op op' : CmpOp} {r r' : R2} (ho : OpR X (compareOp op) r) (ho' : OpR X (compareOp op') r') (ha : PE X a ta) (hb : PE X b tb) (hc : PE X c tc)
    (hm : lastMarks [op, op'] [b, c] = false := by with_unfolding_all rfl) : PE X (.Compare a [op, op'] [b, c] pos) (tChain r r' ta tb tc) := by
  intro pins s σ H Q I h
  refine Compare_chain (thn (ha pins s σ H _ I h) fun v s1 ⟨x, H1, I1, r1, q1⟩ => chain_link (thn (hb pins s1 σ H1 _ I1 q1) fun u s2 ⟨y, H2, I2, r2, q2⟩ =>
    thn (ho pins s2 σ H2 x y v u _ I2 r1 r2 q2) fun d s3 ⟨z, H3, I3, r3, k, e, q3⟩ => ?_)) hm
  subst e
  cases r3
  refine wpAny_truthy_bool ?_
  cases k with
  | false => exact ite_ff ⟨.bl false, H3, I3, rfl, q3⟩
  | true => exact ite_tt (chain_last (thn (hc pins s3 σ H3 _ I3 q3) fun w' s4 ⟨z', H4, I4, r4, q4⟩ => ho' pins s4 σ H4 y z' u w' Q I4 r2 r4 q4))
/-! ### truth -/
/-- a value's truth by the abstract heap -/
def TruV (K : PySem.W.Frag) (x : V) (H : Hp) (k : Bool) : Prop :=
  match x with
  | .non => k = false
  | .bl b => k = b
  | .int i => k = (i != 0)
  | .str y => y.length ≤ sizeLine ∧ k = ((y.length : Int) != 0)
  | .byt y => y.size ≤ sizeLine ∧ k = ((y.size : Int) != 0)
  | .ref p => (∃ xs, SqL K H p xs ∧ k = !xs.isEmpty) ∨ (∃ xs, SqT K H p xs ∧ k = !xs.isEmpty) ∨ ∃ kvs, H p = some (.dK kvs) ∧ k = !kvs.isEmpty
  | _ => False
theorem line63 : (sizeLine : Nat) < 2 ^ 63 := by rw [sizeLine_eq]; decide
/-! ### strs and bytes -/
theorem op_add_str : OpR X (binaryOp .Add) (fun x y H Q => ∃ i j, x = .str i ∧ y = .str j ∧ i.length + j.length ≤ sizeLine ∧ Q (.str (i ++ j)) H) := by
  intro pins s σ H x y v u Q I rx ry h
  obtain ⟨i, j, rfl, rfl, hz, q⟩ := h
  obtain ⟨t, rfl⟩ := rx
  obtain ⟨t', rfl⟩ := ry
  exact add_str (fun t' tk => ⟨.str (i ++ j), H, I.tok _, ⟨_, rfl⟩, q⟩) hz
def PlainIxT (b : Expr) : Prop := ∀ o i, subscripted b false o i = operate [o, i] (getItem o i)
/-! ### scalar builtins, by CallR -/
theorem vals1 {x : V} {us : List Value} (r : Vals [x] us) : ∃ u, us = [u] ∧ RelV x u := by
  cases r with
  | cons r1 r2 => cases r2; exact ⟨_, rfl, r1⟩
theorem vals2 {x y : V} {us : List Value} (r : Vals [x, y] us) : ∃ u w', us = [u, w'] ∧ RelV x u ∧ RelV y w' := by
  cases r with
  | cons r1 r2 =>
    cases r2 with
    | cons r3 r4 => cases r4; exact ⟨_, _, rfl, r1, r3⟩
theorem call_int1 : CallR X (.type "int") (fun xs H Q => (∃ i, xs = [.int i] ∧ Q (.int i) H) ∨ ∃ k, xs = [.bl k] ∧ Q (.int (if k then 1 else 0)) H) := by
  intro pins s σ H xs us Q I r h
  rcases h with ⟨i, rfl, q⟩ | ⟨k, rfl, q⟩
  · obtain ⟨u, rfl, t, rfl⟩ := vals1 r
    exact call_int_int ⟨.int i, H, I, ⟨_, rfl⟩, q⟩
  · obtain ⟨u, rfl, r1⟩ := vals1 r
    cases r1
    exact call_int_bool ⟨.int (if k then 1 else 0), H, I.tok _, ⟨_, rfl⟩, q⟩
/-- len of a str, a bytes, a list, a tuple -/
def LenV (K : PySem.W.Frag) (x : V) (H : Hp) (n : Nat) : Prop :=
  match x with
  | .str y => y.length ≤ sizeLine ∧ n = y.length
  | .byt y => y.size ≤ sizeLine ∧ n = y.size
  | .ref p => (∃ xs, SqL K H p xs ∧ n = xs.length) ∨ ∃ xs, SqT K H p xs ∧ n = xs.length
  | _ => False
end
end L2

namespace L2
open PySem PySem.Spec PyProof.Rows

/-! ### an instance, its attributes a map -/
structure ObjM (h : Heap) (x dx C : Addr) (mA : Str → Option Value) : Prop where
  obj : h.get? x = some (PySem.W.instObj C dx)
  ns : h.Ns1 dx mA
  ne : dx ≠ x

theorem lookIn_ns {h : Heap} {dx : Addr} {mA : Str → Option Value} (n : h.Ns1 dx mA) : ∃ od, h.get? dx = some od ∧ ∀ name, PySem.W.lookIn name od = some (mA name) := by
  obtain ⟨o, es, ep, ho, hd, hk, _, hm⟩ := n
  refine ⟨o, ho, fun name => ?_⟩
  have e := hm name
  unfold nsFind findBy at e
  rw [← Array.find?_toList] at e
  unfold PySem.W.lookIn
  rw [hd]
  dsimp only
  split
  · rename_i y q
    rw [q] at e
    exact congrArg some e
  · rename_i q
    rw [q] at e
    have a : es.toList.any (·.refKey) = false := by
      rw [List.any_eq_false]
      intro y hy
      obtain ⟨z, t, hkey⟩ := hk y (Array.mem_toList_iff.mp hy)
      simp [DictEntry.refKey, hkey]
    have a' : ¬ es.toList.any (·.refKey) = true := by rw [a]; exact Bool.false_ne_true
    rw [if_neg a']
    exact congrArg some e

theorem ObjM.look {h : Heap} {x dx C : Addr} {mA : Str → Option Value} (I : ObjM h x dx C mA) : ∃ od, PySem.W.InstAt h x (PySem.W.instObj C dx) C (some od) ∧ ∀ name, PySem.W.lookIn name od = some (mA name) :=
  let ⟨od, ho, hl⟩ := lookIn_ns I.ns
  ⟨od, ⟨I.obj, rfl, rfl, ho⟩, hl⟩

section
variable {prog : Program} {w : World} {A : Around} {E : Value → Shared → Prop} {s : Shared} {K : PySem.W.Frag} {x dx C f : Addr} {mA : Str → Option Value} {name : Str} {v : Value}

theorem get_map {expr : Bool} {Q : Value → Shared → Prop} (X : K.In s.heap) (I : ObjM s.heap x dx C mA) (hg : PySem.W.plainGet K C name = true) (hh : PySem.W.hasDictIn K C = true)
    (ha : PySem.W.findIn K (.ref C) name = some none) (hv : mA name = some v) (hv' : PySem.W.handedIn v = true) (h : Q v { s with toks := s.toks + 1 }) :
    wpAny (model prog w) A (getAttr (.ref x) name expr) Q E s := by
  obtain ⟨od, J, hl⟩ := I.look
  exact PySem.W.get_value X J (PySem.W.plainGet_of hg).1 (PySem.W.findObj_own hh ha rfl (by rw [hl, hv])) hv' h

theorem get_meth {pl : Sem Bool} {Q : Value × List Value → Shared → Prop} (X : K.In s.heap) (I : ObjM s.heap x dx C mA) (hg : PySem.W.plainGet K C name = true)
    (hf : PySem.W.findIn K (.ref C) name = some (some (.ref f))) (ht : PySem.W.isFn K (.ref f) = true) (hv : mA name = none) (h : Q (.ref f, [.ref x]) s) :
    wpAny (model prog w) A (getMethod (.ref x) name pl) Q E s := by
  obtain ⟨od, J, hl⟩ := I.look
  exact PySem.W.method_fn X J (PySem.W.plainGet_of hg).1 (PySem.W.plainGet_of hg).2 hf (beq_iff_eq.mp ht) (by show (PySem.W.lookIn name od).map (·.isSome) = some false; rw [hl, hv]; rfl) h

theorem set_map {ns : List Str} {Q : Unit → Shared → Prop} (X : K.In s.heap) (I : ObjM s.heap x dx C mA)
    (hs : PySem.W.findIn K (.ref C) "__setattr__" = some (some (.builtin "object.__setattr__"))) (hp : PySem.W.plainOver K C = true) (ht : PySem.W.takerIn K C name = some none) (hh : PySem.W.hasDictIn K C = true)
    (hw : PySem.Within mA ns) (hsz : ns.length ≤ sizeLine)
    (h : ∀ h', ObjM h' x dx C (fun y => if y = name then some v else mA y) → Heap.SameBut dx s.heap h' → Q () { s with heap := h', toks := s.toks + 2 }) :
    wpAny (model prog w) A (setAttr (.ref x) name v) Q E s := by
  obtain ⟨od, J, hl⟩ := I.look
  refine PySem.W.set_plain X J hs (PySem.W.osa_open (s := { s with toks := s.toks + 1 }) (r := none) X J hp ht fun b => ?_)
  obtain ⟨cd, hc, hd'⟩ := PySem.W.any_some hh
  have hx : s.heap.get? x = some ⟨.ref C, some dx, .plain, #[]⟩ := I.obj
  refine wpAny_bind (wpAny_pure (wpAny_bind (wpAny_bind (wpAny_loadPart hx (wpAny_bind (PySem.W.Looks.here (s := { s with toks := s.toks + 1 }) (PySem.W.looks_clsIn X hc) ?_))))))
  rw [hd']
  refine wpAny_pure (a := some dx) (wpAny_bind (wpAny_pure (wpAny_bind ?_)))
  refine wpAny_nsSet1 (s := { s with toks := s.toks + 1 }) I.ns fun h' hn2 hs2 => ?_
  obtain ⟨oD, esD, epD, hoD, hdD, hcD⟩ := hn2.count (PySem.Within.cons name v hw)
  refine wpAny_bind (wpAny_lookBehind hoD (by rw [hdD]; exact pastItsLine_dict (Nat.le_trans hcD (by rw [List.length_cons]; omega))) ?_)
  exact wpAny_pure (h _ ⟨(hs2.2 _ (Ne.symm I.ne)).trans I.obj, hn2, I.ne⟩ hs2)

/-- C(..): the dict at the heap's end, the instance behind it; then its __init__ -/
theorem make_map {R : Result → Shared → Prop} {vs : List Value} {kw : List (Str × Value)} (X : K.In s.heap) (hm : PySem.W.makesIn K C = true)
    (hi : PySem.W.findIn K (.ref C) "__init__" = some (some (.ref f))) (hf : PySem.W.typeIn K (.ref f) = some (.type "function"))
    (h : codeAny (model prog w) (A.under (.builtin "type.__call__" ⟨.ref C :: vs, kw⟩)) (.call (.ref f) ⟨.ref (s.heap.objs.size + 1) :: vs, kw⟩) (PySem.W.InitBack (s.heap.objs.size + 1) R)
      { s with heap := (s.heap.push PySem.W.emptyDict).push (PySem.W.instObj C s.heap.objs.size) }) :
    codeAny (model prog w) A (.call (.ref C) ⟨vs, kw⟩) R s := by
  obtain ⟨hh, g, d, t, os⟩ := s
  exact PySem.W.make_core (PySem.W.makes_of X hm) (PySem.W.looks_findIn X hi) (fun self => PySem.W.bind_fn X self hf) (.inl rfl) h
end

/-! ### the attributes as a list of pairs -/
def putF (f : Str) (v : V) : List (Str × V) → List (Str × V)
  | [] => [(f, v)]
  | (g, x) :: r => if g = f then (g, v) :: r else (g, x) :: putF f v r
theorem lookup_putF (f g : Str) (v : V) : ∀ fs : List (Str × V), (putF f v fs).lookup g = if g = f then some v else fs.lookup g
  | [] => by
    show List.lookup g [(f, v)] = _
    by_cases h : g = f
    · have hb : (g == f) = true := beq_iff_eq.mpr h
      simp only [List.lookup, hb, if_pos h]
    · have hb : (g == f) = false := beq_eq_false_iff_ne.mpr h
      simp only [List.lookup, hb, if_neg h]
  | (k, x) :: r => by
    have ih := lookup_putF f g v r
    rw [show putF f v ((k, x) :: r) = (if k = f then (k, v) :: r else (k, x) :: putF f v r) from rfl]
    by_cases hk : k = f
    · rw [if_pos hk]
      by_cases h : g = k
      · have hb : (g == k) = true := beq_iff_eq.mpr h
        simp only [List.lookup, hb, if_pos (h.trans hk)]
      · have hb : (g == k) = false := beq_eq_false_iff_ne.mpr h
        simp only [List.lookup, hb, if_neg (fun e : g = f => h (e.trans hk.symm))]
    · rw [if_neg hk]
      by_cases h : g = k
      · have hb : (g == k) = true := beq_iff_eq.mpr h
        simp only [List.lookup, hb, if_neg (fun e : g = f => hk (h.symm.trans e))]
      · have hb : (g == k) = false := beq_eq_false_iff_ne.mpr h
        simp only [List.lookup, hb]
        exact ih
theorem keys_putF (f : Str) (v : V) : ∀ fs : List (Str × V), f ∈ (putF f v fs).map (·.1) ∧ ∀ g, g ∈ fs.map (·.1) → g ∈ (putF f v fs).map (·.1)
  | [] => ⟨by simp [putF], fun g h => by simp at h⟩
  | (k, x) :: r => by
    obtain ⟨i1, i2⟩ := keys_putF f v r
    rw [show putF f v ((k, x) :: r) = (if k = f then (k, v) :: r else (k, x) :: putF f v r) from rfl]
    by_cases hk : k = f
    · rw [if_pos hk]
      subst hk
      exact ⟨by simp, fun g h => by simpa using h⟩
    · rw [if_neg hk]
      refine ⟨?_, fun g h => ?_⟩
      · rw [List.map_cons]
        exact List.mem_cons_of_mem _ i1
      · rw [List.map_cons] at h ⊢
        rcases List.mem_cons.mp h with e | e
        · exact List.mem_cons.mpr (.inl e)
        · exact List.mem_cons_of_mem _ (i2 g e)
theorem length_putF (f : Str) (v : V) : ∀ fs : List (Str × V), (putF f v fs).length ≤ fs.length + 1
  | [] => by simp [putF]
  | (k, x) :: r => by
    have ih := length_putF f v r
    rw [show putF f v ((k, x) :: r) = (if k = f then (k, v) :: r else (k, x) :: putF f v r) from rfl]
    by_cases hk : k = f
    · rw [if_pos hk, List.length_cons, List.length_cons]; omega
    · rw [if_neg hk, List.length_cons, List.length_cons]; omega

theorem RelO.some_of {v : V} {o : Option Value} (r : RelO (some v) o) : ∃ u, o = some u ∧ RelV v u := by
  cases o with
  | none => exact (show False from r).elim
  | some u => exact ⟨u, rfl, r⟩
theorem RelO.none_of {o : Option Value} (r : RelO none o) : o = none := by
  cases o with
  | none => rfl
  | some u => exact (show False from r).elim
theorem handed_of {v : V} {u : Value} (r : RelV v u) : PySem.W.handedIn u = true := by
  cases v with
  | non => cases (show u = Value.none from r); rfl
  | bl b => cases (show u = Value.bool b from r); rfl
  | int i => obtain ⟨t, e⟩ := (show ∃ t, u = Value.int i t from r); cases e; rfl
  | str x => obtain ⟨t, e⟩ := (show ∃ t, u = Value.str x t from r); cases e; rfl
  | byt b => obtain ⟨t, e⟩ := (show ∃ t, u = Value.bytes b t from r); cases e; rfl
  | flt b => obtain ⟨t, e⟩ := (show ∃ t, u = Value.float b t from r); cases e; rfl
  | ref a => cases (show u = Value.ref a from r); rfl
  | ty n => cases (show u = Value.type n from r); rfl

section
variable {P : Program} {w : World} {H H' : Hp} {h h' : Heap} {a C dx : Addr} {fs fs' : List (Str × V)}
theorem ins_get (hok : HOk P w H h) (e : H a = some (.ins C dx fs)) : ∃ mA, ObjM h a dx C mA ∧ (∀ f, RelO (fs.lookup f) (mA f)) ∧ PySem.Within mA (fs.map (·.1)) ∧ fs.length ≤ 1000 ∧ H dx = some (.own a) := by
  obtain ⟨d, z, ne, ob, mA, n, r, q⟩ := (show ObjOk P w H h a (.ins C dx fs) from hok a _ e)
  exact ⟨mA, ⟨ob, n, ne⟩, r, q, z, d⟩
end

/-! ### what of the text a class must have -/
structure Cls (K : PySem.W.Frag) (C : Addr) : Prop where
  pg : PySem.W.plainGet K C Str.empty = true
  hd : PySem.W.hasDictIn K C = true
  po : PySem.W.plainOver K C = true
  sa : PySem.W.findIn K (.ref C) "__setattr__" = some (some (.builtin "object.__setattr__"))
theorem Cls.get {K : PySem.W.Frag} {C : Addr} (c : Cls K C) (f : Str) : PySem.W.plainGet K C f = true := c.pg
/-- no class of it has the name -/
def NoAttr (K : PySem.W.Frag) (C : Addr) (f : Str) : Prop := PySem.W.findIn K (.ref C) f = some none
theorem NoAttr.taker {K : PySem.W.Frag} {C : Addr} {f : Str} (n : NoAttr K C f) : PySem.W.takerIn K C f = some none := by
  unfold PySem.W.takerIn
  rw [show PySem.W.findIn K (.ref C) f = some none from n]
  rfl
/-- a constant of the class -/
structure Con (K : PySem.W.Frag) (C : Addr) (f : Str) (v : V) (u : Value) : Prop where
  at_ : PySem.W.findIn K (.ref C) f = some (some u)
  rel : RelV v u
  get : PySem.W.specialIn K u "__get__" = some none
  cp : PySem.W.copiedNames.contains f = false
/-- a method: a plain def of the class or of one above it -/
structure Meth (K : PySem.W.Frag) (C : Addr) (m : Str) (f : Addr) : Prop where
  at_ : PySem.W.findIn K (.ref C) m = some (some (.ref f))
  fn : PySem.W.isFn K (.ref f) = true
  kp : PySem.W.keepIn K (.ref f) = true

section
variable {X : Cx} {pins : List (Addr × Obj)} {σ : St} {H : Hp} {s : Shared} {a C dx : Addr} {fs : List (Str × V)} {f : Str} {v : V} {A : Around} {E : Value → Shared → Prop}

theorem getattr_ok {b : Bool} {Q : Value → Shared → Prop} (I : Inv X pins σ H s) (e : H a = some (.ins C dx fs)) (c : Cls X.K C) (n : NoAttr X.K C f) (l : fs.lookup f = some v)
    (h : ∀ u s', Inv X pins σ H s' → RelV v u → Q u s') : wpAny (model X.prog X.w) A (getAttr (.ref a) f b) Q E s := by
  obtain ⟨mA, O, r, _, _, _⟩ := ins_get I.hok e
  obtain ⟨u, hu, ru⟩ := RelO.some_of (v := v) (o := mA f) (by rw [← l]; exact r f)
  exact get_map I.kIn O (c.get f) c.hd n hu (handed_of ru) (h u _ (I.tok _) ru)

theorem getmeth_ok {m : Str} {g : Addr} {pl : Sem Bool} {Q : Value × List Value → Shared → Prop} (I : Inv X pins σ H s) (e : H a = some (.ins C dx fs)) (c : Cls X.K C) (k : Meth X.K C m g) (l : fs.lookup m = none)
    (h : Q (.ref g, [.ref a]) s) : wpAny (model X.prog X.w) A (getMethod (.ref a) m pl) Q E s := by
  obtain ⟨mA, O, r, _, _, _⟩ := ins_get I.hok e
  have hn : mA m = none := RelO.none_of (by rw [← l]; exact r m)
  exact get_meth I.kIn O (c.get m) k.at_ k.fn hn h

theorem setattr_ok {y : V} {u : Value} {Q : Unit → Shared → Prop} (I : Inv X pins σ H s) (e : H a = some (.ins C dx fs)) (c : Cls X.K C) (n : NoAttr X.K C f) (hl : fs.length < 1000) (ry : RelV y u)
    (h : ∀ s', Inv X pins σ (upd H a (.ins C dx (putF f y fs))) s' → Q () s') : wpAny (model X.prog X.w) A (setAttr (.ref a) f u) Q E s := by
  obtain ⟨mA, O, r, wi, _, ho⟩ := ins_get I.hok e
  have hz : (fs.map (·.1)).length ≤ sizeLine := by rw [List.length_map, sizeLine_eq]; omega
  refine set_map I.kIn O c.sa c.po n.taker c.hd wi hz fun h' O' sb => h _ ?_
  have hd : ∃ o, h'.get? dx = some o := let ⟨o, _, _, e', _⟩ := O'.ns; ⟨o, e'⟩
  refine I.write (x := a) (e := dx) (by rw [e]; exact True.intro) (.inr ho) (fun b q hb z => (sb.2 b hb).trans z) hd ?_
  refine ⟨by rw [upd_ne O.ne]; exact ho, ?_, O.ne, O'.obj, _, O'.ns, fun g => ?_, fun g hg => ?_⟩
  · have := length_putF f y fs; omega
  · show RelO ((putF f y fs).lookup g) (if g = f then some u else mA g)
    rw [lookup_putF]
    by_cases q : g = f
    · rw [if_pos q, if_pos q]; exact ry
    · rw [if_neg q, if_neg q]; exact r g
  · by_cases q : g = f
    · rw [q]; exact (keys_putF f y fs).1
    · refine (keys_putF f y fs).2 g (wi g fun z => hg ?_)
      show (if g = f then some u else mA g) = none
      rw [if_neg q]; exact z

/-- a new instance, tracked, without attributes -/
theorem Inv.made (I : Inv X pins σ H s) : Inv X pins σ (upd (upd H s.heap.objs.size (.own (s.heap.objs.size + 1))) (s.heap.objs.size + 1) (.ins C s.heap.objs.size []))
    { s with heap := (s.heap.push PySem.W.emptyDict).push (PySem.W.instObj C s.heap.objs.size) } := by
  have e1 : (s.heap.push PySem.W.emptyDict).get? s.heap.objs.size = some PySem.W.emptyDict := Heap.get?_push_size s.heap rfl
  have e2 : ((s.heap.push PySem.W.emptyDict).push (PySem.W.instObj C s.heap.objs.size)).get? (s.heap.objs.size + 1) = some (PySem.W.instObj C s.heap.objs.size) := by
    have := Heap.get?_push_size (s.heap.push PySem.W.emptyDict) (o := PySem.W.instObj C s.heap.objs.size) rfl
    rwa [Heap.size_push] at this
  have e3 : (s.heap.push PySem.W.emptyDict).Ns s.heap.objs.size (fun _ => none) := ⟨PySem.W.emptyDict, #[], _, e1, rfl, (fun e he => absurd he (by simp)), fun _ => rfl⟩
  have I1 := I.laid (a := s.heap.objs.size) (o := .own (s.heap.objs.size + 1)) (h' := s.heap.push PySem.W.emptyDict) (t' := s.toks) (fun b u q => Heap.get?_push_of_some _ q) (Nat.le_refl _) ⟨_, e1⟩
  refine I1.laid (a := s.heap.objs.size + 1) (o := .ins C s.heap.objs.size []) (t' := s.toks) (fun b u q => Heap.get?_push_of_some _ q) (Nat.le_of_eq (Heap.size_push _ _)) ?_
  have ne : s.heap.objs.size ≠ s.heap.objs.size + 1 := Nat.ne_of_lt (Nat.lt_succ_self _)
  refine ⟨by rw [upd_ne ne, upd_same], Nat.zero_le _, ne, e2, fun _ => none, (Heap.Ns1.of_empty e3).at fun o q => Heap.get?_push_of_some _ q, fun _ => True.intro, fun y hy => absurd rfl hy⟩

/-- e.f where nothing but the object is asked: through attributeBase (super) and the last hold -/
theorem attr_of {prog : Program} {w : World} {env : Env} {e : Expr} {f : Str} {pos : Pos} {s : Shared} {Q : Value → Shared → Prop} (hb : attributeBase e f env (eval e env) = eval e env)
    (h : wpAny (model prog w) A (eval e env) (fun o s₁ => wpAny (model prog w) A (getAttr o f true) Q E s₁) E s) : wpAny (model prog w) A (eval (.Attribute e f pos) env) Q E s :=
  Attribute_any_ h (by rw [arm_eval_Attribute, hb])
end

/-! ### readings and rules -/
/-- e.f, an attribute of the instance -/
def tFld (K : PySem.W.Frag) (ta : TE) (f : Str) : TE := fun σ H Q => ta σ H fun x H1 => ∃ a C dx fs v, x = .ref a ∧ H1 a = some (.ins C dx fs) ∧ Cls K C ∧ NoAttr K C f ∧ fs.lookup f = some v ∧ Q v H1
/-- e.f, a constant of the class -/
def tCon (K : PySem.W.Frag) (ta : TE) (f : Str) : TE := fun σ H Q => ta σ H fun x H1 => ∃ a C dx fs v u, x = .ref a ∧ H1 a = some (.ins C dx fs) ∧ Cls K C ∧ Con K C f v u ∧ fs.lookup f = none ∧ Q v H1
/-- e.f = value -/
def sFld (K : PySem.W.Frag) (ta tv : TE) (f : Str) : TS := fun D σ H => tv σ H fun y H1 => ta σ H1 fun x H2 => ∃ a C dx fs, x = .ref a ∧ H2 a = some (.ins C dx fs) ∧ Cls K C ∧ NoAttr K C f ∧ fs.length < 1000 ∧
  D.nx σ (upd H2 a (.ins C dx (putF f y fs)))
/-- an augmented operator on two values -/
def InOp (X : Cx) (op : Operator) (rd : V → V → Hp → VK → Prop) : Prop :=
  ∀ (pins : List (Addr × Obj)) (s : Shared) (σ : St) (H : Hp) (x y : V) (u v : Value) (Q : VK), Inv X pins σ H s → RelV x u → RelV y v → rd x y H Q → wpAny (model X.prog X.w) X.A (inplaceOp op u v) (EP X pins σ Q) X.xe s
/-- e.f op= value -/
def sFldAug (K : PySem.W.Frag) (ta tv : TE) (rd : V → V → Hp → VK → Prop) (f : Str) : TS := fun D σ H => ta σ H fun x H1 => ∃ a C dx fs v, x = .ref a ∧ H1 a = some (.ins C dx fs) ∧ Cls K C ∧ NoAttr K C f ∧ fs.lookup f = some v ∧
  tv σ H1 fun y H2 => rd v y H2 fun z H3 => ∃ dx' fs', H3 a = some (.ins C dx' fs') ∧ fs'.length < 1000 ∧ D.nx σ (upd H3 a (.ins C dx' (putF f z fs')))

section
variable {X : Cx} {o e value : Expr} {f : Str} {pos pos' tpos : Pos} {ta tv : TE}
theorem pe_fld (he : PE X e ta) (hb : attributeBase e f X.env (eval e X.env) = eval e X.env) : PE X (.Attribute e f pos) (tFld X.K ta f) := by
  intro pins s σ H Q I h
  refine attr_of hb (thn (he pins s σ H _ I h) fun u s1 ⟨x, H1, I1, rx, a, C, dx, fs, v, ex, ea, c, n, l, q⟩ => ?_)
  subst ex
  obtain rfl : u = Value.ref a := rx
  exact getattr_ok I1 ea c n l fun u' s2 I2 ru => ⟨v, H1, I2, ru, q⟩
theorem ps_fld (ha : PE X o ta) (hv : PE X value tv) (hs : swapsWith value (some (.Attribute o f pos')) pos.line X.env = pure false) : PS X (.Assign [.Attribute o f pos'] value pos) (sFld X.K ta tv f) := by
  intro pins s σ H D I h
  refine plainObj_wpAny_Assign_Attribute (thn (hv pins s σ H _ I h) fun u s1 ⟨y, H1, I1, ry, q⟩ => thn (ha pins s1 σ H1 _ I1 q) fun ov s2 ⟨x, H2, I2, rx, a, C, dx, fs, ex, ea, c, n, l, q2⟩ => ?_) hs
  subst ex
  obtain rfl : ov = Value.ref a := rx
  exact setattr_ok I2 ea c n l ry fun s3 I3 => ⟨σ, _, I3, q2⟩
def rAdd : V → V → Hp → VK → Prop := fun x y H Q => ∃ i j, x = .int i ∧ y = .int j ∧ Q (.int (i + j)) H
def rSub : V → V → Hp → VK → Prop := fun x y H Q => ∃ i j, x = .int i ∧ y = .int j ∧ Q (.int (i - j)) H
/-- what is between an instance and its method: the tree of a method call -/
theorem methcall_of {pl : Sem Bool} {m : Str} {apos : Pos} {args : List Expr} {pins : List (Addr × Obj)} {s : Shared} {σ : St} {H : Hp} {Q : Value → Shared → Prop} {te : TE} (he : PE X e te) (I : Inv X pins σ H s)
    (h : te σ H fun x H1 => ∃ a C dx fs g, x = .ref a ∧ H1 a = some (.ins C dx fs) ∧ Cls X.K C ∧ Meth X.K C m g ∧ fs.lookup m = none ∧
      ∀ s1, Inv X pins σ H1 s1 → wpAny (model X.prog X.w) X.A (callWith pos (.ref g) [.ref a] (backTo pos (starEach args X.env)) (backToKw pos (keywordEach [] X.env))) Q X.xe s1)
    (ht : eval (.Call (.Attribute e m apos) args [] pos) X.env = (do
      let ov ← eval e X.env
      standAt apos.atName
      let (f, first) ← holding [ov] (getMethod ov m pl)
      callWith pos f first (backTo pos (starEach args X.env)) (backToKw pos (keywordEach [] X.env)))) :
    wpAny (model X.prog X.w) X.A (eval (.Call (.Attribute e m apos) args [] pos) X.env) Q X.xe s := by
  refine PySem.W.methodCall_KW (pl := pl) (thn (he pins s σ H _ I h) fun u s1 ⟨x, H1, I1, rx, a, C, dx, fs, g, ex, ea, c, k, l, q⟩ => ?_) ht
  subst ex
  obtain rfl : u = Value.ref a := rx
  exact getmeth_ok I1 ea c k l (q s1 I1)
end

/-! ### isinstance -/
section
variable {X : Cx} {pins : List (Addr × Obj)} {σ : St} {H : Hp} {s : Shared} {A : Around} {E : Value → Shared → Prop} {Q : Value → Shared → Prop} {c : Value} {b : Bool}
/-- the type of a value, as the fragment's deciders take it; for an instance its class -/
inductive TyOf (K : PySem.W.Frag) (H : Hp) : V → Value → Prop where
  | non : TyOf K H .non (.type "NoneType")
  | bl (x : Bool) : TyOf K H (.bl x) (.type "bool")
  | int (i : Int) : TyOf K H (.int i) (.type "int")
  | str (x : Str) : TyOf K H (.str x) (.type "str")
  | flt (x : UInt64) : TyOf K H (.flt x) (.type "float")
  | lst {a : Addr} {xs : List V} (e : H a = some (.lst xs)) : TyOf K H (.ref a) (.type "list")
  | frz {a : Addr} {o : Obj} {xs : List V} (e : H a = some (.frz o (.lst xs))) : TyOf K H (.ref a) (.type "list")
  | tup {a : Addr} {xs : List V} (e : H a = some (.tup xs)) : TyOf K H (.ref a) (.type "tuple")
  | dK {a : Addr} {kvs : List (Key × V)} (e : H a = some (.dK kvs)) : TyOf K H (.ref a) (.type "dict")
  | dT {a : Addr} {kvs : List (List Key × V)} (e : H a = some (.dT kvs)) : TyOf K H (.ref a) (.type "dict")
  | ins {a C dx : Addr} {fs : List (Str × V)} (e : H a = some (.ins C dx fs)) (cl : Cls K C) (ha : PySem.W.findIn K (.ref C) "__class__" = some (some (.builtin "object.__class__")))
      (hn : PySem.W.specialIn K (.builtin "object.__class__") "__get__" = some (some (.builtin "getset_descriptor.__get__"))) (htk : PySem.W.takesIn K (.builtin "object.__class__") = some true)
      (hm : PySem.W.mroIn K C (.type "object") = some true) : TyOf K H (.ref a) (.ref C)
/-- isinstance(x, c) for one class c, a built-in or an own one: kitOne's answer -/
theorem isinst_ok {x : V} {u t : Value} (I : Inv X pins σ H s) (rx : RelV x u) (ty : TyOf X.K H x t) (e : PySem.W.kitOne X.K t c = some b) (h : ∀ tk, Q (.bool b) { s with toks := tk }) :
    wpAny (model X.prog X.w) A (call (.builtin "isinstance") [u, c]) Q E s := by
  cases ty with
  | non => cases (show u = Value.none from rx); exact PySem.W.kia_one PySem.W.kitx_none I.kIn True.intro e (fun z => nomatch z) h
  | bl y => cases (show u = Value.bool y from rx); exact PySem.W.kia_one PySem.W.kitx_bool I.kIn True.intro e (fun z => nomatch z) h
  | int i => obtain ⟨t, q⟩ := (show ∃ t, u = Value.int i t from rx); cases q; exact PySem.W.kia_one PySem.W.kitx_int I.kIn True.intro e (fun z => nomatch z) h
  | str y => obtain ⟨t, q⟩ := (show ∃ t, u = Value.str y t from rx); cases q; exact PySem.W.kia_one PySem.W.kitx_str I.kIn True.intro e (fun z => nomatch z) h
  | flt y => obtain ⟨t, q⟩ := (show ∃ t, u = Value.float y t from rx); cases q; exact PySem.W.kia_one PySem.W.kitx_float I.kIn True.intro e (fun z => nomatch z) h
  | @lst a xs ea =>
    cases (show u = Value.ref a from rx)
    obtain ⟨_, _, n, _, h1⟩ := (show ObjOk X.prog X.w H s.heap a (.lst xs) from I.hok a _ ea)
    exact PySem.W.kia_one PySem.W.kitx_list I.kIn ⟨_, h1, rfl⟩ e (fun z => nomatch z) h
  | @frz a ob xs ea =>
    cases (show u = Value.ref a from rx)
    obtain ⟨_, _, _, n, _, h1⟩ := (show ObjOk X.prog X.w H s.heap a (.frz ob (.lst xs)) from I.hok a _ ea)
    exact PySem.W.kia_one PySem.W.kitx_list I.kIn ⟨_, h1, rfl⟩ e (fun z => nomatch z) h
  | @tup a xs ea =>
    cases (show u = Value.ref a from rx)
    obtain ⟨_, _, _, p⟩ := (show ObjOk X.prog X.w H s.heap a (.tup xs) from I.hok a _ ea)
    obtain ⟨o, h1, h2, _⟩ := p
    exact PySem.W.kia_one PySem.W.kitx_tuple I.kIn ⟨o, h1, h2⟩ e (fun z => nomatch z) h
  | @dK a kvs ea =>
    cases (show u = Value.ref a from rx)
    obtain ⟨_, _, vs, _, p⟩ := (show ObjOk X.prog X.w H s.heap a (.dK kvs) from I.hok a _ ea)
    obtain ⟨o, es, ep, h1, h2, _⟩ := p
    exact PySem.W.kia_one PySem.W.kitx_dict I.kIn ⟨o, h1, h2.1⟩ e (fun z => nomatch z) h
  | @dT a kvs ea =>
    cases (show u = Value.ref a from rx)
    obtain ⟨_, _, xs, _, o, es, ep, h1, h2, _⟩ := (show ObjOk X.prog X.w H s.heap a (.dT kvs) from I.hok a _ ea)
    exact PySem.W.kia_one PySem.W.kitx_dict I.kIn ⟨o, h1, h2.1⟩ e (fun z => nomatch z) h
  | @ins a C dx fs ea cl ha hn htk hm =>
    cases (show u = Value.ref a from rx)
    obtain ⟨mA, O, _⟩ := ins_get I.hok ea
    obtain ⟨od, J, _⟩ := O.look
    exact PySem.W.kia_one (PySem.W.kitx_own (cl.get _) cl.hd ha hn htk hm) I.kIn J e (fun z => nomatch z) h
end
end L2

namespace L2
open PySem PySem.Spec PyProof.Rows

/-! ### room -/
structure Room (k : Nat) (A : Around) : Prop where
  hd : A.handled = none
  dp : A.depth + 3 * k + 5 < recursionLimit
  un : A.units + 16 * k + 200 < cLine
theorem Room.mono {j k : Nat} {A : Around} (r : Room k A) (h : j ≤ k) : Room j A := ⟨r.hd, by have := r.dp; omega, by have := r.un; omega⟩
theorem Room.deeper {k : Nat} {A : Around} (r : Room (k + 1) A) (env : Env) : Room k (A.deeper env) :=
  ⟨r.hd, by have := r.dp; show A.depth + 1 + 3 * k + 5 < _; omega, by have := r.un; show A.units + 3 + 16 * k + 200 < _; omega⟩
theorem make_depth {A : Around} {C : Addr} {us : List Value} {kw : List (Str × Value)} : (A.under (.builtin "type.__call__" ⟨.ref C :: us, kw⟩)).depth = A.depth + 1 := by
  first | rfl | simp [Around.under, Code.weight, Code.isCreation, Code.isGuard, Code.isCaller, Code.frames, Code.isFrame, guardIds]
theorem make_units {A : Around} {C : Addr} {us : List Value} {kw : List (Str × Value)} : (A.under (.builtin "type.__call__" ⟨.ref C :: us, kw⟩)).units = A.units + 1 := by
  first | rfl | simp [Around.under, Code.cUnits, Code.frames, Code.isFrame]
theorem Room.make {k : Nat} {A : Around} (r : Room (k + 1) A) (C : Addr) (us : List Value) (kw : List (Str × Value)) : Room k (A.under (.builtin "type.__call__" ⟨.ref C :: us, kw⟩)) :=
  ⟨r.hd, by have := r.dp; rw [make_depth]; omega, by have := r.un; rw [make_units]; omega⟩
theorem Room.depth {k : Nat} {A : Around} (r : Room k A) : A.depth < recursionLimit := by have := r.dp; omega
theorem Room.units {k : Nat} {A : Around} (r : Room k A) : A.units + 64 < cLine := by have := r.un; omega
/-! ### argument lists and displays -/
def tNil : TA := fun _ H Q => Q [] H
def tCons (ta : TE) (tr : TA) : TA := fun σ H Q => ta σ H fun x H1 => tr σ H1 fun xs H2 => Q (x :: xs) H2
section
variable {X : Cx} {e : Expr} {es : List Expr} {te : TE} {t : TA} {pos : Pos}
theorem pa_nil : PA X [] tNil := fun _ _ _ _ H Q I h => Calls.spliced_nil ⟨[], H, I, .nil, h⟩
theorem pa_cons (ha : PE X e te) (hr : PA X es t) (hs : starEach (e :: es) X.env = (false, eval e X.env) :: starEach es X.env := by rfl) : PA X (e :: es) (tCons te t) := by
  intro pos pins s σ H Q I h
  rw [hs]
  show wpAny _ _ (spliced ((false, eval e X.env) :: backTo pos (starEach es X.env))) _ _ s
  refine Calls.spliced_cons (thn (ha pins s σ H _ I h) fun u s1 ⟨x, H1, I1, r1, q1⟩ => ?_)
  exact thn (hr pos pins s1 σ H1 _ I1 q1) fun us s2 ⟨xs, H2, I2, r2, q2⟩ => ⟨x :: xs, H2, I2, .cons r1 r2, q2⟩

/-- a tuple, a list of written items -/
def tTup (t : TA) : TE := fun σ H Q => t σ H fun xs H1 => xs.length ≤ sizeLine ∧ ∀ p, H1 p = none → Q (.ref p) (upd H1 p (.tup xs))
def tLst (t : TA) : TE := fun σ H Q => t σ H fun xs H1 => xs.length ≤ sizeLine ∧ ∀ p, H1 p = none → Q (.ref p) (upd H1 p (.lst xs))
theorem pe_tup {x1} (h : PA X es t) : PE X (.Tuple es x1 pos) (tTup t) := by
  intro pins s σ H Q I hq
  refine wpAny_Tuple_spliced (thn (h pos pins s σ H _ I hq) fun us s1 ⟨xs, H1, I1, r, z, q⟩ => ⟨by rw [← r.length]; exact z, ?_⟩)
  have hf : H1 s1.heap.objs.size = none := I1.hok.fresh (Nat.le_refl _)
  refine ⟨.ref s1.heap.objs.size, upd H1 s1.heap.objs.size (.tup xs), I1.laid (t' := s1.toks) (fun b u e => Heap.get?_push_of_some _ e) (Nat.le_refl _) ?_, rfl, q _ hf⟩
  exact ⟨z, us, r, ⟨_, Heap.get?_push_size _ rfl, rfl, _, rfl⟩⟩
theorem pe_lst (h : PA X es t) : PE X (.List es pos) (tLst t) := by
  intro pins s σ H Q I hq
  refine wpAny_List_spliced (thn (h pos pins s σ H _ I hq) fun us s1 ⟨xs, H1, I1, r, z, q⟩ => ⟨by rw [← r.length]; exact z, ?_⟩)
  have hf : H1 s1.heap.objs.size = none := I1.hok.fresh (Nat.le_refl _)
  refine ⟨.ref s1.heap.objs.size, upd H1 s1.heap.objs.size (.lst xs), I1.laid (t' := s1.toks) (fun b u e => Heap.get?_push_of_some _ e) (Nat.le_refl _) ?_, rfl, q _ hf⟩
  exact ⟨z, us, 0, r, Heap.get?_push_size _ rfl⟩
end

/-! ### what a def promises -/
/-- a def's promise: the bound arguments in the parameters' order, the heap, the wanted end, the wanted exception -/
abbrev Sp := List V → Hp → VK → XK → Prop
/-- how an exception lies behind a call (file 08 gives it): the callers' frames, abstract heap and state ahead of the call, the wish, the exception, the state -/
abbrev CXT := List Env → Hp → Shared → XK → Value → Shared → Prop

/-- the state at a call -/
structure Env0 (P : Program) (w : World) (K : PySem.W.Frag) (mg : Str → Option Value) (base : Heap) (A : Around) (outer : List Env) (s : Shared) (H : Hp) : Prop where
  frames : A.frames = some outer
  mod : Mod K mg base
  bs : ∀ b o, base.get? b = some o → s.heap.get? b = some o ∧ H b = none
  bsz : base.objs.size ≤ s.heap.objs.size
  funs : s.heap.FunFrames base outer
  frf : ∀ b ∈ frs outer, H b = none
  hok : HOk P w H s.heap
  bare : AllBare s.gens
/-- a call's end -/
def CE (outer : List Env) (P : Program) (w : World) (H : Hp) (s : Shared) (Q : VK) (u : Value) (s' : Shared) : Prop :=
  ∃ v H', s'.os = s.os ∧ AllBare s'.gens ∧ Un (frs outer) [] H H' s.heap s'.heap ∧ HOk P w H' s'.heap ∧ RelV v u ∧ Q v H'
def CR (CX : CXT) (outer : List Env) (P : Program) (w : World) (H : Hp) (s : Shared) (Q : VK) (E : XK) (r : Result) (s' : Shared) : Prop :=
  match r with
  | .ok (.ret u) => CE outer P w H s Q u s'
  | .ok _ => False
  | .error e => CX outer H s E e s'
structure FnOk (P : Program) (w : World) (K : PySem.W.Frag) (mg : Str → Option Value) (base : Heap) (CX : CXT) (k : Nat) (f : Addr) (fd : FuncData) (ps : List Str) (sp : Sp) : Prop where
  len : ∀ vs H Q E, sp vs H Q E → vs.length = ps.length
  run : ∀ (A : Around) (outer : List Env) (s : Shared) (H : Hp) (args : Args) (us : List Value) (vs : List V) (Q : VK) (E : XK), Room k A → Env0 P w K mg base A outer s H → BindsTo s fd args (ps.zip us) → Vals vs us → sp vs H Q E →
    codeAny (model P w) A (.call (.ref f) args) (CR CX outer P w H s Q E) s
theorem FnOk.mono {P : Program} {w : World} {K : PySem.W.Frag} {mg : Str → Option Value} {base : Heap} {CX : CXT} {j k : Nat} {f : Addr} {fd : FuncData} {ps : List Str} {sp : Sp} (F : FnOk P w K mg base CX j f fd ps sp) (h : j ≤ k) :
    FnOk P w K mg base CX k f fd ps sp := ⟨F.len, fun A outer s H args us vs Q E hr => F.run A outer s H args us vs Q E (hr.mono h)⟩
theorem Env0.make {P : Program} {w : World} {K : PySem.W.Frag} {mg : Str → Option Value} {base : Heap} {A : Around} {outer : List Env} {s : Shared} {H : Hp} (e : Env0 P w K mg base A outer s H) (C : Addr) (us : List Value) (kw : List (Str × Value)) :
    Env0 P w K mg base (A.under (.builtin "type.__call__" ⟨.ref C :: us, kw⟩)) outer s H := ⟨by first | exact e.frames | (simpa [Around.under, Code.envs, Code.isFrame, pushEnvs] using e.frames), e.mod, e.bs, e.bsz, e.funs, e.frf, e.hok, e.bare⟩
section
variable {X : Cx} {pins : List (Addr × Obj)} {σ : St} {H : Hp} {s s' : Shared}
/-- from a body: what a callee wants -/
theorem Inv.env0 (I : Inv X pins σ H s) : Env0 X.prog X.w X.K X.mg X.base X.A X.stack s H :=
  ⟨I.ok.frames, I.ok.mod, I.bs, Nat.le_trans I.ok.bsz I.sz, I.stack, I.stkFree, I.hok, I.bare⟩
/-- behind a call -/
theorem Inv.after {Q : VK} {u : Value} (I : Inv X pins σ H s) (h : CE X.stack X.prog X.w H s Q u s') : EP X pins σ Q u s' := by
  obtain ⟨v, H', os, bare, un, hok, r, q⟩ := h
  obtain ⟨hh, g, d, t, os'⟩ := s'
  obtain rfl : os' = s.os := os
  exact ⟨v, H', I.call (h' := hh) (g' := g) (d' := d) (t' := t) (ch := []) un hok bare (fun b z => absurd z (by simp)), r, q⟩
end

/-! ### calls -/
/-- f(..): the written arguments, then the defaults dvs; E: what is wanted of an exception -/
def tCall (sp : Sp) (dvs : List V) (E : XK) (t : TA) : TE := fun σ H Q => t σ H fun vs H1 => sp (vs ++ dvs) H1 Q E
/-- o.m(..) of an instance of the class at C -/
def tMeth (C : Addr) (m : Str) (sp : Sp) (dvs : List V) (E : XK) (ta : TE) (t : TA) : TE := fun σ H Q => ta σ H fun x H1 => ∃ a dx fs, x = .ref a ∧ H1 a = some (.ins C dx fs) ∧ fs.lookup m = none ∧
  t σ H1 fun vs H2 => sp (x :: (vs ++ dvs)) H2 Q E
/-- C(..): a new instance and its dict, then __init__ -/
def tMake (C : Addr) (sp : Sp) (dvs : List V) (E : XK) (t : TA) : TE := fun σ H Q => t σ H fun vs H1 => ∀ x dx, H1 x = none → H1 dx = none → dx ≠ x →
  sp (.ref x :: (vs ++ dvs)) (upd (upd H1 dx (.own x)) x (.ins C dx [])) (fun v H2 => v = .non ∧ Q (.ref x) H2) E

/-- how the parameters are bound: us the positional arguments, kw the keywords' values by name, ds the defaults that fill up -/
def Binds (K : PySem.W.Frag) (fd : FuncData) (ps : List Str) (ds : List Value) : Prop :=
  ∀ (s : Shared) (us : List Value), K.In s.heap → (us ++ ds).length = ps.length → BindsTo s fd ⟨us, []⟩ (ps.zip (us ++ ds))
/-- every parameter is given -/
theorem Binds.all {K : PySem.W.Frag} {fd : FuncData} {ps : List Str} (h : ∀ us : List Value, us.length = ps.length → bindArgs fd ⟨us, []⟩ = pure (ps.zip us)) : Binds K fd ps [] := fun s us _ hl => by
  rw [List.append_nil] at hl ⊢
  exact .of_eq (h us hl)

/-- an exception of a callee reaches what this body wants of exceptions -/
def Passes (CX : CXT) (X : Cx) (E : XK) : Prop := ∀ (pins : List (Addr × Obj)) (σ : St) (H : Hp) (s : Shared) (e : Value) (s' : Shared), Inv X pins σ H s → CX X.stack H s E e s' → X.xe e s'

section
variable {X : Cx} {CX : CXT} {k : Nat} {f C : Addr} {fd : FuncData} {ps : List Str} {sp : Sp} {dvs : List V} {ds : List Value} {E : XK} {x m : Str} {p pos apos : Pos} {e o : Expr} {es : List Expr} {ta : TE} {t : TA}

/-- the callee runs -/
theorem run_fn {pins : List (Addr × Obj)} {σ : St} {H : Hp} {s : Shared} {Q : VK} {us : List Value} {vs : List V} (F : FnOk X.prog X.w X.K X.mg X.base CX k f fd ps sp) (hr : Room k X.A) (hb : Binds X.K fd ps ds) (hd : Vals dvs ds) (hx : Passes CX X E)
    (I : Inv X pins σ H s) (r : Vals vs us) (h : sp (vs ++ dvs) H Q E) : wpAny (model X.prog X.w) X.A (call (.ref f) us) (EP X pins σ Q) X.xe s := by
  have r2 : Vals (vs ++ dvs) (us ++ ds) := r.append hd
  have hl : (us ++ ds).length = ps.length := by rw [← r2.length]; exact F.len _ _ _ _ h
  refine wpAny_call (codeAny_mono (F.run X.A X.stack s H ⟨us, []⟩ (us ++ ds) (vs ++ dvs) Q E hr I.env0 (hb s us I.kIn hl) r2 h) fun r s' hq => ?_)
  cases r with
  | error e => exact hx pins σ H s e s' I hq
  | ok fl =>
    cases fl with
    | ret u => exact I.after hq
    | next => exact False.elim hq
    | brk => exact False.elim hq
    | cont => exact False.elim hq

theorem pe_call (F : FnOk X.prog X.w X.K X.mg X.base CX k f fd ps sp) (hr : Room k X.A) (hg : Gl X x) (hm : X.mg x = some (.ref f)) (hk : PySem.W.keepIn X.K (.ref f) = true) (hb : Binds X.K fd ps ds) (hd : Vals dvs ds) (hx : Passes CX X E)
    (ha : PA X (e :: es) t) (hdb : (x == ("__debug__" : Str)) = false := by decide) (he : starEach (e :: es) X.env = (false, eval e X.env) :: starEach es X.env := by rfl) (hpl : (backTo pos (starEach es X.env)).any (·.1) = false := by rfl) :
    PE X (.Call (.Name x p) (e :: es) [] pos) (tCall sp dvs E t) := by
  intro pins s σ H Q I h
  refine wpAny_Call_Name_kw (ld_glob I hg hm ?_ hdb)
  refine PySem.W.callWith_K (h₀ := X.base) I.ok.mod.kin hk (thn (ha pos pins s σ H _ I h) fun us s1 ⟨vs, H1, I1, r, q⟩ => ⟨I1.kIn, ?_⟩) he hpl
  exact run_fn F hr hb hd hx I1 r q
/-- what a class must have to be made -/
structure Mk (K : PySem.W.Frag) (C f : Addr) : Prop where
  makes : PySem.W.makesIn K C = true
  init : PySem.W.findIn K (.ref C) "__init__" = some (some (.ref f))
  fn : PySem.W.isFn K (.ref f) = true
  kp : PySem.W.keepIn K (.ref C) = true

theorem run_make {pins : List (Addr × Obj)} {σ : St} {H : Hp} {s : Shared} {Q : VK} {us : List Value} {vs : List V} (M : Mk X.K C f) (F : FnOk X.prog X.w X.K X.mg X.base CX k f fd ps sp) (hr : Room (k + 1) X.A) (hb : Binds X.K fd ps ds) (hd : Vals dvs ds)
    (hx : Passes CX X E) (I : Inv X pins σ H s) (r : Vals vs us)
    (h : ∀ x dx, H x = none → H dx = none → dx ≠ x → sp (.ref x :: (vs ++ dvs)) (upd (upd H dx (.own x)) x (.ins C dx [])) (fun v H2 => v = .non ∧ Q (.ref x) H2) E) :
    wpAny (model X.prog X.w) X.A (call (.ref C) us) (EP X pins σ Q) X.xe s := by
  have hq := h (s.heap.objs.size + 1) s.heap.objs.size (I.hok.fresh (Nat.le_succ _)) (I.hok.fresh (Nat.le_refl _)) (Nat.ne_of_lt (Nat.lt_succ_self _))
  have I2 := Inv.made (C := C) I
  have r2 : Vals (V.ref (s.heap.objs.size + 1) :: (vs ++ dvs)) (Value.ref (s.heap.objs.size + 1) :: (us ++ ds)) := .cons rfl (r.append hd)
  have hl : (Value.ref (s.heap.objs.size + 1) :: us ++ ds).length = ps.length := by
    have e := r2.length
    rw [F.len _ _ _ _ hq] at e
    exact e.symm
  refine wpAny_call (make_map (f := f) I.kIn M.makes M.init (beq_iff_eq.mp M.fn) (codeAny_mono (F.run _ X.stack _ _ ⟨Value.ref (s.heap.objs.size + 1) :: us, []⟩ (Value.ref (s.heap.objs.size + 1) :: (us ++ ds)) _ _ E (hr.make C us [])
    (I2.env0.make C us []) (hb _ (Value.ref (s.heap.objs.size + 1) :: us) I2.kIn hl) r2 hq) fun r s' hq' => ?_))
  cases r with
  | error e => exact hx pins σ _ _ e s' I2 hq'
  | ok fl =>
    cases fl with
    | ret u =>
      obtain ⟨v, H', I3, rv, ev, q3⟩ := I2.after hq'
      subst ev
      exact ⟨rv, ⟨V.ref (s.heap.objs.size + 1), H', I3, rfl, q3⟩⟩
    | next => exact False.elim hq'
    | brk => exact False.elim hq'
    | cont => exact False.elim hq'
theorem pe_make (M : Mk X.K C f) (F : FnOk X.prog X.w X.K X.mg X.base CX k f fd ps sp) (hr : Room (k + 1) X.A) (hg : Gl X x) (hm : X.mg x = some (.ref C)) (hb : Binds X.K fd ps ds) (hd : Vals dvs ds) (hx : Passes CX X E)
    (ha : PA X (e :: es) t) (hdb : (x == ("__debug__" : Str)) = false := by decide) (he : starEach (e :: es) X.env = (false, eval e X.env) :: starEach es X.env := by rfl) (hpl : (backTo pos (starEach es X.env)).any (·.1) = false := by rfl) :
    PE X (.Call (.Name x p) (e :: es) [] pos) (tMake C sp dvs E t) := by
  intro pins s σ H Q I h
  refine wpAny_Call_Name_kw (ld_glob I hg hm ?_ hdb)
  refine PySem.W.callWith_K (h₀ := X.base) I.ok.mod.kin M.kp (thn (ha pos pins s σ H _ I h) fun us s1 ⟨vs, H1, I1, r, q⟩ => ⟨I1.kIn, ?_⟩) he hpl
  exact run_make M F hr hb hd hx I1 r q
theorem pe_make0 (M : Mk X.K C f) (F : FnOk X.prog X.w X.K X.mg X.base CX k f fd ps sp) (hr : Room (k + 1) X.A) (hg : Gl X x) (hm : X.mg x = some (.ref C)) (hb : Binds X.K fd ps ds) (hd : Vals dvs ds) (hx : Passes CX X E)
    (hdb : (x == ("__debug__" : Str)) = false := by decide) : PE X (.Call (.Name x p) [] [] pos) (tMake C sp dvs E tNil) := by
  intro pins s σ H Q I h
  refine wpAny_Call_Name_kw (ld_glob I hg hm ?_ hdb)
  exact PySem.W.callWith_K0 I.kIn M.kp (run_make (us := []) M F hr hb hd hx I .nil h)
end

/-! ### keywords -/
/-- the values of the keywords, from the left -/
def PK (X : Cx) (kws : List Keyword) (t : TA) : Prop :=
  ∀ (pos : Pos) (pins : List (Addr × Obj)) (s : Shared) (σ : St) (H : Hp) (Q : List V → Hp → Prop), Inv X pins σ H s → t σ H Q → wpAny (model X.prog X.w) X.A (evalAll ((backToKw pos (keywordEach kws X.env)).map (·.2))) (AP X pins σ Q) X.xe s
section
variable {X : Cx} {CX : CXT} {k : Nat} {f C : Addr} {fd : FuncData} {ps ks : List Str} {sp : Sp} {E : XK} {x m : Str} {p pos apos kpos : Pos} {e o : Expr} {es : List Expr} {kws : List Keyword} {te ta : TE} {t tk : TA} {nm : Option Str}
/-- how a call with keywords binds: g puts the positional values us and the keywords' values ws (names ks) in the parameters' order, defaults among them -/
structure KBinds (K : PySem.W.Frag) (fd : FuncData) (ps ks : List Str) (g : List Value → List Value → List Value) (gV : List V → List V → List V) : Prop where
  to : ∀ (s : Shared) (us ws : List Value), K.In s.heap → (g us ws).length = ps.length → BindsTo s fd ⟨us, ks.zip ws⟩ (ps.zip (g us ws))
  rel : ∀ {vs : List V} {us : List Value} {zs : List V} {ws : List Value}, Vals vs us → Vals zs ws → Vals (gV vs zs) (g us ws)
def tCallK (sp : Sp) (gV : List V → List V → List V) (E : XK) (t tk : TA) : TE := fun σ H Q => t σ H fun vs H1 => tk σ H1 fun zs H2 => sp (gV vs zs) H2 Q E
variable {g : List Value → List Value → List Value} {gV : List V → List V → List V}
end

/-! ### a def's body keeps its promise -/
/-- names: the parameters first -/
structure FnScope (N P : List Str) (sc : Scope) : Prop where
  kind : sc.kind = .function
  co : sc.isCoroutine = false
  gen : sc.isGenerator = false
  nd : N.Nodup
  pre : N.take P.length = P
  par : ∀ x ∈ P, sc.names.lookup x = some .local ∨ sc.names.lookup x = some .cell
  nofree : ∀ y ∈ sc.names, y.2 ≠ .free

theorem bindL_out {kindOf : Str → Option NameKind} {x : Str} : ∀ {binds : List (Str × Value)} {m : Str → Option Value}, (∀ v, (x, v) ∉ binds) → bindL kindOf binds m x = m x
  | [], _, _ => rfl
  | (n, v) :: r, m, h => by
    unfold bindL
    rw [bindL_out fun w hw => h w (List.mem_cons_of_mem _ hw)]
    split
    · have : x ≠ n := by rintro rfl; exact h v List.mem_cons_self
      simp [this]
    · rfl
theorem bindC_out {kindOf : Str → Option NameKind} {x : Str} : ∀ {binds : List (Str × Value)} {m : Str → Option Value}, (∀ v, (x, v) ∉ binds) → bindC kindOf binds m x = m x
  | [], _, _ => rfl
  | (n, v) :: r, m, h => by
    unfold bindC
    rw [bindC_out fun w hw => h w (List.mem_cons_of_mem _ hw)]
    split
    · rfl
    · have : x ≠ n := by rintro rfl; exact h v List.mem_cons_self
      simp [this]
theorem bindL_get {kindOf : Str → Option NameKind} {x : Str} {v : Value} : ∀ {P : List Str} {vs : List Value} {i : Nat} {m : Str → Option Value}, P.Nodup → P[i]? = some x → vs[i]? = some v → kindOf x = some .local →
    bindL kindOf (P.zip vs) m x = some v
  | [], _, _, _, _, h, _, _ => by simp at h
  | _ :: _, [], _, _, _, _, h, _ => by simp at h
  | p :: P, w :: vs, 0, m, nd, h1, h2, hk => by
    simp at h1 h2; subst h1; subst h2
    show bindL kindOf ((p, w) :: P.zip vs) m p = _
    unfold bindL
    rw [bindL_out fun v hv => (List.nodup_cons.mp nd).1 (List.of_mem_zip hv).1, if_pos hk]
    simp
  | p :: P, w :: vs, i + 1, m, nd, h1, h2, hk => by
    show bindL kindOf ((p, w) :: P.zip vs) m x = _
    unfold bindL
    exact bindL_get (i := i) (List.nodup_cons.mp nd).2 (by simpa using h1) (by simpa using h2) hk
theorem bindC_get {kindOf : Str → Option NameKind} {x : Str} {v : Value} : ∀ {P : List Str} {vs : List Value} {i : Nat} {m : Str → Option Value}, P.Nodup → P[i]? = some x → vs[i]? = some v → kindOf x ≠ some .local →
    bindC kindOf (P.zip vs) m x = some v
  | [], _, _, _, _, h, _, _ => by simp at h
  | _ :: _, [], _, _, _, _, h, _ => by simp at h
  | p :: P, w :: vs, 0, m, nd, h1, h2, hk => by
    simp at h1 h2; subst h1; subst h2
    show bindC kindOf ((p, w) :: P.zip vs) m p = _
    unfold bindC
    rw [bindC_out fun v hv => (List.nodup_cons.mp nd).1 (List.of_mem_zip hv).1, if_neg hk]
    simp
  | p :: P, w :: vs, i + 1, m, nd, h1, h2, hk => by
    show bindC kindOf ((p, w) :: P.zip vs) m x = _
    unfold bindC
    exact bindC_get (i := i) (List.nodup_cons.mp nd).2 (by simpa using h1) (by simpa using h2) hk

/-- the names' values at the entry -/
def start (N : List Str) (vs : List V) : St := vs.map some ++ List.replicate (N.length - vs.length) none

/-- the context of a def's body, at its entry; an exception leaves the frame, then lies as CX says -/
def cxOf (CX : CXT) (P : Program) (w : World) (K : PySem.W.Frag) (mg : Str → Option Value) (base : Heap) (N : List Str) (qual : Str) (scope : Scope) (f : Addr) (cd : Value) (A : Around) (outer : List Env) (s : Shared) (H : Hp) (E : XK) : Cx where
  prog := P
  w := w
  K := K
  mg := mg
  base := base
  A := A.deeper (envOfC qual scope s.heap.objs.size f cd)
  N := N
  s₀ := s
  H₀ := H
  env := envOfC qual scope s.heap.objs.size f cd
  outer := outer
  stack := envOfC qual scope s.heap.objs.size f cd :: outer
  ex := []
  calm := true
  fn := fun _ => true
  pn := []
  xe := fun e s' => wpAny (model P w) (A.deeper (envOfC qual scope s.heap.objs.size f cd)) (leaving (envOfC qual scope s.heap.objs.size f cd) e) (fun _ s'' => CX outer H s E e s'') (fun e' s'' => CX outer H s E e' s'') s'

theorem cell_has {sc : Scope} {n : Nat} {x : Str} (h : sc.names.lookup x = some .cell) : ∃ c, (cellsFrom n sc.names []).lookup x = some c := by
  have q := PySem.W.cellsFrom_some sc.names n [] (.inl h)
  exact Option.isSome_iff_exists.mp q

theorem inv_start {CX : CXT} {P : Program} {w : World} {K : PySem.W.Frag} {mg : Str → Option Value} {base : Heap} {N ps : List Str} {qual : Str} {scope : Scope} {f : Addr} {cd : Value} {A : Around} {outer : List Env} {s s1 : Shared} {H : Hp} {E : XK} {us : List Value} {vs : List V}
    (S : FnScope N ps scope) (hd : A.handled = none) (e0 : Env0 P w K mg base A outer s H) (hl : vs.length = ps.length) (r : Vals vs us)
    (x : InCallC s s.heap.objs.size (bindL (envOfC qual scope s.heap.objs.size f cd).kindOf (ps.zip us) fun _ => none) (cellsFrom (s.heap.objs.size + 1) scope.names []) (bindC (envOfC qual scope s.heap.objs.size f cd).kindOf (ps.zip us) fun _ => none) s1) :
    Inv (cxOf CX P w K mg base N qual scope f cd A outer s H E) [] (start N vs) H s1 := by
  have hpl : ps.length ≤ N.length := by have := congrArg List.length S.pre; rw [List.length_take] at this; omega
  obtain ⟨h1, tk, rfl, hk⟩ := x.done
  have noA : ∀ b : Addr, b ∉ (cxOf CX P w K mg base N qual scope f cd A outer s H E).ex := fun b z => absurd (show b ∈ ([] : List Addr) from z) (by simp)
  refine ⟨⟨e0.mod, S.kind, rfl, rfl, Nat.le_refl _, fun y z c h1 h2 => ?_, fun y hy => ?_, fun y c _ h => ?_, fun _ => hd, Around.frames_deeper e0.frames, .inr ⟨rfl, rfl⟩, fun b z => absurd z (noA b), e0.bs, e0.bsz, fun b _ _ => noA b, fun b z => absurd z (noA b), e0.funs, e0.frf⟩,
    rfl, e0.bare, Un.kept hk, ⟨_, x.toInCall.ns, fun i y v h1 h2 h3 => ?_⟩, fun y c h => ⟨_, x.cell y c h⟩, e0.hok.fresh (Nat.le_refl _), fun y c h => ?_, fun p hp => absurd (show p ∈ ([] : List (Addr × Obj)) from hp) (by simp), e0.hok.kept hk, ?_⟩
  · exact name_of_addr x.apart (PySem.mem_of_lookup h1) (PySem.mem_of_lookup h2)
  · have hy : scope.names.lookup y = some .cell ∨ scope.names.lookup y = some .free := hy
    rcases hy with hy | hy
    · exact cell_has hy
    · exact absurd rfl (S.nofree _ (PySem.mem_of_lookup hy))
  · exact Nat.le_of_lt (x.above y c (PySem.mem_of_lookup h))
  · have hi : i < vs.length := by
      unfold start at h2
      by_cases hi : i < vs.length
      · exact hi
      · rw [List.getElem?_append_right (by simpa using hi)] at h2
        rw [List.getElem?_replicate] at h2
        split at h2 <;> cases h2
    have ha : vs[i]? = some v := by
      unfold start at h2
      rw [List.getElem?_append_left (by simpa using hi), List.getElem?_map] at h2
      cases e : vs[i]? with
      | none => rw [e] at h2; cases h2
      | some a => rw [e] at h2; cases h2; rfl
    obtain ⟨u, hu, rv⟩ := r.get ha
    have hp : ps[i]? = some y := by
      rw [← S.pre, List.getElem?_take_of_lt (by omega)]; exact h1
    have ndP : ps.Nodup := by rw [← S.pre]; exact S.nd.sublist (List.take_sublist _ _)
    refine ⟨u, rv, ?_⟩
    rcases S.par y (List.mem_of_getElem? hp) with k | k
    · exact .inl ⟨k, bindL_get ndP hp hu k⟩
    · obtain ⟨c, e⟩ := cell_has (n := s.heap.objs.size + 1) k
      refine .inr ⟨.inl k, c, e, ?_⟩
      have q := x.cell y c e
      rw [bindC_get ndP hp hu (by show scope.names.lookup y ≠ _; rw [k]; decide)] at q
      exact q
  · exact e0.hok.fresh (Nat.le_of_lt (x.above y c (PySem.mem_of_lookup h)))
  · unfold start
    show _ = N.length
    rw [List.length_append, List.length_map, List.length_replicate]
    omega

/-- THE RULE: a def (or a method) of the text, by its body. The body's reading t is chosen for each entry; it is run at the parameters' values -/
theorem fn_of {CX : CXT} {P : Program} {w : World} {K : PySem.W.Frag} {mg : Str → Option Value} {base : Heap} {k : Nat} {f : Addr} {name qual : Str} {params : Arguments} {body : List Stmt} {scope : Scope} {dV kV doc pm cdv ct oc : Value} {an od : Option Addr}
    {osl : Array (Option Value)} {N ps : List Str} {sp : Sp} (lk : K.lookup f = some ⟨oc, od, .func (PySem.W.fnOf name qual params body scope dV kV doc pm an cdv ct), osl⟩) (hcd : PySem.W.codeIn K cdv qual = true) (S : FnScope N ps scope)
    (len : ∀ vs H Q E, sp vs H Q E → vs.length = ps.length)
    (hbody : ∀ (A : Around) (outer : List Env) (s : Shared) (H : Hp) (vs : List V) (Q : VK) (E : XK), Room k (A.deeper (envOfC qual scope s.heap.objs.size f cdv)) → sp vs H Q E →
      ∃ t, PSs (cxOf CX P w K mg base N qual scope f cdv A outer s H E) body t ∧ t { nx := fun _ H' => Q .non H', rt := Q } (start N vs) H) :
    FnOk P w K mg base CX (k + 1) f (PySem.W.fnOf name qual params body scope dV kV doc pm an cdv ct) ps sp := by
  refine ⟨len, fun A outer s H args us vs Q E hr e0 hb r hsp => ?_⟩
  have hl := len _ _ _ _ hsp
  have KX : K.In s.heap := e0.mod.kin.keeps fun b o e => (e0.bs b o e).1
  have lim : s.heap.NoLimit := e0.mod.nolimit.keeps fun b o e => (e0.bs b o e).1
  have hkind : ∀ y ∈ ps.zip us, scope.names.lookup y.1 = some .local ∨ (scope.names.lookup y.1 = some .cell ∧ ((cellsFrom (s.heap.objs.size + 1) scope.names []).lookup y.1).isSome = true) := fun ⟨n, v⟩ hy => by
    rcases S.par n (List.of_mem_zip hy).1 with q | q
    · exact .inl q
    · exact .inr ⟨q, PySem.W.cellsFrom_some _ _ _ (.inl q)⟩
  refine codeAny_call_function hr.depth (KX _ _ lk) rfl S.co S.gen rfl (PySem.W.codeRec_of KX hcd) (hb _ _ _ _ ?_)
  refine wpAny_newFunctionEnv_cells S.kind hkind fun env he s1 x => ?_
  subst he
  refine ⟨lim.keeps x.toInCall.keep, codeAny_func ?_⟩
  obtain ⟨t, ht, hq⟩ := hbody A outer s H vs Q E (hr.deeper _) hsp
  have I : Inv (cxOf CX P w K mg base N qual scope f cdv A outer s H E) [] (start N vs) H s1 := inv_start S hr.hd e0 hl r x
  refine wpAny_mono (ht [] s1 (start N vs) H _ I hq) (fun fl s' hs => ?_) fun e s' hs => hs
  have fin : ∀ {σ' : St} {H' : Hp} {v : V} {u : Value}, Inv (cxOf CX P w K mg base N qual scope f cdv A outer s H E) [] σ' H' s' → RelV v u → Q v H' → CE outer P w H s Q u s' :=
    fun {σ' H' v u} J rv q => ⟨v, H', J.os, J.bare, J.base, J.hok, rv, q⟩
  cases fl with
  | ret u =>
    obtain ⟨v, σ', H', J, rv, q⟩ := hs
    exact fin J rv q
  | next =>
    obtain ⟨σ', H', J, q⟩ := hs
    exact fin (v := V.non) (u := Value.none) J rfl q
  | brk =>
    obtain ⟨_, _, _, q⟩ := hs
    exact False.elim q
  | cont =>
    obtain ⟨_, _, _, q⟩ := hs
    exact False.elim q
end L2

namespace L2
open PySem PySem.Spec PyProof.Rows
section
variable {X : Cx} {x : Str} {p pos : Pos} {e : Expr} {es : List Expr} {t : TA} {id T : String} {r : List V → Hp → VK → Prop}

def tCB (r : List V → Hp → VK → Prop) (t : TA) : TE := fun σ H Q => t σ H fun vs H1 => r vs H1 Q
/-- f(e, ..), f a built-in function -/
theorem pe_callB (hc : CallR X (.builtin id) r) (hg : Gl X x) (hm : X.mg x = none) (hv : bootBuiltins x = some (.builtin id)) (ha : PA X (e :: es) t) (hn : x ≠ "__name__" := by decide) (hdb : (x == ("__debug__" : Str)) = false := by decide)
    (he : starEach (e :: es) X.env = (false, eval e X.env) :: starEach es X.env := by rfl) (hpl : (backTo pos (starEach es X.env)).any (·.1) = false := by rfl) : PE X (.Call (.Name x p) (e :: es) [] pos) (tCB r t) := by
  intro pins s σ H Q I h
  refine wpAny_Call_Name_kw (ld_blt I hg hm hv ?_ hn hdb)
  exact PyProof.Rows.callWith_builtin1 (thn (ha pos pins s σ H _ I h) fun us s1 ⟨vs, H1, I1, r1, q1⟩ => hc pins s1 σ H1 vs us Q I1 r1 q1) he hpl
/-- T(e, ..), T a built-in type -/
theorem pe_callTy (hc : CallR X (.type T) r) (hg : Gl X x) (hm : X.mg x = none) (hv : bootBuiltins x = some (.type T)) (ha : PA X (e :: es) t) (hn : x ≠ "__name__" := by decide) (hdb : (x == ("__debug__" : Str)) = false := by decide)
    (he : starEach (e :: es) X.env = (false, eval e X.env) :: starEach es X.env := by rfl) (hpl : (backTo pos (starEach es X.env)).any (·.1) = false := by rfl) : PE X (.Call (.Name x p) (e :: es) [] pos) (tCB r t) := by
  intro pins s σ H Q I h
  refine wpAny_Call_Name_kw (ld_blt I hg hm hv ?_ hn hdb)
  exact PyProof.Rows.callWith_type1 (thn (ha pos pins s σ H _ I h) fun us s1 ⟨vs, H1, I1, r1, q1⟩ => hc pins s1 σ H1 vs us Q I1 r1 q1) he hpl
end
end L2

namespace HT
open PySem PyProof.Rows

/-- t < u of tuples of ints -/
def lexLt : List Int → List Int → Bool
  | [], [] => false
  | [], _ :: _ => true
  | _ :: _, [] => false
  | x :: xs, y :: ys => if x = y then lexLt xs ys else decide (x < y)
section
open PySem.SeqAt
open PySem.AutoSeq1 (wpAny_loadPart')
open PySem.MeetsSeq PySem.MeetsSeq2 PySem.MeetsSeq3

end

section
variable {prog : Program} {w : World} {A : Around} {E : Value → Shared → Prop} {s : Shared}

/-! ### t[a:b], not the whole -/
/-- a slice's bound as a place among n (d where it is left out) -/
def sIx (n d : Nat) : Option Int → Nat
  | none => d
  | some v => if v < 0 then (v + (n : Int)).toNat else min v.toNat n
theorem sIx_none (n d : Nat) : sIx n d none = d := rfl
theorem sIx_nat (n d k : Nat) : sIx n d (some (k : Int)) = min k n := by
  show (if (k : Int) < 0 then ((k : Int) + (n : Int)).toNat else min (k : Int).toNat n) = min k n
  rw [if_neg (by omega), Int.toNat_natCast]
end
end HT

namespace L2
open PySem PySem.Spec PyProof.Rows

/-! ### the parts of a slice -/
abbrev TO := St → Hp → (Option Int → Hp → Prop) → Prop
/-- a slice's part (left out, or an int) -/
def PO (X : Cx) (e : Option Expr) (t : TO) : Prop :=
  ∀ (pins : List (Addr × Obj)) (s : Shared) (σ : St) (H : Hp) (Q : Option Int → Hp → Prop), Inv X pins σ H s → t σ H Q →
    wpAny (model X.prog X.w) X.A (evalPart e X.env) (fun u s' => ∃ o H', Inv X pins σ H' s' ∧ IsPart u o ∧ Q o H') X.xe s
def tNoPart : TO := fun _ H Q => Q none H
def tPart (t : TE) : TO := fun σ H Q => t σ H fun x H1 => ∃ i, x = .int i ∧ Q (some i) H1

section
variable {X : Cx} {e : Expr} {te : TE} {lo hi : Option Expr} {tl th : TO} {pos p2 : Pos}

theorem po_none : PO X none tNoPart := by
  intro pins s σ H Q I h
  rw [evalPart_none]
  exact wpAny_pure ⟨none, H, I, .none, h⟩
theorem po_some (h : PE X e te) : PO X (some e) (tPart te) := by
  intro pins s σ H Q I hw
  rw [evalPart_some]
  refine thn (h pins s σ H _ I hw) fun u s1 ⟨x, H1, I1, r1, q1⟩ => ?_
  obtain ⟨i, rfl, q⟩ := q1
  obtain ⟨t, rfl⟩ := r1
  exact ⟨some i, H1, I1, .int i t, q⟩

/-- what a slice of a value is, by values: the slice object stands at sl -/
def SlR (X : Cx) (r : V → Option Int → Option Int → Hp → VK → Prop) : Prop :=
  ∀ (pins : List (Addr × Obj)) (s : Shared) (σ : St) (H : Hp) (x : V) (v vl vu : Value) (lo hi : Option Int) (sl : Addr) (Q : VK), Inv X pins σ H s → RelV x v → s.heap.IsSliceOf sl vl vu .none → IsPart vl lo → IsPart vu hi → r x lo hi H Q →
    ∃ T id, typeLookup (.type T) "__getitem__" = pure (some (.builtin id)) ∧ s.TypeIs v T ∧ wpAny (model X.prog X.w) X.A (getItem v (.ref sl)) (EP X pins σ Q) X.xe s
def tSl (r : V → Option Int → Option Int → Hp → VK → Prop) (te : TE) (tl th : TO) : TE := fun σ H Q => te σ H fun x H1 => tl σ H1 fun l H2 => th σ H2 fun u H3 => r x l u H3 Q
/-- a[lo:hi], any a -/
theorem pe_slice {r : V → Option Int → Option Int → Hp → VK → Prop} (hr : SlR X r) (he : PE X e te) (hl : PO X lo tl) (hu : PO X hi th) : PE X (.Subscript e (.Slice lo hi none p2) pos) (tSl r te tl th) := by
  intro pins s σ H Q I h
  refine Subscript_ (thn (he pins s σ H _ I h) fun v s1 ⟨x, H1, I1, r1, q1⟩ => ?_)
  refine wpAny_Slice (thn (hl pins s1 σ H1 _ I1 q1) fun vl s2 ⟨l, H2, I2, pl, q2⟩ => thn (hu pins s2 σ H2 _ I2 q2) fun vu s3 ⟨u, H3, I3, pu, q3⟩ => ?_)
  rw [evalPart_none]
  refine wpAny_pure ?_
  have I4 : Inv X pins σ H3 { s3 with heap := s3.heap.push { cls := .type "slice", data := .fields #[vl, vu, .none] } } := I3.kept (t' := s3.toks) fun b ob q => Heap.get?_push_of_some _ q
  obtain ⟨T, id, hT, ht, hg⟩ := hr pins { s3 with heap := s3.heap.push { cls := .type "slice", data := .fields #[vl, vu, .none] } } σ H3 x v vl vu l u s3.heap.objs.size Q I4 r1 (Heap.IsSliceOf.new ..) pl pu q3
  show wpAny (model X.prog X.w) X.A (subscriptTail e (.Slice lo hi none p2) v (.ref s3.heap.objs.size)) (EP X pins σ Q) X.xe { s3 with heap := s3.heap.push { cls := .type "slice", data := .fields #[vl, vu, .none] } }
  exact tail_any (ops := [.ref s3.heap.objs.size, v]) ht hT hg (by with_unfolding_all rfl)

/-- the items of xs[lo:hi] -/
def cutV (xs : List V) (lo hi : Option Int) : List V := (xs.drop (HT.sIx xs.length 0 lo)).take (HT.sIx xs.length xs.length hi - HT.sIx xs.length 0 lo)
theorem cutV_length (xs : List V) (lo hi : Option Int) : (cutV xs lo hi).length ≤ xs.length := by
  unfold cutV
  rw [List.length_take, List.length_drop]
  omega
/-- t[lo:hi], not the whole of it (the whole would be t itself) -/
def rSlT (K : PySem.W.Frag) : V → Option Int → Option Int → Hp → VK → Prop := fun x lo hi H Q => ∃ a xs, x = .ref a ∧ SqT K H a xs ∧
  ¬ (HT.sIx xs.length 0 lo = 0 ∧ HT.sIx xs.length xs.length hi = xs.length) ∧ ∀ p, H p = none → Q (.ref p) (upd H p (.tup (cutV xs lo hi)))
/-! ### t < u, t + u -/
def rLtT (K : PySem.W.Frag) : R2 := fun x y H Q => ∃ a b ns ms, x = .ref a ∧ y = .ref b ∧ SqT K H a (ns.map V.int) ∧ SqT K H b (ms.map V.int) ∧ Q (.bl (HT.lexLt ns ms)) H
/-- t + u, t not empty: u empty gives t itself -/
def rCatT (K : PySem.W.Frag) : R2 := fun x y H Q => ∃ a b xs ys, x = .ref a ∧ y = .ref b ∧ SqT K H a xs ∧ SqT K H b ys ∧ xs ≠ [] ∧ xs.length + ys.length ≤ sizeLine ∧
  (ys = [] → Q (.ref a) H) ∧ (ys ≠ [] → ∀ p, H p = none → Q (.ref p) (upd H p (.tup (xs ++ ys))))
end
end L2

namespace L2
open PySem PySem.Spec PyProof.Rows

/-! ### places -/
/-- the place that an index of any sign means -/
def ixN (n : Nat) (i : Int) : Option Nat := if 0 ≤ i then (if i < n then some i.toNat else none) else if -(n : Int) ≤ i then some (i + n).toNat else none
def atI {α : Type} (xs : List α) (i : Int) : Option α := (ixN xs.length i).bind fun j => xs[j]?
theorem ixN_seq {n : Nat} {i : Int} {j : Nat} (h : ixN n i = some j) : seqIndex? i n = some j ∧ j < n ∧ -(n : Int) ≤ i ∧ i < n := by
  unfold ixN at h
  by_cases h0 : 0 ≤ i
  · rw [if_pos h0] at h
    by_cases h1 : i < n
    · rw [if_pos h1] at h
      have e : i.toNat = j := Option.some.inj h
      exact ⟨by rw [seqIndex_of h0 h1, e], by omega, by omega, h1⟩
    · rw [if_neg h1] at h; cases h
  · rw [if_neg h0] at h
    by_cases h1 : -(n : Int) ≤ i
    · rw [if_pos h1] at h
      have e : (i + n).toNat = j := Option.some.inj h
      exact ⟨by rw [seqIndex_neg (by omega) h1, e], by omega, h1, by omega⟩
    · rw [if_neg h1] at h; cases h
theorem atI_get {α : Type} {xs : List α} {i : Int} {v : α} (h : atI xs i = some v) : ∃ j, seqIndex? i xs.length = some j ∧ xs[j]? = some v ∧ j < xs.length ∧ -(xs.length : Int) ≤ i ∧ i < xs.length := by
  unfold atI at h
  cases e : ixN xs.length i with
  | none => rw [e] at h; cases h
  | some j =>
    rw [e] at h
    obtain ⟨h1, h2, h3, h4⟩ := ixN_seq e
    exact ⟨j, h1, h, h2, h3, h4⟩
theorem atI_nat {α : Type} {xs : List α} {j : Nat} {v : α} (h : xs[j]? = some v) : atI xs (j : Int) = some v := by
  have hj : j < xs.length := (List.getElem?_eq_some_iff.mp h).1
  have e : ixN xs.length (j : Int) = some j := by
    unfold ixN
    rw [if_pos (by omega), if_pos (by omega)]; simp
  unfold atI; rw [e]; exact h
theorem atI_last {α : Type} (xs : List α) (v : α) : atI (xs ++ [v]) (-1) = some v := by
  have hl : (xs ++ [v]).length = xs.length + 1 := by simp
  have e : ixN (xs ++ [v]).length (-1) = some xs.length := by
    unfold ixN
    rw [hl, if_neg (by decide), if_pos (by omega)]
    congr 1
    omega
  unfold atI
  rw [e]
  show (xs ++ [v])[xs.length]? = some v
  simp

/-! ### what may be subscripted -/
/-- what stands as an index of a plain subscript -/
def PlainIx (b : Expr) : Prop := ∀ o i, subscripted b false o i = operate [o, i] (getItem o i)
/-- a subscript by values -/
def IxR (X : Cx) (r : R2) : Prop :=
  ∀ (value slice : Expr) (pins : List (Addr × Obj)) (s : Shared) (σ : St) (H : Hp) (x y : V) (v u : Value) (Q : VK), Inv X pins σ H s → RelV x v → RelV y u → r x y H Q →
    subscripted slice false v u = operate [v, u] (getItem v u) → wpAny (model X.prog X.w) X.A (subscriptTail value slice v u) (EP X pins σ Q) X.xe s
/-- a call of a builtin's method by values: the receiver, the arguments -/
def MtR (X : Cx) (id : String) (r : V → List V → Hp → VK → Prop) : Prop :=
  ∀ (pins : List (Addr × Obj)) (s : Shared) (σ : St) (H : Hp) (x : V) (xs : List V) (v : Value) (us : List Value) (Q : VK), Inv X pins σ H s → RelV x v → Vals xs us → r x xs H Q →
    wpAny (model X.prog X.w) X.A (call (.builtin id) (v :: us)) (EP X pins σ Q) X.xe s
section
variable {X : Cx} {a b : Expr} {ta tb : TE} {pos : Pos}
/-- a[b] -/
theorem pe_ix {r : R2} (hr : IxR X r) (ha : PE X a ta) (hb : PE X b tb) (hs : PlainIx b) : PE X (.Subscript a b pos) (tOp r ta tb) := by
  intro pins s σ H Q I h
  exact Subscript_ (binT ha hb I h fun v u s2 x y H2 I2 rx ry q => hr a b pins s2 σ H2 x y v u Q I2 rx ry q (hs _ _))

def rIxL (K : PySem.W.Frag) : R2 := fun x y H Q => ∃ p xs i v, x = .ref p ∧ y = .int i ∧ SqL K H p xs ∧ atI xs i = some v ∧ Q v H
def rIxT (K : PySem.W.Frag) : R2 := fun x y H Q => ∃ p xs i v, x = .ref p ∧ y = .int i ∧ SqT K H p xs ∧ atI xs i = some v ∧ Q v H
def rIxS : R2 := fun x y H Q => ∃ z i c, x = .str z ∧ y = .int i ∧ z.length ≤ sizeLine ∧ atI z.cps.toList i = some c ∧ Q (.str ⟨#[c]⟩) H
theorem ix_list : IxR X (rIxL X.K) := by
  intro value slice pins s σ H x y v u Q I rx ry h hs
  obtain ⟨p, xs, i, z, rfl, rfl, hq, he, q⟩ := h
  cases rx
  obtain ⟨t, rfl⟩ := ry
  obtain ⟨its, r, pl, hz⟩ := I.list hq
  obtain ⟨j, h1, h2, h3, h4, h5⟩ := atI_get he
  obtain ⟨w, ew, rw'⟩ := r.get h2
  have hl := r.length
  have hn := line63
  have fin : EP X pins σ Q w s := ⟨z, H, I, rw', q⟩
  by_cases h0 : 0 ≤ i
  · have hj : i.toNat = j := by
      rw [seqIndex_of h0 h5] at h1
      exact Option.some.inj h1
    exact item_listR pl.isList h0 (by omega) (by rw [hj]; simpa using ew) fin hs
  · have hj : (i + (its.toArray.size : Int)).toNat = j := by
      rw [seqIndex_neg (by omega) h4] at h1
      rw [List.size_toArray, ← hl]
      exact Option.some.inj h1
    exact subscriptTail_builtinR (x := w) pl.isList.typeIs slot_list_getitem.lookup
      (wpAny_getItem_list_neg (Q := fun r s' => r = w ∧ EP X pins σ Q r s') pl.isList (by omega) (by rw [List.size_toArray] <;> omega) (by omega) (by rw [hj]; simpa using ew) ⟨rfl, fin⟩) hs
theorem ix_str : IxR X rIxS := by
  intro value slice pins s σ H x y v u Q I rx ry h hs
  obtain ⟨z, i, c, rfl, rfl, hz, he, q⟩ := h
  obtain ⟨t, rfl⟩ := rx
  obtain ⟨t', rfl⟩ := ry
  obtain ⟨j, h1, h2, h3, h4, h5⟩ := atI_get he
  have hl : z.cps.toList.length = z.length := by simp [Str.length]
  rw [hl] at h1 h4 h5
  have hn := line63
  exact tail_any (typeIs_str s z t) slot_str_getitem.lookup (getItem_str (c := c) (by
    have e1 : decide (i < -(2 ^ 63 : Int)) = false := decide_eq_false (by omega)
    have e2 : decide (i ≥ 2 ^ 63) = false := decide_eq_false (by omega)
    rw [e1, e2, Bool.or_false]) (by rw [h1]; simpa using h2) ⟨.str ⟨#[c]⟩, H, I.tok _, ⟨_, rfl⟩, q⟩) hs
/-- list, tuple or str -/
def rIx (K : PySem.W.Frag) : R2 := fun x y H Q => rIxL K x y H Q ∨ rIxT K x y H Q ∨ rIxS x y H Q
/-! ### xs[i] = v, any sign -/
/-- the list's object behind a store -/
theorem mapSeq_set (its : List Value) (n j : Nat) (u : Value) : Obj.mapSeq (·.setIfInBounds j u) { cls := .type "list", data := .seq its.toArray n } = { cls := .type "list", data := .seq (its.set j u).toArray n } := by
  simp [Obj.mapSeq]
theorem Inv.lst {pins : List (Addr × Obj)} {σ : St} {H : Hp} {s : Shared} {p : Addr} {xs : List V} (I : Inv X pins σ H s) (h : H p = some (.lst xs)) :
    ∃ (its : List Value) (n : Nat), Vals xs its ∧ s.heap.get? p = some { cls := .type "list", data := .seq its.toArray n } ∧ xs.length ≤ sizeLine := by
  obtain ⟨z, its, n, r, e⟩ := I.hok p _ h
  exact ⟨its, n, r, e, z⟩
/-- the list at p is written by an update of its object -/
theorem Inv.lstUpd {pins : List (Addr × Obj)} {σ : St} {H : Hp} {s : Shared} {p : Addr} {xs ys : List V} {its its' : List Value} {n n' : Nat} {f : Obj → Obj} (I : Inv X pins σ H s) (h : H p = some (.lst xs))
    (ho : s.heap.get? p = some { cls := .type "list", data := .seq its.toArray n }) (hf : f { cls := .type "list", data := .seq its.toArray n } = { cls := .type "list", data := .seq its'.toArray n' }) (r : Vals ys its') (hz : ys.length ≤ sizeLine) (t : Nat) :
    Inv X pins σ (upd H p (.lst ys)) { s with heap := s.heap.update p f, toks := t } := by
  have e : (s.heap.update p f).get? p = some { cls := .type "list", data := .seq its'.toArray n' } := by
    rw [Heap.get?_update_self f ho (by rw [hf] <;> rfl), hf]
  refine I.write (x := p) (e := p) (by rw [h]; trivial) (.inl rfl) (fun b u hb q => (Heap.get?_update_other _ _ (Ne.symm hb)).trans q) ⟨_, e⟩ ?_
  exact ⟨hz, its', n', r, e⟩
def rSetL : V → V → V → Hp → (Hp → Prop) → Prop := fun o i v H Q => ∃ p xs k j, o = .ref p ∧ i = .int k ∧ H p = some (.lst xs) ∧ ixN xs.length k = some j ∧ Q (upd H p (.lst (xs.set j v)))
theorem set_list : PSet X rSetL := by
  intro pins s σ H o i v ov iv u Q I ro ri rv h
  obtain ⟨p, xs, k, j, rfl, rfl, hp, hj, q⟩ := h
  cases ro
  obtain ⟨t, rfl⟩ := ri
  obtain ⟨its, n, r, ho, hz⟩ := I.lst hp
  obtain ⟨h1, h2, h3, h4⟩ := ixN_seq hj
  have hl := r.length
  have hn := line63
  have I' : Inv X pins σ (upd H p (.lst (xs.set j v))) { s with heap := s.heap.update p (Obj.mapSeq (·.setIfInBounds j u)) } :=
    I.lstUpd hp ho (mapSeq_set its n j u) (r.set rv j) (by rw [List.length_set]; exact hz) s.toks
  by_cases h0 : 0 ≤ k
  · have hk : k.toNat = j := by
      rw [seqIndex_of h0 h4] at h1
      exact Option.some.inj h1
    exact PySem.W.ki_setAt ho h0 (by omega) (by rw [List.size_toArray, ← hl]; exact h4) (by rw [hk]; exact ⟨_, I', q⟩)
  · have hk : (k + (its.toArray.size : Int)).toNat = j := by
      rw [seqIndex_neg (by omega) h3] at h1
      rw [List.size_toArray, ← hl]
      exact Option.some.inj h1
    exact PySem.W.ki_setBack ho (by omega) (by rw [List.size_toArray, ← hl]; exact h3) (by omega) (by rw [hk]; exact ⟨_, I', q⟩)

/-! ### slices -/
theorem slice_bounds (lo hi : Option Int) (n : Nat) : (sliceBounds lo hi none n).1 = ((HT.sIx n 0 lo : Nat) : Int) ∧ (sliceBounds lo hi none n).2.1 = ((HT.sIx n n hi : Nat) : Int) ∧ (sliceBounds lo hi none n).2.2 = 1 := by
  refine ⟨?_, ?_, rfl⟩
  · cases lo with
    | none => simp [sliceBounds, HT.sIx]
    | some i =>
      simp only [sliceBounds, HT.sIx, Option.getD_none, show (1 : Int) > 0 by decide, if_true]
      by_cases h : i < 0
      · simp only [h, if_true] <;> omega
      · simp only [h, if_false] <;> omega
  · cases hi with
    | none => simp [sliceBounds, HT.sIx]
    | some i =>
      simp only [sliceBounds, HT.sIx, Option.getD_none, show (1 : Int) > 0 by decide, if_true]
      by_cases h : i < 0
      · simp only [h, if_true] <;> omega
      · simp only [h, if_false] <;> omega
theorem slicePick_cut (its : List Value) (lo hi : Option Int) : slicePick its.toArray lo hi none = ((its.drop (HT.sIx its.length 0 lo)).take (HT.sIx its.length its.length hi - HT.sIx its.length 0 lo)).toArray := by
  obtain ⟨h1, h2, h3⟩ := slice_bounds lo hi its.toArray.size
  unfold slicePick
  rw [h1, h2, h3]
  simp only [sliceRange_one, pick_run, List.size_toArray] <;> rfl
/-- xs[lo:hi] of a list: a new list -/
def rSlL (K : PySem.W.Frag) : V → Option Int → Option Int → Hp → VK → Prop := fun x lo hi H Q => ∃ a xs, x = .ref a ∧ SqL K H a xs ∧ ∀ p, H p = none → Q (.ref p) (upd H p (.lst (cutV xs lo hi)))
theorem sl_list : SlR X (rSlL X.K) := by
  intro pins s σ H x v vl vu lo hi sl Q I rx hs pl pu h
  obtain ⟨a, xs, rfl, hx, q⟩ := h
  cases rx
  obtain ⟨its, r, ht, hz⟩ := I.list hx
  have hlen := r.length
  refine ⟨"list", _, slot_list_getitem.lookup, ht.isList.typeIs, ?_⟩
  refine wpAny_getItem_list_slice ht.isList hs pl pu .none (by simp) ?_ (by rw [List.size_toArray] <;> omega)
  rw [slicePick_cut, ← hlen]
  refine ⟨.ref s.heap.objs.size, _, I.laid (t' := s.toks) (o := .lst (cutV xs lo hi)) (fun b ob q => Heap.get?_push_of_some _ q) (Nat.le_refl _) ?_, rfl, q _ (I.hok.fresh (Nat.le_refl _))⟩
  exact ⟨Nat.le_trans (cutV_length xs lo hi) hz, _, 0, (r.drop (HT.sIx xs.length 0 lo)).take (HT.sIx xs.length xs.length hi - HT.sIx xs.length 0 lo), Heap.get?_push_size _ rfl⟩

/-! ### in, not in: flat items -/
def flatV : V → Bool
  | .non => true
  | .bl _ => true
  | .int _ => true
  | .str _ => true
  | _ => false
/-- == of flat values -/
def eqV : V → V → Bool
  | .non, .non => true
  | .bl a, .bl b => a == b
  | .bl a, .int b => (if a then 1 else 0) == b
  | .int a, .bl b => a == (if b then 1 else 0)
  | .int a, .int b => a == b
  | .str a, .str b => a == b
  | _, _ => false
theorem eqAt_V {A : Around} {s : Shared} {y x : V} {u v : Value} (ry : RelV y u) (rx : RelV x v) (fy : flatV y = true) (fx : flatV x = true) : SeqAt.EqAt A s u v (eqV y x) := by
  cases y with
  | non =>
    cases ry
    cases x with
    | non => cases rx; exact SeqAt.EqAt.same _
    | bl b => cases rx; exact SeqAt.EqAt.none_bool b
    | int b => obtain ⟨t, rfl⟩ := rx; exact SeqAt.EqAt.none_int b t
    | str b => obtain ⟨t, rfl⟩ := rx; exact SeqAt.EqAt.none_str b t
    | _ => exact absurd (show false = true from fx) Bool.false_ne_true
  | bl a =>
    cases ry
    cases x with
    | non => cases rx; exact SeqAt.EqAt.bool_none a
    | bl b => cases rx; exact SeqAt.EqAt.bool_bool a b
    | int b => obtain ⟨t, rfl⟩ := rx; exact SeqAt.EqAt.bool_int a b t
    | str b => obtain ⟨t, rfl⟩ := rx; exact SeqAt.EqAt.bool_str a b t
    | _ => exact absurd (show false = true from fx) Bool.false_ne_true
  | int a =>
    obtain ⟨t', rfl⟩ := ry
    cases x with
    | non => cases rx; exact SeqAt.EqAt.int_none a t'
    | bl b => cases rx; exact SeqAt.EqAt.int_bool a t' b
    | int b => obtain ⟨t, rfl⟩ := rx; exact SeqAt.EqAt.int_int a t' b t
    | str b => obtain ⟨t, rfl⟩ := rx; exact SeqAt.EqAt.int_str a t' b t
    | _ => exact absurd (show false = true from fx) Bool.false_ne_true
  | str a =>
    obtain ⟨t', rfl⟩ := ry
    cases x with
    | non => cases rx; exact SeqAt.EqAt.str_none a t'
    | bl b => cases rx; exact SeqAt.EqAt.str_bool a t' b
    | int b => obtain ⟨t, rfl⟩ := rx; exact SeqAt.EqAt.str_int a t' b t
    | str b => obtain ⟨t, rfl⟩ := rx; exact SeqAt.EqAt.str_str a t' b t
    | _ => exact absurd (show false = true from fx) Bool.false_ne_true
  | _ => exact absurd (show false = true from fy) Bool.false_ne_true
/-- the items' answers, read off the values (a value's own answer does not lean on its token) -/
def eqU (x : V) (u : Value) : Bool := match u with
  | .none => eqV .non x
  | .bool b => eqV (.bl b) x
  | .int i _ => eqV (.int i) x
  | .str z _ => eqV (.str z) x
  | _ => false
theorem eqU_of {x y : V} {u : Value} (r : RelV y u) (f : flatV y = true) : eqU x u = eqV y x := by
  cases y with
  | non => cases r; rfl
  | bl b => cases r; rfl
  | int i => obtain ⟨t, rfl⟩ := r; rfl
  | str z => obtain ⟨t, rfl⟩ := r; rfl
  | _ => exact absurd (show false = true from f) Bool.false_ne_true
theorem any_eqU {x : V} : ∀ {xs : List V} {us : List Value}, Vals xs us → xs.all flatV = true → us.any (eqU x) = xs.any fun y => eqV y x
  | _, _, .nil, _ => rfl
  | y :: xs, u :: us, .cons r t, f => by
    rw [List.all_cons, Bool.and_eq_true] at f
    rw [List.any_cons, List.any_cons, eqU_of r f.1, any_eqU t f.2]
theorem mem_eqAt {A : Around} {s : Shared} {x : V} {v : Value} (rx : RelV x v) (fx : flatV x = true) : ∀ {xs : List V} {us : List Value}, Vals xs us → xs.all flatV = true → ∀ u ∈ us, SeqAt.EqAt A s u v (eqU x u)
  | _, _, .nil, _ => fun u hu => by cases hu
  | y :: xs, u :: us, .cons r t, f => fun u' hu => by
    rw [List.all_cons, Bool.and_eq_true] at f
    rcases List.mem_cons.mp hu with rfl | hu
    · rw [eqU_of r f.1]; exact eqAt_V r rx f.1 fx
    · exact mem_eqAt rx fx t f.2 u' hu
def inV (x : V) (xs : List V) : Bool := xs.any fun y => eqV y x
/-- x in a list or tuple of flat items -/
def rIn (K : PySem.W.Frag) (neg : Bool) : R2 := fun x y H Q => ∃ p xs, y = .ref p ∧ (SqL K H p xs ∨ SqT K H p xs) ∧ flatV x = true ∧ xs.all flatV = true ∧ Q (.bl (if neg then !inV x xs else inV x xs)) H
theorem op_in_seq : OpR X (compareOp .In) (rIn X.K false) := by
  intro pins s σ H x y v u Q I rx ry h
  obtain ⟨p, xs, rfl, hq, fx, fs, q⟩ := h
  cases ry
  rcases hq with hq | hq
  · obtain ⟨its, r, pl, hz⟩ := I.list hq
    refine SeqAt.in_listAt (eqU x) pl.isList (fun w hw => mem_eqAt rx fx r fs w (by simpa using hw)) ⟨.bl _, H, I, rfl, ?_⟩
    rw [show its.toArray.any (eqU x) = its.any (eqU x) by simp, any_eqU r fs]
    exact q
  · obtain ⟨its, r, pl, hz⟩ := I.tuple hq
    refine SeqAt.in_tupleAt (eqU x) pl (fun w hw => mem_eqAt rx fx r fs w (by simpa using hw)) ⟨.bl _, H, I, rfl, ?_⟩
    rw [show its.toArray.any (eqU x) = its.any (eqU x) by simp, any_eqU r fs]
    exact q
theorem op_notIn_seq : OpR X (compareOp .NotIn) (rIn X.K true) := by
  intro pins s σ H x y v u Q I rx ry h
  obtain ⟨p, xs, rfl, hq, fx, fs, q⟩ := h
  cases ry
  rcases hq with hq | hq
  · obtain ⟨its, r, pl, hz⟩ := I.list hq
    refine SeqAt.notIn_listAt (eqU x) pl.isList (fun w hw => mem_eqAt rx fx r fs w (by simpa using hw)) ⟨.bl _, H, I, rfl, ?_⟩
    rw [show its.toArray.any (eqU x) = its.any (eqU x) by simp, any_eqU r fs]
    exact q
  · obtain ⟨its, r, pl, hz⟩ := I.tuple hq
    refine SeqAt.notIn_tupleAt (eqU x) pl (fun w hw => mem_eqAt rx fx r fs w (by simpa using hw)) ⟨.bl _, H, I, rfl, ?_⟩
    rw [show its.toArray.any (eqU x) = its.any (eqU x) by simp, any_eqU r fs]
    exact q
/-! ### len, list(x), tuple(x) of any list or tuple that is read -/
theorem call_len_seq : CallR X (.builtin "len") (fun xs H Q => ∃ p ys, xs = [.ref p] ∧ (SqL X.K H p ys ∨ SqT X.K H p ys) ∧ Q (.int ys.length) H) := by
  intro pins s σ H xs us Q I r h
  obtain ⟨p, ys, rfl, hq, q⟩ := h
  obtain ⟨u, rfl, rx⟩ := vals1 r
  cases rx
  have hn := line63
  rcases hq with hq | hq
  · obtain ⟨its, r', pl, hz⟩ := I.list hq
    have hlen := r'.length
    exact Calls.call_len_list pl.isList (by simp only [List.size_toArray] <;> omega) ⟨.int ys.length, H, I.tok _, ⟨s.toks + 1, by rw [List.size_toArray, hlen]⟩, q⟩
  · obtain ⟨its, r', pl, hz⟩ := I.tuple hq
    have hlen := r'.length
    exact len_tuple pl (by simp only [List.size_toArray] <;> omega) ⟨.int ys.length, H, I.tok _, ⟨s.toks + 1, by rw [List.size_toArray, hlen]⟩, q⟩
theorem call_len_str : CallR X (.builtin "len") (fun xs H Q => ∃ z, xs = [.str z] ∧ z.length ≤ sizeLine ∧ Q (.int z.length) H) := by
  intro pins s σ H xs us Q I r h
  obtain ⟨z, rfl, hz, q⟩ := h
  obtain ⟨u, rfl, t, rfl⟩ := vals1 r
  have hn := line63
  exact len_str (by omega) ⟨.int z.length, H, I.tok _, ⟨_, rfl⟩, q⟩
theorem call_list_of : CallR X (.type "list") (fun xs H Q => ∃ p ys, xs = [.ref p] ∧ (SqL X.K H p ys ∨ SqT X.K H p ys) ∧ ∀ l, H l = none → Q (.ref l) (upd H l (.lst ys))) := by
  intro pins s σ H xs us Q I r h
  obtain ⟨p, ys, rfl, hq, q⟩ := h
  obtain ⟨u, rfl, rx⟩ := vals1 r
  cases rx
  have fin : ∀ (its : List Value), Vals ys its → ys.length ≤ sizeLine → ∀ (h' : Heap) (c' : Nat), (∀ b o', s.heap.get? b = some o' → h'.get? b = some o') →
      h'.get? s.heap.objs.size = some { cls := .type "list", dict := none, data := .seq its.toArray c', slots := #[] } → EP X pins σ Q (.ref s.heap.objs.size) { s with heap := h' } := fun its r' hz h' c' kp e =>
    ⟨.ref s.heap.objs.size, _, I.laid (t' := s.toks) kp (Nat.le_refl _) (show ObjOk X.prog X.w _ h' _ (.lst ys) from ⟨hz, its, c', r', e⟩), rfl, q _ (I.hok.fresh (Nat.le_refl _))⟩
  rcases hq with hq | hq
  · obtain ⟨its, r', pl, hz⟩ := I.list hq
    have hlen := r'.length
    obtain ⟨o, ho, hc, n, hd⟩ := pl.isList
    exact call_list_seq p (.inl rfl) ho hc hd (fun h' c' kp e => fin its r' hz h' c' kp e) (by simp only [List.size_toArray] <;> omega)
  · obtain ⟨its, r', pl, hz⟩ := I.tuple hq
    have hlen := r'.length
    obtain ⟨o, ho, hc, n, hd⟩ := pl
    exact call_list_seq p (.inr rfl) ho hc hd (fun h' c' kp e => fin its r' hz h' c' kp e) (by simp only [List.size_toArray] <;> omega)
/-! ### the call of a builtin's method: o.m(..) -/
/-- the value is of that builtin type -/
def tyV (K : PySem.W.Frag) (T : String) (x : V) (H : Hp) : Prop := match x with
  | .str _ => T = "str"
  | .int _ => T = "int"
  | .ref p => (T = "list" ∧ ∃ xs, SqL K H p xs) ∨ (T = "tuple" ∧ ∃ o, K.lookup p = some o ∧ o.cls = .type "tuple" ∧ o.dict = none) ∨
      (T = "dict" ∧ ((∃ kvs, H p = some (.dK kvs)) ∨ ∃ kvs, H p = some (.dT kvs))) ∨ (T = "set" ∧ ∃ S n, H p = some (.set S n))
  | _ => False
theorem tyV_is {pins : List (Addr × Obj)} {σ : St} {H : Hp} {s : Shared} {T : String} {x : V} {v : Value} (I : Inv X pins σ H s) (r : RelV x v) (ty : tyV X.K T x H) :
    s.TypeIs v T ∧ ∀ a, v = .ref a → ∃ ob, s.heap.get? a = some ob ∧ ob.dict = none := by
  cases x with
  | str z =>
    obtain ⟨t, rfl⟩ := r
    cases (show T = "str" from ty)
    exact ⟨typeIs_str s z t, fun _ e => nomatch e⟩
  | int i =>
    obtain ⟨t, rfl⟩ := r
    cases (show T = "int" from ty)
    exact ⟨typeIs_int s i t, fun _ e => nomatch e⟩
  | ref p =>
    cases r
    rcases ty with ⟨rfl, xs, hq⟩ | ⟨rfl, o, hk, hc, hd⟩ | ⟨rfl, hk⟩ | ⟨rfl, S, n, hk⟩
    · obtain ⟨its, _, pl, _⟩ := I.list hq
      refine ⟨pl.isList.typeIs, fun a e => ?_⟩
      cases e
      obtain ⟨o, n, e, c, hd, _⟩ := pl
      exact ⟨o, e, hd⟩
    · refine ⟨⟨o, I.kIn p o hk, hc⟩, fun a e => ?_⟩
      cases e
      exact ⟨o, I.kIn _ o hk, hd⟩
    · have z : ∃ o, s.heap.get? p = some o ∧ o.ExactDict := by
        rcases hk with ⟨kvs, hk⟩ | ⟨kvs, hk⟩
        · obtain ⟨_, _, _, _, o, _, _, e, ex, _⟩ := I.hok p _ hk
          exact ⟨o, e, ex⟩
        · obtain ⟨_, _, _, _, o, _, _, e, ex, _⟩ := I.hok p _ hk
          exact ⟨o, e, ex⟩
      obtain ⟨o, e, ex⟩ := z
      refine ⟨⟨o, e, ex.1⟩, fun a e2 => ?_⟩
      cases e2
      exact ⟨o, e, ex.2.1⟩
    · obtain ⟨o, _, _, _, e, ex, _⟩ := I.hok p _ hk
      refine ⟨⟨o, e, ex.1⟩, fun a e2 => ?_⟩
      cases e2
      exact ⟨o, e, ex.2.1⟩
  | _ => exact False.elim ty
def tBM0 (K : PySem.W.Frag) (T : String) (r : V → List V → Hp → VK → Prop) (to : TE) : TE := fun σ H Q => to σ H fun x H1 => tyV K T x H1 ∧ r x [] H1 Q
def tBM (K : PySem.W.Frag) (T : String) (r : V → List V → Hp → VK → Prop) (to : TE) (t : TA) : TE := fun σ H Q => to σ H fun x H1 => tyV K T x H1 ∧ t σ H1 fun xs H2 => r x xs H2 Q
variable {o e : Expr} {es : List Expr} {to : TE} {t : TA} {name : Str} {apos cpos : Pos} {T id : String} {r : V → List V → Hp → VK → Prop}
theorem pe_bm0 (pa : PlainAttrs T) (slot : Slot T name id) (hty : typeOf (.builtin id) = pure (.type "method_descriptor")) (hm : MtR X id r) (ho : PE X o to)
    (hbase : attributeBase o name X.env (eval o X.env) = eval o X.env := by rfl) (hline : (apos.endLine == cpos.line) = true := by rfl) : PE X (.Call (.Attribute o name apos) [] [] cpos) (tBM0 X.K T r to) := by
  intro pins s σ H Q I h
  refine wpAny_Call_method0_late hbase hline (thn (ho pins s σ H _ I h) fun v s1 ⟨x, H1, I1, r1, ty, q1⟩ => ?_)
  obtain ⟨h1, h2⟩ := tyV_is I1 r1 ty
  exact ⟨T, id, pa, slot, hty, h1, h2, Calls.callWith_builtin rfl (PySem.evalArgs_none (hm pins s1 σ H1 x [] v [] Q I1 r1 .nil q1))⟩
theorem pe_bm (pa : PlainAttrs T) (slot : Slot T name id) (hty : typeOf (.builtin id) = pure (.type "method_descriptor")) (hm : MtR X id r) (ho : PE X o to) (ha : PA X (e :: es) t)
    (hbase : attributeBase o name X.env (eval o X.env) = eval o X.env := by rfl)
    (hfew : ((backTo cpos (starEach (e :: es) X.env)).all (fun x => !x.1) && (backToKw cpos (keywordEach [] X.env)).all (fun x => x.1.isSome)
      && decide ((e :: es).length + ([] : List Keyword).length + (if ([] : List Keyword).isEmpty then 0 else 1) < 30)) = true := by rfl)
    (hline : (apos.endLine == cpos.line) = true := by rfl) (hs : starEach (e :: es) X.env = (false, eval e X.env) :: starEach es X.env := by rfl) (hplain : (backTo cpos (starEach es X.env)).any (·.1) = false := by rfl) :
    PE X (.Call (.Attribute o name apos) (e :: es) [] cpos) (tBM X.K T r to t) := by
  intro pins s σ H Q I h
  refine wpAny_Call_method_late hbase hfew hline rfl (thn (ho pins s σ H _ I h) fun v s1 ⟨x, H1, I1, r1, ty, q1⟩ => ?_)
  obtain ⟨h1, h2⟩ := tyV_is I1 r1 ty
  refine ⟨T, id, pa, slot, hty, h1, h2, ?_⟩
  have hA := ha cpos pins s1 σ H1 _ I1 q1
  rw [hs] at hA ⊢
  refine Calls.callWith_builtin (by show (false || (backTo cpos (starEach es X.env)).any (·.1)) = false; rw [hplain] <;> rfl) (Calls.evalArgs_plain ?_)
  exact thn hA fun us s2 ⟨vs, H2, I2, r2, q2⟩ => hm pins s2 σ H2 x vs v us Q I2 r1 r2 q2
/- xs.append(e), list.index on a module's tuple .. are MtR facts of 06m -/
end
end L2

namespace L2
open PySem PySem.Spec PyProof.Rows

def MtM (X : Cx) (id : String) (r : V → List V → Hp → VK → Prop) : Prop :=
  ∀ (pins : List (Addr × Obj)) (s : Shared) (σ : St) (H : Hp) (x : V) (xs : List V) (v : Value) (us : List Value) (Q : VK), Inv X pins σ H s → RelV x v → Vals xs us → r x xs H Q →
    wpAny (model X.prog X.w) X.A (call (.builtin id) (v :: us)) (EP X pins σ Q) X.xe s

/-! ### lists of values -/
theorem Vals.one : ∀ {x : V} {us : List Value}, Vals [x] us → ∃ u, us = [u] ∧ RelV x u
  | _, _, .cons r .nil => ⟨_, rfl, r⟩
theorem Vals.zero : ∀ {us : List Value}, Vals [] us → us = []
  | _, .nil => rfl
theorem Vals.dropLast {xs : List V} {us : List Value} (h : Vals xs us) : Vals xs.dropLast us.dropLast := by
  induction h with
  | nil => exact .nil
  | cons r t ih =>
    cases t with
    | nil => exact .nil
    | cons q t' => exact .cons r ih
theorem Vals.rep {xs : List V} {us : List Value} (h : Vals xs us) : ∀ k : Nat, Vals (List.replicate k xs).flatten (List.replicate k us).flatten
  | 0 => .nil
  | k + 1 => by
    rw [List.replicate_succ, List.replicate_succ, List.flatten_cons, List.flatten_cons]
    exact Vals.append h (Vals.rep h k)
theorem erase_last {α : Type} (l : List α) : l.eraseIdx (l.length - 1) = l.dropLast := by
  induction l with
  | nil => rfl
  | cons a r ih =>
    cases r with
    | nil => rfl
    | cons b r =>
      have e : (a :: b :: r).length - 1 = ((b :: r).length - 1) + 1 := by
        have h1 : (a :: b :: r).length = r.length + 2 := rfl
        have h2 : (b :: r).length = r.length + 1 := rfl
        omega
      rw [e, List.eraseIdx_cons_succ, ih]
      all_goals rfl
theorem foldl_rep (its : List Value) : ∀ (k : Nat) (acc : List Value),
    List.foldl (fun x1 x2 => x1 ++ x2) acc.toArray (List.replicate k its.toArray) = (acc ++ (List.replicate k its).flatten).toArray
  | 0, acc => by simp
  | k + 1, acc => by
    have e : acc.toArray ++ its.toArray = (acc ++ its).toArray := by simp
    have e2 : (acc ++ its) ++ (List.replicate k its).flatten = acc ++ (List.replicate (k + 1) its).flatten := by
      rw [List.replicate_succ, List.flatten_cons, List.append_assoc]
    rw [← e2, ← foldl_rep its k (acc ++ its), ← e, List.replicate_succ, List.foldl_cons]

section
variable {X : Cx} {pins : List (Addr × Obj)} {σ : St} {H : Hp} {s : Shared} {l b : Addr} {xs ys zs : List V}

/-! ### the two steps: a tracked list is rewritten, a new list is laid -/
theorem Inv.lset {its its' : List Value} {n : Nat} {f : Array Value → Array Value} {t' : Nat} (I : Inv X pins σ H s) (hH : H l = some (.lst xs))
    (e : s.heap.get? l = some { cls := .type "list", data := .seq its.toArray n }) (hf : f its.toArray = its'.toArray) (hv : Vals ys its') (hz : ys.length ≤ sizeLine) :
    Inv X pins σ (upd H l (.lst ys)) { s with heap := s.heap.update l (Obj.mapSeq f), toks := t' } := by
  have q := PySem.IsL.update e f
  rw [hf] at q
  refine I.write (x := l) (e := l) (by rw [hH]; exact trivial) (.inl rfl) (fun b' u hb hu => (Heap.get?_update_other s.heap (Obj.mapSeq f) (Ne.symm hb)).trans hu) ⟨_, q⟩ ?_
  exact ⟨hz, its', _, hv, q⟩
theorem Inv.lnew {its : List Value} {t' : Nat} (I : Inv X pins σ H s) (hv : Vals ys its) (hz : ys.length ≤ sizeLine) :
    Inv X pins σ (upd H s.heap.objs.size (.lst ys)) { s with heap := s.heap.push { cls := .type "list", data := .seq its.toArray }, toks := t' } :=
  I.laid (fun _ _ q => Heap.get?_push_of_some _ q) (Nat.le_refl _) ⟨hz, its, 0, hv, Heap.get?_push_size _ rfl⟩
theorem Inv.fresh (I : Inv X pins σ H s) : H s.heap.objs.size = none := I.hok.fresh (Nat.le_refl _)
theorem Inv.lstM (I : Inv X pins σ H s) (hH : H l = some (.lst xs)) : xs.length ≤ sizeLine ∧ ∃ (its : List Value) (n : Nat), Vals xs its ∧ xs.length = its.length ∧ s.heap.get? l = some { cls := .type "list", data := .seq its.toArray n } := by
  obtain ⟨z, its, n, r, e⟩ := I.hok l _ hH
  exact ⟨z, its, n, r, r.length, e⟩

theorem notLongL {n : Nat} (h : n ≤ sizeLine) : Builtin.List.listTooLong n = false := by
  unfold Builtin.List.listTooLong
  exact decide_eq_false (by omega)
end

section
variable {X : Cx}

/-! ### methods -/
def rAppend : V → List V → Hp → VK → Prop := fun x vs H Q => ∃ l xs y, x = .ref l ∧ vs = [y] ∧ H l = some (.lst xs) ∧ xs.length < sizeLine ∧ Q .non (upd H l (.lst (xs ++ [y])))
theorem mt_append : MtM X "list.append" rAppend := by
  intro pins s σ H x vs v us Q I rx rv h
  obtain ⟨l, xs, y, rfl, rfl, hH, hz, q⟩ := h
  cases rx
  obtain ⟨u, rfl, ru⟩ := rv.one
  obtain ⟨z, its, n, r, hl, e⟩ := I.lstM hH
  refine call_meets F.slot_list_append ⟨_, e, rfl⟩ F.entry_list_append (F.args_list_append_2 _ _) (PySem.list_append l its.toArray n u (by rw [List.size_toArray]; omega)) ⟨e, ?_⟩
  refine ⟨.non, _, I.lset (its' := its ++ [u]) hH e (by simp) (r.append (.cons ru .nil)) ?_, rfl, q⟩
  rw [List.length_append, List.length_singleton]
  omega

def rExtend : V → List V → Hp → VK → Prop := fun x vs H Q => ∃ l b xs zs, x = .ref l ∧ vs = [.ref b] ∧ H l = some (.lst xs) ∧ H b = some (.lst zs) ∧ xs.length + zs.length ≤ sizeLine ∧ Q .non (upd H l (.lst (xs ++ zs)))
theorem mt_extend : MtM X "list.extend" rExtend := by
  intro pins s σ H x vs v us Q I rx rv h
  obtain ⟨l, b, xs, zs, rfl, rfl, hH, hB, hz, q⟩ := h
  cases rx
  obtain ⟨u, rfl, ru⟩ := rv.one
  cases ru
  obtain ⟨z, its, n, r, hl, e⟩ := I.lstM hH
  obtain ⟨z2, its2, n2, r2, hl2, e2⟩ := I.lstM hB
  have hsz : its.toArray.size + its2.toArray.size ≤ sizeLine := by rw [List.size_toArray, List.size_toArray]; omega
  have hlong : ¬ (!its.toArray.isEmpty && Builtin.List.listTooLong (its.toArray.size + its2.toArray.size)) = true := by
    rw [notLongL hsz, Bool.and_false]
    exact Bool.false_ne_true
  refine call_meets F.slot_list_extend ⟨_, e, rfl⟩ F.entry_list_extend (F.args_list_extend_2 _ _)
    (AutoSeq1.list_extend_list_list_0 l its.toArray n b its2.toArray n2 hlong (by rw [List.size_toArray]; omega) (by omega)) ⟨e, e2, ?_⟩
  refine ⟨.non, _, I.lset (its' := its ++ its2) hH e (by simp) (r.append r2) ?_, rfl, q⟩
  rw [List.length_append]
  omega

def rPop : V → List V → Hp → VK → Prop := fun x vs H Q => ∃ l xs y, x = .ref l ∧ vs = [] ∧ H l = some (.lst xs) ∧ xs[xs.length - 1]? = some y ∧ Q y (upd H l (.lst xs.dropLast))
theorem mt_pop : MtM X "list.pop" rPop := by
  intro pins s σ H x vs v us Q I rx rv h
  obtain ⟨l, xs, y, rfl, rfl, hH, hy, q⟩ := h
  cases rx
  have hus := rv.zero
  subst hus
  obtain ⟨z, its, n, r, hl, e⟩ := I.lstM hH
  obtain ⟨u, hu, ru⟩ := r.get hy
  have hy' : its.toArray[its.toArray.size - 1]? = some u := by
    show its.toArray[its.length - 1]? = some u
    rw [← Array.getElem?_toList, ← hl]
    exact hu
  refine call_meets F.slot_list_pop ⟨_, e, rfl⟩ F.entry_list_pop (F.args_list_pop_1 _) (MeetsSeq.list_pop_last l its.toArray n u hy' (by rw [List.size_toArray]; omega)) ⟨e, ?_⟩
  refine ⟨y, _, I.lset (its' := its.dropLast) hH e ?_ r.dropLast ?_, ru, q⟩
  · show its.toArray.eraseIdxIfInBounds (its.toArray.size - 1) = its.dropLast.toArray
    rw [List.size_toArray, List.eraseIdxIfInBounds_toArray, erase_last]
  · rw [List.length_dropLast]
    omega

def rPopAt : V → List V → Hp → VK → Prop := fun x vs H Q => ∃ l xs i k y, x = .ref l ∧ vs = [.int i] ∧ H l = some (.lst xs) ∧ -(2 ^ 63) ≤ i ∧ i < 2 ^ 63 ∧ seqIndex? i xs.length = some k ∧ xs[k]? = some y ∧ Q y (upd H l (.lst (xs.eraseIdx k)))
def rReverse : V → List V → Hp → VK → Prop := fun x vs H Q => ∃ l xs, x = .ref l ∧ vs = [] ∧ H l = some (.lst xs) ∧ Q .non (upd H l (.lst xs.reverse))
def rClear : V → List V → Hp → VK → Prop := fun x vs H Q => ∃ l xs, x = .ref l ∧ vs = [] ∧ H l = some (.lst xs) ∧ Q .non (upd H l (.lst []))
/-! ### list + list, list += list, list * int -/
def rCat : R2 := fun x y H Q => ∃ l b xs zs, x = .ref l ∧ y = .ref b ∧ H l = some (.lst xs) ∧ H b = some (.lst zs) ∧ xs.length + zs.length ≤ sizeLine ∧ ∀ p, H p = none → Q (.ref p) (upd H p (.lst (xs ++ zs)))
theorem op_cat : OpR X (binaryOp .Add) rCat := by
  intro pins s σ H x y v u Q I rx ry h
  obtain ⟨l, b, xs, zs, rfl, rfl, hH, hB, hz, q⟩ := h
  cases rx
  cases ry
  obtain ⟨z, its, n, r, hl, e⟩ := I.lstM hH
  obtain ⟨z2, its2, n2, r2, hl2, e2⟩ := I.lstM hB
  refine PySem.P.add_list e e2 ?_ (by rw [List.size_toArray, List.size_toArray]; omega)
  have ea : its.toArray ++ its2.toArray = (its ++ its2).toArray := by simp
  rw [ea]
  exact ⟨.ref _, _, I.lnew (t' := s.toks) (r.append r2) (by rw [List.length_append]; omega), rfl, q _ I.fresh⟩
/-- a list times an int (a negative one is nothing) -/
def rRep : R2 := fun x y H Q => ∃ l k xs, x = .ref l ∧ y = .int k ∧ H l = some (.lst xs) ∧ -(2 ^ 63) ≤ k ∧ k < 2 ^ 63 ∧ xs.length * k.toNat ≤ sizeLine ∧
  ∀ p, H p = none → Q (.ref p) (upd H p (.lst (List.replicate k.toNat xs).flatten))
theorem len_rep {α : Type} (xs : List α) (k : Nat) : (List.replicate k xs).flatten.length = k * xs.length := by
  induction k with
  | zero => simp
  | succ k ih => rw [List.replicate_succ, List.flatten_cons, List.length_append, ih, Nat.succ_mul, Nat.add_comm]
theorem op_rep : OpR X (binaryOp .Mult) rRep := by
  intro pins s σ H x y v u Q I rx ry h
  obtain ⟨l, k, xs, rfl, rfl, hH, h1, h2, hz, q⟩ := h
  cases rx
  obtain ⟨t, rfl⟩ := ry
  obtain ⟨z, its, n, r, hl, e⟩ := I.lstM hH
  have hlen : its.toArray.size * k.toNat ≤ sizeLine := by rw [List.size_toArray, ← hl]; exact hz
  have hcap : ¬ its.toArray.size * k.toNat > (2 ^ 63 - 1) / 8 := by
    have : (sizeLine : Nat) ≤ (2 ^ 63 - 1) / 8 := by decide
    omega
  have hfit : ¬ (!Builtin.List.listFitsIndex k) = true := by
    rw [fitsIndex_both h1 h2]
    exact Bool.false_ne_true
  have hlong : ¬ Builtin.List.listTooLong (its.toArray.size * k.toNat) = true := by
    rw [notLongL hlen]
    exact Bool.false_ne_true
  have hnew : List.foldl (fun x1 x2 => x1 ++ x2) #[] (List.replicate (if its.toArray.isEmpty = true then 0 else k.toNat) its.toArray) = (List.replicate k.toNat its).flatten.toArray := by
    have f0 : ∀ m : Nat, List.foldl (fun x1 x2 => x1 ++ x2) #[] (List.replicate m its.toArray) = (List.replicate m its).flatten.toArray := fun m => by
      have := foldl_rep its m []
      rw [List.nil_append] at this
      exact this
    rw [f0]
    cases its with
    | nil => simp
    | cons a r' => rw [if_neg (by simp)]
  refine wpAny_binaryOp_repeat_ref (T := "list") (U := "int") (by decide) ⟨_, e, rfl⟩ (fun s' => typeIs_int s' k t) noFill_list_mul F.fills_int_mul F.slot_int_rmul repeat_list F.slot_int_index.lookup
    (call_meets F.slot_int_rmul (typeIs_int s k t) F.entry_int_rmul (F.args_int_rmul_2 _ _) (int___rmul___int_list k t l its.toArray n)
      ⟨e, rfl, ⟨_, e, rfl⟩, call_meets F.slot_list_mul ⟨_, e, rfl⟩ F.entry_list_mul (F.args_list_mul_2 _ _) (AutoListH.list___mul___list_int_3 l its.toArray n k t hfit hcap hlong) ⟨e, ?_⟩⟩)
  rw [hnew]
  exact ⟨.ref _, _, I.lnew (t' := s.toks) (r.rep k.toNat) (by rw [len_rep, Nat.mul_comm]; exact hz), rfl, q _ I.fresh⟩

/-! ### del xs[i] -/
end

/-! ### xs[a:b] = ys -/
section
variable {prog : Program} {w : World} {A : Around} {E : Value → Shared → Prop} {s : Shared}
end

section
variable {X : Cx}
end
end L2

namespace Att
open PySem PySem.W PySem.Calls PyProof.Rows

/-! ### the script -/
theorem ints_of_wellAll {P : Params} {h : Heap} : ∀ (ns : List Int) (vs : List Value), WellAll P h vs (ns.map WData.int) → IntsAre vs ns := by
  intro ns
  induction ns with
  | nil =>
    intro vs w
    rw [List.map_nil] at w
    cases w
    exact .nil
  | cons n ns ih =>
    intro vs w
    rw [List.map_cons] at w
    cases w with
    | cons a b =>
      cases a
      exact .cons _ _ (ih _ b)

theorem script_of {l : OpenLaw} {n : Nat} (hn : l.most = some n) {P : Params} {h : Heap} {args : List WData} {vals : List Value}
    (hpre : l.row.toRowW.claim.pre args = true) (hwl : WellAll P h vals args) :
    ∃ a vs ns, vals = [Value.ref a] ∧ args = [WData.list (ns.map WData.int)] ∧ h.get? a = some { cls := .type "list", data := .seq vs.toArray } ∧ IntsAre vs ns ∧ ns.length ≤ n := by
  have hsh : WShape.hasAll [] args [.list .int] = true := (pre_splitW hpre).1
  have hc : l.pre.holds [] { args := args } = true := (pre_splitW hpre).2
  obtain ⟨d, r, rfl, h1, h2⟩ := hasAllW_cons hsh
  obtain rfl := hasAllW_nil h2
  obtain ⟨xs, rfl, h3⟩ := hasW_list h1
  obtain ⟨ns, rfl⟩ := items_int h3
  have hlen : ns.length ≤ n := by
    unfold OpenLaw.pre at hc
    have h4 : (WTm.not (.lt (.lit (.int (n : Int))) (.len (.arg 0)))).holds [] { args := [.list (ns.map .int)] } = true := by
      have h4 := (holds_andW hc).1
      rw [hn] at h4
      exact h4
    have h5 := condW_of h4 (w_not (w_lt w_lit (w_len_list (w_arg rfl))))
    rw [List.length_map] at h5
    refine Nat.le_of_not_lt fun q => ?_
    have q' : (n : Int) < ((ns.length : Nat) : Int) := by omega
    first
      | (rw [decide_eq_true q'] at h5; exact absurd h5 (by decide))
      | (simp at h5; omega)
  cases hwl with
  | cons w1 w2 =>
    cases w2
    cases w1 with
    | list ho hall => exact ⟨_, _, ns, rfl, rfl, ho, ints_of_wellAll ns _ hall, hlen⟩

theorem post_true (l : OpenLaw) (args : List WData) : l.row.toRowW.claim.post args (.bool true) args = true :=
  postW_of (r := l.row.toRowW) (X := (true == true))
    (show WShape.has [] (.bool true) .bool = true by first | rfl | decide | simp [WShape.has, WShape.arms, WShape.armsAll])
    (show (WTm.eq .res (.lit (.bool true))).value [] { args := args, res := some (.bool true), after := args } = some (.bool (true == true)) from w_eq_bool (w_res rfl) w_lit) rfl

/-! ### the attachment: holds_open's last premise (the goal 'hc' behind k_head) from a wpAny of the law's body -/
/-- the same from a codeAny of the CALL (for a layer whose function contracts speak of calls) -/
theorem attach_call {l : OpenLaw} {n : Nat} {q : Program} {loose : List Str} {XP : (Str → Option Value) → Heap → Prop} {YP : World → Heap → Prop} {d : DefRec}
    (hn : l.most = some n) (hdf : d.params.defaults = [])
    (call : ∀ (w : World) (s₀ s₁ : Shared) (mg mb : Str → Option Value) (fa : Addr) (o : Obj) (pm cd doc : Value) (a : Addr) (vs : List Value) (ns : List Int),
      Ground q loose [] XP w s₀ mg mb s₁.heap → YP w s₁.heap →
      s₁.heap.get? fa = some o → o.data = .func (docDef d.name d.params d.body d.scope pm cd doc) → s₁.heap.CodeRec cd d.name → mg d.name = some (.ref fa) →
      s₁.heap.get? a = some { cls := .type "list", data := .seq vs.toArray } → IntsAre vs ns → ns.length ≤ n → s₁.gens = #[] →
      codeAny (model l.prog w) callerA (.call (.ref fa) ⟨[.ref a], []⟩) (fun r s' => r = .ok (.ret (.bool true)) ∧ OldK s₁.heap s'.heap ∧ s'.os = s₁.os ∧ AllBare s'.gens) s₁) :
    WalkO q loose XP YP l.row.toRowW d [] (fun f vs => PySem.call f vs) := by
  intro w s₀ s₁ mg mb G Y fa o pm cd doc dV kV ho hd hcd hD hmg hg args vals as hpre hlay hrd hwl hlo
  obtain rfl : dV = .none := Dflts.none hD hdf
  obtain rfl : kV = .none := Dflts.noKw hD
  obtain ⟨a, vs, ns, rfl, rfl, hobj, hints, hlen⟩ := script_of hn hpre hwl
  refine enter_call (codeAny_mono (call w s₀ s₁ mg mb fa o pm cd doc a vs ns G Y ho (fd_plain hd) hcd hmg hobj hints hlen hg) fun r s' hq => ?_)
  obtain ⟨rfl, h2, h3, h4⟩ := hq
  exact ⟨.inl ⟨.bool true, .bool true, [], rfl, fun _ => rfl, .bool true, post_true l _, fun _ => ⟨List.Pairwise.nil, fun _ hm => (nomatch hm)⟩⟩, h2, h3, h4⟩

/-! ### rules over ANY heap (no ledger) from facts about the written part K: the library's own take a ledger (News) for what they write -/
section
variable {prog : Program} {w : World} {A : Around} {E : Value → Shared → Prop} {s : Shared} {K : Frag}

/-! the whole heap as the ledger: makes every rule that writes through a ledger a rule over any heap -/
def noObjs (h : Heap) : Heap := { h with objs := #[] }
def ledger (h : Heap) (L d : Addr) : List (Addr × Obj) := (List.range h.objs.size).filterMap fun a => if a = L ∨ a = d then none else (h.get? a).map fun o => (a, o)
end
end Att

namespace L2
open PySem PySem.Spec PyProof.Rows

theorem vals_ints : ∀ {vs : List Value} {ns : List Int}, IntsAre vs ns → Vals (ns.map V.int) vs
  | _, _, .nil => .nil
  | _, _, .cons n t h => .cons ⟨t, rfl⟩ (vals_ints h)

/-- nothing is tracked but the script, known to the object (or it is an object of the module) -/
def Only (H : Hp) : Prop := ∀ b, H b = none ∨ ∃ o xs, H b = some (.frz o (.lst xs))

/-- THE HEAD: the law's promise, at the heap behind the top. F, the promise of the law's def, may use that base is part of the heap (so K.In base, base.Ns mainGlobals mg stand in Mod) -/
theorem law_call {P : Program} {w : World} {K : PySem.W.Frag} {mg mb : Str → Option Value} {CX : CXT} {k : Nat} {fa a : Addr} {fd : FuncData} {x : Str} {sp : Sp} {s₁ : Shared} {vs : List Value} {ns : List Int}
    (KX : K.In s₁.heap) (hns : s₁.heap.Ns mainGlobals mg) (hb : s₁.heap.Ns builtinsNs mb) (hbb : ∀ x : Str, x ≠ "__name__" → mb x = bootBuiltins x) (hlim : s₁.heap.NoLimit) (hg : s₁.gens = #[])
    (ha : s₁.heap.get? a = some { cls := .type "list", data := .seq vs.toArray }) (hi : IntsAre vs ns) (hl : ns.length ≤ sizeLine) (hr : Room k callerA)
    (F : ∀ base : Heap, K.In base → base.Ns mainGlobals mg → FnOk P w K mg base CX k fa fd [x] sp) (hbind : ∀ (s : Shared) (u : Value), BindsTo s fd ⟨[u], []⟩ [(x, u)])
    (hsp : ∀ H : Hp, Only H → SqL K H a (ns.map V.int) → sp [.ref a] H (fun v _ => v = .bl true) fun _ _ _ => False)
    (hCX : ∀ H e s', CX [] H s₁ (fun _ _ _ => False) e s' → False) :
    codeAny (model P w) callerA (.call (.ref fa) ⟨[.ref a], []⟩) (fun r s' => r = .ok (.ret (.bool true)) ∧ OldK s₁.heap s'.heap ∧ s'.os = s₁.os ∧ AllBare s'.gens) s₁ := by
  have rv := vals_ints hi
  have lenV := hi.length
  -- from an abstract heap in which nothing but the script may be tracked
  have core : ∀ H : Hp, Only H → SqL K H a (ns.map V.int) → HOk P w H s₁.heap → (∀ b, H b ≠ none → b = a) → (H a ≠ none → K.lookup a = none) →
      codeAny (model P w) callerA (.call (.ref fa) ⟨[.ref a], []⟩) (fun r s' => r = .ok (.ret (.bool true)) ∧ OldK s₁.heap s'.heap ∧ s'.os = s₁.os ∧ AllBare s'.gens) s₁ := by
    intro H hO hS hok hA hK
    have base_of : ∀ {b : Addr} {o : Obj}, s₁.heap.get? b = some o → H b = none → (hidT s₁.heap H).get? b = some o := fun e n => hidT_get e n
    have noA : ∀ {b : Addr} {o : Obj} {es : Array DictEntry} {ep : Nat}, s₁.heap.get? b = some o → o.data = .dict es ep → H b = none := fun {b o es ep} e d => by
      cases q : H b with
      | none => rfl
      | some u =>
        have e' : b = a := hA b (by rw [q]; simp)
        subst e'
        rw [ha] at e; cases e
        have d' : Data.seq vs.toArray _ = Data.dict es ep := d
        cases d'
    have nsK : ∀ {b : Addr} {m : Str → Option Value}, s₁.heap.Ns b m → (hidT s₁.heap H).Ns b m := fun {b m} ⟨o, es, ep, e, d, r⟩ => ⟨o, es, ep, base_of e (noA e d), d, r⟩
    have hKb : K.In (hidT s₁.heap H) := fun b o e => base_of (KX b o e) (by
      cases q : H b with
      | none => rfl
      | some u =>
        have e' : b = a := hA b (by rw [q]; simp)
        subst e'
        rw [hK (by rw [q]; simp)] at e; cases e)
    have hM : Mod K mg (hidT s₁.heap H) := ⟨hKb, nsK hns, ⟨mb, nsK hb, hbb⟩, let ⟨mc, h1, h2⟩ := hlim; ⟨mc, nsK h1, h2⟩⟩
    have e0 : Env0 P w K mg (hidT s₁.heap H) callerA [] s₁ H := ⟨rfl, hM, fun b o e => of_hidT e, Nat.le_of_eq (hidT_size _ _), trivial, fun b hb => absurd (show b ∈ ([] : List Addr) from hb) (by simp), hok, .of_eq hg⟩
    refine codeAny_mono ((F _ hKb (nsK hns)).run callerA [] s₁ H ⟨[.ref a], []⟩ [.ref a] [.ref a] _ _ hr e0 (hbind s₁ (.ref a)) (.cons rfl .nil) (hsp H hO hS)) fun r s' h => ?_
    cases r with
    | error e => exact (hCX H e s' h).elim
    | ok fl =>
      cases fl with
      | next => exact False.elim h
      | brk => exact False.elim h
      | cont => exact False.elim h
      | ret u =>
        obtain ⟨v, H', os, bare, un, hok', r', q⟩ := h
        have q' : v = .bl true := q
        subst q'
        obtain rfl : u = Value.bool true := r'
        refine ⟨rfl, OldK.of_keep fun b o e => ?_, os, bare⟩
        cases q : H b with
        | none => exact un.keep b o e q (by intro z; exact absurd (show b ∈ ([] : List Addr) from z) (by simp)) (by simp)
        | some u =>
          rcases hO b with z | ⟨ob, xs, z⟩
          · rw [q] at z; cases z
          · have z2 := un.frzs b ob _ z
            obtain ⟨e1, _⟩ := hok b _ z
            obtain ⟨e2, _⟩ := hok' b _ z2
            rw [e] at e1; cases e1
            exact e2
  cases hk : K.lookup a with
  | some o =>
    -- the script is one of the module's own objects
    have e := KX a o hk
    rw [ha] at e
    cases e
    refine core (fun _ => none) (fun _ => .inl rfl) (.inr ⟨_, vs.toArray, _, hk, rfl, rfl, rfl, by rw [List.size_toArray, lenV]; exact hl, by simpa using rv⟩) (fun b u z => by have z' : (none : Option HO) = some u := z; cases z') (fun b z => absurd rfl z) fun z => absurd rfl z
  | none =>
    refine core (fun b => if b = a then some (.frz { cls := .type "list", data := .seq vs.toArray } (.lst (ns.map V.int))) else none) (fun b => ?_) (.inl (.inr ⟨{ cls := .type "list", data := .seq vs.toArray }, if_pos rfl⟩)) (fun b u z => ?_) (fun b z => ?_) fun _ => hk
    · by_cases hb : b = a
      · exact .inr ⟨_, _, if_pos hb⟩
      · exact .inl (if_neg hb)
    · by_cases hb : b = a
      · have z' := (if_pos hb).symm.trans z
        cases z'
        subst hb
        exact ⟨ha, by rw [List.length_map]; exact hl, vs, _, rv, ha⟩
      · have z' := (if_neg hb).symm.trans z
        cases z'
    · by_cases hb : b = a
      · exact hb
      · exact absurd (if_neg hb) z
end L2

namespace L2
open PySem PySem.Spec PyProof.Rows

abbrev KOf {K : PySem.W.Frag} {h : Heap} (_ : K.In h) : PySem.W.Frag := K

/-- the goal that k_head leaves (case hc), from the law's promise. F gives the function object fd (K's own) once, then the promise over every base -/
theorem walk_of {l : PySem.W.OpenLaw} {n k : Nat} {q : Program} {loose : List Str} {XP : (Str → Option Value) → Heap → Prop} {YP : World → Heap → Prop} {d : DefRec} {K : Params → PySem.W.Frag} {CX : World → CXT} {sp : World → Sp} {x : Str}
    (hn : l.most = some n) (hn2 : n ≤ sizeLine) (hdf : d.params.defaults = []) (hr : Room k callerA)
    (hY : ∀ (w : World) (h : Heap), YP w h → (K w.params).In h)
    (F : ∀ (w : World) (mg : Str → Option Value) (fa : Addr) (h : Heap), (K w.params).In h → h.Ns mainGlobals mg → mg d.name = some (.ref fa) →
      ∃ fd : FuncData, (∀ (s : Shared) (u : Value), BindsTo s fd ⟨[u], []⟩ [(x, u)]) ∧
        ∀ base : Heap, (K w.params).In base → base.Ns mainGlobals mg → FnOk l.prog w (K w.params) mg base (CX w) k fa fd [x] (sp w))
    (hsp : ∀ (w : World) (H : Hp) (a : Addr) (ns : List Int), ns.length ≤ n → Only H → SqL (K w.params) H a (ns.map V.int) → sp w [.ref a] H (fun v _ => v = .bl true) fun _ _ _ => False)
    (hCX : ∀ (w : World) (H : Hp) (s : Shared) (e : Value) (s' : Shared), CX w [] H s (fun _ _ _ => False) e s' → False) :
    PySem.W.WalkO q loose XP YP l.row.toRowW d [] (fun f vs => PySem.call f vs) := by
  refine Att.attach_call hn hdf fun w s₀ s₁ mg mb fa o pm cd doc a vs ns G Y ho hd hcd hmg hobj hints hlen hg => ?_
  have KX := hY w _ Y
  obtain ⟨fd, hb, hF⟩ := F w mg fa _ KX G.T.g hmg
  exact law_call KX G.T.g G.T.b G.T.builtins G.T.nolimit hg hobj hints (Nat.le_trans hlen hn2) hr hF hb (fun H hO hS => hsp w H a ns hlen hO hS) fun H e s' => hCX w H s₁ e s'
/-- the same where the promise hangs on the written part alone: (sp := My.sp_law), no hole under a binder -/
theorem walk_ofK {l : PySem.W.OpenLaw} {n k : Nat} {q : Program} {loose : List Str} {XP : (Str → Option Value) → Heap → Prop} {YP : World → Heap → Prop} {d : DefRec} {K : Params → PySem.W.Frag} {CX : CXT} {sp : PySem.W.Frag → Sp} {x : Str}
    (hn : l.most = some n) (hn2 : n ≤ sizeLine) (hdf : d.params.defaults = []) (hr : Room k callerA)
    (hY : ∀ (w : World) (h : Heap), YP w h → (K w.params).In h)
    (F : ∀ (w : World) (mg : Str → Option Value) (fa : Addr) (h : Heap), (K w.params).In h → h.Ns mainGlobals mg → mg d.name = some (.ref fa) →
      ∃ fd : FuncData, (∀ (s : Shared) (u : Value), BindsTo s fd ⟨[u], []⟩ [(x, u)]) ∧
        ∀ base : Heap, (K w.params).In base → base.Ns mainGlobals mg → FnOk l.prog w (K w.params) mg base CX k fa fd [x] (sp (K w.params)))
    (hsp : ∀ (K : PySem.W.Frag) (H : Hp) (a : Addr) (ns : List Int), ns.length ≤ n → Only H → SqL K H a (ns.map V.int) → sp K [.ref a] H (fun v _ => v = .bl true) fun _ _ _ => False)
    (hCX : ∀ (H : Hp) (s : Shared) (e : Value) (s' : Shared), CX [] H s (fun _ _ _ => False) e s' → False) :
    PySem.W.WalkO q loose XP YP l.row.toRowW d [] (fun f vs => PySem.call f vs) :=
  walk_of (K := K) (CX := fun _ => CX) (sp := fun w => sp (K w.params)) hn hn2 hdf hr hY F (fun w H a ns h1 h2 h3 => hsp (K w.params) H a ns h1 h2 h3) fun _ H s e s' => hCX H s e s'
end L2

/- THE LAST THEOREM (shape; LID, My.* are yours):
   My.Adr: a structure of the addresses that your layer names (classes, functions); My.Txt K t: a structure (Prop) of the equations over K;
   My.txt_mk : {K} {implicit addresses ..} (e1 : nsIn K mainGlobals "law" = some (some (.ref f))) (e2 : K.lookup f = some ⟨oc, od, .func (fnOf "law" "law" params body scope dV kV doc pm an cdv ct), sl⟩) (e3 : codeIn K cdv "law" = true) .. : ∃ t, My.Txt K t

set_option maxRecDepth 100000 in
set_option maxHeartbeats 0 in
theorem PySem.Challenge.cw_LID_holds : PySem.Challenge.rw_LID.Holds := by
  w_on; o_law; k_head; (case hw => w_witness2)
  k_fill
  refine L2.walk_of (l := PySem.Challenge.rw_LID) (n := 63) (k := 40) (x := "script") (CX := fun w => ..) (sp := fun _ => My.sp_law) rfl (by decide) rfl ⟨rfl, by decide, by decide⟩ (fun w h Y => PySem.W.kIn_of Y) ?F ?S ?C
  case F =>
    intro w mg fa h KX G hmg
    have T : ∃ t, My.Txt (L2.KOf KX) t := by
      dsimp only [L2.KOf]                          -- K must stand as «<heap const> w.params» for k_is
      refine' My.txt_mk ?e1 ?e2 ?e3 ..
      (case e1 => PySem.W.k_is)                    -- in the order: a name -> its address -> its object -> its parts
      (case e2 => PySem.W.k_is)
      ..
    obtain ⟨t, T⟩ := T
    have e0 := hmg.symm.trans (PySem.W.mg_of KX G T.law)
    cases e0                                       -- fa is the law's own address
    exact ⟨_, fun s u => .of_eq rfl, fun base kb nb => My.law_fn T kb nb⟩     -- if «.of_eq rfl» comes too early: refine' ⟨_, ?b, fun base kb nb => My.law_fn T kb nb⟩; exact fun s u => .of_eq rfl
  case S => exact fun w H a ns hl hO hS => ..
  case C => exact ..
(the tactic k_is has no namespace: write k_is) -/

/-! SHORT WORDS over the layer: a def of the text, its body, what a loop and a test want. -/
namespace L2
open PySem PySem.Spec PyProof.Rows

/-! ### the text by places -/
/-- the j-th statement of a class's body -/
def inClass (s : Stmt) (j : Nat) : Stmt := match s with
  | .ClassDef _ _ _ body _ _ _ _ _ _ _ => body.getD j (.Pass ⟨0, 0, 0, 0⟩)
  | _ => .Pass ⟨0, 0, 0, 0⟩
def defArgs (s : Stmt) : Arguments := match s with
  | .FunctionDef _ a _ _ _ _ _ _ _ _ => a
  | _ => { posonlyargs := [], args := [], vararg := none, kwonlyargs := [], kw_defaults := [], kwarg := none, defaults := [] }
def defBody (s : Stmt) : List Stmt := match s with
  | .FunctionDef _ _ b _ _ _ _ _ _ _ => b
  | _ => []
def defScope (s : Stmt) : Scope := match s with
  | .FunctionDef _ _ _ _ _ _ sc _ _ _ => sc
  | _ => { kind := .function, names := [], isGenerator := false, isCoroutine := false }

/-! ### no exception leaves a def -/
abbrev CX0 : CXT := fun _ _ _ _ _ _ => False
abbrev E0 : XK := fun _ _ _ => False
theorem pass0 {X : Cx} : Passes CX0 X E0 := fun _ _ _ _ _ _ _ h => h.elim

/-! ### a def (or method) of the text as it stands behind the top -/
structure Fun (K : PySem.W.Frag) (x qual : Str) (st : Stmt) (f : Addr) (fd : FuncData) : Prop where
  ex : ∃ (oc : Value) (od : Option Addr) (kV doc pm : Value) (an : Option Addr) (cdv ct : Value) (osl : Array (Option Value)),
    fd = PySem.W.fnOf x qual (defArgs st) (defBody st) (defScope st) .none kV doc pm an cdv ct ∧ K.lookup f = some ⟨oc, od, .func fd, osl⟩ ∧ PySem.W.codeIn K cdv qual = true
  kp : PySem.W.keepIn K (.ref f) = true
section
variable {P : Program} {w : World} {K : PySem.W.Frag} {mg : Str → Option Value} {base : Heap}
/-- THE RULE for a def: its body as a term of rules, and the reading of that term -/
theorem Fun.ok {x qual : Str} {st : Stmt} {f : Addr} {fd : FuncData} {N ps : List Str} {k : Nat} {sp : Sp} (F : Fun K x qual st f fd) (S : FnScope N ps (defScope st)) (len : ∀ vs H Q E, sp vs H Q E → vs.length = ps.length)
    (hbody : ∀ (cdv : Value) (A : Around) (outer : List Env) (s : Shared) (H : Hp) (vs : List V) (Q : VK) (E : XK), Room k (A.deeper (envOfC qual (defScope st) s.heap.objs.size f cdv)) → sp vs H Q E →
      ∃ t, PSs (cxOf CX0 P w K mg base N qual (defScope st) f cdv A outer s H E).nox (defBody st) t ∧ t { nx := fun _ H' => Q .non H', rt := Q } (start N vs) H) : FnOk P w K mg base CX0 (k + 1) f fd ps sp := by
  obtain ⟨oc, od, kV, doc, pm, an, cdv, ct, osl, rfl, lk, hcd⟩ := F.ex
  refine fn_of lk hcd S len fun A outer s H vs Q E hr hsp => ?_
  obtain ⟨t, h, q⟩ := hbody cdv A outer s H vs Q E hr hsp
  exact ⟨t, h.nox, q⟩
/-- how its arguments bind (no defaults): h is «fun _ _ _ _ _ _ us hl => match us, hl with | [_, _], _ => rfl», one _ a parameter -/
theorem Fun.binds {x qual : Str} {st : Stmt} {f : Addr} {fd : FuncData} {ps : List Str} (F : Fun K x qual st f fd)
    (h : ∀ (kV doc pm : Value) (an : Option Addr) (cdv ct : Value) (us : List Value), us.length = ps.length → bindArgs (PySem.W.fnOf x qual (defArgs st) (defBody st) (defScope st) .none kV doc pm an cdv ct) ⟨us, []⟩ = pure (ps.zip us)) : Binds K fd ps [] := by
  obtain ⟨oc, od, kV, doc, pm, an, cdv, ct, osl, rfl, lk, hcd⟩ := F.ex
  exact .all (h kV doc pm an cdv ct)
theorem fun_mk {x qual : Str} {st : Stmt} {f : Addr} {oc : Value} {od an : Option Addr} {osl : Array (Option Value)} {kV doc pm cdv ct : Value} (l : K.lookup f = some ⟨oc, od, .func (PySem.W.fnOf x qual (defArgs st) (defBody st) (defScope st) .none kV doc pm an cdv ct), osl⟩)
    (c : PySem.W.codeIn K cdv qual = true) (k : PySem.W.keepIn K (.ref f) = true) : Fun K x qual st f (PySem.W.fnOf x qual (defArgs st) (defBody st) (defScope st) .none kV doc pm an cdv ct) := ⟨⟨oc, od, kV, doc, pm, an, cdv, ct, osl, rfl, l, c⟩, k⟩
end
theorem hu_of {A : Around} {k : Nat} (hr : Room k A) : A.units + 1 < cLine := Nat.lt_of_le_of_lt (Nat.add_le_add_left (by decide : 1 ≤ 64) _) hr.units
theorem small1000 {n : Nat} (h : n ≤ 1000) : n < sizeLine := Nat.lt_of_le_of_lt h (by decide)

/-! ### expressions in short: the name that stands in the i-th slot -/
section
variable {X : Cx}
theorem pv (i : Nat) {x : Str} {pos : Pos} (hN : X.N[i]? = some x := by rfl) (hv : Vis X.env.scope x := by first | exact Or.inl rfl | exact Or.inr (Or.inl rfl) | exact Or.inr (Or.inr rfl)) (hd : (x == ("__debug__" : Str)) = false := by decide)
    (hcd : (x == ("__classdict__" : Str)) = false := by decide) : PE X (.Name x pos) (tVar i) := pe_var hN hv hd hcd
end

/-! ### tests -/
theorem iteF {A B : Prop} (h : B) : if false = true then A else B := by
  rw [if_neg Bool.false_ne_true]
  exact h
theorem iteT {A B : Prop} (h : A) : if true = true then A else B := by
  rw [if_pos rfl]
  exact h
theorem ite2 {c A B : Prop} [Decidable c] (h1 : c → A) (h2 : ¬ c → B) : if c then A else B := by
  by_cases h : c
  · rw [if_pos h]
    exact h1 h
  · rw [if_neg h]
    exact h2 h
/-! ### heaps -/
/-- all that was tracked is as it was -/
def Same (H H' : Hp) : Prop := ∀ b o, H b = some o → H' b = some o
theorem Same.refl (H : Hp) : Same H H := fun _ _ h => h
theorem Same.trans {H H1 H2 : Hp} (a : Same H H1) (b : Same H1 H2) : Same H H2 := fun c o h => b c o (a c o h)
theorem Same.free {H H' : Hp} (e : Same H H') {l : Addr} (h : H' l = Option.none) : H l = Option.none := by
  cases q : H l with
  | none => rfl
  | some o =>
    rw [e l o q] at h
    cases h
theorem Same.seq {K : PySem.W.Frag} {H H' : Hp} {a : Addr} {xs : List V} (e : Same H H') (h : SqL K H a xs) : SqL K H' a xs := by
  rcases h with (h | ⟨o, h⟩) | h
  · exact .inl (.inl (e _ _ h))
  · exact .inl (.inr ⟨o, e _ _ h⟩)
  · exact .inr h

end L2

/-! ## More rules over the hand layer (own text). -/
namespace L2
open PySem PySem.Spec PyProof.Rows

section
variable {X : Cx}
/-! ### either of two readings -/
end

/-! ### a text's signs, walked -/
def Its (z : Str) : It := ⟨fun i _ => i < z.length, fun i H x H' => H' = H ∧ ∃ c, z.cps[i]? = some c ∧ x = .str ⟨#[c]⟩, fun i _ => i = z.length⟩
theorem walks_str {prog : Program} {w : World} {A : Around} (hh : A.handled = none) (I : Addr) (x : Str) (t : Tok) :
    Walks prog w A I [I] [I] x.cps.size (SignAt x) (fun i h => h.IsStrIter I (strIterType x) x t i) := by
  unfold strIterType
  split
  · exact Walks.strAscii hh I x t
  · exact Walks.strWide hh I x t
theorem strIter_plain (z : Str) : ["enumerate", "zip", "dict_itemiterator", "dict_reverseitemiterator", "odict_iterator", "itertools.zip_longest", "itertools.pairwise"].contains (strIterType z) = false := by
  unfold strIterType
  split <;> decide
theorem turn_str {P : Program} {w : World} {K : PySem.W.Frag} {tg : Expr} (z : Str) (t : Tok) (it : Addr) : Turn P w K tg (Its z) [it] it (fun i h => h.IsStrIter it (strIterType z) z t i) where
  mem := by simp
  obj := fun i h st b hb => by
    have e : b = it := by simpa using hb
    subst e
    obtain ⟨o, e, c, d⟩ := st
    exact ⟨o, e, fun v q => by rw [d] at q; cases q⟩
  keep := fun i h h' st k => by
    obtain ⟨o, e, r⟩ := st
    exact ⟨o, k it (by simp) o e, r⟩
  item := by
    intro X hP hw hK hc i pins s σ H E I hf st hg
    subst hP hw hK
    obtain ⟨f0, f1, f2, f3, f4, f5⟩ := hf it (by simp)
    have W := walks_str (prog := X.prog) (w := X.w) (I.ok.hd hc) it z t
    refine W.item i s _ _ (show i < z.cps.size from hg) st fun v h' tk hv st' kk => ?_
    obtain ⟨c, u, hcx, rfl⟩ := hv
    have I1 : Inv X pins σ H { s with heap := h', toks := tk } := I.turned (fun b o hb e => kk b o (by simpa using hb) e) f0 f1 f3 f4 f5
    obtain ⟨o, e, hcl, d⟩ := id st'
    exact ⟨_, rfl, go_of (s := { s with heap := h', toks := tk }) e hcl d (strIter_plain z) ⟨.str ⟨#[c]⟩, H, I1, ⟨u, rfl⟩, ⟨rfl, c, hcx, rfl⟩, st', fun b hb => (hf b hb).1⟩⟩
  done := by
    intro X hP hw hK hc i pins s σ H E I hf st hg
    subst hP hw hK
    obtain ⟨f0, f1, f2, f3, f4, f5⟩ := hf it (by simp)
    have hi : i = z.length := hg
    subst hi
    have W := walks_str (prog := X.prog) (w := X.w) (I.ok.hd hc) it z t
    exact W.done s _ _ st fun h' tk kk => ⟨rfl, I.turned (fun b o hb e => kk b o (by simpa using hb) e) f0 f1 f3 f4 f5⟩
  self := fun A i s Q E st h => by
    revert st
    unfold strIterType
    split
    · intro st
      exact wpAny_pyIter_striter_ascii st h
    · intro st
      exact wpAny_pyIter_striter_wide st h
section
variable {X : Cx} {tg : Expr}
def iStr (tl : TE) : TI := fun σ H R => tl σ H fun x H1 => ∃ z, x = .str z ∧ R (Its z) H1
theorem pi_str {l : Expr} {tl : TE} (hl : PE X l tl) : PI X tg l (iStr tl) := by
  intro pins s σ H R I h
  refine thn (hl pins s σ H _ I h) fun v s1 ⟨x, H1, I1, r1, q1⟩ => ?_
  obtain ⟨z, e, q⟩ := q1
  subst e
  obtain ⟨t, rfl⟩ := r1
  refine wpAny_pyIter_strU ?_
  refine ⟨s1.heap.objs.size, [s1.heap.objs.size], _, _, H1, rfl, I1.kept (t' := s1.toks) fun b o e => Heap.get?_push_of_some _ e, turn_str z t _, ⟨_, Heap.get?_push_size _ rfl, rfl, rfl⟩, fun b hb => ?_, q⟩
  have e : b = s1.heap.objs.size := by simpa using hb
  subst e
  exact I1.fpOk (Nat.le_refl _) (I1.hok.fresh (Nat.le_refl _))
end
/-! ### texts: slices, join, *, find -/
def rSlS : V → Option Int → Option Int → Hp → VK → Prop := fun x lo hi H Q => ∃ z, x = .str z ∧ z.length ≤ sizeLine ∧ Q (.str (Txt.slice z lo hi)) H
section
variable {X : Cx}
theorem strsAre_of {ns : List Str} : ∀ {us : List Value}, Vals (ns.map V.str) us → StrsAre us ns := by
  induction ns with
  | nil => intro us h; cases h; exact .nil
  | cons n ns ih =>
    intro us h
    cases h with
    | cons r t =>
      obtain ⟨tk, rfl⟩ := r
      exact .cons n tk (ih t)
/-- sep.join(a list of texts) -/
def rJoin (K : PySem.W.Frag) : V → List V → Hp → VK → Prop := fun x vs H Q => ∃ z p ys, x = .str z ∧ vs = [.ref p] ∧ SqL K H p (ys.map V.str) ∧ (ys.map (·.length)).sum + ys.length * z.length ≤ 16777216 ∧ Q (.str (Txt.join z ys)) H
theorem mt_join : MtR X "str.join" (rJoin X.K) := by
  intro pins s σ H x vs v us Q I rx rv h
  obtain ⟨z, p, ys, rfl, rfl, hq, hz, q⟩ := h
  obtain ⟨t, rfl⟩ := rx
  obtain ⟨u, rfl, ru⟩ := rv.one
  cases ru
  obtain ⟨its, r, pl, _⟩ := I.list hq
  exact join_list pl.isList (strsAre_of (by simpa using r)) hz fun t' k => ⟨.str (Txt.join z ys), H, I.tok _, ⟨t', rfl⟩, q⟩
/-- x * n of a text -/
def rMulS : R2 := fun x y H Q => ∃ z n, x = .str z ∧ y = .int n ∧ MulOk z n ∧ Q (.str (Txt.mul z n)) H
def rFind : V → List V → Hp → VK → Prop := fun x vs H Q => ∃ z y, x = .str z ∧ vs = [.str y] ∧ Q (.int (Txt.find z y)) H
/-! ### int(text) -/
theorem call_int_text : CallR X (.type "int") (fun xs H Q => ∃ z n, xs = [.str z] ∧ PySem.intText? z = some n ∧ z.length ≤ 640 ∧ Q (.int n) H) := by
  intro pins s σ H xs us Q I r h
  obtain ⟨z, n, rfl, hn, hl, q⟩ := h
  obtain ⟨u, rfl, t, rfl⟩ := vals1 r
  exact PySem.W.KIN.call_text hn hl ⟨.int n, H, I.tok _, ⟨_, rfl⟩, q⟩

/-! ### is True, is False -/
/-! ### isinstance -/
def clsV : V → Value
  | .ty n => .type n
  | .ref a => .ref a
  | _ => .none
theorem call_isinst : CallR X (.builtin "isinstance") (fun xs H Q => ∃ x c t b, xs = [x, c] ∧ ((∃ n, c = .ty n) ∨ ∃ a, c = .ref a) ∧ TyOf X.K H x t ∧ PySem.W.kitOne X.K t (clsV c) = some b ∧ Q (.bl b) H) := by
  intro pins s σ H xs us Q I r h
  obtain ⟨x, c, t, b, rfl, hc, ty, hk, q⟩ := h
  obtain ⟨u, u', rfl, rx, rc⟩ := vals2 r
  have e : u' = clsV c := by
    rcases hc with ⟨n, rfl⟩ | ⟨a, rfl⟩
    · exact rc
    · exact rc
  subst e
  exact isinst_ok I rx ty hk fun tk => ⟨.bl b, H, I.tok _, rfl, q⟩

/-! ### all(a list of truths) -/
theorem range_all (bs : List Bool) : (List.range bs.length).all (fun i => bs.getD i true) = bs.all id := by
  rw [Bool.eq_iff_iff, List.all_eq_true, List.all_eq_true]
  constructor
  · intro h x hx
    obtain ⟨i, hi, e⟩ := List.getElem_of_mem hx
    have := h i (List.mem_range.mpr hi)
    rw [List.getD_eq_getElem?_getD, List.getElem?_eq_getElem hi] at this
    rw [← e]
    exact this
  · intro h i hi
    have hi' := List.mem_range.mp hi
    rw [List.getD_eq_getElem?_getD, List.getElem?_eq_getElem hi']
    exact h _ (List.getElem_mem hi')
theorem call_all_list (hc : X.calm = true) : CallR X (.builtin "all") (fun xs H Q => ∃ (p : Addr) (bs : List Bool), xs = [.ref p] ∧ SqL X.K H p (bs.map V.bl) ∧ Q (.bl (bs.all id)) H) := by
  intro pins s σ H xs us Q I r h
  obtain ⟨p, bs, rfl, hq, q⟩ := h
  obtain ⟨u, rfl, ru⟩ := vals1 r
  cases ru
  obtain ⟨its, rv, pl, _⟩ := I.list hq
  have hl := rv.length
  rw [List.length_map] at hl
  refine call_all_walk (wpAny_pyIter_list pl.isList ?_)
  have hne : p ≠ s.heap.objs.size := Nat.ne_of_lt (by obtain ⟨o, n, e, _⟩ := pl; exact Heap.lt_size e)
  refine ⟨s.heap.objs.size, _, _, _, _, _, fun i => bs.getD i true, rfl, Walks.list (show X.A.in1.handled = none from I.ok.hd hc) s.heap.objs.size p hne its.toArray, ⟨⟨_, Heap.get?_push_size _ rfl, rfl, rfl⟩, ?_⟩, ?_, ?_⟩
  · obtain ⟨o, e, rest⟩ := pl.isList
    exact ⟨o, Heap.get?_push_of_some _ e, rest⟩
  · intro i v s' Q' E' hv hQ'
    have hv' : its[i]? = some v := by simpa using hv
    have hi : i < bs.length := by rw [hl]; exact (List.getElem?_eq_some_iff.mp hv').1
    obtain ⟨u, e1, e2⟩ := rv.get (i := i) (x := V.bl bs[i]) (by rw [List.getElem?_map, List.getElem?_eq_getElem hi]; rfl)
    rw [hv'] at e1
    cases e1
    cases e2
    dsimp only at hQ'
    rw [List.getD_eq_getElem?_getD, List.getElem?_eq_getElem hi] at hQ'
    exact wpAny_truthy_bool hQ'
  · intro h' tk kk
    have I1 : Inv X pins σ H { s with heap := h', toks := tk } := I.kept fun b o e => kk b o (by
      intro z
      have z' : b = s.heap.objs.size := by simpa using z
      exact absurd (Heap.lt_size e) (by rw [z']; exact Nat.lt_irrefl _)) (Heap.get?_push_of_some _ e)
    refine ⟨.bl _, H, I1, ?_, q⟩
    show Value.bool _ = Value.bool _
    rw [List.size_toArray, ← hl, range_all]

/-! ### data compared at any depth -/
mutual
/-- what a value is, read through the heap -/
inductive RdD (K : PySem.W.Frag) (H : Hp) : V → PyData → Prop where
  | non : RdD K H .non .none
  | bl (b : Bool) : RdD K H (.bl b) (.bool b)
  | int (i : Int) : RdD K H (.int i) (.int i)
  | str (x : Str) : RdD K H (.str x) (.str x)
  | lst {a : Addr} {xs : List V} {ds : List PyData} : SqL K H a xs → RdDs K H xs ds → RdD K H (.ref a) (.list ds)
  | tup {a : Addr} {xs : List V} {ds : List PyData} : SqT K H a xs → RdDs K H xs ds → RdD K H (.ref a) (.tuple ds)
inductive RdDs (K : PySem.W.Frag) (H : Hp) : List V → List PyData → Prop where
  | nil : RdDs K H [] []
  | cons {x : V} {xs : List V} {d : PyData} {ds : List PyData} : RdD K H x d → RdDs K H xs ds → RdDs K H (x :: xs) (d :: ds)
end
mutual
theorem RdD.reads {pins : List (Addr × Obj)} {σ : St} {H : Hp} {s : Shared} (I : Inv X pins σ H s) : ∀ {x : V} {d : PyData} {v : Value}, RdD X.K H x d → RelV x v → ∃ as, Reads s.heap v d as
  | _, _, _, .non, r => by cases r; exact ⟨_, .none⟩
  | _, _, _, .bl b, r => by cases r; exact ⟨_, .bool b⟩
  | _, _, _, .int i, r => by obtain ⟨t, rfl⟩ := r; exact ⟨_, .int i t⟩
  | _, _, _, .str x, r => by obtain ⟨t, rfl⟩ := r; exact ⟨_, .str x t⟩
  | _, _, _, .lst hq rs, r => by
    cases r
    obtain ⟨its, rv, pl, _⟩ := I.list hq
    obtain ⟨as, ra⟩ := RdDs.reads I rs rv
    obtain ⟨o, n, e, c, _, d⟩ := pl
    exact ⟨_, .list e c d (by simpa using ra)⟩
  | _, _, _, .tup hq rs, r => by
    cases r
    obtain ⟨its, rv, pl, _⟩ := I.tuple hq
    obtain ⟨as, ra⟩ := RdDs.reads I rs rv
    obtain ⟨o, e, c, n, d⟩ := pl
    exact ⟨_, .tuple e c d (by simpa using ra)⟩
theorem RdDs.reads {pins : List (Addr × Obj)} {σ : St} {H : Hp} {s : Shared} (I : Inv X pins σ H s) : ∀ {xs : List V} {ds : List PyData} {vs : List Value}, RdDs X.K H xs ds → Vals xs vs → ∃ as, ReadsAll s.heap vs ds as
  | _, _, _, .nil, r => by cases r; exact ⟨_, .nil⟩
  | _, _, _, .cons q qs, r => by
    cases r with
    | cons r rs =>
      obtain ⟨as, ra⟩ := RdD.reads I q r
      obtain ⟨bs, rb⟩ := RdDs.reads I qs rs
      exact ⟨_, .cons ra rb⟩
end
def rEqD (K : PySem.W.Frag) (neg : Bool) : R2 := fun x y H Q => ∃ d e, RdD K H x d ∧ RdD K H y e ∧ SeqAt.shaped d = true ∧ SeqAt.shaped e = true ∧ Q (.bl (if neg then !PyData.eqv d e else PyData.eqv d e)) H
theorem op_eqD (hu : X.A.units + 64 < cLine) : OpR X (compareOp .Eq) (rEqD X.K false) := by
  intro pins s σ H x y v u Q I rx ry h
  obtain ⟨d, e, h1, h2, h3, h4, q⟩ := h
  obtain ⟨as, ra⟩ := h1.reads I rx
  obtain ⟨bs, rb⟩ := h2.reads I ry
  exact eq_dataH ra rb h3 h4 hu ⟨.bl _, H, I, rfl, q⟩
/-- texts alone -/
theorem RdDs.strs {K : PySem.W.Frag} {H : Hp} : ∀ xs : List Str, RdDs K H (xs.map V.str) (xs.map PyData.str)
  | [] => .nil
  | x :: r => .cons (.str x) (RdDs.strs r)
theorem eqvAll_map {α : Type} [DecidableEq α] {f : α → PyData} (hf : ∀ x y, PyData.eqv (f x) (f y) = decide (x = y)) (xs : List α) : ∀ ys : List α, PyData.eqvAll (xs.map f) (ys.map f) = decide (xs = ys) := by
  induction xs with
  | nil => intro ys; cases ys <;> simp [PyData.eqvAll]
  | cons x r ih =>
    intro ys
    cases ys
    · simp [PyData.eqvAll]
    · simp [PyData.eqvAll, hf, ih]
theorem eqvAll_strs (xs ys : List Str) : PyData.eqvAll (xs.map PyData.str) (ys.map PyData.str) = decide (xs = ys) := eqvAll_map (fun x y => by rw [PyData.eqv]; by_cases h : x = y <;> simp [h]) xs ys
theorem canLay_strs : ∀ xs : List Str, (∀ x ∈ xs, PyData.strOk x = true) → PyData.canLayAll0 (xs.map PyData.str) = true ∧ PyData.depthAll (xs.map PyData.str) = 0
  | [], _ => ⟨rfl, rfl⟩
  | x :: r, h => by
    have q := canLay_strs r fun y hy => h y (List.mem_cons_of_mem _ hy)
    simp [PyData.canLayAll0, PyData.canLay0, PyData.depthAll, PyData.depth, q.1, q.2, h x List.mem_cons_self]
theorem shaped_strs {xs : List Str} (h : ∀ x ∈ xs, PyData.strOk x = true) : SeqAt.shaped (.list (xs.map PyData.str)) = true := by
  have q := canLay_strs xs h
  simp [SeqAt.shaped, PyData.canLay0, PyData.depth, q.1, q.2]
end

/-! ### C.f(self, ..): a def of a class, by the class's name -/
section
variable {X : Cx} {CX : CXT} {k : Nat} {f C : Addr} {fd : FuncData} {ps : List Str} {sp : Sp} {dvs : List V} {ds : List Value} {E : XK} {x m : Str} {p pos apos : Pos} {e : Expr} {es : List Expr} {t : TA}
structure CMeth (K : PySem.W.Frag) (C : Addr) (m : Str) (f : Addr) : Prop where
  ga : PySem.W.specialIn K (.ref C) "__getattribute__" = some (some (.builtin "type.__getattribute__"))
  rd : PySem.W.readsIn K C (.type "type") = true
  at_ : PySem.W.findCls K (.ref C) (.type "type") m = some (.val (.ref f))
  kp : PySem.W.keepIn K (.ref f) = true
theorem pe_cmeth {pl : Sem Bool} (hg : Gl X x) (hm : X.mg x = some (.ref C)) (c : CMeth X.K C m f) (F : FnOk X.prog X.w X.K X.mg X.base CX k f fd ps sp) (hr : Room k X.A) (hb : Binds X.K fd ps ds) (hd : Vals dvs ds) (hx : Passes CX X E) (ha : PA X (e :: es) t)
    (hst : starEach (e :: es) X.env = (false, eval e X.env) :: starEach es X.env := by rfl) (hpl : (backTo pos (starEach es X.env)).any (·.1) = false := by rfl) (hdb : (x == ("__debug__" : Str)) = false := by decide)
    (ht : eval (.Call (.Attribute (.Name x p) m apos) (e :: es) [] pos) X.env = (do
      let ov ← eval (.Name x p) X.env
      standAt apos.atName
      let (f, first) ← holding [ov] (getMethod ov m pl)
      callWith pos f first (backTo pos (starEach (e :: es) X.env)) (backToKw pos (keywordEach [] X.env))) := by rfl) :
    PE X (.Call (.Attribute (.Name x p) m apos) (e :: es) [] pos) (tCall sp dvs E t) := by
  intro pins s σ H Q I h
  refine PySem.W.methodCall_KW (pl := pl) (ld_glob I hg hm ?_ hdb) ht
  refine PySem.W.method_cls I.kIn c.ga (PySem.W.cls_value I.kIn c.rd c.at_ rfl ?_)
  refine PySem.W.callWith_K (first := []) (h₀ := X.base) I.ok.mod.kin c.kp (thn (ha pos pins _ σ H _ (I.tok _) h) fun us s1 ⟨vs, H1, I1, r, q⟩ => ⟨I1.kIn, ?_⟩) hst hpl
  exact run_fn F hr hb hd hx I1 r q
end
end L2

/-! ## A list comprehension over the hand layer (own text): one clause, no test, a name as its target. -/
namespace L2
open PySem PySem.Spec PyProof.Rows

/-! ### the block's closure -/
def closOf (env : Env) : List (Str × NameKind) → List (Str × Addr) → List (Str × Addr)
  | [], acc => acc
  | (n, k) :: r, acc => closOf env r (if k == .free then (n, (env.cells.lookup n).getD 0) :: acc else acc)
theorem closureFor_of {sc : Scope} {env : Env} (h : ∀ y ∈ sc.names, y.2 = .free → ∃ c, env.cells.lookup y.1 = some c) : closureFor sc env = pure (closOf env sc.names []) := by
  simp only [closureFor]
  have key : ∀ (l : List (Str × NameKind)) (acc : List (Str × Addr)), (∀ y ∈ l, y.2 = .free → ∃ c, env.cells.lookup y.1 = some c) →
      (forIn l acc (fun (x : Str × NameKind) (r : List (Str × Addr)) => if (x.2 == NameKind.free) = true then do let a ← cellOf env x.1; pure (ForInStep.yield ((x.1, a) :: r)) else pure (ForInStep.yield r)) : Sem (List (Str × Addr))) = pure (closOf env l acc) := by
    intro l
    induction l with
    | nil => intro acc _; rfl
    | cons y r ih =>
      intro acc hl
      obtain ⟨n, k⟩ := y
      rw [List.forIn_cons]
      have ih' := fun acc => ih acc fun z hz => hl z (List.mem_cons_of_mem _ hz)
      by_cases hk : (k == NameKind.free) = true
      · obtain ⟨c, hc⟩ := hl (n, k) List.mem_cons_self (by simpa using hk)
        have hc' : env.cells.lookup n = some c := hc
        have e1 : cellOf env n = pure c := by unfold cellOf; rw [hc']
        simp only [hk, if_true, e1, closOf, hc', Option.getD_some]
        exact ih' _
      · simp only [hk, closOf]
        exact ih' _
  rw [key sc.names [] h]
  rfl
theorem closOf_spec {env : Env} : ∀ (l : List (Str × NameKind)) (acc : List (Str × Addr)), (∀ z c, acc.lookup z = some c → c = (env.cells.lookup z).getD 0) →
    (∀ z c, (closOf env l acc).lookup z = some c → c = (env.cells.lookup z).getD 0) ∧ (∀ z, (closOf env l acc).lookup z = none ↔ (acc.lookup z = none ∧ (z, NameKind.free) ∉ l))
  | [], acc, h => ⟨h, fun z => by simp [closOf]⟩
  | (n, k) :: r, acc, h => by
    by_cases hk : (k == NameKind.free) = true
    · have hk' : k = .free := by simpa using hk
      subst hk'
      have h' : ∀ z c, ((n, (env.cells.lookup n).getD 0) :: acc).lookup z = some c → c = (env.cells.lookup z).getD 0 := by
        intro z c e
        rw [List.lookup_cons] at e
        cases hz : z == n with
        | true =>
          rw [hz] at e
          have e' : (env.cells.lookup n).getD 0 = c := by simpa using e
          rw [beq_iff_eq.mp hz, e']
        | false =>
          rw [hz] at e
          exact h z c (by simpa using e)
      obtain ⟨a, b⟩ := closOf_spec r _ h'
      refine ⟨by simpa [closOf] using a, fun z => ?_⟩
      have b' := b z
      show (closOf env r (if (NameKind.free == NameKind.free) = true then _ else acc)).lookup z = none ↔ _
      rw [if_pos hk, b', List.lookup_cons]
      cases hz : z == n with
      | true =>
        have : z = n := beq_iff_eq.mp hz
        subst this
        simp
      | false =>
        have hne : z ≠ n := by intro q; subst q; simp at hz
        simp [hne]
    · obtain ⟨a, b⟩ := closOf_spec r acc h
      have e0 : closOf env ((n, k) :: r) acc = closOf env r acc := by
        show closOf env r (if (k == NameKind.free) = true then _ else acc) = _
        rw [if_neg hk]
      rw [e0]
      refine ⟨a, fun z => ?_⟩
      rw [b z]
      have hne : ¬ (NameKind.free = k) := by intro q; subst q; exact hk rfl
      simp [hne]

/-! ### the block's names -/
/-- a map that leaves the keys alone changes what stands behind a key, and nothing else -/
theorem lookup_vals {α β : Type} {f : Str × α → Str × β} (hf : ∀ p, (f p).1 = p.1) (x : Str) (l : List (Str × α)) : (l.map f).lookup x = (l.lookup x).map fun k => (f (x, k)).2 := by
  induction l with
  | nil => rfl
  | cons p r ih =>
    obtain ⟨n, k⟩ := p
    have e : f (n, k) = (n, (f (n, k)).2) := Prod.ext (hf _) rfl
    rw [List.map_cons, e]
    by_cases q : x = n
    · subst q
      simp [List.lookup_cons]
    · simp [List.lookup_cons, beq_false_of_ne q, ih]
theorem lookup_relabel {env : Env} {sc : Scope} {x : Str} : (relabel sc env).names.lookup x = (sc.names.lookup x).map fun k => if k == .free && env.scope.kind == .function && env.kindOf x == some .cell then .cell else k := by
  show (List.map _ sc.names).lookup x = _
  rw [lookup_vals (fun p => by dsimp only; split <;> rfl)]
  congr 1
  funext k
  dsimp only
  split <;> rfl
/-- what of a comprehension's scope is read off the text: osc, N the def's own scope and slots; x the target; names the captured ones, at the slots caps -/
structure CompScope (osc : Scope) (N : List Str) (sc : Scope) (x : Str) (names : List Str) (caps : List Nat) : Prop where
  kind : sc.kind = .function
  nocell : ∀ y ∈ sc.names, y.2 ≠ .cell
  locs : ∀ y ∈ sc.names, y.2 = .local → sc.names.lookup y.1 = some .local
  frees : ∀ y ∈ sc.names, y.2 = .free → osc.names.lookup y.1 = some .cell
  own : sc.names.lookup x = some .local
  caps : names.map some = caps.map fun i => N[i]?
  isfree : ∀ y ∈ names, sc.names.lookup y = some .free
  nd : (x :: names).Nodup

/-- the block's context; s₀: behind the new list, ahead of the block's own dict -/
def cxComp (X : Cx) (sc : Scope) (x : Str) (names : List Str) (fp : List Addr) (s₀ : Shared) (H₀ : Hp) : Cx where
  prog := X.prog
  w := X.w
  K := X.K
  mg := X.mg
  base := X.base
  A := X.A
  N := x :: names
  s₀ := s₀
  H₀ := H₀
  env := compEnvC sc (closOf X.env sc.names []) s₀.heap.objs.size X.env
  outer := X.stack
  stack := X.stack
  ex := fp
  fn := fun _ => false
  calm := X.calm
  pn := []
  xe := fun _ _ => False

def capV (σ : St) (caps : List Nat) : St := caps.map fun i => (σ[i]?).join

/-- [elt for x in iter]: the list grows at D -/
def CompW (J : It) (caps : List Nat) (te : TE) (σ : St) (Q : VK) (H1 : Hp) : Prop := ∀ D, H1 D = none → ∃ W : Nat → Nat → Hp → Prop, (∃ m, W 0 m (upd H1 D (.lst []))) ∧ ∀ i m H2, W i m H2 →
  (J.stop i H2 ∧ Q (.ref D) H2) ∨ (J.go i H2 ∧ ∀ y H3, J.yld i H2 y H3 → te (some y :: capV σ caps) H3 fun v H4 => ∃ ys, H4 D = some (.lst ys) ∧ ys.length < sizeLine ∧ ∃ m', m' < m ∧ W (i + 1) m' (upd H4 D (.lst (ys ++ [v]))))
def tComp (caps : List Nat) (wi : TI) (te : TE) : TE := fun σ H Q => wi σ H fun J H1 => CompW J caps te σ Q H1

/-- what comes behind what is known of a first step -/
theorem sq2 {M : Model} {A : Around} {E : Value → Shared → Prop} {s : Shared} {α β : Type} {x : Sem α} {f : α → Sem β} {Q1 : α → Shared → Prop} {Q : β → Shared → Prop} (h : wpAny M A x Q1 E s) (k : ∀ a s1, Q1 a s1 → wpAny M A (f a) Q E s1) : wpAny M A (x >>= f) Q E s := wpAny_bind (thn h k)
/-- a step of a comprehension's turn: what it raises is noted in the comprehension's own frame -/
abbrev Noted (prog : Program) (w : World) (A : Around) (env : Env) (R : Result → Shared → Prop) {α : Type} (x : Sem α) (Q : α → Shared → Prop) (s : Shared) : Prop := wpAny (model prog w) A x Q (notedBy (model prog w) A env fun e => R (.error e)) s
abbrev testB (env : Env) (c : Expr) (r : Bool) : Sem (ForInStep Bool) := if r = true then isTrue c env (eval c env) >>= fun ok => pure (.yield ok) else pure (.yield r)
section
variable {prog : Program} {w : World} {A : Around} {R : Result → Shared → Prop} {s : Shared}
/-- the loop of a comprehension, with the step ahead of the store -/
theorem compLoop_go {el tg src : Expr} {scope : Scope} {pos : Pos} {it acc : Value} {env : Env} (I : Nat → Shared → Prop)
    (turn : ∀ n s, I n s → Noted prog w A env R (pyNext it) (fun r s1 => match r with
      | none => R (.ok .next) s1
      | some v => Noted prog w A env R (letOwnedTupleGo tg it v) (fun _ => Noted prog w A env R (assign tg env v) fun _ => Noted prog w A env R (eval el env) fun x => Noted prog w A env R (call (.builtin "list.append") [acc, x]) fun _ s5 => ∃ m, m < n ∧ I m s5) s1) s) (n : Nat) (h : I n s) :
    codeAny (model prog w) A (.compLoop (.ListComp el [⟨tg, src, [], 0⟩] scope pos) 0 it acc env) R s := by
  refine codeAny_loop rfl I (fun k s1 hI => (?_ : wpAny _ _ (Sem.onRaise _ _) _ _ _)) n h
  refine wpAny_noted (compTurn_list .. ▸ wpAny_bind (wpAny_standAt (sq2 (turn k s1 hI) fun r s2 hr => ?_)))
  cases r
  · exact wpAny_pure hr
  · exact sq2 hr fun _ _ a => sq2 a fun _ _ b => wpAny_bind (wpAny_tests_nil (sq2 (sq2 b fun _ _ c => sq2 c fun _ _ d => wpAny_pure d) fun _ _ e => wpAny_pure ⟨rfl, e⟩))
end

section
variable {X : Cx}
theorem compOk {pins : List (Addr × Obj)} {σ : St} {H : Hp} {s : Shared} {osc : Scope} {N : List Str} {sc : Scope} {x : Str} {names : List Str} {caps : List Nat} {fp : List Addr}
    (hos : X.env.scope = osc) (cs : CompScope osc N sc x names caps) (I : Inv X pins σ H s) (hf : ∀ b ∈ fp, FpOk X pins H b) (hlt : ∀ b ∈ fp, b < s.heap.objs.size) : (cxComp X sc x names fp s H).Ok := by
  subst hos
  have cl := closOf_spec (env := X.env) sc.names [] (fun z c e => by simp at e)
  have hcl : ∀ y c, (closOf X.env sc.names []).lookup y = some c → X.env.cells.lookup y = some c := fun y c e => by
    have e1 := cl.1 y c e
    have hm : (y, NameKind.free) ∈ sc.names := by
      by_cases q : (y, NameKind.free) ∈ sc.names
      · exact q
      · have := (cl.2 y).mpr ⟨rfl, q⟩
        rw [this] at e; cases e
    obtain ⟨c', hc'⟩ := I.ok.has y (.inl (cs.frees _ hm rfl))
    rw [hc'] at e1 ⊢
    rw [e1]; rfl
  refine ⟨I.ok.mod, ?_, I.ok.glob, I.ok.blt, Nat.le_refl _, fun y z c h1 h2 => I.ok.inj y z c (hcl y c h1) (hcl z c h2), fun y hy => ?_, fun y c h => ?_, I.ok.hd, I.ok.frames, .inl rfl, fun b hb => ⟨?_, fun y c h => ?_⟩,
    I.bs, Nat.le_trans I.ok.bsz I.sz, fun b o e hb => ?_, fun b hb z => ?_, I.stack, I.stkFree⟩
  · exact cs.kind
  · have hy' : (relabel sc X.env).names.lookup y = some .cell ∨ (relabel sc X.env).names.lookup y = some .free := hy
    have key : sc.names.lookup y = some .free := by
      rw [lookup_relabel] at hy'
      cases q : sc.names.lookup y with
      | none => rw [q] at hy'; simp at hy'
      | some k =>
        rw [q] at hy'
        have hm := PySem.mem_of_lookup q
        have hnc := cs.nocell _ hm
        by_cases hk : k = .free
        · rw [hk]
        · have e : (if (k == NameKind.free && X.env.scope.kind == .function && X.env.kindOf y == some .cell) = true then NameKind.cell else k) = k := if_neg (by simp [hk])
          rw [Option.map_some, e] at hy'
          rcases hy' with z | z
          · exact absurd (Option.some.inj z) hnc
          · exact absurd (Option.some.inj z) hk
    have hm := PySem.mem_of_lookup key
    cases q : (closOf X.env sc.names []).lookup y with
    | some c => exact ⟨c, q⟩
    | none => exact absurd hm ((cl.2 y).mp q).2
  · exact absurd (show false = true from h) (by simp)
  · exact Nat.ne_of_lt (hlt b hb)
  · exact (hf b hb).2.2.2.2.1 y c (hcl y c h)
  · rcases (hf b hb).2.2.2.1 with z | z
    · exact I.ok.noex b o e z
    · exact absurd (Nat.lt_of_lt_of_le (Heap.lt_size e) (Nat.le_trans I.ok.bsz z)) (Nat.lt_irrefl _)
  · rcases List.mem_cons.mp (I.stkSub b z) with q | q
    · exact (hf b hb).2.1 q
    · exact (hf b hb).2.2.1 q

/-- the block runs: what is wanted at its end is asked of every state at which the list has grown to its end -/
theorem comp_run {pins : List (Addr × Obj)} {σ : St} {s₂ : Shared} {osc : Scope} {N : List Str} {sc : Scope} {x : Str} {px pos : Pos} {elt iter : Expr} {names : List Str} {caps : List Nat} {te : TE} {E : Value → Shared → Prop}
    {RR : Value → Addr → Result → Shared → Prop} {H2 : Hp} {it : Addr} {fp : List Addr} {tn : Nat → Heap → Prop} {J : It} {Qd : V → Hp → Prop}
    (hc : X.calm = true) (hos : X.env.scope = osc) (hN : X.N = N) (cs : CompScope osc N sc x names caps) (he : ∀ fp s₀ H₀, PE (cxComp X sc x names fp s₀ H₀) elt te)
    (I2 : Inv X pins σ H2 s₂) (T : Turn X.prog X.w X.K (.Name x px) J fp it tn) (st2 : tn 0 s₂.heap) (f2 : ∀ b ∈ fp, FpOk X pins H2 b)
    (hW : CompW J caps te σ Qd H2)
    (cont : ∀ D C H5 s6 m, Inv X pins σ H5 s6 → s6.heap.Ns C m → FpOk X pins H5 C → Qd (.ref D) H5 → RR (.ref D) C (.ok .next) s6) :
    wpAny (model X.prog X.w) X.A (newList []) (fun acc s₃ => wpAny (model X.prog X.w) X.A (newFunctionEnv sc X.env.globals (closOf X.env sc.names []) [] X.env.qual none .none (some X.env)) (fun cenv s₄ =>
      codeAny (model X.prog X.w) X.A (.compStart (.ListComp elt [⟨.Name x px, iter, [], 0⟩] sc pos) 0 (.ref it) acc { cenv with scope := relabel sc X.env }) (RR acc cenv.locals) s₄) E s₃) E s₂ := by
  subst hN
  refine wpAny_newObj_type (wpAny_newFunctionEnv cs.nocell (by intro y hy; simp at hy) (fun h₁ hns₁ hsb₁ => ?_) cs.kind)
  dsimp only at hns₁ hsb₁ ⊢
  have fp2 : ∀ b ∈ fp, b < s₂.heap.objs.size := fun b hb => by
    obtain ⟨o, e, _⟩ := T.obj _ _ st2 b hb
    exact Heap.lt_size e
  have I3 : Inv X pins σ (upd H2 s₂.heap.objs.size (.lst [])) { s₂ with heap := s₂.heap.push { cls := .type "list", dict := none, data := .seq ([] : List Value).toArray } } := I2.lnew (t' := s₂.toks) (its := []) .nil (Nat.zero_le _)
  obtain ⟨W, ⟨m0, w0⟩, turn⟩ := hW s₂.heap.objs.size I2.fresh
  have f3 : ∀ b ∈ fp, FpOk X pins (upd H2 s₂.heap.objs.size (.lst [])) b := fun b hb => ⟨by rw [upd_ne (Nat.ne_of_lt (fp2 b hb))]; exact (f2 b hb).1, (f2 b hb).2⟩
  have hD : ∀ b o, s₂.heap.get? b = some o → (s₂.heap.push { cls := .type "list", dict := none, data := .seq ([] : List Value).toArray }).get? b = some o := fun b o e => Heap.get?_push_of_some _ e
  generalize hs3 : ({ s₂ with heap := s₂.heap.push { cls := .type "list", dict := none, data := .seq ([] : List Value).toArray } } : Shared) = s₃ at *
  have hs3h : s₃.heap = s₂.heap.push { cls := .type "list", dict := none, data := .seq ([] : List Value).toArray } := by rw [← hs3]
  rw [← hs3h] at hns₁ hsb₁ hD ⊢
  have fp3 : ∀ b ∈ fp, b < s₃.heap.objs.size := fun b hb => by
    rw [hs3h, Heap.size_push]; exact Nat.lt_succ_of_lt (fp2 b hb)
  have k3 : ∀ b o, s₃.heap.get? b = some o → h₁.get? b = some o := fun b o e => hsb₁.extBut b o (Nat.ne_of_lt (Heap.lt_size e)) (Heap.get?_push_of_some _ e)
  have ok := compOk hos cs I3 f3 fp3
  have cl := closOf_spec (env := X.env) sc.names [] (fun z c e => by simp at e)
  have hcl : ∀ y c, (closOf X.env sc.names []).lookup y = some c → X.env.cells.lookup y = some c := fun y c e => by
    have e1 := cl.1 y c e
    have hm : (y, NameKind.free) ∈ sc.names := by
      by_cases q : (y, NameKind.free) ∈ sc.names
      · exact q
      · have := (cl.2 y).mpr ⟨rfl, q⟩
        rw [this] at e; cases e
    obtain ⟨c', hc'⟩ := I3.ok.has y (.inl (by show X.env.scope.names.lookup y = _; rw [hos]; exact cs.frees _ hm rfl))
    rw [hc'] at e1 ⊢
    rw [e1]; rfl
  have cell4 : ∀ y c, (closOf X.env sc.names []).lookup y = some c → ∀ v, s₃.heap.IsCell c v → h₁.IsCell c v := fun y c e v ⟨o, ho, hd⟩ => ⟨o, k3 _ _ ho, hd⟩
  have lenC : caps.length = names.length := by have := congrArg List.length cs.caps; simpa using this.symm
  have I4 : ∀ tk, Inv (cxComp X sc x names fp s₃ (upd H2 s₂.heap.objs.size (.lst []))) [] (none :: capV σ caps) (upd H2 s₂.heap.objs.size (.lst [])) { s₃ with heap := h₁, toks := tk } := fun tk => by
    refine ⟨ok, rfl, I3.bare, Un.kept k3, ⟨_, hns₁, fun i y v e1 e2 e3 => ?_⟩, fun y c e => ?_, I3.fresh, fun y c e => I3.freeC y c (hcl y c e), fun p hp => absurd (show p ∈ ([] : List (Addr × Obj)) from hp) (by simp), I3.hok.kept k3, ?_⟩
    · cases i with
      | zero => simp at e2
      | succ j =>
        have e1' : names[j]? = some y := by simpa [cxComp] using e1
        have e2' : (capV σ caps)[j]? = some (some v) := by simpa using e2
        unfold capV at e2'
        rw [List.getElem?_map] at e2'
        cases qc : caps[j]? with
        | none => rw [qc] at e2'; cases e2'
        | some i0 =>
          rw [qc] at e2'
          have e2'' : (σ[i0]?).join = some v := by simpa using e2'
          have e3' : σ[i0]? = some (some v) := by
            cases qs : σ[i0]? with
            | none => rw [qs] at e2''; cases e2''
            | some o => rw [qs] at e2''; rw [show o = some v from by simpa using e2'']
          have eN : X.N[i0]? = some y := by
            have q1 : (names.map some)[j]? = (caps.map fun i => X.N[i]?)[j]? := by rw [cs.caps]
            rw [List.getElem?_map, List.getElem?_map, e1', qc] at q1
            have q2 : some y = X.N[i0]? := by simpa using q1
            exact q2.symm
          have hfree := cs.isfree y (List.mem_of_getElem? e1')
          have hm := PySem.mem_of_lookup hfree
          have hcell : X.env.scope.names.lookup y = some .cell := by rw [hos]; exact cs.frees _ hm rfl
          obtain ⟨m, hn, hl⟩ := I3.loc
          obtain ⟨u, ru, lk⟩ := hl i0 y v eN e3' (.inr (.inl hcell))
          refine ⟨u, ru, ?_⟩
          rcases lk with ⟨kk, _⟩ | ⟨kk, c, ec, hcl'⟩
          · have kk' : X.env.scope.names.lookup y = some .local := kk
            rw [hcell] at kk'; cases kk'
          · refine .inr ⟨?_, c, ?_, ?_⟩
            · left
              show (relabel sc X.env).names.lookup y = some .cell
              rw [lookup_relabel, hfree]
              have ef : (X.env.scope.kind == ScopeKind.function) = true := by rw [I3.ok.kind]; rfl
              have ek : (X.env.kindOf y == some NameKind.cell) = true := by
                show (X.env.scope.names.lookup y == some NameKind.cell) = true
                rw [hcell]; rfl
              simp [ef, ek]
            · show (closOf X.env sc.names []).lookup y = some c
              cases q : (closOf X.env sc.names []).lookup y with
              | none => exact absurd hm ((cl.2 y).mp q).2
              | some c' =>
                have := hcl y c' q
                rw [ec] at this
                exact this.symm
            · obtain ⟨o, ho, hd⟩ := hcl'
              exact ⟨o, k3 _ _ ho, hd⟩
    · obtain ⟨v, hv⟩ := I3.cell y c (hcl y c e)
      exact ⟨v, cell4 y c e v hv⟩
    · show (none :: capV σ caps).length = (x :: names).length
      unfold capV
      simp [lenC]
  have st4 : tn 0 h₁ := T.keep _ _ _ st2 fun b hb o e => k3 b o (by rw [hs3h]; exact Heap.get?_push_of_some _ e)
  have fpok : ∀ {H' : Hp}, (∀ b ∈ fp, H' b = none) → ∀ b ∈ fp, FpOk (cxComp X sc x names fp s₃ (upd H2 s₂.heap.objs.size (.lst []))) [] H' b := fun hn b hb =>
    ⟨hn b hb, (ok.exf b hb).1, ok.exfs b hb, .inl hb, (ok.exf b hb).2, fun p hp => absurd (show p ∈ ([] : List (Addr × Obj)) from hp) (by simp)⟩
  have loop : ∀ s₄ : Shared, s₄ = { s₃ with heap := h₁, toks := s₃.toks + ([] : List (Str × Value)).length } →
      codeAny (model X.prog X.w) X.A (.compLoop (.ListComp elt [⟨.Name x px, iter, [], 0⟩] sc pos) 0 (.ref it) (.ref s₂.heap.objs.size) (compEnvC sc (closOf X.env sc.names []) s₃.heap.objs.size X.env))
        (RR (.ref s₂.heap.objs.size) s₃.heap.objs.size) s₄ := by
    rintro s₄ rfl
    refine compLoop_go (fun n s' => ∃ i H', Inv (cxComp X sc x names fp s₃ (upd H2 s₂.heap.objs.size (.lst []))) [] (none :: capV σ caps) H' s' ∧ tn i s'.heap ∧ (∀ b ∈ fp, H' b = none) ∧ W i n H') ?_ m0
      ⟨0, _, I4 _, st4, fun b hb => (f3 b hb).1, w0⟩
    rintro n s5 ⟨i, H5, I5, st5, fr5, w5⟩
    rcases turn i n H5 w5 with ⟨stop, q⟩ | ⟨go, step⟩
    · refine thn (T.done (cxComp X sc x names fp s₃ (upd H2 s₂.heap.objs.size (.lst []))) rfl rfl rfl hc i [] s5 _ H5 _ I5 (fpok fr5) st5 stop) fun r s6 ⟨hr, I6⟩ => ?_
      subst hr
      obtain ⟨m, hn, _⟩ := I6.loc
      have J6 : Inv X pins σ H5 s6 := I3.call' (ch := fp) I6.os I6.base I6.hok I6.bare fun b hb => ⟨(f3 b hb).2.2.2.1, (f3 b hb).2.1, (f3 b hb).2.2.2.2.1, (f3 b hb).2.2.2.2.2⟩
      exact cont _ _ H5 s6 m J6 hn (I3.fpOk (H' := H5) (Nat.le_refl _) I6.free) q
    · refine thn (T.item (cxComp X sc x names fp s₃ (upd H2 s₂.heap.objs.size (.lst []))) rfl rfl rfl hc i [] s5 _ H5 _ I5 (fpok fr5) st5 go) fun r s6 ⟨u, hr, h6⟩ => ?_
      subst hr
      refine thn h6 fun _ s6' ⟨y, H6, I6, r6, y6, st6, fr6⟩ => ?_
      have I6' := I6.pinned (fpok fr6) (T.obj _ _ st6)
      have own' : (relabel sc X.env).names.lookup x = some .local := lookup_relabel_local cs.own
      refine wpAny_mono (pg_name (X := cxComp X sc x names fp s₃ (upd H2 s₂.heap.objs.size (.lst []))) (i := 0) (x := x) (pos := px) cs.nd rfl (.inl own') (.inr own') _ s6' _ H6 y u (fun σ' H' => σ' = (none :: capV σ caps).set 0 (some y) ∧ H' = H6) I6' r6 ⟨rfl, rfl⟩)
        (fun _ s7 ⟨σ7, H7, I7, e7, e7'⟩ => ?_) fun _ _ z => False.elim z
      subst e7 e7'
      refine wpAny_mono (he fp s₃ _ _ s7 _ H7 _ I7 (step y H7 y6)) (fun v s8 ⟨vv, H8, I8, r8, ys, hD8, hz8, m', hm', w8⟩ => ?_) fun _ _ z => False.elim z
      refine wpAny_mono (mt_append (X := cxComp X sc x names fp s₃ (upd H2 s₂.heap.objs.size (.lst []))) _ s8 _ H8 (.ref s₂.heap.objs.size) [vv] (.ref s₂.heap.objs.size) [v] (fun _ H' => H' = upd H8 s₂.heap.objs.size (.lst (ys ++ [vv]))) I8 rfl (.cons r8 .nil)
        ⟨_, ys, vv, rfl, rfl, hD8, hz8, rfl⟩) (fun _ s9 ⟨_, H9, I9, _, e9⟩ => ?_) fun _ _ z => False.elim z
      subst e9
      refine ⟨m', hm', i + 1, _, (I9.unpinned).weak ?_ ?_, T.keep _ _ _ st6 fun b hb o e => (I9.pin (b, o) (List.mem_append_right _ (List.mem_append_right _ (mem_pinsAt hb e)))).1, fun b hb => ?_, w8⟩
      · simp
      · intro j v' ej
        cases j with
        | zero => simp at ej
        | succ j => simpa using ej
      · obtain ⟨o, e, d⟩ := T.obj _ _ st6 b hb
        exact (I9.pin (b, o) (List.mem_append_right _ (List.mem_append_right _ (mem_pinsAt hb e)))).2.1
  exact codeAny_compStart_list (loop _ (by rw [← hs3])) (T.self _ 0 _ _ _ st4 (loop _ (by rw [← hs3])))

theorem comp_clos {pins : List (Addr × Obj)} {σ : St} {H : Hp} {s : Shared} {osc : Scope} {N : List Str} {sc : Scope} {x : Str} {names : List Str} {caps : List Nat} (hos : X.env.scope = osc) (cs : CompScope osc N sc x names caps) (I : Inv X pins σ H s) :
    closureFor sc X.env = pure (closOf X.env sc.names []) :=
  closureFor_of fun y hy hk => I.ok.has y.1 (.inl (by show X.env.scope.names.lookup y.1 = _; rw [hos]; exact cs.frees y hy hk))

/-- [elt for x in iter] -/
theorem pe_lcomp {osc : Scope} {N : List Str} {sc : Scope} {x : Str} {px pos : Pos} {elt iter : Expr} {names : List Str} {caps : List Nat} {wi : TI} {te : TE}
    (hc : X.calm = true) (hos : X.env.scope = osc) (hN : X.N = N) (cs : CompScope osc N sc x names caps) (hi : PI X (.Name x px) iter wi) (he : ∀ fp s₀ H₀, PE (cxComp X sc x names fp s₀ H₀) elt te)
    (hs : ∀ v, foldedSetIterable iter X.env v = pure v := by intro _; rfl) : PE X (.ListComp elt [⟨.Name x px, iter, [], 0⟩] sc pos) (tComp caps wi te) := by
  intro pins s σ H Q I h
  rw [eval_ListComp]
  refine wpAny_comprehension_free (use := none) rfl hs (comp_clos hos cs I) cs.kind cs.locs (thn (hi pins s σ H _ I h) fun xv s1 h1 => thn h1 fun itv s2 h2 => ?_)
  obtain ⟨it, fp, tn, J, H2, rfl, I2, T, st2, f2, hW⟩ := h2
  refine comp_run (Qd := Q) (RR := fun acc C => compPost (model X.prog X.w) X.A X.xe none (EP X pins σ Q) acc C) hc hos hN cs he I2 T st2 f2 hW fun D C H5 s6 m I6 hn fC q => ?_
  refine ⟨m, hn, fun h' sb => ?_⟩
  obtain ⟨g0, g1, g2, g3, g4, g5⟩ := fC
  exact ⟨.ref D, H5, I6.turned (t' := s6.toks) (it := C) (fun b o hb e => sb.extBut b o hb e) g0 g1 g3 g4 g5, rfl, q⟩

/-- y = [elt for x in iter], y a plain local on the comprehension's own line -/
theorem ps_set_lcomp {osc : Scope} {N : List Str} {sc : Scope} {x y : Str} {px py pos spos : Pos} {elt iter : Expr} {names : List Str} {caps : List Nat} {wi : TI} {te : TE} {i : Nat}
    (hc : X.calm = true) (hos : X.env.scope = osc) (hN : X.N = N) (nd : X.N.Nodup) (cs : CompScope osc N sc x names caps) (hi' : X.N[i]? = some y) (hy : X.env.scope.names.lookup y = some .local) (hi : PI X (.Name x px) iter wi)
    (he : ∀ fp s₀ H₀, PE (cxComp X sc x names fp s₀ H₀) elt te) (hsw : swapsWith (.ListComp elt [⟨.Name x px, iter, [], 0⟩] sc pos) (some (.Name y py)) spos.line X.env = pure true := by rfl)
    (hs : ∀ v, foldedSetIterable iter X.env v = pure v := by intro _; rfl) : PS X (.Assign [.Name y py] (.ListComp elt [⟨.Name x px, iter, [], 0⟩] sc pos) spos) (tAsg (tComp caps wi te) (gName i)) := by
  intro pins s σ H D I h
  rw [exec_Assign_Name_used _ _ _ _ hsw]
  refine wpAny_bind (wpAny_standAt (wpAny_bind ?_))
  show wpAny _ X.A (do let _ ← comprehension (.ListComp elt [⟨.Name x px, iter, [], 0⟩] sc pos) sc X.env _ (newList []) false (eval iter X.env) (some (assign (.Name y py) X.env))) _ _ s
  refine wpAny_bind (wpAny_mono (wpAny_comprehension_free (use := some (assign (.Name y py) X.env)) (Q := fun _ s' => SP X pins D .next s') rfl hs (comp_clos hos cs I) cs.kind cs.locs
    (thn (hi pins s σ H _ I h) fun xv s1 h1 => thn h1 fun itv s2 h2 => ?_)) (fun _ s' hq => wpAny_pure (wpAny_pure hq)) fun _ _ e => e)
  obtain ⟨it, fp, tn, J, H2, rfl, I2, T, st2, f2, hW⟩ := h2
  refine comp_run (Qd := fun x H1 => gName i x σ H1 D.nx) (RR := fun acc C => compPost (model X.prog X.w) X.A X.xe (some (assign (.Name y py) X.env)) (fun _ s' => SP X pins D .next s') acc C) hc hos hN cs he I2 T st2 f2 hW fun D' C H5 s6 m I6 hn fC q => ?_
  show wpAny _ X.A (assign (.Name y py) X.env (.ref D')) _ _ _
  obtain ⟨oC, es, ep, eC, dC, rC⟩ := id hn
  obtain ⟨g0, g1, g2, g3, g4, g5⟩ := id fC
  have I6p : Inv X (pins ++ [(C, oC)]) σ H5 s6 := I6.pins_of fun p hp => (List.mem_append.mp hp).elim (fun z => I6.pin p (List.mem_append_right _ z)) fun z => by
    have e : p = (C, oC) := by simpa using z
    subst e
    exact ⟨eC, g0, g1, g2, fun v z => by rw [dC] at z; cases z⟩
  refine wpAny_assign_Name (store_ok I6p nd hi' (.inl hy) (v := .ref D') rfl (fun s7 I7 => ?_) (.inr hy))
  have e7 := (I7.pin (C, oC) (List.mem_append_right _ (List.mem_append_right _ (by simp)))).1
  refine ⟨m, ⟨oC, es, ep, e7, dC, rC⟩, fun h' sb => ?_⟩
  exact ⟨_, H5, (I7.unpinned).turned (t' := s7.toks) (it := C) (fun b o hb e => sb.extBut b o hb e) g0 g1 g3 g4 g5, q⟩
end

/-! ### the forms one uses -/
/-- what J yields, turn by turn, is xs, whatever was laid meanwhile -/
def SeqJ (J : It) (H : Hp) (xs : List V) : Prop := ∀ (i : Nat) (H' : Hp), Same H H' →
  (i < xs.length → J.go i H') ∧ (∀ y H3, J.yld i H' y H3 → H3 = H' ∧ (i < xs.length → xs[i]? = some y)) ∧ (i = xs.length → J.stop i H')
theorem seqj_list {K : PySem.W.Frag} {a : Addr} {xs : List V} {H : Hp} (h : SqL K H a xs) : SeqJ (Itl K a) H xs := fun i H' s =>
  ⟨fun hi => ⟨xs, xs[i], s.seq h, by simp [hi]⟩, fun y H3 q => ⟨q.1, fun _ => q.2 xs (s.seq h)⟩, fun e => ⟨xs, s.seq h, Nat.le_of_eq e.symm⟩⟩
theorem seqj_range {lo : Int} {n : Nat} {H : Hp} : SeqJ (Itr lo n) H ((List.range n).map fun (i : Nat) => V.int (lo + (i : Int))) := fun i H' s =>
  ⟨fun hi => by show i < n; simpa using hi, fun y H3 q => ⟨q.1, fun hi => by
    have hi' : i < n := by simpa using hi
    rw [q.2, List.getElem?_map, List.getElem?_range hi']; rfl⟩, fun e => by
    have : i = n := by simpa using e
    exact Nat.le_of_eq this.symm⟩
theorem seqj_str {z : Str} {H : Hp} : SeqJ (Its z) H (z.cps.toList.map fun c => V.str ⟨#[c]⟩) := fun i H' s =>
  ⟨fun hi => by simpa [Its, Str.length] using hi, fun y H3 q => ⟨q.1, fun hi => by
    obtain ⟨_, c, hc, e⟩ := q
    rw [e, List.getElem?_map]
    have : z.cps.toList[i]? = some c := by simpa using hc
    rw [this]; rfl⟩, fun e => by
    have : i = z.length := by simpa [Str.length] using e
    exact this⟩

theorem comp_seq {J : It} {H : Hp} {xs : List V} {caps : List Nat} {te : TE} {σ : St} {Q : VK} (hJ : SeqJ J H xs) (Pr : Nat → V → V → Prop) (hsz : xs.length ≤ sizeLine)
    (hs : ∀ (i : Nat) (y : V) (H' : Hp) (Q' : VK), xs[i]? = some y → Same H H' → (∀ v H4, Same H' H4 → Pr i y v → Q' v H4) → te (some y :: capV σ caps) H' Q')
    (hd : ∀ (D : Addr) (H' : Hp) (ys : List V), Same H H' → H D = none → H' D = some (.lst ys) → ys.length = xs.length → (∀ (i : Nat) (y v : V), xs[i]? = some y → ys[i]? = some v → Pr i y v) → Q (.ref D) H') :
    CompW J caps te σ Q H := by
  intro D hD
  refine ⟨fun i m H2 => m = xs.length - i ∧ i ≤ xs.length ∧ Same H H2 ∧ ∃ ys, H2 D = some (.lst ys) ∧ ys.length = i ∧ ∀ (j : Nat) (y v : V), xs[j]? = some y → ys[j]? = some v → Pr j y v,
    ⟨xs.length, by simp, Nat.zero_le _, fun b o e => by rw [upd_ne (ne_of_none e hD)]; exact e, [], upd_same, rfl, fun j y v _ e => by simp at e⟩, ?_⟩
  rintro i m H2 ⟨rfl, hi, s2, ys, hy, hl, hp⟩
  obtain ⟨j1, j2, j3⟩ := hJ i H2 s2
  by_cases hlt : i < xs.length
  · refine .inr ⟨j1 hlt, fun y H3 q => ?_⟩
    obtain ⟨e3, ey⟩ := j2 y H3 q
    subst e3
    refine hs i y _ _ (ey hlt) s2 fun v H4 s4 pr => ⟨ys, s4 D _ hy, by omega, xs.length - (i + 1), by omega, rfl, hlt, fun b o e => ?_, ys ++ [v], upd_same, by simp [hl], fun j y' v' e1 e2 => ?_⟩
    · rw [upd_ne (ne_of_none e hD)]
      exact s4 b o (s2 b o e)
    · by_cases hj : j < ys.length
      · rw [List.getElem?_append_left hj] at e2
        exact hp j y' v' e1 e2
      · have hje : j = i := by
          have := (List.getElem?_eq_some_iff.mp e2).1
          simp at this; omega
        subst hje
        rw [List.getElem?_append_right (by omega), hl, Nat.sub_self] at e2
        rw [ey hlt] at e1
        cases e1
        have : v = v' := by simpa using e2
        subst this
        exact pr
  · have e : i = xs.length := by omega
    subst e
    exact .inl ⟨j3 rfl, hd D H2 ys s2 hD hy hl hp⟩
end L2

/-! ## Small words for readings (own text). -/
namespace L2
open PySem PySem.Spec PyProof.Rows

theorem Same.new {H H' : Hp} {l : Addr} {o : HO} (e : Same H H') (hl : H' l = none) : Same H (upd H' l o) := fun b u q => by
  have q' := e b u q
  rw [upd_ne (ne_of_none q' hl)]
  exact q'
theorem Same.put {H H' : Hp} {l : Addr} {o : HO} (e : Same H H') (hl : H l = none) : Same H (upd H' l o) := fun b u q => by
  rw [upd_ne (ne_of_none q hl)]
  exact e b u q
theorem Same.new1 {H : Hp} {l : Addr} {o : HO} (hl : H l = none) : Same H (upd H l o) := (Same.refl H).new hl

theorem bls_of : ∀ (ys : List V), (∀ v ∈ ys, ∃ b, v = V.bl b) → ∃ bs : List Bool, ys = bs.map V.bl
  | [], _ => ⟨[], rfl⟩
  | v :: r, h => by
    obtain ⟨b, rfl⟩ := h v List.mem_cons_self
    obtain ⟨bs, rfl⟩ := bls_of r fun u hu => h u (List.mem_cons_of_mem _ hu)
    exact ⟨b :: bs, rfl⟩
theorem join_len (sep : Str) (l : List Str) : (Txt.join sep l).length ≤ (l.map (·.length)).sum + l.length * sep.length := by
  have e : Txt.join sep l = Str.join sep l := beq_iff_eq.mp (join_plain_closes sep l)
  rw [e]
  exact StrLaws.join_length_le sep l
theorem str_len_append (a b : Str) : (a ++ b).length = a.length + b.length := by
  show (a.cps ++ b.cps).size = _
  rw [Array.size_append]
  rfl

/-- a display of texts -/
def isStrs : List Expr → Bool
  | [] => true
  | .Constant (.str _) _ _ :: r => isStrs r
  | _ => false
def strVs : List Expr → List V
  | [] => []
  | .Constant (.str x) _ _ :: r => V.str x :: strVs r
  | _ => []
def tStrs (es : List Expr) : TA := fun _ H Q => Q (strVs es) H
theorem sw_list {es : List Expr} {p : Pos} {t : Option Expr} {l : Nat} {env : Env} : swapsWith (.List es p) t l env = pure false := rfl
/-- two numbers' texts apart -/
theorem line_small {n : Nat} (h : n ≤ 1000) : n ≤ sizeLine := Nat.le_of_lt (small1000 h)
end L2

/-! ## Methods of any class, joins, texts' signs (own text). -/
namespace L2
open PySem PySem.Spec PyProof.Rows
section
variable {X : Cx} {CX : CXT} {k : Nat} {f : Addr} {fd : FuncData} {ps : List Str} {sp : Sp} {dvs : List V} {ds : List Value} {E : XK} {m : Str} {pos apos : Pos} {e o : Expr} {es : List Expr} {ta : TE} {t : TA}
/-- what follows is asked of what the statement is wanted to reach -/
theorem PS.join {st : Stmt} {t : TS} (h : PS X st t) : PS X st (fun D σ H => ∃ M : St → Hp → Prop, t { D with nx := M } σ H ∧ ∀ σ' H', M σ' H' → D.nx σ' H') := by
  intro pins s σ H D I ⟨M, q, hM⟩
  refine thn (h pins s σ H _ I q) fun fl s' r => ?_
  cases fl with
  | next => obtain ⟨σ', H', I', r⟩ := r; exact ⟨σ', H', I', hM _ _ r⟩
  | brk => exact r
  | cont => exact r
  | ret u => exact r
theorem PE.cut {e : Expr} {t : TE} (h : PE X e t) : PE X e (fun σ H Q => ∃ M : VK, t σ H M ∧ ∀ v H', M v H' → Q v H') := by
  intro pins s σ H Q I ⟨M, q, hM⟩
  exact thn (h pins s σ H _ I q) fun u s' ⟨v, H', I', r, z⟩ => ⟨v, H', I', r, hM v H' z⟩
/-- o.m(..): the class is told by the object, the def is one -/
def tMethP (K : PySem.W.Frag) (f : Addr) (m : Str) (sp : Sp) (dvs : List V) (E : XK) (ta : TE) (t : TA) : TE := fun σ H Q => ta σ H fun x H1 => ∃ a C dx fs, x = .ref a ∧ H1 a = some (.ins C dx fs) ∧ Cls K C ∧ Meth K C m f ∧ fs.lookup m = none ∧
  t σ H1 fun vs H2 => sp (x :: (vs ++ dvs)) H2 Q E
end

/-! ### signs -/
def asc (x : Str) : Prop := ∀ c ∈ x.cps.toList, c < 128
theorem asc.ok {x : Str} (h : asc x) : PyData.strOk x = true := by
  unfold PyData.strOk
  rw [Array.all_eq_true]
  intro i hi
  have := h x.cps[i] (by simp)
  exact decide_eq_true (by omega)
theorem cps_append (a b : Str) : (a ++ b).cps.toList = a.cps.toList ++ b.cps.toList := by
  show (a.cps ++ b.cps).toList = _
  simp
theorem join_eq (sep : Str) (l : List Str) : Txt.join sep l = Str.join sep l := beq_iff_eq.mp (join_plain_closes sep l)
theorem in_strs {x : Str} {xs : List Str} : inV (.str x) (xs.map V.str) = decide (x ∈ xs) := by
  induction xs with
  | nil => rfl
  | cons y r ih =>
    unfold inV at ih ⊢
    rw [List.map_cons, List.any_cons, ih]
    have : eqV (.str y) (.str x) = decide (x = y) := by
      show (y == x) = _
      by_cases h : x = y
      · subst h; simp
      · rw [decide_eq_false h]; exact beq_eq_false_iff_ne.mpr fun q => h q.symm
    rw [this]
    by_cases h : x = y <;> by_cases h' : x ∈ r <;> simp [h, h']
end L2

/-! ## The rules once more, with the heap behind them as a letter; methods found by the object (own text). -/
namespace L2
open PySem PySem.Spec PyProof.Rows
/-- something new stands, the rest as it was -/
def Nw (H : Hp) (o : HO) (Q : VK) : Prop := ∀ p H', Same H H' → H p = none → H' p = some o → Q (.ref p) H'
theorem Nw.el {H : Hp} {o : HO} {Q : VK} (h : Nw H o Q) (p : Addr) (hp : H p = none) : Q (.ref p) (upd H p o) := h p _ (Same.new1 hp) hp upd_same
/-- all but l is as it was -/
def Keeps (l : Addr) (H H' : Hp) : Prop := ∀ b, b ≠ l → H' b = H b
theorem Keeps.upd {H : Hp} {l : Addr} {o : HO} : Keeps l H (upd H l o) := fun _ h => upd_ne h
/-- what stands at l is another thing now -/
def Ch (H : Hp) (l : Addr) (o : HO) (Q : Hp → Prop) : Prop := ∀ H', Keeps l H H' → H' l = some o → Q H'
theorem Ch.el {H : Hp} {l : Addr} {o : HO} {Q : Hp → Prop} (h : Ch H l o Q) : Q (L2.upd H l o) := h _ Keeps.upd upd_same
theorem Keeps.put {H H1 H2 : Hp} {l : Addr} (k : Keeps l H1 H2) (s : Same H H1) (n : H l = none) : Same H H2 := fun b o e => by
  rw [k b (ne_of_none e n)]
  exact s b o e
theorem Keeps.look {H1 H2 : Hp} {l b : Addr} {o : HO} (k : Keeps l H1 H2) (e : H1 b = some o) (n : b ≠ l) : H2 b = some o := by rw [k b n]; exact e
/-- tuples and instances stay -/
def Fx (H H' : Hp) : Prop := (∀ b xs, H b = some (.tup xs) → H' b = some (.tup xs)) ∧ ∀ b C dx fs, H b = some (.ins C dx fs) → H' b = some (.ins C dx fs)
section
variable {X : Cx}
theorem PE.mono {e : Expr} {t t' : TE} (h : PE X e t) (m : ∀ σ H Q, t' σ H Q → t σ H Q) : PE X e t' := fun pins s σ H Q I q => h pins s σ H Q I (m σ H Q q)
theorem CallR.mono {f : Value} {r r' : List V → Hp → VK → Prop} (h : CallR X f r) (m : ∀ xs H Q, r' xs H Q → r xs H Q) : CallR X f r' := fun pins s σ H xs us Q I rv q => h pins s σ H xs us Q I rv (m xs H Q q)
theorem MtR.mono {id : String} {r r' : V → List V → Hp → VK → Prop} (h : MtR X id r) (m : ∀ x xs H Q, r' x xs H Q → r x xs H Q) : MtR X id r' := fun pins s σ H x vs v us Q I rx rv q => h pins s σ H x vs v us Q I rx rv (m x vs H Q q)
theorem OpR.mono {f : Value → Value → Sem Value} {r r' : R2} (h : OpR X f r) (m : ∀ x y H Q, r' x y H Q → r x y H Q) : OpR X f r' := fun pins s σ H x y v u Q I rx ry q => h pins s σ H x y v u Q I rx ry (m x y H Q q)
theorem SlR.mono {r r' : V → Option Int → Option Int → Hp → VK → Prop} (h : SlR X r) (m : ∀ x l u H Q, r' x l u H Q → r x l u H Q) : SlR X r' := fun pins s σ H x v vl vu lo hi sl Q I rx hs pl pu q => h pins s σ H x v vl vu lo hi sl Q I rx hs pl pu (m x lo hi H Q q)
/-! displays -/
def nTup (t : TA) : TE := fun σ H Q => t σ H fun xs H1 => xs.length ≤ sizeLine ∧ Nw H1 (.tup xs) Q
def nLst (t : TA) : TE := fun σ H Q => t σ H fun xs H1 => xs.length ≤ sizeLine ∧ Nw H1 (.lst xs) Q
theorem PA.cut {es : List Expr} {t : TA} (h : PA X es t) : PA X es (fun σ H Q => ∃ M : List V → Hp → Prop, t σ H M ∧ ∀ vs H', M vs H' → Q vs H') := by
  intro pos pins s σ H Q I ⟨M, q, hM⟩
  exact thn (h pos pins s σ H _ I q) fun u s' ⟨v, H', I', r, z⟩ => ⟨v, H', I', r, hM v H' z⟩
theorem ne_tup {es : List Expr} {t : TA} {pos : Pos} {x1} (h : PA X es t) : PE X (.Tuple es x1 pos) (nTup t) := (pe_tup h.cut).mono fun _ _ _ q => ⟨_, q, fun _ _ q => ⟨q.1, q.2.el⟩⟩
theorem ne_lst {es : List Expr} {t : TA} {pos : Pos} (h : PA X es t) : PE X (.List es pos) (nLst t) := (pe_lst h.cut).mono fun _ _ _ q => ⟨_, q, fun _ _ q => ⟨q.1, q.2.el⟩⟩
/-! calls, slices, operators that lay something -/
theorem nc_list_of : CallR X (.type "list") (fun xs H Q => ∃ p ys, xs = [.ref p] ∧ (SqL X.K H p ys ∨ SqT X.K H p ys) ∧ Nw H (.lst ys) Q) :=
  call_list_of.mono fun _ _ _ ⟨p, ys, a, b, c⟩ => ⟨p, ys, a, b, c.el⟩
theorem ns_list : SlR X (fun x lo hi H Q => ∃ a xs, x = .ref a ∧ SqL X.K H a xs ∧ Nw H (.lst (cutV xs lo hi)) Q) :=
  sl_list.mono fun _ _ _ _ _ ⟨a, xs, e, b, c⟩ => ⟨a, xs, e, b, c.el⟩
theorem no_cat : OpR X (binaryOp .Add) (fun x y H Q => ∃ l b xs zs, x = .ref l ∧ y = .ref b ∧ H l = some (.lst xs) ∧ H b = some (.lst zs) ∧ xs.length + zs.length ≤ sizeLine ∧ Nw H (.lst (xs ++ zs)) Q) :=
  op_cat.mono fun _ _ _ _ ⟨l, b, xs, zs, a, c, d, e, f, g⟩ => ⟨l, b, xs, zs, a, c, d, e, f, g.el⟩
theorem nm_append : MtR X "list.append" (fun x vs H Q => ∃ l xs y, x = .ref l ∧ vs = [y] ∧ H l = some (.lst xs) ∧ xs.length < sizeLine ∧ Ch H l (.lst (xs ++ [y])) (Q .non)) :=
  MtR.mono mt_append fun _ _ _ _ ⟨l, xs, y, a, b, c, d, e⟩ => ⟨l, xs, y, a, b, c, d, e.el⟩
theorem nm_pop : MtR X "list.pop" (fun x vs H Q => ∃ l xs y, x = .ref l ∧ vs = [] ∧ H l = some (.lst xs) ∧ xs[xs.length - 1]? = some y ∧ Ch H l (.lst xs.dropLast) (Q y)) :=
  MtR.mono mt_pop fun _ _ _ _ ⟨l, xs, y, a, b, c, d, e⟩ => ⟨l, xs, y, a, b, c, d, e.el⟩
theorem nset_list : PSet X (fun o i v H Q => ∃ p xs k j, o = .ref p ∧ i = .int k ∧ H p = some (.lst xs) ∧ ixN xs.length k = some j ∧ Ch H p (.lst (xs.set j v)) Q) := by
  intro pins s σ H o i v
  have h := @set_list X pins s σ H o i v
  intros
  rename_i q
  exact h _ _ _ _ ‹_› ‹_› ‹_› ‹_› (by obtain ⟨p, xs, k, j, a, b, c, d, e⟩ := q; exact ⟨p, xs, k, j, a, b, c, d, e.el⟩)
end
/-! ### o.m(..), the def found by the object's class -/
structure MethOk (P : Program) (w : World) (K : PySem.W.Frag) (mg : Str → Option Value) (base : Heap) (CX : CXT) (k : Nat) (C : Addr) (m : Str) (sp : Sp) : Prop where
  ex : ∃ f fd ps, Meth K C m f ∧ FnOk P w K mg base CX k f fd ps sp ∧ Binds K fd ps []
theorem MethOk.mk' {P : Program} {w : World} {K : PySem.W.Frag} {mg : Str → Option Value} {base : Heap} {CX : CXT} {j k : Nat} {C f : Addr} {m : Str} {sp : Sp} {fd : FuncData} {ps : List Str} (h1 : Meth K C m f) (h2 : FnOk P w K mg base CX j f fd ps sp) (h3 : Binds K fd ps []) (h : j ≤ k) :
    MethOk P w K mg base CX k C m sp := ⟨f, fd, ps, h1, h2.mono h, h3⟩
def tMethD (X : Cx) (CX : CXT) (k : Nat) (m : Str) (E : XK) (ta : TE) (t : TA) : TE := fun σ H Q => ta σ H fun x H1 => ∃ a C dx fs, x = .ref a ∧ H1 a = some (.ins C dx fs) ∧ Cls X.K C ∧ fs.lookup m = none ∧
  ∃ sp, MethOk X.prog X.w X.K X.mg X.base CX k C m sp ∧ t σ H1 fun vs H2 => sp (x :: vs) H2 Q E
section
variable {X : Cx} {k : Nat} {m : Str} {pos apos : Pos} {e o : Expr} {es : List Expr} {ta : TE} {t : TA}
theorem pe_methD {pl : Sem Bool} (hr : Room k X.A) (he : PE X o ta) (ha : PA X (e :: es) t)
    (hst : starEach (e :: es) X.env = (false, eval e X.env) :: starEach es X.env := by rfl) (hpl : (backTo pos (starEach es X.env)).any (·.1) = false := by rfl)
    (ht : eval (.Call (.Attribute o m apos) (e :: es) [] pos) X.env = (do
      let ov ← eval o X.env
      standAt apos.atName
      let (f, first) ← holding [ov] (getMethod ov m pl)
      callWith pos f first (backTo pos (starEach (e :: es) X.env)) (backToKw pos (keywordEach [] X.env))) := by rfl) :
    PE X (.Call (.Attribute o m apos) (e :: es) [] pos) (tMethD X CX0 k m E0 ta t) := by
  intro pins s σ H Q I h
  refine PySem.W.methodCall_KW (pl := pl) (thn (he pins s σ H _ I h) fun u s1 ⟨x, H1, I1, rx, a, C, dx, fs, ex, ea, c, l, sp, M, q⟩ => ?_) ht
  subst ex
  obtain ⟨f, fd, ps, hm, F, hb⟩ := M.ex
  obtain rfl : u = Value.ref a := rx
  refine getmeth_ok I1 ea c hm l ?_
  refine PySem.W.callWith_K (first := [.ref a]) (h₀ := X.base) I.ok.mod.kin hm.kp (thn (ha pos pins s1 σ H1 _ I1 q) fun us s2 ⟨vs, H2, I2, r, q2⟩ => ⟨I2.kIn, ?_⟩) hst hpl
  exact run_fn (us := .ref a :: us) (vs := .ref a :: vs) F hr hb .nil pass0 I2 (.cons rfl r) (by rw [List.append_nil]; exact q2)
theorem pe_methD0 {pl : Sem Bool} (hr : Room k X.A) (he : PE X o ta)
    (ht : eval (.Call (.Attribute o m apos) [] [] pos) X.env = (do
      let ov ← eval o X.env
      standAt apos.atName
      let (f, first) ← holding [ov] (getMethod ov m pl)
      callWith pos f first (backTo pos (starEach [] X.env)) (backToKw pos (keywordEach [] X.env))) := by rfl) :
    PE X (.Call (.Attribute o m apos) [] [] pos) (tMethD X CX0 k m E0 ta tNil) := by
  intro pins s σ H Q I h
  refine PySem.W.methodCall_KW (pl := pl) (thn (he pins s σ H _ I h) fun u s1 ⟨x, H1, I1, rx, a, C, dx, fs, ex, ea, c, l, sp, M, q⟩ => ?_) ht
  subst ex
  obtain ⟨f, fd, ps, hm, F, hb⟩ := M.ex
  obtain rfl : u = Value.ref a := rx
  refine getmeth_ok I1 ea c hm l ?_
  exact PySem.W.callWith_K0 (first := [.ref a]) I1.kIn hm.kp (run_fn (us := [.ref a]) (vs := [.ref a]) F hr hb .nil pass0 I1 (.cons rfl .nil) q)
end
/-! ### items -/
theorem atI_ix {α : Type} [Inhabited α] {xs : List α} {i : Int} (h0 : 0 ≤ i) (h1 : i < xs.length) : atI xs i = some (xs.getD i.toNat default) := by
  have hj : i.toNat < xs.length := by omega
  have e := atI_nat (xs := xs) (j := i.toNat) (v := xs[i.toNat]) (by simp [hj])
  rw [Int.toNat_of_nonneg h0] at e
  rw [e, List.getD_eq_getElem?_getD, List.getElem?_eq_getElem hj]
  rfl
theorem atI_map {α : Type} {f : α → V} {xs : List α} {i : Int} (d : α) (h0 : 0 ≤ i) (h1 : i < xs.length) : atI (xs.map f) i = some (f (xs.getD i.toNat d)) := by
  have hj : i.toNat < (xs.map f).length := by rw [List.length_map]; omega
  have e := atI_nat (xs := xs.map f) (j := i.toNat) (v := (xs.map f)[i.toNat]) (List.getElem?_eq_getElem hj)
  rw [Int.toNat_of_nonneg h0] at e
  rw [e, List.getElem_map, List.getD_eq_getElem?_getD, List.getElem?_eq_getElem (by omega)]
  rfl
theorem atI_int' {xs : List Int} {i : Int} (h0 : 0 ≤ i) (h1 : i < xs.length) : atI (xs.map V.int) i = some (.int (xs.getD i.toNat 0)) := atI_map 0 h0 h1
theorem atI_str' {xs : List Str} {i : Int} (h0 : 0 ≤ i) (h1 : i < xs.length) : atI (xs.map V.str) i = some (.str (xs.getD i.toNat "")) := atI_map (f := V.str) ("" : Str) h0 h1
theorem atI_sign {z : Str} {i : Int} (h0 : 0 ≤ i) (h1 : i < z.length) : atI z.cps.toList i = some (z.cps.toList.getD i.toNat 0) := atI_ix h0 (by simpa [Str.length] using h1)
/-! ### texts joined in any order -/
theorem str_ext {a b : Str} (h : a.cps.toList = b.cps.toList) : a = b := by
  cases a; cases b
  simp only at h
  rw [Array.toList_inj.mp h]
theorem join_two (s x y : Str) (r : List Str) : Str.join s (x :: y :: r) = x ++ s ++ Str.join s (y :: r) := rfl
theorem join_one (s x : Str) : Str.join s [x] = x := rfl
end L2

namespace L2
open PySem PySem.Spec PyProof.Rows
/-- two texts of known size -/
theorem cat_ok {x y : Str} {n m : Nat} (hx : x.length ≤ n) (hy : y.length ≤ m) (h : n + m ≤ 1000) : x.length + y.length ≤ sizeLine := line_small (by omega)
theorem cat_len {x y : Str} {n m : Nat} (hx : x.length ≤ n) (hy : y.length ≤ m) : (x ++ y).length ≤ n + m := by rw [str_len_append]; omega
theorem one_len {c : Nat} : (⟨#[c]⟩ : Str).length ≤ 1 := Nat.le_refl _
end L2

namespace L2
open PySem PySem.Spec PyProof.Rows
/-! ### a field, read -/
def Fld (K : PySem.W.Frag) (H : Hp) (x : V) (f : Str) (v : V) : Prop := ∃ a C dx fs, x = .ref a ∧ H a = some (.ins C dx fs) ∧ Cls K C ∧ NoAttr K C f ∧ fs.lookup f = some v
def nFld (K : PySem.W.Frag) (ta : TE) (f : Str) : TE := fun σ H Q => ta σ H fun x H1 => ∃ v, Fld K H1 x f v ∧ Q v H1
theorem ne_fld {X : Cx} {K : PySem.W.Frag} (hK : X.K = K) {e : Expr} {ta : TE} {f : Str} {pos : Pos} (he : PE X e ta) (hb : attributeBase e f X.env (eval e X.env) = eval e X.env) : PE X (.Attribute e f pos) (nFld K ta f) := by
  subst hK
  refine (pe_fld he.cut hb).mono fun σ H Q q => ⟨_, q, fun x H1 z => ?_⟩
  obtain ⟨v, ⟨a, C, dx, fs, h1, h2, h3, h4, h5⟩, q⟩ := z
  exact ⟨a, C, dx, fs, v, h1, h2, h3, h4, h5, q⟩
theorem kit_same (K : PySem.W.Frag) (t : Value) : PySem.W.kitOne K t t = some true := by
  unfold PySem.W.kitOne
  rw [if_pos (by simp)]
end L2

/-! ## A class without an __init__ (own text). -/
namespace L2
open PySem PySem.Spec PyProof.Rows
structure Mk0 (K : PySem.W.Frag) (C : Addr) : Prop where
  makes : PySem.W.makesIn K C = true
  init : PySem.W.findIn K (.ref C) "__init__" = some (some (.builtin "object.__init__"))
  kp : PySem.W.keepIn K (.ref C) = true
section
variable {X : Cx} {C : Addr} {x : Str} {p pos : Pos}
end
end L2
namespace L2
open PySem PySem.Spec PyProof.Rows
/-! ### a number's text -/
/-! ### lists of texts, compared -/
theorem eqv_strs (xs ys : List Str) : PyData.eqv (.list (xs.map PyData.str)) (.list (ys.map PyData.str)) = decide (xs = ys) := by
  simp only [PyData.eqv, eqvAll_strs]
end L2

namespace L2
open PySem PySem.Spec PyProof.Rows
theorem lookS {H H' : Hp} {b : Addr} {o : HO} (e : H b = some o) (s : Same H H') : H' b = some o := s b o e
theorem seqS {K : PySem.W.Frag} {H H' : Hp} {a : Addr} {xs : List V} (h : SqL K H a xs) (s : Same H H') : SqL K H' a xs := s.seq h
end L2
namespace L2
open PySem PySem.Spec PyProof.Rows
end L2

namespace L2
open PySem PySem.Spec PyProof.Rows
section
variable {X : Cx} {K : PySem.W.Frag}
theorem pg_tupK {es : List Expr} {k : Nat} {t : TGs} {n : Nat} {pos : Pos} (hK : X.K = K) (hc : X.calm = true) (h : PGs X es t)
    (hn : (assignEach es X.env).length = n := by rfl) (hst : (assignEach es X.env).findIdx? (·.1) = none := by rfl) : PG X (.Tuple es k pos) (gTup K n t) := hK ▸ pg_tup hc h hn hst
theorem ixK_list (hK : X.K = K) : IxR X (rIxL K) := hK ▸ ix_list
theorem nsK_list (hK : X.K = K) : SlR X (fun x lo hi H Q => ∃ a xs, x = .ref a ∧ SqL K H a xs ∧ Nw H (.lst (cutV xs lo hi)) Q) := hK ▸ ns_list
theorem opK_in (hK : X.K = K) : OpR X (compareOp .In) (rIn K false) := hK ▸ op_in_seq
theorem opK_notIn (hK : X.K = K) : OpR X (compareOp .NotIn) (rIn K true) := hK ▸ op_notIn_seq
theorem opK_eqD (hK : X.K = K) (hu : X.A.units + 64 < cLine) : OpR X (compareOp .Eq) (rEqD K false) := hK ▸ op_eqD hu
theorem callK_len (hK : X.K = K) : CallR X (.builtin "len") (fun xs H Q => ∃ p ys, xs = [.ref p] ∧ (SqL K H p ys ∨ SqT K H p ys) ∧ Q (.int ys.length) H) := hK ▸ call_len_seq
theorem ncK_list (hK : X.K = K) : CallR X (.type "list") (fun xs H Q => ∃ p ys, xs = [.ref p] ∧ (SqL K H p ys ∨ SqT K H p ys) ∧ Nw H (.lst ys) Q) := hK ▸ nc_list_of
theorem callK_isinst (hK : X.K = K) : CallR X (.builtin "isinstance") (fun xs H Q => ∃ x c t b, xs = [x, c] ∧ ((∃ n, c = .ty n) ∨ ∃ a, c = .ref a) ∧ TyOf K H x t ∧ PySem.W.kitOne K t (clsV c) = some b ∧ Q (.bl b) H) := hK ▸ call_isinst
theorem mtK_join (hK : X.K = K) : MtR X "str.join" (rJoin K) := hK ▸ mt_join
theorem piK_list {tg l : Expr} {tl : TE} (hK : X.K = K) (hl : PE X l tl) : PI X tg l (iList K tl) := hK ▸ pi_list hl
end
end L2

/-! ## A list comprehension with any target and at most one test (own text). -/
namespace L2
open PySem PySem.Spec PyProof.Rows
structure CompScopeG (osc : Scope) (N : List Str) (sc : Scope) (xs names : List Str) (caps : List Nat) : Prop where
  kind : sc.kind = .function
  nocell : ∀ y ∈ sc.names, y.2 ≠ .cell
  locs : ∀ y ∈ sc.names, y.2 = .local → sc.names.lookup y.1 = some .local
  frees : ∀ y ∈ sc.names, y.2 = .free → osc.names.lookup y.1 = some .cell
  own : ∀ x ∈ xs, sc.names.lookup x = some .local
  caps : names.map some = caps.map fun i => N[i]?
  isfree : ∀ y ∈ names, sc.names.lookup y = some .free
  nd : (xs ++ names).Nodup
def cxCompG (X : Cx) (sc : Scope) (xs names : List Str) (fp : List Addr) (s₀ : Shared) (H₀ : Hp) : Cx where
  prog := X.prog
  w := X.w
  K := X.K
  mg := X.mg
  base := X.base
  A := X.A
  N := xs ++ names
  s₀ := s₀
  H₀ := H₀
  env := compEnvC sc (closOf X.env sc.names []) s₀.heap.objs.size X.env
  outer := X.stack
  stack := X.stack
  ex := fp
  fn := fun _ => false
  calm := X.calm
  pn := []
  xe := fun _ _ => False
theorem locG {X : Cx} {sc : Scope} {xs names : List Str} {fp : List Addr} {s₀ : Shared} {H₀ : Hp} {x : Str} (h : sc.names.lookup x = some .local) : (cxCompG X sc xs names fp s₀ H₀).env.scope.names.lookup x = some .local := lookup_relabel_local h
/-- the tests of a clause -/
def PTs (X : Cx) (ifs : List Expr) (t : TT) : Prop :=
  ∀ (pins : List (Addr × Obj)) (s : Shared) (σ : St) (H : Hp) (Q : Bool → Hp → Prop), Inv X pins σ H s → t σ H Q →
    wpAny (model X.prog X.w) X.A (forIn ifs true fun c r => if r = true then do let ok ← isTrue c X.env (eval c X.env); pure (ForInStep.yield ok) else pure (ForInStep.yield r)) (TP X pins σ Q) X.xe s
def tYes : TT := fun _ H Q => Q true H
theorem pts_nil {X : Cx} : PTs X [] tYes := fun _ _ _ H _ I q => wpAny_tests_nil ⟨H, I, q⟩
def CompG (J : It) (n : Nat) (caps : List Nat) (g : TG) (tt : TT) (te : TE) (σ : St) (Q : VK) (H1 : Hp) : Prop := ∀ D, H1 D = none → ∃ W : Nat → Nat → St → Hp → Prop, (∃ m, W 0 m (List.replicate n none ++ capV σ caps) (upd H1 D (.lst []))) ∧ ∀ i m σ1 H2, W i m σ1 H2 →
  (J.stop i H2 ∧ Q (.ref D) H2) ∨ (J.go i H2 ∧ ∀ y H3, J.yld i H2 y H3 → g y σ1 H3 fun σ2 H4 => tt σ2 H4 fun b H5 => if b = true then te σ2 H5 fun v H6 => ∃ ys, H6 D = some (.lst ys) ∧ ys.length < sizeLine ∧ ∃ m', m' < m ∧ W (i + 1) m' σ2 (upd H6 D (.lst (ys ++ [v])))
    else ∃ m', m' < m ∧ W (i + 1) m' σ2 H5)
def tCompG (n : Nat) (caps : List Nat) (wi : TI) (g : TG) (tt : TT) (te : TE) : TE := fun σ H Q => wi σ H fun J H1 => CompG J n caps g tt te σ Q H1
section
variable {prog : Program} {w : World} {A : Around} {R : Result → Shared → Prop} {s : Shared}
theorem compLoop_goG {el tg src : Expr} {ifs : List Expr} {scope : Scope} {pos : Pos} {it acc : Value} {env : Env} (I : Nat → Shared → Prop)
    (turn : ∀ n s, I n s → Noted prog w A env R (pyNext it) (fun r s1 => match r with
      | none => R (.ok .next) s1
      | some v => Noted prog w A env R (letOwnedTupleGo tg it v) (fun _ => Noted prog w A env R (assign tg env v) fun _ => Noted prog w A env R (forIn ifs true (testB env)) fun ok s4 =>
        if ok = true then Noted prog w A env R (eval el env) (fun x => Noted prog w A env R (call (.builtin "list.append") [acc, x]) fun _ s6 => ∃ m, m < n ∧ I m s6) s4 else ∃ m, m < n ∧ I m s4) s1) s) (n : Nat) (h : I n s) :
    codeAny (model prog w) A (.compLoop (.ListComp el [⟨tg, src, ifs, 0⟩] scope pos) 0 it acc env) R s := by
  refine codeAny_loop rfl I (fun k s1 hI => (?_ : wpAny _ _ (Sem.onRaise _ _) _ _ _)) n h
  refine wpAny_noted (compTurn_list .. ▸ wpAny_bind (wpAny_standAt (sq2 (turn k s1 hI) fun r s2 hr => ?_)))
  cases r
  · exact wpAny_pure hr
  · exact sq2 hr fun _ _ a => sq2 a fun _ _ b => sq2 b fun ok _ c => by
      cases ok
      · exact wpAny_pure ⟨rfl, c⟩
      · exact sq2 (sq2 c fun _ _ d => sq2 d fun _ _ e => wpAny_pure e) fun _ _ e => wpAny_pure ⟨rfl, e⟩
end
section
variable {X : Cx}
theorem compOkG {pins : List (Addr × Obj)} {σ : St} {H : Hp} {s : Shared} {osc : Scope} {N : List Str} {sc : Scope} {xs names : List Str} {caps : List Nat} {fp : List Addr}
    (hos : X.env.scope = osc) (cs : CompScopeG osc N sc xs names caps) (I : Inv X pins σ H s) (hf : ∀ b ∈ fp, FpOk X pins H b) (hlt : ∀ b ∈ fp, b < s.heap.objs.size) : (cxCompG X sc xs names fp s H).Ok := by
  subst hos
  have cl := closOf_spec (env := X.env) sc.names [] (fun z c e => by simp at e)
  have hcl : ∀ y c, (closOf X.env sc.names []).lookup y = some c → X.env.cells.lookup y = some c := fun y c e => by
    have e1 := cl.1 y c e
    have hm : (y, NameKind.free) ∈ sc.names := by
      by_cases q : (y, NameKind.free) ∈ sc.names
      · exact q
      · have := (cl.2 y).mpr ⟨rfl, q⟩
        rw [this] at e; cases e
    obtain ⟨c', hc'⟩ := I.ok.has y (.inl (cs.frees _ hm rfl))
    rw [hc'] at e1 ⊢
    rw [e1]; rfl
  refine ⟨I.ok.mod, ?_, I.ok.glob, I.ok.blt, Nat.le_refl _, fun y z c h1 h2 => I.ok.inj y z c (hcl y c h1) (hcl z c h2), fun y hy => ?_, fun y c h => ?_, I.ok.hd, I.ok.frames, .inl rfl, fun b hb => ⟨?_, fun y c h => ?_⟩,
    I.bs, Nat.le_trans I.ok.bsz I.sz, fun b o e hb => ?_, fun b hb z => ?_, I.stack, I.stkFree⟩
  · exact cs.kind
  · have hy' : (relabel sc X.env).names.lookup y = some .cell ∨ (relabel sc X.env).names.lookup y = some .free := hy
    have key : sc.names.lookup y = some .free := by
      rw [lookup_relabel] at hy'
      cases q : sc.names.lookup y with
      | none => rw [q] at hy'; simp at hy'
      | some k =>
        rw [q] at hy'
        have hm := PySem.mem_of_lookup q
        have hnc := cs.nocell _ hm
        by_cases hk : k = .free
        · rw [hk]
        · have e : (if (k == NameKind.free && X.env.scope.kind == .function && X.env.kindOf y == some .cell) = true then NameKind.cell else k) = k := if_neg (by simp [hk])
          rw [Option.map_some, e] at hy'
          rcases hy' with z | z
          · exact absurd (Option.some.inj z) hnc
          · exact absurd (Option.some.inj z) hk
    have hm := PySem.mem_of_lookup key
    cases q : (closOf X.env sc.names []).lookup y with
    | some c => exact ⟨c, q⟩
    | none => exact absurd hm ((cl.2 y).mp q).2
  · exact absurd (show false = true from h) (by simp)
  · exact Nat.ne_of_lt (hlt b hb)
  · exact (hf b hb).2.2.2.2.1 y c (hcl y c h)
  · rcases (hf b hb).2.2.2.1 with z | z
    · exact I.ok.noex b o e z
    · exact absurd (Nat.lt_of_lt_of_le (Heap.lt_size e) (Nat.le_trans I.ok.bsz z)) (Nat.lt_irrefl _)
  · rcases List.mem_cons.mp (I.stkSub b z) with q | q
    · exact (hf b hb).2.1 q
    · exact (hf b hb).2.2.1 q

/-- the block runs: what is wanted at its end is asked of every state at which the list has grown to its end -/
theorem comp_runG {pins : List (Addr × Obj)} {σ : St} {s₂ : Shared} {osc : Scope} {N : List Str} {sc : Scope} {pos : Pos} {elt iter tg : Expr} {ifs : List Expr} {xs names : List Str} {caps : List Nat} {g : TG} {tt : TT} {te : TE} {E : Value → Shared → Prop}
    {RR : Value → Addr → Result → Shared → Prop} {H2 : Hp} {it : Addr} {fp : List Addr} {tn : Nat → Heap → Prop} {J : It} {Qd : V → Hp → Prop}
    (hc : X.calm = true) (hos : X.env.scope = osc) (hN : X.N = N) (cs : CompScopeG osc N sc xs names caps) (hg : ∀ fp s₀ H₀, PG (cxCompG X sc xs names fp s₀ H₀) tg g) (ht : ∀ fp s₀ H₀, PTs (cxCompG X sc xs names fp s₀ H₀) ifs tt) (he : ∀ fp s₀ H₀, PE (cxCompG X sc xs names fp s₀ H₀) elt te)
    (I2 : Inv X pins σ H2 s₂) (T : Turn X.prog X.w X.K tg J fp it tn) (st2 : tn 0 s₂.heap) (f2 : ∀ b ∈ fp, FpOk X pins H2 b)
    (hW : CompG J xs.length caps g tt te σ Qd H2)
    (cont : ∀ D C H5 s6 m, Inv X pins σ H5 s6 → s6.heap.Ns C m → FpOk X pins H5 C → Qd (.ref D) H5 → RR (.ref D) C (.ok .next) s6) :
    wpAny (model X.prog X.w) X.A (newList []) (fun acc s₃ => wpAny (model X.prog X.w) X.A (newFunctionEnv sc X.env.globals (closOf X.env sc.names []) [] X.env.qual none .none (some X.env)) (fun cenv s₄ =>
      codeAny (model X.prog X.w) X.A (.compStart (.ListComp elt [⟨tg, iter, ifs, 0⟩] sc pos) 0 (.ref it) acc { cenv with scope := relabel sc X.env }) (RR acc cenv.locals) s₄) E s₃) E s₂ := by
  subst hN
  refine wpAny_newObj_type (wpAny_newFunctionEnv cs.nocell (by intro y hy; simp at hy) (fun h₁ hns₁ hsb₁ => ?_) cs.kind)
  dsimp only at hns₁ hsb₁ ⊢
  have fp2 : ∀ b ∈ fp, b < s₂.heap.objs.size := fun b hb => by
    obtain ⟨o, e, _⟩ := T.obj _ _ st2 b hb
    exact Heap.lt_size e
  have I3 : Inv X pins σ (upd H2 s₂.heap.objs.size (.lst [])) { s₂ with heap := s₂.heap.push { cls := .type "list", dict := none, data := .seq ([] : List Value).toArray } } := I2.lnew (t' := s₂.toks) (its := []) .nil (Nat.zero_le _)
  obtain ⟨W, ⟨m0, w0⟩, turn⟩ := hW s₂.heap.objs.size I2.fresh
  have f3 : ∀ b ∈ fp, FpOk X pins (upd H2 s₂.heap.objs.size (.lst [])) b := fun b hb => ⟨by rw [upd_ne (Nat.ne_of_lt (fp2 b hb))]; exact (f2 b hb).1, (f2 b hb).2⟩
  have hD : ∀ b o, s₂.heap.get? b = some o → (s₂.heap.push { cls := .type "list", dict := none, data := .seq ([] : List Value).toArray }).get? b = some o := fun b o e => Heap.get?_push_of_some _ e
  generalize hs3 : ({ s₂ with heap := s₂.heap.push { cls := .type "list", dict := none, data := .seq ([] : List Value).toArray } } : Shared) = s₃ at *
  have hs3h : s₃.heap = s₂.heap.push { cls := .type "list", dict := none, data := .seq ([] : List Value).toArray } := by rw [← hs3]
  rw [← hs3h] at hns₁ hsb₁ hD ⊢
  have fp3 : ∀ b ∈ fp, b < s₃.heap.objs.size := fun b hb => by
    rw [hs3h, Heap.size_push]; exact Nat.lt_succ_of_lt (fp2 b hb)
  have k3 : ∀ b o, s₃.heap.get? b = some o → h₁.get? b = some o := fun b o e => hsb₁.extBut b o (Nat.ne_of_lt (Heap.lt_size e)) (Heap.get?_push_of_some _ e)
  have ok := compOkG hos cs I3 f3 fp3
  have cl := closOf_spec (env := X.env) sc.names [] (fun z c e => by simp at e)
  have hcl : ∀ y c, (closOf X.env sc.names []).lookup y = some c → X.env.cells.lookup y = some c := fun y c e => by
    have e1 := cl.1 y c e
    have hm : (y, NameKind.free) ∈ sc.names := by
      by_cases q : (y, NameKind.free) ∈ sc.names
      · exact q
      · have := (cl.2 y).mpr ⟨rfl, q⟩
        rw [this] at e; cases e
    obtain ⟨c', hc'⟩ := I3.ok.has y (.inl (by show X.env.scope.names.lookup y = _; rw [hos]; exact cs.frees _ hm rfl))
    rw [hc'] at e1 ⊢
    rw [e1]; rfl
  have cell4 : ∀ y c, (closOf X.env sc.names []).lookup y = some c → ∀ v, s₃.heap.IsCell c v → h₁.IsCell c v := fun y c e v ⟨o, ho, hd⟩ => ⟨o, k3 _ _ ho, hd⟩
  have lenC : caps.length = names.length := by have := congrArg List.length cs.caps; simpa using this.symm
  have I4 : ∀ tk, Inv (cxCompG X sc xs names fp s₃ (upd H2 s₂.heap.objs.size (.lst []))) [] (List.replicate xs.length none ++ capV σ caps) (upd H2 s₂.heap.objs.size (.lst [])) { s₃ with heap := h₁, toks := tk } := fun tk => by
    refine ⟨ok, rfl, I3.bare, Un.kept k3, ⟨_, hns₁, fun i y v e1 e2 e3 => ?_⟩, fun y c e => ?_, I3.fresh, fun y c e => I3.freeC y c (hcl y c e), fun p hp => absurd (show p ∈ ([] : List (Addr × Obj)) from hp) (by simp), I3.hok.kept k3, ?_⟩
    · have hle : xs.length ≤ i := by
        by_cases q : i < xs.length
        · rw [List.getElem?_append_left (by rw [List.length_replicate]; exact q), List.getElem?_replicate, if_pos q] at e2
          cases e2
        · omega
      obtain ⟨j, rfl⟩ : ∃ j, i = xs.length + j := ⟨i - xs.length, by omega⟩
      · have e1' : names[j]? = some y := by
          have e1z : (xs ++ names)[xs.length + j]? = some y := e1
          rw [List.getElem?_append_right (Nat.le_add_right _ _), Nat.add_sub_cancel_left] at e1z
          exact e1z
        have e2' : (capV σ caps)[j]? = some (some v) := by
          rw [List.getElem?_append_right (by rw [List.length_replicate]; exact Nat.le_add_right _ _), List.length_replicate, Nat.add_sub_cancel_left] at e2
          exact e2
        unfold capV at e2'
        rw [List.getElem?_map] at e2'
        cases qc : caps[j]? with
        | none => rw [qc] at e2'; cases e2'
        | some i0 =>
          rw [qc] at e2'
          have e2'' : (σ[i0]?).join = some v := by simpa using e2'
          have e3' : σ[i0]? = some (some v) := by
            cases qs : σ[i0]? with
            | none => rw [qs] at e2''; cases e2''
            | some o => rw [qs] at e2''; rw [show o = some v from by simpa using e2'']
          have eN : X.N[i0]? = some y := by
            have q1 : (names.map some)[j]? = (caps.map fun i => X.N[i]?)[j]? := by rw [cs.caps]
            rw [List.getElem?_map, List.getElem?_map, e1', qc] at q1
            have q2 : some y = X.N[i0]? := by simpa using q1
            exact q2.symm
          have hfree := cs.isfree y (List.mem_of_getElem? e1')
          have hm := PySem.mem_of_lookup hfree
          have hcell : X.env.scope.names.lookup y = some .cell := by rw [hos]; exact cs.frees _ hm rfl
          obtain ⟨m, hn, hl⟩ := I3.loc
          obtain ⟨u, ru, lk⟩ := hl i0 y v eN e3' (.inr (.inl hcell))
          refine ⟨u, ru, ?_⟩
          rcases lk with ⟨kk, _⟩ | ⟨kk, c, ec, hcl'⟩
          · have kk' : X.env.scope.names.lookup y = some .local := kk
            rw [hcell] at kk'; cases kk'
          · refine .inr ⟨?_, c, ?_, ?_⟩
            · left
              show (relabel sc X.env).names.lookup y = some .cell
              rw [lookup_relabel, hfree]
              have ef : (X.env.scope.kind == ScopeKind.function) = true := by rw [I3.ok.kind]; rfl
              have ek : (X.env.kindOf y == some NameKind.cell) = true := by
                show (X.env.scope.names.lookup y == some NameKind.cell) = true
                rw [hcell]; rfl
              simp [ef, ek]
            · show (closOf X.env sc.names []).lookup y = some c
              cases q : (closOf X.env sc.names []).lookup y with
              | none => exact absurd hm ((cl.2 y).mp q).2
              | some c' =>
                have := hcl y c' q
                rw [ec] at this
                exact this.symm
            · obtain ⟨o, ho, hd⟩ := hcl'
              exact ⟨o, k3 _ _ ho, hd⟩
    · obtain ⟨v, hv⟩ := I3.cell y c (hcl y c e)
      exact ⟨v, cell4 y c e v hv⟩
    · show (List.replicate xs.length none ++ capV σ caps).length = (xs ++ names).length
      unfold capV
      simp [lenC]
  have st4 : tn 0 h₁ := T.keep _ _ _ st2 fun b hb o e => k3 b o (by rw [hs3h]; exact Heap.get?_push_of_some _ e)
  have fpok : ∀ {H' : Hp}, (∀ b ∈ fp, H' b = none) → ∀ b ∈ fp, FpOk (cxCompG X sc xs names fp s₃ (upd H2 s₂.heap.objs.size (.lst []))) [] H' b := fun hn b hb =>
    ⟨hn b hb, (ok.exf b hb).1, ok.exfs b hb, .inl hb, (ok.exf b hb).2, fun p hp => absurd (show p ∈ ([] : List (Addr × Obj)) from hp) (by simp)⟩
  have loop : ∀ s₄ : Shared, s₄ = { s₃ with heap := h₁, toks := s₃.toks + ([] : List (Str × Value)).length } →
      codeAny (model X.prog X.w) X.A (.compLoop (.ListComp elt [⟨tg, iter, ifs, 0⟩] sc pos) 0 (.ref it) (.ref s₂.heap.objs.size) (compEnvC sc (closOf X.env sc.names []) s₃.heap.objs.size X.env))
        (RR (.ref s₂.heap.objs.size) s₃.heap.objs.size) s₄ := by
    rintro s₄ rfl
    refine compLoop_goG (fun n s' => ∃ i σ' H', Inv (cxCompG X sc xs names fp s₃ (upd H2 s₂.heap.objs.size (.lst []))) [] σ' H' s' ∧ tn i s'.heap ∧ (∀ b ∈ fp, H' b = none) ∧ W i n σ' H') ?_ m0
      ⟨0, _, _, I4 _, st4, fun b hb => (f3 b hb).1, w0⟩
    rintro n s5 ⟨i, σ5, H5, I5, st5, fr5, w5⟩
    rcases turn i n σ5 H5 w5 with ⟨stop, q⟩ | ⟨go, step⟩
    · refine thn (T.done (cxCompG X sc xs names fp s₃ (upd H2 s₂.heap.objs.size (.lst []))) rfl rfl rfl hc i [] s5 _ H5 _ I5 (fpok fr5) st5 stop) fun r s6 ⟨hr, I6⟩ => ?_
      subst hr
      obtain ⟨m, hn, _⟩ := I6.loc
      have J6 : Inv X pins σ H5 s6 := I3.call' (ch := fp) I6.os I6.base I6.hok I6.bare fun b hb => ⟨(f3 b hb).2.2.2.1, (f3 b hb).2.1, (f3 b hb).2.2.2.2.1, (f3 b hb).2.2.2.2.2⟩
      exact cont _ _ H5 s6 m J6 hn (I3.fpOk (H' := H5) (Nat.le_refl _) I6.free) q
    · refine thn (T.item (cxCompG X sc xs names fp s₃ (upd H2 s₂.heap.objs.size (.lst []))) rfl rfl rfl hc i [] s5 _ H5 _ I5 (fpok fr5) st5 go) fun r s6 ⟨u, hr, h6⟩ => ?_
      subst hr
      refine thn h6 fun _ s6' ⟨y, H6, I6, r6, y6, st6, fr6⟩ => ?_
      have I6' := I6.pinned (fpok fr6) (T.obj _ _ st6)
      have back : ∀ {σ' : St} {H' : Hp} {s' : Shared}, Inv (cxCompG X sc xs names fp s₃ (upd H2 s₂.heap.objs.size (.lst []))) ([] ++ pinsAt fp s6'.heap) σ' H' s' → tn (i + 1) s'.heap ∧ ∀ b ∈ fp, H' b = none := fun I9 =>
        ⟨T.keep _ _ _ st6 fun b hb o e => (I9.pin (b, o) (List.mem_append_right _ (List.mem_append_right _ (mem_pinsAt hb e)))).1, fun b hb => by
          obtain ⟨o, e, d⟩ := T.obj _ _ st6 b hb
          exact (I9.pin (b, o) (List.mem_append_right _ (List.mem_append_right _ (mem_pinsAt hb e)))).2.1⟩
      refine wpAny_mono (hg fp s₃ _ _ s6' _ H6 y u _ I6' r6 (step y H6 y6)) (fun _ s7 ⟨σ7, H7, I7, q7⟩ => ?_) fun _ _ z => False.elim z
      refine wpAny_mono (ht fp s₃ _ _ s7 _ H7 _ I7 q7) (fun b s8 ⟨H8, I8, q8⟩ => ?_) fun _ _ z => False.elim z
      cases b with
      | false =>
        rw [if_neg Bool.false_ne_true] at q8 ⊢
        obtain ⟨m', hm', w8⟩ := q8
        exact ⟨m', hm', i + 1, σ7, H8, I8.unpinned, (back I8).1, (back I8).2, w8⟩
      | true =>
        rw [if_pos rfl] at q8 ⊢
        refine wpAny_mono (he fp s₃ _ _ s8 _ H8 _ I8 q8) (fun v s9 ⟨vv, H9, I9, r9, ys, hD9, hz9, m', hm', w9⟩ => ?_) fun _ _ z => False.elim z
        refine wpAny_mono (mt_append (X := cxCompG X sc xs names fp s₃ (upd H2 s₂.heap.objs.size (.lst []))) _ s9 _ H9 (.ref s₂.heap.objs.size) [vv] (.ref s₂.heap.objs.size) [v] (fun _ H' => H' = upd H9 s₂.heap.objs.size (.lst (ys ++ [vv]))) I9 rfl (.cons r9 .nil)
          ⟨_, ys, vv, rfl, rfl, hD9, hz9, rfl⟩) (fun _ s10 ⟨_, H10, I10, _, e10⟩ => ?_) fun _ _ z => False.elim z
        subst e10
        exact ⟨m', hm', i + 1, σ7, _, I10.unpinned, (back I10).1, (back I10).2, w9⟩
  exact codeAny_compStart_list (loop _ (by rw [← hs3])) (T.self _ 0 _ _ _ st4 (loop _ (by rw [← hs3])))

theorem comp_closG {pins : List (Addr × Obj)} {σ : St} {H : Hp} {s : Shared} {osc : Scope} {N : List Str} {sc : Scope} {xs names : List Str} {caps : List Nat} (hos : X.env.scope = osc) (cs : CompScopeG osc N sc xs names caps) (I : Inv X pins σ H s) :
    closureFor sc X.env = pure (closOf X.env sc.names []) :=
  closureFor_of fun y hy hk => I.ok.has y.1 (.inl (by show X.env.scope.names.lookup y.1 = _; rw [hos]; exact cs.frees y hy hk))

/-- [elt for x in iter] -/
theorem pe_lcompG {osc : Scope} {N : List Str} {sc : Scope} {pos : Pos} {elt iter tg : Expr} {ifs : List Expr} {g : TG} {tt : TT} {xs names : List Str} {caps : List Nat} {wi : TI} {te : TE}
    (hc : X.calm = true) (hos : X.env.scope = osc) (hN : X.N = N) (cs : CompScopeG osc N sc xs names caps) (hi : PI X tg iter wi) (hg : ∀ fp s₀ H₀, PG (cxCompG X sc xs names fp s₀ H₀) tg g) (ht : ∀ fp s₀ H₀, PTs (cxCompG X sc xs names fp s₀ H₀) ifs tt) (he : ∀ fp s₀ H₀, PE (cxCompG X sc xs names fp s₀ H₀) elt te)
    (hs : ∀ v, foldedSetIterable iter X.env v = pure v := by intro _; rfl) : PE X (.ListComp elt [⟨tg, iter, ifs, 0⟩] sc pos) (tCompG xs.length caps wi g tt te) := by
  intro pins s σ H Q I h
  rw [eval_ListComp]
  refine wpAny_comprehension_free (use := none) rfl hs (comp_closG hos cs I) cs.kind cs.locs (thn (hi pins s σ H _ I h) fun xv s1 h1 => thn h1 fun itv s2 h2 => ?_)
  obtain ⟨it, fp, tn, J, H2, rfl, I2, T, st2, f2, hW⟩ := h2
  refine comp_runG (Qd := Q) (RR := fun acc C => compPost (model X.prog X.w) X.A X.xe none (EP X pins σ Q) acc C) hc hos hN cs hg ht he I2 T st2 f2 hW fun D C H5 s6 m I6 hn fC q => ?_
  refine ⟨m, hn, fun h' sb => ?_⟩
  obtain ⟨g0, g1, g2, g3, g4, g5⟩ := fC
  exact ⟨.ref D, H5, I6.turned (t' := s6.toks) (it := C) (fun b o hb e => sb.extBut b o hb e) g0 g1 g3 g4 g5, rfl, q⟩

end



/-! ### the form one uses: a filter, then a map -/
theorem comp_ifG {J : It} {H : Hp} {xs : List V} {n : Nat} {caps : List Nat} {g : TG} {tt : TT} {te : TE} {σ : St} {Q : VK} (hJ : SeqJ J H xs) (tv : V → List (Option V)) (hn : ∀ y, (tv y).length = n) (p : V → Bool) (Pr : V → V → Prop) (hsz : xs.length ≤ sizeLine)
    (hg : ∀ (i : Nat) (y : V) (ts : List (Option V)) (H' : Hp) (K' : St → Hp → Prop), xs[i]? = some y → ts.length = n → Same H H' → K' (tv y ++ capV σ caps) H' → g y (ts ++ capV σ caps) H' K')
    (ht : ∀ (i : Nat) (y : V) (H' : Hp) (Q' : Bool → Hp → Prop), xs[i]? = some y → Same H H' → (∀ H4, Same H' H4 → Q' (p y) H4) → tt (tv y ++ capV σ caps) H' Q')
    (he : ∀ (i : Nat) (y : V) (H' : Hp) (Q' : VK), xs[i]? = some y → p y = true → Same H H' → (∀ v H4, Same H' H4 → Pr y v → Q' v H4) → te (tv y ++ capV σ caps) H' Q')
    (hd : ∀ (D : Addr) (H' : Hp) (ys : List V), Same H H' → H D = none → H' D = some (.lst ys) → Paired Pr (xs.filter p) ys → Q (.ref D) H') :
    CompG J n caps g tt te σ Q H := by
  intro D hD
  refine ⟨fun i m σ1 H2 => m = xs.length - i ∧ i ≤ xs.length ∧ (∃ ts : List (Option V), ts.length = n ∧ σ1 = ts ++ capV σ caps) ∧ Same H H2 ∧ ∃ ys, H2 D = some (.lst ys) ∧ Paired Pr ((xs.take i).filter p) ys,
    ⟨xs.length, by simp, Nat.zero_le _, ⟨_, List.length_replicate, rfl⟩, Same.new1 hD, [], upd_same, by simpa using Paired.nil⟩, ?_⟩
  rintro i m σ1 H2 ⟨rfl, hi, ⟨ts, htl, rfl⟩, s2, ys, hy, hp⟩
  obtain ⟨j1, j2, j3⟩ := hJ i H2 s2
  by_cases hlt : i < xs.length
  · refine .inr ⟨j1 hlt, fun y H3 q => ?_⟩
    obtain ⟨e3, ey⟩ := j2 y H3 q
    subst e3
    have hyi := ey hlt
    have htake : xs.take (i + 1) = xs.take i ++ [y] := by
      rw [List.take_add_one, hyi]; rfl
    have hlen : ys.length ≤ i := by
      rw [← hp.length]
      exact Nat.le_trans (List.length_filter_le _ _) (by rw [List.length_take]; omega)
    refine hg i y ts _ _ hyi htl s2 ?_
    refine ht i y _ _ hyi s2 fun H5 s5 => ?_
    cases hpy : p y with
    | false =>
      rw [if_neg Bool.false_ne_true]
      refine ⟨xs.length - (i + 1), by omega, rfl, hlt, ⟨tv y, hn y, rfl⟩, s2.trans s5, ys, s5 _ _ hy, ?_⟩
      rw [htake, List.filter_append, show [y].filter p = [] by simp [hpy], List.append_nil]
      exact hp
    | true =>
      rw [if_pos rfl]
      refine he i y _ _ hyi hpy (s2.trans s5) fun v H6 s6 pr => ⟨ys, s6 _ _ (s5 _ _ hy), by omega, xs.length - (i + 1), by omega, rfl, hlt, ⟨tv y, hn y, rfl⟩, ((s2.trans s5).trans s6).put hD, ys ++ [v], upd_same, ?_⟩
      rw [htake, List.filter_append, show [y].filter p = [y] by simp [hpy]]
      exact hp.snoc pr
  · have e : i = xs.length := by omega
    subst e
    refine .inl ⟨j3 rfl, hd D H2 ys s2 hD hy ?_⟩
    rw [List.take_length] at hp
    exact hp
/-- no test -/
theorem comp_allG {J : It} {H : Hp} {xs : List V} {n : Nat} {caps : List Nat} {g : TG} {te : TE} {σ : St} {Q : VK} (hJ : SeqJ J H xs) (tv : V → List (Option V)) (hn : ∀ y, (tv y).length = n) (Pr : V → V → Prop) (hsz : xs.length ≤ sizeLine)
    (hg : ∀ (i : Nat) (y : V) (ts : List (Option V)) (H' : Hp) (K' : St → Hp → Prop), xs[i]? = some y → ts.length = n → Same H H' → K' (tv y ++ capV σ caps) H' → g y (ts ++ capV σ caps) H' K')
    (he : ∀ (i : Nat) (y : V) (H' : Hp) (Q' : VK), xs[i]? = some y → Same H H' → (∀ v H4, Same H' H4 → Pr y v → Q' v H4) → te (tv y ++ capV σ caps) H' Q')
    (hd : ∀ (D : Addr) (H' : Hp) (ys : List V), Same H H' → H D = none → H' D = some (.lst ys) → Paired Pr xs ys → Q (.ref D) H') :
    CompG J n caps g tYes te σ Q H :=
  comp_ifG hJ tv hn (fun _ => true) Pr hsz hg (fun i y H' Q' _ s' k => k H' (Same.refl _)) (fun i y H' Q' hy _ s' k => he i y H' Q' hy s' k) (fun D H' ys s' hD e q => hd D H' ys s' hD e (by rw [List.filter_eq_self.mpr (fun _ _ => rfl)] at q; exact q))
end L2

/-! ## zip of two lists, split by a text, insert (own text). -/
namespace L2
open PySem PySem.Spec PyProof.Rows
section
variable {X : Cx} {pins : List (Addr × Obj)} {σ : St} {H : Hp} {s : Shared} {h' : Heap}
/-- some records of ours have turned, and a new thing stands -/
theorem Inv.fed {ch : List Addr} {a : Addr} {o : HO} {t' : Nat} (I : Inv X pins σ H s) (hf : ∀ b ∈ ch, FpOk X pins H b) (k : ∀ b u, b ∉ ch → s.heap.get? b = some u → h'.get? b = some u)
    (hp : s.heap.objs.size ≤ a) (new : ObjOk X.prog X.w (upd H a o) h' a o) : Inv X pins σ (upd H a o) { s with heap := h', toks := t' } := by
  have hn := I.hok.fresh hp
  have nit : ∀ b u, H b = some u → b ∉ ch := fun b u e z => by rw [(hf b z).1] at e; cases e
  have ne : ∀ b u, s.heap.get? b = some u → b ≠ a := fun b u e z => absurd (Nat.lt_of_lt_of_le (Heap.lt_size (z ▸ e)) hp) (Nat.lt_irrefl _)
  refine I.step (g' := s.gens) (d' := s.drawn) (ch := ch) (fun b hb => ?_) (fun b o _ _ hc e _ => k b o hc e) (fun b o _ _ hc e _ => ⟨o.slots, k b o hc e⟩) (fun b o hc e n => ?_) (fun b o hc e => ⟨o, k b o hc e⟩) (fun b xs e => ?_) (fun b o u e => ?_) (fun b ps e => ⟨#[], ?_⟩) (fun m hm => ?_) (fun b u e => ?_) I.bare
  · obtain ⟨_, f1, _, f3, f4, f5⟩ := hf b hb
    exact ⟨f3, f1, f4, f5⟩
  · rw [upd_ne (ne b o e)]; exact n
  · rw [upd_ne (ne_of_none e hn)]; exact e
  · rw [upd_ne (ne_of_none e hn)]; exact e
  · rw [upd_ne (ne_of_none e hn), e]; simp
  · obtain ⟨o, es, ep, ho, r⟩ := hm
    exact ⟨o, es, ep, k _ o (fun z => (hf _ z).2.1 rfl) ho, r⟩
  · by_cases hb : b = a
    · subst hb; rw [upd_same] at e; cases e; exact new
    · rw [upd_ne hb] at e
      refine (I.hok b u e).stay (fun c v hc q => k c v ?_ q) (fun c q => by rw [upd_ne (ne_of_none q hn)]; exact q) fun c xs q => by rw [upd_ne (ne_of_none q hn)]; exact q
      rcases hc with z | z
      · rw [z]; exact nit b u e
      · exact nit c _ z
/-- .. and nothing new -/
theorem Inv.fed0 {ch : List Addr} {t' : Nat} (I : Inv X pins σ H s) (hf : ∀ b ∈ ch, FpOk X pins H b) (k : ∀ b u, b ∉ ch → s.heap.get? b = some u → h'.get? b = some u) : Inv X pins σ H { s with heap := h', toks := t' } := by
  have nit : ∀ b u, H b = some u → b ∉ ch := fun b u e z => by rw [(hf b z).1] at e; cases e
  refine I.step (g' := s.gens) (d' := s.drawn) (ch := ch) (fun b hb => ?_) (fun b o _ _ hc e _ => k b o hc e) (fun b o _ _ hc e _ => ⟨o.slots, k b o hc e⟩) (fun b o hc e n => n) (fun b o hc e => ⟨o, k b o hc e⟩) (fun b xs e => e) (fun b o u e => e) (fun b ps e => ⟨#[], by rw [e]; simp⟩) (fun m hm => ?_) (fun b u e => ?_) I.bare
  · obtain ⟨_, f1, _, f3, f4, f5⟩ := hf b hb
    exact ⟨f3, f1, f4, f5⟩
  · obtain ⟨o, es, ep, ho, r⟩ := hm
    exact ⟨o, es, ep, k _ o (fun z => (hf _ z).2.1 rfl) ho, r⟩
  · refine (I.hok b u e).stay (fun c v hc q => k c v ?_ q) (fun c q => q) fun c xs q => q
    rcases hc with z | z
    · rw [z]; exact nit b u e
    · exact nit c _ z
end
/-- two lists side by side: a new pair each turn -/
def Itz (K : PySem.W.Frag) (a b : Addr) : It :=
  ⟨fun i H => ∃ xs ys x y, SqL K H a xs ∧ SqL K H b ys ∧ xs[i]? = some x ∧ ys[i]? = some y,
   fun i H v H' => ∃ t x y, H t = none ∧ v = .ref t ∧ H' = upd H t (.tup [x, y]) ∧ (∀ xs, SqL K H a xs → xs[i]? = some x) ∧ ∀ ys, SqL K H b ys → ys[i]? = some y,
   fun i H => ∃ xs ys, SqL K H a xs ∧ SqL K H b ys ∧ (xs.length ≤ i ∨ ys.length ≤ i)⟩
def ZipAt (z TI TO i1 i2 l1 l2 : Addr) (i : Nat) (h : Heap) : Prop :=
  IsZip h z TI TO .none ∧ IsPair h TI (.ref i1) (.ref i2) ∧ (∃ a b, IsPair h TO a b) ∧ h.IsListIter i1 l1 i ∧ h.IsListIter i2 l2 i
theorem turn_zip {P : Program} {w : World} {K : PySem.W.Frag} {es : List Expr} {k1 : Nat} {pos : Pos} {z TI TO i1 i2 l1 l2 : Addr} (D : ZipApart z TI TO i1 i2 l1 l2) :
    Turn P w K (.Tuple es k1 pos) (Itz K l1 l2) [z, TI, TO, i1, i2] z (ZipAt z TI TO i1 i2 l1 l2) where
  mem := by simp
  obj := fun i h st b hb => by
    obtain ⟨a1, a2, ⟨x, y, a3⟩, ⟨o4, e4, _, d4⟩, o5, e5, _, d5⟩ := st
    simp only [List.mem_cons, List.not_mem_nil, or_false] at hb
    rcases hb with rfl | rfl | rfl | rfl | rfl
    · exact ⟨_, a1, fun v q => by cases q⟩
    · exact ⟨_, a2, fun v q => by cases q⟩
    · exact ⟨_, a3, fun v q => by cases q⟩
    · exact ⟨_, e4, fun v q => by rw [d4] at q; cases q⟩
    · exact ⟨_, e5, fun v q => by rw [d5] at q; cases q⟩
  keep := fun i h h' st k => by
    obtain ⟨a1, a2, ⟨x, y, a3⟩, a4, a5⟩ := st
    exact ⟨k z (by simp) _ a1, k TI (by simp) _ a2, ⟨x, y, k TO (by simp) _ a3⟩, a4.at fun o e => k i1 (by simp) o e, a5.at fun o e => k i2 (by simp) o e⟩
  item := by
    intro X hP hw hK hc i pins s σ H E I hf st hg
    subst hP hw hK
    obtain ⟨xs, ys, x, y, hq1, hq2, hx, hy⟩ := hg
    obtain ⟨its1, rv1, p1, _⟩ := I.list hq1
    obtain ⟨its2, rv2, p2, _⟩ := I.list hq2
    obtain ⟨u1, hu1, ru1⟩ := rv1.get hx
    obtain ⟨u2, hu2, ru2⟩ := rv2.get hy
    obtain ⟨a1, a2, ⟨a, b, a3⟩, a4, a5⟩ := st
    refine wpAny_pyNext_zip_item D a1 a2 a3 a4 a5 p1.isList p2.isList (x := u1) (y := u2) (by simpa using hu1) (by simpa using hu2) fun h' b1 b2 b3 b4 b5 b6 bk => ?_
    refine ⟨_, rfl, wpAny_letOwnedTupleGo_zip b1 fun h2 c1 c2 => ?_⟩
    have lt : ∀ {c o}, s.heap.get? c = some o → s.heap.objs.size ≠ c := fun e => Nat.ne_of_gt (Heap.lt_size e)
    have keepA : ∀ c o, c ∉ [z, TI, TO, i1, i2] → s.heap.get? c = some o → h2.get? c = some o := fun c o hc e => by
      simp only [List.mem_cons, List.not_mem_nil, or_false, not_or] at hc
      exact c2.extBut _ _ hc.1 (bk c o hc.1 hc.2.2.1 hc.2.2.2.1 hc.2.2.2.2 e)
    have T2 : IsPair h2 s.heap.objs.size u1 u2 := c2.extBut _ _ (lt a1) b5
    refine ⟨.ref s.heap.objs.size, upd H s.heap.objs.size (.tup [x, y]), I.fed (t' := s.toks) hf keepA (Nat.le_refl _) ?_, rfl, ⟨_, x, y, I.fresh, rfl, rfl, fun zs hz => by rw [I.list_inj hz hq1]; exact hx, fun zs hz => by rw [I.list_inj hz hq2]; exact hy⟩, ?_, fun b hb => ?_⟩
    · exact ⟨by show 2 ≤ sizeLine; decide, [u1, u2], .cons ru1 (.cons ru2 .nil), _, T2, rfl, 0, rfl⟩
    · exact ⟨c1, c2.extBut _ _ D.TIz (bk TI _ D.TIz D.TITO D.TIi1 D.TIi2 a2), ⟨_, _, c2.extBut _ _ D.TOz b2⟩, b3.extBut c2.extBut D.i1z, b4.extBut c2.extBut D.i2z⟩
    · have hb' : ∃ o, s.heap.get? b = some o := by
        obtain ⟨o4, e4, _⟩ := a4
        obtain ⟨o5, e5, _⟩ := a5
        simp only [List.mem_cons, List.not_mem_nil, or_false] at hb
        rcases hb with rfl | rfl | rfl | rfl | rfl
        · exact ⟨_, a1⟩
        · exact ⟨_, a2⟩
        · exact ⟨_, a3⟩
        · exact ⟨_, e4⟩
        · exact ⟨_, e5⟩
      obtain ⟨o, e⟩ := hb'
      rw [upd_ne (Ne.symm (lt e))]
      exact (hf b hb).1
  done := by
    intro X hP hw hK hc i pins s σ H E I hf st hg
    subst hP hw hK
    obtain ⟨xs, ys, hq1, hq2, he⟩ := hg
    obtain ⟨its1, rv1, p1, _⟩ := I.list hq1
    obtain ⟨its2, rv2, p2, _⟩ := I.list hq2
    have l1' := rv1.length
    have l2' := rv2.length
    obtain ⟨a1, a2, ⟨a, b, a3⟩, a4, a5⟩ := st
    refine wpAny_pyNext_zip_end (I.ok.hd hc) D a1 a2 a3 a4 a5 p1.isList p2.isList ?_ fun h' bk => ⟨rfl, I.fed0 (t' := s.toks) hf fun c o hc e => ?_⟩
    · rcases he with he | he
      · exact .inl (by simp; omega)
      · exact .inr (by simp; omega)
    · simp only [List.mem_cons, List.not_mem_nil, or_false, not_or] at hc
      exact bk c o hc.1 hc.2.2.1 hc.2.2.2.1 hc.2.2.2.2 e
  self := fun _ _ _ _ _ st h => wpAny_pyIter_zip st.1 h
def iZip (K : PySem.W.Frag) (ta : TA) : TI := fun σ H R => ta σ H fun vs H1 => ∃ a b xs ys, vs = [.ref a, .ref b] ∧ SqL K H1 a xs ∧ SqL K H1 b ys ∧ R (Itz K a b) H1
section
variable {X : Cx}
theorem pi_zip {es : List Expr} {k1 : Nat} {tpos : Pos} {a b : Expr} {ta : TA} {p pos : Pos} (hg : Gl X "zip") (hm : X.mg "zip" = none) (ha : PA X [a, b] ta) (hv : bootBuiltins "zip" = some (.type "zip"))
    (he : starEach [a, b] X.env = (false, eval a X.env) :: starEach [b] X.env := by rfl) (hpl : (backTo pos (starEach [b] X.env)).any (·.1) = false := by rfl) :
    PI X (.Tuple es k1 tpos) (.Call (.Name "zip" p) [a, b] [] pos) (iZip X.K ta) := by
  intro pins s σ H R I h
  refine wpAny_Call_Name_kw (ld_blt I hg hm hv ?_)
  refine PyProof.Rows.callWith_type1 (thn (ha pos pins s σ H _ I h) fun us s1 ⟨vs, H1, I1, r1, q1⟩ => ?_) he hpl
  obtain ⟨l1, l2, xs, ys, rfl, hq1, hq2, q⟩ := q1
  obtain ⟨its1, rv1, p1, _⟩ := I1.list hq1
  obtain ⟨its2, rv2, p2, _⟩ := I1.list hq2
  cases r1 with
  | cons r rr =>
    cases rr with
    | cons r' rr =>
      cases rr
      cases r
      cases r'
      have b1 : l1 < s1.heap.objs.size := by obtain ⟨_, _, e, _⟩ := p1; exact Heap.lt_size e
      have b2 : l2 < s1.heap.objs.size := by obtain ⟨_, _, e, _⟩ := p2; exact Heap.lt_size e
      refine call_zip_2 p1.isList p2.isList fun h' c1 c2 c3 c4 c5 c6 ck => ?_
      refine wpAny_pyIter_zip (s := { s1 with heap := h' }) c1 ?_
      refine ⟨_, _, _, _, H1, rfl, I1.kept (t' := s1.toks) ck, turn_zip (zipApart_new b1 b2), ⟨c1, c2, ⟨_, _, c3⟩, c4, c5⟩, fun c hc => ?_, q⟩
      have : s1.heap.objs.size ≤ c := by
        simp only [List.mem_cons, List.not_mem_nil, or_false] at hc
        rcases hc with rfl | rfl | rfl | rfl | rfl <;> omega
      exact I1.fpOk this (I1.hok.fresh this)
/-- x.split(y) -/
theorem vals_strs : ∀ (tk : Nat) (xs : List Str), Vals (xs.map V.str) (strsFrom tk xs)
  | _, [] => .nil
  | tk, x :: r => .cons ⟨tk, rfl⟩ (vals_strs (tk + 1) r)
def rSplit : V → List V → Hp → VK → Prop := fun x vs H Q => ∃ z y, x = .str z ∧ vs = [.str y] ∧ (y.length == 0) = false ∧ z.length + 2 ≤ sizeLine ∧ Nw H (.lst ((Txt.split z y).map V.str)) Q
theorem nm_split : MtR X "str.split" rSplit := by
  intro pins s σ H x vs v us Q I rx rv h
  obtain ⟨z, y, rfl, rfl, hy, hz, q⟩ := h
  obtain ⟨t, rfl⟩ := rx
  obtain ⟨u, rfl, ru⟩ := rv.one
  obtain ⟨t', rfl⟩ := ru
  have hsz : z.length ≤ sizeLine := by omega
  have hle := PyProof.Rows.split_le z y
  have fin : ∀ (l : List Value) (tk : Nat), Vals ((Txt.split z y).map V.str) l → EP X pins σ Q (.ref s.heap.objs.size) { s with heap := s.heap.push { cls := .type "list", data := .seq l.toArray }, toks := tk } := fun l tk r =>
    ⟨.ref s.heap.objs.size, _, I.lnew (t' := tk) r (by rw [List.length_map]; omega), rfl, q.el _ I.fresh⟩
  cases h1 : (decide (z.length < y.length) || decide (Builtin.Str.strKind z < Builtin.Str.strKind y)) with
  | true =>
    refine call_meets F.slot_str_split (typeIs_str _ _ _) F.entry_str_split (F.args_str_split_2 _ _) (meets_str_split_cannot_occur z y t t' h1) ?_
    refine fin [.str z t] s.toks ?_
    have e : Txt.split z y = [z] := if_pos h1
    rw [e]; exact .cons ⟨t, rfl⟩ .nil
  | false =>
    cases hf : (Builtin.Str.occurrences z y 0 z.length (z.length + 1)).isEmpty with
    | true =>
      refine call_meets F.slot_str_split (typeIs_str _ _ _) F.entry_str_split (F.args_str_split_2 _ _) (meets_str_split_not_found z y t t' h1 hy hf) ?_
      refine fin [.str z t] s.toks ?_
      have e : Txt.split z y = [z] := (if_neg (ne_true_of_eq_false h1)).trans (if_pos hf)
      rw [e]; exact .cons ⟨t, rfl⟩ .nil
    | false =>
      have e : Txt.split z y = Builtin.Str.partsBetween z (Builtin.Str.occurrences z y 0 z.length (z.length + 1)) y.length := (if_neg (ne_true_of_eq_false h1)).trans (if_neg (ne_true_of_eq_false hf))
      rw [e] at hle
      refine call_meets F.slot_str_split (typeIs_str _ _ _) F.entry_str_split (F.args_str_split_2 _ _) (meets_str_split_sep z y t t' h1 hy hf hsz (by omega)) ?_
      refine fin _ _ ?_
      rw [e]; exact vals_strs _ _
theorem piK_zip {K : PySem.W.Frag} {es : List Expr} {k1 : Nat} {tpos : Pos} {a b : Expr} {ta : TA} {p pos : Pos} (hK : X.K = K) (hg : Gl X "zip") (hm : X.mg "zip" = none) (ha : PA X [a, b] ta) (hv : bootBuiltins "zip" = some (.type "zip"))
    (he : starEach [a, b] X.env = (false, eval a X.env) :: starEach [b] X.env := by rfl) (hpl : (backTo pos (starEach [b] X.env)).any (·.1) = false := by rfl) :
    PI X (.Tuple es k1 tpos) (.Call (.Name "zip" p) [a, b] [] pos) (iZip K ta) := hK ▸ pi_zip hg hm ha hv he hpl
end
/-- [.. for x, y in zip(xs, ys)] -/
theorem comp_zip {K : PySem.W.Frag} {a b : Addr} {H : Hp} {xs ys : List V} {caps : List Nat} {te : TE} {σ : St} {Q : VK} (hx : SqL K H a xs) (hy : SqL K H b ys) (Pr : V → V → V → Prop) (hsz : xs.length ≤ sizeLine)
    (he : ∀ (i : Nat) (x y : V) (H' : Hp) (Q' : VK), xs[i]? = some x → ys[i]? = some y → Same H H' → (∀ v H4, Same H' H4 → Pr x y v → Q' v H4) → te ([some x, some y] ++ capV σ caps) H' Q')
    (hd : ∀ (D : Addr) (H' : Hp) (vs : List V), Same H H' → H D = none → H' D = some (.lst vs) → vs.length = min xs.length ys.length → (∀ (i : Nat) x y v, xs[i]? = some x → ys[i]? = some y → vs[i]? = some v → Pr x y v) → Q (.ref D) H') :
    CompG (Itz K a b) 2 caps (gTup K 2 (gCons (gName 0) (gCons (gName 1) gNil))) tYes te σ Q H := by
  intro D hD
  refine ⟨fun i m σ1 H2 => m = min xs.length ys.length - i ∧ i ≤ min xs.length ys.length ∧ (∃ ts : List (Option V), ts.length = 2 ∧ σ1 = ts ++ capV σ caps) ∧ Same H H2 ∧ ∃ vs, H2 D = some (.lst vs) ∧ vs.length = i ∧ ∀ (j : Nat) x y v, xs[j]? = some x → ys[j]? = some y → vs[j]? = some v → Pr x y v,
    ⟨min xs.length ys.length, by omega, Nat.zero_le _, ⟨_, List.length_replicate, rfl⟩, Same.new1 hD, [], upd_same, rfl, fun j x y v _ _ e => by simp at e⟩, ?_⟩
  rintro i m σ1 H2 ⟨rfl, hi, ⟨ts, htl, rfl⟩, s2, vs, hv, hvl, hp⟩
  have hx2 : SqL K H2 a xs := seqS hx s2
  have hy2 : SqL K H2 b ys := seqS hy s2
  by_cases hlt : i < min xs.length ys.length
  · have h1 : i < xs.length := by omega
    have h2 : i < ys.length := by omega
    refine .inr ⟨⟨xs, ys, _, _, hx2, hy2, List.getElem?_eq_getElem h1, List.getElem?_eq_getElem h2⟩, fun u H3 q => ?_⟩
    obtain ⟨tp, x, y, htn, rfl, rfl, ex, ey⟩ := q
    have ex := ex xs hx2
    have ey := ey ys hy2
    have s3 : Same H2 (upd H2 tp (.tup [x, y])) := Same.new1 htn
    match ts, htl with
    | [_, _], _ =>
      refine ⟨tp, [x, y], rfl, SqT.of upd_same, rfl, x, [y], rfl, y, [], rfl, rfl, ?_⟩
      unfold tYes
      dsimp only
      rw [if_pos rfl]
      refine he i x y _ _ ex ey (s2.trans s3) fun v H6 s6 pr => ⟨vs, s6 _ _ (s3 _ _ hv), by omega, min xs.length ys.length - (i + 1), by omega, rfl, hlt, ⟨[some x, some y], rfl, rfl⟩, ((s2.trans s3).trans s6).put hD, vs ++ [v], upd_same, by rw [List.length_append, hvl]; rfl, fun j x' y' v' e1 e2 e3 => ?_⟩
      by_cases hj : j < vs.length
      · rw [List.getElem?_append_left hj] at e3
        exact hp j x' y' v' e1 e2 e3
      · have hji : j = i := by
          have := (List.getElem?_eq_some_iff.mp e3).1
          rw [List.length_append, List.length_singleton] at this
          omega
        subst hji
        rw [List.getElem?_append_right (by omega), hvl, Nat.sub_self] at e3
        rw [ex] at e1
        rw [ey] at e2
        cases e1
        cases e2
        cases e3
        exact pr
  · have e : i = min xs.length ys.length := by omega
    refine .inl ⟨⟨xs, ys, hx2, hy2, by omega⟩, hd D H2 vs s2 hD hv (by omega) hp⟩
end L2

/-! ## exceptions of one's own (own text). -/
namespace L2
open PyProof.Rows PySem PySem.Spec
/-- the exception at e: its class, its dict, its traceback; no context -/
def XAt (h : Heap) (e C : Addr) (d : Option Addr) (tb : Value) : Prop := ∃ vs sl, h.get? e = some ⟨.ref C, d, .fields vs, sl⟩ ∧ vs.size = 6 ∧ vs[1]? = some tb ∧ vs[2]? = some .none
def TAt (h : Heap) (T : Addr) (fl : Value) : Prop := ∃ oT ts, h.get? T = some oT ∧ oT.data = .fields ts ∧ ts[3]? = some fl
structure Trn (fs ch : List Addr) (h h' : Heap) : Prop where
  keep : ∀ b o, h.get? b = some o → b ∉ fs → b ∉ ch → h'.get? b = some o
  slot : ∀ b o, h.get? b = some o → b ∈ fs → b ∉ ch → ∃ sl, h'.get? b = some { o with slots := sl }
  there : ∀ b o, h.get? b = some o → ∃ o', h'.get? b = some o'
theorem Trn.trans {fs ch : List Addr} {h h1 h2 : Heap} (a : Trn fs ch h h1) (b : Trn fs ch h1 h2) : Trn fs ch h h2 where
  keep := fun c o e hf hc => b.keep c o (a.keep c o e hf hc) hf hc
  slot := fun c o e hf hc => by
    obtain ⟨sl, e1⟩ := a.slot c o e hf hc
    obtain ⟨sl', e2⟩ := b.slot c _ e1 hf hc
    exact ⟨sl', e2⟩
  there := fun c o e => by
    obtain ⟨o', e1⟩ := a.there c o e
    exact b.there c o' e1
theorem Trn.mono {fs ch ch' : List Addr} {h h1 : Heap} (a : Trn fs ch h h1) (hs : ∀ b ∈ ch, b ∈ ch') : Trn fs ch' h h1 :=
  ⟨fun c o e hf hc => a.keep c o e hf fun z => hc (hs c z), fun c o e hf hc => a.slot c o e hf fun z => hc (hs c z), a.there⟩
section
variable {M : Model} {A : Around} {E : Value → Shared → Prop} {s : Shared} {base : Heap} {env : Env} {outer : List Env} {L e C : Addr} {d : Option Addr}
theorem Trn.one {fs : List Addr} {h : Heap} {a : Addr} {f : Obj → Obj} {o : Obj} (ha : h.get? a = some o) (hf : (f o).isFreed = false) : Trn fs [a] h (h.update a f) := by
  have ne : ∀ b, b ∉ [a] → a ≠ b := fun b hb q => hb (by rw [q]; exact List.mem_singleton.mpr rfl)
  refine ⟨fun b u e _ hc => (Heap.get?_update_other _ _ (ne b hc)).trans e, fun b u e _ hc => ⟨u.slots, (Heap.get?_update_other _ _ (ne b hc)).trans e⟩, fun b u e => ?_⟩
  by_cases q : a = b
  · subst q; exact ⟨_, Heap.get?_update_self _ ha hf⟩
  · exact ⟨u, (Heap.get?_update_other _ _ q).trans e⟩
theorem Trn.push {fs ch : List Addr} {h : Heap} {o : Obj} : Trn fs ch h (h.push o) :=
  ⟨fun b u e _ _ => Heap.get?_push_of_some _ e, fun b u e _ _ => ⟨u.slots, Heap.get?_push_of_some _ e⟩, fun b u e => ⟨u, Heap.get?_push_of_some _ e⟩⟩
theorem Trn.slots {fs ch : List Addr} {h h' : Heap} (x : Heap.SlotsOnly fs h h') : Trn fs ch h h' :=
  ⟨fun b u e hf _ => (x.2.1 b hf).trans e, fun b u e _ _ => x.2.2 b u e, fun b u e => by obtain ⟨sl, q⟩ := x.2.2 b u e; exact ⟨_, q⟩⟩
/-- an entry of the traceback is made and put at the head -/
theorem XAt.slots {h h1 : Heap} {l : List Env} {tb : Value} (hx : XAt h e C d tb) (hl : h.FunFrames base l) (k : Heap.SlotsOnly (l.filterMap (·.frame)) h h1) : XAt h1 e C d tb := by
  obtain ⟨vs, sl, he, r⟩ := hx
  refine ⟨vs, sl, (k.2.1 e fun m => ?_).trans he, r⟩
  obtain ⟨_, o, ho, no⟩ := hl.mem m
  cases he.symm.trans ho
  exact no vs rfl
theorem entry_put {tb top : Value} {pl : List Value} {Q : Unit → Shared → Prop} (ip : IsPlace pl) (hx : XAt s.heap e C d tb)
    (q : ∀ h' T, s.heap.objs.size ≤ T → XAt h' e C d (.ref T) → TAt h' T (rawInt L) → (∀ fs, Trn fs [e] s.heap h') → Q () { s with heap := h' }) : wpAny M A (EntryCells.newEntry top (.ref L) .none (rawInt L) .none pl >>= setField (.ref e) 1) Q E s := by
  obtain ⟨vs, sl, he, hsz, h1, h2⟩ := hx
  have few := ip.sizeOk5 top (.ref L) .none (rawInt L) .none
  unfold EntryCells.newEntry newFields
  generalize ets : List.toArray _ = ts at few
  have h3 : ts[3]? = some (rawInt L) := by rw [← ets]; rfl
  refine wpAny_bind (wpAny_newObj_type ?_ few)
  generalize eot : ({ cls := .type "traceback", data := .fields ts } : Obj) = ot
  have nf : (Obj.mapFields (·.setIfInBounds 1 (Value.ref s.heap.objs.size)) ⟨.ref C, d, .fields vs, sl⟩).isFreed = false := Obj.isFreed_of_fields (Obj.data_mapFields rfl _)
  have ge : (s.heap.push ot).get? e = some ⟨.ref C, d, .fields vs, sl⟩ := Heap.get?_push_of_some _ he
  refine wpAny_setField ge rfl (by omega) (q _ s.heap.objs.size (Nat.le_refl _) ⟨vs.setIfInBounds 1 (Value.ref s.heap.objs.size), sl, Heap.get?_update_self _ ge nf, by simpa using hsz, by simp [hsz], ?_⟩ ⟨ot, ts, (Heap.get?_update_other _ _ (Nat.ne_of_lt (Heap.lt_size he))).trans (Heap.get?_push_size _ (by rw [← eot]; rfl)), by rw [← eot], h3⟩ fun fs => Trn.push.trans (Trn.one ge nf))
  rw [Array.getElem?_setIfInBounds_ne (by decide)]
  exact h2
/-- the frame is noted in the traceback: the first one -/
theorem note_first {Q : Unit → Shared → Prop} (hfr : A.frames = some (env :: outer)) (hl : s.heap.FunFrames base (env :: outer)) (hf : env.frame = some L) (hx : XAt s.heap e C d .none)
    (hQ : ∀ h' T, s.heap.objs.size ≤ T → XAt h' e C d (.ref T) → TAt h' T (rawInt L) → Trn ((env :: outer).filterMap (·.frame)) [e] s.heap h' → Q () { s with heap := h' }) : wpAny M A (noteFrame (.ref e) env) Q E s := by
  obtain ⟨_, _, he, _, h1, _⟩ := id hx
  unfold noteFrame
  rw [hf]
  refine wpAny_bind (wpAny_field he rfl h1 ?_)
  rw [if_neg (by decide)]
  exact wpAny_bind (wpAny_frameOf_fun hfr hl hf fun h0 k0 => wpAny_bind (wpAny_entryPlaceOf fun _ ip => entry_put ip (hx.slots hl k0) fun h' T k1 k2 k3 k4 => hQ h' T (k0.1 ▸ k1) k2 k3 ((Trn.slots k0).trans (k4 _))))
/-- .. the next one -/
theorem note_next {T0 : Addr} {Q : Unit → Shared → Prop} (hfr : A.frames = some (env :: outer)) (hl : s.heap.FunFrames base (env :: outer)) (hf : env.frame = some L) (hx : XAt s.heap e C d (.ref T0)) (ht : TAt s.heap T0 .none) (hne : T0 ≠ e)
    (hQ : ∀ h' T, s.heap.objs.size ≤ T → XAt h' e C d (.ref T) → TAt h' T (rawInt L) → Trn ((env :: outer).filterMap (·.frame)) [e, T0] s.heap h' → Q () { s with heap := h' }) : wpAny M A (noteFrame (.ref e) env) Q E s := by
  obtain ⟨vs, sl, he, hsz, h1, h2⟩ := hx
  obtain ⟨oT, ts, gT, dT, h3⟩ := ht
  have t0 : Trn ((env :: outer).filterMap (·.frame)) [T0] s.heap (s.heap.update T0 (Obj.mapFields (·.setIfInBounds 3 Value.none))) := Trn.one gT (Obj.isFreed_of_fields (Obj.data_mapFields dT _))
  have x0 : XAt (s.heap.update T0 (Obj.mapFields (·.setIfInBounds 3 Value.none))) e C d (.ref T0) := ⟨vs, sl, (Heap.get?_update_other _ _ hne).trans he, hsz, h1, h2⟩
  have l0 : (s.heap.update T0 (Obj.mapFields (·.setIfInBounds 3 Value.none))).FunFrames base (env :: outer) := hl.of_keeps fun b o gb no => by
    refine ⟨o, (Heap.get?_update_other _ _ fun z => ?_).trans gb, rfl⟩
    cases gT.symm.trans (z ▸ gb)
    exact no ts dT
  unfold noteFrame
  rw [hf]
  refine wpAny_bind (wpAny_field he rfl h1 ?_)
  rw [if_pos (by simp)]
  refine wpAny_bind (wpAny_field gT dT h3 ?_)
  rw [if_neg (by simp [rawInt])]
  refine wpAny_bind (wpAny_setField gT dT (Array.getElem?_eq_some_iff.mp h3).1 (wpAny_bind (wpAny_frameOf_fun hfr l0 hf fun h4 k0 => wpAny_bind (wpAny_entryPlaceOf fun _ ip => entry_put ip (x0.slots l0 k0) fun h' T k1 k2 k3 k4 => ?_))))
  refine hQ h' T ?_ k2 k3 ((t0.mono (by simp)).trans ((Trn.slots k0).trans ((k4 _).mono (by simp))))
  rw [← Heap.size_update s.heap T0, ← k0.1]
  exact k1
/-- it is no longer in flight -/
theorem land {T : Addr} {fl : Value} {Q : Unit → Shared → Prop} (hx : XAt s.heap e C d (.ref T)) (ht : TAt s.heap T fl) (hne : T ≠ e)
    (hQ : ∀ h', XAt h' e C d (.ref T) → TAt h' T .none → (∀ fs, Trn fs [T] s.heap h') → Q () { s with heap := h' }) : wpAny M A (setFlight (.ref e) none) Q E s := by
  obtain ⟨vs, sl, he, hsz, h1, h2⟩ := hx
  obtain ⟨oT, ts, hT, hdT, h3⟩ := ht
  have h3' : 3 < ts.size := (Array.getElem?_eq_some_iff.mp h3).1
  have nf : (Obj.mapFields (·.setIfInBounds 3 Value.none) oT).isFreed = false := Obj.isFreed_of_fields (Obj.data_mapFields hdT _)
  unfold setFlight
  refine wpAny_bind (wpAny_field he rfl h1 ?_)
  rw [if_pos (show (Value.ref T != Value.none) = true from by simp)]; refine wpAny_setField hT hdT h3' (hQ _ ⟨vs, sl, (Heap.get?_update_other _ _ hne).trans he, hsz, h1, h2⟩ ⟨_, _, Heap.get?_update_self _ hT nf, Obj.data_mapFields hdT _, by simp [h3']⟩ fun fs => Trn.one hT nf)
/-- it leaves a frame -/
theorem leave_first {Q : Unit → Shared → Prop} (hfr : A.frames = some (env :: outer)) (hl : s.heap.FunFrames base (env :: outer)) (hf : env.frame = some L) (hx : XAt s.heap e C d .none)
    (hQ : ∀ h' T, s.heap.objs.size ≤ T → T ≠ e → XAt h' e C d (.ref T) → TAt h' T .none → Trn ((env :: outer).filterMap (·.frame)) [e, T] s.heap h' → Q () { s with heap := h' }) : wpAny M A (leaving env (.ref e)) Q E s := by
  have he : e < s.heap.objs.size := by obtain ⟨vs, sl, he, _⟩ := hx; exact Heap.lt_size he
  unfold leaving
  refine wpAny_bind (note_first hfr hl hf hx fun h1 T k1 k2 k3 k4 => ?_)
  have hne : T ≠ e := Nat.ne_of_gt (Nat.lt_of_lt_of_le he k1)
  exact land k2 k3 hne fun h2 j1 j2 j3 => hQ h2 T k1 hne j1 j2 ((k4.mono (by simp)).trans ((j3 _).mono (by simp)))
theorem leave_next {T0 : Addr} {Q : Unit → Shared → Prop} (hfr : A.frames = some (env :: outer)) (hl : s.heap.FunFrames base (env :: outer)) (hf : env.frame = some L) (hx : XAt s.heap e C d (.ref T0)) (ht : TAt s.heap T0 .none) (hne0 : T0 ≠ e)
    (hQ : ∀ h' T, s.heap.objs.size ≤ T → T ≠ e → XAt h' e C d (.ref T) → TAt h' T .none → Trn ((env :: outer).filterMap (·.frame)) [e, T0, T] s.heap h' → Q () { s with heap := h' }) : wpAny M A (leaving env (.ref e)) Q E s := by
  have he : e < s.heap.objs.size := by obtain ⟨vs, sl, he, _⟩ := hx; exact Heap.lt_size he
  unfold leaving
  refine wpAny_bind (note_next hfr hl hf hx ht hne0 fun h1 T k1 k2 k3 k4 => ?_)
  have hne : T ≠ e := Nat.ne_of_gt (Nat.lt_of_lt_of_le he k1)
  exact land k2 k3 hne fun h2 j1 j2 j3 => hQ h2 T k1 hne j1 j2 ((k4.mono (by simp)).trans ((j3 _).mono (by simp)))
end
end L2

namespace L2
open PyProof.Rows PySem PySem.Spec
/-- an exception of ours, tracked -/
def xO (e C : Addr) (d : Option Addr) : HO := .ext fun h => ∃ tb, XAt h e C d tb
theorem xO_ok {P : Program} {w : World} {H : Hp} {h : Heap} {e C : Addr} {d : Option Addr} {tb : Value} (x : XAt h e C d tb) : ObjOk P w H h e (xO e C d) := by
  obtain ⟨vs, sl, he, r⟩ := x
  refine ⟨⟨tb, vs, sl, he, r⟩, ⟨_, he⟩, fun h1 h2 ⟨tb', vs', sl', he', r'⟩ k => ⟨tb', vs', sl', k _ he', r'⟩⟩
theorem xO_at {P : Program} {w : World} {H : Hp} {h : Heap} {e C : Addr} {d : Option Addr} (x : HOk P w H h) (q : H e = some (xO e C d)) : ∃ tb, XAt h e C d tb := (x e _ q).1
/-- an exception flies out of a call: it is tracked, its traceback is new -/
structure Fly (a C : Addr) (d : Option Addr) (n : Nat) (H : Hp) (h : Heap) (T : Addr) : Prop where
  at' : XAt h a C d (.ref T)
  tr : TAt h T .none
  ne : T ≠ a
  new : n ≤ T
  free : H T = none
  is : H a = some (xO a C d)
def CXE (P : Program) (w : World) : CXT := fun outer H s E e s' => ∃ (a C : Addr) (d : Option Addr) (T : Addr) (H' : Hp), e = .ref a ∧ s'.os = s.os ∧ AllBare s'.gens ∧ Un (frs outer) [] H H' s.heap s'.heap ∧ HOk P w H' s'.heap ∧ Fly a C d s.heap.objs.size H' s'.heap T ∧ E (.ref C) (some a) H'
/-- what is changed by an exception that passes keeps what is tracked -/
theorem hok_trn {P : Program} {w : World} {H : Hp} {h h' : Heap} {fs ch : List Addr} {a C : Addr} {d : Option Addr} {tb : Value} (x : HOk P w H h) (t : Trn fs ch h h') (hf : ∀ b ∈ fs, H b = none) (hc : ∀ b ∈ ch, b = a ∨ H b = none) (ha : H a = some (xO a C d)) (hx : XAt h' a C d tb) : HOk P w H h' := by
  intro b o e
  by_cases q : b = a
  · subst q
    rw [ha] at e
    cases e
    exact xO_ok hx
  · have kp : ∀ c u, c ≠ a → H c ≠ none → h.get? c = some u → h'.get? c = some u := fun c u hca hcn e => t.keep c u e (fun z => hcn (hf c z)) fun z => (hc c z).elim hca hcn
    refine (x b o e).stay (fun c u hcu e' => ?_) (fun _ z => z) (fun _ _ z => z)
    rcases hcu with rfl | hcu
    · exact kp c u q (by rw [e]; exact fun z => nomatch z) e'
    · refine kp c u (fun z => ?_) (by rw [hcu]; exact fun z => nomatch z) e'
      rw [z, ha] at hcu
      cases hcu
end L2

namespace L2
open PyProof.Rows PySem PySem.Spec
section
variable {X : Cx} {pins : List (Addr × Obj)} {σ : St} {H : Hp} {s : Shared} {a C : Addr} {d : Option Addr} {E : XK}
theorem Inv.unX (I : Inv X pins σ H s) {h' : Heap} {ch : List Addr} (hex : X.ex = []) (t : Trn (frs X.stack) ch s.heap h') (hc : ∀ b ∈ ch, H b ≠ none ∨ X.s₀.heap.objs.size ≤ b) : Un X.fs [] X.H₀ H X.s₀.heap h' := by
  have u := I.base
  rw [hex] at u
  have nch : ∀ b o, X.s₀.heap.get? b = some o → X.H₀ b = none → b ∉ ch := fun b o e n hb => by
    rcases hc b hb with q | q
    · exact q (u.free b o e n (by simp))
    · exact absurd (Heap.lt_size e) (Nat.not_lt.mpr q)
  have nloc : ∀ b o, X.s₀.heap.get? b = some o → b ≠ X.env.locals := fun b o e z => absurd (Heap.lt_size e) (Nat.not_lt.mpr (by rw [z]; exact I.ok.above))
  refine ⟨fun b o e n hb _ => ?_, fun b o e n hb _ => ?_, u.free, fun b o e _ => ?_, u.tups, u.frzs, u.tbls⟩
  · refine t.keep b o (u.keep b o e n hb (by simp)) (fun z => ?_) (nch b o e n)
    rcases List.mem_cons.mp (I.stkSub b z) with q | q
    · exact nloc b o e q
    · exact hb q
  · obtain ⟨sl, e1⟩ := u.slot b o e n hb (by simp)
    by_cases q : b ∈ frs X.stack
    · obtain ⟨sl', e2⟩ := t.slot b _ e1 q (nch b o e n)
      exact ⟨sl', e2⟩
    · exact ⟨sl, t.keep b _ e1 q (nch b o e n)⟩
  · obtain ⟨o', e1⟩ := u.there b o e (by simp)
    exact t.there b o' e1
/-- a new exception leaves the frame -/
theorem Inv.leaves {M : Model} {EE : Value → Shared → Prop} (I : Inv X pins σ H s) (hst : X.stack = X.env :: X.outer) (hf : X.env.frame = some X.env.locals) (hex : X.ex = []) (ha : H a = some (xO a C d)) (hx : XAt s.heap a C d .none) (hE : E (.ref C) (some a) H) :
    wpAny M X.A (leaving X.env (.ref a)) (fun _ s'' => CXE X.prog X.w X.outer X.H₀ X.s₀ E (.ref a) s'') EE s := by
  have hfr := I.ok.frames
  have hst' := I.stack
  have hfree := I.stkFree
  rw [hst] at hfr hst'
  refine leave_first hfr hst' hf hx fun h' T k1 k2 k3 k4 k5 => ?_
  have hT : H T = none := I.hok.fresh k1
  have hs : X.s₀.heap.objs.size ≤ T := Nat.le_trans I.sz k1
  have k5' : Trn (frs X.stack) [a, T] s.heap h' := by rw [hst]; exact k5
  refine ⟨a, C, d, T, H, rfl, I.os, I.bare, I.unX hex k5' (fun b hb => ?_), hok_trn I.hok k5' hfree (fun b hb => ?_) ha k3, ⟨k3, k4, k2, hs, hT, ha⟩, hE⟩
  · simp only [List.mem_cons, List.not_mem_nil, or_false] at hb
    rcases hb with rfl | rfl
    · exact .inl (by rw [ha]; exact fun z => nomatch z)
    · exact .inr hs
  · simp only [List.mem_cons, List.not_mem_nil, or_false] at hb
    rcases hb with rfl | rfl
    · exact .inl rfl
    · exact .inr hT
/-- one that came out of a call leaves the frame, too -/
theorem Inv.leavesOn {M : Model} {EE : Value → Shared → Prop} {T0 : Addr} {n : Nat} (I : Inv X pins σ H s) (hst : X.stack = X.env :: X.outer) (hf : X.env.frame = some X.env.locals) (hex : X.ex = []) (F : Fly a C d n H s.heap T0) (hn : X.s₀.heap.objs.size ≤ n) (hE : E (.ref C) (some a) H) :
    wpAny M X.A (leaving X.env (.ref a)) (fun _ s'' => CXE X.prog X.w X.outer X.H₀ X.s₀ E (.ref a) s'') EE s := by
  have hfr := I.ok.frames
  have hst' := I.stack
  have hfree := I.stkFree
  rw [hst] at hfr hst'
  refine leave_next hfr hst' hf F.at' F.tr F.ne fun h' T k1 k2 k3 k4 k5 => ?_
  have hT : H T = none := I.hok.fresh k1
  have hs : X.s₀.heap.objs.size ≤ T := Nat.le_trans I.sz k1
  have k5' : Trn (frs X.stack) [a, T0, T] s.heap h' := by rw [hst]; exact k5
  refine ⟨a, C, d, T, H, rfl, I.os, I.bare, I.unX hex k5' (fun b hb => ?_), hok_trn I.hok k5' hfree (fun b hb => ?_) F.is k3, ⟨k3, k4, k2, hs, hT, F.is⟩, hE⟩
  · simp only [List.mem_cons, List.not_mem_nil, or_false] at hb
    rcases hb with (rfl | rfl | rfl)
    · exact .inl (by rw [F.is]; exact fun z => nomatch z)
    · exact .inr (Nat.le_trans hn F.new)
    · exact .inr hs
  · simp only [List.mem_cons, List.not_mem_nil, or_false] at hb
    rcases hb with (rfl | rfl | rfl)
    · exact .inl rfl
    · exact .inr F.free
    · exact .inr hT
/-- behind a call that raised -/
theorem Inv.flown {e : Value} {s' : Shared} (I : Inv X pins σ H s) (h : CXE X.prog X.w X.stack H s E e s') : ∃ a C d T H', e = .ref a ∧ Inv X pins σ H' s' ∧ Fly a C d X.s₀.heap.objs.size H' s'.heap T ∧ E (.ref C) (some a) H' := by
  obtain ⟨a, C, d, T, H', rfl, os, bare, un, hok, F, q⟩ := h
  refine ⟨a, C, d, T, H', rfl, I.call' os (ch := []) un hok bare (fun b z => absurd z (by simp)), ⟨F.at', F.tr, F.ne, Nat.le_trans I.sz F.new, F.free, F.is⟩, q⟩
end
end L2

namespace L2
open PyProof.Rows PySem PySem.Spec
section
variable {P : Program} {w : World} {K : PySem.W.Frag} {mg : Str → Option Value} {base : Heap}
theorem passX {N : List Str} {qual : Str} {scope : Scope} {f : Addr} {cd : Value} {A : Around} {outer : List Env} {s : Shared} {H : Hp} {E E' : XK} (hE : ∀ c a H, E c a H → E' c a H) : Passes (CXE P w) (cxOf (CXE P w) P w K mg base N qual scope f cd A outer s H E') E := by
  intro pins σ H1 s1 e s' I h
  obtain ⟨a, C, d, T, H', rfl, I', F, q⟩ := I.flown h
  exact I'.leavesOn rfl rfl rfl F (Nat.le_refl _) (hE _ _ _ q)
/-- a def that may raise -/
theorem Fun.okX {x qual : Str} {st : Stmt} {f : Addr} {fd : FuncData} {N ps : List Str} {k : Nat} {sp : Sp} (F : Fun K x qual st f fd) (S : FnScope N ps (defScope st)) (len : ∀ vs H Q E, sp vs H Q E → vs.length = ps.length)
    (hbody : ∀ (cdv : Value) (A : Around) (outer : List Env) (s : Shared) (H : Hp) (vs : List V) (Q : VK) (E : XK), Room k (A.deeper (envOfC qual (defScope st) s.heap.objs.size f cdv)) → sp vs H Q E →
      ∃ t, PSs (cxOf (CXE P w) P w K mg base N qual (defScope st) f cdv A outer s H E) (defBody st) t ∧ t { nx := fun _ H' => Q .non H', rt := Q } (start N vs) H) : FnOk P w K mg base (CXE P w) (k + 1) f fd ps sp := by
  obtain ⟨oc, od, kV, doc, pm, an, cdv, ct, osl, rfl, lk, hcd⟩ := F.ex
  exact fn_of lk hcd S len fun A outer s H vs Q E hr hsp => hbody cdv A outer s H vs Q E hr hsp
end
end L2


namespace L2
open PyProof.Rows PySem PySem.Spec
/-- classes of one's own over ValueError -/
def valOver : List Value → Bool
  | .ref _ :: r => valOver r
  | l => l == [.type "ValueError", .type "Exception", .type "BaseException", .type "object"]
theorem refuse_val (self : Value) : ∀ {l : List Value}, valOver l = true → refuseLoop self "__setattr__" l = pure ()
  | .ref c :: r, e => by rw [refuseLoop_ref]; exact refuse_val self e
  | [], e => by simp [valOver] at e
  | .type n :: r, e => by
    have : (Value.type n :: r) = [.type "ValueError", .type "Exception", .type "BaseException", .type "object"] := by simpa [valOver] using e
    rw [this]; exact PySem.F.store_ValueError.passes self
  | .none :: r, e => by simp [valOver] at e
  | .bool _ :: r, e => by simp [valOver] at e
  | .int _ _ :: r, e => by simp [valOver] at e
  | .str _ _ :: r, e => by simp [valOver] at e
  | .builtin _ :: r, e => by simp [valOver] at e
  | .float _ _ :: r, e => by simp [valOver] at e
theorem val_has : ∀ {l : List Value}, valOver l = true → l.contains (.type "object") = true ∧ l.isEmpty = false
  | .ref c :: r, e => ⟨by rw [List.contains_cons, (val_has (l := r) e).1, Bool.or_true], rfl⟩
  | [], e => by simp [valOver] at e
  | .type n :: r, e => by
    have : (Value.type n :: r) = [.type "ValueError", .type "Exception", .type "BaseException", .type "object"] := by simpa [valOver] using e
    rw [this]; exact ⟨by decide, rfl⟩
  | .none :: r, e => by simp [valOver] at e
  | .bool _ :: r, e => by simp [valOver] at e
  | .int _ _ :: r, e => by simp [valOver] at e
  | .str _ _ :: r, e => by simp [valOver] at e
  | .builtin _ :: r, e => by simp [valOver] at e
  | .float _ _ :: r, e => by simp [valOver] at e
/-- what is known of an exception's class -/
structure XCl (K : PySem.W.Frag) (C : Addr) : Prop where
  mro : (PySem.W.clsIn K C).any (fun cd => valOver cd.mro && cd.hasDict) = true
  sa : PySem.W.findIn K (.ref C) "__setattr__" = some (some (.builtin "object.__setattr__"))
section
variable {prog : Program} {w : World} {A : Around} {K : PySem.W.Frag} {C x : Addr} {s : Shared} {R : Result → Shared → Prop}
theorem xsa_open {ox : Obj} {od : Option Obj} {name : Str} {tk : Tok} {v : Value} (X : K.In s.heap) (I : PySem.W.InstAt s.heap x ox C od) (hp : (PySem.W.clsIn K C).any (fun cd => valOver cd.mro && cd.hasDict) = true) (ht : PySem.W.findIn K (.ref C) name = some none)
    (h : ∀ b, wpAny (model prog w) A.in1 (Builtin.ObjectAttr.storeInOwnDict (.ref x) (.ref C) (.str name tk) name v b) (fun f s' => f = .done (.ret .none) ∧ R (.ok (.ret .none)) s') (fun _ _ => False) s) : codeAny (model prog w) A (.call (.builtin "object.__setattr__") ⟨[.ref x, .str name tk, v], []⟩) R s := by
  obtain ⟨cd, hc, ho⟩ := PySem.W.any_some hp
  have ov := (Bool.and_eq_true_iff.mp ho).1
  obtain ⟨top, some'⟩ := val_has ov
  have lists : PySem.W.Looks (model prog w) s.heap (mroOf (.ref C)) cd.mro := (PySem.W.looks_clsIn X hc).andThen .now
  have over : PySem.W.mroIn K C (.type "object") = some true := by
    unfold PySem.W.mroIn
    simp only [hc, Option.bind_some, some', top, Bool.false_eq_true, if_false]
  have St := PySem.F.store_object
  have is : PySem.W.Looks (model prog w) s.heap (isInstance (.ref x) (.type "object")) true := I.type.andThen (PySem.W.looks_mroIn X over)
  have fit := St.args (.ref x) (.str name tk) v
  refine codeAny_call_builtin St.slot.plain St.entry (PySem.W.check_slot (M := model prog w) (i := "object.__setattr__") (owner := "object") (n := "__setattr__") St.kind St.split is fit ?_)
  rw [PySem.W.osa_eq, refuse_eq]
  refine wpAny_bind (wpAny_bind (I.type.here (wpAny_bind (lists.here ((refuse_val _ ov).symm ▸ wpAny_pure ?_)))))
  refine wpAny_bind (I.type.here (wpAny_bind ((PySem.W.looks_findIn X ht).here (wpAny_bind (wpAny_pure (wpAny_mono (h _) (fun f s' z => ?_) fun _ _ z => z.elim))))))
  obtain ⟨rfl, z⟩ := z
  exact z
theorem bare_ns {h : Heap} {a : Addr} (g : h.get? a = some { cls := .type "dict", data := .dict #[] }) : h.Ns1 a fun _ => none := Heap.Ns1.of_empty ⟨_, _, _, g, rfl, fun _ z => absurd z (Array.not_mem_empty _), fun _ => rfl⟩
theorem ns_line {h : Heap} {a : Addr} {m : Str → Option Value} {ns : List Str} (n : h.Ns1 a m) (hw : PySem.Within m ns) (few : ns.length ≤ 1001) {Q : Unit → Shared → Prop} {E : Value → Shared → Prop} {g : Array GenState} {dr : Drawn} {t : Nat} {os : OsState} (q : Q () ⟨h, g, dr, t, os⟩) : wpAny (model prog w) A (lookBehind a) Q E ⟨h, g, dr, t, os⟩ := by
  obtain ⟨o, es, ep, ho, hd, hcnt⟩ := n.count hw
  exact wpAny_lookBehind ho (by rw [hd]; exact pastItsLine_dict (by rw [sizeLine_eq]; omega)) q
theorem xset_first {E : Value → Shared → Prop} {name : Str} {v : Value} {vs : Array Value} {sl : Array (Option Value)} {Q : Unit → Shared → Prop} (X : K.In s.heap) (c : XCl K C) (hn : PySem.W.findIn K (.ref C) name = some none) (he : s.heap.get? x = some ⟨.ref C, none, .fields vs, sl⟩)
    (h : ∀ h' tk, h'.get? x = some ⟨.ref C, some s.heap.objs.size, .fields vs, sl⟩ → h'.Ns1 s.heap.objs.size (fun y => if y = name then some v else none) → (∀ b o, b ≠ x → s.heap.get? b = some o → h'.get? b = some o) → Q () { s with heap := h', toks := tk }) : wpAny (model prog w) A (setAttr (.ref x) name v) Q E s := by
  have I : PySem.W.InstAt s.heap x ⟨.ref C, none, .fields vs, sl⟩ C none := ⟨he, rfl, rfl, trivial⟩
  obtain ⟨cd, hc, ho⟩ := PySem.W.any_some c.mro
  have hd := (Bool.and_eq_true_iff.mp ho).2
  have far := Nat.ne_of_lt (Heap.lt_size he)
  have up : ∀ {b : Addr} {o : Obj}, s.heap.get? b = some o → (s.heap.push { cls := .type "dict", data := .dict #[] }).get? b = some o := fun q => Heap.get?_push_of_some _ q
  have clsd : PySem.W.Looks (model prog w) s.heap _ _ := PySem.W.looks_clsIn X hc
  refine PySem.W.set_plain X I c.sa (xsa_open (s := { s with toks := s.toks + 1 }) X I c.mro hn fun b => ?_)
  refine wpAny_bind (wpAny_pure (wpAny_bind (wpAny_bind (wpAny_loadPart he (wpAny_bind (clsd.here (s := { s with toks := s.toks + 1 }) ?_))))))
  simp only [hd, Bool.not_true, Bool.false_eq_true, if_false, typeHasDict]
  refine wpAny_bind (wpAny_alloc (wpAny_bind (wpAny_update (up he) (wpAny_pure (a := some s.heap.objs.size) ?_))))
  refine wpAny_bind (wpAny_pure (wpAny_bind (?_ : wpAny _ _ (nsSet _ _ _) _ _ _)))
  refine wpAny_nsSet1 (bare_ns ((Heap.get?_update_other _ _ far).trans (Heap.get?_push_at rfl rfl))) fun h' n k => ?_
  refine wpAny_bind (ns_line n (PySem.Within.cons name v PySem.Within.nil) (Nat.succ_le_succ (Nat.zero_le 1000)) (wpAny_pure ⟨rfl, h h' _ ((k.2 x far).trans (Heap.get?_update_self _ (up he) rfl)) n fun b o nb q => ?_⟩))
  exact (k.2 b (Nat.ne_of_lt (Heap.lt_size q))).trans ((Heap.get?_update_other _ _ (Ne.symm nb)).trans (up q))
theorem xset_more {E : Value → Shared → Prop} {name : Str} {v : Value} {vs : Array Value} {sl : Array (Option Value)} {dx : Addr} {mA : Str → Option Value} {ns : List Str} {Q : Unit → Shared → Prop} (X : K.In s.heap) (c : XCl K C) (hn : PySem.W.findIn K (.ref C) name = some none) (he : s.heap.get? x = some ⟨.ref C, some dx, .fields vs, sl⟩)
    (hd : s.heap.Ns1 dx mA) (hw : PySem.Within mA ns) (hsz : ns.length ≤ 1000) (h : ∀ h' tk, h'.Ns1 dx (fun y => if y = name then some v else mA y) → Heap.SameBut dx s.heap h' → Q () { s with heap := h', toks := tk }) : wpAny (model prog w) A (setAttr (.ref x) name v) Q E s := by
  obtain ⟨od, gd, _⟩ := lookIn_ns hd
  have I : PySem.W.InstAt s.heap x ⟨.ref C, some dx, .fields vs, sl⟩ C (some od) := ⟨he, rfl, rfl, gd⟩
  obtain ⟨cd, hc, ho⟩ := PySem.W.any_some c.mro
  have hasd := (Bool.and_eq_true_iff.mp ho).2
  have clsd : PySem.W.Looks (model prog w) s.heap _ _ := PySem.W.looks_clsIn X hc
  refine PySem.W.set_plain X I c.sa (xsa_open (s := { s with toks := s.toks + 1 }) X I c.mro hn fun b => ?_)
  refine wpAny_bind (wpAny_pure (wpAny_bind (wpAny_bind (wpAny_loadPart he (wpAny_bind (clsd.here (s := { s with toks := s.toks + 1 }) ?_))))))
  rw [hasd]
  refine wpAny_pure (a := some dx) (wpAny_bind (wpAny_pure (wpAny_bind (wpAny_nsSet1 (s := { s with toks := s.toks + 1 }) hd fun h' n k => ?_))))
  exact wpAny_bind (ns_line n (PySem.Within.cons name v hw) (Nat.succ_le_succ hsz) (wpAny_pure ⟨rfl, h h' _ n k⟩))
end
end L2

namespace L2
open PyProof.Rows PySem PySem.Spec
section
end
end L2

/-! ## exceptions of one's own, in the layer (own text). -/
namespace L2
open PyProof.Rows PySem PySem.Spec
/-- an exception that was made and not yet raised; its dict -/
def xN (e C : Addr) (d : Option Addr) : HO := .ext fun h => XAt h e C d .none
def xD (dx : Addr) (fs : List (Str × V)) : HO := .ext fun h => ∃ mA, h.Ns1 dx mA ∧ (∀ f, RelO (fs.lookup f) (mA f)) ∧ PySem.Within mA (fs.map (·.1))
theorem xN_ok {P : Program} {w : World} {H : Hp} {h : Heap} {e C : Addr} {d : Option Addr} (x : XAt h e C d .none) : ObjOk P w H h e (xN e C d) := by
  obtain ⟨vs, sl, he, r⟩ := x
  refine ⟨⟨vs, sl, he, r⟩, ⟨_, he⟩, fun h1 h2 ⟨vs', sl', he', r'⟩ k => ⟨vs', sl', k _ he', r'⟩⟩
theorem xN_at {P : Program} {w : World} {H : Hp} {h : Heap} {e C : Addr} {d : Option Addr} (x : HOk P w H h) (q : H e = some (xN e C d)) : XAt h e C d .none := (x e _ q).1
theorem xD_ok {P : Program} {w : World} {H : Hp} {h : Heap} {dx : Addr} {fs : List (Str × V)} {mA : Str → Option Value} (n : h.Ns1 dx mA) (r : ∀ f, RelO (fs.lookup f) (mA f)) (wi : PySem.Within mA (fs.map (·.1))) : ObjOk P w H h dx (xD dx fs) := by
  have n' := n
  obtain ⟨o, es, ep, ho, _⟩ := n'
  refine ⟨⟨mA, n, r, wi⟩, ⟨o, ho⟩, fun h1 h2 ⟨mA', ⟨o', es', ep', ho', q⟩, r'⟩ k => ⟨mA', ⟨o', es', ep', k _ ho', q⟩, r'⟩⟩
theorem xD_at {P : Program} {w : World} {H : Hp} {h : Heap} {dx : Addr} {fs : List (Str × V)} (x : HOk P w H h) (q : H dx = some (xD dx fs)) : ∃ mA, h.Ns1 dx mA ∧ (∀ f, RelO (fs.lookup f) (mA f)) ∧ PySem.Within mA (fs.map (·.1)) := (x dx _ q).1
section
variable {X : Cx} {pins : List (Addr × Obj)} {σ : St} {H : Hp} {s : Shared} {a C dx : Addr} {f : Str} {y : V} {u : Value} {o value : Expr} {ta tv : TE} {pos pos' : Pos}
theorem relO_put {fs : List (Str × V)} {mA : Str → Option Value} (r : ∀ g, RelO (fs.lookup g) (mA g)) (ry : RelV y u) (f : Str) : ∀ g, RelO ((putF f y fs).lookup g) ((fun z => if z = f then some u else mA z) g) := fun g => by
  rw [lookup_putF]
  by_cases q : g = f
  · simp only [q, if_true]; exact ry
  · simp only [q, if_false]; exact r g
theorem within_put {fs : List (Str × V)} {mA : Str → Option Value} (wi : PySem.Within mA (fs.map (·.1))) (f : Str) : PySem.Within (fun z => if z = f then some u else mA z) ((putF f y fs).map (·.1)) := fun g hg => by
  by_cases q : g = f
  · rw [q]; exact (keys_putF f y fs).1
  · refine (keys_putF f y fs).2 g (wi g fun z => hg ?_)
    show (if g = f then some u else mA g) = none
    rw [if_neg q]; exact z
theorem xset_ok1 {A : Around} {E : Value → Shared → Prop} {Q : Unit → Shared → Prop} (I : Inv X pins σ H s) (e : H a = some (xN a C none)) (c : XCl X.K C) (n : NoAttr X.K C f) (ry : RelV y u)
    (h : ∀ dx s', H dx = none → dx ≠ a → Inv X pins σ (upd (upd H dx (xD dx [(f, y)])) a (xN a C (some dx))) s' → Q () s') : wpAny (model X.prog X.w) A (setAttr (.ref a) f u) Q E s := by
  obtain ⟨vs, sl, he, hsz, h1, h2⟩ := xN_at I.hok e
  refine xset_first I.kIn c n he fun h' tk k1 k2 k3 => h s.heap.objs.size _ (I.hok.fresh (Nat.le_refl _)) (Nat.ne_of_gt (Heap.lt_size he)) ?_
  have hax : a ≠ s.heap.objs.size := Nat.ne_of_lt (Heap.lt_size he)
  have k2' := k2
  obtain ⟨od, es, ep, ho, hd, hr⟩ := k2'
  have nf : od.isFreed = false := (Heap.get?_some_iff.mp ho).2
  have g1 : (s.heap.push od).get? s.heap.objs.size = some od := Heap.get?_push_size _ nf
  have n1 : (s.heap.push od).Ns1 s.heap.objs.size (fun z => if z = f then some u else none) := ⟨od, es, ep, g1, hd, hr⟩
  have r0 : ∀ g, RelO (List.lookup g ([(f, y)] : List (Str × V))) ((fun z => if z = f then some u else none) g) := relO_put (fs := []) (mA := fun _ => none) (fun _ => True.intro) ry f
  have w0 : PySem.Within (fun z => if z = f then some u else none) (([(f, y)] : List (Str × V)).map (·.1)) := within_put (fs := []) (mA := fun _ => none) (y := y) (fun g hg => absurd rfl hg) f
  have I1 := I.laid (a := s.heap.objs.size) (o := xD s.heap.objs.size [(f, y)]) (h' := s.heap.push od) (t' := s.toks) (fun b q z => Heap.get?_push_of_some _ z) (Nat.le_refl _) (xD_ok n1 r0 w0)
  refine I1.write (x := a) (e := a) (h' := h') (t' := tk) (by rw [upd_ne hax, e]; exact True.intro) (.inl rfl) (fun b q hb z => ?_) ⟨_, k1⟩ (xN_ok ⟨vs, sl, k1, hsz, h1, h2⟩)
  by_cases qb : b = s.heap.objs.size
  · subst qb
    rw [show (s.heap.push od).get? s.heap.objs.size = some od from g1] at z
    cases z
    exact ho
  · refine k3 b q hb ?_
    rwa [Heap.get?_push_ne _ _ _ qb] at z
theorem xset_ok2 {A : Around} {E : Value → Shared → Prop} {Q : Unit → Shared → Prop} {fs : List (Str × V)} (I : Inv X pins σ H s) (e : H a = some (xN a C (some dx))) (ed : H dx = some (xD dx fs)) (c : XCl X.K C) (n : NoAttr X.K C f) (hl : fs.length ≤ 900) (ry : RelV y u)
    (h : ∀ s', Inv X pins σ (upd H dx (xD dx (putF f y fs))) s' → Q () s') : wpAny (model X.prog X.w) A (setAttr (.ref a) f u) Q E s := by
  obtain ⟨vs, sl, he, hsz, h1, h2⟩ := xN_at I.hok e
  obtain ⟨mA, n1, r1, w1⟩ := xD_at I.hok ed
  refine xset_more I.kIn c n he n1 w1 (by rw [List.length_map]; omega) fun h' tk k1 k2 => h _ ?_
  have hd : ∃ o, h'.get? dx = some o := let ⟨o, _, _, e', _⟩ := k1; ⟨o, e'⟩
  exact I.write (x := dx) (e := dx) (by rw [ed]; exact True.intro) (.inl rfl) (fun b q hb z => (k2.2 b hb).trans z) hd (xD_ok k1 (relO_put r1 ry f) (within_put w1 f))
/-- self.f = e of an exception that was just made -/
def sXF (K : PySem.W.Frag) (ta tv : TE) (f : Str) : TS := fun D σ H => tv σ H fun y H1 => ta σ H1 fun x H2 => ∃ a C, x = .ref a ∧ XCl K C ∧ NoAttr K C f ∧
  ((H2 a = some (xN a C none) ∧ ∀ dx, H2 dx = none → dx ≠ a → D.nx σ (upd (upd H2 dx (xD dx [(f, y)])) a (xN a C (some dx)))) ∨
   (∃ dx fs, H2 a = some (xN a C (some dx)) ∧ H2 dx = some (xD dx fs) ∧ fs.length ≤ 900 ∧ D.nx σ (upd H2 dx (xD dx (putF f y fs)))))
theorem ps_xfld (ha : PE X o ta) (hv : PE X value tv) (hs : swapsWith value (some (.Attribute o f pos')) pos.line X.env = pure false) : PS X (.Assign [.Attribute o f pos'] value pos) (sXF X.K ta tv f) := by
  intro pins s σ H D I h
  refine plainObj_wpAny_Assign_Attribute (thn (hv pins s σ H _ I h) fun u s1 ⟨y, H1, I1, ry, q⟩ => thn (ha pins s1 σ H1 _ I1 q) fun ov s2 ⟨x, H2, I2, rx, a, C, ex, c, n, q2⟩ => ?_) hs
  subst ex
  obtain rfl : ov = Value.ref a := rx
  rcases q2 with ⟨e1, k⟩ | ⟨dx, fs, e1, e2, hl, k⟩
  · exact xset_ok1 I2 e1 c n ry fun dx s3 hn hne I3 => ⟨σ, _, I3, k dx hn hne⟩
  · exact xset_ok2 I2 e1 e2 c n hl ry fun s3 I3 => ⟨σ, _, I3, k⟩
theorem val_cont : ∀ {l : List Value}, valOver l = true → l.contains (.type "ValueError") = true ∧ l.contains (.type "BaseException") = true ∧ l.contains (.type "AttributeError") = false ∧ l.contains (.type "NameError") = false
  | .ref c :: r, e => by
    obtain ⟨a, b, c, d⟩ := val_cont (l := r) e
    exact ⟨by rw [List.contains_cons, a, Bool.or_true], by rw [List.contains_cons, b, Bool.or_true], by rw [List.contains_cons, c]; rfl, by rw [List.contains_cons, d]; rfl⟩
  | [], e => by simp [valOver] at e
  | .type n :: r, e => by
    have : (Value.type n :: r) = [.type "ValueError", .type "Exception", .type "BaseException", .type "object"] := by simpa [valOver] using e
    rw [this]; decide
  | .none :: r, e => by simp [valOver] at e
  | .bool _ :: r, e => by simp [valOver] at e
  | .int _ _ :: r, e => by simp [valOver] at e
  | .str _ _ :: r, e => by simp [valOver] at e
  | .builtin _ :: r, e => by simp [valOver] at e
  | .float _ _ :: r, e => by simp [valOver] at e
/-- the class at C is one of exceptions, made by ValueError -/
def xclIn (K : PySem.W.Frag) (C : Addr) : Bool := match K.lookup C with
  | some ⟨c, _, .cls cd, sl⟩ => c == .type "type" && cd.mro.head? == some (.ref C) && valOver cd.mro && !cd.hasDel && sl.size == 6 && sl[4]? == some (some (.builtin "ValueError.__new__"))
  | _ => false
theorem xcl_of {K : PySem.W.Frag} {h : Heap} (x : K.In h) (e : xclIn K C = true) : ∃ n1 n2 N l1 bm b1 l2 l3 b2 c1 d1 v0 v1 v2 v3 v5, h.get? C = some (excClassObj n1 n2 C N l1 bm b1 l2 l3 b2 c1 d1 v0 v1 v2 v3 v5 "ValueError.__new__") ∧ valOver (.ref C :: bm) = true := by
  unfold xclIn at e
  split at e
  · rename_i c dd cd sl hk
    simp only [Bool.and_eq_true, beq_iff_eq, Bool.not_eq_true'] at e
    obtain ⟨⟨⟨⟨⟨rfl, hm⟩, hv⟩, hdel⟩, hsz⟩, h4⟩ := e
    rcases cd with ⟨n1, l1, mro, N, n2, b1, l2, l3, b2, c1, del⟩
    cases hdel
    cases mro with
    | nil => cases hm
    | cons m bm =>
      cases hm
      obtain ⟨v0, v1, v2, v3, v5, hl⟩ := six_places (l := sl.toList) (v := some (.builtin "ValueError.__new__")) (by simpa using hsz) (by simpa using h4)
      cases sl
      cases hl
      exact ⟨n1, n2, N, l1, bm, b1, l2, l3, b2, c1, dd, v0, v1, v2, v3, v5, x _ _ hk, hv⟩
  · cases e
/-- the same, of the object that stands there -/
def xcO (C : Addr) (o : Obj) : Bool := match o with
  | ⟨c, _, .cls cd, sl⟩ => c == .type "type" && cd.mro.head? == some (.ref C) && valOver cd.mro && !cd.hasDel && sl.size == 6 && sl[4]? == some (some (.builtin "ValueError.__new__")) && cd.hasDict
  | _ => false
theorem xcO_cl {K : PySem.W.Frag} {o : Obj} (l : K.lookup C = some o) (h : xcO C o = true) : xclIn K C = true := by
  unfold xcO at h
  split at h
  · unfold xclIn
    rw [l]
    exact (Bool.and_eq_true_iff.mp h).1
  · cases h
theorem xcO_mro {K : PySem.W.Frag} {o : Obj} (l : K.lookup C = some o) (h : xcO C o = true) : (PySem.W.clsIn K C).any (fun cd => valOver cd.mro && cd.hasDict) = true := by
  unfold xcO at h
  split at h
  · rename_i c d cd sl
    unfold PySem.W.clsIn
    rw [l]
    simp only [Bool.and_eq_true] at h; simp [h.1.1.1.1.2, h.2]
  · cases h
theorem exm_mk {K : PySem.W.Frag} {P : Addr} {c : Value} {b : Bool} (hx : xclIn K P = true) (hs : PySem.W.subIn K (.ref P) (.type "BaseException") = some true) (ht : PySem.W.typeIn K (.ref P) = some (.type "type")) (hk : PySem.W.subIn K c (.ref P) = some b) : PySem.W.exmOne K c (.ref P) = some b := by
  have hc : (PySem.W.clsIn K P).isSome = true := by
    unfold xclIn at hx
    unfold PySem.W.clsIn
    split at hx
    · rename_i l
      rw [l]; rfl
    · cases hx
  unfold PySem.W.exmOne PySem.W.kitCls
  simp [hs, ht, hk, hc]
section
open PySem.W
variable {w : World} {A : Around} {E : Value → Shared → Prop} {h : Heap} {g : Array GenState} {dr : Drawn} {t : Nat} {os : OsState} {prog : Program} {M : Model} {C : Addr}
/-- what a class of exceptions of ours, made by ValueError, answers to the asking for it -/
structure Xcl (M : Model) (h : Heap) (C : Addr) : Prop where
  obj : ∃ n1 n2 N l1 bm b1 l2 l3 b2 c1 d1 v0 v1 v2 v3 v5, h.get? C = some (excClassObj n1 n2 C N l1 bm b1 l2 l3 b2 c1 d1 v0 v1 v2 v3 v5 "ValueError.__new__")
  made : Looks M h (Bind.madeBy (.ref C)) (some "ValueError.__new__")
  base : Looks M h (Bind.staticBase (.ref C)) (.ref C)
  here : Looks M h (Bind.madeHere "BaseException.__new__" (.ref C)) ()
  val : Looks M h (isSubtype (.ref C) (.type "ValueError")) true
  exc : Looks M h (isSubtype (.ref C) (.type "BaseException")) true
  att : Looks M h (isSubtype (.ref C) (.type "AttributeError")) false
  nam : Looks M h (isSubtype (.ref C) (.type "NameError")) false
  self : Looks M h (isSubtype (.ref C) (.ref C)) true
theorem xcl_looks {K : Frag} (X : K.In h) (e : xclIn K C = true) : Xcl M h C := by
  obtain ⟨n1, n2, N, l1, bm, b1, l2, l3, b2, c1, d1, v0, v1, v2, v3, v5, hC, hv⟩ := xcl_of X e
  obtain ⟨a1, a2, a3, a4⟩ := val_cont hv
  have on : ∀ b r, (Value.ref C :: bm).contains b = r → Looks M h (isSubtype (.ref C) b) r := fun b r er A Q E s k q => wpAny_isSubtype_exc (k _ _ hC) (er ▸ q)
  exact ⟨⟨n1, n2, N, l1, bm, b1, l2, l3, b2, c1, d1, v0, v1, v2, v3, v5, hC⟩, fun A Q E s k q => wpAny_madeBy_exc (k _ _ hC) q, fun A Q E s k q => wpAny_staticBase_exc (k _ _ hC) q, fun A Q E s k q => wpAny_madeHere_exc PySem.F.excBase_ValueError.canon (k _ _ hC) q, on _ _ a1, on _ _ a2, on _ _ a3, on _ _ a4, on _ _ (by simp)⟩
theorem Xcl.keeps {h' : Heap} (x : Xcl M h C) (k : ∀ b o, h.get? b = some o → h'.get? b = some o) : Xcl M h' C := by
  obtain ⟨n1, n2, N, l1, bm, b1, l2, l3, b2, c1, d1, v0, v1, v2, v3, v5, hC⟩ := x.obj
  exact ⟨⟨n1, n2, N, l1, bm, b1, l2, l3, b2, c1, d1, v0, v1, v2, v3, v5, k _ _ hC⟩, x.made.keeps k, x.base.keeps k, x.here.keeps k, x.val.keeps k, x.exc.keeps k, x.att.keeps k, x.nam.keeps k, x.self.keeps k⟩
theorem Xcl.new_may (x : Xcl M h C) {rest : List Value} {Q : Unit → Shared → Prop} (q : Q () ⟨h, g, dr, t, os⟩) : wpAny M A (checkBuiltinCall "ValueError.__new__" ⟨.ref C :: rest, []⟩) Q E ⟨h, g, dr, t, os⟩ := by
  have F := PySem.F.excBase_ValueError
  have star := F.noStar
  obtain ⟨x1, x2, x3⟩ : _ ∧ _ ∧ _ := ⟨x.made, x.base, x.val⟩
  obtain ⟨_, _, _, _, _, _, _, _, _, _, _, _, _, _, _, _, hC⟩ := x.obj
  simp only [checkBuiltinCall, F.newKind, F.newSplit, F.newRow]
  repeat first | with_reducible refine wpAny_loadPart_at hC ?_ | simp only [bne_self_eq_false, Bool.false_eq_true, if_false, Bool.not_true] | with_reducible refine Looks.here (by assumption) ?_ | wp_step
  exact q
/-- the two things that are made: its args, and it -/
abbrev argsObj (rest : List Value) : Obj := { cls := .type "tuple", data := .seq rest.toArray }
abbrev excObj (C T : Addr) : Obj := { cls := .ref C, data := .fields #[.ref T, .none, .none, .none, .bool false, .none] }
theorem Xcl.new {R : Result → Shared → Prop} (x : Xcl (model prog w) h C) {rest : List Value} (few : rest.length ≤ sizeLine)
    (q : R (.ok (.ret (.ref (h.objs.size + 1)))) ⟨(h.push (argsObj rest)).push (excObj C h.objs.size), g, dr, t, os⟩) : codeAny (model prog w) A (.builtin "ValueError.__new__" ⟨.ref C :: rest, []⟩) R ⟨h, g, dr, t, os⟩ := by
  have F := PySem.F.excBase_ValueError
  have ends := F.ends
  obtain ⟨_, _, _, _, _, _, _, _, _, _, _, _, _, _, _, _, hC⟩ := x.obj
  obtain ⟨x1, x2, x3, x4⟩ : _ ∧ _ ∧ _ ∧ _ := ⟨x.here, x.att, x.nam, x.val⟩
  refine codeAny_builtinAt F.entry ?_
  unfold Builtin.«BaseException.__new__»
  refine PySem.wpAt_bind (?_ : PySem.wpAt _ _ _ (stack >>= _) _ _ _)
  refine PySem.wpAt_bind (PySem.wpAt_stack fun p below => PySem.wpAt_of_wpAny ?_)
  wp_walk
  refine PySem.wpAt_of_wpAny (F.owner.symm ▸ ?_)
  repeat first | with_reducible refine wpAny_loadPart_at hC ?_ | with_reducible refine Looks.here (by assumption) ?_ | wp_step
  rw [← Heap.size_push] at q
  exact q
/-- C(rest): a new exception, and its own __init__ -/
theorem Xcl.make (x : Xcl (model prog w) h C) {rest : List Value} {init : Value} {Q : Value → Shared → Prop} (few : rest.length ≤ sizeLine) (hi : Looks (model prog w) h (typeLookup (.ref C) "__init__") (some init)) (hb : ∀ v, Looks (model prog w) h (bindSpecial init v) (init, [v]))
    (go : wpAny (model prog w) (A.under (.builtin "type.__call__" ⟨.ref C :: rest, []⟩)) (call init (.ref (h.objs.size + 1) :: rest)) (fun r s' => r = .none ∧ Q (.ref (h.objs.size + 1)) s') E ⟨(h.push (argsObj rest)).push (excObj C h.objs.size), g, dr, t, os⟩) :
    wpAny (model prog w) A (call (.ref C) rest) Q E ⟨h, g, dr, t, os⟩ := by
  have F := PySem.F.excBase_ValueError
  obtain ⟨_, _, _, _, _, _, _, _, _, _, _, _, _, _, _, _, hC⟩ := x.obj
  have ty : Shared.TypeIs ⟨h, g, dr, t, os⟩ (.ref C) "type" := ⟨_, hC, rfl⟩
  obtain ⟨c1, c2⟩ : _ ∧ _ := ⟨tc_lookup, tc_bind (.ref C)⟩
  refine wpAny_call (codeAny_of_tree (?_ : wpAny _ _ (callAny (.ref C) _) _ _ _))
  repeat any_goals first | assumption | with_reducible refine wpAny_loadPart_at hC ?_ | wp_step
  refine ⟨rfl, codeAny_call_builtin_at (Code.quiet_builtin _ (by decide +kernel)) entry_typeCall (wpAny_check_type_call_sub hC ?_)⟩
  have made := x.made
  repeat first | with_reducible refine wpAny_loadPart_at hC ?_ | with_reducible refine Looks.here made ?_ | wp_step
  refine codeAny_call_builtin_code (Code.quiet_builtin _ F.quiet) (x.new_may (x.new few (?_ : wpAny _ _ _ _ _ ⟨(h.push (argsObj rest)).push (excObj C h.objs.size), g, dr, t, os⟩)))
  have up : ∀ b o, h.get? b = some o → ((h.push (argsObj rest)).push (excObj C h.objs.size)).get? b = some o := fun b o e => Heap.get?_push_of_some _ (Heap.get?_push_of_some _ e)
  have new : ((h.push (argsObj rest)).push (excObj C h.objs.size)).get? (h.objs.size + 1) = some (excObj C h.objs.size) := Heap.get?_push_at (Heap.size_push ..).symm rfl
  obtain ⟨y1, y2, y3⟩ : _ ∧ _ ∧ _ := ⟨x.self.keeps up, hi.keeps up, (hb (.ref (h.objs.size + 1))).keeps up⟩
  generalize (h.push (argsObj rest)).push (excObj C h.objs.size) = h2 at go new y1 y2 y3
  unfold isInstance
  repeat first | with_reducible refine wpAny_loadPart_at new ?_ | with_reducible refine Looks.here y1 ?_ | wp_step
  refine (?_ : wpAny _ _ (typeLookup (.ref C) _) _ _ _)
  refine y2.here ?_
  refine wpAny_holding (wpAny_bind ?_)
  refine y3.here ?_
  refine wpAny_bind (thn go fun r s' z => ?_)
  obtain ⟨rfl, z⟩ := z
  wp_walk
  exact z
theorem born (h : Heap) (C : Addr) (rest : List Value) : Heap.MadeExcOf h ((h.push (argsObj rest)).push (excObj C h.objs.size)) (h.objs.size + 1) (.ref C) rest where
  keeps := fun b o e => Heap.get?_push_of_some _ (Heap.get?_push_of_some _ e)
  new := Heap.get?_none_of_le (Nat.le_succ _)
  there := ⟨h.objs.size, Heap.get?_push_at (Heap.size_push ..).symm rfl, Heap.get?_none_of_le (Nat.le_refl _), Heap.get?_push_of_some _ (Heap.get?_push_at rfl rfl)⟩
/-- the __init__ that every ValueError has, of no args: its args are told anew -/
theorem bare_init {e T : Addr} {Q : Value → Shared → Prop} (x : Xcl (model prog w) h C) (ge : h.get? e = some (excObj C T)) (q : Q .none ⟨(h.push (argsObj [])).update e (Obj.mapFields (·.setIfInBounds 0 (.ref h.objs.size))), g, dr, t, os⟩) :
    wpAny (model prog w) A (call (.builtin "ValueError.__init__") [.ref e]) Q E ⟨h, g, dr, t, os⟩ := by
  have F := PySem.F.excBase_ValueError
  have is : Looks (model prog w) h (isInstance (.ref e) (.type "ValueError")) true := ((Looks.ld ge).andThen .now).andThen x.val
  have star := F.noStar
  have may : ∀ {Q1 : Unit → Shared → Prop} {E1 : Value → Shared → Prop} {A1 : Around}, Q1 () ⟨h, g, dr, t, os⟩ → wpAny (model prog w) A1 (checkBuiltinCall "ValueError.__init__" ⟨[.ref e], []⟩) Q1 E1 ⟨h, g, dr, t, os⟩ := fun q1 => by
    obtain ⟨_, _, _, _, _, _, _, _, _, _, _, _, _, _, _, _, hC⟩ := x.obj
    have val := x.val
    simp only [checkBuiltinCall, F.initKind, F.initSplit, F.initRow]
    repeat first | with_reducible refine Looks.here is ?_ | with_reducible refine wpAny_loadPart_at ge ?_ | with_reducible refine wpAny_loadPart_at hC ?_ | wp_step
    exact q1
  refine wpAny_call (codeAny_call_builtin F.init.plain F.initEntry (may ?_))
  repeat first | with_reducible refine wpAny_loadPart_at ge ?_ | wp_step

  exact q
end
structure XMk (K : PySem.W.Frag) (C f : Addr) : Prop where
  xc : xclIn K C = true
  init : PySem.W.findIn K (.ref C) "__init__" = some (some (.ref f))
  fn : PySem.W.isFn K (.ref f) = true
  kp : PySem.W.keepIn K (.ref C) = true
section
variable {CX : CXT} {k : Nat} {fI : Addr} {fd : FuncData} {ps : List Str} {sp : Sp} {dvs vs : List V} {ds us : List Value} {E : XK} {Q : VK} {x : Str} {p : Pos} {e : Expr} {es : List Expr} {t : TA}
theorem made_at {h h' : Heap} {e : Addr} {args : List Value} (m : Heap.MadeExcOf h h' e (.ref C) args) : XAt h' e C none .none := by
  obtain ⟨t, he, _⟩ := m.there
  exact ⟨_, _, he, rfl, rfl, rfl⟩
theorem run_makeX (M : XMk X.K C fI) (F : FnOk X.prog X.w X.K X.mg X.base CX k fI fd ps sp) (hr : Room (k + 1) X.A) (hb : Binds X.K fd ps ds) (hd : Vals dvs ds) (hx : Passes CX X E) (I : Inv X pins σ H s) (r : Vals vs us) (hz : vs.length ≤ sizeLine)
    (h : ∀ a, H a = none → sp (.ref a :: (vs ++ dvs)) (upd H a (xN a C none)) (fun v H2 => v = .non ∧ Q (.ref a) H2) E) : wpAny (model X.prog X.w) X.A (call (.ref C) us) (EP X pins σ Q) X.xe s := by
  have kin := I.kIn
  rcases s with ⟨hp, g, d, tk, os⟩
  refine (xcl_looks kin M.xc).make (by rw [← r.length]; exact hz) (PySem.W.looks_findIn kin M.init) (fun v => PySem.W.bind_fn kin v (beq_iff_eq.mp M.fn)) ?_
  have hm := born hp C us
  have hn : hp.objs.size ≤ hp.objs.size + 1 := Nat.le_succ _
  generalize (hp.push (argsObj us)).push (excObj C hp.objs.size) = h', hp.objs.size + 1 = e at hm hn
  have hq := h e (I.hok.fresh hn)
  have I2 : Inv X pins σ (upd H e (xN e C none)) ⟨h', g, d, tk, os⟩ := I.laid (a := e) (o := xN e C none) (h' := h') (t' := tk) hm.keeps hn (xN_ok (made_at hm))
  have r2 : Vals (V.ref e :: (vs ++ dvs)) (Value.ref e :: (us ++ ds)) := .cons rfl (r.append hd)
  have hl : (Value.ref e :: us ++ ds).length = ps.length := by
    have e' := r2.length
    rw [F.len _ _ _ _ hq] at e'
    exact e'.symm
  refine wpAny_call (codeAny_mono (F.run _ X.stack _ _ ⟨Value.ref e :: us, []⟩ (Value.ref e :: (us ++ ds)) _ _ E (hr.make C us []) (I2.env0.make C us []) (hb _ (Value.ref e :: us) I2.kIn hl) r2 hq) fun r s' hq' => ?_)
  cases r with
  | error e' => exact hx pins σ _ _ e' s' I2 hq'
  | ok fl =>
    cases fl with
    | ret u =>
      obtain ⟨v, H', I3, rv, ev, q3⟩ := I2.after hq'
      subst ev
      exact ⟨rv, ⟨V.ref e, H', I3, rfl, q3⟩⟩
    | next => exact False.elim hq'
    | brk => exact False.elim hq'
    | cont => exact False.elim hq'
def tMakeX (C : Addr) (sp : Sp) (dvs : List V) (E : XK) (t : TA) : TE := fun σ H Q => t σ H fun vs H1 => vs.length ≤ sizeLine ∧ ∀ a, H1 a = none → sp (.ref a :: (vs ++ dvs)) (upd H1 a (xN a C none)) (fun v H2 => v = .non ∧ Q (.ref a) H2) E
theorem pe_makeX {pos : Pos} (M : XMk X.K C fI) (F : FnOk X.prog X.w X.K X.mg X.base CX k fI fd ps sp) (hr : Room (k + 1) X.A) (hg : Gl X x) (hm : X.mg x = some (.ref C)) (hb : Binds X.K fd ps ds) (hd : Vals dvs ds) (hx : Passes CX X E)
    (ha : PA X (e :: es) t) (hdb : (x == ("__debug__" : Str)) = false := by decide) (he : starEach (e :: es) X.env = (false, eval e X.env) :: starEach es X.env := by rfl) (hpl : (backTo pos (starEach es X.env)).any (·.1) = false := by rfl) :
    PE X (.Call (.Name x p) (e :: es) [] pos) (tMakeX C sp dvs E t) := by
  intro pins s σ H Q I h
  refine wpAny_Call_Name_kw (ld_glob I hg hm ?_ hdb)
  refine PySem.W.callWith_K (h₀ := X.base) I.ok.mod.kin M.kp (thn (ha pos pins s σ H _ I h) fun us s1 ⟨vs, H1, I1, r, hz, q⟩ => ⟨I1.kIn, ?_⟩) he hpl
  exact run_makeX M F hr hb hd hx I1 r hz q
structure XMk0 (K : PySem.W.Frag) (C : Addr) : Prop where
  xc : xclIn K C = true
  init : PySem.W.findIn K (.ref C) "__init__" = some (some (.builtin "ValueError.__init__"))
  kp : PySem.W.keepIn K (.ref C) = true
def tMakeX0 (C : Addr) : TE := fun _ H Q => ∀ a, H a = none → Q (.ref a) (upd H a (xN a C none))
end
end
end L2

namespace L2
open PyProof.Rows PySem PySem.Spec
section
variable {X : Cx} {pins : List (Addr × Obj)} {σ : St} {H : Hp} {s : Shared} {a C : Addr} {d : Option Addr} {e : Expr} {te : TE} {pos : Pos} {E : XK}
theorem raise_K {K : PySem.W.Frag} {M : Model} {A : Around} {EE : Value → Shared → Prop} {env : Env} {x : Sem Value} {Q : Flow → Shared → Prop} (hh : A.handled = none)
    (h : wpAny M A x (fun v s1 => ∃ e C d, v = .ref e ∧ K.In s1.heap ∧ xclIn K C = true ∧ XAt s1.heap e C d .none ∧ EE (.ref e) s1) EE s) : wpAny M A (raiseStmt env (some x) none) Q EE s := by
  unfold raiseStmt
  refine wpAny_bind (wpAny_mono h (fun v s1 h1 => ?_) fun _ _ z => z)
  obtain ⟨e, C, d, rfl, kin, hk, ⟨vs, sl, he, hsz, h1, h2⟩, hE⟩ := h1
  have x := (xcl_looks (M := M) kin hk).exc
  obtain ⟨_, _, _, _, _, _, _, _, _, _, _, _, _, _, _, _, hC⟩ := (xcl_looks (M := M) kin hk).obj
  rcases s1 with ⟨hp, g, dr, tk, os⟩
  (repeat first | with_reducible refine wpAny_loadPart_at he ?_ | with_reducible refine wpAny_loadPart_at hC ?_ | with_reducible refine PySem.W.Looks.here x ?_ | wp_step); rw [h1]
  refine wpAny_pure ?_
  rw [if_neg (by decide)]
  exact wpAny_pure (wpAny_raiseNew_none hh hE)
/-- what is raised here reaches what is wanted of exceptions -/
def Raises (X : Cx) (E : XK) : Prop := ∀ (pins : List (Addr × Obj)) (σ : St) (H : Hp) (s : Shared) (a C : Addr) (d : Option Addr), Inv X pins σ H s → H a = some (xO a C d) → XAt s.heap a C d .none → E (.ref C) (some a) H → X.xe (.ref a) s
theorem raisesX {P : Program} {w : World} {K : PySem.W.Frag} {mg : Str → Option Value} {base : Heap} {N : List Str} {qual : Str} {scope : Scope} {f : Addr} {cd : Value} {A : Around} {outer : List Env} {s : Shared} {H : Hp} {E : XK} : Raises (cxOf (CXE P w) P w K mg base N qual scope f cd A outer s H E) E :=
  fun _ _ _ _ _ _ _ I ha hx hE => I.leaves rfl rfl rfl ha hx hE
def tRaise (K : PySem.W.Frag) (E : XK) (te : TE) : TS := fun _ σ H => te σ H fun v H1 => ∃ a C d, v = .ref a ∧ xclIn K C = true ∧ H1 a = some (xN a C d) ∧ E (.ref C) (some a) (upd H1 a (xO a C d))
theorem ps_raise (hX : Raises X E) (hc : X.calm = true) (he : PE X e te) : PS X (.Raise (some e) none pos) (tRaise X.K E te) := by
  intro pins s σ H D I h
  rw [arm_exec_Raise]
  refine wpAny_bind (wpAny_standAt (raise_K (K := X.K) (I.ok.hd hc) ?_))
  refine wpAny_bind (thn (he pins s σ H _ I h) fun u s1 ⟨v, H1, I1, rv, a, C, d, ev, hk, ha, hE⟩ => wpAny_bind (wpAny_standAt (wpAny_pure ?_)))
  subst ev
  obtain rfl : u = Value.ref a := rv
  have hx := xN_at I1.hok ha
  obtain ⟨vs, sl, hg, r⟩ := id hx
  have I2 : Inv X pins σ (upd H1 a (xO a C d)) s1 := I1.write (x := a) (e := a) (h' := s1.heap) (t' := s1.toks) (by rw [ha]; exact True.intro) (.inl rfl) (fun b q _ z => z) ⟨_, hg⟩ (xO_ok hx)
  exact ⟨a, C, d, rfl, I1.kIn, hk, hx, hX pins σ _ s1 a C d I2 upd_same hx hE⟩
end
end L2

/-! ## try, in the layer (own text). -/
namespace L2
open PyProof.Rows PySem PySem.Spec
section
variable {X : Cx} {pins : List (Addr × Obj)} {σ : St} {H : Hp} {s : Shared} {a C : Addr} {d : Option Addr} {E Eh : XK}
/-- an exception came out of a call in this body -/
def Flown (X : Cx) (pins : List (Addr × Obj)) (σ : St) (Eh : XK) (ex : Value) (s' : Shared) : Prop := ∃ a C d T H', ex = .ref a ∧ Inv X pins σ H' s' ∧ Fly a C d X.s₀.heap.objs.size H' s'.heap T ∧ (∀ p ∈ X.pn ++ pins, p.1 ≠ T) ∧ Eh (.ref C) (some a) H'
theorem Inv.flown' {e : Value} {s' : Shared} (I : Inv X pins σ H s) (h : CXE X.prog X.w X.stack H s E e s') : Flown X pins σ E e s' := by
  obtain ⟨a, C, d, T, H', rfl, os, bare, un, hok, F, q⟩ := h
  refine ⟨a, C, d, T, H', rfl, I.call' os (ch := []) un hok bare (fun b z => absurd z (by simp)), ⟨F.at', F.tr, F.ne, Nat.le_trans I.sz F.new, F.free, F.is⟩, fun p hp => ?_, q⟩
  exact Nat.ne_of_lt (Nat.lt_of_lt_of_le (Heap.lt_size (I.pin p hp).1) F.new)
/-- an expression that may raise -/
def PEX (X : Cx) (Eh : XK) (e : Expr) (te : TE) : Prop := ∀ (pins : List (Addr × Obj)) (s : Shared) (σ : St) (H : Hp) (Q : VK), Inv X pins σ H s → te σ H Q → wpAny (model X.prog X.w) X.A (eval e X.env) (EP X pins σ Q) (Flown X pins σ Eh) s
section
variable {k : Nat} {f : Addr} {fd : FuncData} {ps : List Str} {sp : Sp} {dvs : List V} {ds : List Value} {x : Str} {p pos : Pos} {e : Expr} {es : List Expr} {t : TA}
theorem run_fnX {Q : VK} {us : List Value} {vs : List V} (F : FnOk X.prog X.w X.K X.mg X.base (CXE X.prog X.w) k f fd ps sp) (hr : Room k X.A) (hb : Binds X.K fd ps ds) (hd : Vals dvs ds)
    (I : Inv X pins σ H s) (r : Vals vs us) (h : sp (vs ++ dvs) H Q Eh) : wpAny (model X.prog X.w) X.A (call (.ref f) us) (EP X pins σ Q) (Flown X pins σ Eh) s := by
  have r2 : Vals (vs ++ dvs) (us ++ ds) := r.append hd
  have hl : (us ++ ds).length = ps.length := by rw [← r2.length]; exact F.len _ _ _ _ h
  refine wpAny_call (codeAny_mono (F.run X.A X.stack s H ⟨us, []⟩ (us ++ ds) (vs ++ dvs) Q Eh hr I.env0 (hb s us I.kIn hl) r2 h) fun r s' hq => ?_)
  cases r with
  | error e => exact I.flown' hq
  | ok fl =>
    cases fl with
    | ret u => exact I.after hq
    | next => exact False.elim hq
    | brk => exact False.elim hq
    | cont => exact False.elim hq
theorem pex_call (hxe : ∀ e s, X.xe e s → False) (F : FnOk X.prog X.w X.K X.mg X.base (CXE X.prog X.w) k f fd ps sp) (hr : Room k X.A) (hg : Gl X x) (hm : X.mg x = some (.ref f)) (hk : PySem.W.keepIn X.K (.ref f) = true) (hb : Binds X.K fd ps ds) (hd : Vals dvs ds)
    (ha : PA X (e :: es) t) (hdb : (x == ("__debug__" : Str)) = false := by decide) (he : starEach (e :: es) X.env = (false, eval e X.env) :: starEach es X.env := by rfl) (hpl : (backTo pos (starEach es X.env)).any (·.1) = false := by rfl) :
    PEX X Eh (.Call (.Name x p) (e :: es) [] pos) (tCall sp dvs Eh t) := by
  intro pins s σ H Q I h
  refine wpAny_Call_Name_kw (ld_glob I hg hm ?_ hdb)
  refine PySem.W.callWith_K (h₀ := X.base) I.ok.mod.kin hk (wpAny_mono (ha pos pins s σ H _ I h) (fun us s1 ⟨vs, H1, I1, r, q⟩ => ⟨I1.kIn, ?_⟩) fun e s z => (hxe e s z).elim) he hpl
  exact run_fnX F hr hb hd I1 r q
end
/-- what a passing exception writes keeps the state -/
theorem Inv.trn {h' : Heap} {ch : List Addr} {tb : Value} (I : Inv X pins σ H s) (t : Trn (frs X.stack) ch s.heap h') (ha : H a = some (xO a C d)) (hx : XAt h' a C d tb)
    (hc : ∀ b ∈ ch, b = a ∨ s.heap.objs.size ≤ b ∨ (H b = none ∧ X.s₀.heap.objs.size ≤ b ∧ (∃ fl, TAt s.heap b fl) ∧ ∀ p ∈ X.pn ++ pins, p.1 ≠ b)) : Inv X pins σ H { s with heap := h' } := by
  have hn : ∀ b ∈ ch, b = a ∨ H b = none := fun b hb => by
    rcases hc b hb with q | q | q
    · exact .inl q
    · exact .inr (I.hok.fresh q)
    · exact .inr q.1
  have hok : HOk X.prog X.w H h' := hok_trn I.hok t I.stkFree hn ha hx
  have nch : ∀ b o, s.heap.get? b = some o → H b = none → b ∉ ch.filter (fun b => decide (b ≠ a ∧ b < s.heap.objs.size)) → b ∉ ch := fun b o e n hb z => by
    refine hb (List.mem_filter.mpr ⟨z, decide_eq_true ⟨fun q => ?_, Heap.lt_size e⟩⟩)
    rw [q, ha] at n
    cases n
  have u : Un (frs X.stack) (ch.filter (fun b => decide (b ≠ a ∧ b < s.heap.objs.size))) H H s.heap h' := by
    refine ⟨fun b o e n hf hx => t.keep b o e hf (nch b o e n hx), fun b o e n hf hx => t.slot b o e hf (nch b o e n hx), fun _ _ _ n _ => n, fun b o e _ => t.there b o e, fun _ _ z => z, fun _ _ _ z => z, fun _ ps z => ⟨#[], by rw [z]; simp⟩⟩
  refine I.call' (s' := { s with heap := h' }) rfl u hok I.bare fun b hb => ?_
  obtain ⟨hb, hb2⟩ := List.mem_filter.mp hb
  have hb2 := of_decide_eq_true hb2
  rcases hc b hb with q | q | ⟨q1, q2, ⟨fl, oT, ts, q3, q4, q5⟩, q6⟩
  · exact absurd q hb2.1
  · exact absurd hb2.2 (Nat.not_lt.mpr q)
  · refine ⟨.inr q2, fun z => ?_, fun x c e z => ?_, q6⟩
    · obtain ⟨m, ⟨o, es, ep, ho, hd, _⟩, _⟩ := I.loc
      rw [← z, q3] at ho
      cases ho
      rw [q4] at hd
      cases hd
    · obtain ⟨v, hv⟩ := I.cell x c e
      rw [z] at hv
      obtain ⟨o, ho, hd⟩ := hv
      rw [q3] at ho
      cases ho
      rw [q4] at hd
      cases hd
/-- it is looked at here, then it is no longer in flight -/
theorem Inv.lands {M : Model} {A : Around} {EE : Value → Shared → Prop} {T : Addr} {fl : Value} {Q : Unit → Shared → Prop} (I : Inv X pins σ H s) (ha : H a = some (xO a C d)) (hx : XAt s.heap a C d (.ref T)) (ht : TAt s.heap T fl) (hne : T ≠ a) (hT : H T = none) (hn : X.s₀.heap.objs.size ≤ T) (hp : ∀ p ∈ X.pn ++ pins, p.1 ≠ T)
    (hQ : ∀ h', Inv X pins σ H { s with heap := h' } → Fly a C d X.s₀.heap.objs.size H h' T → Q () { s with heap := h' }) : wpAny M A (setFlight (.ref a) none) Q EE s := by
  refine land hx ht hne fun h' k1 k2 k3 => hQ h' (I.trn (k3 _) ha k1 fun b hb => ?_) ⟨k1, k2, hne, hn, hT, ha⟩
  rw [List.mem_singleton.mp hb]
  exact .inr (.inr ⟨hT, hn, ⟨fl, ht⟩, hp⟩)
theorem Inv.caught {M : Model} {EE : Value → Shared → Prop} {T : Addr} {Q : Unit → Shared → Prop} (I : Inv X pins σ H s) (hst : X.stack = X.env :: X.outer) (hf : X.env.frame = some X.env.locals) (F : Fly a C d X.s₀.heap.objs.size H s.heap T) (hp : ∀ p ∈ X.pn ++ pins, p.1 ≠ T)
    (hQ : ∀ h' T', Inv X pins σ H { s with heap := h' } → Fly a C d X.s₀.heap.objs.size H h' T' → (∀ p ∈ X.pn ++ pins, p.1 ≠ T') → Q () { s with heap := h' }) :
    wpAny M X.A (noteFrame (.ref a) X.env) (fun _ s2 => wpAny M X.A (setFlight (.ref a) none) Q EE s2) EE s := by
  have hfr := I.ok.frames
  have hst' := I.stack
  rw [hst] at hfr hst'
  refine note_next hfr hst' hf F.at' F.tr F.ne fun h1 T1 k1 k2 k3 k4 => ?_
  have hne : T1 ≠ a := Nat.ne_of_gt (Nat.lt_of_lt_of_le (I.hok.lt F.is) k1)
  have hT1 : H T1 = none := I.hok.fresh k1
  have k4' : Trn (frs X.stack) [a, T] s.heap h1 := by rw [hst]; exact k4
  have I1 : Inv X pins σ H { s with heap := h1 } := I.trn k4' F.is k2 fun b hb => by
    simp only [List.mem_cons, List.not_mem_nil, or_false] at hb; rcases hb with rfl | rfl
    · exact .inl rfl
    · exact .inr (.inr ⟨F.free, F.new, ⟨_, F.tr⟩, hp⟩)
  have hp1 : ∀ p ∈ X.pn ++ pins, p.1 ≠ T1 := fun p hp => Nat.ne_of_lt (Nat.lt_of_lt_of_le (Heap.lt_size (I.pin p hp).1) k1)
  exact I1.lands F.is k2 k3 hne hT1 (Nat.le_trans I.sz k1) hp1 fun h2 I2 F2 => hQ h2 T1 I2 F2 hp1
/-- within an except suite -/
def Cx.held (X : Cx) (a : Addr) : Cx := { X with A := X.A.mark (some (.ref a)), calm := false }
theorem Inv.held (I : Inv X pins σ H s) (a : Addr) : Inv (X.held a) pins σ H s :=
  ⟨⟨I.ok.mod, I.ok.kind, I.ok.glob, I.ok.blt, I.ok.above, I.ok.inj, I.ok.has, I.ok.cab, fun z => (nomatch z), I.ok.frames, I.ok.stk, I.ok.exf, I.ok.bs, I.ok.bsz, I.ok.noex, I.ok.exfs, I.ok.funs, I.ok.frf⟩, I.os, I.bare, I.base, I.loc, I.cell, I.free, I.freeC, I.pin, I.hok, I.len⟩
theorem Inv.unheld (ok : X.Ok) (I : Inv (X.held a) pins σ H s) : Inv X pins σ H s := ⟨ok, I.os, I.bare, I.base, I.loc, I.cell, I.free, I.freeC, I.pin, I.hok, I.len⟩
/-- a name of the frame is gone -/
theorem Inv.gone {h' : Heap} {t' : Nat} {i : Nat} {n : Str} {v : Option Value} {m : Str → Option Value} (I : Inv X pins σ H s) (hN : X.N.Nodup) (hi : X.N[i]? = some n) (hl : ∀ (i : Nat) (x : Str) (v : V), X.N[i]? = some x → σ[i]? = some (some v) → Vis X.env.scope x → ∃ u, RelV v u ∧ Look X.env s.heap m x u)
    (hn : h'.Ns X.env.locals (fun x => if x = n then v else m x)) (hs : Heap.SameBut X.env.locals s.heap h') : Inv X pins (σ.set i none) H { s with heap := h', toks := t' } := by
  have neL : ∀ b o, X.s₀.heap.get? b = some o → b ≠ X.env.locals := fun b o e => Nat.ne_of_lt (Nat.lt_of_lt_of_le (Heap.lt_size e) I.ok.above)
  have tr : ∀ b u, H b = some u → b ≠ X.env.locals := fun b u e z => by rw [z, I.free] at e; cases e
  have cl : ∀ x c, X.env.cells.lookup x = some c → c ≠ X.env.locals := fun x c e => I.cne x c e
  have hcell : ∀ c v, c ≠ X.env.locals → s.heap.IsCell c v → h'.IsCell c v := fun c v hc ⟨o, ho, hd⟩ => ⟨o, (hs.2 c hc).trans ho, hd⟩
  refine ⟨I.ok, I.os, I.bare, ⟨fun b o e nn hb hx => (hs.2 b (neL b o e)).trans (I.base.keep b o e nn hb hx), fun b o e nn hb hx => ?_, I.base.free, fun b o e hx => ?_, I.base.tups, I.base.frzs, I.base.tbls⟩, ⟨_, hn, fun j x w e1 e2 e3 => ?_⟩, fun x c e => ?_, I.free, I.freeC, fun p hp => ?_, fun b u e => ?_, by rw [List.length_set]; exact I.len⟩
  · obtain ⟨sl, q⟩ := I.base.slot b o e nn hb hx
    exact ⟨sl, (hs.2 b (neL b o e)).trans q⟩
  · obtain ⟨o', q⟩ := I.base.there b o e hx
    exact ⟨o', (hs.2 b (neL b o e)).trans q⟩
  · have hij : i ≠ j := fun z => by
      subst z
      rw [List.getElem?_set] at e2
      split at e2
      · split at e2 <;> cases e2
      · exact absurd rfl (by assumption)
    rw [List.getElem?_set_ne hij] at e2
    have hxn : x ≠ n := fun z => hij (nodup_ix hN hi (z ▸ e1))
    obtain ⟨u, r, l⟩ := hl j x w e1 e2 e3
    refine ⟨u, r, ?_⟩
    rcases l with ⟨k, l⟩ | ⟨k, c, e, z⟩
    · exact .inl ⟨k, by show (if x = n then v else m x) = some u; rw [if_neg hxn]; exact l⟩
    · exact .inr ⟨k, c, e, hcell c _ (cl x c e) z⟩
  · obtain ⟨w, z⟩ := I.cell x c e
    exact ⟨w, hcell c w (cl x c e) z⟩
  · obtain ⟨e, q, ne, r⟩ := I.pin p hp
    exact ⟨(hs.2 _ ne).trans e, q, ne, r⟩
  · refine (I.hok b u e).stay (fun c w hc q => (hs.2 c ?_).trans q) (fun _ q => q) fun _ _ q => q
    rcases hc with z | z
    · rw [z]; exact tr b u e
    · exact tr c _ z
theorem name_goes {M : Model} {A : Around} {EE : Value → Shared → Prop} {Q : Unit → Shared → Prop} {i : Nat} {n : Str} {pos : Pos} (I : Inv X pins σ H s) (hN : X.N.Nodup) (hi : X.N[i]? = some n) (hx : X.env.scope.names.lookup n = some .local) (hlen : i < σ.length)
    (h : ∀ s', Inv X pins (σ.set i none) H s' → Q () s') : wpAny M A (do bindName X.env n .none; unbindBehindTheSuite X.env n pos) Q EE s := by
  have hp : (X.env.scope.kind == .class || (X.env.scope.kind == .module && X.env.locals != X.env.globals)) = false := by rw [I.ok.kind]; rfl
  have hk : X.env.kindOf n = some .local := hx
  refine wpAny_bind (wpAny_bindName (store_ok I hN hi (.inl hx) (v := .non) (u := .none) rfl (fun s1 I1 => ?_) (.inr hx)))
  obtain ⟨m, hn, hl⟩ := id I1.loc
  obtain ⟨u, r, l⟩ := hl i n .non hi (by rw [List.getElem?_set_self hlen]) (.inl hx)
  have hm : m n = some u := by
    rcases l with ⟨_, l⟩ | ⟨k, _⟩
    · exact l
    · rw [hk] at k; rcases k with k | k <;> cases k
  unfold unbindBehindTheSuite
  refine wpAny_onRaise ?_
  unfold unbindName
  refine wpAny_bind (wpAny_point (wpAny_bind ?_)); unfold deleteName
  simp only [hk, hp]
  rw [if_neg (by decide)]
  refine wpAny_bind (wpAny_nsDel_keeps hn fun h' v hn' hs' => ?_)
  rw [hm]
  simp only [if_true, Option.isSome_some, Bool.not_true, Bool.false_eq_true, if_false]; refine wpAny_pure (wpAny_point (h _ ?_))
  have := I1.gone (t' := s1.toks) hN hi hl hn' hs'
  rw [List.set_set] at this
  exact this
theorem SP.goes {M : Model} {A : Around} {EE : Value → Shared → Prop} {D : Ends} {i : Nat} {n : Str} {pos : Pos} {f : Flow} (ok : X.Ok) (hN : X.N.Nodup) (hi : X.N[i]? = some n) (hx : X.env.scope.names.lookup n = some .local)
    (h : SP (X.held a) pins { nx := fun σ H => D.nx (σ.set i none) H, rt := D.rt, bk := fun σ H => D.bk (σ.set i none) H, ct := fun σ H => D.ct (σ.set i none) H } f s) :
    wpAny M A (do bindName X.env n .none; unbindBehindTheSuite X.env n pos) (fun _ s' => SP X pins D f s') EE s := by
  have hlen : ∀ {σ' : St} {H' : Hp} {s' : Shared}, Inv X pins σ' H' s' → i < σ'.length := fun J => by rw [J.len]; exact (List.getElem?_eq_some_iff.mp hi).1
  cases f with
  | next =>
    obtain ⟨σ', H', J, q⟩ := h
    have J := J.unheld ok
    exact name_goes J hN hi hx (hlen J) fun s' J' => ⟨_, H', J', q⟩
  | ret u =>
    obtain ⟨v, σ', H', J, r, q⟩ := h
    have J := J.unheld ok
    exact name_goes J hN hi hx (hlen J) fun s' J' => ⟨v, _, H', J', r, q⟩
  | brk =>
    obtain ⟨σ', H', J, q⟩ := h
    have J := J.unheld ok
    exact name_goes J hN hi hx (hlen J) fun s' J' => ⟨_, H', J', q⟩
  | cont =>
    obtain ⟨σ', H', J, q⟩ := h
    have J := J.unheld ok
    exact name_goes J hN hi hx (hlen J) fun s' J' => ⟨_, H', J', q⟩
/-- one except clause of an own class, with a name; the body is one expression -/
def tTry1 (K : PySem.W.Frag) (Eh : XK) (P : Addr) (i : Nat) (te : TE) (th : Addr → TS) : TS := fun D σ H => (te σ H fun _ H1 => D.nx σ H1) ∧ ∀ C a H', Eh (.ref C) (some a) H' → PySem.W.exmOne K (.ref C) (.ref P) = some true ∧
  th a { nx := fun σ H => D.nx (σ.set i none) H, rt := D.rt, bk := fun σ H => D.bk (σ.set i none) H, ct := fun σ H => D.ct (σ.set i none) H } (σ.set i (some (.ref a))) H'
theorem ps_try1 {P : Addr} {x n : Str} {i : Nat} {e : Expr} {te : TE} {th : Addr → TS} {b0 : Stmt} {suite : List Stmt} {p1 pc ph pos : Pos} (hxe : ∀ e s, X.xe e s → False) (hst : X.stack = X.env :: X.outer) (hf : X.env.frame = some X.env.locals)
    (hN : X.N.Nodup) (hi : X.N[i]? = some n) (hx : X.env.scope.names.lookup n = some .local) (hg : Gl X x) (hm : X.mg x = some (.ref P)) (he : PEX X Eh e te) (hs : ∀ a, PSs (X.held a) (b0 :: suite) (th a))
    (hdb : (x == ("__debug__" : Str)) = false := by decide) (hsw : swapsWith e none p1.line X.env = pure false := by rfl) :
    PS X (.Try [.Expr e p1] [.ExceptHandler (some (.Name x pc)) (some n) (b0 :: suite) ph] [] [] pos) (tTry1 X.K Eh P i te th) := by
  intro pins s σ H D I ⟨h1, h2⟩
  refine wpAny_Try_except ?_
  refine wpAny_execs_cons (wpAny_Expr_any (wpAny_mono (he pins s σ H _ I h1) (fun u s1 ⟨v, H1, I1, r1, q1⟩ => wpAny_execs_nil (wpAny_execs_nil ⟨σ, H1, I1, q1⟩)) fun ex s1 hfl => ?_) I.quiet hsw)
  obtain ⟨a, C, d, T, H1, rfl, I1, F, hp, hE⟩ := hfl
  obtain ⟨hex, hth⟩ := h2 C a H1 hE
  refine I1.caught hst hf F hp fun h2' T2 I2 F2 hp2 => ?_
  have J2 := I2.held a
  refine wpAny_handleBy_cons (codeAny_handlers_test (ld_glob J2 hg hm ?_ hdb)) (by intro q; cases q)
  obtain ⟨vs, sl, hg2, _⟩ := id F2.at'
  have LT : PySem.W.Looks (model X.prog X.w) h2' (typeOf (.ref a)) (.ref C) := (PySem.W.Looks.ld hg2).andThen .now
  refine (PySem.W.exm_one I2.kIn LT hex).here ?_
  show codeAny _ _ _ _ _
  refine codeAny_handlers_suite_as ?_; refine I2.lands F2.is F2.at' F2.tr F2.ne F2.free F2.new hp2 fun h3 I3 F3 => ?_
  refine store_ok I3 hN hi (.inl hx) (v := .ref a) (u := .ref a) rfl (fun s4 I4 => ?_) (.inr hx)
  refine wpAny_mono (hs a pins s4 _ H1 _ (I4.held a) hth) (fun f s5 hsp => ?_) (fun ex s5 hz => (hxe ex s5 hz).elim)
  exact SP.goes I4.ok hN hi hx hsp
end
end L2

/-! ## an exception's class and attributes (own text). -/
namespace L2
open PyProof.Rows PySem PySem.Spec
/-- a caught exception with its attributes -/
def XOk (H : Hp) (a C : Addr) (fs : List (Str × V)) : Prop := (fs = [] ∧ H a = some (xO a C none)) ∨ ∃ dx, H a = some (xO a C (some dx)) ∧ H dx = some (xD dx fs)
theorem XOk.look {P : Program} {w : World} {H : Hp} {h : Heap} {a C : Addr} {fs : List (Str × V)} (x : HOk P w H h) (q : XOk H a C fs) : ∃ ox od, PySem.W.InstAt h a ox C od ∧ ∀ f v, fs.lookup f = some v → ∃ o u, od = some o ∧ PySem.W.lookIn f o = some (some u) ∧ RelV v u := by
  rcases q with ⟨rfl, q⟩ | ⟨dx, q1, q2⟩
  · obtain ⟨tb, vs, sl, he, _⟩ := xO_at x q
    exact ⟨_, none, ⟨he, rfl, rfl, trivial⟩, fun f v e => by cases e⟩
  · obtain ⟨tb, vs, sl, he, _⟩ := xO_at x q1
    obtain ⟨mA, n1, r1, _⟩ := xD_at x q2
    obtain ⟨od, ho, hl⟩ := lookIn_ns n1
    refine ⟨_, some od, ⟨he, rfl, rfl, ho⟩, fun f v e => ?_⟩
    have r := r1 f
    rw [e] at r
    cases hm : mA f with
    | none => rw [hm] at r; exact False.elim r
    | some u => rw [hm] at r; exact ⟨od, u, rfl, by rw [hl, hm], r⟩
section
variable {prog : Program} {w : World} {A : Around} {E : Value → Shared → Prop} {s : Shared} {K : PySem.W.Frag} {x C : Addr} {ox : Obj} {od : Option Obj} {name : Str} {tk : Tok} {v : Value} {R : Result → Shared → Prop}
theorem xga_sub (X : K.In s.heap) (I : PySem.W.InstAt s.heap x ox C od) (hm : PySem.W.mroIn K C (.type "BaseException") = some true) : PySem.W.Looks (model prog w) s.heap (isInstance (.ref x) (.type "BaseException")) true := I.type.andThen (PySem.W.looks_mroIn X hm)
theorem xga_call (X : K.In s.heap) (I : PySem.W.InstAt s.heap x ox C od) (hm : PySem.W.mroIn K C (.type "BaseException") = some true)
    (h : wpAny (model prog w) A.in1 (Builtin.«object.__getattribute__» ⟨[.ref x, .str name tk], []⟩) (fun f s' => ∃ v, f = .done (.ret v) ∧ R (.ok (.ret v)) s') (fun _ _ => False) s) : codeAny (model prog w) A (.call (.builtin "BaseException.__getattribute__") ⟨[.ref x, .str name tk], []⟩) R s := by
  have fit := PySem.F.args_bexc_ga (.ref x) (.str name tk)
  have sub := xga_sub (prog := prog) (w := w) X I hm
  refine codeAny_call_builtin PySem.F.attr_ValueError.ga.plain PySem.F.entry_bexc_ga (PySem.W.check_slot (i := "BaseException.__getattribute__") (owner := "BaseException") (n := "__getattribute__") (by decide +kernel) (by decide +kernel) sub fit (wpAny_mono h (fun f s' z => ?_) fun _ _ z => z.elim))
  obtain ⟨v, rfl, z⟩ := z
  exact z
theorem xga_by {fill expr : Bool} {Q : Value → Shared → Prop} (X : K.In s.heap) (I : PySem.W.InstAt s.heap x ox C od) (hga : PySem.W.findIn K (.ref C) "__getattribute__" = some (some (.builtin "BaseException.__getattribute__"))) (hgn : PySem.W.findIn K (.ref C) "__getattr__" = some none) (hm : PySem.W.mroIn K C (.type "BaseException") = some true)
    (h : codeAny (model prog w) A (.call (.builtin "BaseException.__getattribute__") ⟨[.ref x, .str name tk], []⟩) (fun r s' => match r with | .ok (.ret v) => wpAny (model prog w) A (handedOut v) Q E s' | _ => False) s) :
    wpAny (model prog w) A (getAttrBy (.ref x) (.str name tk) fill expr) Q E s := by
  unfold getAttrBy
  refine wpAny_holding (wpAny_bind (I.type.here (wpAny_bind ((PySem.W.looks_findIn X hga).here ?_))))
  have hne : (Value.builtin "BaseException.__getattribute__" == Value.builtin "object.__getattribute__") = false := by decide +kernel
  dsimp only
  rw [hne, Bool.and_false, if_neg Bool.false_ne_true]
  unfold getAttrByItsOwn hookBefore
  rw [show onTheHeap (Value.ref C) = true from rfl, if_pos rfl]
  refine wpAny_bind ((PySem.W.looks_findIn X hgn).here (wpAny_bind (wpAny_attempt (wpAny_holding ?_))))
  unfold callGetattribute
  rw [if_neg (by cases expr <;> decide +kernel)]
  unfold boundAndCalled
  refine wpAny_bind (wpAny_of_eq (PySem.F.attr_ValueError.ga.bind (.ref x)) ?_)
  refine wpAny_call (codeAny_mono h fun r s' z => ?_)
  rcases r with e | (u | _ | _ | _) <;> first | exact z | exact z.elim
theorem xget_value {fill expr : Bool} {Q : Value → Shared → Prop} (X : K.In s.heap) (I : PySem.W.InstAt s.heap x ox C od) (hga : PySem.W.findIn K (.ref C) "__getattribute__" = some (some (.builtin "BaseException.__getattribute__"))) (hgn : PySem.W.findIn K (.ref C) "__getattr__" = some none) (hm : PySem.W.mroIn K C (.type "BaseException") = some true)
    (hf : PySem.W.findObj K C od name = some (.value v)) (hh : PySem.W.handedIn v = true) (h : Q v s) : wpAny (model prog w) A (getAttrBy (.ref x) (.str name tk) fill expr) Q E s := by
  refine xga_by X I hga hgn hm (xga_call X I hm ?_)
  obtain ⟨hp, g, d, t, os⟩ := s
  unfold Builtin.«object.__getattribute__»; refine wpAny_bind (wpAny_pure ?_)
  refine wpAny_bind (wpAny_pure (wpAny_bind ((I.type (M := model prog w)).at (wpAny_bind ((PySem.W.looks_find (M := model prog w) X I hf).at ?_)))))
  refine wpAny_pure ⟨_, rfl, (?_ : wpAny _ _ (handedOut v) _ _ _)⟩; rw [PySem.W.handedOut_of hh]
  exact wpAny_pure h
theorem xget_class {Q : Option Value → Shared → Prop} (X : K.In s.heap) (I : PySem.W.InstAt s.heap x ox C od) (hga : PySem.W.findIn K (.ref C) "__getattribute__" = some (some (.builtin "BaseException.__getattribute__"))) (hgn : PySem.W.findIn K (.ref C) "__getattr__" = some none) (hm : PySem.W.mroIn K C (.type "BaseException") = some true)
    (hf : PySem.W.findObj K C od "__class__" = some (.bind (.builtin "getset_descriptor.__get__") (.builtin "object.__class__"))) (ho : PySem.W.mroIn K C (.type "object") = some true) (h : Q (some (.ref C)) { s with toks := s.toks + 1 }) : wpAny (model prog w) A (getAttr? (.ref x) "__class__") Q E s := by
  unfold getAttr? getAttrBy?
  refine wpAny_bind (wpAny_mkText (wpAny_bind (wpAny_attempt ?_)))
  refine xga_by (s := { s with toks := s.toks + 1 }) X I hga hgn hm (xga_call (s := { s with toks := s.toks + 1 }) X I hm ?_)
  obtain ⟨hp, g, d, t, os⟩ := s
  unfold Builtin.«object.__getattribute__»; refine wpAny_bind (wpAny_pure ?_)
  refine wpAny_bind (wpAny_pure (wpAny_bind ((I.type (M := model prog w)).at (wpAny_bind ((PySem.W.looks_find (M := model prog w) X I hf).at ?_)))))
  dsimp only
  show wpAny _ _ (holding [Value.builtin "object.__class__"] (call (.builtin "getset_descriptor.__get__") [.builtin "object.__class__", .ref x, .ref C]) >>= ret) _ _ _
  refine wpAny_bind (wpAny_holding (wpAny_call (PySem.W.class_get (s := ⟨hp, g, d, t + 1, os⟩) (ox := ox) (od := od) X I ho ?_)))
  exact wpAny_pure ⟨_, rfl, PySem.W.handed_on rfl (wpAny_pure h)⟩
end
structure XTy (K : PySem.W.Frag) (C : Addr) : Prop where
  ga : PySem.W.findIn K (.ref C) "__getattribute__" = some (some (.builtin "BaseException.__getattribute__"))
  gn : PySem.W.findIn K (.ref C) "__getattr__" = some none
  bx : PySem.W.mroIn K C (.type "BaseException") = some true
  hd : PySem.W.hasDictIn K C = true
  ha : PySem.W.findIn K (.ref C) "__class__" = some (some (.builtin "object.__class__"))
  hn : PySem.W.specialIn K (.builtin "object.__class__") "__get__" = some (some (.builtin "getset_descriptor.__get__"))
  htk : PySem.W.takesIn K (.builtin "object.__class__") = some true
  hm : PySem.W.mroIn K C (.type "object") = some true
theorem kitx_exc {K : PySem.W.Frag} {x D : Addr} {ox : Obj} {od : Option Obj} (ty : XTy K D) : PySem.W.KitX K (.ref x) (.ref D) (fun h => PySem.W.InstAt h x ox D od) := by
  have hcl : ∃ c' d' cd' sl', K.lookup D = some ⟨c', d', .cls cd', sl'⟩ := by
    obtain ⟨cdD, hcD, _⟩ := PySem.W.any_some ty.hd
    unfold PySem.W.clsIn at hcD
    split at hcD
    · rename_i c' d' cd' sl' ho
      exact ⟨c', d', cd', sl', ho⟩
    · cases hcD
  have hf : PySem.W.findObj K D od "__class__" = some (.bind (.builtin "getset_descriptor.__get__") (.builtin "object.__class__")) := by
    obtain ⟨cd, hc, _⟩ := PySem.W.any_some ty.hd
    unfold PySem.W.findObj
    rw [hc, Option.bind_some, ty.ha, Option.bind_some]
    simp [ty.hn, ty.htk]
  refine ⟨fun _ _ _ I => I.type, fun M h X _ => ?_, fun h tp dd its n sl X htp => ?_, fun {prog w A E Q s} X I k => ?_⟩
  · obtain ⟨c', d', cd', sl', ho⟩ := hcl
    intro A' Q' E' s' k q
    unfold isType loadHead; exact wpAny_bind (wpAny_loadPart (k _ _ (X _ _ ho)) (wpAny_pure q))
  · obtain ⟨c', d', cd', sl', ho⟩ := hcl
    refine Bool.eq_false_iff.mpr fun q => ?_; have e : D = tp := Value.ref.inj (beq_iff_eq.mp q)
    subst e; have z := (X _ _ ho).symm.trans htp
    cases z
  · exact xget_class X I ty.ga ty.gn ty.bx hf ty.hm k
section
variable {X : Cx} {K : PySem.W.Frag}
theorem call_isinstX (hK : X.K = K) : CallR X (.builtin "isinstance") (fun xs H Q => ∃ a C fs c b, xs = [.ref a, c] ∧ ((∃ n, c = .ty n) ∨ ∃ a, c = .ref a) ∧ XOk H a C fs ∧ XTy K C ∧ PySem.W.kitOne K (.ref C) (clsV c) = some b ∧ Q (.bl b) H) := by
  subst hK
  intro pins s σ H xs us Q I r h
  obtain ⟨a, C, fs, c, b, rfl, hc, hx, ty, hk, q⟩ := h
  obtain ⟨u, u', rfl, rx, rc⟩ := vals2 r
  have e : u' = clsV c := by
    rcases hc with ⟨n, rfl⟩ | ⟨a, rfl⟩
    · exact rc
    · exact rc
  subst e
  cases (show u = Value.ref a from rx)
  obtain ⟨ox, od, J, _⟩ := hx.look I.hok
  exact PySem.W.kia_one (kitx_exc ty) I.kIn J hk (fun z => nomatch z) fun tk => ⟨.bl b, H, I.tok _, rfl, q⟩
/-- e.f of a caught exception -/
def tXFld (K : PySem.W.Frag) (ta : TE) (f : Str) : TE := fun σ H Q => ta σ H fun x H1 => ∃ a C fs v, x = .ref a ∧ XOk H1 a C fs ∧ XTy K C ∧ NoAttr K C f ∧ fs.lookup f = some v ∧ Q v H1
theorem pe_xfld {e : Expr} {f : Str} {ta : TE} {pos : Pos} (hK : X.K = K) (he : PE X e ta) (hb : attributeBase e f X.env (eval e X.env) = eval e X.env) : PE X (.Attribute e f pos) (tXFld K ta f) := by
  subst hK
  intro pins s σ H Q I h
  refine attr_of hb (thn (he pins s σ H _ I h) fun u s1 ⟨x, H1, I1, rx, a, C, fs, v, ex, hx, ty, n, l, q⟩ => ?_)
  subst ex
  obtain rfl : u = Value.ref a := rx
  obtain ⟨ox, od, J, hl⟩ := hx.look I1.hok
  obtain ⟨o, u', rfl, lk, ru⟩ := hl f v l
  exact wpAny_bind (wpAny_mkText (xget_value (s := { s1 with toks := s1.toks + 1 }) I1.kIn J ty.ga ty.gn ty.bx (PySem.W.findObj_own ty.hd n rfl lk) (handed_of ru) ⟨v, H1, I1.tok _, ru, q⟩))
end
end L2

/-! ## defs that are called within an except suite (own text). -/
namespace L2
open PyProof.Rows PySem PySem.Spec
structure RoomN (k : Nat) (A : Around) : Prop where
  dp : A.depth + 3 * k + 5 < recursionLimit
  un : A.units + 16 * k + 200 < cLine
/-- a def's promise, wherever it is called -/
structure FnOkN (P : Program) (w : World) (K : PySem.W.Frag) (mg : Str → Option Value) (base : Heap) (CX : CXT) (k : Nat) (f : Addr) (fd : FuncData) (ps : List Str) (sp : Sp) : Prop where
  len : ∀ vs H Q E, sp vs H Q E → vs.length = ps.length
  run : ∀ (A : Around) (outer : List Env) (s : Shared) (H : Hp) (args : Args) (us : List Value) (vs : List V) (Q : VK) (E : XK), RoomN k A → Env0 P w K mg base A outer s H → BindsTo s fd args (ps.zip us) → Vals vs us → sp vs H Q E → codeAny (model P w) A (.call (.ref f) args) (CR CX outer P w H s Q E) s
section
variable {P : Program} {w : World} {K : PySem.W.Frag} {mg : Str → Option Value} {base : Heap} {CX : CXT}
/-- a body that asks nothing of what is handled around it -/
def Cx.any (X : Cx) : Cx := { X with calm := false, xe := fun _ _ => False }
section
variable {X : Cx} {pins : List (Addr × Obj)} {σ : St} {H : Hp} {s : Shared} {k : Nat} {f : Addr} {fd : FuncData} {ps : List Str} {sp : Sp} {dvs : List V} {ds : List Value} {x : Str} {p pos : Pos} {e : Expr} {es : List Expr} {t : TA}
end
end
end L2

/-! ## loops within an except suite (own text). -/
namespace L2
open PyProof.Rows PySem PySem.Spec
section
variable {prog : Program} {w : World} {A : Around} {E : Value → Shared → Prop} {s : Shared} {a e C : Addr} {d : Option Addr} {tb : Value} {oe : Obj} {vs : Array Value}
end
end L2

/-! ## a comprehension within an except suite (own text; comp_runH is comp_run of ours, over TurnH). -/
namespace L2
open PyProof.Rows PySem PySem.Spec
structure TurnH (aa : Addr) (P : Program) (w : World) (K : PySem.W.Frag) (tg : Expr) (J : It) (fp : List Addr) (it : Addr) (tn : Nat → Heap → Prop) : Prop where
  mem : it ∈ fp
  obj : ∀ i h, tn i h → ∀ b ∈ fp, ∃ o, h.get? b = some o ∧ ∀ v, o.data ≠ .cell v
  keep : ∀ i h h', tn i h → (∀ b ∈ fp, ∀ o, h.get? b = some o → h'.get? b = some o) → tn i h'
  item : ∀ (X : Cx), X.prog = P → X.w = w → X.K = K → X.A.handled = some (.ref aa) → ∀ (i : Nat) (pins : List (Addr × Obj)) (s : Shared) (σ : St) (H : Hp) (E : Value → Shared → Prop), Inv X pins σ H s → (∀ b ∈ fp, FpOk X pins H b) → tn i s.heap → J.go i H →
    wpAny (model P w) X.A (pyNext (.ref it)) (fun r s1 => ∃ u, r = some u ∧ wpAny (model P w) X.A (letOwnedTupleGo tg (.ref it) u) (fun _ s2 => ∃ x H', Inv X pins σ H' s2 ∧ RelV x u ∧ J.yld i H x H' ∧ tn (i + 1) s2.heap ∧ ∀ b ∈ fp, H' b = none) E s1) E s
  done : ∀ (X : Cx), X.prog = P → X.w = w → X.K = K → X.A.handled = some (.ref aa) → ∀ (i : Nat) (pins : List (Addr × Obj)) (s : Shared) (σ : St) (H : Hp) (E : Value → Shared → Prop), Inv X pins σ H s → (∀ b ∈ fp, FpOk X pins H b) → tn i s.heap → J.stop i H → wpAny (model P w) X.A (pyNext (.ref it)) (fun r s1 => r = none ∧ Inv X pins σ H s1) E s
  self : ∀ (A : Around) (i : Nat) (s : Shared) (Q : Value → Shared → Prop) (E : Value → Shared → Prop), tn i s.heap → Q (.ref it) s → wpAny (model P w) A (pyIter (.ref it)) Q E s
/-- a range, while the exception at aa is handled -/
def ItrH (aa : Addr) (lo : Int) (n : Nat) : It := ⟨fun i _ => i < n, fun i H x H' => H' = H ∧ x = .int (lo + i), fun i H => n ≤ i ∧ ∃ C d, H aa = some (xO aa C d)⟩
section
variable {X : Cx}
def PIH (X : Cx) (aa : Addr) (tg iter : Expr) (wi : TI) : Prop := ∀ (pins : List (Addr × Obj)) (s : Shared) (σ : St) (H : Hp) (R : It → Hp → Prop), Inv X pins σ H s → wi σ H R →
  wpAny (model X.prog X.w) X.A (eval iter X.env) (fun v s1 => wpAny (model X.prog X.w) X.A (pyIter v) (fun itv s2 => ∃ (it : Addr) (fp : List Addr) (tn : Nat → Heap → Prop) (J : It) (H' : Hp), itv = .ref it ∧ Inv X pins σ H' s2 ∧ TurnH aa X.prog X.w X.K tg J fp it tn ∧ tn 0 s2.heap ∧ (∀ b ∈ fp, FpOk X pins H' b) ∧ R J H') X.xe s1) X.xe s
def iRng1H (aa : Addr) (ta : TA) : TI := fun σ H R => ta σ H fun vs H1 => ∃ j : Int, vs = [.int j] ∧ -(2 ^ 62) ≤ j ∧ j < 2 ^ 62 ∧ R (ItrH aa 0 j.toNat) H1
end
end L2

namespace L2
open PySem PySem.Spec PyProof.Rows

/-! ### lists of pairs as tables -/
section
variable {κ : Type} [DecidableEq κ]
def valV (kvs : List (κ × V)) (k : κ) : Option V := (kvs.find? fun kv => decide (kv.1 = k)).map (·.2)
/-- in its place, or at the end -/
def putK (kvs : List (κ × V)) (k : κ) (v : V) : List (κ × V) :=
  if (kvs.any fun kv => decide (kv.1 = k)) = true then kvs.map (fun kv => if kv.1 = k then (kv.1, v) else kv) else kvs ++ [(k, v)]
def dropK (kvs : List (κ × V)) (k : κ) : List (κ × V) := kvs.filter fun kv => decide (kv.1 ≠ k)

theorem valV_pos {p : κ × V} {r : List (κ × V)} {k : κ} (e : p.1 = k) : valV (p :: r) k = some p.2 := by simp [valV, List.find?_cons, e]
theorem valV_neg {p : κ × V} {r : List (κ × V)} {k : κ} (e : ¬ p.1 = k) : valV (p :: r) k = valV r k := by simp [valV, List.find?_cons, e]
theorem valV_any (k : κ) : ∀ kvs : List (κ × V), (kvs.any fun kv => decide (kv.1 = k)) = (valV kvs k).isSome
  | [] => rfl
  | p :: r => by
    rw [List.any_cons]
    by_cases e : p.1 = k
    · simp only [valV_pos e, decide_eq_true e, Bool.true_or, Option.isSome_some]
    · rw [valV_neg e, decide_eq_false e, Bool.false_or]; exact valV_any k r
theorem length_putK (kvs : List (κ × V)) (k : κ) (v : V) : (putK kvs k v).length ≤ kvs.length + 1 := by
  unfold putK
  split
  · rw [List.length_map]; omega
  · rw [List.length_append, List.length_cons, List.length_nil]; omega
theorem putK_new {kvs : List (κ × V)} {k : κ} (v : V) (h : valV kvs k = none) : putK kvs k v = kvs ++ [(k, v)] := by
  unfold putK
  rw [valV_any, h]
  exact if_neg (by decide)

theorem RelO.isSome_eq {o : Option V} {u : Option Value} (r : RelO o u) : o.isSome = u.isSome := by
  cases o with
  | none => cases u with
    | none => rfl
    | some _ => exact (show False from r).elim
  | some _ => cases u with
    | none => exact (show False from r).elim
    | some _ => rfl
/-- raw tables of the same keys -/
theorem KV.val {kvs : List (κ × V)} {vs : List (κ × Value)} (r : KV kvs vs) (k : κ) : RelO (valV kvs k) (valueAt vs k) := by
  unfold KV at r
  induction r with
  | nil => exact True.intro
  | @cons p q ps qs h t ih =>
    obtain ⟨h1, h2⟩ := h
    by_cases e : p.1 = k
    · have e' : q.1 = k := h1.symm.trans e
      have b : valueAt (q :: qs) k = some q.2 := by simp [valueAt, List.find?_cons, e']
      rw [valV_pos e, b]; exact h2
    · have e' : ¬ q.1 = k := fun z => e (h1.trans z)
      have b : valueAt (q :: qs) k = valueAt qs k := by simp [valueAt, List.find?_cons, e']
      rw [valV_neg e, b]; exact ih
theorem KV.any {kvs : List (κ × V)} {vs : List (κ × Value)} (r : KV kvs vs) (k : κ) : (kvs.any fun kv => decide (kv.1 = k)) = vs.any fun kv => decide (kv.1 = k) := by
  unfold KV at r
  induction r with
  | nil => rfl
  | cons h t ih => rw [List.any_cons, List.any_cons, ih, h.1]
theorem KV.repl {kvs : List (κ × V)} {vs : List (κ × Value)} (r : KV kvs vs) (k : κ) {y : V} {u : Value} (ry : RelV y u) :
    KV (kvs.map fun kv => if kv.1 = k then (kv.1, y) else kv) (vs.map fun kv => if kv.1 = k then (kv.1, u) else kv) := by
  unfold KV at r ⊢
  induction r with
  | nil => exact .nil
  | @cons p q ps qs h t ih =>
    rw [List.map_cons, List.map_cons]
    refine .cons ?_ ih
    obtain ⟨h1, h2⟩ := h
    by_cases e : p.1 = k
    · rw [if_pos e, if_pos (h1.symm.trans e)]; exact ⟨h1, ry⟩
    · rw [if_neg e, if_neg (fun z => e (h1.trans z))]; exact ⟨h1, h2⟩
theorem KV.put {kvs : List (κ × V)} {vs : List (κ × Value)} (r : KV kvs vs) (k : κ) {y : V} {u : Value} (ry : RelV y u) : KV (putK kvs k y) (stored vs k u) := by
  unfold putK stored
  rw [r.any k]
  by_cases e : (vs.any fun kv => decide (kv.1 = k)) = true
  · rw [if_pos e, if_pos e]; exact r.repl k ry
  · rw [if_neg e, if_neg e]; exact Paired.snoc r ⟨rfl, ry⟩
theorem KV.length {kvs : List (κ × V)} {vs : List (κ × Value)} (r : KV kvs vs) : kvs.length = vs.length := Paired.length r
end


/-! ### a tracked dict, its keys ints and texts or tuples of these -/
theorem kV_is {P : Program} {w : World} {k : Key} {u : Value} (r : RelV (kV k) u) : (mixKind P w).is k u = true := by
  cases k with
  | inl i => obtain ⟨t, e⟩ := (show ∃ t, u = Value.int i t from r); subst e; exact mixKind_int P w i t
  | inr x => obtain ⟨t, e⟩ := (show ∃ t, u = Value.str x t from r); subst e; exact mixKind_str P w x t
theorem items_are {P : Program} {w : World} : ∀ {ks : List Key} {us : List Value}, Vals (ks.map kV) us → ItemsAre (mixKind P w) ks us
  | [], _, r => by rw [List.map_nil] at r; cases r; exact .nil
  | k :: ks, _, r => by
    rw [List.map_cons] at r
    cases r with
    | cons h t => exact .cons (kV_is h) (items_are t)

/-- raw entries of a dict with tuple keys -/
abbrev KT (H : Hp) : List (List Key × V) → List (List Key × Addr × Value) → Prop := Paired fun p q => p.1 = q.1 ∧ H q.2.1 = some (.tup (p.1.map kV)) ∧ RelV p.2 q.2.2
theorem KT.val {H : Hp} {kvs : List (List Key × V)} {xs : List (List Key × Addr × Value)} (r : KT H kvs xs) (k : List Key) : RelO (valV kvs k) ((atKey xs k).map (·.2)) := by
  induction r with
  | nil => exact True.intro
  | @cons p q ps qs h t ih =>
    obtain ⟨h1, _, h2⟩ := h
    by_cases e : p.1 = k
    · have e' : q.1 = k := h1.symm.trans e
      have b : atKey (q :: qs) k = some q.2 := by simp [atKey, List.find?_cons, e']
      rw [valV_pos e, b]; exact h2
    · have e' : ¬ q.1 = k := fun z => e (h1.trans z)
      have b : atKey (q :: qs) k = atKey qs k := by simp [atKey, List.find?_cons, e']
      rw [valV_neg e, b]; exact ih
theorem KT.repl {H : Hp} {kvs : List (List Key × V)} {xs : List (List Key × Addr × Value)} (r : KT H kvs xs) (k : List Key) {y : V} {u : Value} (ry : RelV y u) :
    KT H (kvs.map fun kv => if kv.1 = k then (kv.1, y) else kv) (xs.map (putAt k u)) := by
  induction r with
  | nil => exact .nil
  | @cons p q ps qs h t ih =>
    rw [List.map_cons, List.map_cons]
    refine .cons ?_ ih
    obtain ⟨h1, h2, h3⟩ := h
    unfold putAt
    by_cases e : p.1 = k
    · rw [if_pos e, if_pos (h1.symm.trans e)]; exact ⟨h1, h2, ry⟩
    · rw [if_neg e, if_neg (fun z => e (h1.trans z))]; exact ⟨h1, h2, h3⟩
theorem KT.put {H : Hp} {kvs : List (List Key × V)} {xs : List (List Key × Addr × Value)} (r : KT H kvs xs) (k : List Key) {b : Addr} {y : V} {u : Value} (hb : H b = some (.tup (k.map kV))) (ry : RelV y u) :
    KT H (putK kvs k y) (storedH xs k b u) := by
  have e : (kvs.any fun kv => decide (kv.1 = k)) = (atKey xs k).isSome := by
    rw [valV_any, (r.val k).isSome_eq, Option.isSome_map]
  unfold putK storedH
  rw [e]
  by_cases q : (atKey xs k).isSome = true
  · rw [if_pos q, if_pos q]; exact r.repl k ry
  · rw [if_neg q, if_neg q]; exact Paired.snoc r ⟨rfl, hb, ry⟩
theorem KT.keeps {H H' : Hp} {kvs : List (List Key × V)} {xs : List (List Key × Addr × Value)} (r : KT H kvs xs) (ht : ∀ b ys, H b = some (.tup ys) → H' b = some (.tup ys)) : KT H' kvs xs :=
  Paired.mapP r fun _ _ z => ⟨z.1, ht _ _ z.2.1, z.2.2⟩

section
variable {P : Program} {w : World} {H : Hp} {h : Heap} {a : Addr}
theorem rd_of {u : HO} (ok : HOk P w H h) (e : Rd H a u) : ObjOk P w H h a u := e.ok ok
theorem dk_rd {kvs : List (Key × V)} (ok : HOk P w H h) (e : Rd H a (.dK kvs)) : kvs.length ≤ sizeLine ∧ (a == sysModules) = false ∧ ∃ vs, KV kvs vs ∧ h.DictOf (mixKind P w) a vs :=
  show ObjOk P w H h a (.dK kvs) from rd_of ok e
theorem dk_of {kvs : List (Key × V)} (ok : HOk P w H h) (e : H a = some (.dK kvs)) : kvs.length ≤ sizeLine ∧ (a == sysModules) = false ∧ ∃ vs, KV kvs vs ∧ h.DictOf (mixKind P w) a vs := dk_rd ok (.inl e)
/-- a tracked tuple of ints and texts is a key -/
theorem key_of {ks : List Key} (ok : HOk P w H h) (e : H a = some (.tup (ks.map kV))) : (tupleKind (mixKind P w)).is h ks a := by
  obtain ⟨_, its, r, o, h1, h2, n, h3⟩ := (show ObjOk P w H h a (.tup (ks.map kV)) from ok a _ e)
  exact ⟨o, its.toArray, n, h1, h2, h3, by simpa using items_are r⟩
theorem dt_rd {kvs : List (List Key × V)} (ok : HOk P w H h) (e : Rd H a (.dT kvs)) : kvs.length ≤ sizeLine ∧ (a == sysModules) = false ∧
    ∃ xs, KT H kvs xs ∧ h.DictOfH (tupleKind (mixKind P w)) a xs := by
  obtain ⟨z, y, xs, r, o, es, ep, h1, h2, h3, h4, h5⟩ := (show ObjOk P w H h a (.dT kvs) from rd_of ok e)
  refine ⟨z, y, xs, r, o, es, ep, h1, h2, h3, h4, fun x hx => ?_, h5⟩
  have all : ∀ {l : List (List Key × V)} {m : List (List Key × Addr × Value)}, KT H l m → ∀ x ∈ m, (tupleKind (mixKind P w)).is h x.1 x.2.1 := by
    intro l m q
    induction q with
    | nil => intro x hx; exact nomatch hx
    | @cons p q ps qs hq t ih =>
      intro x hx
      rcases List.mem_cons.mp hx with e | hx
      · subst e
        exact key_of ok (by rw [← hq.1]; exact hq.2.1)
      · exact ih x hx
  exact all r x hx
theorem dt_of {kvs : List (List Key × V)} (ok : HOk P w H h) (e : H a = some (.dT kvs)) : kvs.length ≤ sizeLine ∧ (a == sysModules) = false ∧
    ∃ xs, KT H kvs xs ∧ h.DictOfH (tupleKind (mixKind P w)) a xs := dt_rd ok (.inl e)
end

/-- what the dict at a holds at the key y -/
def DGet (H : Hp) (a : Addr) (y : V) (r : Option V) : Prop :=
  (∃ kvs k, Rd H a (.dK kvs) ∧ y = kV k ∧ r = valV kvs k) ∨ ∃ kvs k b, Rd H a (.dT kvs) ∧ y = .ref b ∧ H b = some (.tup (k.map kV)) ∧ r = valV kvs k
/-- the heap behind a[y] = v -/
def DPut (H : Hp) (a : Addr) (y v : V) (H' : Hp) : Prop :=
  (∃ kvs k, H a = some (.dK kvs) ∧ y = kV k ∧ kvs.length < sizeLine ∧ H' = upd H a (.dK (putK kvs k v))) ∨
  ∃ kvs k b, H a = some (.dT kvs) ∧ y = .ref b ∧ H b = some (.tup (k.map kV)) ∧ kvs.length < sizeLine ∧ H' = upd H a (.dT (putK kvs k v))
theorem DGet.k {H : Hp} {a : Addr} {kvs : List (Key × V)} {k : Key} (e : H a = some (.dK kvs)) : DGet H a (kV k) (valV kvs k) := .inl ⟨kvs, k, .inl e, rfl, rfl⟩
theorem DPut.k {H : Hp} {a : Addr} {kvs : List (Key × V)} {k : Key} {v : V} (e : H a = some (.dK kvs)) (hl : kvs.length < sizeLine) : DPut H a (kV k) v (upd H a (.dK (putK kvs k v))) := .inl ⟨kvs, k, e, rfl, hl, rfl⟩
section
variable {X : Cx} {pins : List (Addr × Obj)} {σ : St} {H : Hp} {s : Shared} {a : Addr} {y v : V} {u r : Value} {o : Option V} {A : Around} {E : Value → Shared → Prop}

theorem Inv.big (I : Inv X pins σ H s) : sysModules < s.heap.objs.size := by
  have h : mainGlobals < s.heap.objs.size := (I.mod.glob.keeps I.bk).lt
  exact Nat.lt_trans (by decide) h

/-- y in d -/
theorem d_in {Q : Value → Shared → Prop} (hu : A.units + 1 < cLine) (I : Inv X pins σ H s) (g : DGet H a y o) (ry : RelV y u) (h : ∀ s', Inv X pins σ H s' → Q (.bool o.isSome) s') :
    wpAny (model X.prog X.w) A (compareOp .In u (.ref a)) Q E s := by
  rcases g with ⟨kvs, k, e, ey, l⟩ | ⟨kvs, k, b, e, ey, eb, l⟩
  · subst ey
    obtain ⟨z, hd, vs, rel, dd⟩ := dk_rd I.hok e
    refine wpAny_in_of (kV_is ry) hd dd.mapOf ?_
    rw [← (rel.val k).isSome_eq, ← l]
    exact h _ (I.tok _)
  · subst ey
    cases (show u = Value.ref b from ry)
    obtain ⟨z, hd, xs, rel, dd⟩ := dt_rd I.hok e
    refine wpAny_in_heap (tupleKind_room_in1 hu) (key_of I.hok eb) hd dd ?_
    have q := (rel.val k).isSome_eq
    rw [Option.isSome_map] at q
    rw [← q, ← l]
    exact h _ (I.tok _)
/-- a dict's object is replaced -/
theorem d_write {h' : Heap} {t' : Nat} {ob : HO} (I : Inv X pins σ H s) (mu : Mut (H a)) (hs : Heap.SameBut a s.heap h') (he : ∃ q, h'.get? a = some q) (new : ObjOk X.prog X.w (upd H a ob) h' a ob) :
    Inv X pins σ (upd H a ob) { s with heap := h', toks := t' } :=
  I.write (x := a) (e := a) mu (.inl rfl) (fun b q hb z => (hs.2 b hb).trans z) he new
theorem dk_new {P : Program} {w : World} {H' : Hp} {h' : Heap} {kvs : List (Key × V)} {vs : List (Key × Value)} (z : kvs.length ≤ sizeLine) (hd : (a == sysModules) = false) (rel : KV kvs vs) (dd : h'.DictOf (mixKind P w) a vs) :
    ObjOk P w H' h' a (.dK kvs) := ⟨z, hd, vs, rel, dd⟩
/-- d[y] = v -/
theorem d_setItem {H' : Hp} {Q : Unit → Shared → Prop} (hu : A.units + 1 < cLine) (I : Inv X pins σ H s) (g : DPut H a y v H') (ry : RelV y u) (rv : RelV v r) (h : ∀ s', Inv X pins σ H' s' → Q () s') :
    wpAny (model X.prog X.w) A (setItem (.ref a) u r) Q E s := by
  rcases g with ⟨kvs, k, e, ey, l, eH⟩ | ⟨kvs, k, b, e, ey, eb, l, eH⟩
  · subst ey eH
    obtain ⟨z, hd, vs, rel, dd⟩ := dk_of I.hok e
    have hz : vs.length ≤ sizeLine := by rw [← rel.length]; exact z
    have hl : (putK kvs k v).length ≤ sizeLine := by have := length_putK kvs k v; omega
    refine wpAny_setItem_pairs (hsz := hz) (kV_is ry) dd fun h' dd' hs => h _ ?_
    have he : ∃ q, h'.get? a = some q := let ⟨q, _, _, hq, _⟩ := dd'; ⟨q, hq⟩
    exact d_write I (by rw [e]; exact True.intro) hs he (dk_new hl hd (rel.put k rv) dd')
  · subst ey eH
    cases (show u = Value.ref b from ry)
    obtain ⟨z, hd, xs, rel, dd⟩ := dt_of I.hok e
    have hz : xs.length ≤ sizeLine := by rw [← Paired.length rel]; exact z
    have hl : (putK kvs k v).length ≤ sizeLine := by have := length_putK kvs k v; omega
    refine wpAny_setItem_heap (hsz := hz) (tupleKind_room_in1 hu) (key_of I.hok eb) dd fun h' dd' hs => h _ ?_
    obtain ⟨q, es, ep, hq, h2, h3, h4, _, h5⟩ := dd'
    refine d_write I (by rw [e]; exact True.intro) hs ⟨q, hq⟩ ⟨hl, hd, _, (rel.put k eb rv).keeps fun c ys ec => ?_, q, es, ep, hq, h2, h3, h4, h5⟩
    rw [upd_ne (ne_of ec e (fun z => nomatch z))]
    exact ec
end

section
variable {X : Cx} {pins : List (Addr × Obj)} {σ : St} {H : Hp} {s : Shared} {a : Addr} {kvs : List (Key × V)} {k : Key} {u : Value} {A : Around} {E : Value → Shared → Prop}
end


/-! ### readings and rules -/
/-- the element of a subscription, not a slice -/
def NoSl (i : Expr) : Prop := ∀ ov iv, subscripted i false ov iv = operate [ov, iv] (getItem ov iv)
/-- d[y] -/
def tDGet (td ty : TE) : TE := fun σ H Q => td σ H fun x H1 => ty σ H1 fun y H2 => ∃ a v, x = .ref a ∧ DGet H2 a y (some v) ∧ Q v H2
/-- y in d, y not in d -/
def tDIn (ty td : TE) : TE := fun σ H Q => ty σ H fun y H1 => td σ H1 fun x H2 => ∃ a o, x = .ref a ∧ DGet H2 a y o ∧ Q (.bl o.isSome) H2
def tDNotIn (ty td : TE) : TE := fun σ H Q => ty σ H fun y H1 => td σ H1 fun x H2 => ∃ a o, x = .ref a ∧ DGet H2 a y o ∧ Q (.bl (!o.isSome)) H2
/-- d[y] = v -/
def sDPut (td ty tv : TE) : TS := fun D σ H => tv σ H fun v H1 => td σ H1 fun x H2 => ty σ H2 fun y H3 => ∃ a H4, x = .ref a ∧ DPut H3 a y v H4 ∧ D.nx σ H4
/-- d[y] op= v -/
def sDAug (td ty tv : TE) (rd : V → V → Hp → VK → Prop) : TS := fun D σ H => td σ H fun x H1 => ty σ H1 fun y H2 => ∃ a v, x = .ref a ∧ DGet H2 a y (some v) ∧
  tv σ H2 fun y2 H3 => rd v y2 H3 fun z H4 => ∃ H5, DPut H4 a y z H5 ∧ D.nx σ H5
/-- del d[y] -/
def sDDel (td ty : TE) : TS := fun D σ H => td σ H fun x H1 => ty σ H1 fun y H2 => ∃ a kvs k, x = .ref a ∧ H2 a = some (.dK kvs) ∧ y = kV k ∧ (valV kvs k).isSome = true ∧ D.nx σ (upd H2 a (.dK (dropK kvs k)))

section
variable {X : Cx} {o i e value : Expr} {pos pos' tpos : Pos} {td ty tv : TE}
theorem pc_din (hu : X.A.units + 1 < cLine) (hi : PE X i ty) (ho : PE X o td) : PC X .In i o (tDIn ty td) := by
  intro pins s σ H Q I h
  refine thn (hi pins s σ H _ I h) fun iv s1 ⟨y, H1, I1, ry, q1⟩ => thn (ho pins s1 σ H1 _ I1 q1) fun u s2 ⟨x, H2, I2, rx, a, ov, ex, g, q2⟩ => ?_
  subst ex
  obtain rfl : u = Value.ref a := rx
  exact d_in hu I2 g ry fun s3 I3 => ⟨.bl ov.isSome, H2, I3, rfl, q2⟩
end


/-! ### displays -/
theorem dk_empty {P : Program} {w : World} {H : Hp} (h : Heap) (hb : sysModules < h.objs.size) : ObjOk P w H (h.push { cls := .type "dict", data := .dict #[] }) h.objs.size (.dK []) :=
  ⟨Nat.zero_le _, beq_eq_false_iff_ne.mpr (Ne.symm (Nat.ne_of_lt hb)), [], .nil, Heap.DictOf.new h⟩
/-- {}, to be a dict of the kind that is wanted -/
def tDNewK : TE := fun _ H Q => ∀ p, H p = none → Q (.ref p) (upd H p (.dK []))
def tDNewT : TE := fun _ H Q => ∀ p, H p = none → Q (.ref p) (upd H p (.dT []))
section
variable {X : Cx} {pos : Pos}
theorem pe_dnewK : PE X (.Dict [] [] pos) tDNewK := fun pins s σ H Q I h =>
  wpAny_Dict_empty ⟨.ref s.heap.objs.size, _, I.laid (a := s.heap.objs.size) (o := .dK []) (t' := s.toks) (fun _ _ q => Heap.get?_push_of_some _ q) (Nat.le_refl _) (dk_empty s.heap I.big), rfl, h _ (I.hok.fresh (Nat.le_refl _))⟩
end

/-- the pairs of a display, from the left -/
def tPairs : List (TE × TE) → St → Hp → (List (V × V) → Hp → Prop) → Prop
  | [], _, H, Q => Q [] H
  | (tk, tv) :: r, σ, H, Q => tk σ H fun x H1 => tv σ H1 fun y H2 => tPairs r σ H2 fun ps H3 => Q ((x, y) :: ps) H3
abbrev VV : List (V × V) → List (Value × Value) → Prop := Paired fun p q => RelV p.1 q.1 ∧ RelV p.2 q.2
def PPs (X : Cx) (pos : Pos) (keys : List (Option Expr)) (values : List Expr) (trs : List (TE × TE)) : Prop :=
  ∀ (pins : List (Addr × Obj)) (s : Shared) (σ : St) (H : Hp) (Q : List (V × V) → Hp → Prop), Inv X pins σ H s → tPairs trs σ H Q →
    wpAny (model X.prog X.w) X.A (evalPairs (pairTrees keys values X.env pos)) (fun vs s' => ∃ ps H', Inv X pins σ H' s' ∧ VV ps vs ∧ Q ps H') X.xe s
def mergeK (kvs more : List (Key × V)) : List (Key × V) := more.foldl (fun acc kv => putK acc kv.1 kv.2) kvs
/-- {k: v, ..} with keys ints and texts; the new dict stands empty while the pairs are made -/
def tDisp (trs : List (TE × TE)) : TE := fun σ H Q => ∀ p, H p = none → tPairs trs σ (upd H p (.dK [])) fun ps H2 => H2 p = some (.dK []) ∧ ∃ kvs : List (Key × V), ps = kvs.map (fun kv => (kV kv.1, kv.2)) ∧ kvs.length ≤ 15 ∧ Q (.ref p) (upd H2 p (.dK (mergeK [] kvs)))
/-! ### methods -/
/-- a method call o.m(e) of a built-in, with one argument: what must be seen of the text -/
structure M1 (X : Cx) (o : Expr) (m : Str) (apos : Pos) (e : Expr) (cpos : Pos) : Prop where
  base : attributeBase o m X.env (eval o X.env) = eval o X.env
  few : ((backTo cpos (starEach [e] X.env)).all (fun x => !x.1) && (backToKw cpos (keywordEach [] X.env)).all (fun x => x.1.isSome)
    && decide (([e] : List Expr).length + ([] : List Keyword).length + (if ([] : List Keyword).isEmpty then 0 else 1) < 30)) = true
  line : (apos.endLine == cpos.line) = true
  trees : backTo cpos (starEach [e] X.env) = [(false, eval e X.env)]
structure M2 (X : Cx) (o : Expr) (m : Str) (apos : Pos) (e f : Expr) (cpos : Pos) : Prop where
  base : attributeBase o m X.env (eval o X.env) = eval o X.env
  few : ((backTo cpos (starEach [e, f] X.env)).all (fun x => !x.1) && (backToKw cpos (keywordEach [] X.env)).all (fun x => x.1.isSome)
    && decide (([e, f] : List Expr).length + ([] : List Keyword).length + (if ([] : List Keyword).isEmpty then 0 else 1) < 30)) = true
  line : (apos.endLine == cpos.line) = true
  trees : backTo cpos (starEach [e, f] X.env) = [(false, eval e X.env), (false, eval f X.env)]

/-- a is a dict, whatever its keys -/
def IsD (H : Hp) (a : Addr) : Prop := (∃ kvs, Rd H a (.dK kvs)) ∨ ∃ kvs, Rd H a (.dT kvs)
section
variable {X : Cx} {pins : List (Addr × Obj)} {σ : St} {H : Hp} {s : Shared} {a : Addr} {y d : V} {u r : Value} {o : Option V} {A : Around} {E : Value → Shared → Prop}
end

def tDGet1 (td ty : TE) : TE := fun σ H Q => td σ H fun x H1 => ∃ a, x = .ref a ∧ IsD H1 a ∧ ty σ H1 fun y H2 => ∃ o, DGet H2 a y o ∧ Q (o.getD .non) H2
def tDGet2 (td ty tx : TE) : TE := fun σ H Q => td σ H fun x H1 => ∃ a, x = .ref a ∧ IsD H1 a ∧ ty σ H1 fun y H2 => tx σ H2 fun z H3 => ∃ o, DGet H3 a y o ∧ Q (o.getD z) H3
/-- d.pop(k): there; d.pop(k, x): there or not -/
def tDPop1 (td ty : TE) : TE := fun σ H Q => td σ H fun x H1 => ∃ a, x = .ref a ∧ IsD H1 a ∧ ty σ H1 fun y H2 => ∃ kvs k v, H2 a = some (.dK kvs) ∧ y = kV k ∧ valV kvs k = some v ∧ Q v (upd H2 a (.dK (dropK kvs k)))
def tDPop2 (td ty tx : TE) : TE := fun σ H Q => td σ H fun x H1 => ∃ a, x = .ref a ∧ IsD H1 a ∧ ty σ H1 fun y H2 => tx σ H2 fun z H3 => ∃ kvs k, H3 a = some (.dK kvs) ∧ y = kV k ∧
  (∀ v, valV kvs k = some v → Q v (upd H3 a (.dK (dropK kvs k)))) ∧ (valV kvs k = none → Q z H3)
section
variable {X : Cx} {o e f : Expr} {apos cpos : Pos} {td ty tx : TE}
end

/-! ### dict(d): a copy -/
section
variable {X : Cx} {pins : List (Addr × Obj)} {σ : St} {H : Hp} {s : Shared} {a : Addr} {kvs : List (Key × V)} {A : Around} {E : Value → Shared → Prop}
end


section
variable {X : Cx} {pins : List (Addr × Obj)} {σ : St} {H : Hp} {s : Shared} {a : Addr} {y : V} {u : Value} {A : Around} {E : Value → Shared → Prop}
end
end L2
namespace L2
open PySem PySem.Spec PyProof.Rows
section
variable {X : Cx}
end
/-! ### a dict's pairs: keys that differ -/
section
variable {κ : Type} [DecidableEq κ]
end
end L2

/-! ## Dicts with int and text keys: the rules with the heap as a letter (own text). -/
namespace L2
open PySem PySem.Spec PyProof.Rows
section
variable {X : Cx}
theorem ne_dnew {pos : Pos} : PE X (.Dict [] [] pos) (fun _ H Q => Nw H (.dK []) Q) := pe_dnewK.mono fun _ _ _ q => q.el
theorem nset_dict (hu : X.A.units + 1 < cLine) : PSet X (fun o i v H Q => ∃ a kvs k, o = .ref a ∧ i = kV k ∧ H a = some (.dK kvs) ∧ kvs.length < sizeLine ∧ Ch H a (.dK (putK kvs k v)) Q) := by
  intro pins s σ H o i v ov iv u Q I ro ri rv h
  obtain ⟨a, kvs, k, rfl, rfl, e, l, q⟩ := h
  cases ro
  exact d_setItem hu I (DPut.k e l) ri rv fun s' I' => ⟨_, I', q.el⟩
end
end L2

/-! ## set(xs) of a list of texts, and its len (own text). -/
namespace L2
open PyProof.Rows PySem PySem.Spec
section
variable {w : World} {A : Around} {E : Value → Shared → Prop} {s : Shared} {prog : Program}
end
/-- how many of the texts are new -/
def dcL : List Str → List Str → Nat
  | _, [] => 0
  | seen, z :: r => (if z ∈ seen then 0 else 1) + dcL (z :: seen) r
section
variable {w : World} {A : Around} {E : Value → Shared → Prop} {prog : Program}
theorem setOf_same {K : Type} [DecidableEq K] {knd : KeyKind prog w K} {h h' : Heap} {a it : Addr} {S : K → Bool} {n : Nat} (x : Heap.SetOf knd h a S n) (hb : Heap.SameBut it h h') (hne : a ≠ it) : Heap.SetOf knd h' a S n := by
  obtain ⟨o, es, ep, t, ho, r⟩ := x
  exact ⟨o, es, ep, t, (hb.2 a hne).trans ho, r⟩
theorem setOf_fn {K : Type} [DecidableEq K] {knd : KeyKind prog w K} {h : Heap} {a : Addr} {S S' : K → Bool} {n : Nat} (x : Heap.SetOf knd h a S n) (e : ∀ y, S' y = S y) : Heap.SetOf knd h a S' n := by
  have : S' = S := funext e
  rw [this]; exact x
/-- the texts are put in one by one -/
theorem set_fill {a it l : Addr} {items : Array Value} (hh : A.handled = none) (hia : it ≠ a) (hli : l ≠ it) (hla : l ≠ a) : ∀ (rest : List Str) (i : Nat) (s : Shared) (seen : List Str) (n : Nat) (R : Result → Shared → Prop), s.heap.IsListIter it l i → s.heap.IsList l items → items.size = i + rest.length → (∀ (j : Nat) (z : Str), rest[j]? = some z → ∃ t, items[i + j]? = some (.str z t)) →
    s.heap.SetOf (strKind prog w) a (fun y => decide (y ∈ seen)) n → n + rest.length < 1000 →
    (∀ h' tk S', (∀ b o, b ≠ it → b ≠ a → s.heap.get? b = some o → h'.get? b = some o) → h'.SetOf (strKind prog w) a S' (n + dcL seen rest) → R (.ok (.ret .none)) { s with heap := h', toks := tk }) →
    codeAny (model prog w) A (.builtin "set.update.loop" ⟨[.ref a, .ref it], []⟩) R s := by
  intro rest
  induction rest with
  | nil =>
    intro i s seen n R h1 h2 h3 h4 h5 h6 k
    refine codeAny_builtin F.entry_set_update_loop ?_
    show wpAny _ _ (pyNext (.ref it) >>= _) _ _ s
    refine wpAny_bind (wpAny_pyNext_list_end ?_ h1 h2 (by rw [Array.getElem?_eq_none_iff]; simp at h3; omega) fun h' hx => ?_)
    · exact hh
    · refine wpAny_pure (k h' s.toks (fun y => decide (y ∈ seen)) (fun b o hb _ e => hx b o hb e) ?_)
      obtain ⟨o, es, ep, t, ho, q⟩ := h5
      exact ⟨o, es, ep, t, hx _ _ (Ne.symm hia) ho, q⟩
  | cons z r ih =>
    intro i s seen n R h1 h2 h3 h4 h5 h6 k
    obtain ⟨t, ht⟩ := h4 0 z rfl
    refine codeAny_builtin F.entry_set_update_loop ?_
    show wpAny _ _ (pyNext (.ref it) >>= _) _ _ s
    refine wpAny_bind (wpAny_pyNext_list_item h1 h2 ht fun h' hi' hb => ?_)
    dsimp only
    unfold setAdd
    refine wpAny_bind (wpAny_holding (wpAny_holding (wpAny_bind ((strKind prog w).pyHash (strKind_is prog w z t) ?_))))
    have h5' := setOf_same h5 hb (Ne.symm hia)
    have hl' : h'.IsList l items := by
      obtain ⟨o, ho, q⟩ := h2
      exact ⟨o, (hb.2 l hli).trans ho, q⟩
    refine wpAny_setAddHashed_of (s := { s with heap := h', toks := s.toks + 1 }) (strKind_is prog w z t) rfl h5' (by simp only [List.length_cons] at h6; unfold scanBound; omega) fun h2' hb2 h52 => ?_
    refine wpAny_pure ⟨Code.quiet_builtin _ (by decide +kernel), ?_⟩
    have hl2 : h2'.IsList l items := by
      obtain ⟨o, ho, q⟩ := hl'
      exact ⟨o, (hb2.2 l hla).trans ho, q⟩
    have hi2 : h2'.IsListIter it l (i + 1) := by
      obtain ⟨o, ho, q⟩ := hi'
      exact ⟨o, (hb2.2 it hia).trans ho, q⟩
    have h53 : h2'.SetOf (strKind prog w) a (fun y => decide (y ∈ z :: seen)) (n + if z ∈ seen then 0 else 1) := by
      have e : (if decide (z ∈ seen) = true then n else n + 1) = n + if z ∈ seen then 0 else 1 := by by_cases q : z ∈ seen <;> simp [q]
      rw [← e]
      exact setOf_fn h52 fun y => by by_cases q : y = z <;> by_cases q' : y ∈ seen <;> simp [q, q']
    refine ih (i + 1) { s with heap := h2', toks := s.toks + 1 } (z :: seen) _ R hi2 hl2 (by simp only [List.length_cons] at h3; omega) (fun j y hj => ?_) h53 ?_ fun h3' tk S' q1 q2 => ?_
    · obtain ⟨t', ht'⟩ := h4 (j + 1) y (by simpa using hj)
      exact ⟨t', by rw [← ht']; congr 1; omega⟩
    · simp only [List.length_cons] at h6
      split <;> omega
    · refine k h3' tk S' (fun b o b1 b2 e => q1 b o b1 b2 ((hb2.2 b b2).trans ((hb.2 b b1).trans e))) ?_
      rw [show n + dcL seen (z :: r) = n + (if z ∈ seen then 0 else 1) + dcL (z :: seen) r by simp only [dcL]; omega]
      exact q2
set_option maxHeartbeats 1000001 in
theorem set1_init {s : Shared} {a l : Addr} {led : Bool} {items : Array Value} {zs : List Str} {Q : Fin → Shared → Prop} (hh : A.handled = none) (ha : s.heap.get? a = some { cls := .type "set", dict := none, data := .set #[] 0 (.fresh 0 0 led) }) (hl : s.heap.IsList l items) (hz : items.size = zs.length) (hi : ∀ (j : Nat) (z : Str), zs[j]? = some z → ∃ t, items[j]? = some (.str z t)) (hn : zs.length < 1000) (hla : l ≠ a)
    (h : ∀ h' tk S', (∀ b o, b ≠ a → s.heap.get? b = some o → h'.get? b = some o) → h'.SetOf (strKind prog w) a S' (dcL [] zs) → Q (.done (.ret .none)) { s with heap := h', toks := tk }) : wpAny (model prog w) A (Builtin.«set.__init__» ⟨[.ref a, .ref l], []⟩) Q E s := by
  have hT : Shared.TypeIs s (.ref a) "set" := ⟨_, ha, rfl⟩
  unfold Builtin.«set.__init__» noKeywords
  obtain ⟨ol, hol, hcl, nl, hdl⟩ := id hl
  have hTl : Shared.TypeIs s (.ref l) "list" := ⟨ol, hol, hcl⟩
  wp_walk
  refine wpAny_of_eq F.sub_list_set (wpAny_isInstance hTl F.sub_list_frozenset ?_)
  (rw [if_neg Bool.false_ne_true])
  refine wpAny_bind (wpAny_typeOf hTl ?_)
  rw [if_neg (by decide)]
  refine wpAny_bind (wpAny_pyIter_list hl ?_)
  generalize hoi : ({ cls := .type "list_iterator", data := .fields #[.ref l, .int 0 0] } : Obj) = oi
  show wpAny _ _ (runValue (.builtin "set.update.loop" ⟨[.ref a, .ref s.heap.objs.size], []⟩) >>= _) _ _ { s with heap := s.heap.push oi }
  have sa : a < s.heap.objs.size := Heap.lt_size ha
  have sl : l < s.heap.objs.size := Heap.lt_size hol
  have k0 : ∀ b o, s.heap.get? b = some o → (s.heap.push oi).get? b = some o := fun b o e => Heap.get?_push_of_some _ e
  refine wpAny_bind (wpAny_runValue (set_fill hh (Nat.ne_of_gt sa) (Nat.ne_of_lt sl) hla zs 0 { s with heap := s.heap.push oi } [] 0 _ ?_ ⟨ol, k0 _ _ hol, hcl, nl, hdl⟩ (by omega) (fun j z e => by simpa using hi j z e) ⟨_, #[], 0, _, k0 _ _ ha, ⟨rfl, rfl, rfl⟩, rfl, fun e he => by simp at he, fun y => by simp, by unfold scanBound; simp, rfl, rfl⟩ (by omega) fun h' tk S' q1 q2 => ?_))
  · exact ⟨oi, Heap.get?_push_size _ (by rw [← hoi]; rfl), by rw [← hoi], by rw [← hoi]; rfl⟩
  · refine wpAny_pure (wpAny_pure (h h' tk S' (fun b o hb e => q1 b o (Nat.ne_of_lt (Heap.lt_size e)) hb (k0 b o e)) ?_))
    rw [Nat.zero_add] at q2; exact q2
set_option maxHeartbeats 1000001 in
/-- what a call may come to: a value, or an exception -/
theorem wants_or {Q : Value → Shared → Prop} {E : Value → Shared → Prop} {r : Result} {s : Shared} (h : wants Q E r s) : (∃ v, r = .ok (.ret v) ∧ Q v s) ∨ ∃ e, r = .error e ∧ E e s := by
  rcases r with e | f
  · exact .inr ⟨e, rfl, h⟩
  · cases f <;> first | exact .inl ⟨_, rfl, h⟩ | exact h.elim
set_option maxHeartbeats 1000001 in
theorem call_setL {s : Shared} {l : Addr} {items : Array Value} {zs : List Str} {Q : Value → Shared → Prop} (hh : A.handled = none) (hl : s.heap.IsList l items) (hz : items.size = zs.length) (hi : ∀ (j : Nat) (z : Str), zs[j]? = some z → ∃ t, items[j]? = some (.str z t)) (hn : zs.length < 1000)
    (h : ∀ h' tk a S', s.heap.objs.size ≤ a → (∀ b o, s.heap.get? b = some o → h'.get? b = some o) → h'.SetOf (strKind prog w) a S' (dcL [] zs) → Q (.ref a) { s with heap := h', toks := tk }) : wpAny (model prog w) A (call (.type "set") [.ref l]) Q E s := by
  have C := F.called_set
  obtain ⟨_, _, m⟩ := C.mro
  obtain ⟨c1, c2, c3, c4, c5⟩ : _ ∧ _ ∧ _ ∧ _ ∧ _ := ⟨C.made, C.sub, C.notType, C.canCreate, F.typeCall_set_1 (.ref l)⟩
  have up : ∀ {o : Obj} {b : Addr} {u : Obj}, s.heap.get? b = some u → (s.heap.push o).get? b = some u := fun e => Heap.get?_push_of_some _ e
  have lo : ∀ {b : Addr} {u : Obj}, s.heap.get? b = some u → b ≠ s.heap.objs.size := fun e => Nat.ne_of_lt (Heap.lt_size e)
  obtain ⟨ol, gl, dl⟩ := hl
  refine wpAny_call (codeAny_of_tree (?_ : wpAny _ _ (callAny (.type "set") _) _ _ _))
  refine wpAny_pure ⟨Code.quiet_builtin _ (by decide +kernel), codeAny_builtin F.entry_type_call (Around.under_plain (weight_type_call_type "set" [.ref l] []) rfl ▸ ?_)⟩
  repeat any_goals first | assumption | wp_step
  refine codeAny_mono (code_set_new_1 _ (E := E) (Q₁ := fun v s1 => v = .ref s.heap.objs.size ∧ ∃ led, s1 = { s with heap := s.heap.push { cls := .type "set", data := .set #[] 0 (.fresh 0 0 led) } }) fun led => ⟨rfl, led, rfl⟩) fun r s1 hr => ?_
  rcases wants_or hr with ⟨_, rfl, rfl, led, rfl⟩ | ⟨_, rfl, he⟩
  · have g := Heap.get?_push_size s.heap (o := { cls := .type "set", data := .set #[] 0 (.fresh 0 0 led) }) rfl
    have ty : Shared.TypeIs { s with heap := s.heap.push _ } (.ref s.heap.objs.size) "set" := ⟨_, g, rfl⟩
    obtain ⟨c6, c7⟩ : _ ∧ _ := ⟨C.init.lookup, C.init.bind (.ref s.heap.objs.size)⟩
    repeat any_goals first | assumption | wp_step
    have run := set1_init (s := { s with heap := s.heap.push _ }) (prog := prog) (w := w) (A := A.in1.in1) (E := E) (Q := fun f s2 => f = .done (.ret .none) ∧ Q (.ref s.heap.objs.size) s2) hh g ⟨ol, up gl, dl⟩ hz hi hn (lo gl) fun h' tk S' k1 k2 => ⟨rfl, h h' tk _ S' (Nat.le_refl _) (fun b u e => k1 b u (lo e) (up e)) k2⟩
    refine codeAny_mono (codeAny_call_builtin (R := wants (fun v s2 => v = .none ∧ Q (.ref s.heap.objs.size) s2) E) C.init.plain F.entry_set_init (check_set_init_1 ty (thn run fun f s2 ⟨e, q⟩ => e ▸ ⟨rfl, q⟩))) fun r s2 hr => ?_
    rcases wants_or hr with ⟨_, rfl, rfl, q⟩ | ⟨_, rfl, he⟩
    · repeat any_goals first | assumption | wp_step
    · exact he
  · exact he
end
end L2
namespace L2
open PyProof.Rows PySem PySem.Spec
/-- a set of n texts -/
def stO (P : Program) (w : World) (a : Addr) (n : Nat) : HO := .ext fun h => ∃ S, Heap.SetOf (strKind P w) h a S n
theorem stO_ok {P : Program} {w : World} {H : Hp} {h : Heap} {a : Addr} {S : Str → Bool} {n : Nat} (x : Heap.SetOf (strKind P w) h a S n) : ObjOk P w H h a (stO P w a n) := by
  have x' := x
  obtain ⟨o, es, ep, t, ho, r⟩ := x'
  refine ⟨⟨S, x⟩, ⟨o, ho⟩, fun h1 h2 ⟨S', o', es', ep', t', ho', r'⟩ k => ⟨S', o', es', ep', t', k _ ho', r'⟩⟩
theorem stO_at {P : Program} {w : World} {H : Hp} {h : Heap} {a : Addr} {n : Nat} (x : HOk P w H h) (q : H a = some (stO P w a n)) : ∃ S, Heap.SetOf (strKind P w) h a S n := (x a _ q).1
section
variable {X : Cx} {K : PySem.W.Frag}
theorem ncK_set (hK : X.K = K) (hc : X.calm = true) : CallR X (.type "set") (fun xs H Q => ∃ p zs, xs = [.ref p] ∧ SqL K H p (zs.map V.str) ∧ zs.length < 1000 ∧ ∀ a, H a = none → Q (.ref a) (upd H a (stO X.prog X.w a (dcL [] zs)))) := by
  subst hK
  (intro pins s σ H xs us Q I r h)
  obtain ⟨p, zs, rfl, hl, hn, k⟩ := h
  (obtain ⟨u, rfl, ru⟩ := vals1 r)
  cases ru
  obtain ⟨its, rv, ⟨o, n, ho, hcl, _, hd⟩, _⟩ := I.list hl
  have hz : its.length = zs.length := by rw [← rv.length, List.length_map]
  refine call_setL (zs := zs) (I.ok.hd hc) ⟨o, ho, hcl, n, hd⟩ (by simpa using hz) (fun j z e => ?_) hn fun h' tk a S' q1 q2 q3 => ?_
  · obtain ⟨u, e1, ⟨t, rfl⟩⟩ := rv.get (i := j) (x := .str z) (by rw [List.getElem?_map, e]; rfl)
    exact ⟨t, by simpa using e1⟩
  · exact ⟨.ref a, _, I.laid (a := a) (o := stO X.prog X.w a (dcL [] zs)) (h' := h') (t' := tk) q2 q1 (stO_ok q3), rfl, k a (I.hok.fresh q1)⟩
theorem call_lenS : CallR X (.builtin "len") (fun xs H Q => ∃ a n, xs = [V.ref a] ∧ H a = some (stO X.prog X.w a n) ∧ Q (.int (n : Nat)) H) := by
  (intro pins s σ H xs us Q I r h)
  obtain ⟨a, n, rfl, ha, q⟩ := h
  (obtain ⟨u, rfl, ru⟩ := vals1 r)
  cases ru
  obtain ⟨S, o, es, ep, t, ho, hex, hd, _, _, hb, hf, hn⟩ := stO_at I.hok ha
  refine call_len_set ho hex hd hf (by have : es.size < 4096 := hb; omega) ?_
  rw [hn]
  exact ⟨.int n, H, I.tok _, ⟨_, rfl⟩, q⟩
end
end L2
namespace L2
theorem dcL_le : ∀ (seen zs : List PySem.Str), dcL seen zs ≤ zs.length
  | _, [] => Nat.le_refl _
  | seen, z :: r => by
    have := dcL_le (z :: seen) r
    simp only [dcL, List.length_cons]
    split <;> omega
theorem dcL_iff : ∀ (seen zs : List PySem.Str), dcL seen zs = zs.length ↔ zs.Nodup ∧ ∀ z ∈ zs, z ∉ seen
  | _, [] => by simp [dcL]
  | seen, z :: r => by
    have h1 := dcL_le (z :: seen) r
    have h2 := dcL_iff (z :: seen) r
    simp only [dcL, List.length_cons, List.nodup_cons, List.mem_cons]
    by_cases q : z ∈ seen
    · rw [if_pos q]
      constructor
      · intro e; omega
      · rintro ⟨_, h⟩; exact absurd q (h z (.inl rfl))
    · rw [if_neg q]
      constructor
      · intro e
        obtain ⟨a, b⟩ := h2.mp (by omega)
        refine ⟨⟨fun hz => (b z hz) (by simp), a⟩, ?_⟩
        rintro y (rfl | hy)
        · exact q
        · exact fun hs => b y hy (List.mem_cons_of_mem _ hs)
      · rintro ⟨⟨a, b⟩, c⟩
        have := h2.mpr ⟨b, fun y hy hs => ?_⟩
        · omega
        · rcases List.mem_cons.mp hs with rfl | hs
          · exact a hy
          · exact c y (.inr hy) hs
theorem dcL_nd (zs : List PySem.Str) : decide (((dcL [] zs : Nat) : Int) = (zs.length : Nat)) = decide zs.Nodup := by
  have := dcL_iff [] zs
  rw [decide_eq_decide]
  constructor
  · intro e; exact (this.mp (by omega)).1
  · intro e; have := this.mpr ⟨e, fun _ _ h => by cases h⟩; omega
end L2

set_option maxRecDepth 100000
namespace My
open PySem PySem.Spec PyProof.Rows L2
seal PE PT PW PA PS PSs PI PG PGs PO PC PIH PEX
local macro_rules | `(tactic| walk_at "lk") => `(tactic| first | assumption | exact upd_same | exact lookS (by assumption) (by walk_at "sm") | (refine Same.look (by assumption) ?_; walk_at "lk"))
local macro_rules | `(tactic| walk_at "sq") => `(tactic| first | assumption | exact SqL.of (by walk_at "lk") | exact seqS (by assumption) (by walk_at "sm"))
local macro_rules | `(tactic| walk_at "sqT") => `(tactic| first | assumption | exact SqT.of (by walk_at "lk") | exact seqTS (by assumption) (by walk_at "sm"))
local macro_rules | `(tactic| walk_at "sm") => `(tactic| first | assumption | exact Same.refl _ | (refine Same.trans ?_ (by assumption); walk_at "sm"))
local macro_rules | `(tactic| walk_at "sz") => `(tactic| first | with_reducible assumption | with_reducible exact one_len | ((with_reducible apply cat_len) <;> walk_at "sz") | ((with_reducible apply slice_len); walk_at "sz") | with_reducible exact len_self _)
local macro_rules | `(tactic| walk_at "num") => `(tactic| first | decide +kernel | omega | (simp only [List.length_cons, List.length_nil]; omega))
local macro_rules | `(tactic| walk_at "lsz") => `(tactic| first
  | ((with_reducible apply cat_ok); (focus walk_at "sz"); (focus walk_at "sz"); walk_at "num")
  | ((with_reducible apply line_small); first | decide +kernel | (simp only [List.length_cons, List.length_nil, List.length_map, List.length_append]; omega))
  | ((with_reducible apply small_of); (focus walk_at "sz"); walk_at "num"))
local macro_rules | `(tactic| walk_at "ar") => `(tactic| first
  | walk_at "lsz"
  | omega
  | (refine And.intro ?_ ?_ <;> omega)
  | (refine Or.inl (And.intro ?_ ?_) <;> omega)
  | (refine Or.inr (And.intro ?_ ?_) <;> omega)
  | decide +kernel
  | (show (0 : Int) < _; decide +kernel)
  | (show (0 : Int) < _; omega)
  | (refine And.intro ?_ (And.intro ?_ ?_) <;> decide +kernel))
local macro_rules | `(tactic| walk_at "lsl") => `(tactic| first
  | exact small1000 (by simp only [List.length_cons, List.length_nil, List.length_map, List.length_append]; omega)
  | exact small1000 (by omega))
local macro_rules | `(tactic| walk_at "own") => `(tactic| fail)
local macro_rules | `(tactic| walk_at "fld") => `(tactic| fail)
local macro_rules | `(tactic| walk_at "r1") => `(tactic| (fail_if_success (refine Exists.intro (α := Nat → Nat → L2.St → Hp → Prop) ?_ ?_)); first
  | refine ⟨_, rfl, ?_⟩
  | refine ⟨_, (by walk_at "fld" : Fld _ _ _ _ _), ?_⟩
  | refine ⟨_, _, rfl, rfl, ?_⟩
  | refine ⟨_, _, _, _, rfl, rfl, by walk_at "sq", atI_int' (by walk_at "num") (by walk_at "num"), ?_⟩
  | refine ⟨_, _, _, _, rfl, rfl, by walk_at "sq", atI_str' (by walk_at "num") (by walk_at "num"), ?_⟩
  | refine ⟨_, _, _, _, rfl, rfl, by walk_at "sqT", rfl, ?_⟩
  | refine ⟨_, _, rfl, .inr (by walk_at "sqT"), rfl, rfl, ?_⟩
  | refine ⟨_, _, rfl, .inl (by walk_at "sq"), rfl, rfl, ?_⟩
  | refine ⟨_, _, _, rfl, rfl, by walk_at "lsz", atI_sign (by omega) (by omega), ?_⟩
  | refine ⟨_, _, _, rfl, rfl, by walk_at "lk", by walk_at "lsl", ?_⟩
  | refine ⟨_, _, rfl, by walk_at "sq", ?_⟩
  | refine ⟨_, _, rfl, by walk_at "sqT", rfl, ?_⟩
  | (refine And.intro ?_ ?_; · (apply Exists.intro; walk_at "sq"))
  | (refine And.intro (Or.inl (And.intro rfl ?_)) ?_; · (apply Exists.intro; walk_at "sq"))
  | refine ⟨_, _, rfl, ?_⟩
  | refine ⟨_, _, _, rfl, ?_⟩
  | refine And.intro rfl ?_
  | (refine And.intro ?_ ?_; · assumption)
  | refine ⟨_, _, .type "bool", true, rfl, .inl ⟨_, rfl⟩, TyOf.bl _, kit_same _ _, ?_⟩
  | refine ⟨_, _, .type "str", true, rfl, .inl ⟨_, rfl⟩, TyOf.str _, kit_same _ _, ?_⟩
  | refine ⟨_, _, .type "int", true, rfl, .inl ⟨_, rfl⟩, TyOf.int _, kit_same _ _, ?_⟩
  | refine ⟨_, _, .type "list", true, rfl, .inl ⟨_, rfl⟩, TyOf.lst (by walk_at "lk"), kit_same _ _, ?_⟩
  | (refine And.intro ?_ ?_; · walk_at "ar")
  | refine iteF ?_
  | refine iteT ?_
  | refine iteNS rfl ?_)
local macro_rules | `(tactic| walk_at "rd") => `(tactic| repeat (first | walk_at "own" | walk_at "r1"))
local macro_rules | `(tactic| walk_at "rdi") => `(tactic| repeat (first | walk_at "own" | walk_at "r1" | ((show Nw _ _ _); intro _ _ _ _ _)))
set_option genInjectivity false
set_option genSizeOf false
def top (i : Nat) : Stmt := PySem.Challenge.pw_pactway_k27_deep_and_many.main.body.getD i (.Pass ⟨0, 0, 0, 0⟩)
abbrev s_NoText_init : Stmt := inClass (top 3) 0
abbrev s_Clause_init : Stmt := inClass (top 15) 0
abbrev s_Clause_number : Stmt := inClass (top 15) 6
abbrev s_Duty_init : Stmt := inClass (top 16) 0
abbrev s_Duty_number : Stmt := inClass (top 16) 4
abbrev s_Ban_init : Stmt := inClass (top 18) 0
abbrev s_Power_init : Stmt := inClass (top 19) 0
abbrev s_Let_init : Stmt := inClass (top 21) 0
abbrev s_Part_init : Stmt := inClass (top 22) 0
abbrev s_Pact_init : Stmt := inClass (top 23) 0
abbrev s_v_is_name : Stmt := top 30
abbrev s_v_number_of : Stmt := top 31
abbrev s_v_written_with : Stmt := top 32
abbrev s_v_names_of : Stmt := top 36
abbrev s_v_are_names : Stmt := top 37
abbrev s_v_room_of : Stmt := top 38
abbrev s_v_let_of : Stmt := top 39
abbrev s_v_part_of : Stmt := top 40
abbrev s_v_clause_of : Stmt := top 41
abbrev s_v_fits_form : Stmt := top 42
abbrev s_v_fits_place : Stmt := top 43
abbrev s_v_read : Stmt := top 50
abbrev s_v_read_names : Stmt := top 51
abbrev s_v_told_once : Stmt := top 52
abbrev s_v_read_rooms : Stmt := top 53
abbrev s_v_read_whole : Stmt := top 54
abbrev s_Body_init : Stmt := inClass (top 55) 0
abbrev s_Body_many_open : Stmt := inClass (top 55) 1
abbrev s_Body_takes : Stmt := inClass (top 55) 2
abbrev s_Body_takes_done : Stmt := inClass (top 55) 3
abbrev s_Body_takes_head : Stmt := inClass (top 55) 4
abbrev s_Body_takes_clause : Stmt := inClass (top 55) 5
abbrev s_Body_put_in : Stmt := inClass (top 55) 6
abbrev s_Body_closed : Stmt := inClass (top 55) 7
abbrev s_w_cell_at : Stmt := top 57
abbrev s_w_mix : Stmt := top 58
abbrev s_w_name : Stmt := top 59
abbrev s_w_no_text : Stmt := top 60
abbrev s_w_refused_at : Stmt := top 61
abbrev s_w_nest : Stmt := top 62
abbrev s_w_header_rows : Stmt := top 63
abbrev s_w_first_beyond : Stmt := top 64
abbrev s_v_law : Stmt := top 65
/-- a def of the text, its arguments, its place in the module -/
structure Def (K : PySem.W.Frag) (mg : Str → Option Value) (x : Str) (st : Stmt) (ps : List Str) (f : Addr) (fd : FuncData) : Prop where
  fn : Fun K x x st f fd
  bd : Binds K fd ps []
  mg : mg x = some (.ref f)
/-- a def of a class -/
structure MDef (K : PySem.W.Frag) (x q : Str) (st : Stmt) (ps : List Str) (f : Addr) (fd : FuncData) : Prop where
  fn : Fun K x q st f fd
  bd : Binds K fd ps []
structure Adr where
  f_NoText_init : Addr
  d_NoText_init : FuncData
  f_Clause_init : Addr
  d_Clause_init : FuncData
  f_Clause_number : Addr
  d_Clause_number : FuncData
  f_Duty_init : Addr
  d_Duty_init : FuncData
  f_Duty_number : Addr
  d_Duty_number : FuncData
  f_Ban_init : Addr
  d_Ban_init : FuncData
  f_Power_init : Addr
  d_Power_init : FuncData
  f_Let_init : Addr
  d_Let_init : FuncData
  f_Part_init : Addr
  d_Part_init : FuncData
  f_Pact_init : Addr
  d_Pact_init : FuncData
  f_v_is_name : Addr
  d_v_is_name : FuncData
  f_v_number_of : Addr
  d_v_number_of : FuncData
  f_v_written_with : Addr
  d_v_written_with : FuncData
  f_v_names_of : Addr
  d_v_names_of : FuncData
  f_v_are_names : Addr
  d_v_are_names : FuncData
  f_v_room_of : Addr
  d_v_room_of : FuncData
  f_v_let_of : Addr
  d_v_let_of : FuncData
  f_v_part_of : Addr
  d_v_part_of : FuncData
  f_v_clause_of : Addr
  d_v_clause_of : FuncData
  f_v_fits_form : Addr
  d_v_fits_form : FuncData
  f_v_fits_place : Addr
  d_v_fits_place : FuncData
  f_v_read : Addr
  d_v_read : FuncData
  f_v_read_names : Addr
  d_v_read_names : FuncData
  f_v_told_once : Addr
  d_v_told_once : FuncData
  f_v_read_rooms : Addr
  d_v_read_rooms : FuncData
  f_v_read_whole : Addr
  d_v_read_whole : FuncData
  f_Body_init : Addr
  d_Body_init : FuncData
  f_Body_many_open : Addr
  d_Body_many_open : FuncData
  f_Body_takes : Addr
  d_Body_takes : FuncData
  f_Body_takes_done : Addr
  d_Body_takes_done : FuncData
  f_Body_takes_head : Addr
  d_Body_takes_head : FuncData
  f_Body_takes_clause : Addr
  d_Body_takes_clause : FuncData
  f_Body_put_in : Addr
  d_Body_put_in : FuncData
  f_Body_closed : Addr
  d_Body_closed : FuncData
  f_w_cell_at : Addr
  d_w_cell_at : FuncData
  f_w_mix : Addr
  d_w_mix : FuncData
  f_w_name : Addr
  d_w_name : FuncData
  f_w_no_text : Addr
  d_w_no_text : FuncData
  f_w_refused_at : Addr
  d_w_refused_at : FuncData
  f_w_nest : Addr
  d_w_nest : FuncData
  f_w_header_rows : Addr
  d_w_header_rows : FuncData
  f_w_first_beyond : Addr
  d_w_first_beyond : FuncData
  f_v_law : Addr
  d_v_law : FuncData
  c_PactError : Addr
  c_NoText : Addr
  c_NoName : Addr
  c_CalmRoom : Addr
  c_NoDeed : Addr
  c_TooMany : Addr
  c_Breach : Addr
  c_NoStand : Addr
  c_NoPair : Addr
  c_NoChange : Addr
  c_NoRow : Addr
  c_Row : Addr
  c_Clause : Addr
  c_Duty : Addr
  c_Leave : Addr
  c_Ban : Addr
  c_Power : Addr
  c_Let : Addr
  c_Part : Addr
  c_Pact : Addr
  c_Body : Addr
  k_KEPT : Addr
  k_MARKS : Addr
def ks_KEPT : List Str := ["acts", "any", "be", "by", "calm", "done", "else", "end", "in", "let", "may", "must", "not", "part", "parties", "rest", "sore", "to", "whole"]
def ks_MARKS : List Str := ["calm", "sore", "end"]
abbrev k_LETTERS : Str := "abcdefghijklmnopqrstuvwxyz"
abbrev k_FIGURES : Str := "0123456789"
structure Txt (K : PySem.W.Frag) (mg : Str → Option Value) (t : Adr) : Prop where
  NoText_init : MDef K "__init__" "NoText.__init__" s_NoText_init ["self", "row"] t.f_NoText_init t.d_NoText_init
  Clause_init : MDef K "__init__" "Clause.__init__" s_Clause_init ["self", "label", "who", "act"] t.f_Clause_init t.d_Clause_init
  Clause_number : MDef K "number" "Clause.number" s_Clause_number ["self"] t.f_Clause_number t.d_Clause_number
  Duty_init : MDef K "__init__" "Duty.__init__" s_Duty_init ["self", "label", "who", "act", "turns", "room"] t.f_Duty_init t.d_Duty_init
  Duty_number : MDef K "number" "Duty.number" s_Duty_number ["self"] t.f_Duty_number t.d_Duty_number
  Ban_init : MDef K "__init__" "Ban.__init__" s_Ban_init ["self", "label", "who", "act", "room"] t.f_Ban_init t.d_Ban_init
  Power_init : MDef K "__init__" "Power.__init__" s_Power_init ["self", "label", "who", "act", "room"] t.f_Power_init t.d_Power_init
  Let_init : MDef K "__init__" "Let.__init__" s_Let_init ["self", "name", "value"] t.f_Let_init t.d_Let_init
  Part_init : MDef K "__init__" "Part.__init__" s_Part_init ["self", "name", "rooms", "rows"] t.f_Part_init t.d_Part_init
  Pact_init : MDef K "__init__" "Pact.__init__" s_Pact_init ["self", "parties", "acts", "rooms", "whole"] t.f_Pact_init t.d_Pact_init
  v_is_name : Def K mg "is_name" s_v_is_name ["word"] t.f_v_is_name t.d_v_is_name
  v_number_of : Def K mg "number_of" s_v_number_of ["word"] t.f_v_number_of t.d_v_number_of
  v_written_with : Def K mg "written_with" s_v_written_with ["word", "signs", "most"] t.f_v_written_with t.d_v_written_with
  v_names_of : Def K mg "names_of" s_v_names_of ["row", "word", "most"] t.f_v_names_of t.d_v_names_of
  v_are_names : Def K mg "are_names" s_v_are_names ["words", "most"] t.f_v_are_names t.d_v_are_names
  v_room_of : Def K mg "room_of" s_v_room_of ["row"] t.f_v_room_of t.d_v_room_of
  v_let_of : Def K mg "let_of" s_v_let_of ["row"] t.f_v_let_of t.d_v_let_of
  v_part_of : Def K mg "part_of" s_v_part_of ["row"] t.f_v_part_of t.d_v_part_of
  v_clause_of : Def K mg "clause_of" s_v_clause_of ["row"] t.f_v_clause_of t.d_v_clause_of
  v_fits_form : Def K mg "fits_form" s_v_fits_form ["words", "form"] t.f_v_fits_form t.d_v_fits_form
  v_fits_place : Def K mg "fits_place" s_v_fits_place ["word", "place"] t.f_v_fits_place t.d_v_fits_place
  v_read : Def K mg "read" s_v_read ["text"] t.f_v_read t.d_v_read
  v_read_names : Def K mg "read_names" s_v_read_names ["rows", "number", "word", "most", "taken"] t.f_v_read_names t.d_v_read_names
  v_told_once : Def K mg "told_once" s_v_told_once ["names"] t.f_v_told_once t.d_v_told_once
  v_read_rooms : Def K mg "read_rooms" s_v_read_rooms ["rows", "taken"] t.f_v_read_rooms t.d_v_read_rooms
  v_read_whole : Def K mg "read_whole" s_v_read_whole ["rows", "start"] t.f_v_read_whole t.d_v_read_whole
  Body_init : MDef K "__init__" "Body.__init__" s_Body_init ["self"] t.f_Body_init t.d_Body_init
  Body_many_open : MDef K "many_open" "Body.many_open" s_Body_many_open ["self"] t.f_Body_many_open t.d_Body_many_open
  Body_takes : MDef K "takes" "Body.takes" s_Body_takes ["self", "row"] t.f_Body_takes t.d_Body_takes
  Body_takes_done : MDef K "takes_done" "Body.takes_done" s_Body_takes_done ["self"] t.f_Body_takes_done t.d_Body_takes_done
  Body_takes_head : MDef K "takes_head" "Body.takes_head" s_Body_takes_head ["self", "head"] t.f_Body_takes_head t.d_Body_takes_head
  Body_takes_clause : MDef K "takes_clause" "Body.takes_clause" s_Body_takes_clause ["self", "clause"] t.f_Body_takes_clause t.d_Body_takes_clause
  Body_put_in : MDef K "put_in" "Body.put_in" s_Body_put_in ["self", "row"] t.f_Body_put_in t.d_Body_put_in
  Body_closed : MDef K "closed" "Body.closed" s_Body_closed ["self"] t.f_Body_closed t.d_Body_closed
  w_cell_at : Def K mg "_law_cell_at" s_w_cell_at ["_law_script", "_law_k"] t.f_w_cell_at t.d_w_cell_at
  w_mix : Def K mg "_law_mix" s_w_mix ["_law_cell", "_law_k"] t.f_w_mix t.d_w_mix
  w_name : Def K mg "_law_name" s_w_name ["_law_cell", "_law_k"] t.f_w_name t.d_w_name
  w_no_text : Def K mg "_law_no_text" s_w_no_text ["_law_e"] t.f_w_no_text t.d_w_no_text
  w_refused_at : Def K mg "_law_refused_at" s_w_refused_at ["_law_text"] t.f_w_refused_at t.d_w_refused_at
  w_nest : Def K mg "_law_nest" s_w_nest ["_law_names", "_law_script", "_law_deep", "_law_start"] t.f_w_nest t.d_w_nest
  w_header_rows : Def K mg "_law_header_rows" s_w_header_rows ["_law_names", "_law_cell"] t.f_w_header_rows t.d_w_header_rows
  w_first_beyond : Def K mg "_law_first_beyond" s_w_first_beyond ["_law_rows"] t.f_w_first_beyond t.d_w_first_beyond
  v_law : Def K mg "law" s_v_law ["_law_script"] t.f_v_law t.d_v_law
  b_list : mg "list" = none
  b_len : mg "len" = none
  b_range : mg "range" = none
  b_all : mg "all" = none
  b_int : mg "int" = none
  b_isinstance : mg "isinstance" = none
  b_bool : mg "bool" = none
  b_zip : mg "zip" = none
  b_ValueError : mg "ValueError" = none
  b_set : mg "set" = none
  g_KEPT : mg "KEPT" = some (.ref t.k_KEPT)
  g_LETTERS : ∃ tk, mg "LETTERS" = some (.str "abcdefghijklmnopqrstuvwxyz" tk)
  g_FIGURES : ∃ tk, mg "FIGURES" = some (.str "0123456789" tk)
  g_MOST_LETTERS : ∃ tk, mg "MOST_LETTERS" = some (.int 8 tk)
  g_MOST_FIGURES : ∃ tk, mg "MOST_FIGURES" = some (.int 20 tk)
  g_MARKS : mg "MARKS" = some (.ref t.k_MARKS)
  g_MOST_ROOMS : ∃ tk, mg "MOST_ROOMS" = some (.int 12 tk)
  g_MOST_PARTIES : ∃ tk, mg "MOST_PARTIES" = some (.int 4 tk)
  g_MOST_ACTS : ∃ tk, mg "MOST_ACTS" = some (.int 6 tk)
  g_MOST_ROWS : ∃ tk, mg "MOST_ROWS" = some (.int 90 tk)
  g_MOST_OPEN : ∃ tk, mg "MOST_OPEN" = some (.int 6 tk)
  g_FIRST_ROOM : ∃ tk, mg "FIRST_ROOM" = some (.int 2 tk)
  m_PactError : mg "PactError" = some (.ref t.c_PactError)
  m_NoText : mg "NoText" = some (.ref t.c_NoText)
  m_NoName : mg "NoName" = some (.ref t.c_NoName)
  m_CalmRoom : mg "CalmRoom" = some (.ref t.c_CalmRoom)
  m_NoDeed : mg "NoDeed" = some (.ref t.c_NoDeed)
  m_TooMany : mg "TooMany" = some (.ref t.c_TooMany)
  m_Breach : mg "Breach" = some (.ref t.c_Breach)
  m_NoStand : mg "NoStand" = some (.ref t.c_NoStand)
  m_NoPair : mg "NoPair" = some (.ref t.c_NoPair)
  m_NoChange : mg "NoChange" = some (.ref t.c_NoChange)
  m_NoRow : mg "NoRow" = some (.ref t.c_NoRow)
  m_Row : mg "Row" = some (.ref t.c_Row)
  m_Clause : mg "Clause" = some (.ref t.c_Clause)
  m_Duty : mg "Duty" = some (.ref t.c_Duty)
  m_Leave : mg "Leave" = some (.ref t.c_Leave)
  m_Ban : mg "Ban" = some (.ref t.c_Ban)
  m_Power : mg "Power" = some (.ref t.c_Power)
  m_Let : mg "Let" = some (.ref t.c_Let)
  m_Part : mg "Part" = some (.ref t.c_Part)
  m_Pact : mg "Pact" = some (.ref t.c_Pact)
  m_Body : mg "Body" = some (.ref t.c_Body)
  o_KEPT : ∃ (o : Obj) (its : Array Value) (n : Nat), K.lookup t.k_KEPT = some o ∧ o.cls = .type "tuple" ∧ o.data = .seq its n ∧ its.size ≤ sizeLine ∧ Vals (ks_KEPT.map V.str) its.toList
  o_MARKS : ∃ (o : Obj) (its : Array Value) (n : Nat), K.lookup t.k_MARKS = some o ∧ o.cls = .type "tuple" ∧ o.data = .seq its n ∧ its.size ≤ sizeLine ∧ Vals (ks_MARKS.map V.str) its.toList
  cl_Clause : Cls K t.c_Clause
  na_Clause_act : NoAttr K t.c_Clause "act"
  na_Clause_label : NoAttr K t.c_Clause "label"
  na_Clause_room : NoAttr K t.c_Clause "room"
  na_Clause_turns : NoAttr K t.c_Clause "turns"
  na_Clause_who : NoAttr K t.c_Clause "who"
  mk_Clause : Mk K t.c_Clause t.f_Clause_init
  cl_Duty : Cls K t.c_Duty
  na_Duty_act : NoAttr K t.c_Duty "act"
  na_Duty_label : NoAttr K t.c_Duty "label"
  na_Duty_room : NoAttr K t.c_Duty "room"
  na_Duty_turns : NoAttr K t.c_Duty "turns"
  na_Duty_who : NoAttr K t.c_Duty "who"
  mk_Duty : Mk K t.c_Duty t.f_Duty_init
  cl_Leave : Cls K t.c_Leave
  na_Leave_act : NoAttr K t.c_Leave "act"
  na_Leave_label : NoAttr K t.c_Leave "label"
  na_Leave_room : NoAttr K t.c_Leave "room"
  na_Leave_turns : NoAttr K t.c_Leave "turns"
  na_Leave_who : NoAttr K t.c_Leave "who"
  mk_Leave : Mk K t.c_Leave t.f_Clause_init
  cl_Ban : Cls K t.c_Ban
  na_Ban_act : NoAttr K t.c_Ban "act"
  na_Ban_label : NoAttr K t.c_Ban "label"
  na_Ban_room : NoAttr K t.c_Ban "room"
  na_Ban_turns : NoAttr K t.c_Ban "turns"
  na_Ban_who : NoAttr K t.c_Ban "who"
  mk_Ban : Mk K t.c_Ban t.f_Ban_init
  cl_Power : Cls K t.c_Power
  na_Power_act : NoAttr K t.c_Power "act"
  na_Power_label : NoAttr K t.c_Power "label"
  na_Power_room : NoAttr K t.c_Power "room"
  na_Power_turns : NoAttr K t.c_Power "turns"
  na_Power_who : NoAttr K t.c_Power "who"
  mk_Power : Mk K t.c_Power t.f_Power_init
  cl_Let : Cls K t.c_Let
  na_Let_name : NoAttr K t.c_Let "name"
  na_Let_value : NoAttr K t.c_Let "value"
  mk_Let : Mk K t.c_Let t.f_Let_init
  cl_Part : Cls K t.c_Part
  na_Part_name : NoAttr K t.c_Part "name"
  na_Part_rooms : NoAttr K t.c_Part "rooms"
  na_Part_rows : NoAttr K t.c_Part "rows"
  mk_Part : Mk K t.c_Part t.f_Part_init
  cl_Pact : Cls K t.c_Pact
  na_Pact_acts : NoAttr K t.c_Pact "acts"
  na_Pact_parties : NoAttr K t.c_Pact "parties"
  na_Pact_rooms : NoAttr K t.c_Pact "rooms"
  na_Pact_whole : NoAttr K t.c_Pact "whole"
  mk_Pact : Mk K t.c_Pact t.f_Pact_init
  cl_Body : Cls K t.c_Body
  na_Body_bodies : NoAttr K t.c_Body "bodies"
  na_Body_heads : NoAttr K t.c_Body "heads"
  na_Body_labels : NoAttr K t.c_Body "labels"
  mk_Body : Mk K t.c_Body t.f_Body_init
  mt_Body_many_open : Meth K t.c_Body "many_open" t.f_Body_many_open
  mt_Body_takes : Meth K t.c_Body "takes" t.f_Body_takes
  mt_Body_takes_done : Meth K t.c_Body "takes_done" t.f_Body_takes_done
  mt_Body_takes_head : Meth K t.c_Body "takes_head" t.f_Body_takes_head
  mt_Body_takes_clause : Meth K t.c_Body "takes_clause" t.f_Body_takes_clause
  mt_Body_put_in : Meth K t.c_Body "put_in" t.f_Body_put_in
  mt_Body_closed : Meth K t.c_Body "closed" t.f_Body_closed
  xc_NoText : XCl K t.c_NoText
  xty_NoText : XTy K t.c_NoText
  xm_NoText : XMk K t.c_NoText t.f_NoText_init
  na_NoText_row : NoAttr K t.c_NoText "row"
  ex_NoText_PactError : PySem.W.exmOne K (.ref t.c_NoText) (.ref t.c_PactError) = some true
  cm_Clause : CMeth K t.c_Clause "__init__" t.f_Clause_init
  cm_Leave : CMeth K t.c_Leave "__init__" t.f_Clause_init
  ki_NoText_NoName : PySem.W.kitOne K (.ref t.c_NoText) (.ref t.c_NoName) = some false
  ki_NoText_CalmRoom : PySem.W.kitOne K (.ref t.c_NoText) (.ref t.c_CalmRoom) = some false
  ki_NoText_NoDeed : PySem.W.kitOne K (.ref t.c_NoText) (.ref t.c_NoDeed) = some false
  ki_NoText_TooMany : PySem.W.kitOne K (.ref t.c_NoText) (.ref t.c_TooMany) = some false
  ki_NoText_Breach : PySem.W.kitOne K (.ref t.c_NoText) (.ref t.c_Breach) = some false
  ki_NoText_NoStand : PySem.W.kitOne K (.ref t.c_NoText) (.ref t.c_NoStand) = some false
  ki_NoText_NoPair : PySem.W.kitOne K (.ref t.c_NoText) (.ref t.c_NoPair) = some false
  ki_NoText_NoChange : PySem.W.kitOne K (.ref t.c_NoText) (.ref t.c_NoChange) = some false
  ki_NoText_NoRow : PySem.W.kitOne K (.ref t.c_NoText) (.ref t.c_NoRow) = some false
  ki_NoText_NoText : PySem.W.kitOne K (.ref t.c_NoText) (.ref t.c_NoText) = some true
  ki_NoText_ValueError : PySem.W.kitOne K (.ref t.c_NoText) (.type "ValueError") = some true
  ki_int_bool : PySem.W.kitOne K (.type "int") (.type "bool") = some false
section
variable {P : Program} {w : World} {K : PySem.W.Frag} {mg : Str → Option Value} {base : Heap} {t : Adr}
/-! ### clauses: data -/
end
structure Good (N : Nat) (x : Str) : Prop where
  lo : 1 ≤ x.length
  hi : x.length ≤ N
  as : asc x
/-! ### clauses as objects -/
structure CF (K : PySem.W.Frag) (C fI : Addr) : Prop where
  cl : Cls K C
  nl : NoAttr K C "label"
  nw : NoAttr K C "who"
  na : NoAttr K C "act"
  nt : NoAttr K C "turns"
  nr : NoAttr K C "room"
  mkk : Mk K C fI
def f3 (l w a : Str) : List (Str × V) := [("label", .str l), ("who", .str w), ("act", .str a)]
def f4 (l w a r : Str) : List (Str × V) := [("label", .str l), ("who", .str w), ("act", .str a), ("room", .str r)]
def f5 (l w a : Str) (n : Int) (r : Str) : List (Str × V) := [("label", .str l), ("who", .str w), ("act", .str a), ("turns", .int n), ("room", .str r)]
theorem n1 : ¬ (("label" : Str) = "who") := by decide +kernel
theorem n2 : ¬ (("label" : Str) = "act") := by decide +kernel
theorem n3 : ¬ (("who" : Str) = "act") := by decide +kernel
theorem n4 : ¬ (("label" : Str) = "room") := by decide +kernel
theorem n5 : ¬ (("who" : Str) = "room") := by decide +kernel
theorem n6 : ¬ (("act" : Str) = "room") := by decide +kernel
theorem n7 : ¬ (("label" : Str) = "turns") := by decide +kernel
theorem n8 : ¬ (("who" : Str) = "turns") := by decide +kernel
theorem n9 : ¬ (("act" : Str) = "turns") := by decide +kernel
theorem n10 : ¬ (("turns" : Str) = "room") := by decide +kernel
theorem put3 (l w a : Str) : putF "act" (.str a) (putF "who" (.str w) (putF "label" (.str l) [])) = f3 l w a := by
  simp only [putF, f3, if_neg n1, if_neg n2, if_neg n3]
theorem put4 (l w a r : Str) : putF "room" (.str r) (f3 l w a) = f4 l w a r := by
  simp only [putF, f3, f4, if_neg n4, if_neg n5, if_neg n6]
theorem put5 (l w a : Str) (n : Int) (r : Str) : putF "room" (.str r) (putF "turns" (.int n) (f3 l w a)) = f5 l w a n r := by
  simp only [putF, f3, f5, if_neg n7, if_neg n8, if_neg n9, if_neg n4, if_neg n5, if_neg n6, if_neg n10]
def flds (k : Int) (l w a : Str) (n : Int) (r : Str) : List (Str × V) := if k = 0 then f5 l w a n r else if k = 2 ∨ k = 3 then f4 l w a r else f3 l w a
theorem look_hit {x : Str} {v : V} {r : List (Str × V)} : List.lookup x ((x, v) :: r) = some v := by simp [List.lookup]
theorem look_miss {x y : Str} {v : V} {r : List (Str × V)} (h : ¬ (x = y)) : List.lookup x ((y, v) :: r) = List.lookup x r := by
  have : (x == y) = false := beq_eq_false_iff_ne.mpr h
  simp [List.lookup, this]
theorem flds_label (k : Int) (l w a : Str) (n : Int) (r : Str) : (flds k l w a n r).lookup ("label" : Str) = some (.str l) := by
  unfold flds; split
  · exact look_hit
  · split <;> exact look_hit
def clsOf (t : Adr) (k : Int) : Addr := if k = 0 then t.c_Duty else if k = 1 then t.c_Leave else if k = 2 then t.c_Ban else if k = 3 then t.c_Power else t.c_Clause
/-- a clause stands at p -/
def At (t : Adr) (H : Hp) (p : Addr) (k : Int) (l w a : Str) (n : Int) (r : Str) : Prop := ∃ dx, H p = some (.ins (clsOf t k) dx (flds k l w a n r))
def spI3 (K : PySem.W.Frag) : Sp := fun vs H Q _ => ∃ (p C dx fI : Addr) (l w a : Str), vs = [.ref p, .str l, .str w, .str a] ∧ CF K C fI ∧ H p = some (.ins C dx []) ∧ Q .non (upd H p (.ins C dx (f3 l w a)))
def spI4 (K : PySem.W.Frag) : Sp := fun vs H Q _ => ∃ (p C dx fI : Addr) (l w a r : Str), vs = [.ref p, .str l, .str w, .str a, .str r] ∧ CF K C fI ∧ H p = some (.ins C dx []) ∧ Q .non (upd H p (.ins C dx (f4 l w a r)))
def spI5 (K : PySem.W.Frag) : Sp := fun vs H Q _ => ∃ (p C dx fI : Addr) (l w a : Str) (n : Int) (r : Str), vs = [.ref p, .str l, .str w, .str a, .int n, .str r] ∧ CF K C fI ∧ H p = some (.ins C dx []) ∧ Q .non (upd H p (.ins C dx (f5 l w a n r)))
theorem cf_Duty {K : PySem.W.Frag} {mg : Str → Option Value} {t : Adr} (T : Txt K mg t) : CF K t.c_Duty t.f_Duty_init := ⟨T.cl_Duty, T.na_Duty_label, T.na_Duty_who, T.na_Duty_act, T.na_Duty_turns, T.na_Duty_room, T.mk_Duty⟩
theorem cf_Leave {K : PySem.W.Frag} {mg : Str → Option Value} {t : Adr} (T : Txt K mg t) : CF K t.c_Leave t.f_Clause_init := ⟨T.cl_Leave, T.na_Leave_label, T.na_Leave_who, T.na_Leave_act, T.na_Leave_turns, T.na_Leave_room, T.mk_Leave⟩
theorem cf_Ban {K : PySem.W.Frag} {mg : Str → Option Value} {t : Adr} (T : Txt K mg t) : CF K t.c_Ban t.f_Ban_init := ⟨T.cl_Ban, T.na_Ban_label, T.na_Ban_who, T.na_Ban_act, T.na_Ban_turns, T.na_Ban_room, T.mk_Ban⟩
theorem cf_Power {K : PySem.W.Frag} {mg : Str → Option Value} {t : Adr} (T : Txt K mg t) : CF K t.c_Power t.f_Power_init := ⟨T.cl_Power, T.na_Power_label, T.na_Power_who, T.na_Power_act, T.na_Power_turns, T.na_Power_room, T.mk_Power⟩
theorem cf_Clause {K : PySem.W.Frag} {mg : Str → Option Value} {t : Adr} (T : Txt K mg t) : CF K t.c_Clause t.f_Clause_init := ⟨T.cl_Clause, T.na_Clause_label, T.na_Clause_who, T.na_Clause_act, T.na_Clause_turns, T.na_Clause_room, T.mk_Clause⟩
theorem cf_of {K : PySem.W.Frag} {mg : Str → Option Value} {t : Adr} (T : Txt K mg t) (k : Int) : ∃ fI, CF K (clsOf t k) fI := by
  unfold clsOf
  split
  · exact ⟨_, cf_Duty T⟩
  split
  · exact ⟨_, cf_Leave T⟩
  split
  · exact ⟨_, cf_Ban T⟩
  split
  · exact ⟨_, cf_Power T⟩
  · exact ⟨_, cf_Clause T⟩
/-! fields read -/
section
variable {K : PySem.W.Frag} {mg : Str → Option Value} {t : Adr} {H : Hp} {p : Addr} {k : Int} {l w a : Str} {n : Int} {r : Str} {Q : VK}
theorem At.fl (T : Txt K mg t) (h : At t H p k l w a n r) : Fld K H (.ref p) "label" (.str l) := by
  obtain ⟨dx, e⟩ := h
  obtain ⟨fI, F⟩ := cf_of T k
  exact ⟨p, _, dx, _, rfl, e, F.cl, F.nl, flds_label _ _ _ _ _ _⟩
end
section
variable {P : Program} {w : World} {K : PySem.W.Frag} {mg : Str → Option Value} {base : Heap} {t : Adr}
/-! ### the makings -/
theorem sc_Clause_init : FnScope ["self", "label", "who", "act"] ["self", "label", "who", "act"] (defScope s_Clause_init) := ⟨rfl, rfl, rfl, by decide +kernel, rfl, by decide +kernel, by decide +kernel⟩
set_option maxHeartbeats 400000 in
theorem ok_Clause_init (T : Txt K mg t) : FnOk P w K mg base CX0 1 t.f_Clause_init t.d_Clause_init ["self", "label", "who", "act"] (spI3 K) := by
  refine T.Clause_init.fn.ok sc_Clause_init (fun vs H Q E h => (by obtain ⟨_, _, _, _, _, _, _, rfl, _⟩ := h; rfl)) (fun cdv A outer s H vs Q E hr h => ?_)
  obtain ⟨p, C, dx, fI, l, w, a, rfl, F, hp, k⟩ := h
  refine ⟨_, (pss_cons (ps_fld (pv 0) (pv 1) rfl)
      (pss_cons (ps_fld (pv 0) (pv 2) rfl)
      (pss_one (ps_fld (pv 0) (pv 3) rfl)))), ?_⟩
  refine ⟨_, rfl, _, rfl, p, C, dx, [], rfl, hp, F.cl, F.nl, (by show 0 < 1000; decide), ?_⟩
  refine ⟨_, rfl, _, rfl, p, C, dx, _, rfl, upd_same, F.cl, F.nw, (by show 1 < 1000; decide), ?_⟩
  refine ⟨_, rfl, _, rfl, p, C, dx, _, rfl, upd_same, F.cl, F.na, ?_, ?_⟩
  · have := length_putF ("who" : Str) (.str w) (putF "label" (.str l) [])
    have e : (putF ("label" : Str) (.str l) []).length = 1 := rfl
    omega
  · rw [upd_upd, upd_upd, put3]
    exact k
theorem sc_Duty_init : FnScope ["self", "label", "who", "act", "turns", "room"] ["self", "label", "who", "act", "turns", "room"] (defScope s_Duty_init) := ⟨rfl, rfl, rfl, by decide +kernel, rfl, by decide +kernel, by decide +kernel⟩
set_option maxHeartbeats 400000 in
theorem ok_Duty_init (T : Txt K mg t) : FnOk P w K mg base CX0 2 t.f_Duty_init t.d_Duty_init ["self", "label", "who", "act", "turns", "room"] (spI5 K) := by
  have G_Clause_init : FnOk P w K mg base CX0 1 t.f_Clause_init t.d_Clause_init ["self", "label", "who", "act"] (spI3 K) := (ok_Clause_init T).mono (by decide)
  refine T.Duty_init.fn.ok sc_Duty_init (fun vs H Q E h => (by obtain ⟨_, _, _, _, _, _, _, _, _, rfl, _⟩ := h; rfl)) (fun cdv A outer s H vs Q E hr h => ?_)
  obtain ⟨p, C, dx, fI, l, w, a, n, r, rfl, F, hp, k⟩ := h
  refine ⟨_, (pss_cons (ps_expr (pe_cmeth rfl T.m_Clause T.cm_Clause G_Clause_init hr T.Clause_init.bd .nil pass0 (pa_cons (pv 0) (pa_cons (pv 1) (pa_cons (pv 2) (pa_cons (pv 3) pa_nil))))))
      (pss_cons (ps_fld (pv 0) (pv 4) rfl)
      (pss_one (ps_fld (pv 0) (pv 5) rfl)))), ?_⟩
  refine ⟨_, rfl, _, rfl, _, rfl, _, rfl, p, C, dx, fI, l, w, a, rfl, F, hp, ?_⟩
  refine ⟨_, rfl, _, rfl, p, C, dx, _, rfl, upd_same, F.cl, F.nt, (by show 3 < 1000; decide), ?_⟩
  refine ⟨_, rfl, _, rfl, p, C, dx, _, rfl, upd_same, F.cl, F.nr, ?_, ?_⟩
  · have := length_putF ("turns" : Str) (.int n) (f3 l w a)
    have e : (f3 l w a).length = 3 := rfl
    omega
  · rw [upd_upd, upd_upd, put5]
    exact k
theorem sc_Ban_init : FnScope ["self", "label", "who", "act", "room"] ["self", "label", "who", "act", "room"] (defScope s_Ban_init) := ⟨rfl, rfl, rfl, by decide +kernel, rfl, by decide +kernel, by decide +kernel⟩
set_option maxHeartbeats 400000 in
theorem ok_Ban_init (T : Txt K mg t) : FnOk P w K mg base CX0 2 t.f_Ban_init t.d_Ban_init ["self", "label", "who", "act", "room"] (spI4 K) := by
  have G_Clause_init : FnOk P w K mg base CX0 1 t.f_Clause_init t.d_Clause_init ["self", "label", "who", "act"] (spI3 K) := (ok_Clause_init T).mono (by decide)
  refine T.Ban_init.fn.ok sc_Ban_init (fun vs H Q E h => (by obtain ⟨_, _, _, _, _, _, _, _, rfl, _⟩ := h; rfl)) (fun cdv A outer s H vs Q E hr h => ?_)
  obtain ⟨p, C, dx, fI, l, w, a, r, rfl, F, hp, k⟩ := h
  refine ⟨_, (pss_cons (ps_expr (pe_cmeth rfl T.m_Clause T.cm_Clause G_Clause_init hr T.Clause_init.bd .nil pass0 (pa_cons (pv 0) (pa_cons (pv 1) (pa_cons (pv 2) (pa_cons (pv 3) pa_nil))))))
      (pss_one (ps_fld (pv 0) (pv 4) rfl))), ?_⟩
  refine ⟨_, rfl, _, rfl, _, rfl, _, rfl, p, C, dx, fI, l, w, a, rfl, F, hp, ?_⟩
  refine ⟨_, rfl, _, rfl, p, C, dx, _, rfl, upd_same, F.cl, F.nr, (by show 3 < 1000; decide), ?_⟩
  rw [upd_upd, put4]
  exact k
theorem sc_Power_init : FnScope ["self", "label", "who", "act", "room"] ["self", "label", "who", "act", "room"] (defScope s_Power_init) := ⟨rfl, rfl, rfl, by decide +kernel, rfl, by decide +kernel, by decide +kernel⟩
set_option maxHeartbeats 400000 in
theorem ok_Power_init (T : Txt K mg t) : FnOk P w K mg base CX0 2 t.f_Power_init t.d_Power_init ["self", "label", "who", "act", "room"] (spI4 K) := by
  have G_Clause_init : FnOk P w K mg base CX0 1 t.f_Clause_init t.d_Clause_init ["self", "label", "who", "act"] (spI3 K) := (ok_Clause_init T).mono (by decide)
  refine T.Power_init.fn.ok sc_Power_init (fun vs H Q E h => (by obtain ⟨_, _, _, _, _, _, _, _, rfl, _⟩ := h; rfl)) (fun cdv A outer s H vs Q E hr h => ?_)
  obtain ⟨p, C, dx, fI, l, w, a, r, rfl, F, hp, k⟩ := h
  refine ⟨_, (pss_cons (ps_expr (pe_cmeth rfl T.m_Leave T.cm_Leave G_Clause_init hr T.Clause_init.bd .nil pass0 (pa_cons (pv 0) (pa_cons (pv 1) (pa_cons (pv 2) (pa_cons (pv 3) pa_nil))))))
      (pss_one (ps_fld (pv 0) (pv 4) rfl))), ?_⟩
  refine ⟨_, rfl, _, rfl, _, rfl, _, rfl, p, C, dx, fI, l, w, a, rfl, F, hp, ?_⟩
  refine ⟨_, rfl, _, rfl, p, C, dx, _, rfl, upd_same, F.cl, F.nr, (by show 3 < 1000; decide), ?_⟩
  rw [upd_upd, put4]
  exact k
/-! ### _law_made -/
theorem made_same {H : Hp} {x dx : Addr} {o o' : HO} (hx : H x = none) (hdx : H dx = none) (hne : dx ≠ x) : Same H (upd (upd (upd H dx (.own x)) x o) x o') := by
  rw [upd_upd]
  exact (Same.new1 hdx).new (by rw [upd_ne (Ne.symm hne)]; exact hx)

/-! ### words: data -/
end
theorem digs_ok : k_FIGURES.length = 10 ∧ k_FIGURES.cps.toList = [48, 49, 50, 51, 52, 53, 54, 55, 56, 57] := by decide +kernel
theorem lets_ok : k_LETTERS.length = 26 ∧ k_LETTERS.cps.toList.length = 26 ∧ ∀ c ∈ k_LETTERS.cps.toList, c < 128 := by decide +kernel
def has (z : Str) (c : Nat) : Bool := !(Builtin.Str.occurrences z ⟨#[c]⟩ 0 z.length 1).isEmpty
def writ (x z : Str) (m : Int) : Bool := decide (1 ≤ x.length) && decide ((x.length : Int) ≤ m) && x.cps.toList.all (has z)
def nameB (x : Str) : Bool := writ x k_LETTERS 8 && !inV (.str x) (ks_KEPT.map V.str)
theorem kept_flat : (ks_KEPT.map V.str).all flatV = true := by decide +kernel
theorem has_digs (c : Nat) : has k_FIGURES c = decide (48 ≤ c ∧ c ≤ 57) := by
  unfold has
  rw [StrLaws.found_one, digs_ok.2]
  by_cases h : 48 ≤ c ∧ c ≤ 57
  · rw [decide_eq_true h]
    simp
    omega
  · rw [decide_eq_false h]
    simp
    omega
def numV (x : Str) : Int := if writ x k_FIGURES 20 = true ∧ x.cps.toList.head? ≠ some 48 then ((PySem.NumText.digitsVal x.cps.toList : Nat) : Int) else 0
def spWrit : Sp := fun vs H Q _ => ∃ (x z : Str) (m : Int), vs = [.str x, .str z, .int m] ∧ x.length ≤ 400 ∧ z.length ≤ 100 ∧ ∀ H', Same H H' → Q (.bl (writ x z m)) H'
def spName : Sp := fun vs H Q _ => ∃ (x : Str), vs = [.str x] ∧ x.length ≤ 400 ∧ ∀ H', Same H H' → Q (.bl (nameB x)) H'
def spNum : Sp := fun vs H Q _ => ∃ (x : Str), vs = [.str x] ∧ x.length ≤ 400 ∧ ∀ H', Same H H' → Q (.int (numV x)) H'
theorem all_comp {x z : Str} {bs : List Bool} (hl : bs.length = x.length) (h : ∀ (i : Nat) (c : Nat) (b : Bool), x.cps.toList[i]? = some c → bs[i]? = some b → b = has z c) : bs.all id = x.cps.toList.all (has z) := by
  have e : bs = x.cps.toList.map (has z) := by
    apply List.ext_getElem?
    intro i
    rw [List.getElem?_map]
    cases q : x.cps.toList[i]? with
    | none =>
      have : x.cps.toList.length ≤ i := List.getElem?_eq_none_iff.mp q
      exact List.getElem?_eq_none_iff.mpr (by rw [hl]; simpa [Str.length] using this)
    | some c =>
      have hi : i < bs.length := by
        rw [hl]
        have := (List.getElem?_eq_some_iff.mp q).1
        simpa [Str.length] using this
      rw [List.getElem?_eq_getElem hi, Option.map_some, h i c _ q (List.getElem?_eq_getElem hi)]
  rw [e, List.all_map]
  rfl
theorem writ_digits {x : Str} {m : Int} (h : writ x k_FIGURES m = true) : 1 ≤ x.length ∧ (x.length : Int) ≤ m ∧ PySem.NumText.AllDigits x.cps.toList := by
  unfold writ at h
  rw [Bool.and_eq_true, Bool.and_eq_true] at h
  obtain ⟨⟨h1, h2⟩, h3⟩ := h
  refine ⟨of_decide_eq_true h1, of_decide_eq_true h2, fun c hc => ?_⟩
  have := List.all_eq_true.mp h3 c hc
  rw [has_digs] at this
  exact of_decide_eq_true this
theorem first_at {x : Str} (h : 1 ≤ x.length) : ∃ c, x.cps.toList.head? = some c ∧ atI x.cps.toList 0 = some c := by
  have hl : 0 < x.cps.toList.length := by have h' : 1 ≤ x.cps.size := h; rw [Array.length_toList]; omega
  cases e : x.cps.toList with
  | nil => rw [e] at hl; simp at hl
  | cons c r => exact ⟨c, rfl, atI_nat (xs := c :: r) (j := 0) (v := c) rfl⟩
theorem one_eq (c d : Nat) : decide (V.str ⟨#[c]⟩ = V.str ⟨#[d]⟩) = decide (c = d) := by
  by_cases h : c = d
  · subst h; simp
  · have : ¬ (V.str ⟨#[c]⟩ = V.str ⟨#[d]⟩) := fun q => h (by injection q with q; injection q with q; simpa using q)
    rw [decide_eq_false this, decide_eq_false h]
theorem zero_str : ("0" : Str) = ⟨#[48]⟩ := by decide +kernel
section
variable {P : Program} {w : World} {K : PySem.W.Frag} {mg : Str → Option Value} {base : Heap} {t : Adr}
theorem keptSeq (T : Txt K mg t) (H : Hp) : SqT K H t.k_KEPT (ks_KEPT.map V.str) := .inr T.o_KEPT
/-! ### written_with -/
theorem sc_v_written_with : FnScope ["word", "signs", "most"] ["word", "signs", "most"] (defScope s_v_written_with) := ⟨rfl, rfl, rfl, by decide +kernel, rfl, by decide +kernel, by decide +kernel⟩
set_option maxHeartbeats 400000 in
theorem ok_v_written_with (T : Txt K mg t) : FnOk P w K mg base CX0 1 t.f_v_written_with t.d_v_written_with ["word", "signs", "most"] spWrit := by
  refine T.v_written_with.fn.ok sc_v_written_with (fun vs H Q E h => (by obtain ⟨_, _, _, rfl, _⟩ := h; rfl)) (fun cdv A outer s H vs Q E hr h => ?_)
  obtain ⟨x, z, m, rfl, hx, hz, k⟩ := h
  refine ⟨_, (pss_cons (ps_if (PW.pt (pw_or (pt_cmpR op_lt (pe_callB call_len_str rfl T.b_len PySem.boot_len (pa_cons (pv 0) pa_nil)) pe_int (nomark _)) (pw_or1 (pt_cmpR op_gt (pe_callB call_len_str rfl T.b_len PySem.boot_len (pa_cons (pv 0) pa_nil)) (pv 2) (nomark _)))))
        (pss_one (ps_ret pe_bl)) pss_nil)
      (pss_one (ps_ret (pe_callB (call_all_list rfl) rfl T.b_all PyProof.Rows.boot_all (pa_cons (pe_lcomp (osc := defScope s_v_written_with) (N := ["word", "signs", "most"]) (names := ["signs"]) (caps := [1]) rfl rfl rfl ⟨rfl, by decide +kernel, by decide +kernel, by decide +kernel, rfl, rfl, by decide +kernel, by decide +kernel⟩ (pi_str (pv 0)) (fun _ _ _ => (pe_cmpR op_in_str (pv 0) (pv 1) rfl))) pa_nil))))), ?_⟩
  refine ⟨_, rfl, x, rfl, line_small (by omega), _, _, rfl, rfl, _, rfl, ?_⟩
  refine ite2 (fun h1 => iteT ?_) (fun h1 => ?_)
  · have e : writ x z m = false := by
      have : ¬ (1 ≤ x.length) := by have := of_decide_eq_true h1; omega
      simp [writ, this]
    have := k H (Same.refl H)
    rw [e] at this
    exact this
  refine ⟨_, rfl, x, rfl, line_small (by omega), _, rfl, _, _, rfl, rfl, _, rfl, ?_⟩
  refine ite2 (fun h2 => ?_) (fun h2 => ?_)
  · have e : writ x z m = false := by
      have : ¬ ((x.length : Int) ≤ m) := by have := of_decide_eq_true h2; omega
      simp [writ, this]
    have := k H (Same.refl H)
    rw [e] at this
    exact this
  have e1 : 1 ≤ x.length := by have : ¬ ((x.length : Int) < 1) := fun q => h1 (decide_eq_true q); omega
  have e2 : (x.length : Int) ≤ m := by have : ¬ (m < (x.length : Int)) := fun q => h2 (decide_eq_true q); omega
  refine ⟨_, rfl, x, rfl, comp_seq (seqj_str (z := x)) (fun _ y v => ∀ c, y = .str ⟨#[c]⟩ → v = .bl (has z c)) (line_small (by simp [Str.length] at hx ⊢; omega)) ?_ ?_⟩
  · intro i y H' Q' hy s' kk
    rw [List.getElem?_map] at hy
    cases q : x.cps.toList[i]? with
    | none => rw [q] at hy; cases hy
    | some c =>
      rw [q] at hy
      cases hy
      refine ⟨_, rfl, _, rfl, _, _, rfl, rfl, kk _ _ (Same.refl _) fun c' e => ?_⟩
      have : c = c' := by simpa using e
      subst this
      rfl
  · intro D H' ys s' hD hy hlen hp
    have hlen' : ys.length = x.length := by simpa [Str.length] using hlen
    obtain ⟨bs, rfl⟩ := bls_of ys fun v hv => by
      obtain ⟨i, hi, e⟩ := List.getElem_of_mem hv
      have hix : i < x.cps.toList.length := by rw [hlen'] at hi; simpa [Str.length] using hi
      exact ⟨_, hp i _ v (by rw [List.getElem?_map, List.getElem?_eq_getElem hix]; rfl) (by rw [List.getElem?_eq_getElem hi, e]) _ rfl⟩
    refine ⟨D, bs, rfl, SqL.of hy, ?_⟩
    have e3 : bs.all id = x.cps.toList.all (has z) := all_comp (by simpa using hlen') fun i c b q1 q2 => by
      have := hp i (.str ⟨#[c]⟩) (.bl b) (by rw [List.getElem?_map, q1]; rfl) (by rw [List.getElem?_map, q2]; rfl) c rfl
      simpa using this
    have := k H' s'
    rw [show writ x z m = bs.all id by rw [e3]; simp [writ, e1, e2]] at this
    exact this
/-! ### is_name -/
theorem sc_v_is_name : FnScope ["word"] ["word"] (defScope s_v_is_name) := ⟨rfl, rfl, rfl, by decide +kernel, rfl, by decide +kernel, by decide +kernel⟩
set_option maxHeartbeats 400000 in
theorem ok_v_is_name (T : Txt K mg t) : FnOk P w K mg base CX0 2 t.f_v_is_name t.d_v_is_name ["word"] spName := by
  have G_v_written_with : FnOk P w K mg base CX0 1 t.f_v_written_with t.d_v_written_with ["word", "signs", "most"] spWrit := (ok_v_written_with T).mono (by decide)
  refine T.v_is_name.fn.ok sc_v_is_name (fun vs H Q E h => (by obtain ⟨_, rfl, _⟩ := h; rfl)) (fun cdv A outer s H vs Q E hr h => ?_)
  obtain ⟨x, rfl, hx, k⟩ := h
  refine ⟨_, (pss_one (ps_ret (pe_and (pe_call G_v_written_with hr rfl T.v_written_with.mg T.v_written_with.fn.kp T.v_written_with.bd .nil pass0 (pa_cons (pv 0) (pa_cons (pe_glob rfl (T.g_LETTERS).choose_spec (v := .str k_LETTERS) ⟨_, rfl⟩) (pa_cons (pe_glob rfl (T.g_MOST_LETTERS).choose_spec (v := .int 8) ⟨_, rfl⟩) pa_nil)))) (pe_one (pe_cmpR (opK_notIn (K := K) rfl) (pv 0) (pe_glob rfl T.g_KEPT (v := .ref t.k_KEPT) rfl) rfl))))), ?_⟩
  refine ⟨_, rfl, x, k_LETTERS, 8, rfl, hx, by decide +kernel, fun H' s' => ⟨_, rfl, ?_⟩⟩
  refine ite2 (fun h1 => ?_) (fun h1 => ?_)
  · refine ⟨_, rfl, _, _, rfl, .inr (keptSeq T H'), rfl, kept_flat, ?_⟩
    have := k H' s'
    rw [show nameB x = !inV (.str x) (ks_KEPT.map V.str) by simp [nameB, h1]] at this
    exact this
  · have := k H' s'
    rw [show nameB x = false by simp [nameB, h1]] at this
    exact this
/-! ### number_of -/
theorem sc_v_number_of : FnScope ["word"] ["word"] (defScope s_v_number_of) := ⟨rfl, rfl, rfl, by decide +kernel, rfl, by decide +kernel, by decide +kernel⟩
set_option maxHeartbeats 400000 in
theorem ok_v_number_of (T : Txt K mg t) : FnOk P w K mg base CX0 2 t.f_v_number_of t.d_v_number_of ["word"] spNum := by
  have G_v_written_with : FnOk P w K mg base CX0 1 t.f_v_written_with t.d_v_written_with ["word", "signs", "most"] spWrit := (ok_v_written_with T).mono (by decide)
  refine T.v_number_of.fn.ok sc_v_number_of (fun vs H Q E h => (by obtain ⟨_, rfl, _⟩ := h; rfl)) (fun cdv A outer s H vs Q E hr h => ?_)
  obtain ⟨x, rfl, hx, k⟩ := h
  refine ⟨_, (pss_cons (ps_if (PW.pt (pw_or (pt_not (pt_val (pe_call G_v_written_with hr rfl T.v_written_with.mg T.v_written_with.fn.kp T.v_written_with.bd .nil pass0 (pa_cons (pv 0) (pa_cons (pe_glob rfl (T.g_FIGURES).choose_spec (v := .str k_FIGURES) ⟨_, rfl⟩) (pa_cons (pe_glob rfl (T.g_MOST_FIGURES).choose_spec (v := .int 20) ⟨_, rfl⟩) pa_nil)))))) (pw_or1 (pt_cmpR op_eq (pe_ix ix_str (pv 0) pe_int (fun _ _ => rfl)) pe_str (nomark _)))))
        (pss_one (ps_ret pe_int)) pss_nil)
      (pss_one (ps_ret (pe_callTy call_int_text rfl T.b_int PyProof.Rows.boot_int (pa_cons (pv 0) pa_nil))))), ?_⟩
  refine ⟨_, rfl, x, k_FIGURES, 20, rfl, hx, by rw [digs_ok.1]; decide, fun H' s' => ⟨_, rfl, ?_⟩⟩
  cases hw : writ x k_FIGURES 20 with
  | false =>
    refine iteT (iteT ?_)
    have := k H' s'
    rw [show numV x = 0 by unfold numV; rw [if_neg (by rw [hw]; simp)]] at this
    exact this
  | true =>
    refine iteF ?_
    obtain ⟨h1, h2, h3⟩ := writ_digits hw
    obtain ⟨c, e1, e2⟩ := first_at h1
    refine ⟨_, rfl, x, _, c, rfl, rfl, line_small (by omega), e2, rfl, _, rfl, ?_⟩
    have hz := one_eq c 48
    rw [← zero_str] at hz
    refine ite2 (fun h4 => ?_) (fun h4 => ?_)
    · have h4' : decide (V.str ⟨#[c]⟩ = V.str ("0" : Str)) = true := h4
      rw [hz] at h4'
      have hc : c = 48 := of_decide_eq_true h4'
      have := k H' s'
      rw [show numV x = 0 by unfold numV; rw [if_neg (by rw [e1, hc]; simp)]] at this
      exact this
    · have hc : c ≠ 48 := fun q => h4 (by show decide (V.str ⟨#[c]⟩ = V.str ("0" : Str)) = true; rw [hz]; exact decide_eq_true q)
      have hne : x.cps.toList ≠ [] := fun q => by rw [q] at e1; cases e1
      refine ⟨_, rfl, x, _, rfl, PySem.intText_digits h3 hne (by omega), by omega, ?_⟩
      have := k H' s'
      rw [show numV x = ((PySem.NumText.digitsVal x.cps.toList : Nat) : Int) by unfold numV; rw [if_pos ⟨hw, by rw [e1]; simpa using hc⟩]] at this
      exact this


end
local macro_rules | `(tactic| walk_at "at") => `(tactic| first | assumption | exact At.same (by assumption) (by walk_at "sm"))
local macro_rules | `(tactic| walk_at "fld") => `(tactic| first
  | with_reducible exact At.fl (by assumption) (by walk_at "at") | with_reducible exact At.fw (by assumption) (by walk_at "at") | with_reducible exact At.fa (by assumption) (by walk_at "at")
  | with_reducible exact At.ft (by assumption) (by walk_at "at") | with_reducible exact At.fr (by assumption) (by walk_at "at") (by first | assumption | omega))
section
variable {P : Program} {w : World} {K : PySem.W.Frag} {mg : Str → Option Value} {base : Heap} {t : Adr}
/-! ### rows: data -/
end
def fitsP (x p : Str) : Bool := if p = "NAME" then nameB x else if p = "WHO" then nameB x || decide (x = "any") else if p = "NUMBER" then decide (numV x > 0) else decide (x = p)
def fitsF (ws fs : List Str) : Bool := decide (ws.length = fs.length) && (ws.zip fs).all fun p => fitsP p.1 p.2
def areN (ws : List Str) (m : Int) : Bool := decide (1 ≤ ws.length) && decide ((ws.length : Int) ≤ m) && ws.all nameB
structure Sh (ws : List Str) : Prop where
  few : ws.length ≤ 200
  short : ∀ x ∈ ws, x.length ≤ 400
theorem Sh.drop {ws : List Str} (h : Sh ws) (n : Nat) : Sh (ws.drop n) := ⟨by have := h.few; rw [List.length_drop]; omega, fun x hx => h.short x (List.mem_of_mem_drop hx)⟩
theorem Sh.take {ws : List Str} (h : Sh ws) (n : Nat) : Sh (ws.take n) := ⟨by have := h.few; rw [List.length_take]; omega, fun x hx => h.short x (List.mem_of_mem_take hx)⟩
theorem str_dec (a b : Str) : decide (V.str a = V.str b) = decide (a = b) := by
  by_cases h : a = b
  · subst h; simp
  · have : ¬ (V.str a = V.str b) := fun q => h (by injection q)
    rw [decide_eq_false this, decide_eq_false h]
theorem str_iff {a b : Str} (h : decide (V.str a = V.str b) = true) : a = b := by rw [str_dec] at h; exact of_decide_eq_true h
theorem str_nif {a b : Str} (h : ¬ decide (V.str a = V.str b) = true) : a ≠ b := fun q => h (by rw [str_dec]; exact decide_eq_true q)
theorem str_ne1 {a b : Str} (h : (!decide (V.str a = V.str b)) = true) : a ≠ b := fun q => by subst q; simp at h
theorem str_ne0 {a b : Str} (h : ¬ (!decide (V.str a = V.str b)) = true) : a = b := by
  rw [str_dec] at h
  by_cases q : a = b
  · exact q
  · exact absurd (by rw [decide_eq_false q]; rfl) h
theorem not_t {b : Bool} (h : (!b) = true) : b = false := by cases b; rfl; cases h
theorem not_f {b : Bool} (h : ¬ (!b) = true) : b = true := by cases b; exact absurd rfl h; rfl
theorem wd_mem {ws : List Str} {i : Nat} (h : i < ws.length) : ws.getD i "" ∈ ws := by
  rw [List.getD_eq_getElem?_getD, List.getElem?_eq_getElem h]
  exact List.getElem_mem h
def spPlace : Sp := fun vs H Q _ => ∃ (x p : Str), vs = [.str x, .str p] ∧ x.length ≤ 400 ∧ ∀ H', Same H H' → Q (.bl (fitsP x p)) H'
def spForm (K : PySem.W.Frag) : Sp := fun vs H Q _ => ∃ (a b : Addr) (ws fs : List Str), vs = [.ref a, .ref b] ∧ SqL K H a (ws.map V.str) ∧ SqL K H b (fs.map V.str) ∧ Sh ws ∧ ∀ H', Same H H' → Q (.bl (fitsF ws fs)) H'
def spAre (K : PySem.W.Frag) : Sp := fun vs H Q _ => ∃ (a : Addr) (m : Int) (ws : List Str), vs = [.ref a, .int m] ∧ SqL K H a (ws.map V.str) ∧ Sh ws ∧ ∀ H', Same H H' → Q (.bl (areN ws m)) H'
theorem all_map {α : Type} {xs : List α} {bs : List Bool} {f : α → Bool} (hl : bs.length = xs.length) (h : ∀ (i : Nat) x b, xs[i]? = some x → bs[i]? = some b → b = f x) : bs.all id = xs.all f := by
  have e : bs = xs.map f := by
    apply List.ext_getElem?
    intro i
    rw [List.getElem?_map]
    cases q : xs[i]? with
    | none => exact List.getElem?_eq_none_iff.mpr (by rw [hl]; exact List.getElem?_eq_none_iff.mp q)
    | some c =>
      have hi : i < bs.length := by rw [hl]; exact (List.getElem?_eq_some_iff.mp q).1
      rw [List.getElem?_eq_getElem hi, Option.map_some, h i c _ q (List.getElem?_eq_getElem hi)]
  rw [e, List.all_map]
  rfl
section
variable {P : Program} {w : World} {K : PySem.W.Frag} {mg : Str → Option Value} {base : Heap} {t : Adr}
/-! ### fits_place -/
theorem sc_v_fits_place : FnScope ["word", "place"] ["word", "place"] (defScope s_v_fits_place) := ⟨rfl, rfl, rfl, by decide +kernel, rfl, by decide +kernel, by decide +kernel⟩
set_option maxHeartbeats 400000 in
theorem ok_v_fits_place (T : Txt K mg t) : FnOk P w K mg base CX0 3 t.f_v_fits_place t.d_v_fits_place ["word", "place"] spPlace := by
  have G_v_is_name : FnOk P w K mg base CX0 2 t.f_v_is_name t.d_v_is_name ["word"] spName := (ok_v_is_name T).mono (by decide)
  have G_v_number_of : FnOk P w K mg base CX0 2 t.f_v_number_of t.d_v_number_of ["word"] spNum := (ok_v_number_of T).mono (by decide)
  refine T.v_fits_place.fn.ok sc_v_fits_place (fun vs H Q E h => (by obtain ⟨_, _, rfl, _⟩ := h; rfl)) (fun cdv A outer s H vs Q E hr h => ?_)
  obtain ⟨x, p, rfl, hx, k⟩ := h
  refine ⟨_, (pss_cons (ps_if (pt_cmpR op_eq (pv 1) pe_str (nomark _))
        (pss_one (ps_ret (pe_call G_v_is_name hr rfl T.v_is_name.mg T.v_is_name.fn.kp T.v_is_name.bd .nil pass0 (pa_cons (pv 0) pa_nil)))) pss_nil)
      (pss_cons (ps_if (pt_cmpR op_eq (pv 1) pe_str (nomark _))
        (pss_one (ps_ret (pe_or (pe_call G_v_is_name hr rfl T.v_is_name.mg T.v_is_name.fn.kp T.v_is_name.bd .nil pass0 (pa_cons (pv 0) pa_nil)) (pe_one (pe_cmpR op_eq (pv 0) pe_str (nomark _)))))) pss_nil)
      (pss_cons (ps_if (pt_cmpR op_eq (pv 1) pe_str (nomark _))
        (pss_one (ps_ret (pe_cmpR op_gt (pe_call G_v_number_of hr rfl T.v_number_of.mg T.v_number_of.fn.kp T.v_number_of.bd .nil pass0 (pa_cons (pv 0) pa_nil)) pe_int (nomark _)))) pss_nil)
      (pss_one (ps_ret (pe_cmpR op_eq (pv 0) (pv 1) (nomark _))))))), ?_⟩
  walk_at "rd"
  refine ite2 (fun h1 => ?_) (fun h1 => ?_)
  · have e := str_iff h1
    subst e
    walk_at "rd"
    intro H' s'
    have := k H' s'
    unfold fitsP at this
    rw [if_pos rfl] at this
    exact this
  have n1 := str_nif h1
  walk_at "rd"
  refine ite2 (fun h2 => ?_) (fun h2 => ?_)
  · have e := str_iff h2
    subst e
    walk_at "rd"
    intro H' s'
    have := k H' s'
    unfold fitsP at this
    rw [if_neg n1, if_pos rfl] at this
    refine ⟨_, rfl, ?_⟩
    refine ite2 (fun h3 => ?_) (fun h3 => ?_)
    · rw [h3] at this; exact this
    · walk_at "rd"
      rw [str_dec]
      rw [Bool.eq_false_iff.mpr h3] at this
      exact this
  have n2 := str_nif h2
  walk_at "rd"
  refine ite2 (fun h3 => ?_) (fun h3 => ?_)
  · have e := str_iff h3
    subst e
    walk_at "rd"
    intro H' s'
    walk_at "rd"
    have := k H' s'
    unfold fitsP at this
    rw [if_neg n1, if_neg n2, if_pos rfl] at this
    exact this
  have n3 := str_nif h3
  walk_at "rd"
  have := k H (Same.refl H)
  unfold fitsP at this
  rw [if_neg n1, if_neg n2, if_neg n3] at this
  rw [str_dec]
  exact this
/-! ### fits_form -/
theorem sc_v_fits_form : FnScope ["words", "form"] ["words", "form"] (defScope s_v_fits_form) := ⟨rfl, rfl, rfl, by decide +kernel, rfl, by decide +kernel, by decide +kernel⟩
set_option maxHeartbeats 400000 in
theorem ok_v_fits_form (T : Txt K mg t) : FnOk P w K mg base CX0 4 t.f_v_fits_form t.d_v_fits_form ["words", "form"] (spForm K) := by
  have G_v_fits_place : FnOk P w K mg base CX0 3 t.f_v_fits_place t.d_v_fits_place ["word", "place"] spPlace := (ok_v_fits_place T).mono (by decide)
  refine T.v_fits_form.fn.ok sc_v_fits_form (fun vs H Q E h => (by obtain ⟨_, _, _, _, rfl, _⟩ := h; rfl)) (fun cdv A outer s H vs Q E hr h => ?_)
  obtain ⟨a, b, ws, fs, rfl, hA, hB, hS, k⟩ := h
  refine ⟨_, (pss_cons (ps_if (pt_cmpR op_ne (pe_callB (callK_len (K := K) rfl) rfl T.b_len PySem.boot_len (pa_cons (pv 0) pa_nil)) (pe_callB (callK_len (K := K) rfl) rfl T.b_len PySem.boot_len (pa_cons (pv 1) pa_nil)) (nomark _))
        (pss_one (ps_ret pe_bl)) pss_nil)
      (pss_one (ps_ret (pe_callB (call_all_list rfl) rfl T.b_all PyProof.Rows.boot_all (pa_cons (pe_lcompG (osc := defScope s_v_fits_form) (N := ["words", "form"]) (xs := ["word", "place"]) (names := []) (caps := []) rfl rfl rfl ⟨rfl, by decide +kernel, by decide +kernel, by decide +kernel, by decide +kernel, rfl, by decide +kernel, by decide +kernel⟩ (piK_zip (K := K) rfl rfl T.b_zip (pa_cons (pv 0) (pa_cons (pv 1) pa_nil)) PyProof.Rows.boot_zip) (fun _ _ _ => (pg_tupK (K := K) (n := 2) rfl rfl (pgs_cons (pg_name (i := 0) (show (["word", "place"] : List Str).Nodup from by decide +kernel) rfl (.inl (locG rfl)) (.inr (locG rfl))) (pgs_cons (pg_name (i := 1) (show (["word", "place"] : List Str).Nodup from by decide +kernel) rfl (.inl (locG rfl)) (.inr (locG rfl))) pgs_nil)) rfl rfl)) (fun _ _ _ => pts_nil) (fun _ _ _ => (pe_call G_v_fits_place hr rfl T.v_fits_place.mg T.v_fits_place.fn.kp T.v_fits_place.bd .nil pass0 (pa_cons (pv 0) (pa_cons (pv 1) pa_nil))))) pa_nil))))), ?_⟩
  refine ⟨_, rfl, a, _, rfl, .inl hA, _, rfl, b, _, rfl, .inl hB, rfl, _, rfl, ?_⟩
  rw [List.length_map, List.length_map]
  refine ite2 (fun h1 => ?_) (fun h1 => ?_)
  · have := k H (Same.refl H)
    have e : ¬ ws.length = fs.length := by
      intro q; rw [q] at h1; simp at h1
    unfold fitsF at this
    rw [decide_eq_false e] at this
    exact this
  have hl : ws.length = fs.length := by
    by_cases q : ws.length = fs.length
    · exact q
    · exact absurd (by simp; omega) h1
  refine ⟨_, rfl, _, rfl, a, b, _, _, rfl, hA, hB, ?_⟩
  refine comp_zip hA hB (fun x y v => ∀ x' y', x = .str x' → y = .str y' → v = .bl (fitsP x' y')) (line_small (by have := hS.few; rw [List.length_map]; omega)) ?_ ?_
  · intro i x y H' Q' e1 e2 s' kk
    rw [List.getElem?_map] at e1 e2
    cases q1 : ws[i]? with
    | none => rw [q1] at e1; cases e1
    | some x' =>
      cases q2 : fs[i]? with
      | none => rw [q2] at e2; cases e2
      | some y' =>
        rw [q1] at e1
        rw [q2] at e2
        cases e1
        cases e2
        refine ⟨_, rfl, _, rfl, x', y', rfl, hS.short x' (List.mem_of_getElem? q1), fun H4 s4 => kk _ _ s4 fun a b ea eb => ?_⟩
        cases ea
        cases eb
        rfl
  · intro D H' vs s' hD hv hvl hp
    rw [List.length_map, List.length_map, hl, Nat.min_self] at hvl
    obtain ⟨bs, rfl⟩ := bls_of vs fun v hv' => by
      obtain ⟨i, hi, e⟩ := List.getElem_of_mem hv'
      have h1 : i < ws.length := by omega
      have h2 : i < fs.length := by omega
      exact ⟨_, hp i _ _ v (by rw [List.getElem?_map, List.getElem?_eq_getElem h1]; rfl) (by rw [List.getElem?_map, List.getElem?_eq_getElem h2]; rfl) (by rw [List.getElem?_eq_getElem hi, e]) _ _ rfl rfl⟩
    refine ⟨D, bs, rfl, SqL.of hv, ?_⟩
    have e : bs.all id = (ws.zip fs).all fun p => fitsP p.1 p.2 := all_map (by rw [List.length_zip, hl, Nat.min_self]; simpa using hvl) fun i p b q1 q2 => by
      rw [List.getElem?_zip_eq_some] at q1
      have := hp i _ _ (.bl b) (by rw [List.getElem?_map, q1.1]; rfl) (by rw [List.getElem?_map, q1.2]; rfl) (by rw [List.getElem?_map, q2]; rfl) _ _ rfl rfl
      simpa using this
    have := k H' s'
    unfold fitsF at this
    rw [decide_eq_true hl, ← e] at this
    exact this
/-! ### are_names -/
theorem sc_v_are_names : FnScope ["words", "most"] ["words", "most"] (defScope s_v_are_names) := ⟨rfl, rfl, rfl, by decide +kernel, rfl, by decide +kernel, by decide +kernel⟩
set_option maxHeartbeats 400000 in
theorem ok_v_are_names (T : Txt K mg t) : FnOk P w K mg base CX0 3 t.f_v_are_names t.d_v_are_names ["words", "most"] (spAre K) := by
  have G_v_is_name : FnOk P w K mg base CX0 2 t.f_v_is_name t.d_v_is_name ["word"] spName := (ok_v_is_name T).mono (by decide)
  refine T.v_are_names.fn.ok sc_v_are_names (fun vs H Q E h => (by obtain ⟨_, _, _, rfl, _⟩ := h; rfl)) (fun cdv A outer s H vs Q E hr h => ?_)
  obtain ⟨a, m, ws, rfl, hA, hS, k⟩ := h
  refine ⟨_, (pss_one (ps_ret (pe_and (pe_chain op_le op_le pe_int (pe_callB (callK_len (K := K) rfl) rfl T.b_len PySem.boot_len (pa_cons (pv 0) pa_nil)) (pv 1)) (pe_one (pe_callB (call_all_list rfl) rfl T.b_all PyProof.Rows.boot_all (pa_cons (pe_lcomp (osc := defScope s_v_are_names) (N := ["words", "most"]) (names := []) (caps := []) rfl rfl rfl ⟨rfl, by decide +kernel, by decide +kernel, by decide +kernel, rfl, rfl, by decide +kernel, by decide +kernel⟩ (piK_list (K := K) rfl (pv 0)) (fun _ _ _ => (pe_call G_v_is_name hr rfl T.v_is_name.mg T.v_is_name.fn.kp T.v_is_name.bd .nil pass0 (pa_cons (pv 0) pa_nil)))) pa_nil)))))), ?_⟩
  walk_at "rd"
  refine ⟨a, _, rfl, .inl hA, _, _, rfl, rfl, _, rfl, ?_⟩
  rw [List.length_map]
  have no : ∀ H', Same H H' → areN ws m = false → Q (.bl false) H' := fun H' s' e => by have := k H' s'; rw [e] at this; exact this
  refine ite2 (fun h1 => ?_) (fun h1 => ?_)
  · have h1' : 1 ≤ ws.length := by have := of_decide_eq_true h1; omega
    refine ⟨_, rfl, _, _, rfl, rfl, _, rfl, ?_⟩
    refine ite2 (fun h2 => ?_) (fun h2 => ?_)
    · have h2' : (ws.length : Int) ≤ m := of_decide_eq_true h2
      refine ⟨_, rfl, a, rfl, ⟨_, hA⟩, comp_seq (seqj_list hA) (fun _ y v => ∀ x, y = .str x → v = .bl (nameB x)) (line_small (by have := hS.few; rw [List.length_map]; omega)) ?_ ?_⟩
      · intro i y H' Q' e1 s' kk
        rw [List.getElem?_map] at e1
        cases q1 : ws[i]? with
        | none => rw [q1] at e1; cases e1
        | some x' =>
          rw [q1] at e1
          cases e1
          exact ⟨_, rfl, x', rfl, hS.short x' (List.mem_of_getElem? q1), fun H4 s4 => kk _ _ s4 fun a ea => by cases ea; rfl⟩
      · intro D H' vs s' hD hv hvl hp
        rw [List.length_map] at hvl
        obtain ⟨bs, rfl⟩ := bls_of vs fun v hv' => by
          obtain ⟨i, hi, e⟩ := List.getElem_of_mem hv'
          have h1 : i < ws.length := by omega
          exact ⟨_, hp i _ v (by rw [List.getElem?_map, List.getElem?_eq_getElem h1]; rfl) (by rw [List.getElem?_eq_getElem hi, e]) _ rfl⟩
        refine ⟨D, bs, rfl, SqL.of hv, ?_⟩
        have e : bs.all id = ws.all nameB := all_map (by simpa using hvl) fun i p b q1 q2 => by
          have := hp i _ (.bl b) (by rw [List.getElem?_map, q1]; rfl) (by rw [List.getElem?_map, q2]; rfl) _ rfl
          simpa using this
        have := k H' s'
        unfold areN at this
        rw [decide_eq_true h1', decide_eq_true h2', ← e] at this
        exact this
    · refine no H (Same.refl H) ?_
      have : ¬ (ws.length : Int) ≤ m := fun q => h2 (decide_eq_true q)
      simp [areN, this]
  · refine ⟨false, rfl, iteF ?_⟩
    refine no H (Same.refl H) ?_
    have : ¬ 1 ≤ ws.length := fun q => h1 (decide_eq_true (by omega))
    simp only [areN, decide_eq_false this, Bool.false_and]


/-! ### rows read: data -/
end
def spl (x : Str) : List Str := Txt.split x " "
theorem spl_len (x : Str) : 1 ≤ (spl x).length ∧ (spl x).length ≤ x.length + 2 := ⟨PyProof.Rows.split_pos x " ", PyProof.Rows.split_le x " "⟩
theorem spl_sh {x : Str} (h : x.length ≤ 190) : Sh (spl x) := ⟨by have := (spl_len x).2; omega, fun y hy => by have := PyProof.Rows.part_short (x := x) (y := " ") hy; omega⟩
theorem cut_drop {α : Type} (f : α → V) (xs : List α) (n : Nat) : cutV (xs.map f) (some (n : Int)) none = (xs.drop n).map f := by
  unfold cutV
  rw [HT.sIx_nat, HT.sIx_none, List.length_map, ← List.map_drop, ← List.map_take]
  by_cases h : n ≤ xs.length
  · rw [Nat.min_eq_left h, List.take_of_length_le (by rw [List.length_drop]; omega)]
  · rw [Nat.min_eq_right (by omega), Nat.sub_self, List.drop_eq_nil_of_le (Nat.le_refl _), List.drop_eq_nil_of_le (by omega)]
    rfl
theorem cut_take {α : Type} (f : α → V) (xs : List α) (n : Nat) : cutV (xs.map f) none (some (n : Int)) = (xs.take n).map f := by
  unfold cutV
  rw [HT.sIx_nat, HT.sIx_none, List.length_map, List.drop_zero, Nat.sub_zero, ← List.map_take]
  by_cases h : n ≤ xs.length
  · rw [Nat.min_eq_left h]
  · rw [Nat.min_eq_right (by omega), List.take_length, List.take_of_length_le (by omega)]
def wd (ws : List Str) (i : Nat) : Str := ws.getD i ""
def fLet : List Str := ["let", "NAME", "be", "NAME"]
def fPart : List Str := ["part", "NAME"]
def fDuty : List Str := ["NAME", "NAME", "must", "NAME", "by", "NUMBER", "else", "NAME"]
def fLeave : List Str := ["NAME", "WHO", "may", "NAME"]
def fBan : List Str := ["NAME", "WHO", "may", "not", "NAME", "else", "NAME"]
def fPower : List Str := ["NAME", "WHO", "by", "NAME", "to", "NAME"]
def namesO (ws : List Str) (x : Str) (m : Int) : List Str := if wd ws 0 ≠ x ∨ areN (ws.drop 1) m = false then [] else ws.drop 1
def roomO (ws : List Str) : Option (Str × Str) := if ws.length = 2 ∧ inV (.str (wd ws 0)) (ks_MARKS.map V.str) = true ∧ nameB (wd ws 1) = true then some (wd ws 0, wd ws 1) else none
def letO (ws : List Str) : Option (Str × Str) := if fitsF ws fLet = true then some (wd ws 1, wd ws 3) else none
def partO (ws : List Str) : Option (Str × List Str) := if fitsF (ws.take 2) fPart = true then (if ws.length = 2 then some (wd ws 1, []) else if wd ws 2 ≠ "in" ∨ areN (ws.drop 3) 12 = false then none else some (wd ws 1, ws.drop 3)) else none
def clauseO (ws : List Str) : Option (Int × Str × Str × Str × Int × Str) :=
  if fitsF ws fDuty = true then some (0, wd ws 0, wd ws 1, wd ws 3, numV (wd ws 5), wd ws 7)
  else if fitsF ws fLeave = true then some (1, wd ws 0, wd ws 1, wd ws 3, 0, "")
  else if fitsF ws fBan = true then some (2, wd ws 0, wd ws 1, wd ws 4, 0, wd ws 6)
  else if fitsF ws fPower = true then some (3, wd ws 0, wd ws 1, wd ws 3, 0, wd ws 5)
  else none
theorem fits_len {ws fs : List Str} (h : fitsF ws fs = true) : ws.length = fs.length := by
  unfold fitsF at h
  rw [Bool.and_eq_true] at h
  exact of_decide_eq_true h.1
/-! lets and parts as objects -/
def fl2 (n v : Str) : List (Str × V) := [("name", .str n), ("value", .str v)]
def fp3 (n : Str) (a b : Addr) : List (Str × V) := [("name", .str n), ("rooms", .ref a), ("rows", .ref b)]
theorem m1 : ¬ (("name" : Str) = "value") := by decide +kernel
theorem m2 : ¬ (("name" : Str) = "rooms") := by decide +kernel
theorem m3 : ¬ (("name" : Str) = "rows") := by decide +kernel
theorem m4 : ¬ (("rooms" : Str) = "rows") := by decide +kernel
theorem putL2 (n v : Str) : putF "value" (.str v) (putF "name" (.str n) []) = fl2 n v := by
  simp only [putF, fl2, if_neg m1]
theorem putP3 (n : Str) (a b : Addr) : putF "rows" (.ref b) (putF "rooms" (.ref a) (putF "name" (.str n) [])) = fp3 n a b := by
  simp only [putF, fp3, if_neg m2, if_neg m3, if_neg m4]
def AtL (t : Adr) (H : Hp) (p : Addr) (n v : Str) : Prop := ∃ dx, H p = some (.ins t.c_Let dx (fl2 n v))
def AtPv (t : Adr) (H0 H : Hp) (p : Addr) (n : Str) (rs : List Str) (ys : List V) : Prop := ∃ dx a b, H p = some (.ins t.c_Part dx (fp3 n a b)) ∧ H a = some (.lst (rs.map V.str)) ∧ H b = some (.lst ys) ∧ H0 a = none ∧ H0 b = none
abbrev AtP (t : Adr) (H0 H : Hp) (p : Addr) (n : Str) (rs : List Str) : Prop := AtPv t H0 H p n rs []
theorem AtPv.back {t : Adr} {H0 H1 H : Hp} {p : Addr} {n : Str} {rs : List Str} {ys : List V} (h : AtPv t H1 H p n rs ys) (s : Same H0 H1) : AtPv t H0 H p n rs ys := by
  obtain ⟨dx, a, b, e1, e2, e3, f1, f2⟩ := h
  exact ⟨dx, a, b, e1, e2, e3, s.free f1, s.free f2⟩
/-- all but p is as it was -/
def Off (p : Addr) (H H' : Hp) : Prop := ∀ b o, b ≠ p → H b = some o → H' b = some o
def spIL (t : Adr) : Sp := fun vs H Q _ => ∃ (p dx : Addr) (n v : Str), vs = [.ref p, .str n, .str v] ∧ H p = some (.ins t.c_Let dx []) ∧ Q .non (upd H p (.ins t.c_Let dx (fl2 n v)))
def spIP (K : PySem.W.Frag) (t : Adr) : Sp := fun vs H Q _ => ∃ (p dx a b : Addr) (n : Str) (xs : List Str) (ys : List V), vs = [.ref p, .str n, .ref a, .ref b] ∧ H p = some (.ins t.c_Part dx []) ∧ H a = some (.lst (xs.map V.str)) ∧ H b = some (.lst ys) ∧
  ∀ H', Off p H H' → AtPv t H H' p n xs ys → Q .non H'
def spNof : Sp := fun vs H Q _ => ∃ (x y : Str) (m : Int), vs = [.str x, .str y, .int m] ∧ x.length ≤ 190 ∧ ∀ l H', Same H H' → H l = none → H' l = some (.lst ((namesO (spl x) y m).map V.str)) → Q (.ref l) H'
def spRoom : Sp := fun vs H Q _ => ∃ (x : Str), vs = [.str x] ∧ x.length ≤ 190 ∧ ∀ H', Same H H' → (roomO (spl x) = none → Q .non H') ∧ ∀ p m n, roomO (spl x) = some (m, n) → H p = none → H' p = some (.tup [.str m, .str n]) → Q (.ref p) H'
def spLet (t : Adr) : Sp := fun vs H Q _ => ∃ (x : Str), vs = [.str x] ∧ x.length ≤ 190 ∧ ∀ H', Same H H' → (letO (spl x) = none → Q .non H') ∧ ∀ p n v, letO (spl x) = some (n, v) → H p = none → AtL t H' p n v → Q (.ref p) H'
def spPart (t : Adr) : Sp := fun vs H Q _ => ∃ (x : Str), vs = [.str x] ∧ x.length ≤ 190 ∧ ∀ H', Same H H' → (partO (spl x) = none → Q .non H') ∧ ∀ p n rs, partO (spl x) = some (n, rs) → H p = none → AtP t H H' p n rs → Q (.ref p) H'
def spClause (t : Adr) : Sp := fun vs H Q _ => ∃ (x : Str), vs = [.str x] ∧ x.length ≤ 190 ∧ ∀ H', Same H H' → (clauseO (spl x) = none → Q .non H') ∧ ∀ p k l u a n r, clauseO (spl x) = some (k, l, u, a, n, r) → H p = none → At t H' p k l u a n r → Q (.ref p) H'
theorem made_in {H : Hp} {p dx : Addr} {o o2 : HO} (hp : H p = none) (hdx : H dx = none) : Same H (upd (upd H dx o) p o2) := fun b u e => by rw [upd_ne (ne_of_none e hp), upd_ne (ne_of_none e hdx)]; exact e
theorem made_off {H H' : Hp} {p dx : Addr} {o o2 : HO} (hp : H p = none) (hdx : H dx = none) (f : Off p (upd (upd H dx o) p o2) H') : Same H H' := fun b u e => f b u (ne_of_none e hp) (made_in hp hdx b u e)
section
variable {P : Program} {w : World} {K : PySem.W.Frag} {mg : Str → Option Value} {base : Heap} {t : Adr}
theorem marksSeq (T : Txt K mg t) (H : Hp) : SqT K H t.k_MARKS (ks_MARKS.map V.str) := .inr T.o_MARKS
theorem marks_flat : (ks_MARKS.map V.str).all flatV = true := by decide +kernel
/-! ### the makings of lets and parts -/
theorem sc_Let_init : FnScope ["self", "name", "value"] ["self", "name", "value"] (defScope s_Let_init) := ⟨rfl, rfl, rfl, by decide +kernel, rfl, by decide +kernel, by decide +kernel⟩
set_option maxHeartbeats 400000 in
theorem ok_Let_init (T : Txt K mg t) : FnOk P w K mg base CX0 1 t.f_Let_init t.d_Let_init ["self", "name", "value"] (spIL t) := by
  refine T.Let_init.fn.ok sc_Let_init (fun vs H Q E h => (by obtain ⟨_, _, _, _, rfl, _⟩ := h; rfl)) (fun cdv A outer s H vs Q E hr h => ?_)
  obtain ⟨p, dx, n, v, rfl, hp, k⟩ := h
  refine ⟨_, (pss_cons (ps_fld (pv 0) (pv 1) rfl)
      (pss_one (ps_fld (pv 0) (pv 2) rfl))), ?_⟩
  refine ⟨_, rfl, _, rfl, p, _, dx, [], rfl, hp, T.cl_Let, T.na_Let_name, (by show 0 < 1000; decide), ?_⟩
  refine ⟨_, rfl, _, rfl, p, _, dx, _, rfl, upd_same, T.cl_Let, T.na_Let_value, (by show 1 < 1000; decide), ?_⟩
  rw [upd_upd, putL2]
  exact k
theorem sc_Part_init : FnScope ["self", "name", "rooms", "rows"] ["self", "name", "rooms", "rows"] (defScope s_Part_init) := ⟨rfl, rfl, rfl, by decide +kernel, rfl, by decide +kernel, by decide +kernel⟩
set_option maxHeartbeats 400000 in
theorem ok_Part_init (T : Txt K mg t) : FnOk P w K mg base CX0 1 t.f_Part_init t.d_Part_init ["self", "name", "rooms", "rows"] (spIP K t) := by
  refine T.Part_init.fn.ok sc_Part_init (fun vs H Q E h => (by obtain ⟨_, _, _, _, _, _, _, rfl, _⟩ := h; rfl)) (fun cdv A outer s H vs Q E hr h => ?_)
  obtain ⟨p, dx, a, b, n, xs, ys, rfl, hp, hA, hB, k⟩ := h
  refine ⟨_, (pss_cons (ps_fld (pv 0) (pv 1) rfl)
      (pss_cons (ps_fld (pv 0) (pe_callTy (ncK_list (K := K) rfl) rfl T.b_list PyProof.Rows.boot_list (pa_cons (pv 2) pa_nil)) rfl)
      (pss_one (ps_fld (pv 0) (pe_callTy (ncK_list (K := K) rfl) rfl T.b_list PyProof.Rows.boot_list (pa_cons (pv 3) pa_nil)) rfl)))), ?_⟩
  have na : a ≠ p := ne_of hA hp (by intro z; cases z)
  have nb : b ≠ p := ne_of hB hp (by intro z; cases z)
  refine ⟨_, rfl, _, rfl, p, _, dx, [], rfl, hp, T.cl_Part, T.na_Part_name, (by show 0 < 1000; decide), ?_⟩
  have o1 : Off p H (upd H p (.ins t.c_Part dx (putF "name" (.str n) []))) := fun c o hc e => by rw [upd_ne hc]; exact e
  generalize hH1 : upd H p (.ins t.c_Part dx (putF "name" (.str n) [])) = H1 at o1 ⊢
  have e1 : H1 p = some (.ins t.c_Part dx (putF "name" (.str n) [])) := by rw [← hH1]; exact upd_same
  refine ⟨_, rfl, a, _, rfl, .inl (SqL.of (o1 _ _ na hA)), ?_⟩
  intro q1 H2 s2 hq1 e2
  refine ⟨_, rfl, p, _, dx, _, rfl, s2 _ _ e1, T.cl_Part, T.na_Part_rooms, (by show 1 < 1000; decide), ?_⟩
  have nq1 : q1 ≠ p := Ne.symm (ne_of_none e1 hq1)
  have o2 : Off p H2 (upd H2 p (.ins t.c_Part dx (putF "rooms" (.ref q1) (putF "name" (.str n) [])))) := fun c o hc e => by rw [upd_ne hc]; exact e
  generalize hH3 : upd H2 p (.ins t.c_Part dx (putF "rooms" (.ref q1) (putF "name" (.str n) []))) = H3 at o2 ⊢
  have e3 : H3 p = some (.ins t.c_Part dx (putF "rooms" (.ref q1) (putF "name" (.str n) []))) := by rw [← hH3]; exact upd_same
  refine ⟨_, rfl, b, _, rfl, .inl (SqL.of (o2 _ _ nb (s2 _ _ (o1 _ _ nb hB)))), ?_⟩
  intro q2 H4 s4 hq2 e4
  refine ⟨_, rfl, p, _, dx, _, rfl, s4 _ _ e3, T.cl_Part, T.na_Part_rows, ?_, ?_⟩
  · have := length_putF ("rooms" : Str) (.ref q1) (putF "name" (.str n) [])
    have e : (putF ("name" : Str) (.str n) []).length = 1 := rfl
    omega
  have nq2 : q2 ≠ p := Ne.symm (ne_of_none e3 hq2)
  rw [putP3]
  refine k _ (fun c o hc e => by rw [upd_ne hc]; exact s4 _ _ (o2 _ _ hc (s2 _ _ (o1 _ _ hc e)))) ⟨dx, q1, q2, upd_same, ?_, ?_, ?_, ?_⟩
  · rw [upd_ne nq1]; exact s4 _ _ (o2 _ _ nq1 e2)
  · rw [upd_ne nq2]; exact e4
  · rw [← hH1, upd_ne nq1] at hq1; exact hq1
  · have z : H2 q2 = none := by rw [← hH3, upd_ne nq2] at hq2; exact hq2
    have z1 := s2.free z
    rw [← hH1, upd_ne nq2] at z1; exact z1
/-! ### names_of -/
theorem sc_v_names_of : FnScope ["row", "word", "most", "words"] ["row", "word", "most"] (defScope s_v_names_of) := ⟨rfl, rfl, rfl, by decide +kernel, rfl, by decide +kernel, by decide +kernel⟩
set_option maxHeartbeats 400000 in
theorem ok_v_names_of (T : Txt K mg t) : FnOk P w K mg base CX0 4 t.f_v_names_of t.d_v_names_of ["row", "word", "most"] spNof := by
  have G_v_are_names : FnOk P w K mg base CX0 3 t.f_v_are_names t.d_v_are_names ["words", "most"] (spAre K) := (ok_v_are_names T).mono (by decide)
  refine T.v_names_of.fn.ok sc_v_names_of (fun vs H Q E h => (by obtain ⟨_, _, _, rfl, _⟩ := h; rfl)) (fun cdv A outer s H vs Q E hr h => ?_)
  obtain ⟨x, y, m, rfl, hx, k⟩ := h
  refine ⟨_, (pss_cons (ps_set (i := 3) sc_v_names_of.nd rfl (Or.inl rfl) (pe_bm PySem.F.plainAttrs_str PySem.F.slot_str_split PySem.F.type_str_split nm_split (pv 0) (pa_cons pe_str pa_nil)))
      (pss_cons (ps_if (PW.pt (pw_or (pt_cmpR op_ne (pe_ix (ixK_list (K := K) rfl) (pv 3) pe_int (fun _ _ => rfl)) (pv 1) (nomark _)) (pw_or1 (pt_not (pt_val (pe_call G_v_are_names hr rfl T.v_are_names.mg T.v_are_names.fn.kp T.v_are_names.bd .nil pass0 (pa_cons (pe_slice (nsK_list (K := K) rfl) (pv 3) (po_some pe_int) po_none) (pa_cons (pv 2) pa_nil))))))))
        (pss_one (ps_ret (ne_lst pa_nil))) pss_nil)
      (pss_one (ps_ret (pe_slice (nsK_list (K := K) rfl) (pv 3) (po_some pe_int) po_none))))), ?_⟩
  walk_at "rd"
  refine ⟨line_small (by omega), ?_⟩
  intro lw H1 s1 hlw e1
  have hS := spl_sh hx
  have hl := (spl_len x).1
  have e1' : H1 lw = some (.lst ((spl x).map V.str)) := e1
  clear e1
  generalize spl x = ws at *
  walk_at "rd"
  refine ite2 (fun h1 => ?_) (fun h1 => ?_)
  · have n : namesO ws y m = [] := if_pos (.inl (str_ne1 h1))
    walk_at "rd"
    intro l H2 s2 hl2 e2
    exact k l H2 (s1.trans s2) (s1.free hl2) (by rw [n]; exact e2)
  have w0 := str_ne0 h1
  walk_at "rd"
  intro lc H2 s2 hlc e2
  replace e2 : H2 lc = some (.lst ((ws.drop 1).map V.str)) := by rw [← cut_drop V.str ws 1]; exact e2
  refine ⟨_, rfl, lc, m, _, rfl, SqL.of e2, hS.drop 1, fun H3 s3 => ?_⟩
  walk_at "rd"
  cases hN : areN (ws.drop 1) m with
  | false =>
    refine iteT ?_
    have n : namesO ws y m = [] := if_pos (.inr hN)
    walk_at "rd"
    intro l H4 s4 hl4 e4
    exact k l H4 (((s1.trans s2).trans s3).trans s4) (((s1.trans s2).trans s3).free hl4) (by rw [n]; exact e4)
  | true =>
    refine iteF ?_
    have n : namesO ws y m = ws.drop 1 := if_neg (fun q => q.elim (fun q => q w0) (fun q => by rw [hN] at q; cases q))
    walk_at "rd"
    intro l H4 s4 hl4 e4
    replace e4 : H4 l = some (.lst ((ws.drop 1).map V.str)) := by rw [← cut_drop V.str ws 1]; exact e4
    exact k l H4 (((s1.trans s2).trans s3).trans s4) (((s1.trans s2).trans s3).free hl4) (by rw [n]; exact e4)
/-! ### room_of -/
theorem sc_v_room_of : FnScope ["row", "words"] ["row"] (defScope s_v_room_of) := ⟨rfl, rfl, rfl, by decide +kernel, rfl, by decide +kernel, by decide +kernel⟩
set_option maxHeartbeats 400000 in
theorem ok_v_room_of (T : Txt K mg t) : FnOk P w K mg base CX0 3 t.f_v_room_of t.d_v_room_of ["row"] spRoom := by
  have G_v_is_name : FnOk P w K mg base CX0 2 t.f_v_is_name t.d_v_is_name ["word"] spName := (ok_v_is_name T).mono (by decide)
  refine T.v_room_of.fn.ok sc_v_room_of (fun vs H Q E h => (by obtain ⟨_, rfl, _⟩ := h; rfl)) (fun cdv A outer s H vs Q E hr h => ?_)
  obtain ⟨x, rfl, hx, k⟩ := h
  refine ⟨_, (pss_cons (ps_set (i := 1) sc_v_room_of.nd rfl (Or.inl rfl) (pe_bm PySem.F.plainAttrs_str PySem.F.slot_str_split PySem.F.type_str_split nm_split (pv 0) (pa_cons pe_str pa_nil)))
      (pss_cons (ps_if (PW.pt (pw_or (pt_cmpR op_ne (pe_callB (callK_len (K := K) rfl) rfl T.b_len PySem.boot_len (pa_cons (pv 1) pa_nil)) pe_int (nomark _)) (pw_or (pt_cmpR (opK_notIn (K := K) rfl) (pe_ix (ixK_list (K := K) rfl) (pv 1) pe_int (fun _ _ => rfl)) (pe_glob rfl T.g_MARKS (v := .ref t.k_MARKS) rfl) rfl) (pw_or1 (pt_not (pt_val (pe_call G_v_is_name hr rfl T.v_is_name.mg T.v_is_name.fn.kp T.v_is_name.bd .nil pass0 (pa_cons (pe_ix (ixK_list (K := K) rfl) (pv 1) pe_int (fun _ _ => rfl)) pa_nil))))))))
        (pss_one (ps_ret pe_non)) pss_nil)
      (pss_one (ps_ret (ne_tup (pa_cons (pe_ix (ixK_list (K := K) rfl) (pv 1) pe_int (fun _ _ => rfl)) (pa_cons (pe_ix (ixK_list (K := K) rfl) (pv 1) pe_int (fun _ _ => rfl)) pa_nil))))))), ?_⟩
  walk_at "rd"
  refine ⟨line_small (by omega), ?_⟩
  intro lw H1 s1 hlw e1
  have hS := spl_sh hx
  have e1' : H1 lw = some (.lst ((spl x).map V.str)) := e1
  clear e1
  generalize spl x = ws at *
  refine ⟨_, rfl, lw, _, rfl, .inl (SqL.of e1'), rfl, _, rfl, ?_⟩
  rw [List.length_map]
  have no : ∀ H', Same H H' → roomO ws = none → Q .non H' := fun H' s' e => (k H' s').1 e
  refine ite2 (fun h1 => iteT (no _ s1 (if_neg fun q => ?_))) (fun h1 => ?_)
  · rw [q.1] at h1; simp at h1
  have hl : ws.length = 2 := by
    by_cases q : ws.length = 2
    · exact q
    · exact absurd (by simp; omega) h1
  walk_at "rd"
  refine ⟨_, _, rfl, .inr (marksSeq T _), rfl, marks_flat, _, rfl, ?_⟩
  refine ite2 (fun h2 => iteT (no _ s1 (if_neg fun q => ?_))) (fun h2 => ?_)
  · have z : inV (.str (wd ws 0)) (ks_MARKS.map V.str) = false := not_t h2
    rw [z] at q
    cases q.2.1
  have hM : inV (.str (wd ws 0)) (ks_MARKS.map V.str) = true := not_f h2
  walk_at "rd"
  refine ⟨hS.short _ (wd_mem (by omega)), fun H2 s2 => ?_⟩
  walk_at "rd"
  refine ite2 (fun h3 => no _ (s1.trans s2) (if_neg fun q => ?_)) (fun h3 => ?_)
  · have z : nameB (wd ws 1) = false := not_t h3
    rw [z] at q
    cases q.2.2
  have hN : nameB (wd ws 1) = true := not_f h3
  walk_at "rd"
  intro p H3 s3 hp e3
  exact (k H3 ((s1.trans s2).trans s3)).2 p (wd ws 0) (wd ws 1) (if_pos ⟨hl, hM, hN⟩) ((s1.trans s2).free hp) e3
/-! ### let_of -/
theorem sc_v_let_of : FnScope ["row", "words"] ["row"] (defScope s_v_let_of) := ⟨rfl, rfl, rfl, by decide +kernel, rfl, by decide +kernel, by decide +kernel⟩
set_option maxHeartbeats 400000 in
theorem ok_v_let_of (T : Txt K mg t) : FnOk P w K mg base CX0 5 t.f_v_let_of t.d_v_let_of ["row"] (spLet t) := by
  have G_v_fits_form : FnOk P w K mg base CX0 4 t.f_v_fits_form t.d_v_fits_form ["words", "form"] (spForm K) := (ok_v_fits_form T).mono (by decide)
  have M_Let_init : FnOk P w K mg base CX0 3 t.f_Let_init t.d_Let_init ["self", "name", "value"] (spIL t) := (ok_Let_init T).mono (by decide)
  refine T.v_let_of.fn.ok sc_v_let_of (fun vs H Q E h => (by obtain ⟨_, rfl, _⟩ := h; rfl)) (fun cdv A outer s H vs Q E hr h => ?_)
  obtain ⟨x, rfl, hx, k⟩ := h
  refine ⟨_, (pss_cons (ps_set (i := 1) sc_v_let_of.nd rfl (Or.inl rfl) (pe_bm PySem.F.plainAttrs_str PySem.F.slot_str_split PySem.F.type_str_split nm_split (pv 0) (pa_cons pe_str pa_nil)))
      (pss_cons (ps_if (pt_not (pt_val (pe_call G_v_fits_form hr rfl T.v_fits_form.mg T.v_fits_form.fn.kp T.v_fits_form.bd .nil pass0 (pa_cons (pv 1) (pa_cons (ne_lst (pa_cons pe_str (pa_cons pe_str (pa_cons pe_str (pa_cons pe_str pa_nil))))) pa_nil)))))
        (pss_one (ps_ret pe_non)) pss_nil)
      (pss_one (ps_ret (pe_make T.mk_Let M_Let_init hr rfl T.m_Let T.Let_init.bd .nil pass0 (pa_cons (pe_ix (ixK_list (K := K) rfl) (pv 1) pe_int (fun _ _ => rfl)) (pa_cons (pe_ix (ixK_list (K := K) rfl) (pv 1) pe_int (fun _ _ => rfl)) pa_nil))))))), ?_⟩
  walk_at "rd"
  refine ⟨line_small (by omega), ?_⟩
  intro lw H1 s1 hlw e1
  have hS := spl_sh hx
  have e1' : H1 lw = some (.lst ((spl x).map V.str)) := e1
  clear e1
  generalize spl x = ws at *
  walk_at "rd"
  intro lf H2 s2 hlf e2
  refine ⟨lw, lf, ws, fLet, rfl, SqL.of (s2 _ _ e1'), SqL.of e2, hS, fun H3 s3 => ?_⟩
  walk_at "rd"
  refine ite2 (fun h3 => (k _ ((s1.trans s2).trans s3)).1 (if_neg fun q => ?_)) (fun h3 => ?_)
  · have z : fitsF ws fLet = false := not_t h3
    rw [z] at q
    cases q
  have hF : fitsF ws fLet = true := not_f h3
  have hl : ws.length = 4 := fits_len hF
  walk_at "rd"
  intro p dx hp hdx hne
  refine ⟨p, dx, _, _, rfl, upd_same, rfl, ?_⟩
  exact (k _ (((s1.trans s2).trans s3).trans (made_same hp hdx hne))).2 p _ _ (if_pos hF) (((s1.trans s2).trans s3).free hp) ⟨dx, upd_same⟩
/-! ### part_of -/
theorem sc_v_part_of : FnScope ["row", "words"] ["row"] (defScope s_v_part_of) := ⟨rfl, rfl, rfl, by decide +kernel, rfl, by decide +kernel, by decide +kernel⟩
set_option maxHeartbeats 400000 in
theorem ok_v_part_of (T : Txt K mg t) : FnOk P w K mg base CX0 5 t.f_v_part_of t.d_v_part_of ["row"] (spPart t) := by
  have G_v_are_names : FnOk P w K mg base CX0 4 t.f_v_are_names t.d_v_are_names ["words", "most"] (spAre K) := (ok_v_are_names T).mono (by decide)
  have G_v_fits_form : FnOk P w K mg base CX0 4 t.f_v_fits_form t.d_v_fits_form ["words", "form"] (spForm K) := (ok_v_fits_form T).mono (by decide)
  have M_Part_init : FnOk P w K mg base CX0 3 t.f_Part_init t.d_Part_init ["self", "name", "rooms", "rows"] (spIP K t) := (ok_Part_init T).mono (by decide)
  refine T.v_part_of.fn.ok sc_v_part_of (fun vs H Q E h => (by obtain ⟨_, rfl, _⟩ := h; rfl)) (fun cdv A outer s H vs Q E hr h => ?_)
  obtain ⟨x, rfl, hx, k⟩ := h
  refine ⟨_, (pss_cons (ps_set (i := 1) sc_v_part_of.nd rfl (Or.inl rfl) (pe_bm PySem.F.plainAttrs_str PySem.F.slot_str_split PySem.F.type_str_split nm_split (pv 0) (pa_cons pe_str pa_nil)))
      (pss_cons (ps_if (pt_not (pt_val (pe_call G_v_fits_form hr rfl T.v_fits_form.mg T.v_fits_form.fn.kp T.v_fits_form.bd .nil pass0 (pa_cons (pe_slice (nsK_list (K := K) rfl) (pv 1) po_none (po_some pe_int)) (pa_cons (ne_lst (pa_cons pe_str (pa_cons pe_str pa_nil))) pa_nil)))))
        (pss_one (ps_ret pe_non)) pss_nil)
      (pss_cons (ps_if (pt_cmpR op_eq (pe_callB (callK_len (K := K) rfl) rfl T.b_len PySem.boot_len (pa_cons (pv 1) pa_nil)) pe_int (nomark _))
        (pss_one (ps_ret (pe_make T.mk_Part M_Part_init hr rfl T.m_Part T.Part_init.bd .nil pass0 (pa_cons (pe_ix (ixK_list (K := K) rfl) (pv 1) pe_int (fun _ _ => rfl)) (pa_cons (ne_lst pa_nil) (pa_cons (ne_lst pa_nil) pa_nil)))))) pss_nil)
      (pss_cons (ps_if (PW.pt (pw_or (pt_cmpR op_ne (pe_ix (ixK_list (K := K) rfl) (pv 1) pe_int (fun _ _ => rfl)) pe_str (nomark _)) (pw_or1 (pt_not (pt_val (pe_call G_v_are_names hr rfl T.v_are_names.mg T.v_are_names.fn.kp T.v_are_names.bd .nil pass0 (pa_cons (pe_slice (nsK_list (K := K) rfl) (pv 1) (po_some pe_int) po_none) (pa_cons (pe_glob rfl (T.g_MOST_ROOMS).choose_spec (v := .int 12) ⟨_, rfl⟩) pa_nil))))))))
        (pss_one (ps_ret pe_non)) pss_nil)
      (pss_one (ps_ret (pe_make T.mk_Part M_Part_init hr rfl T.m_Part T.Part_init.bd .nil pass0 (pa_cons (pe_ix (ixK_list (K := K) rfl) (pv 1) pe_int (fun _ _ => rfl)) (pa_cons (pe_slice (nsK_list (K := K) rfl) (pv 1) (po_some pe_int) po_none) (pa_cons (ne_lst pa_nil) pa_nil)))))))))), ?_⟩
  walk_at "rd"
  refine ⟨line_small (by omega), ?_⟩
  intro lw H1 s1 hlw e1
  have hS := spl_sh hx
  have e1' : H1 lw = some (.lst ((spl x).map V.str)) := e1
  clear e1
  generalize spl x = ws at *
  walk_at "rd"
  intro lc H2 s2 hlc e2
  replace e2 : H2 lc = some (.lst ((ws.take 2).map V.str)) := by rw [← cut_take V.str ws 2]; exact e2
  walk_at "rd"
  intro lf H3 s3 hlf e3
  refine ⟨lc, lf, ws.take 2, fPart, rfl, SqL.of (s3 _ _ e2), SqL.of e3, hS.take 2, fun H4 s4 => ?_⟩
  have sA : Same H H4 := ((s1.trans s2).trans s3).trans s4
  walk_at "rd"
  refine ite2 (fun h3 => (k _ sA).1 (if_neg fun q => ?_)) (fun h3 => ?_)
  · have z : fitsF (ws.take 2) fPart = false := not_t h3
    rw [z] at q
    cases q
  have hF : fitsF (ws.take 2) fPart = true := not_f h3
  have hl : 2 ≤ ws.length := by have : (ws.take 2).length = 2 := fits_len hF; rw [List.length_take] at this; omega
  have e4 : H4 lw = some (.lst (ws.map V.str)) := s4 _ _ (s3 _ _ (s2 _ _ e1'))
  clear e1' e2 e3 s1 s2 s3 s4
  refine ⟨_, rfl, lw, _, rfl, .inl (SqL.of e4), rfl, _, rfl, ?_⟩
  rw [List.length_map]
  refine ite2 (fun h4 => ?_) (fun h4 => ?_)
  · have hl2 : ws.length = 2 := by have := of_decide_eq_true h4; injection this with this; omega
    walk_at "rd"
    intro a1 H5 s5 ha1 e5
    walk_at "rd"
    intro a2 H6 s6 ha2 e6
    walk_at "rd"
    intro p dx hp hdx hne
    have sM := made_in (o := HO.own p) (o2 := HO.ins t.c_Part dx []) hp hdx
    refine ⟨p, dx, a1, a2, _, [], [], rfl, upd_same, sM _ _ (s6 _ _ e5), sM _ _ e6, fun H7 o7 h7 => ⟨rfl, ?_⟩⟩
    exact (k H7 (((sA.trans s5).trans s6).trans (made_off hp hdx o7))).2 p _ _ (by unfold partO; rw [if_pos hF, if_pos hl2]; rfl) (((sA.trans s5).trans s6).free hp) (h7.back (((sA.trans s5).trans s6).trans sM))
  have hl3 : ¬ ws.length = 2 := fun q => h4 (decide_eq_true (by rw [q]; rfl))
  walk_at "rd"
  refine ite2 (fun h5 => iteT ((k _ sA).1 ?_)) (fun h5 => ?_)
  · unfold partO
    rw [if_pos hF, if_neg hl3, if_pos (.inl (str_ne1 h5))]
  have hin : wd ws 2 = "in" := str_ne0 h5
  walk_at "rd"
  intro lc H5 s5 hlc e5
  replace e5 : H5 lc = some (.lst ((ws.drop 3).map V.str)) := by rw [← cut_drop V.str ws 3]; exact e5
  refine ⟨lc, _, _, rfl, SqL.of e5, hS.drop 3, fun H6 s6 => ?_⟩
  walk_at "rd"
  refine ite2 (fun h6 => (k _ ((sA.trans s5).trans s6)).1 ?_) (fun h6 => ?_)
  · unfold partO
    rw [if_pos hF, if_neg hl3, if_pos (.inr (not_t h6))]
  have hN : areN (ws.drop 3) 12 = true := not_f h6
  have e6 : H6 lw = some (.lst (ws.map V.str)) := s6 _ _ (s5 _ _ e4)
  clear e4 e5
  walk_at "rd"
  intro a1 H7 s7 ha1 e7
  replace e7 : H7 a1 = some (.lst ((ws.drop 3).map V.str)) := by rw [← cut_drop V.str ws 3]; exact e7
  walk_at "rd"
  intro a2 H8 s8 ha2 e8
  walk_at "rd"
  intro p dx hp hdx hne
  have sM := made_in (o := HO.own p) (o2 := HO.ins t.c_Part dx []) hp hdx
  refine ⟨p, dx, a1, a2, _, _, [], rfl, upd_same, sM _ _ (s8 _ _ e7), sM _ _ e8, fun H9 o9 h9 => ⟨rfl, ?_⟩⟩
  exact (k H9 (((((sA.trans s5).trans s6).trans s7).trans s8).trans (made_off hp hdx o9))).2 p _ _ (by unfold partO; rw [if_pos hF, if_neg hl3, if_neg (fun q => q.elim (fun q => q hin) (fun q => by rw [hN] at q; cases q))]; rfl) (((((sA.trans s5).trans s6).trans s7).trans s8).free hp) (h9.back (((((sA.trans s5).trans s6).trans s7).trans s8).trans sM))
/-! ### clause_of -/
theorem sc_v_clause_of : FnScope ["row", "words"] ["row"] (defScope s_v_clause_of) := ⟨rfl, rfl, rfl, by decide +kernel, rfl, by decide +kernel, by decide +kernel⟩
set_option maxHeartbeats 400000 in
theorem ok_v_clause_of (T : Txt K mg t) : FnOk P w K mg base CX0 5 t.f_v_clause_of t.d_v_clause_of ["row"] (spClause t) := by
  have G_v_fits_form : FnOk P w K mg base CX0 4 t.f_v_fits_form t.d_v_fits_form ["words", "form"] (spForm K) := (ok_v_fits_form T).mono (by decide)
  have G_v_number_of : FnOk P w K mg base CX0 4 t.f_v_number_of t.d_v_number_of ["word"] spNum := (ok_v_number_of T).mono (by decide)
  have M_Ban_init : FnOk P w K mg base CX0 3 t.f_Ban_init t.d_Ban_init ["self", "label", "who", "act", "room"] (spI4 K) := (ok_Ban_init T).mono (by decide)
  have M_Clause_init : FnOk P w K mg base CX0 3 t.f_Clause_init t.d_Clause_init ["self", "label", "who", "act"] (spI3 K) := (ok_Clause_init T).mono (by decide)
  have M_Duty_init : FnOk P w K mg base CX0 3 t.f_Duty_init t.d_Duty_init ["self", "label", "who", "act", "turns", "room"] (spI5 K) := (ok_Duty_init T).mono (by decide)
  have M_Power_init : FnOk P w K mg base CX0 3 t.f_Power_init t.d_Power_init ["self", "label", "who", "act", "room"] (spI4 K) := (ok_Power_init T).mono (by decide)
  refine T.v_clause_of.fn.ok sc_v_clause_of (fun vs H Q E h => (by obtain ⟨_, rfl, _⟩ := h; rfl)) (fun cdv A outer s H vs Q E hr h => ?_)
  obtain ⟨x, rfl, hx, k⟩ := h
  refine ⟨_, (pss_cons (ps_set (i := 1) sc_v_clause_of.nd rfl (Or.inl rfl) (pe_bm PySem.F.plainAttrs_str PySem.F.slot_str_split PySem.F.type_str_split nm_split (pv 0) (pa_cons pe_str pa_nil)))
      (pss_cons (ps_if (pt_val (pe_call G_v_fits_form hr rfl T.v_fits_form.mg T.v_fits_form.fn.kp T.v_fits_form.bd .nil pass0 (pa_cons (pv 1) (pa_cons (ne_lst (pa_cons pe_str (pa_cons pe_str (pa_cons pe_str (pa_cons pe_str (pa_cons pe_str (pa_cons pe_str (pa_cons pe_str (pa_cons pe_str pa_nil))))))))) pa_nil))))
        (pss_one (ps_ret (pe_make T.mk_Duty M_Duty_init hr rfl T.m_Duty T.Duty_init.bd .nil pass0 (pa_cons (pe_ix (ixK_list (K := K) rfl) (pv 1) pe_int (fun _ _ => rfl)) (pa_cons (pe_ix (ixK_list (K := K) rfl) (pv 1) pe_int (fun _ _ => rfl)) (pa_cons (pe_ix (ixK_list (K := K) rfl) (pv 1) pe_int (fun _ _ => rfl)) (pa_cons (pe_call G_v_number_of hr rfl T.v_number_of.mg T.v_number_of.fn.kp T.v_number_of.bd .nil pass0 (pa_cons (pe_ix (ixK_list (K := K) rfl) (pv 1) pe_int (fun _ _ => rfl)) pa_nil)) (pa_cons (pe_ix (ixK_list (K := K) rfl) (pv 1) pe_int (fun _ _ => rfl)) pa_nil)))))))) pss_nil)
      (pss_cons (ps_if (pt_val (pe_call G_v_fits_form hr rfl T.v_fits_form.mg T.v_fits_form.fn.kp T.v_fits_form.bd .nil pass0 (pa_cons (pv 1) (pa_cons (ne_lst (pa_cons pe_str (pa_cons pe_str (pa_cons pe_str (pa_cons pe_str pa_nil))))) pa_nil))))
        (pss_one (ps_ret (pe_make T.mk_Leave M_Clause_init hr rfl T.m_Leave T.Clause_init.bd .nil pass0 (pa_cons (pe_ix (ixK_list (K := K) rfl) (pv 1) pe_int (fun _ _ => rfl)) (pa_cons (pe_ix (ixK_list (K := K) rfl) (pv 1) pe_int (fun _ _ => rfl)) (pa_cons (pe_ix (ixK_list (K := K) rfl) (pv 1) pe_int (fun _ _ => rfl)) pa_nil)))))) pss_nil)
      (pss_cons (ps_if (pt_val (pe_call G_v_fits_form hr rfl T.v_fits_form.mg T.v_fits_form.fn.kp T.v_fits_form.bd .nil pass0 (pa_cons (pv 1) (pa_cons (ne_lst (pa_cons pe_str (pa_cons pe_str (pa_cons pe_str (pa_cons pe_str (pa_cons pe_str (pa_cons pe_str (pa_cons pe_str pa_nil)))))))) pa_nil))))
        (pss_one (ps_ret (pe_make T.mk_Ban M_Ban_init hr rfl T.m_Ban T.Ban_init.bd .nil pass0 (pa_cons (pe_ix (ixK_list (K := K) rfl) (pv 1) pe_int (fun _ _ => rfl)) (pa_cons (pe_ix (ixK_list (K := K) rfl) (pv 1) pe_int (fun _ _ => rfl)) (pa_cons (pe_ix (ixK_list (K := K) rfl) (pv 1) pe_int (fun _ _ => rfl)) (pa_cons (pe_ix (ixK_list (K := K) rfl) (pv 1) pe_int (fun _ _ => rfl)) pa_nil))))))) pss_nil)
      (pss_cons (ps_if (pt_val (pe_call G_v_fits_form hr rfl T.v_fits_form.mg T.v_fits_form.fn.kp T.v_fits_form.bd .nil pass0 (pa_cons (pv 1) (pa_cons (ne_lst (pa_cons pe_str (pa_cons pe_str (pa_cons pe_str (pa_cons pe_str (pa_cons pe_str (pa_cons pe_str pa_nil))))))) pa_nil))))
        (pss_one (ps_ret (pe_make T.mk_Power M_Power_init hr rfl T.m_Power T.Power_init.bd .nil pass0 (pa_cons (pe_ix (ixK_list (K := K) rfl) (pv 1) pe_int (fun _ _ => rfl)) (pa_cons (pe_ix (ixK_list (K := K) rfl) (pv 1) pe_int (fun _ _ => rfl)) (pa_cons (pe_ix (ixK_list (K := K) rfl) (pv 1) pe_int (fun _ _ => rfl)) (pa_cons (pe_ix (ixK_list (K := K) rfl) (pv 1) pe_int (fun _ _ => rfl)) pa_nil))))))) pss_nil)
      (pss_one (ps_ret pe_non))))))), ?_⟩
  walk_at "rd"
  refine ⟨line_small (by omega), ?_⟩
  intro lw H1 s1 hlw e1
  have hS := spl_sh hx
  have e1' : H1 lw = some (.lst ((spl x).map V.str)) := e1
  clear e1
  generalize spl x = ws at *
  walk_at "rd"
  intro lf H2 s2 hlf e2
  refine ⟨lw, lf, ws, fDuty, rfl, SqL.of (s2 _ _ e1'), SqL.of e2, hS, fun H3 s3 => ?_⟩
  have e3 : H3 lw = some (.lst (ws.map V.str)) := s3 _ _ (s2 _ _ e1')
  have sA : Same H H3 := (s1.trans s2).trans s3
  clear e1' e2 s1 s2 s3
  walk_at "rd"
  refine ite2 (fun h1 => ?_) (fun h1 => ?_)
  · have hl : ws.length = 8 := fits_len h1
    walk_at "rd"
    refine ⟨hS.short _ (wd_mem (by omega)), fun H4 s4 => ?_⟩
    have e4 : H4 lw = some (.lst (ws.map V.str)) := s4 _ _ e3
    clear e3
    walk_at "rd"
    intro p dx hp hdx hne
    refine ⟨p, _, dx, _, _, _, _, _, _, rfl, cf_Duty T, upd_same, rfl, ?_⟩
    exact (k _ ((sA.trans s4).trans (made_same hp hdx hne))).2 p 0 _ _ _ _ _ (by unfold clauseO; rw [if_pos h1]; rfl) ((sA.trans s4).free hp) ⟨dx, upd_same⟩
  have f1 : ¬ fitsF ws fDuty = true := h1
  walk_at "rd"
  intro lf2 H4 s4 hlf2 e4
  refine ⟨lw, lf2, ws, fLeave, rfl, SqL.of (s4 _ _ e3), SqL.of e4, hS, fun H5 s5 => ?_⟩
  have e5 : H5 lw = some (.lst (ws.map V.str)) := s5 _ _ (s4 _ _ e3)
  have sB : Same H H5 := (sA.trans s4).trans s5
  clear e3 e4 s4 s5 sA
  walk_at "rd"
  refine ite2 (fun h2 => ?_) (fun h2 => ?_)
  · have hl : ws.length = 4 := fits_len h2
    walk_at "rd"
    intro p dx hp hdx hne
    refine ⟨p, _, dx, _, _, _, _, rfl, cf_Leave T, upd_same, rfl, ?_⟩
    exact (k _ (sB.trans (made_same hp hdx hne))).2 p 1 _ _ _ 0 "" (by unfold clauseO; rw [if_neg f1, if_pos h2]; rfl) (sB.free hp) ⟨dx, upd_same⟩
  have f2 : ¬ fitsF ws fLeave = true := h2
  walk_at "rd"
  intro lf3 H6 s6 hlf3 e6
  refine ⟨lw, lf3, ws, fBan, rfl, SqL.of (s6 _ _ e5), SqL.of e6, hS, fun H7 s7 => ?_⟩
  have e7 : H7 lw = some (.lst (ws.map V.str)) := s7 _ _ (s6 _ _ e5)
  have sC : Same H H7 := (sB.trans s6).trans s7
  clear e5 e6 s6 s7 sB
  walk_at "rd"
  refine ite2 (fun h3 => ?_) (fun h3 => ?_)
  · have hl : ws.length = 7 := fits_len h3
    walk_at "rd"
    intro p dx hp hdx hne
    refine ⟨p, _, dx, _, _, _, _, _, rfl, cf_Ban T, upd_same, rfl, ?_⟩
    exact (k _ (sC.trans (made_same hp hdx hne))).2 p 2 _ _ _ 0 _ (by unfold clauseO; rw [if_neg f1, if_neg f2, if_pos h3]; rfl) (sC.free hp) ⟨dx, upd_same⟩
  have f3 : ¬ fitsF ws fBan = true := h3
  walk_at "rd"
  intro lf4 H8 s8 hlf4 e8
  refine ⟨lw, lf4, ws, fPower, rfl, SqL.of (s8 _ _ e7), SqL.of e8, hS, fun H9 s9 => ?_⟩
  have e9 : H9 lw = some (.lst (ws.map V.str)) := s9 _ _ (s8 _ _ e7)
  have sD : Same H H9 := (sC.trans s8).trans s9
  clear e7 e8 s8 s9 sC
  walk_at "rd"
  refine ite2 (fun h4 => ?_) (fun h4 => ?_)
  · have hl : ws.length = 6 := fits_len h4
    walk_at "rd"
    intro p dx hp hdx hne
    refine ⟨p, _, dx, _, _, _, _, _, rfl, cf_Power T, upd_same, rfl, ?_⟩
    exact (k _ (sD.trans (made_same hp hdx hne))).2 p 3 _ _ _ 0 _ (by unfold clauseO; rw [if_neg f1, if_neg f2, if_neg f3, if_pos h4]; rfl) (sD.free hp) ⟨dx, upd_same⟩
  exact (k _ sD).1 (by unfold clauseO; rw [if_neg f1, if_neg f2, if_neg f3, if_neg h4])


/-! ### reading: data -/
end
theorem boot_set : bootBuiltins (Str.ofString "set") = some (Value.type "set") := by kernel_rfl
def ehT (t : Adr) (n : Int) (H : Hp) : XK := fun c o H' => ∃ a, o = some a ∧ c = .ref t.c_NoText ∧ Same H H' ∧ XOk H' a t.c_NoText [("row", .int n)]
theorem ehT.back {t : Adr} {n : Int} {H0 H : Hp} {c : Value} {o : Option Addr} {H' : Hp} (h : ehT t n H c o H') (s : Same H0 H) : ehT t n H0 c o H' := by
  obtain ⟨a, h1, h2, h3, h4⟩ := h
  exact ⟨a, h1, h2, s.trans h3, h4⟩
def spXI (K : PySem.W.Frag) (f : Str) : Sp := fun vs H Q _ => ∃ (a C : Addr) (v : V), vs = [.ref a, v] ∧ XCl K C ∧ NoAttr K C f ∧ H a = some (xN a C none) ∧ ∀ dx, H dx = none → dx ≠ a → Q .non (upd (upd H dx (xD dx [(f, v)])) a (xN a C (some dx)))
/-- the rows of a text that are short -/
structure RowsOk (rows : List Str) : Prop where
  few : rows.length ≤ 400
  short : ∀ x ∈ rows, x.length ≤ 190
def namesR (rows : List Str) (i : Nat) (x : Str) (m : Int) (taken : List Str) : Option (List Str) :=
  if i = rows.length then none else
    let ns := namesO (spl (wd rows i)) x m
    if ns = [] ∨ ¬ (taken ++ ns).Nodup then none else some ns
theorem has_in {z : Str} {c : Nat} (h : has z c = true) : c ∈ z.cps.toList := by
  unfold has at h
  rw [StrLaws.found_one] at h
  simpa using h
theorem name_asc {x : Str} (h : nameB x = true) : asc x := fun c hc => by
  unfold nameB writ at h
  (simp only [Bool.and_eq_true] at h)
  exact lets_ok.2.2 c (has_in (List.all_eq_true.mp h.1.2 c hc))
theorem namesO_ok {ws : List Str} {x : Str} {m : Int} : (namesO ws x m).length ≤ ws.length ∧ ∀ y ∈ namesO ws x m, nameB y = true := by
  unfold namesO
  split
  · exact ⟨Nat.zero_le _, fun y hy => by cases hy⟩
  · rename_i h
    refine ⟨by rw [List.length_drop]; omega, fun y hy => ?_⟩
    have : areN (ws.drop 1) m = true := by
      cases q : areN (ws.drop 1) m with
      | true => rfl
      | false => exact absurd (.inr q) h
    unfold areN at this
    rw [Bool.and_eq_true] at this
    exact List.all_eq_true.mp this.2 y hy
def spTold (K : PySem.W.Frag) : Sp := fun vs H Q _ => ∃ (l : Addr) (zs : List Str), vs = [.ref l] ∧ SqL K H l (zs.map V.str) ∧ zs.length < 1000 ∧ ∀ H', Same H H' → Q (.bl (decide zs.Nodup)) H'
def spRN (K : PySem.W.Frag) (t : Adr) : Sp := fun vs H Q E => ∃ (a b : Addr) (i : Nat) (x : Str) (m : Int) (rows taken : List Str), vs = [.ref a, .int i, .str x, .int m, .ref b] ∧ SqL K H a (rows.map V.str) ∧ H b = some (.lst (taken.map V.str)) ∧ i ≤ rows.length ∧ RowsOk rows ∧ taken.length ≤ 300 ∧ m ≤ 100 ∧
  (namesR rows i x m taken = none → ∀ c o H', ehT t i H c o H' → E c o H') ∧ ∀ ns l H', namesR rows i x m taken = some ns → Same H H' → H l = none → H' l = some (.lst (ns.map V.str)) → Q (.ref l) H'
section
variable {P : Program} {w : World} {K : PySem.W.Frag} {mg : Str → Option Value} {base : Heap} {t : Adr}
theorem sc_NoText_init : FnScope ["self", "row"] ["self", "row"] (defScope s_NoText_init) := ⟨rfl, rfl, rfl, by decide +kernel, rfl, by decide +kernel, by decide +kernel⟩
set_option maxHeartbeats 400000 in
theorem ok_NoText_init (T : Txt K mg t) : FnOk P w K mg base CX0 1 t.f_NoText_init t.d_NoText_init ["self", "row"] (spXI K "row") := by
  refine T.NoText_init.fn.ok sc_NoText_init (fun vs H Q E h => (by obtain ⟨_, _, _, rfl, _⟩ := h; rfl)) (fun cdv A outer s H vs Q E hr h => ?_)
  obtain ⟨a, C, v, rfl, c, n, e, k⟩ := h
  exact ⟨_, (pss_one (ps_xfld (pv 0) (pv 1) rfl)), _, rfl, _, rfl, a, C, rfl, c, n, .inl ⟨e, k⟩⟩
theorem raise1 {C : Addr} {f : Str} {v : V} {H : Hp} {E : XK} {X : XK} (c : XCl K C) (n : NoAttr K C f) (xc : xclIn K C = true) (k : ∀ a H', Same H H' → XOk H' a C [(f, v)] → E (.ref C) (some a) H') :
    ∀ a, H a = none → spXI K f (.ref a :: ([v] ++ [])) (upd H a (xN a C none)) (fun u H2 => u = .non ∧ ∃ a' C' d, V.ref a = .ref a' ∧ xclIn K C' = true ∧ H2 a' = some (xN a' C' d) ∧ E (.ref C') (some a') (upd H2 a' (xO a' C' d))) X := by
  intro a ha
  refine ⟨a, C, v, rfl, c, n, upd_same, fun dx hd hne => ⟨rfl, a, C, some dx, rfl, xc, upd_same, k a _ (fun b o e => ?_) (.inr ⟨dx, upd_same, ?_⟩)⟩⟩
  · have q := ne_of_none e ha
    have e' : (upd H a (xN a C none)) b = some o := by rw [upd_ne q]; exact e
    rw [upd_ne q, upd_ne q, upd_ne (ne_of_none e' hd)]; exact e'
  · rw [upd_ne hne, upd_ne hne]; exact upd_same
theorem raiseT (T : Txt K mg t) {n : Int} {H : Hp} {E : XK} {X : XK} (k : ∀ c o H', ehT t n H c o H' → E c o H') :
    ∀ a, H a = none → spXI K "row" (.ref a :: ([V.int n] ++ [])) (upd H a (xN a t.c_NoText none)) (fun u H2 => u = .non ∧ ∃ a' C' d, V.ref a = .ref a' ∧ xclIn K C' = true ∧ H2 a' = some (xN a' C' d) ∧ E (.ref C') (some a') (upd H2 a' (xO a' C' d))) X :=
  raise1 T.xc_NoText T.na_NoText_row T.xm_NoText.xc fun a H' s x => k _ _ _ ⟨a, rfl, rfl, s, x⟩
/-! ### told_once -/
theorem sc_v_told_once : FnScope ["names"] ["names"] (defScope s_v_told_once) := ⟨rfl, rfl, rfl, by decide +kernel, rfl, by decide +kernel, by decide +kernel⟩
set_option maxHeartbeats 400000 in
theorem ok_v_told_once (T : Txt K mg t) : FnOk P w K mg base CX0 1 t.f_v_told_once t.d_v_told_once ["names"] (spTold K) := by
  refine T.v_told_once.fn.ok sc_v_told_once (fun vs H Q E h => (by obtain ⟨_, _, rfl, _⟩ := h; rfl)) (fun cdv A outer s H vs Q E hr h => ?_)
  obtain ⟨l, zs, rfl, hl, hn, k⟩ := h
  refine ⟨_, (pss_one (ps_ret (pe_cmpR op_eq (pe_callB call_lenS rfl T.b_len PySem.boot_len (pa_cons (pe_callTy (ncK_set (K := K) rfl rfl) rfl T.b_set boot_set (pa_cons (pv 0) pa_nil)) pa_nil)) (pe_callB (callK_len (K := K) rfl) rfl T.b_len PySem.boot_len (pa_cons (pv 0) pa_nil)) (nomark _)))), ?_⟩
  refine ⟨_, rfl, l, zs, rfl, hl, hn, fun a ha => ?_⟩
  refine ⟨a, _, rfl, upd_same, ?_⟩
  have s1 : Same H (upd H a (stO P w a (dcL [] zs))) := Same.new1 ha
  refine ⟨_, rfl, l, _, rfl, .inl (s1.seq hl), rfl, ?_⟩
  rw [show decide (V.int ((dcL [] zs : Nat) : Int) = V.int ((zs.map V.str).length : Nat)) = decide zs.Nodup from by rw [List.length_map, ← dcL_nd]; simp]
  exact k _ s1
/-! ### read_names -/
theorem sc_v_read_names : FnScope ["rows", "number", "word", "most", "taken", "names"] ["rows", "number", "word", "most", "taken"] (defScope s_v_read_names) := ⟨rfl, rfl, rfl, by decide +kernel, rfl, by decide +kernel, by decide +kernel⟩
set_option maxHeartbeats 400000 in
theorem ok_v_read_names (T : Txt K mg t) : FnOk P w K mg base (CXE P w) 6 t.f_v_read_names t.d_v_read_names ["rows", "number", "word", "most", "taken"] (spRN K t) := by
  have G_v_names_of : FnOk P w K mg base CX0 5 t.f_v_names_of t.d_v_names_of ["row", "word", "most"] spNof := (ok_v_names_of T).mono (by decide)
  have G_v_told_once : FnOk P w K mg base CX0 5 t.f_v_told_once t.d_v_told_once ["names"] (spTold K) := (ok_v_told_once T).mono (by decide)
  have M_NoText_init : FnOk P w K mg base CX0 4 t.f_NoText_init t.d_NoText_init ["self", "row"] (spXI K "row") := (ok_NoText_init T).mono (by decide)
  refine T.v_read_names.fn.okX sc_v_read_names (fun vs H Q E h => (by obtain ⟨_, _, _, _, _, _, _, rfl, _⟩ := h; rfl)) (fun cdv A outer s H vs Q E hr h => ?_)
  obtain ⟨a, b, i, x, m, rows, taken, rfl, hA, hB, hi, hR, hT, hm, kE, kQ⟩ := h
  refine ⟨_, (pss_cons (ps_if (pt_cmpR op_eq (pv 1) (pe_callB (callK_len (K := K) rfl) rfl T.b_len PySem.boot_len (pa_cons (pv 0) pa_nil)) (nomark _))
        (pss_one (ps_raise raisesX rfl (pe_makeX T.xm_NoText M_NoText_init hr rfl T.m_NoText T.NoText_init.bd .nil pass0 (pa_cons (pv 1) pa_nil)))) pss_nil)
      (pss_cons (ps_set (i := 5) sc_v_read_names.nd rfl (Or.inl rfl) (pe_call G_v_names_of hr rfl T.v_names_of.mg T.v_names_of.fn.kp T.v_names_of.bd .nil pass0 (pa_cons (pe_ix (ixK_list (K := K) rfl) (pv 0) (pv 1) (fun _ _ => rfl)) (pa_cons (pv 2) (pa_cons (pv 3) pa_nil)))))
      (pss_cons (ps_if (PW.pt (pw_or (pt_cmpR (opK_eqD (K := K) rfl hr.units) (pv 5) (ne_lst pa_nil) (nomark _)) (pw_or1 (pt_not (pt_val (pe_call G_v_told_once hr rfl T.v_told_once.mg T.v_told_once.fn.kp T.v_told_once.bd .nil pass0 (pa_cons (pe_op no_cat (pv 4) (pv 5)) pa_nil)))))))
        (pss_one (ps_raise raisesX rfl (pe_makeX T.xm_NoText M_NoText_init hr rfl T.m_NoText T.NoText_init.bd .nil pass0 (pa_cons (pv 1) pa_nil)))) pss_nil)
      (pss_one (ps_ret (pv 5)))))), ?_⟩
  walk_at "rd"
  refine ⟨a, _, rfl, .inl hA, rfl, _, rfl, ?_⟩
  refine ite2 (fun h1 => ?_) (fun h1 => ?_)
  · walk_at "rd"
    exact raiseT T (kE (by
      have : (i : Int) = ((rows.map V.str).length : Nat) := by simpa using h1
      rw [List.length_map] at this
      unfold namesR; rw [if_pos (by omega)]))
  have hi' : i < rows.length := by
    have : ¬ (i : Int) = ((rows.map V.str).length : Nat) := by simpa using h1
    rw [List.length_map] at this; omega
  have hwd : wd rows i ∈ rows := wd_mem hi'
  have eR : namesR rows i x m taken = (if namesO (spl (wd rows i)) x m = [] ∨ ¬ (taken ++ namesO (spl (wd rows i)) x m).Nodup then none else some (namesO (spl (wd rows i)) x m)) := by
    unfold namesR; rw [if_neg (by omega)]
  walk_at "rd"
  simp only [Int.toNat_natCast]
  refine ⟨hR.short _ hwd, fun l H1 s1 hl e1 => ?_⟩
  have e1' : H1 l = some (.lst ((namesO (spl (wd rows i)) x m).map V.str)) := e1
  clear e1
  have hn := @namesO_ok (spl (wd rows i)) x m
  have hw := (spl_len (wd rows i)).2
  have hw2 := hR.short _ hwd
  have hb : (namesO (spl (wd rows i)) x m).length ≤ 192 := by omega
  have ho := hn.2
  clear hn hw hw2
  generalize namesO (spl (wd rows i)) x m = ns at *
  have sh : SeqAt.shaped (.list (ns.map PyData.str)) = true := shaped_strs fun y hy => (name_asc (ho y hy)).ok
  walk_at "rd"
  intro l2 H2 s2 hl2 e2
  have sh0 : SeqAt.shaped (.list (([] : List Str).map PyData.str)) = true := shaped_strs (xs := []) fun y hy => by cases hy
  refine ⟨_, _, RdD.lst (SqL.of (s2 _ _ e1')) (RdDs.strs ns), RdD.lst (SqL.of e2) (RdDs.strs []), sh, sh0, _, rfl, ?_⟩
  rw [eqv_strs]
  refine ite2 (fun h2 => ?_) (fun h2 => ?_)
  · walk_at "rd"
    exact raiseT T fun c o H' z => kE (by rw [eR, if_pos (.inl (of_decide_eq_true h2))]) c o H' (z.back (s1.trans s2))
  have hne : ¬ ns = [] := fun q => h2 (decide_eq_true q)
  walk_at "rd"
  refine ⟨b, l, _, _, rfl, rfl, s2 _ _ (s1 _ _ hB), s2 _ _ e1', line_small (by simp only [List.length_map]; omega), ?_⟩
  intro l3 H3 s3 hl3 e3
  refine ⟨l3, taken ++ ns, rfl, SqL.of (by rw [e3, List.map_append]), (by rw [List.length_append]; omega), fun H4 s4 => ?_⟩
  have sA : Same H H4 := ((s1.trans s2).trans s3).trans s4
  walk_at "rd"
  refine ite2 (fun h3 => ?_) (fun h3 => ?_)
  · walk_at "rd"
    exact raiseT T fun c o H' z => kE (by rw [eR, if_pos (.inr (of_decide_eq_false (not_t h3)))]) c o H' (z.back sA)
  walk_at "rd"
  exact kQ ns l H4 (by rw [eR, if_neg (fun q => q.elim hne (fun q => q (of_decide_eq_true (not_f h3))))]) sA hl (s4 _ _ (s3 _ _ (s2 _ _ e1')))
/-! ### read_rooms -/
/-- the rooms at the head of these rows, given what was taken and the rooms found so far -/
def roomsR (taken : List Str) : List (Str × Str) → List Str → Except Nat (List (Str × Str))
  | found, [] => if found = [] then .error 2 else .ok found
  | found, x :: r => match roomO (spl x) with
    | none => if found = [] then .error 2 else .ok found
    | some mn => if found.length = 12 ∨ ¬ (taken ++ (found ++ [mn]).map (·.2)).Nodup then .error (2 + found.length) else roomsR taken (found ++ [mn]) r
def roomV (H : Hp) (v : V) (mn : Str × Str) : Prop := ∃ p, v = .ref p ∧ H p = some (.tup [.str mn.1, .str mn.2])
def RmOk (mn : Str × Str) : Prop := mn.1 ∈ ks_MARKS ∧ nameB mn.2 = true
theorem roomO_ok {ws : List Str} {m n : Str} (h : roomO ws = some (m, n)) : RmOk (m, n) := by
  unfold roomO at h
  split at h
  · rename_i q
    cases h
    rw [in_strs] at q
    exact ⟨of_decide_eq_true q.2.1, q.2.2⟩
  · cases h
theorem marks_ok : ∀ x ∈ ks_MARKS, PyData.strOk x = true := by decide +kernel
def rmD (mn : Str × Str) : PyData := .tuple [.str mn.1, .str mn.2]
theorem rm_lay : ∀ {fnd : List (Str × Str)}, (∀ mn ∈ fnd, RmOk mn) → PyData.canLayAll0 (fnd.map rmD) = true ∧ PyData.depthAll (fnd.map rmD) ≤ 2
  | [], _ => ⟨rfl, Nat.zero_le _⟩
  | mn :: r, h => by
    have q := rm_lay (fnd := r) fun x hx => h x (List.mem_cons_of_mem _ hx)
    have h1 := marks_ok _ (h mn List.mem_cons_self).1
    have h2 := (name_asc (h mn List.mem_cons_self).2).ok
    have q2 := q.2
    simp [PyData.canLayAll0, PyData.canLay0, PyData.depthAll, PyData.depth, rmD, q.1, h1, h2]
    omega
theorem rm_shaped {fnd : List (Str × Str)} (h : ∀ mn ∈ fnd, RmOk mn) : SeqAt.shaped (.list (fnd.map rmD)) = true := by
  have q := rm_lay h
  simp [SeqAt.shaped, PyData.canLay0, PyData.depth, q.1]
  omega
theorem roomV.same {H H' : Hp} {v : V} {mn : Str × Str} (h : roomV H v mn) (s : Same H H') : roomV H' v mn := by
  obtain ⟨p, e, q⟩ := h
  exact ⟨p, e, s _ _ q⟩
theorem roomV.keeps {H H' : Hp} {v : V} {mn : Str × Str} {l : Addr} {xs : List V} (h : roomV H v mn) (k : Keeps l H H') (e : H l = some (.lst xs)) : roomV H' v mn := by
  obtain ⟨p, e', q⟩ := h
  exact ⟨p, e', k.look q (ne_of q e (by intro z; cases z))⟩
theorem Paired.snoc {α β : Type} {F : α → β → Prop} {a : α} {b : β} : ∀ {xs : List α} {ys : List β}, Paired F xs ys → F a b → Paired F (xs ++ [a]) (ys ++ [b])
  | [], [], _, h => .cons h .nil
  | _ :: _, _ :: _, .cons h t, q => .cons h (Paired.snoc t q)
def tv2 (H : Hp) (y : V) : List (Option V) := match y with
  | .ref p => (match H p with | some (.tup [u, v]) => [some u, some v] | _ => [none, none])
  | _ => [none, none]
theorem tv2_len (H : Hp) (y : V) : (tv2 H y).length = 2 := by
  unfold tv2
  split
  · split <;> rfl
  · rfl
theorem Paired.memL {α β : Type} {F : α → β → Prop} {a : α} : ∀ {xs : List α} {ys : List β}, Paired F xs ys → a ∈ xs → ∃ b ∈ ys, F a b
  | _ :: _, _ :: _, .cons h t, q => by
    rcases List.mem_cons.mp q with rfl | q
    · exact ⟨_, List.mem_cons_self, h⟩
    · obtain ⟨b, hb, hF⟩ := Paired.memL t q
      exact ⟨b, List.mem_cons_of_mem _ hb, hF⟩
theorem room_names {H : Hp} : ∀ {vs : List V} {fnd : List (Str × Str)} {ys : List V}, Paired (roomV H) vs fnd → Paired (fun y v => ∀ p m n, y = V.ref p → H p = some (.tup [.str m, .str n]) → v = V.str n) vs ys → ys = (fnd.map (·.2)).map V.str
  | [], [], [], _, _ => rfl
  | _ :: _, _ :: _, _ :: _, .cons ⟨p, e, q⟩ t, .cons h t' => by
    rw [h p _ _ e q, room_names t t']
    rfl
theorem rm_reads {K : PySem.W.Frag} {H : Hp} : ∀ {vs : List V} {fnd : List (Str × Str)}, Paired (roomV H) vs fnd → RdDs K H vs (fnd.map rmD)
  | [], [], _ => .nil
  | _ :: _, _ :: _, .cons ⟨p, e, q⟩ t => by
    subst e
    exact .cons (RdD.tup (SqT.of q) (.cons (.str _) (.cons (.str _) .nil))) (rm_reads t)
theorem rm_eqv (fnd : List (Str × Str)) : PyData.eqv (.list (fnd.map rmD)) (.list (([] : List Str).map PyData.str)) = decide (fnd = []) := by
  cases fnd <;> simp [PyData.eqv, PyData.eqvAll]
def spRR (K : PySem.W.Frag) (t : Adr) : Sp := fun vs H Q E => ∃ (a b : Addr) (rows taken : List Str), vs = [.ref a, .ref b] ∧ SqL K H a (rows.map V.str) ∧ H b = some (.lst (taken.map V.str)) ∧ RowsOk rows ∧ taken.length ≤ 400 ∧
  (∀ n : Nat, roomsR taken [] (rows.drop 2) = .error n → ∀ c o H', ehT t n H c o H' → E c o H') ∧ ∀ rs l H' vs, roomsR taken [] (rows.drop 2) = .ok rs → Same H H' → H l = none → H' l = some (.lst vs) → Paired (roomV H') vs rs → Q (.ref l) H'
theorem sc_v_read_rooms : FnScope ["rows", "taken", "rooms", "row", "room"] ["rows", "taken"] (defScope s_v_read_rooms) := ⟨rfl, rfl, rfl, by decide +kernel, rfl, by decide +kernel, by decide +kernel⟩
set_option maxHeartbeats 400000 in
theorem ok_v_read_rooms (T : Txt K mg t) : FnOk P w K mg base (CXE P w) 6 t.f_v_read_rooms t.d_v_read_rooms ["rows", "taken"] (spRR K t) := by
  have G_v_room_of : FnOk P w K mg base CX0 5 t.f_v_room_of t.d_v_room_of ["row"] spRoom := (ok_v_room_of T).mono (by decide)
  have G_v_told_once : FnOk P w K mg base CX0 5 t.f_v_told_once t.d_v_told_once ["names"] (spTold K) := (ok_v_told_once T).mono (by decide)
  have M_NoText_init : FnOk P w K mg base CX0 4 t.f_NoText_init t.d_NoText_init ["self", "row"] (spXI K "row") := (ok_NoText_init T).mono (by decide)
  refine T.v_read_rooms.fn.okX sc_v_read_rooms (fun vs H Q E h => (by obtain ⟨_, _, _, _, rfl, _⟩ := h; rfl)) (fun cdv A outer s H vs Q E hr h => ?_)
  obtain ⟨a, b, rows, taken, rfl, hA, hB, hR, hT, kE, kQ⟩ := h
  refine ⟨_, (pss_cons (ps_set (i := 2) sc_v_read_rooms.nd rfl (Or.inl rfl) (ne_lst pa_nil) sw_list)
      (pss_cons (PS.join (ps_for PassesOwn.leaving rfl (piK_list (K := K) rfl (pe_slice (nsK_list (K := K) rfl) (pv 0) (po_some (pe_glob rfl (T.g_FIRST_ROOM).choose_spec (v := .int 2) ⟨_, rfl⟩)) po_none)) (pg_name (i := 3) sc_v_read_rooms.nd rfl (Or.inl rfl))
        (pss_cons (ps_set (i := 4) sc_v_read_rooms.nd rfl (Or.inl rfl) (pe_call G_v_room_of hr rfl T.v_room_of.mg T.v_room_of.fn.kp T.v_room_of.bd .nil pass0 (pa_cons (pv 3) pa_nil)))
      (pss_cons (ps_if (pt_cmpR op_isN (pv 4) pe_non (nomark _))
        (pss_one (ps_break)) pss_nil)
      (pss_cons (ps_if (PW.pt (pw_or (pt_cmpR op_eq (pe_callB (callK_len (K := K) rfl) rfl T.b_len PySem.boot_len (pa_cons (pv 2) pa_nil)) (pe_glob rfl (T.g_MOST_ROOMS).choose_spec (v := .int 12) ⟨_, rfl⟩) (nomark _)) (pw_or1 (pt_not (pt_val (pe_call G_v_told_once hr rfl T.v_told_once.mg T.v_told_once.fn.kp T.v_told_once.bd .nil pass0 (pa_cons (pe_op no_cat (pv 1) (pe_lcompG (osc := defScope s_v_read_rooms) (N := ["rows", "taken", "rooms", "row", "room"]) (xs := ["mark", "name"]) (names := []) (caps := []) rfl rfl rfl ⟨rfl, by decide +kernel, by decide +kernel, by decide +kernel, by decide +kernel, rfl, by decide +kernel, by decide +kernel⟩ (piK_list (K := K) rfl (pe_op no_cat (pv 2) (ne_lst (pa_cons (pv 4) pa_nil)))) (fun _ _ _ => (pg_tupK (K := K) (n := 2) rfl rfl (pgs_cons (pg_name (i := 0) (show (["mark", "name"] : List Str).Nodup from by decide +kernel) rfl (.inl (locG rfl)) (.inr (locG rfl))) (pgs_cons (pg_name (i := 1) (show (["mark", "name"] : List Str).Nodup from by decide +kernel) rfl (.inl (locG rfl)) (.inr (locG rfl))) pgs_nil)) rfl rfl)) (fun _ _ _ => pts_nil) (fun _ _ _ => (pv 1)))) pa_nil)))))))
        (pss_one (ps_raise raisesX rfl (pe_makeX T.xm_NoText M_NoText_init hr rfl T.m_NoText T.NoText_init.bd .nil pass0 (pa_cons (pe_op op_add (pe_glob rfl (T.g_FIRST_ROOM).choose_spec (v := .int 2) ⟨_, rfl⟩) (pe_callB (callK_len (K := K) rfl) rfl T.b_len PySem.boot_len (pa_cons (pv 2) pa_nil))) pa_nil)))) pss_nil)
      (pss_one (ps_expr (pe_bm PySem.F.plainAttrs_list PySem.F.slot_list_append PySem.F.type_list_append nm_append (pv 2) (pa_cons (pv 4) pa_nil)))))))))
      (pss_cons (ps_if (pt_cmpR (opK_eqD (K := K) rfl hr.units) (pv 2) (ne_lst pa_nil) (nomark _))
        (pss_one (ps_raise raisesX rfl (pe_makeX T.xm_NoText M_NoText_init hr rfl T.m_NoText T.NoText_init.bd .nil pass0 (pa_cons (pe_glob rfl (T.g_FIRST_ROOM).choose_spec (v := .int 2) ⟨_, rfl⟩) pa_nil)))) pss_nil)
      (pss_one (ps_ret (pv 2)))))), ?_⟩
  refine ⟨Nat.zero_le _, ?_⟩
  intro l H1 s1 hl e1
  refine ⟨fun σ' H' => (∃ (vs : List V) (fnd : List (Str × Str)) (v3 v4 : Option V), σ' = [some (.ref a), some (.ref b), some (.ref l), v3, v4] ∧ Same H H' ∧ H' l = some (.lst vs) ∧ Paired (roomV H') vs fnd ∧ fnd.length ≤ 12 ∧ (∀ mn ∈ fnd, RmOk mn) ∧ roomsR taken [] (rows.drop 2) = (if fnd = [] then .error 2 else .ok fnd)) ∨ False, ?_, ?_⟩
  · walk_at "rd"
    intro l0 H2 s2 hl0 e2
    have e2' : H2 l0 = some (.lst ((rows.drop 2).map V.str)) := by rw [← cut_drop V.str rows 2]; exact e2
    clear e2
    walk_at "rd"
    have hne0 : l0 ≠ l := Ne.symm (ne_of_none e1 hl0)
    refine for_list (K := K) (a := l0) (xs := (rows.drop 2).map V.str) (fun i σ H' => ∃ (vs : List V) (fnd : List (Str × Str)) (v3 v4 : Option V), σ = [some (.ref a), some (.ref b), some (.ref l), v3, v4] ∧ Same H H' ∧ H' l = some (.lst vs) ∧ H' l0 = some (.lst ((rows.drop 2).map V.str)) ∧ Paired (roomV H') vs fnd ∧ fnd.length ≤ 12 ∧ (∀ mn ∈ fnd, RmOk mn) ∧ roomsR taken [] (rows.drop 2) = roomsR taken fnd ((rows.drop 2).drop i))
      ⟨[], [], none, none, rfl, s1.trans s2, s2 _ _ e1, e2', .nil, Nat.zero_le _, fun _ z => (by cases z), by rw [List.drop_zero]⟩ (fun i σ H' _ ⟨_, _, _, _, _, _, _, q, _⟩ => SqL.of q) ?_ ?_
    · rintro i y σ H3 hi ⟨vs, fnd, v3, v4, rfl, s3, e3, e30, hP, hf, hok, hr'⟩
      rw [List.getElem?_map] at hi
      cases q : (rows.drop 2)[i]? with
      | none => rw [q] at hi; cases hi
      | some x =>
        rw [q] at hi
        cases hi
        have hx : x ∈ rows := List.mem_of_mem_drop (List.mem_of_getElem? q)
        have hd : (rows.drop 2).drop i = x :: (rows.drop 2).drop (i + 1) := by
          obtain ⟨hi', e⟩ := List.getElem?_eq_some_iff.mp q
          rw [← e]; exact List.drop_eq_getElem_cons hi'
        rw [hd] at hr'
        walk_at "rd"
        refine ⟨hR.short _ hx, fun H4 s4 => ⟨fun h0 => ?_, fun p m n h0 hp e4 => ?_⟩⟩
        · walk_at "rd"
          refine .inl ⟨vs, fnd, _, _, rfl, s3.trans s4, s4 _ _ e3, Paired.imp' (fun _ _ z => z.same s4) hP, hf, hok, ?_⟩
          rw [hr', roomsR, h0]
        · have hP4 : Paired (roomV H4) (vs ++ [.ref p]) (fnd ++ [(m, n)]) := Paired.snoc (Paired.imp' (fun _ _ z => z.same s4) hP) ⟨p, rfl, e4⟩
          have hlen : vs.length = fnd.length := Paired.length hP
          have eRR : roomsR taken fnd (x :: List.drop (i + 1) (List.drop 2 rows)) = if fnd.length = 12 ∨ ¬ (taken ++ (fnd ++ [(m, n)]).map (·.2)).Nodup then .error (2 + fnd.length) else roomsR taken (fnd ++ [(m, n)]) (List.drop (i + 1) (List.drop 2 rows)) := by rw [roomsR, h0]
          rw [eRR] at hr'
          have e34 := s4 _ _ e3
          have raise2 : (fnd.length = 12 ∨ ¬ (taken ++ (fnd ++ [(m, n)]).map (·.2)).Nodup) → ∀ c o H', ehT t (2 + (vs.length : Nat) : Int) H c o H' → E c o H' := fun z c o H' q => kE (2 + fnd.length) (by rw [hr', if_pos z]) c o H' (by rw [← hlen]; exact q)
          walk_at "rd"
          refine ⟨l, _, rfl, .inl (SqL.of e34), rfl, _, rfl, ?_⟩
          refine ite2 (fun h12 => ?_) (fun h12 => ?_)
          · walk_at "rd"
            refine ⟨l, _, rfl, .inl (SqL.of e34), ?_⟩
            walk_at "rd"
            exact raiseT T fun c o H' z => raise2 (.inl (by
              have : ((vs.length : Nat) : Int) = 12 := by simpa using h12
              omega)) c o H' (z.back (s3.trans s4))
          have hn12 : ¬ fnd.length = 12 := fun q => h12 (by rw [hlen, q]; rfl)
          walk_at "rd"
          intro l5 H5 s5 hl5 e5
          refine ⟨l, l5, _, _, rfl, rfl, s5 _ _ e34, e5, line_small (by simp only [List.length_cons, List.length_nil]; omega), ?_⟩
          intro l6 H6 s6 hl6 e6
          have hP6 : Paired (roomV H6) (vs ++ [.ref p]) (fnd ++ [(m, n)]) := Paired.imp' (fun _ _ z => z.same (s5.trans s6)) hP4
          refine ⟨l6, rfl, ⟨_, SqL.of e6⟩, comp_allG (seqj_list (SqL.of e6)) (tv2 H6) (tv2_len H6) (fun y v => ∀ p m n, y = V.ref p → H6 p = some (.tup [.str m, .str n]) → v = V.str n) (line_small (by rw [List.length_append]; simp only [List.length_cons, List.length_nil]; omega)) ?_ ?_ ?_⟩
          · intro j y ts H' K' hy hts s' k'
            obtain ⟨mn, _, p', rfl, ep⟩ := Paired.memL hP6 (List.mem_of_getElem? hy)
            have et : tv2 H6 (.ref p') = [some (.str mn.1), some (.str mn.2)] := by unfold tv2; simp only [ep]
            rw [et] at k'
            match ts, hts with
            | [t1, t2], _ => exact ⟨p', _, rfl, SqT.of (s' _ _ ep), rfl, _, _, rfl, _, _, rfl, rfl, k'⟩
          · intro j y H' Q' hy s' kk
            obtain ⟨mn, _, p', rfl, ep⟩ := Paired.memL hP6 (List.mem_of_getElem? hy)
            have et : tv2 H6 (.ref p') = [some (.str mn.1), some (.str mn.2)] := by unfold tv2; simp only [ep]
            rw [et]
            refine ⟨_, rfl, kk _ _ (Same.refl _) fun p2 m2 n2 e q => ?_⟩
            cases e
            rw [ep] at q
            cases q
            rfl
          intro D H7 ys s7 hD e7 hPr
          rw [room_names hP6 hPr] at e7
          have sA : Same H H7 := (((s3.trans s4).trans s5).trans s6).trans s7
          walk_at "rd"
          refine ⟨b, D, _, _, rfl, rfl, sA _ _ hB, e7, line_small (by simp only [List.length_map, List.length_append, List.length_cons, List.length_nil]; omega), ?_⟩
          intro l8 H8 s8 hl8 e8
          refine ⟨l8, taken ++ (fnd ++ [(m, n)]).map (·.2), rfl, SqL.of (by rw [e8, ← List.map_append]), (by simp only [List.length_map, List.length_append, List.length_cons, List.length_nil]; omega), fun H9 s9 => ?_⟩
          have sB : Same H4 H9 := (((s5.trans s6).trans s7).trans s8).trans s9
          walk_at "rd"
          refine ite2 (fun h3 => ?_) (fun h3 => ?_)
          · walk_at "rd"
            refine ⟨l, _, rfl, .inl (SqL.of (sB _ _ e34)), ?_⟩
            walk_at "rd"
            exact raiseT T fun c o H' z => raise2 (.inr (of_decide_eq_false (not_t h3))) c o H' (z.back ((s3.trans s4).trans sB))
          walk_at "rd"
          intro H10 k10 e10
          have e9l := sB _ _ e34
          refine ⟨vs ++ [.ref p], fnd ++ [(m, n)], _, _, rfl, k10.put ((s3.trans s4).trans sB) hl, e10, k10.look (sB _ _ (s4 _ _ e30)) (fun q => ?_), Paired.imp' (fun _ _ z => (z.same sB).keeps k10 e9l) hP4, (by rw [List.length_append]; simp only [List.length_cons, List.length_nil]; omega), (fun z hz => (List.mem_append.mp hz).elim (hok z) (fun hz => by rw [List.mem_singleton.mp hz]; exact roomO_ok h0)), ?_⟩
          · exact hne0 q
          · rw [hr', if_neg (fun q => q.elim hn12 (fun q => q (of_decide_eq_true (not_f h3))))]
    · rintro σ H3 ⟨vs, fnd, v3, v4, rfl, s3, e3, e30, hP, hf, hok, hr'⟩
      rw [List.length_map, List.drop_length, roomsR] at hr'
      exact .inl ⟨vs, fnd, v3, v4, rfl, s3, e3, hP, hf, hok, hr'⟩
  · rintro σ H3 (⟨vs, fnd, v3, v4, rfl, s3, e3, hP, hf, hok, hr'⟩ | ⟨⟨⟩⟩)
    walk_at "rd"
    intro l4 H4 s4 hl4 e4
    have sh0 : SeqAt.shaped (.list (([] : List Str).map PyData.str)) = true := shaped_strs (xs := []) fun y hy => by cases hy
    have hP4 : Paired (roomV H4) vs fnd := Paired.imp' (fun _ _ z => z.same s4) hP
    refine ⟨_, _, RdD.lst (SqL.of (s4 _ _ e3)) (rm_reads hP4), RdD.lst (SqL.of e4) (RdDs.strs []), rm_shaped hok, sh0, _, rfl, ?_⟩
    rw [rm_eqv]
    refine ite2 (fun h2 => ?_) (fun h2 => ?_)
    · walk_at "rd"
      exact raiseT T fun c o H' z => kE 2 (by rw [hr', if_pos (of_decide_eq_true h2)]) c o H' (z.back (s3.trans s4))
    walk_at "rd"
    exact kQ fnd l H4 vs (by rw [hr', if_neg (fun q => h2 (decide_eq_true q))]) (s3.trans s4) hl (s4 _ _ e3) hP4


/-! ### the body of a text: data -/
end
inductive Rw where
  | lt (n v : Str)
  | cl (k : Int) (l u a : Str) (n : Int) (r : Str)
  | pt (n : Str) (rs : List Str) (rows : List Rw)
mutual
/-- a row stands at x, and nothing of it is among ms -/
def RwAt (t : Adr) (ms : List Addr) (H : Hp) : Rw → V → Prop
  | .lt n v, x => ∃ p, x = .ref p ∧ p ∉ ms ∧ AtL t H p n v
  | .cl k l u a n r, x => ∃ p, x = .ref p ∧ p ∉ ms ∧ At t H p k l u a n r
  | .pt n rs rows, x => ∃ p dx a b ys, x = .ref p ∧ p ∉ ms ∧ a ∉ ms ∧ b ∉ ms ∧ H p = some (.ins t.c_Part dx (fp3 n a b)) ∧ H a = some (.lst (rs.map V.str)) ∧ H b = some (.lst ys) ∧ RwsAt t ms H rows ys
def RwsAt (t : Adr) (ms : List Addr) (H : Hp) : List Rw → List V → Prop
  | [], ys => ys = []
  | r :: rs, ys => ∃ y ys', ys = y :: ys' ∧ RwAt t ms H r y ∧ RwsAt t ms H rs ys'
end
/-- all but ms is as it was -/
def Fm (ms : List Addr) (H H' : Hp) : Prop := ∀ b o, b ∉ ms → H b = some o → H' b = some o
theorem Fm.trans {ms ms' : List Addr} {H H1 H2 : Hp} (a : Fm ms H H1) (b : Fm ms' H1 H2) (hm : ∀ b ∈ ms', b ∈ ms ∨ H b = none) : Fm ms H H2 := fun c o hc e => b c o (fun z => (hm c z).elim hc (fun q => by rw [e] at q; cases q)) (a c o hc e)
theorem Fm.of {ms : List Addr} {H H1 : Hp} (s : Same H H1) : Fm ms H H1 := fun c o _ e => s _ _ e
theorem Fm.toSame {ms : List Addr} {H0 H H1 : Hp} (a : Fm ms H H1) (s : Same H0 H) (h : ∀ b ∈ ms, H0 b = none) : Same H0 H1 := fun c o e => a c o (fun z => by rw [h c z] at e; cases e) (s c o e)
theorem notin {ms ms' : List Addr} {H : Hp} {b : Addr} {o : HO} (hm : ∀ b ∈ ms', b ∈ ms ∨ H b = none) (h : b ∉ ms) (e : H b = some o) : b ∉ ms' := fun z => (hm b z).elim h (fun q => by rw [e] at q; cases q)
mutual
theorem RwAt.move {t : Adr} {ms ms' : List Addr} {H H' : Hp} (hk : Fm ms H H') (hm : ∀ b ∈ ms', b ∈ ms ∨ H b = none) : ∀ {r : Rw} {x : V}, RwAt t ms H r x → RwAt t ms' H' r x
  | .lt n v, x, h => by
    unfold RwAt at h ⊢
    obtain ⟨p, e, hp, dx, q⟩ := h
    exact ⟨p, e, notin hm hp q, dx, hk _ _ hp q⟩
  | .cl k l u a n r, x, h => by
    unfold RwAt at h ⊢
    obtain ⟨p, e, hp, dx, q⟩ := h
    exact ⟨p, e, notin hm hp q, dx, hk _ _ hp q⟩
  | .pt n rs rows, x, h => by
    unfold RwAt at h ⊢
    obtain ⟨p, dx, a, b, ys, e, hp, ha, hb, e1, e2, e3, q⟩ := h
    exact ⟨p, dx, a, b, ys, e, notin hm hp e1, notin hm ha e2, notin hm hb e3, hk _ _ hp e1, hk _ _ ha e2, hk _ _ hb e3, RwsAt.move hk hm q⟩
theorem RwsAt.move {t : Adr} {ms ms' : List Addr} {H H' : Hp} (hk : Fm ms H H') (hm : ∀ b ∈ ms', b ∈ ms ∨ H b = none) : ∀ {rs : List Rw} {ys : List V}, RwsAt t ms H rs ys → RwsAt t ms' H' rs ys
  | [], ys, h => by unfold RwsAt at h ⊢; exact h
  | r :: rs, ys, h => by
    unfold RwsAt at h ⊢
    obtain ⟨y, ys', e, h1, h2⟩ := h
    exact ⟨y, ys', e, RwAt.move hk hm h1, RwsAt.move hk hm h2⟩
end
theorem RwsAt.snoc {t : Adr} {ms : List Addr} {H : Hp} {r : Rw} {y : V} (h : RwAt t ms H r y) : ∀ {rs : List Rw} {ys : List V}, RwsAt t ms H rs ys → RwsAt t ms H (rs ++ [r]) (ys ++ [y])
  | [], ys, q => by
    unfold RwsAt at q
    subst q
    show RwsAt t ms H [r] [y]
    unfold RwsAt
    exact ⟨y, [], rfl, h, by unfold RwsAt; rfl⟩
  | r' :: rs, ys, q => by
    unfold RwsAt at q
    obtain ⟨y', ys', rfl, h1, h2⟩ := q
    show RwsAt t ms H (r' :: (rs ++ [r])) (y' :: (ys' ++ [y]))
    unfold RwsAt
    exact ⟨y', _, rfl, h1, RwsAt.snoc h h2⟩
theorem RwsAt.len {t : Adr} {ms : List Addr} {H : Hp} : ∀ {rs : List Rw} {ys : List V}, RwsAt t ms H rs ys → ys.length = rs.length
  | [], ys, q => by unfold RwsAt at q; rw [q]; rfl
  | r' :: rs, ys, q => by
    unfold RwsAt at q
    obtain ⟨y', ys', rfl, h1, h2⟩ := q
    rw [List.length_cons, List.length_cons, RwsAt.len h2]
abbrev Fr := Str × List Str × List Rw
/-- the open parts, the innermost first -/
def FrAt (t : Adr) (ms : List Addr) (H : Hp) (B : Nat) : List Addr → List Addr → List Fr → Prop
  | [], [], [] => True
  | p :: ps, q :: qs, (n, rs, rows) :: fr => (∃ dx a b, p ∉ ms ∧ a ∉ ms ∧ H p = some (.ins t.c_Part dx (fp3 n a b)) ∧ H a = some (.lst (rs.map V.str))) ∧ (∃ ys, H q = some (.lst ys) ∧ RwsAt t ms H rows ys ∧ rows.length ≤ B) ∧ FrAt t ms H B ps qs fr
  | _, _, _ => False
def fb3 (a b c : Addr) : List (Str × V) := [("heads", .ref a), ("bodies", .ref b), ("labels", .ref c)]
def lbs (ls : List Str) : List (Key × V) := ls.map fun l => (.inr l, .bl true)
structure BdIn (t : Adr) (H : Hp) (me dx hd bd lb : Addr) (hps bqs : List Addr) (fr : List Fr) (ls : List Str) (B : Nat) : Prop where
  nd : (me :: hd :: bd :: lb :: bqs).Nodup
  se : H me = some (.ins t.c_Body dx (fb3 hd bd lb))
  hh : H hd = some (.lst (hps.map V.ref).reverse)
  hb : H bd = some (.lst (bqs.map V.ref).reverse)
  hl : H lb = some (.dK (lbs ls))
  fa : FrAt t (me :: hd :: bd :: lb :: bqs) H B hps bqs fr
  few : ls.length ≤ B
def BdAt (t : Adr) (H : Hp) (me : Addr) (fr : List Fr) (ls : List Str) (B : Nat) (ms : List Addr) : Prop := ∃ dx hd bd lb hps bqs, ms = me :: hd :: bd :: lb :: bqs ∧ BdIn t H me dx hd bd lb hps bqs fr ls B
theorem FrAt.len {t : Adr} {ms : List Addr} {H : Hp} {B : Nat} : ∀ {ps qs : List Addr} {fr : List Fr}, FrAt t ms H B ps qs fr → ps.length = fr.length ∧ qs.length = fr.length
  | [], [], [], _ => ⟨rfl, rfl⟩
  | p :: ps, q :: qs, (n, rs, rows) :: fr, h => by
    have := FrAt.len h.2.2
    simp [this.1, this.2]
/-- moved to a heap where only other places of ms changed -/
theorem FrAt.move {t : Adr} {ms ms' : List Addr} {H H' : Hp} {B B' : Nat} (hk : Fm ms H H') (hm : ∀ b ∈ ms', b ∈ ms ∨ H b = none) (hB : B ≤ B') : ∀ {ps qs : List Addr} {fr : List Fr}, FrAt t ms H B ps qs fr → (∀ q ∈ qs, ∀ o, H q = some o → H' q = some o) → FrAt t ms' H' B' ps qs fr
  | [], [], [], _, _ => True.intro
  | p :: ps, q :: qs, (n, rs, rows) :: fr, h, hq => by
    obtain ⟨⟨dx, a, b, h1, h2, h3, h4⟩, ⟨ys, h5, h6, h7⟩, h8⟩ := h
    exact ⟨⟨dx, a, b, notin hm h1 h3, notin hm h2 h4, hk _ _ h1 h3, hk _ _ h2 h4⟩, ⟨ys, hq q List.mem_cons_self _ h5, h6.move hk hm, by omega⟩, FrAt.move hk hm hB h8 fun c hc => hq c (List.mem_cons_of_mem _ hc)⟩
theorem FrAt.dom {t : Adr} {ms : List Addr} {H : Hp} {B : Nat} : ∀ {ps qs : List Addr} {fr : List Fr}, FrAt t ms H B ps qs fr → ∀ q ∈ qs, ∃ o, H q = some o
  | [], [], [], _, q, hq => by cases hq
  | p :: ps, q :: qs, (n, rs, rows) :: fr, h, c, hc => by
    obtain ⟨_, ⟨ys, h5, _, _⟩, h8⟩ := h
    (rcases List.mem_cons.mp hc with rfl | hc)
    · exact ⟨_, h5⟩
    · exact FrAt.dom h8 c hc
theorem BdIn.dom {t : Adr} {H : Hp} {me dx hd bd lb : Addr} {hps bqs : List Addr} {fr : List Fr} {ls : List Str} {B : Nat} (h : BdIn t H me dx hd bd lb hps bqs fr ls B) : ∀ b ∈ me :: hd :: bd :: lb :: bqs, ∃ o, H b = some o := by
  intro b hb
  simp only [List.mem_cons] at hb
  rcases hb with rfl | rfl | rfl | rfl | hb
  · exact ⟨_, h.se⟩
  · exact ⟨_, h.hh⟩
  · exact ⟨_, h.hb⟩
  · exact ⟨_, h.hl⟩
  · exact h.fa.dom b hb
theorem FrAt.inv {t : Adr} {ms : List Addr} {H : Hp} {B : Nat} {n : Str} {rs : List Str} {rows : List Rw} {fr : List Fr} : ∀ {hps bqs : List Addr}, FrAt t ms H B hps bqs ((n, rs, rows) :: fr) → ∃ p ps q qs, hps = p :: ps ∧ bqs = q :: qs ∧ (∃ dx a b, p ∉ ms ∧ a ∉ ms ∧ H p = some (.ins t.c_Part dx (fp3 n a b)) ∧ H a = some (.lst (rs.map V.str))) ∧ (∃ ys, H q = some (.lst ys) ∧ RwsAt t ms H rows ys ∧ rows.length ≤ B) ∧ FrAt t ms H B ps qs fr
  | [], _, h => by simp [FrAt] at h
  | _ :: _, [], h => by simp [FrAt] at h
  | p :: ps, q :: qs, h => ⟨p, ps, q, qs, rfl, rfl, h.1, h.2.1, h.2.2⟩
section
variable {P : Program} {w : World} {K : PySem.W.Frag} {mg : Str → Option Value} {base : Heap} {t : Adr}


/-! ### the body of a text: methods -/
end
def spMany (t : Adr) : Sp := fun vs H Q _ => ∃ (self : Addr) (fr : List Fr) (ls : List Str) (B : Nat) (ms : List Addr), vs = [.ref self] ∧ BdAt t H self fr ls B ms ∧ Q (.int (((fr.length : Nat) : Int) - 1)) H
def spPut (t : Adr) : Sp := fun vs H Q _ => ∃ (self : Addr) (y : V) (n : Str) (rs : List Str) (rows : List Rw) (fr : List Fr) (ls : List Str) (B : Nat) (ms : List Addr) (r : Rw), vs = [.ref self, y] ∧ BdAt t H self ((n, rs, rows) :: fr) ls B ms ∧ RwAt t ms H r y ∧ B < 1000 ∧ ∀ H', Fm ms H H' → BdAt t H' self ((n, rs, rows ++ [r]) :: fr) ls (B + 1) ms → Q .non H'
def spClosed (t : Adr) : Sp := fun vs H Q _ => ∃ (self : Addr) (n : Str) (rs : List Str) (rows : List Rw) (fr : List Fr) (ls : List Str) (B : Nat) (ms : List Addr), vs = [.ref self] ∧ BdAt t H self ((n, rs, rows) :: fr) ls B ms ∧ B ≤ 1000 ∧ ∀ p H' ms', Fm ms H H' → (∀ b ∈ ms', b ∈ ms) → BdAt t H' self fr ls B ms' → RwAt t ms' H' (.pt n rs rows) (.ref p) → Q (.ref p) H'
section
variable {P : Program} {w : World} {K : PySem.W.Frag} {mg : Str → Option Value} {base : Heap} {t : Adr}
theorem b1 : ¬ (("bodies" : Str) = "heads") := by decide +kernel
theorem b2 : ¬ (("labels" : Str) = "heads") := by decide +kernel
theorem b3 : ¬ (("labels" : Str) = "bodies") := by decide +kernel
section
variable {H : Hp} {self dx hd bd lb : Addr} {hps bqs : List Addr} {fr : List Fr} {ls : List Str} {B : Nat}
theorem BdIn.f1 (h : BdIn t H self dx hd bd lb hps bqs fr ls B) (T : Txt K mg t) : Fld K H (.ref self) "heads" (.ref hd) := ⟨self, _, dx, _, rfl, h.se, T.cl_Body, T.na_Body_heads, look_hit⟩
theorem BdIn.f2 (h : BdIn t H self dx hd bd lb hps bqs fr ls B) (T : Txt K mg t) : Fld K H (.ref self) "bodies" (.ref bd) := ⟨self, _, dx, _, rfl, h.se, T.cl_Body, T.na_Body_bodies, (look_miss b1).trans look_hit⟩
theorem BdIn.f3 (h : BdIn t H self dx hd bd lb hps bqs fr ls B) (T : Txt K mg t) : Fld K H (.ref self) "labels" (.ref lb) := ⟨self, _, dx, _, rfl, h.se, T.cl_Body, T.na_Body_labels, (look_miss b2).trans ((look_miss b3).trans look_hit)⟩
end
theorem sc_Body_many_open : FnScope ["self"] ["self"] (defScope s_Body_many_open) := ⟨rfl, rfl, rfl, by decide +kernel, rfl, by decide +kernel, by decide +kernel⟩
set_option maxHeartbeats 400000 in
theorem ok_Body_many_open (T : Txt K mg t) : FnOk P w K mg base CX0 1 t.f_Body_many_open t.d_Body_many_open ["self"] (spMany t) := by
  refine T.Body_many_open.fn.ok sc_Body_many_open (fun vs H Q E h => (by obtain ⟨_, _, _, _, _, rfl, _⟩ := h; rfl)) (fun cdv A outer s H vs Q E hr h => ?_)
  obtain ⟨self, fr, ls, B, ms, rfl, ⟨dx, hd, bd, lb, hps, bqs, rfl, h⟩, k⟩ := h
  refine ⟨_, (pss_one (ps_ret (pe_op op_sub (pe_callB (callK_len (K := K) rfl) rfl T.b_len PySem.boot_len (pa_cons (ne_fld (K := K) rfl (pv 0) rfl) pa_nil)) pe_int))), ?_⟩
  refine ⟨_, rfl, _, h.f1 T, hd, _, rfl, .inl (SqL.of h.hh), ?_⟩
  refine ⟨_, _, rfl, rfl, ?_⟩
  have : (hps.map V.ref).reverse.length = fr.length := by rw [List.length_reverse, List.length_map]; exact h.fa.len.1
  rw [this]
  exact k
theorem sc_Body_put_in : FnScope ["self", "row"] ["self", "row"] (defScope s_Body_put_in) := ⟨rfl, rfl, rfl, by decide +kernel, rfl, by decide +kernel, by decide +kernel⟩
set_option maxHeartbeats 400000 in
theorem ok_Body_put_in (T : Txt K mg t) : FnOk P w K mg base CX0 1 t.f_Body_put_in t.d_Body_put_in ["self", "row"] (spPut t) := by
  refine T.Body_put_in.fn.ok sc_Body_put_in (fun vs H Q E h => (by obtain ⟨_, _, _, _, _, _, _, _, _, _, rfl, _⟩ := h; rfl)) (fun cdv A outer s H vs Q E hr h => ?_)
  obtain ⟨self, y, n, rs, rows, fr, ls, B, ms, r, rfl, ⟨dx, hd, bd, lb, hps, bqs, rfl, h⟩, hr', hB, k⟩ := h
  refine ⟨_, (pss_one (ps_expr (pe_bm PySem.F.plainAttrs_list PySem.F.slot_list_append PySem.F.type_list_append nm_append (pe_ix (ixK_list (K := K) rfl) (ne_fld (K := K) rfl (pv 0) rfl) (pe_un un_neg pe_int) (fun _ _ => rfl)) (pa_cons (pv 1) pa_nil)))), ?_⟩
  obtain ⟨nd, se, hh, hb, hl, fa, few⟩ := id h
  obtain ⟨p, ps, q, qs, rfl, rfl, f1, ⟨ys, e1, e2, e3⟩, f3⟩ := fa.inv
  refine ⟨_, rfl, _, h.f2 T, ?_⟩
  refine ⟨_, rfl, bd, _, _, .ref q, rfl, rfl, SqL.of hb, (by rw [List.map_cons, List.reverse_cons]; exact atI_last _ _), ?_⟩
  have hq : q ∈ self :: hd :: bd :: lb :: q :: qs := by simp
  refine ⟨.inl ⟨rfl, _, SqL.of e1⟩, _, rfl, q, ys, _, rfl, rfl, e1, line_small (by have := e2.len; omega), ?_⟩
  intro H' k' e'
  have fm : Fm (self :: hd :: bd :: lb :: q :: qs) H H' := fun b o hb e => by rw [k' b (fun z => hb (by rw [z]; exact hq))]; exact e
  have ne : ∀ b, b ∈ self :: hd :: bd :: lb :: qs → b ≠ q := fun b hx z => by
    subst z
    simp only [List.nodup_cons, List.mem_cons, not_or] at nd hx
    rcases hx with hx | hx | hx | hx | hx
    · exact nd.1.2.2.2.1 hx.symm
    · exact nd.2.1.2.2.1 hx.symm
    · exact nd.2.2.1.2.1 hx.symm
    · exact nd.2.2.2.1.1 hx.symm
    · exact nd.2.2.2.2.1 hx
  have hm : ∀ b ∈ self :: hd :: bd :: lb :: q :: qs, b ∈ self :: hd :: bd :: lb :: q :: qs ∨ H b = none := fun b hb => .inl hb
  refine k H' fm ⟨dx, hd, bd, lb, p :: ps, q :: qs, rfl, nd, ?_, ?_, ?_, ?_, ⟨?_, ⟨ys ++ [y], e', RwsAt.snoc (hr'.move fm hm) (e2.move fm hm), ?_⟩, f3.move fm hm (Nat.le_succ _) fun c hc o e => by rw [k' c (ne c (by simp [hc]))]; exact e⟩, by omega⟩
  · rw [k' self (ne self (by simp))]; exact se
  · rw [k' hd (ne hd (by simp))]; exact hh
  · rw [k' bd (ne bd (by simp))]; exact hb
  · rw [k' lb (ne lb (by simp))]; exact hl
  · obtain ⟨dx', a, b, g1, g2, g3, g4⟩ := f1
    exact ⟨dx', a, b, g1, g2, fm _ _ g1 g3, fm _ _ g2 g4⟩
  · rw [List.length_append]; simp only [List.length_cons, List.length_nil]; omega


/-! ### closed -/
theorem nd_qs {a b c d q : Addr} {qs : List Addr} (h : (a :: b :: c :: d :: q :: qs).Nodup) : (a :: b :: c :: d :: qs).Nodup ∧ ∀ x ∈ a :: b :: c :: d :: qs, x ≠ q := by
  have h' := h
  simp only [List.nodup_cons, List.mem_cons, not_or] at h ⊢
  refine ⟨⟨⟨h.1.1, h.1.2.1, h.1.2.2.1, h.1.2.2.2.2⟩, ⟨h.2.1.1, h.2.1.2.1, h.2.1.2.2.2⟩, ⟨h.2.2.1.1, h.2.2.1.2.2⟩, h.2.2.2.1.2, h.2.2.2.2.2⟩, fun x hx z => ?_⟩
  subst z
  rcases hx with hx | hx | hx | hx | hx
  · exact h.1.2.2.2.1 hx.symm
  · exact h.2.1.2.2.1 hx.symm
  · exact h.2.2.1.2.1 hx.symm
  · exact h.2.2.2.1.1 hx.symm
  · exact h.2.2.2.2.1 hx
theorem sc_Body_closed : FnScope ["self", "head"] ["self"] (defScope s_Body_closed) := ⟨rfl, rfl, rfl, by decide +kernel, rfl, by decide +kernel, by decide +kernel⟩
set_option maxHeartbeats 400000 in
theorem ok_Body_closed (T : Txt K mg t) : FnOk P w K mg base CX0 3 t.f_Body_closed t.d_Body_closed ["self"] (spClosed t) := by
  have M_Part_init : FnOk P w K mg base CX0 1 t.f_Part_init t.d_Part_init ["self", "name", "rooms", "rows"] (spIP K t) := (ok_Part_init T).mono (by decide)
  refine T.Body_closed.fn.ok sc_Body_closed (fun vs H Q E h => (by obtain ⟨_, _, _, _, _, _, _, _, rfl, _⟩ := h; rfl)) (fun cdv A outer s H vs Q E hr h => ?_)
  obtain ⟨self, n, rs, rows, fr, ls, B, ms, rfl, ⟨dx, hd, bd, lb, hps, bqs, rfl, h⟩, hB, k⟩ := h
  refine ⟨_, (pss_cons (ps_set (i := 1) sc_Body_closed.nd rfl (Or.inl rfl) (pe_bm0 PySem.F.plainAttrs_list PySem.F.slot_list_pop PySem.F.type_list_pop nm_pop (ne_fld (K := K) rfl (pv 0) rfl)))
      (pss_one (ps_ret (pe_make T.mk_Part M_Part_init hr rfl T.m_Part T.Part_init.bd .nil pass0 (pa_cons (ne_fld (K := K) rfl (pv 1) rfl) (pa_cons (ne_fld (K := K) rfl (pv 1) rfl) (pa_cons (pe_bm0 PySem.F.plainAttrs_list PySem.F.slot_list_pop PySem.F.type_list_pop nm_pop (ne_fld (K := K) rfl (pv 0) rfl)) pa_nil))))))), ?_⟩
  obtain ⟨nd, se, hh, hb, hl, fa, few⟩ := id h
  obtain ⟨p, ps, q, qs, rfl, rfl, ⟨dx', a, b, g1, g2, g3, g4⟩, ⟨ys, e1, e2, e3⟩, f3⟩ := fa.inv
  have dom := h.dom
  refine ⟨_, rfl, _, h.f1 T, ?_⟩
  refine ⟨.inl ⟨rfl, _, SqL.of hh⟩, hd, _, .ref p, rfl, rfl, hh, (by rw [List.map_cons, List.reverse_cons]; simp), ?_⟩
  intro H1 k1 e1'
  rw [List.map_cons, List.reverse_cons, List.dropLast_concat] at e1'
  obtain ⟨nd2, nq⟩ := nd_qs nd
  have nab : hd ≠ bd := by simp only [List.nodup_cons, List.mem_cons, not_or] at nd; exact nd.2.1.1
  have nsh : self ≠ hd := by simp only [List.nodup_cons, List.mem_cons, not_or] at nd; exact nd.1.1
  have nsb : self ≠ bd := by simp only [List.nodup_cons, List.mem_cons, not_or] at nd; exact nd.1.2.1
  have nlh : lb ≠ hd := by simp only [List.nodup_cons, List.mem_cons, not_or] at nd; exact fun z => nd.2.1.2.1 z.symm
  have nlb : lb ≠ bd := by simp only [List.nodup_cons, List.mem_cons, not_or] at nd; exact fun z => nd.2.2.1.1 z.symm
  have ph : p ≠ hd := fun z => g1 (by rw [z]; simp)
  have ah : a ≠ hd := fun z => g2 (by rw [z]; simp)
  have p1 : H1 p = some (.ins t.c_Part dx' (fp3 n a b)) := by rw [k1 p ph]; exact g3
  have a1 : H1 a = some (.lst (rs.map V.str)) := by rw [k1 a ah]; exact g4
  have s1 : H1 self = some (.ins t.c_Body dx (fb3 hd bd lb)) := by rw [k1 self nsh]; exact se
  have b1' : H1 bd = some (.lst ((q :: qs).map V.ref).reverse) := by rw [k1 bd (Ne.symm nab)]; exact hb
  refine ⟨_, rfl, _, ⟨p, _, dx', _, rfl, p1, T.cl_Part, T.na_Part_name, look_hit⟩, ?_⟩
  refine ⟨_, rfl, _, ⟨p, _, dx', _, rfl, p1, T.cl_Part, T.na_Part_rooms, (look_miss (fun z => m2 z.symm)).trans look_hit⟩, ?_⟩
  refine ⟨_, rfl, _, ⟨self, _, dx, _, rfl, s1, T.cl_Body, T.na_Body_bodies, (look_miss b1).trans look_hit⟩, ?_⟩
  refine ⟨.inl ⟨rfl, _, SqL.of b1'⟩, bd, _, .ref q, rfl, rfl, b1', (by rw [List.map_cons, List.reverse_cons]; simp), ?_⟩
  intro H2 k2 e2'
  rw [List.map_cons, List.reverse_cons, List.dropLast_concat] at e2'
  intro x dxx hx hdx hne
  have keep2 : ∀ c o, c ≠ hd → c ≠ bd → H c = some o → H2 c = some o := fun c o h1 h2 e => by rw [k2 c h2, k1 c h1]; exact e
  have keepm : ∀ c o, H2 c = some o → (upd (upd H2 dxx (HO.own x)) x (HO.ins t.c_Part dxx [])) c = some o := made_in hx hdx
  have ab : a ≠ bd := fun z => g2 (by rw [z]; simp)
  have qh : q ≠ hd := Ne.symm (nq hd (by simp))
  have qb' : q ≠ bd := Ne.symm (nq bd (by simp))
  refine ⟨x, dxx, a, q, n, rs, ys, rfl, upd_same, keepm _ _ (keep2 _ _ ah ab g4), keepm _ _ (keep2 _ _ qh qb' e1), fun H3 o3 h3 => ⟨rfl, ?_⟩⟩
  obtain ⟨dx3, qa, qb, r1, r2, r3, z1, z2⟩ := h3
  have keep3 : ∀ c o, H2 c = some o → H3 c = some o := fun c o e => o3 c o (ne_of_none e hx) (keepm c o e)
  have ke : ∀ c o, c ≠ hd → c ≠ bd → H c = some o → H3 c = some o := fun c o h1 h2 e => keep3 c o (keep2 c o h1 h2 e)
  have h2h : H2 hd = some (.lst (ps.map V.ref).reverse) := by rw [k2 hd nab]; exact e1'
  have sub : ∀ c ∈ self :: hd :: bd :: lb :: qs, c ∈ self :: hd :: bd :: lb :: q :: qs := fun c hc => by
    simp only [List.mem_cons] at hc ⊢
    rcases hc with z | z | z | z | z <;> simp [z]
  have fm : Fm (self :: hd :: bd :: lb :: q :: qs) H H3 := fun c o hc e => ke c o (fun z => hc (by rw [z]; simp)) (fun z => hc (by rw [z]; simp)) e
  have dom2 : ∀ c ∈ self :: hd :: bd :: lb :: qs, ∃ o, H2 c = some o := fun c hc => by
    by_cases q1 : c = hd
    · subst q1; exact ⟨_, h2h⟩
    · by_cases q2 : c = bd
      · subst q2; exact ⟨_, e2'⟩
      · obtain ⟨o, e⟩ := dom c (sub c hc)
        exact ⟨o, keep2 c o q1 q2 e⟩
  have ni : ∀ y, (upd (upd H2 dxx (HO.own x)) x (HO.ins t.c_Part dxx [])) y = none → y ∉ self :: hd :: bd :: lb :: qs := fun y e hy => by
    obtain ⟨o, e'⟩ := dom2 y hy
    rw [keepm y o e'] at e; cases e
  have hm : ∀ c ∈ self :: hd :: bd :: lb :: qs, c ∈ self :: hd :: bd :: lb :: q :: qs ∨ H c = none := fun c hc => .inl (sub c hc)
  have nqs : ∀ c ∈ qs, c ≠ hd ∧ c ≠ bd := fun c hc => by
    simp only [List.nodup_cons, List.mem_cons, not_or] at nd2
    exact ⟨fun z => nd2.2.1.2.2 (by rw [← z]; exact hc), fun z => nd2.2.2.1.2 (by rw [← z]; exact hc)⟩
  refine k x H3 (self :: hd :: bd :: lb :: qs) fm sub ⟨dx, hd, bd, lb, ps, qs, rfl, nd2, ke _ _ nsh nsb se, keep3 _ _ h2h, keep3 _ _ e2', ke _ _ nlh nlb hl, f3.move fm hm (Nat.le_refl _) (fun c hc o e => ke c o (nqs c hc).1 (nqs c hc).2 e), few⟩ ?_
  unfold RwAt
  refine ⟨x, dx3, qa, qb, ys, rfl, fun hxm => ?_, ni qa z1, ni qb z2, r1, r2, r3, e2.move fm hm⟩
  obtain ⟨o, e'⟩ := dom2 x hxm
  rw [hx] at e'; cases e'


/-! ### takes -/
end
def spDone (t : Adr) : Sp := fun vs H Q _ => ∃ (self : Addr) (fr : List Fr) (ls : List Str) (B : Nat) (ms : List Addr), vs = [.ref self] ∧ BdAt t H self fr ls B ms ∧ B < 1000 ∧ fr ≠ [] ∧ (fr.length = 1 → Q (.bl false) H) ∧
  ∀ n rs rows n2 rs2 rows2 fr', fr = (n, rs, rows) :: (n2, rs2, rows2) :: fr' → ∀ H' ms', Fm ms H H' → (∀ b ∈ ms', b ∈ ms) → BdAt t H' self ((n2, rs2, rows2 ++ [.pt n rs rows]) :: fr') ls (B + 1) ms' → Q (.bl true) H'
def spHead (t : Adr) : Sp := fun vs H Q _ => ∃ (self p dx a b : Addr) (n : Str) (rs : List Str) (fr : List Fr) (ls : List Str) (B : Nat) (ms : List Addr), vs = [.ref self, .ref p] ∧ BdAt t H self fr ls B ms ∧ B < 1000 ∧ fr.length ≤ 7 ∧ p ∉ ms ∧ a ∉ ms ∧ H p = some (.ins t.c_Part dx (fp3 n a b)) ∧ H a = some (.lst (rs.map V.str)) ∧ (fr.length = 7 ∨ n ∈ ls → Q (.bl false) H) ∧
  (¬ (fr.length = 7 ∨ n ∈ ls) → ∀ H' ms', Fm ms H H' → (∀ b ∈ ms', b ∈ ms ∨ H b = none) → BdAt t H' self ((n, rs, []) :: fr) (ls ++ [n]) (B + 1) ms' → Q (.bl true) H')
def spClaB (t : Adr) : Sp := fun vs H Q _ => ∃ (self p : Addr) (k : Int) (l u a : Str) (n : Int) (r : Str) (pn : Str) (rs : List Str) (rows : List Rw) (fr : List Fr) (ls : List Str) (B : Nat) (ms : List Addr), vs = [.ref self, .ref p] ∧ BdAt t H self ((pn, rs, rows) :: fr) ls B ms ∧ B < 998 ∧ p ∉ ms ∧ At t H p k l u a n r ∧ (l ∈ ls → Q (.bl false) H) ∧
  (l ∉ ls → ∀ H', Fm ms H H' → BdAt t H' self ((pn, rs, rows ++ [.cl k l u a n r]) :: fr) (ls ++ [l]) (B + 2) ms → Q (.bl true) H')
theorem fb3_no {a b c : Addr} {m : Str} (h1 : ¬ m = "heads") (h2 : ¬ m = "bodies") (h3 : ¬ m = "labels") : (fb3 a b c).lookup m = none := (look_miss h1).trans ((look_miss h2).trans ((look_miss h3).trans rfl))
theorem no_many {a b c : Addr} : (fb3 a b c).lookup ("many_open" : Str) = none := fb3_no (by decide +kernel) (by decide +kernel) (by decide +kernel)
theorem no_put {a b c : Addr} : (fb3 a b c).lookup ("put_in" : Str) = none := fb3_no (by decide +kernel) (by decide +kernel) (by decide +kernel)
theorem no_closed {a b c : Addr} : (fb3 a b c).lookup ("closed" : Str) = none := fb3_no (by decide +kernel) (by decide +kernel) (by decide +kernel)
theorem no_td {a b c : Addr} : (fb3 a b c).lookup ("takes_done" : Str) = none := fb3_no (by decide +kernel) (by decide +kernel) (by decide +kernel)
theorem no_th {a b c : Addr} : (fb3 a b c).lookup ("takes_head" : Str) = none := fb3_no (by decide +kernel) (by decide +kernel) (by decide +kernel)
theorem no_tc {a b c : Addr} : (fb3 a b c).lookup ("takes_clause" : Str) = none := fb3_no (by decide +kernel) (by decide +kernel) (by decide +kernel)
theorem no_tk {a b c : Addr} : (fb3 a b c).lookup ("takes" : Str) = none := fb3_no (by decide +kernel) (by decide +kernel) (by decide +kernel)
theorem lbs_in {ls : List Str} {n : Str} : (valV (lbs ls) (.inr n)).isSome = decide (n ∈ ls) := by
  rw [← valV_any]
  unfold lbs
  rw [List.any_map]
  rw [Bool.eq_iff_iff]
  simp
theorem lbs_put {ls : List Str} {n : Str} (h : n ∉ ls) : putK (lbs ls) (.inr n) (.bl true) = lbs (ls ++ [n]) := by
  rw [putK_new]
  · unfold lbs; rw [List.map_append]; rfl
  · have := @lbs_in ls n
    rw [decide_eq_false h] at this
    cases q : valV (lbs ls) (.inr n) with
    | none => rfl
    | some v => rw [q] at this; cases this
section
variable {P : Program} {w : World} {K : PySem.W.Frag} {mg : Str → Option Value} {base : Heap} {t : Adr}
theorem sc_Body_takes_done : FnScope ["self"] ["self"] (defScope s_Body_takes_done) := ⟨rfl, rfl, rfl, by decide +kernel, rfl, by decide +kernel, by decide +kernel⟩
set_option maxHeartbeats 400000 in
theorem ok_Body_takes_done (T : Txt K mg t) : FnOk P w K mg base CX0 5 t.f_Body_takes_done t.d_Body_takes_done ["self"] (spDone t) := by
  refine T.Body_takes_done.fn.ok sc_Body_takes_done (fun vs H Q E h => (by obtain ⟨_, _, _, _, _, rfl, _⟩ := h; rfl)) (fun cdv A outer s H vs Q E hr h => ?_)
  obtain ⟨self, fr, ls, B, ms, rfl, hb, hB, hne, k0, k1⟩ := h
  refine ⟨_, (pss_cons (ps_if (pt_cmpR op_eq (pe_methD0 hr (pv 0)) pe_int (nomark _))
        (pss_one (ps_ret pe_bl)) pss_nil)
      (pss_cons (ps_expr (pe_methD hr (pv 0) (pa_cons (pe_methD0 hr (pv 0)) pa_nil)))
      (pss_one (ps_ret pe_bl)))), ?_⟩
  have M1 : MethOk P w K mg base CX0 4 t.c_Body "many_open" (spMany t) := .mk' T.mt_Body_many_open (ok_Body_many_open T) T.Body_many_open.bd (by decide)
  have M2 : MethOk P w K mg base CX0 4 t.c_Body "put_in" (spPut t) := .mk' T.mt_Body_put_in (ok_Body_put_in T) T.Body_put_in.bd (by decide)
  have M3 : MethOk P w K mg base CX0 4 t.c_Body "closed" (spClosed t) := .mk' T.mt_Body_closed (ok_Body_closed T) T.Body_closed.bd (by decide)
  obtain ⟨dx, hd, bd, lb, hps, bqs, e, h⟩ := id hb
  refine ⟨_, rfl, self, _, dx, _, rfl, h.se, T.cl_Body, no_many, _, M1, ?_⟩
  refine ⟨self, fr, ls, B, ms, rfl, hb, ?_⟩
  walk_at "rd"
  refine ite2 (fun h1 => ?_) (fun h1 => ?_)
  · walk_at "rd"
    exact k0 (by
      have : ((fr.length : Nat) : Int) - 1 = 0 := by simpa using h1
      omega)
  match fr, hne with
  | [(n, rs, rows)], _ => exact absurd rfl h1
  | (n, rs, rows) :: (n2, rs2, rows2) :: fr', _ =>
    walk_at "rd"
    refine ⟨self, _, dx, _, rfl, h.se, T.cl_Body, no_put, _, M2, ?_⟩
    refine ⟨_, rfl, self, _, dx, _, rfl, h.se, T.cl_Body, no_closed, _, M3, ?_⟩
    refine ⟨self, n, rs, rows, _, ls, B, ms, rfl, hb, by omega, fun p H1 ms1 fm1 sub1 hb1 hr1 => ?_⟩
    refine ⟨self, .ref p, n2, rs2, rows2, fr', ls, B, ms1, .pt n rs rows, rfl, hb1, hr1, hB, fun H2 fm2 hb2 => ?_⟩
    exact k1 _ _ _ _ _ _ _ rfl H2 ms1 (fm1.trans fm2 (fun b hb => .inl (sub1 b hb))) sub1 hb2
theorem sc_Body_takes_head : FnScope ["self", "head"] ["self", "head"] (defScope s_Body_takes_head) := ⟨rfl, rfl, rfl, by decide +kernel, rfl, by decide +kernel, by decide +kernel⟩
set_option maxHeartbeats 400000 in
theorem ok_Body_takes_head (T : Txt K mg t) : FnOk P w K mg base CX0 3 t.f_Body_takes_head t.d_Body_takes_head ["self", "head"] (spHead t) := by
  refine T.Body_takes_head.fn.ok sc_Body_takes_head (fun vs H Q E h => (by obtain ⟨_, _, _, _, _, _, _, _, _, _, _, rfl, _⟩ := h; rfl)) (fun cdv A outer s H vs Q E hr h => ?_)
  obtain ⟨self, p, dxp, a, b, n, rs, fr, ls, B, ms, rfl, hb, hB, h7, hp, ha, ep, ea, k0, k1⟩ := h
  refine ⟨_, (pss_cons (ps_if (PW.pt (pw_or (pt_cmpR op_eq (pe_methD0 hr (pv 0)) (pe_glob rfl (T.g_MOST_OPEN).choose_spec (v := .int 6) ⟨_, rfl⟩) (nomark _)) (pw_or1 (pt_cmp (pc_din (hu_of hr) (ne_fld (K := K) rfl (pv 1) rfl) (ne_fld (K := K) rfl (pv 0) rfl))))))
        (pss_one (ps_ret pe_bl)) pss_nil)
      (pss_cons (ps_asg pe_bl (pg_sub (ne_fld (K := K) rfl (pv 0) rfl) (ne_fld (K := K) rfl (pv 1) rfl) (nset_dict (hu_of hr))))
      (pss_cons (ps_expr (pe_bm PySem.F.plainAttrs_list PySem.F.slot_list_append PySem.F.type_list_append nm_append (ne_fld (K := K) rfl (pv 0) rfl) (pa_cons (pv 1) pa_nil)))
      (pss_cons (ps_expr (pe_bm PySem.F.plainAttrs_list PySem.F.slot_list_append PySem.F.type_list_append nm_append (ne_fld (K := K) rfl (pv 0) rfl) (pa_cons (ne_lst pa_nil) pa_nil)))
      (pss_one (ps_ret pe_bl)))))), ?_⟩
  have M1 : MethOk P w K mg base CX0 2 t.c_Body "many_open" (spMany t) := .mk' T.mt_Body_many_open (ok_Body_many_open T) T.Body_many_open.bd (by decide)
  obtain ⟨dx, hd, bd, lb, hps, bqs, e, h⟩ := id hb
  have fnm : Fld K H (.ref p) "name" (.str n) := ⟨p, _, dxp, _, rfl, ep, T.cl_Part, T.na_Part_name, look_hit⟩
  refine ⟨_, rfl, self, _, dx, _, rfl, h.se, T.cl_Body, no_many, _, M1, ?_⟩
  refine ⟨self, fr, ls, B, ms, rfl, hb, ?_⟩
  walk_at "rd"
  refine ite2 (fun h1 => ?_) (fun h1 => ?_)
  · walk_at "rd"
    exact k0 (.inl (by
      have : ((fr.length : Nat) : Int) - 1 = 6 := by simpa using h1
      omega))
  have n7 : ¬ fr.length = 7 := fun z => h1 (by rw [z]; rfl)
  refine ⟨_, rfl, _, fnm, _, rfl, _, h.f3 T, lb, _, rfl, DGet.k (k := .inr n) h.hl, ?_⟩
  rw [lbs_in]
  subst e
  obtain ⟨nd, se, hh, hbb, hl, fa, few⟩ := id h
  have ndx := nd
  simp only [List.nodup_cons, List.mem_cons, not_or] at ndx
  obtain ⟨⟨nsh, nsb, nsl, _⟩, ⟨nhb, nhl, _⟩, ⟨nbl, _⟩, _, _⟩ := ndx
  refine ⟨_, rfl, ?_⟩
  refine ite2 (fun h2 => ?_) (fun h2 => ?_)
  · exact k0 (.inr (of_decide_eq_true h2))
  have hnl : n ∉ ls := fun z => h2 (decide_eq_true z)
  refine ⟨_, rfl, _, h.f3 T, _, rfl, _, fnm, lb, _, .inr n, rfl, rfl, hl, line_small (by unfold lbs; rw [List.length_map]; omega), ?_⟩
  intro H1 k1' e1
  rw [lbs_put hnl] at e1
  have s1 : H1 self = some (.ins t.c_Body dx (fb3 hd bd lb)) := by rw [k1' self nsl]; exact se
  have h1' : H1 hd = some (.lst (hps.map V.ref).reverse) := by rw [k1' hd nhl]; exact hh
  have b1' : H1 bd = some (.lst (bqs.map V.ref).reverse) := by rw [k1' bd nbl]; exact hbb
  have lh := fa.len
  refine ⟨_, rfl, _, ⟨self, _, dx, _, rfl, s1, T.cl_Body, T.na_Body_heads, look_hit⟩, .inl ⟨rfl, _, SqL.of h1'⟩, _, rfl, hd, _, _, rfl, rfl, h1', line_small (by rw [List.length_reverse, List.length_map]; omega), ?_⟩
  intro H2 k2 e2
  have s2 : H2 self = some (.ins t.c_Body dx (fb3 hd bd lb)) := by rw [k2 self nsh]; exact s1
  have b2' : H2 bd = some (.lst (bqs.map V.ref).reverse) := by rw [k2 bd (Ne.symm nhb)]; exact b1'
  have l2' : H2 lb = some (.dK (lbs (ls ++ [n]))) := by rw [k2 lb (Ne.symm nhl)]; exact e1
  refine ⟨_, rfl, _, ⟨self, _, dx, _, rfl, s2, T.cl_Body, T.na_Body_bodies, (look_miss b1).trans look_hit⟩, .inl ⟨rfl, _, SqL.of b2'⟩, Nat.zero_le _, ?_⟩
  intro q H3 s3 hq e3
  refine ⟨bd, _, _, rfl, rfl, s3 _ _ b2', line_small (by rw [List.length_reverse, List.length_map]; omega), ?_⟩
  intro H4 k4 e4
  have ke : ∀ c o, c ≠ hd → c ≠ bd → c ≠ lb → H c = some o → H4 c = some o := fun c o z1 z2 z3 e => by
    rw [k4 c z2]; refine s3 _ _ ?_; rw [k2 c z1, k1' c z3]; exact e
  have dom := h.dom
  have dom2 : ∀ c ∈ self :: hd :: bd :: lb :: bqs, ∃ o, H2 c = some o := fun c hc => by
    by_cases q1 : c = hd
    · subst q1; exact ⟨_, e2⟩
    · rw [k2 c q1]
      by_cases q3 : c = lb
      · subst q3; exact ⟨_, e1⟩
      · rw [k1' c q3]; exact dom c hc
  have qn : q ∉ self :: hd :: bd :: lb :: bqs := fun z => by
    obtain ⟨o, e⟩ := dom2 q z
    rw [hq] at e; cases e
  have Hq : H q = none := by
    cases z : H q with
    | none => rfl
    | some o =>
      have q1 : q ≠ hd := fun y => qn (by rw [y]; simp)
      have q3 : q ≠ lb := fun y => qn (by rw [y]; simp)
      rw [k2 q q1, k1' q q3, z] at hq; cases hq
  have fm : Fm (self :: hd :: bd :: lb :: bqs) H H4 := fun c o hc e => ke c o (fun z => hc (by rw [z]; simp)) (fun z => hc (by rw [z]; simp)) (fun z => hc (by rw [z]; simp)) e
  have hm : ∀ c ∈ self :: hd :: bd :: lb :: q :: bqs, c ∈ self :: hd :: bd :: lb :: bqs ∨ H c = none := fun c hc => by
    simp only [List.mem_cons] at hc
    rcases hc with z | z | z | z | z | z
    · exact .inl (by simp [z])
    · exact .inl (by simp [z])
    · exact .inl (by simp [z])
    · exact .inl (by simp [z])
    · exact .inr (by rw [z]; exact Hq)
    · exact .inl (by simp [z])
  have qb : q ≠ bd := fun y => qn (by rw [y]; simp)
  have q4 : H4 q = some (.lst []) := by rw [k4 q qb]; exact e3
  have nqs : ∀ c ∈ bqs, c ≠ hd ∧ c ≠ bd ∧ c ≠ lb := fun c hc => by
    simp only [List.nodup_cons, List.mem_cons, not_or] at nd
    exact ⟨fun z => nd.2.1.2.2 (by rw [← z]; exact hc), fun z => nd.2.2.1.2 (by rw [← z]; exact hc), fun z => nd.2.2.2.1 (by rw [← z]; exact hc)⟩
  refine k1 (fun z => z.elim n7 hnl) H4 (self :: hd :: bd :: lb :: q :: bqs) fm hm ⟨dx, hd, bd, lb, p :: hps, q :: bqs, rfl, ?_, ke _ _ nsh nsb nsl se, ?_, ?_, ?_, ⟨⟨dxp, a, b, notin hm hp ep, notin hm ha ea, fm _ _ hp ep, fm _ _ ha ea⟩, ⟨[], q4, by unfold RwsAt; rfl, Nat.zero_le _⟩, fa.move fm hm (Nat.le_succ _) (fun c hc o e => ke c o (nqs c hc).1 (nqs c hc).2.1 (nqs c hc).2.2 e)⟩, by rw [List.length_append]; simp only [List.length_cons, List.length_nil]; omega⟩
  · have nd' := nd
    simp only [List.nodup_cons, List.mem_cons, not_or] at nd' qn ⊢
    exact ⟨⟨nd'.1.1, nd'.1.2.1, nd'.1.2.2.1, Ne.symm qn.1, nd'.1.2.2.2⟩, ⟨nd'.2.1.1, nd'.2.1.2.1, Ne.symm qn.2.1, nd'.2.1.2.2⟩, ⟨nd'.2.2.1.1, Ne.symm qn.2.2.1, nd'.2.2.1.2⟩, ⟨Ne.symm qn.2.2.2.1, nd'.2.2.2.1⟩, qn.2.2.2.2, nd'.2.2.2.2⟩
  · rw [k4 hd nhb, List.map_cons, List.reverse_cons]; exact s3 _ _ e2
  · rw [List.map_cons, List.reverse_cons]; exact e4
  · rw [k4 lb (Ne.symm nbl)]; exact s3 _ _ l2'


/-! ### takes, whole -/
end
theorem BdAt.same {t : Adr} {H H' : Hp} {me : Addr} {fr : List Fr} {ls : List Str} {B : Nat} {ms : List Addr} (h : BdAt t H me fr ls B ms) (s : Same H H') : BdAt t H' me fr ls B ms := by
  obtain ⟨dx, hd, bd, lb, hps, bqs, e, h⟩ := h
  subst e
  exact ⟨dx, hd, bd, lb, hps, bqs, rfl, h.nd, s _ _ h.se, s _ _ h.hh, s _ _ h.hb, s _ _ h.hl, h.fa.move (Fm.of s) (fun b hb => .inl hb) (Nat.le_refl _) (fun c _ o e => s _ _ e), h.few⟩
theorem BdAt.up {t : Adr} {H : Hp} {me : Addr} {fr : List Fr} {ls : List Str} {B B' : Nat} {ms : List Addr} (h : BdAt t H me fr ls B ms) (hB : B ≤ B') : BdAt t H me fr ls B' ms := by
  obtain ⟨dx, hd, bd, lb, hps, bqs, e, h⟩ := h
  subst e
  exact ⟨dx, hd, bd, lb, hps, bqs, rfl, h.nd, h.se, h.hh, h.hb, h.hl, h.fa.move (Fm.of (Same.refl _)) (fun b hb => .inl hb) hB (fun c _ o e => e), Nat.le_trans h.few hB⟩
theorem BdAt.dom {t : Adr} {H : Hp} {me : Addr} {fr : List Fr} {ls : List Str} {B : Nat} {ms : List Addr} (h : BdAt t H me fr ls B ms) : ∀ b ∈ ms, ∃ o, H b = some o := by
  obtain ⟨dx, hd, bd, lb, hps, bqs, e, h⟩ := h
  subst e
  exact h.dom
theorem BdAt.out {t : Adr} {H : Hp} {me : Addr} {fr : List Fr} {ls : List Str} {B : Nat} {ms : List Addr} {p : Addr} (h : BdAt t H me fr ls B ms) (hp : H p = none) : p ∉ ms := fun z => by
  obtain ⟨o, e⟩ := h.dom p z
  rw [hp] at e; cases e
def push : List Fr → Rw → List Fr
  | (n, rs, rows) :: fr, r => (n, rs, rows ++ [r]) :: fr
  | [], _ => []
def takeO (fr : List Fr) (ls : List Str) (x : Str) : Option (List Fr × List Str) :=
  if x = "done" then (match fr with
    | (n, rs, rows) :: (n2, rs2, rows2) :: fr' => some ((n2, rs2, rows2 ++ [.pt n rs rows]) :: fr', ls)
    | _ => none)
  else match partO (spl x) with
    | some (n, rs) => if fr.length = 7 ∨ n ∈ ls then none else some ((n, rs, []) :: fr, ls ++ [n])
    | none => match clauseO (spl x) with
      | some (k, l, u, a, n, r) => if l ∈ ls then none else some (push fr (.cl k l u a n r), ls ++ [l])
      | none => match letO (spl x) with
        | none => none
        | some (n, v) => some (push fr (.lt n v), ls)
def spTakes (t : Adr) : Sp := fun vs H Q _ => ∃ (self : Addr) (x : Str) (fr : List Fr) (ls : List Str) (B : Nat) (ms : List Addr), vs = [.ref self, .str x] ∧ BdAt t H self fr ls B ms ∧ B < 998 ∧ x.length ≤ 190 ∧ fr ≠ [] ∧ fr.length ≤ 7 ∧ (takeO fr ls x = none → ∀ H', Fm ms H H' → Q (.bl false) H') ∧
  ∀ fr' ls' H' ms', takeO fr ls x = some (fr', ls') → Fm ms H H' → (∀ b ∈ ms', b ∈ ms ∨ H b = none) → BdAt t H' self fr' ls' (B + 2) ms' → Q (.bl true) H'
section
variable {P : Program} {w : World} {K : PySem.W.Frag} {mg : Str → Option Value} {base : Heap} {t : Adr}
theorem sc_Body_takes_clause : FnScope ["self", "clause"] ["self", "clause"] (defScope s_Body_takes_clause) := ⟨rfl, rfl, rfl, by decide +kernel, rfl, by decide +kernel, by decide +kernel⟩
set_option maxHeartbeats 400000 in
theorem ok_Body_takes_clause (T : Txt K mg t) : FnOk P w K mg base CX0 3 t.f_Body_takes_clause t.d_Body_takes_clause ["self", "clause"] (spClaB t) := by
  refine T.Body_takes_clause.fn.ok sc_Body_takes_clause (fun vs H Q E h => (by obtain ⟨_, _, _, _, _, _, _, _, _, _, _, _, _, _, _, rfl, _⟩ := h; rfl)) (fun cdv A outer s H vs Q E hr h => ?_)
  obtain ⟨self, p, k, l, u, a, n, r, pn, rs, rows, fr, ls, B, ms, rfl, hb, hB, hp, hA, k0, k1⟩ := h
  refine ⟨_, (pss_cons (ps_if (pt_cmp (pc_din (hu_of hr) (ne_fld (K := K) rfl (pv 1) rfl) (ne_fld (K := K) rfl (pv 0) rfl)))
        (pss_one (ps_ret pe_bl)) pss_nil)
      (pss_cons (ps_asg pe_bl (pg_sub (ne_fld (K := K) rfl (pv 0) rfl) (ne_fld (K := K) rfl (pv 1) rfl) (nset_dict (hu_of hr))))
      (pss_cons (ps_expr (pe_methD hr (pv 0) (pa_cons (pv 1) pa_nil)))
      (pss_one (ps_ret pe_bl))))), ?_⟩
  have M2 : MethOk P w K mg base CX0 2 t.c_Body "put_in" (spPut t) := .mk' T.mt_Body_put_in (ok_Body_put_in T) T.Body_put_in.bd (by decide)
  obtain ⟨dx, hd, bd, lb, hps, bqs, e, h⟩ := id hb
  subst e
  have fl := hA.fl T
  refine ⟨_, rfl, _, fl, _, rfl, _, h.f3 T, lb, _, rfl, DGet.k (k := .inr l) h.hl, ?_⟩
  rw [lbs_in]
  refine ⟨_, rfl, ?_⟩
  refine ite2 (fun h2 => ?_) (fun h2 => ?_)
  · exact k0 (of_decide_eq_true h2)
  have hnl : l ∉ ls := fun z => h2 (decide_eq_true z)
  obtain ⟨nd, se, hh, hbb, hl, fa, few⟩ := id h
  have ndx := nd
  simp only [List.nodup_cons, List.mem_cons, not_or] at ndx
  obtain ⟨⟨nsh, nsb, nsl, _⟩, ⟨nhb, nhl, _⟩, ⟨nbl, _⟩, nlq, _⟩ := ndx
  refine ⟨_, rfl, _, h.f3 T, _, rfl, _, fl, lb, _, .inr l, rfl, rfl, hl, line_small (by unfold lbs; rw [List.length_map]; omega), ?_⟩
  intro H1 k1' e1
  rw [lbs_put hnl] at e1
  have fm : Fm (self :: hd :: bd :: lb :: bqs) H H1 := fun c o hc e => by rw [k1' c (fun z => hc (by rw [z]; simp))]; exact e
  have hm : ∀ c ∈ self :: hd :: bd :: lb :: bqs, c ∈ self :: hd :: bd :: lb :: bqs ∨ H c = none := fun c hc => .inl hc
  have s1 : H1 self = some (.ins t.c_Body dx (fb3 hd bd lb)) := by rw [k1' self nsl]; exact se
  have hb1 : BdAt t H1 self ((pn, rs, rows) :: fr) (ls ++ [l]) (B + 1) (self :: hd :: bd :: lb :: bqs) := ⟨dx, hd, bd, lb, hps, bqs, rfl, nd, s1, by rw [k1' hd nhl]; exact hh, by rw [k1' bd nbl]; exact hbb, e1, fa.move fm hm (Nat.le_succ _) (fun c hc o e => by rw [k1' c (fun z => nlq (by rw [← z]; exact hc))]; exact e), by rw [List.length_append]; simp only [List.length_cons, List.length_nil]; omega⟩
  refine ⟨_, rfl, self, _, dx, _, rfl, s1, T.cl_Body, no_put, _, M2, ?_⟩
  obtain ⟨dxc, ec⟩ := hA
  have hr1 : RwAt t (self :: hd :: bd :: lb :: bqs) H1 (.cl k l u a n r) (.ref p) := by unfold RwAt; exact ⟨p, rfl, hp, dxc, fm _ _ hp ec⟩
  refine ⟨_, rfl, self, .ref p, pn, rs, rows, fr, _, _, _, _, rfl, hb1, hr1, by omega, fun H2 fm2 hb2 => ?_⟩
  exact k1 hnl H2 (fm.trans fm2 hm) hb2
theorem sc_Body_takes : FnScope ["self", "row", "head", "clause", "let"] ["self", "row"] (defScope s_Body_takes) := ⟨rfl, rfl, rfl, by decide +kernel, rfl, by decide +kernel, by decide +kernel⟩
set_option maxHeartbeats 400000 in
theorem ok_Body_takes (T : Txt K mg t) : FnOk P w K mg base CX0 7 t.f_Body_takes t.d_Body_takes ["self", "row"] (spTakes t) := by
  have G_v_clause_of : FnOk P w K mg base CX0 6 t.f_v_clause_of t.d_v_clause_of ["row"] (spClause t) := (ok_v_clause_of T).mono (by decide)
  have G_v_let_of : FnOk P w K mg base CX0 6 t.f_v_let_of t.d_v_let_of ["row"] (spLet t) := (ok_v_let_of T).mono (by decide)
  have G_v_part_of : FnOk P w K mg base CX0 6 t.f_v_part_of t.d_v_part_of ["row"] (spPart t) := (ok_v_part_of T).mono (by decide)
  refine T.Body_takes.fn.ok sc_Body_takes (fun vs H Q E h => (by obtain ⟨_, _, _, _, _, _, rfl, _⟩ := h; rfl)) (fun cdv A outer s H vs Q E hr h => ?_)
  obtain ⟨self, x, fr, ls, B, ms, rfl, hb, hB, hx, hne, h7, k0, k1⟩ := h
  refine ⟨_, (pss_cons (ps_if (pt_cmpR op_eq (pv 1) pe_str (nomark _))
        (pss_one (ps_ret (pe_methD0 hr (pv 0)))) pss_nil)
      (pss_cons (ps_set (i := 2) sc_Body_takes.nd rfl (Or.inl rfl) (pe_call G_v_part_of hr rfl T.v_part_of.mg T.v_part_of.fn.kp T.v_part_of.bd .nil pass0 (pa_cons (pv 1) pa_nil)))
      (pss_cons (ps_if (pt_cmpR op_notN (pv 2) pe_non (nomark _))
        (pss_one (ps_ret (pe_methD hr (pv 0) (pa_cons (pv 2) pa_nil)))) pss_nil)
      (pss_cons (ps_set (i := 3) sc_Body_takes.nd rfl (Or.inl rfl) (pe_call G_v_clause_of hr rfl T.v_clause_of.mg T.v_clause_of.fn.kp T.v_clause_of.bd .nil pass0 (pa_cons (pv 1) pa_nil)))
      (pss_cons (ps_if (pt_cmpR op_notN (pv 3) pe_non (nomark _))
        (pss_one (ps_ret (pe_methD hr (pv 0) (pa_cons (pv 3) pa_nil)))) pss_nil)
      (pss_cons (ps_set (i := 4) sc_Body_takes.nd rfl (Or.inl rfl) (pe_call G_v_let_of hr rfl T.v_let_of.mg T.v_let_of.fn.kp T.v_let_of.bd .nil pass0 (pa_cons (pv 1) pa_nil)))
      (pss_cons (ps_if (pt_cmpR op_isN (pv 4) pe_non (nomark _))
        (pss_one (ps_ret pe_bl)) pss_nil)
      (pss_cons (ps_expr (pe_methD hr (pv 0) (pa_cons (pv 4) pa_nil)))
      (pss_one (ps_ret pe_bl)))))))))), ?_⟩
  have M1 : MethOk P w K mg base CX0 6 t.c_Body "takes_done" (spDone t) := .mk' T.mt_Body_takes_done (ok_Body_takes_done T) T.Body_takes_done.bd (by decide)
  have M2 : MethOk P w K mg base CX0 6 t.c_Body "takes_head" (spHead t) := .mk' T.mt_Body_takes_head (ok_Body_takes_head T) T.Body_takes_head.bd (by decide)
  have M3 : MethOk P w K mg base CX0 6 t.c_Body "takes_clause" (spClaB t) := .mk' T.mt_Body_takes_clause (ok_Body_takes_clause T) T.Body_takes_clause.bd (by decide)
  have M4 : MethOk P w K mg base CX0 6 t.c_Body "put_in" (spPut t) := .mk' T.mt_Body_put_in (ok_Body_put_in T) T.Body_put_in.bd (by decide)
  obtain ⟨dx, hd, bd, lb, hps, bqs, e, h⟩ := id hb
  obtain ⟨pn, prs, prow, fr0, rfl⟩ : ∃ pn prs prow fr0, fr = (pn, prs, prow) :: fr0 := by
    match fr, hne with
    | (a, b, c) :: r, _ => exact ⟨a, b, c, r, rfl⟩
  have se := h.se
  have hmm : ∀ c ∈ ms, c ∈ ms ∨ H c = none := fun c hc => .inl hc
  walk_at "rd"
  refine ite2 (fun h1 => ?_) (fun h1 => ?_)
  · have hxd : x = "done" := str_iff h1
    refine ⟨_, rfl, self, _, dx, _, rfl, se, T.cl_Body, no_td, _, M1, ?_⟩
    refine ⟨self, _, ls, B, ms, rfl, hb, by omega, hne, fun hl1 => ?_, fun n rs rows n2 rs2 rows2 fr' ef H' ms' fm sub hb' => ?_⟩
    · refine k0 ?_ H (fun _ _ _ e => e)
      unfold takeO
      rw [if_pos hxd]
      have hf0 : fr0 = [] := List.length_eq_zero_iff.mp (by simpa using hl1)
      rw [hf0]
    · refine k1 _ _ H' ms' ?_ fm (fun b hb => .inl (sub b hb)) (hb'.up (by omega))
      unfold takeO
      rw [if_pos hxd, ef]
  have hxd : ¬ x = "done" := str_nif h1
  have eT : takeO ((pn, prs, prow) :: fr0) ls x = (match partO (spl x) with
    | some (n, rs) => if ((pn, prs, prow) :: fr0).length = 7 ∨ n ∈ ls then none else some ((n, rs, []) :: (pn, prs, prow) :: fr0, ls ++ [n])
    | none => match clauseO (spl x) with
      | some (k, l, u, a, n, r) => if l ∈ ls then none else some (push ((pn, prs, prow) :: fr0) (.cl k l u a n r), ls ++ [l])
      | none => match letO (spl x) with
        | none => none
        | some (n, v) => some (push ((pn, prs, prow) :: fr0) (.lt n v), ls)) := by unfold takeO; rw [if_neg hxd]
  walk_at "rd"
  refine fun H1 s1 => ⟨fun h0 => ?_, fun p n rs h0 hp hP => ?_⟩
  · rw [h0] at eT
    walk_at "rd"
    refine fun H2 s2 => ⟨fun h0c => ?_, fun p k l u a n r h0c hp hA => ?_⟩
    · rw [h0c] at eT
      walk_at "rd"
      refine fun H3 s3 => ⟨fun h0l => ?_, fun p n v h0l hp hL => ?_⟩
      · rw [h0l] at eT
        walk_at "rd"
        exact k0 eT H3 (Fm.of ((s1.trans s2).trans s3))
      · rw [h0l] at eT
        have sA : Same H H3 := (s1.trans s2).trans s3
        have hout : p ∉ ms := (hb.same (s1.trans s2)).out hp
        walk_at "rd"
        refine ⟨self, _, dx, _, rfl, sA _ _ se, T.cl_Body, no_put, _, M4, ?_⟩
        refine ⟨_, rfl, self, .ref p, pn, prs, prow, fr0, ls, B, ms, .lt n v, rfl, hb.same sA, (by unfold RwAt; exact ⟨p, rfl, hout, hL⟩), by omega, fun H4 fm4 hb4 => ?_⟩
        exact k1 _ _ H4 ms eT ((Fm.of sA).trans fm4 hmm) hmm (hb4.up (by omega))
    · rw [h0c] at eT
      have sA : Same H H2 := s1.trans s2
      have hout : p ∉ ms := (hb.same s1).out hp
      walk_at "rd"
      refine ⟨self, _, dx, _, rfl, sA _ _ se, T.cl_Body, no_tc, _, M3, ?_⟩
      refine ⟨_, rfl, self, p, k, l, u, a, n, r, pn, prs, prow, fr0, ls, B, ms, rfl, hb.same sA, hB, hout, hA, fun hl => ?_, fun hl H' fm hb' => ?_⟩
      · exact k0 (by rw [eT]; exact if_pos hl) H2 (Fm.of sA)
      · exact k1 _ _ H' ms (by rw [eT]; exact if_neg hl) ((Fm.of sA).trans fm hmm) hmm hb'
  · rw [h0] at eT
    obtain ⟨dxp, a, b, q1, q2, q3, z1, z2⟩ := hP
    walk_at "rd"
    refine ⟨self, _, dx, _, rfl, s1 _ _ se, T.cl_Body, no_th, _, M2, ?_⟩
    refine ⟨_, rfl, self, p, dxp, a, b, n, rs, _, ls, B, ms, rfl, hb.same s1, by omega, h7, hb.out hp, hb.out z1, q1, q2, fun hl => ?_, fun hl H' ms' fm hm' hb' => ?_⟩
    · exact k0 (by rw [eT]; exact if_pos hl) H1 (Fm.of s1)
    · exact k1 _ _ H' ms' (by rw [eT]; exact if_neg hl) ((Fm.of s1).trans fm hmm) (fun c hc => (hm' c hc).elim .inl (fun z => .inr (s1.free z))) (hb'.up (by omega))


/-! ### read_whole -/
end
def spIB (t : Adr) : Sp := fun vs H Q _ => ∃ (self dx : Addr), vs = [.ref self] ∧ H self = some (.ins t.c_Body dx []) ∧ ∀ H' ms, (∀ b o, b ≠ self → H b = some o → H' b = some o) → (∀ b ∈ ms, b = self ∨ H b = none) → BdAt t H' self [("whole", [], [])] [] 0 ms → Q .non H'
def bodyR : Nat → List Str → List Fr → List Str → Except Nat (List Fr)
  | _, [], fr, _ => .ok fr
  | i, x :: r, fr, ls => if i = 90 then .error i else match takeO fr ls x with
    | none => .error i
    | some (fr', ls') => bodyR (i + 1) r fr' ls'
def endR (n : Nat) : Except Nat (List Fr) → Except Nat Rw
  | .error i => .error i
  | .ok [(a, b, c)] => .ok (.pt a b c)
  | .ok _ => .error n
def wholeR (rows : List Str) (start : Nat) : Except Nat Rw := endR rows.length (bodyR start (rows.drop start) [("whole", [], [])] [])
theorem takeO_len {fr fr' : List Fr} {ls ls' : List Str} {x : Str} (h : takeO fr ls x = some (fr', ls')) (h0 : fr ≠ []) (h7 : fr.length ≤ 7) : fr' ≠ [] ∧ fr'.length ≤ 7 := by
  obtain ⟨pn, prs, prow, fr0, rfl⟩ : ∃ pn prs prow fr0, fr = (pn, prs, prow) :: fr0 := by
    match fr, h0 with
    | (a, b, c) :: r, _ => exact ⟨a, b, c, r, rfl⟩
  have hp : ∀ r, (push ((pn, prs, prow) :: fr0) r) ≠ [] ∧ (push ((pn, prs, prow) :: fr0) r).length ≤ 7 := fun r => ⟨by simp [push], by simpa [push] using h7⟩
  unfold takeO at h
  split at h
  · match fr0, h with
    | (a, b, c) :: r, h =>
      cases h
      refine ⟨by simp, ?_⟩
      simp only [List.length_cons] at h7 ⊢
      omega
  · split at h
    · split at h
      · cases h
      · rename_i hn
        cases h
        refine ⟨by simp, ?_⟩
        have : ¬ ((pn, prs, prow) :: fr0).length = 7 := fun z => hn (.inl z)
        simp only [List.length_cons] at h7 this ⊢
        omega
    · split at h
      · split at h
        · cases h
        · cases h; exact hp _
      · split at h
        · cases h
        · cases h; exact hp _
def spRW (K : PySem.W.Frag) (t : Adr) : Sp := fun vs H Q E => ∃ (a : Addr) (start : Nat) (rows : List Str), vs = [.ref a, .int start] ∧ SqL K H a (rows.map V.str) ∧ start ≤ rows.length ∧ RowsOk rows ∧
  (∀ n : Nat, wholeR rows start = .error n → ∀ c o H', ehT t n H c o H' → E c o H') ∧ ∀ rw p H', wholeR rows start = .ok rw → Same H H' → RwAt t [] H' rw (.ref p) → Q (.ref p) H'
theorem putB3 (a b c : Addr) : putF "labels" (.ref c) (putF "bodies" (.ref b) (putF "heads" (.ref a) [])) = fb3 a b c := by
  simp only [putF, fb3, if_neg (fun z => b1 (Eq.symm z)), if_neg (fun z => b2 (Eq.symm z)), if_neg (fun z => b3 (Eq.symm z))]
theorem off_upd {H : Hp} {p : Addr} {o : HO} : Off p H (upd H p o) := fun c o' hc e => by rw [upd_ne hc]; exact e
section
variable {P : Program} {w : World} {K : PySem.W.Frag} {mg : Str → Option Value} {base : Heap} {t : Adr}
theorem sc_Body_init : FnScope ["self"] ["self"] (defScope s_Body_init) := ⟨rfl, rfl, rfl, by decide +kernel, rfl, by decide +kernel, by decide +kernel⟩
set_option maxHeartbeats 400000 in
theorem ok_Body_init (T : Txt K mg t) : FnOk P w K mg base CX0 3 t.f_Body_init t.d_Body_init ["self"] (spIB t) := by
  have M_Part_init : FnOk P w K mg base CX0 1 t.f_Part_init t.d_Part_init ["self", "name", "rooms", "rows"] (spIP K t) := (ok_Part_init T).mono (by decide)
  refine T.Body_init.fn.ok sc_Body_init (fun vs H Q E h => (by obtain ⟨_, _, rfl, _⟩ := h; rfl)) (fun cdv A outer s H vs Q E hr h => ?_)
  obtain ⟨self, dx, rfl, se, k⟩ := h
  refine ⟨_, (pss_cons (ps_fld (pv 0) (ne_lst (pa_cons (pe_make T.mk_Part M_Part_init hr rfl T.m_Part T.Part_init.bd .nil pass0 (pa_cons pe_str (pa_cons (ne_lst pa_nil) (pa_cons (ne_lst pa_nil) pa_nil)))) pa_nil)) rfl)
      (pss_cons (ps_fld (pv 0) (ne_lst (pa_cons (ne_lst pa_nil) pa_nil)) rfl)
      (pss_one (ps_fld (pv 0) ne_dnew rfl)))), ?_⟩
  refine ⟨Nat.zero_le _, ?_⟩
  intro a1 H1 s1 ha1 ea1
  refine ⟨Nat.zero_le _, ?_⟩
  intro a2 H2 s2 ha2 ea2
  intro p dxp hp hdxp hne
  have mk : ∀ c o, H2 c = some o → (upd (upd H2 dxp (HO.own p)) p (HO.ins t.c_Part dxp [])) c = some o := made_in hp hdxp
  refine ⟨p, dxp, a1, a2, "whole", [], [], rfl, upd_same, mk _ _ (s2 _ _ ea1), mk _ _ ea2, fun H3 o3 h3 => ⟨rfl, ?_⟩⟩
  obtain ⟨dx3, qa, qb, r1, r2, r3, z1, z2⟩ := h3
  have k3 : Same H H3 := fun c o e => o3 c o (ne_of_none (s2 _ _ (s1 _ _ e)) hp) (mk c o (s2 _ _ (s1 _ _ e)))
  refine ⟨line_small (by show 1 ≤ 1000; decide), ?_⟩
  intro hd H4 s4 hhd ehd
  have se4 := s4 _ _ (k3 _ _ se)
  refine ⟨_, rfl, self, _, dx, [], rfl, se4, T.cl_Body, T.na_Body_heads, (by show 0 < 1000; decide), ?_⟩
  have o5 : Off self H4 (upd H4 self (.ins t.c_Body dx (putF "heads" (.ref hd) []))) := off_upd
  generalize hH5 : upd H4 self (.ins t.c_Body dx (putF "heads" (.ref hd) [])) = H5 at o5 ⊢
  have e5 : H5 self = some (.ins t.c_Body dx (putF "heads" (.ref hd) [])) := by rw [← hH5]; exact upd_same
  refine ⟨Nat.zero_le _, ?_⟩
  intro q H6 s6 hq eq
  refine ⟨line_small (by show 1 ≤ 1000; decide), ?_⟩
  intro bd H7 s7 hbd ebd
  refine ⟨_, rfl, self, _, dx, _, rfl, s7 _ _ (s6 _ _ e5), T.cl_Body, T.na_Body_bodies, (by show 1 < 1000; decide), ?_⟩
  have o8 : Off self H7 (upd H7 self (.ins t.c_Body dx (putF "bodies" (.ref bd) (putF "heads" (.ref hd) [])))) := off_upd
  generalize hH8 : upd H7 self (.ins t.c_Body dx (putF "bodies" (.ref bd) (putF "heads" (.ref hd) []))) = H8 at o8 ⊢
  have e8 : H8 self = some (.ins t.c_Body dx (putF "bodies" (.ref bd) (putF "heads" (.ref hd) []))) := by rw [← hH8]; exact upd_same
  intro lb H9 s9 hlb elb
  refine ⟨_, rfl, self, _, dx, _, rfl, s9 _ _ e8, T.cl_Body, T.na_Body_labels, ?_, ?_⟩
  · have := length_putF ("bodies" : Str) (.ref bd) (putF "heads" (.ref hd) [])
    have e : (putF ("heads" : Str) (.ref hd) []).length = 1 := rfl
    omega
  have o10 : Off self H9 (upd H9 self (.ins t.c_Body dx (putF "labels" (.ref lb) (putF "bodies" (.ref bd) (putF "heads" (.ref hd) []))))) := off_upd
  rw [putB3] at o10 ⊢
  have hds : hd ≠ self := Ne.symm (ne_of_none (k3 _ _ se) hhd)
  have qs : q ≠ self := Ne.symm (ne_of_none e5 hq)
  have bs : bd ≠ self := Ne.symm (ne_of_none (s6 _ _ e5) hbd)
  have lbs' : lb ≠ self := Ne.symm (ne_of_none e8 hlb)
  have ps : p ≠ self := Ne.symm (ne_of_none (s2 _ _ (s1 _ _ se)) hp)
  have qas : qa ≠ self := Ne.symm (ne_of_none (mk _ _ (s2 _ _ (s1 _ _ se))) z1)
  have up : ∀ c o, c ≠ self → H3 c = some o → H9 c = some o := fun c o hc e => s9 _ _ (o8 _ _ hc (s7 _ _ (s6 _ _ (o5 _ _ hc (s4 _ _ e)))))
  have h5d : H5 hd = some (.lst [.ref p]) := o5 _ _ hds ehd
  have h6d := s6 _ _ h5d
  have h8d : H8 hd = some (.lst [.ref p]) := o8 _ _ hds (s7 _ _ h6d)
  have h8q : H8 q = some (.lst []) := o8 _ _ qs (s7 _ _ eq)
  have h8b : H8 bd = some (.lst [.ref q]) := o8 _ _ bs ebd
  have hqd : hd ≠ q := ne_of_none h5d hq
  have hdb : hd ≠ bd := ne_of_none h6d hbd
  have hdl : hd ≠ lb := ne_of_none h8d hlb
  have bql : bd ≠ q := Ne.symm (ne_of_none eq hbd)
  have bl : bd ≠ lb := ne_of_none h8b hlb
  have lq : lb ≠ q := Ne.symm (ne_of_none h8q hlb)
  have h5p : H5 p = some (.ins t.c_Part dx3 (fp3 "whole" qa qb)) := o5 _ _ ps (s4 _ _ r1)
  have h5a : H5 qa = some (.lst (([] : List Str).map V.str)) := o5 _ _ qas (s4 _ _ r2)
  have nin : ∀ c o, c ≠ self → H3 c = some o → c ∉ [self, hd, bd, lb, q] := fun c o hc e hm => by
    have e5' : H5 c = some o := o5 _ _ hc (s4 _ _ e)
    (simp only [List.mem_cons, List.not_mem_nil, or_false] at hm)
    rcases hm with z | z | z | z | z
    · exact hc z
    · rw [z, hhd] at e; cases e
    · have := s6 _ _ e5'; rw [z, hbd] at this; cases this
    · have := o8 _ _ hc (s7 _ _ (s6 _ _ e5')); rw [z, hlb] at this; cases this
    · rw [z, hq] at e5'; cases e5'
  have free : ∀ c, c ∈ [self, hd, bd, lb, q] → c = self ∨ H c = none := fun c hm => by
    (simp only [List.mem_cons, List.not_mem_nil, or_false] at hm)
    by_cases hc : c = self
    · exact .inl hc
    · refine .inr ?_
      cases z : H c with
      | none => rfl
      | some o =>
        have := nin c o hc (k3 _ _ z)
        exact absurd (by simpa using hm) this
  refine k _ [self, hd, bd, lb, q] (fun c o hc e => o10 _ _ hc (up c o hc (k3 _ _ e))) free ⟨dx, hd, bd, lb, [p], [q], rfl, ?_, upd_same, o10 _ _ hds (s9 _ _ h8d), o10 _ _ bs (s9 _ _ h8b), o10 _ _ lbs' elb, ⟨⟨dx3, qa, qb, nin p _ ps r1, nin qa _ qas r2, o10 _ _ ps (up _ _ ps r1), o10 _ _ qas (up _ _ qas r2)⟩, ⟨[], o10 _ _ qs (s9 _ _ h8q), by unfold RwsAt; rfl, Nat.le_refl _⟩, True.intro⟩, Nat.le_refl _⟩
  simp only [List.nodup_cons, List.mem_cons, List.not_mem_nil, not_or, or_false, List.nodup_nil, not_false_eq_true, and_true]
  exact ⟨⟨Ne.symm hds, Ne.symm bs, Ne.symm lbs', Ne.symm qs⟩, ⟨hdb, hdl, hqd⟩, ⟨bl, bql⟩, lq⟩
theorem sc_v_read_whole : FnScope ["rows", "start", "body", "number"] ["rows", "start"] (defScope s_v_read_whole) := ⟨rfl, rfl, rfl, by decide +kernel, rfl, by decide +kernel, by decide +kernel⟩
set_option maxHeartbeats 400000 in
theorem ok_v_read_whole (T : Txt K mg t) : FnOk P w K mg base (CXE P w) 8 t.f_v_read_whole t.d_v_read_whole ["rows", "start"] (spRW K t) := by
  have M_Body_init : FnOk P w K mg base CX0 6 t.f_Body_init t.d_Body_init ["self"] (spIB t) := (ok_Body_init T).mono (by decide)
  have M_NoText_init : FnOk P w K mg base CX0 6 t.f_NoText_init t.d_NoText_init ["self", "row"] (spXI K "row") := (ok_NoText_init T).mono (by decide)
  refine T.v_read_whole.fn.okX sc_v_read_whole (fun vs H Q E h => (by obtain ⟨_, _, _, rfl, _⟩ := h; rfl)) (fun cdv A outer s H vs Q E hr h => ?_)
  obtain ⟨a, start, rows, rfl, hA, hst, hR, kE, kQ⟩ := h
  refine ⟨_, (pss_cons (ps_set (i := 2) sc_v_read_whole.nd rfl (Or.inl rfl) (pe_make0 T.mk_Body M_Body_init hr rfl T.m_Body T.Body_init.bd .nil pass0))
      (pss_cons (ps_for PassesOwn.leaving rfl (pi_range2 rfl T.b_range (pa_cons (pv 1) (pa_cons (pe_callB (callK_len (K := K) rfl) rfl T.b_len PySem.boot_len (pa_cons (pv 0) pa_nil)) pa_nil))) (pg_name (i := 3) sc_v_read_whole.nd rfl (Or.inl rfl))
        (pss_one (ps_if (PW.pt (pw_or (pt_cmpR op_eq (pv 3) (pe_glob rfl (T.g_MOST_ROWS).choose_spec (v := .int 90) ⟨_, rfl⟩) (nomark _)) (pw_or1 (pt_not (pt_val (pe_methD hr (pv 2) (pa_cons (pe_ix (ixK_list (K := K) rfl) (pv 0) (pv 3) (fun _ _ => rfl)) pa_nil)))))))
        (pss_one (ps_raise raisesX rfl (pe_makeX T.xm_NoText M_NoText_init hr rfl T.m_NoText T.NoText_init.bd .nil pass0 (pa_cons (pv 3) pa_nil)))) pss_nil)))
      (pss_cons (ps_if (pt_cmpR op_gt (pe_methD0 hr (pv 2)) pe_int (nomark _))
        (pss_one (ps_raise raisesX rfl (pe_makeX T.xm_NoText M_NoText_init hr rfl T.m_NoText T.NoText_init.bd .nil pass0 (pa_cons (pe_callB (callK_len (K := K) rfl) rfl T.b_len PySem.boot_len (pa_cons (pv 0) pa_nil)) pa_nil)))) pss_nil)
      (pss_one (ps_ret (pe_methD0 hr (pv 2))))))), ?_⟩
  have M1 : MethOk P w K mg base CX0 7 t.c_Body "takes" (spTakes t) := .mk' T.mt_Body_takes (ok_Body_takes T) T.Body_takes.bd (by decide)
  have M2 : MethOk P w K mg base CX0 7 t.c_Body "many_open" (spMany t) := .mk' T.mt_Body_many_open (ok_Body_many_open T) T.Body_many_open.bd (by decide)
  have M3 : MethOk P w K mg base CX0 7 t.c_Body "closed" (spClosed t) := .mk' T.mt_Body_closed (ok_Body_closed T) T.Body_closed.bd (by decide)
  intro self dx hs hdx hne
  refine ⟨self, dx, rfl, upd_same, fun H1 ms k1 fr1 hb1 => ⟨rfl, ?_⟩⟩
  have s1 : Same H H1 := fun c o e => k1 c o (ne_of_none e hs) (made_in hs hdx c o e)
  have f1 : ∀ c ∈ ms, H c = none := fun c hc => by
    rcases fr1 c hc with z | z
    · rw [z]; exact hs
    · cases q : H c with
      | none => rfl
      | some o => rw [made_in hs hdx c o q] at z; cases z
  walk_at "rd"
  refine ⟨a, _, rfl, .inl (s1.seq hA), ?_⟩
  have hlen : (rows.map V.str).length = rows.length := List.length_map ..
  refine ⟨_, _, rfl, ⟨by omega, by have := hR.few; omega, by omega, by have := hR.few; omega⟩, ?_⟩
  have hn : (((rows.map V.str).length : Nat) - (start : Int)).toNat = rows.length - start := by rw [hlen]; omega
  rw [hn]
  refine for_range (lo := (start : Int)) (n := rows.length - start) (fun i σ H' => ∃ (fr : List Fr) (ls : List Str) (ms : List Addr) (v3 : Option V), σ = [some (.ref a), some (.int start), some (.ref self), v3] ∧ Same H H' ∧ (∀ c ∈ ms, H c = none) ∧ BdAt t H' self fr ls (2 * i) ms ∧ fr ≠ [] ∧ fr.length ≤ 7 ∧ bodyR start (rows.drop start) [("whole", [], [])] [] = bodyR (start + i) (rows.drop (start + i)) fr ls)
    ⟨_, _, ms, none, rfl, s1, f1, hb1, by simp, by simp, by rw [Nat.add_zero]⟩ ?_ ?_
  · rintro i σ H2 hi ⟨fr, ls, ms2, v3, rfl, s2, f2, hb2, hne2, h72, hr2⟩
    have hi' : start + i < rows.length := by omega
    have hwd : wd rows (start + i) ∈ rows := wd_mem hi'
    have hd : rows.drop (start + i) = wd rows (start + i) :: rows.drop (start + i + 1) := by
      unfold wd
      rw [List.getD_eq_getElem?_getD, List.getElem?_eq_getElem hi']
      exact List.drop_eq_getElem_cons hi'
    rw [hd] at hr2
    have hfew := hR.few
    have eb : bodyR (start + i) (wd rows (start + i) :: rows.drop (start + i + 1)) fr ls = if start + i = 90 then .error (start + i) else match takeO fr ls (wd rows (start + i)) with
      | none => .error (start + i)
      | some (fr', ls') => bodyR (start + i + 1) (rows.drop (start + i + 1)) fr' ls' := by rw [bodyR]
    have bad : bodyR (start + i) (wd rows (start + i) :: rows.drop (start + i + 1)) fr ls = .error (start + i) → ∀ c o H', ehT t ((start : Int) + i) H c o H' → E c o H' := fun z c o H' q => kE (start + i) (by unfold wholeR; rw [hr2, z]; rfl) c o H' (by rw [Int.natCast_add]; exact q)
    walk_at "rd"
    refine ite2 (fun h1 => ?_) (fun h1 => ?_)
    · walk_at "rd"
      exact raiseT T fun c o H' z => bad (by
        have : (start : Int) + i = 90 := by simpa using h1
        rw [eb, if_pos (by omega)]) c o H' (z.back s2)
    have h90 : ¬ start + i = 90 := fun z => h1 (by
      have : (start : Int) + i = 90 := by omega
      simp [this])
    rw [if_neg h90] at eb
    obtain ⟨dx2, hd2, bd2, lb2, hps2, bqs2, e2, h2⟩ := id hb2
    walk_at "rd"
    refine ⟨self, _, dx2, _, rfl, h2.se, T.cl_Body, no_tk, _, M1, ?_⟩
    have hix : atI (rows.map V.str) ((start : Int) + i) = some (.str (wd rows (start + i))) := by
      have := atI_str' (xs := rows) (i := (start : Int) + i) (by omega) (by omega)
      rw [this]
      unfold wd
      rw [show ((start : Int) + i).toNat = start + i by omega]
    refine ⟨_, rfl, _, rfl, a, _, _, _, rfl, rfl, s2.seq hA, hix, ?_⟩
    refine ⟨self, _, fr, ls, 2 * i, ms2, rfl, hb2, by omega, hR.short _ hwd, hne2, h72, fun hN H3 fm3 => ?_, fun fr' ls' H3 ms3 hS fm3 hm3 hb3 => ?_⟩
    · rw [hN] at eb
      walk_at "rd"
      exact raiseT T fun c o H' z => bad eb c o H' (z.back (fm3.toSame s2 f2))
    · rw [hS] at eb
      obtain ⟨g1, g2⟩ := takeO_len hS hne2 h72
      walk_at "rd"
      exact ⟨fr', ls', ms3, _, rfl, fm3.toSame s2 f2, fun c hc => (hm3 c hc).elim (f2 c) (fun z => s2.free z), hb3.up (by omega), g1, g2, by rw [hr2, eb]; rfl⟩
  · rintro σ H2 ⟨fr, ls, ms2, v3, rfl, s2, f2, hb2, hne2, h72, hr2⟩
    have hfew := hR.few
    rw [show start + (rows.length - start) = rows.length by omega, List.drop_length, bodyR] at hr2
    obtain ⟨dx2, hd2, bd2, lb2, hps2, bqs2, e2, h2⟩ := id hb2
    walk_at "rd"
    refine ⟨self, _, dx2, _, rfl, h2.se, T.cl_Body, no_many, _, M2, ?_⟩
    refine ⟨self, fr, ls, _, ms2, rfl, hb2, ?_⟩
    walk_at "rd"
    refine ite2 (fun h1 => ?_) (fun h1 => ?_)
    · have h1' : (0 : Int) < ((fr.length : Nat) : Int) - 1 := of_decide_eq_true h1
      walk_at "rd"
      refine ⟨a, _, rfl, .inl (s2.seq hA), ?_⟩
      rw [hlen]
      walk_at "rd"
      exact raiseT T fun c o H' z => kE rows.length (by
        unfold wholeR
        rw [hr2]
        match fr, h1' with
        | _ :: _ :: _, _ => rfl
        | [_], h => exact absurd h (by simp)) c o H' (z.back s2)
    have h1' : ¬ (0 : Int) < ((fr.length : Nat) : Int) - 1 := fun z => h1 (decide_eq_true z)
    obtain ⟨n, rs, rws, rfl⟩ : ∃ n rs rws, fr = [(n, rs, rws)] := by
      match fr, hne2, h1' with
      | [(n, rs, rws)], _, _ => exact ⟨n, rs, rws, rfl⟩
      | _ :: _ :: _, _, h => exact absurd (by simp only [List.length_cons]; omega) h
    walk_at "rd"
    refine ⟨self, _, dx2, _, rfl, h2.se, T.cl_Body, no_closed, _, M3, ?_⟩
    refine ⟨self, n, rs, rws, [], ls, _, ms2, rfl, hb2, by omega, fun p H3 ms3 fm3 sub3 hb3 hr3 => ?_⟩
    exact kQ _ p H3 (by unfold wholeR; rw [hr2]; rfl) (fm3.toSame s2 f2) (hr3.move (fun _ _ _ e => e) (fun b hb => by cases hb))


/-! ### read -/
end
def fp4 (a b c : Addr) (x : V) : List (Str × V) := [("parties", .ref a), ("acts", .ref b), ("rooms", .ref c), ("whole", x)]
theorem a1 : ¬ (("parties" : Str) = "acts") := by decide +kernel
theorem a2 : ¬ (("parties" : Str) = "rooms") := by decide +kernel
theorem a3 : ¬ (("parties" : Str) = "whole") := by decide +kernel
theorem a4 : ¬ (("acts" : Str) = "rooms") := by decide +kernel
theorem a5 : ¬ (("acts" : Str) = "whole") := by decide +kernel
theorem a6 : ¬ (("rooms" : Str) = "whole") := by decide +kernel
theorem putP4 (a b c : Addr) (x : V) : putF "whole" x (putF "rooms" (.ref c) (putF "acts" (.ref b) (putF "parties" (.ref a) []))) = fp4 a b c x := by
  simp only [putF, fp4, if_neg a1, if_neg a2, if_neg a3, if_neg a4, if_neg a5, if_neg a6]
def spIPa (K : PySem.W.Frag) (t : Adr) : Sp := fun vs H Q _ => ∃ (p dx a b c : Addr) (x : V) (xs ys zs : List V), vs = [.ref p, .ref a, .ref b, .ref c, x] ∧ H p = some (.ins t.c_Pact dx []) ∧ H a = some (.lst xs) ∧ H b = some (.lst ys) ∧ H c = some (.lst zs) ∧
  ∀ H' a' b' c', Off p H H' → H' p = some (.ins t.c_Pact dx (fp4 a' b' c' x)) → H' a' = some (.lst xs) → H' b' = some (.lst ys) → H' c' = some (.lst zs) → Q .non H'
def PactAt (t : Adr) (H : Hp) (p : Addr) (ps as : List Str) (rms : List (Str × Str)) (rw : Rw) : Prop := ∃ dx a b c x vs, H p = some (.ins t.c_Pact dx (fp4 a b c x)) ∧ H a = some (.lst (ps.map V.str)) ∧ H b = some (.lst (as.map V.str)) ∧ H c = some (.lst vs) ∧ Paired (roomV H) vs rms ∧ RwAt t [] H rw x
def readR (rows : List Str) : Except Nat (List Str × List Str × List (Str × Str) × Rw) :=
  match namesR rows 0 "parties" 4 [] with
  | none => .error 0
  | some ps => match namesR rows 1 "acts" 6 ps with
    | none => .error 1
    | some as => match roomsR (ps ++ as) [] (rows.drop 2) with
      | .error n => .error n
      | .ok rms => match wholeR rows (2 + rms.length) with
        | .error n => .error n
        | .ok rw => .ok (ps, as, rms, rw)
theorem roomsR_len {taken : List Str} : ∀ {rest : List Str} {found rms : List (Str × Str)}, roomsR taken found rest = .ok rms → rms.length ≤ found.length + rest.length ∧ rms ≠ []
  | [], found, rms, h => by
    unfold roomsR at h
    split at h
    · cases h
    · rename_i z; cases h; exact ⟨by simp, z⟩
  | x :: r, found, rms, h => by
    unfold roomsR at h
    split at h
    · split at h
      · cases h
      · rename_i z; cases h; exact ⟨by omega, z⟩
    · split at h
      · cases h
      · have := roomsR_len h
        rw [List.length_append] at this
        simp only [List.length_cons, List.length_nil] at this ⊢
        exact ⟨by omega, this.2⟩
theorem wd_short {rows : List Str} (hR : RowsOk rows) (i : Nat) : (wd rows i).length ≤ 190 := by
  by_cases hi : i < rows.length
  · exact hR.short _ (wd_mem hi)
  · have hz : (wd rows i).length = 0 := by
      unfold wd
      rw [List.getD_eq_getElem?_getD, List.getElem?_eq_none_iff.mpr (by omega)]
      decide +kernel
    omega
theorem namesR_len {rows : List Str} {i : Nat} {x : Str} {m : Int} {taken ns : List Str} (hR : RowsOk rows) (h : namesR rows i x m taken = some ns) : ns.length ≤ 192 := by
  unfold namesR at h
  split at h
  · cases h
  · dsimp only at h
    split at h
    · cases h
    · cases h
      have hn := @namesO_ok (spl (wd rows i)) x m
      have hw := (spl_len (wd rows i)).2
      have := wd_short hR i
      omega
def spRead (t : Adr) : Sp := fun vs H Q E => ∃ (x : Str), vs = [.str x] ∧ x.length ≤ 60000 ∧ RowsOk (Txt.split x "; ") ∧
  (∀ n : Nat, readR (Txt.split x "; ") = .error n → ∀ c o H', ehT t n H c o H' → E c o H') ∧ ∀ ps as rms rw p H', readR (Txt.split x "; ") = .ok (ps, as, rms, rw) → Same H H' → PactAt t H' p ps as rms rw → Q (.ref p) H'
section
variable {P : Program} {w : World} {K : PySem.W.Frag} {mg : Str → Option Value} {base : Heap} {t : Adr}
theorem sc_Pact_init : FnScope ["self", "parties", "acts", "rooms", "whole"] ["self", "parties", "acts", "rooms", "whole"] (defScope s_Pact_init) := ⟨rfl, rfl, rfl, by decide +kernel, rfl, by decide +kernel, by decide +kernel⟩
set_option maxHeartbeats 400000 in
theorem ok_Pact_init (T : Txt K mg t) : FnOk P w K mg base CX0 1 t.f_Pact_init t.d_Pact_init ["self", "parties", "acts", "rooms", "whole"] (spIPa K t) := by
  refine T.Pact_init.fn.ok sc_Pact_init (fun vs H Q E h => (by obtain ⟨_, _, _, _, _, _, _, _, _, rfl, _⟩ := h; rfl)) (fun cdv A outer s H vs Q E hr h => ?_)
  obtain ⟨p, dx, a, b, c, x, xs, ys, zs, rfl, hp, hA, hB, hC, k⟩ := h
  refine ⟨_, (pss_cons (ps_fld (pv 0) (pe_callTy (ncK_list (K := K) rfl) rfl T.b_list PyProof.Rows.boot_list (pa_cons (pv 1) pa_nil)) rfl)
      (pss_cons (ps_fld (pv 0) (pe_callTy (ncK_list (K := K) rfl) rfl T.b_list PyProof.Rows.boot_list (pa_cons (pv 2) pa_nil)) rfl)
      (pss_cons (ps_fld (pv 0) (pe_callTy (ncK_list (K := K) rfl) rfl T.b_list PyProof.Rows.boot_list (pa_cons (pv 3) pa_nil)) rfl)
      (pss_one (ps_fld (pv 0) (pv 4) rfl))))), ?_⟩
  have na : a ≠ p := ne_of hA hp (by intro z; cases z)
  have nb : b ≠ p := ne_of hB hp (by intro z; cases z)
  have nc : c ≠ p := ne_of hC hp (by intro z; cases z)
  refine ⟨_, rfl, a, _, rfl, .inl (SqL.of hA), ?_⟩
  intro q1 H1 s1 hq1 e1
  refine ⟨_, rfl, p, _, dx, _, rfl, s1 _ _ hp, T.cl_Pact, T.na_Pact_parties, (by show 0 < 1000; decide), ?_⟩
  have o2 : Off p H1 (upd H1 p (.ins t.c_Pact dx (putF "parties" (.ref q1) []))) := off_upd
  generalize hH2 : upd H1 p (.ins t.c_Pact dx (putF "parties" (.ref q1) [])) = H2 at o2 ⊢
  have e2 : H2 p = some (.ins t.c_Pact dx (putF "parties" (.ref q1) [])) := by rw [← hH2]; exact upd_same
  refine ⟨_, rfl, b, _, rfl, .inl (SqL.of (o2 _ _ nb (s1 _ _ hB))), ?_⟩
  intro q3 H3 s3 hq3 e3
  refine ⟨_, rfl, p, _, dx, _, rfl, s3 _ _ e2, T.cl_Pact, T.na_Pact_acts, (by show 1 < 1000; decide), ?_⟩
  have o4 : Off p H3 (upd H3 p (.ins t.c_Pact dx (putF "acts" (.ref q3) (putF "parties" (.ref q1) [])))) := off_upd
  generalize hH4 : upd H3 p (.ins t.c_Pact dx (putF "acts" (.ref q3) (putF "parties" (.ref q1) []))) = H4 at o4 ⊢
  have e4 : H4 p = some (.ins t.c_Pact dx (putF "acts" (.ref q3) (putF "parties" (.ref q1) []))) := by rw [← hH4]; exact upd_same
  refine ⟨_, rfl, c, _, rfl, .inl (SqL.of (o4 _ _ nc (s3 _ _ (o2 _ _ nc (s1 _ _ hC))))), ?_⟩
  intro q5 H5 s5 hq5 e5
  have l2 : (putF ("acts" : Str) (.ref q3) (putF "parties" (.ref q1) [])).length ≤ 2 := by
    have := length_putF ("acts" : Str) (.ref q3) (putF "parties" (.ref q1) [])
    have e : (putF ("parties" : Str) (.ref q1) []).length = 1 := rfl
    omega
  refine ⟨_, rfl, p, _, dx, _, rfl, s5 _ _ e4, T.cl_Pact, T.na_Pact_rooms, by omega, ?_⟩
  have o6 : Off p H5 (upd H5 p (.ins t.c_Pact dx (putF "rooms" (.ref q5) (putF "acts" (.ref q3) (putF "parties" (.ref q1) []))))) := off_upd
  generalize hH6 : upd H5 p (.ins t.c_Pact dx (putF "rooms" (.ref q5) (putF "acts" (.ref q3) (putF "parties" (.ref q1) [])))) = H6 at o6 ⊢
  have e6 : H6 p = some (.ins t.c_Pact dx (putF "rooms" (.ref q5) (putF "acts" (.ref q3) (putF "parties" (.ref q1) [])))) := by rw [← hH6]; exact upd_same
  refine ⟨_, rfl, _, rfl, p, _, dx, _, rfl, e6, T.cl_Pact, T.na_Pact_whole, ?_, ?_⟩
  · have := length_putF ("rooms" : Str) (.ref q5) (putF "acts" (.ref q3) (putF "parties" (.ref q1) []))
    omega
  have o7 : Off p H6 (upd H6 p (.ins t.c_Pact dx (putF "whole" x (putF "rooms" (.ref q5) (putF "acts" (.ref q3) (putF "parties" (.ref q1) [])))))) := off_upd
  rw [putP4] at o7 ⊢
  have n1 : q1 ≠ p := Ne.symm (ne_of_none hp hq1)
  have n3 : q3 ≠ p := Ne.symm (ne_of_none e2 hq3)
  have n5 : q5 ≠ p := Ne.symm (ne_of_none e4 hq5)
  exact k _ q1 q3 q5 (fun d o hd e => o7 _ _ hd (o6 _ _ hd (s5 _ _ (o4 _ _ hd (s3 _ _ (o2 _ _ hd (s1 _ _ e))))))) upd_same (o7 _ _ n1 (o6 _ _ n1 (s5 _ _ (o4 _ _ n1 (s3 _ _ (o2 _ _ n1 e1)))))) (o7 _ _ n3 (o6 _ _ n3 (s5 _ _ (o4 _ _ n3 e3)))) (o7 _ _ n5 (o6 _ _ n5 e5))
theorem sc_v_read : FnScope ["text", "rows", "parties", "acts", "rooms", "whole"] ["text"] (defScope s_v_read) := ⟨rfl, rfl, rfl, by decide +kernel, rfl, by decide +kernel, by decide +kernel⟩
set_option maxHeartbeats 400000 in
theorem ok_v_read (T : Txt K mg t) : FnOk P w K mg base (CXE P w) 9 t.f_v_read t.d_v_read ["text"] (spRead t) := by
  have G_v_read_names : FnOk P w K mg base (CXE P w) 8 t.f_v_read_names t.d_v_read_names ["rows", "number", "word", "most", "taken"] (spRN K t) := (ok_v_read_names T).mono (by decide)
  have G_v_read_rooms : FnOk P w K mg base (CXE P w) 8 t.f_v_read_rooms t.d_v_read_rooms ["rows", "taken"] (spRR K t) := (ok_v_read_rooms T).mono (by decide)
  have G_v_read_whole : FnOk P w K mg base (CXE P w) 8 t.f_v_read_whole t.d_v_read_whole ["rows", "start"] (spRW K t) := (ok_v_read_whole T).mono (by decide)
  have M_Pact_init : FnOk P w K mg base CX0 7 t.f_Pact_init t.d_Pact_init ["self", "parties", "acts", "rooms", "whole"] (spIPa K t) := (ok_Pact_init T).mono (by decide)
  refine T.v_read.fn.okX sc_v_read (fun vs H Q E h => (by obtain ⟨_, rfl, _⟩ := h; rfl)) (fun cdv A outer s H vs Q E hr h => ?_)
  obtain ⟨x, rfl, hx, hR, kE, kQ⟩ := h
  refine ⟨_, (pss_cons (ps_set (i := 1) sc_v_read.nd rfl (Or.inl rfl) (pe_bm PySem.F.plainAttrs_str PySem.F.slot_str_split PySem.F.type_str_split nm_split (pv 0) (pa_cons pe_str pa_nil)))
      (pss_cons (ps_set (i := 2) sc_v_read.nd rfl (Or.inl rfl) (pe_call G_v_read_names hr rfl T.v_read_names.mg T.v_read_names.fn.kp T.v_read_names.bd .nil (passX fun _ _ _ z => z) (pa_cons (pv 1) (pa_cons pe_int (pa_cons pe_str (pa_cons (pe_glob rfl (T.g_MOST_PARTIES).choose_spec (v := .int 4) ⟨_, rfl⟩) (pa_cons (ne_lst pa_nil) pa_nil)))))))
      (pss_cons (ps_set (i := 3) sc_v_read.nd rfl (Or.inl rfl) (pe_call G_v_read_names hr rfl T.v_read_names.mg T.v_read_names.fn.kp T.v_read_names.bd .nil (passX fun _ _ _ z => z) (pa_cons (pv 1) (pa_cons pe_int (pa_cons pe_str (pa_cons (pe_glob rfl (T.g_MOST_ACTS).choose_spec (v := .int 6) ⟨_, rfl⟩) (pa_cons (pv 2) pa_nil)))))))
      (pss_cons (ps_set (i := 4) sc_v_read.nd rfl (Or.inl rfl) (pe_call G_v_read_rooms hr rfl T.v_read_rooms.mg T.v_read_rooms.fn.kp T.v_read_rooms.bd .nil (passX fun _ _ _ z => z) (pa_cons (pv 1) (pa_cons (pe_op no_cat (pv 2) (pv 3)) pa_nil))))
      (pss_cons (ps_set (i := 5) sc_v_read.nd rfl (Or.inl rfl) (pe_call G_v_read_whole hr rfl T.v_read_whole.mg T.v_read_whole.fn.kp T.v_read_whole.bd .nil (passX fun _ _ _ z => z) (pa_cons (pv 1) (pa_cons (pe_op op_add (pe_glob rfl (T.g_FIRST_ROOM).choose_spec (v := .int 2) ⟨_, rfl⟩) (pe_callB (callK_len (K := K) rfl) rfl T.b_len PySem.boot_len (pa_cons (pv 4) pa_nil))) pa_nil))))
      (pss_one (ps_ret (pe_make T.mk_Pact M_Pact_init hr rfl T.m_Pact T.Pact_init.bd .nil pass0 (pa_cons (pv 2) (pa_cons (pv 3) (pa_cons (pv 4) (pa_cons (pv 5) pa_nil)))))))))))), ?_⟩
  walk_at "rd"
  refine ⟨by rw [sizeLine_eq]; omega, ?_⟩
  intro lr H1 s1 hlr e1
  have hpos : 1 ≤ (Txt.split x (Str.ofString "; ")).length := PyProof.Rows.split_pos x "; "
  have e1' : H1 lr = some (.lst ((Txt.split x "; ").map V.str)) := e1
  clear e1
  generalize Txt.split x (Str.ofString "; ") = rows at *
  walk_at "rd"
  intro l0 H2 s2 hl0 e2
  have sA : Same H H2 := s1.trans s2
  refine ⟨lr, l0, 0, _, _, rows, [], rfl, SqL.of (s2 _ _ e1'), e2, Nat.zero_le _, hR, Nat.zero_le _, by decide, fun hN c o H' z => ?_, fun ps lp H3 hS s3 hlp e3 => ?_⟩
  · exact kE 0 (by unfold readR; rw [hN]) c o H' (z.back sA)
  have hps := namesR_len hR hS
  walk_at "rd"
  refine ⟨lr, lp, 1, _, _, rows, ps, rfl, SqL.of (s3 _ _ (s2 _ _ e1')), e3, hpos, hR, by omega, by decide, fun hN c o H' z => ?_, fun as la H4 hS4 s4 hla e4 => ?_⟩
  · exact kE 1 (by unfold readR; rw [hS]; dsimp only; rw [hN]) c o H' (z.back (sA.trans s3))
  have has := namesR_len hR hS4
  walk_at "rd"
  refine ⟨lp, la, _, _, rfl, rfl, s4 _ _ e3, e4, line_small (by simp only [List.length_map]; omega), ?_⟩
  intro lt H5 s5 hlt e5
  have e5' : H5 lt = some (.lst ((ps ++ as).map V.str)) := by rw [e5, List.map_append]
  have sB : Same H H5 := ((sA.trans s3).trans s4).trans s5
  refine ⟨lr, lt, rows, ps ++ as, rfl, SqL.of (s5 _ _ (s4 _ _ (s3 _ _ (s2 _ _ e1')))), e5', hR, by rw [List.length_append]; omega, fun n hN c o H' z => ?_, fun rms l6 H6 vs hS6 s6 hl6 e6 hP6 => ?_⟩
  · exact kE n (by unfold readR; rw [hS]; dsimp only; rw [hS4]; dsimp only; rw [hN]) c o H' (z.back sB)
  have hrl := (roomsR_len hS6).1
  have hr0 := List.length_pos_iff.mpr (roomsR_len hS6).2
  rw [List.length_drop, List.length_nil, Nat.zero_add] at hrl
  have hvl : vs.length = rms.length := Paired.length hP6
  walk_at "rd"
  refine ⟨l6, _, rfl, .inl (SqL.of e6), ?_⟩
  refine ⟨_, _, rfl, rfl, ?_⟩
  have ecast : (2 : Int) + ((vs.length : Nat) : Int) = ((2 + rms.length : Nat) : Int) := by rw [hvl]; omega
  have sC : Same H H6 := sB.trans s6
  refine ⟨lr, 2 + rms.length, rows, by rw [← ecast]; rfl, SqL.of (s6 _ _ (s5 _ _ (s4 _ _ (s3 _ _ (s2 _ _ e1'))))), by omega, hR, fun n hN c o H' z => ?_, fun rw' p H7 hS7 s7 hr7 => ?_⟩
  · exact kE n (by unfold readR; rw [hS]; dsimp only; rw [hS4]; dsimp only; rw [hS6]; dsimp only; rw [hN]) c o H' (z.back sC)
  walk_at "rd"
  intro q dxq hq hdq hne
  have mk : ∀ c o, H7 c = some o → (upd (upd H7 dxq (HO.own q)) q (HO.ins t.c_Pact dxq [])) c = some o := made_in hq hdq
  refine ⟨q, dxq, lp, la, l6, .ref p, _, _, _, rfl, upd_same, mk _ _ (s7 _ _ (s6 _ _ (s5 _ _ (s4 _ _ e3)))), mk _ _ (s7 _ _ (s6 _ _ (s5 _ _ e4))), mk _ _ (s7 _ _ e6), fun H8 a' b' c' o8 g1 g2 g3 g4 => ⟨rfl, ?_⟩⟩
  have s8 : Same H7 H8 := fun c o e => o8 c o (ne_of_none e hq) (mk c o e)
  exact kQ ps as rms rw' q H8 (by unfold readR; rw [hS]; dsimp only; rw [hS4]; dsimp only; rw [hS6]; dsimp only; rw [hS7]) ((sC.trans s7).trans s8) ⟨_, a', b', c', _, _, g1, g2, g3, g4, Paired.imp' (fun _ _ z => z.same (s7.trans s8)) hP6, hr7.move (fun _ _ _ e => s8 _ _ e) (fun b hb => by cases hb)⟩


/-! ### words by their kinds: 0 a name, 1 a number, 2 any other, from 3 on the words of the forms -/
end
def lits : List Str := ["any", "must", "may", "not", "by", "else", "to", "let", "be", "part", "in", "calm", "sore", "end"]
def Rt (k : Nat) (x : Str) : Prop := (k = 0 ∧ nameB x = true) ∨ (k = 1 ∧ nameB x = false ∧ 0 < numV x ∧ x ∉ lits) ∨ (k = 2 ∧ nameB x = false ∧ numV x = 0 ∧ x ∉ lits) ∨ (3 ≤ k ∧ lits[k - 3]? = some x)
def fits1 (k p : Nat) : Bool := if p = 100 then k == 0 else if p = 101 then k == 0 || k == 3 else if p = 102 then k == 1 else k == p
def fitsT (ks ps : List Nat) : Bool := decide (ks.length = ps.length) && (ks.zip ps).all fun q => fits1 q.1 q.2
def plc (p : Nat) : Str := if p = 100 then "NAME" else if p = 101 then "WHO" else if p = 102 then "NUMBER" else lits.getD (p - 3) ""
def pDuty : List Nat := [100, 100, 4, 100, 7, 102, 8, 100]
def pLeave : List Nat := [100, 101, 5, 100]
def pBan : List Nat := [100, 101, 5, 6, 100, 8, 100]
def pPower : List Nat := [100, 101, 7, 100, 9, 100]
def pLet : List Nat := [10, 100, 11, 100]
def pPart : List Nat := [12, 100]
def okP (p : Nat) : Bool := p == 100 || p == 101 || p == 102 || (decide (3 ≤ p) && decide (p ≤ 16))
theorem forms_ok : fDuty = pDuty.map plc ∧ fLeave = pLeave.map plc ∧ fBan = pBan.map plc ∧ fPower = pPower.map plc ∧ fLet = pLet.map plc ∧ fPart = pPart.map plc := by decide +kernel
theorem lits_no : ∀ x ∈ lits, nameB x = false ∧ numV x = 0 := by decide +kernel
theorem lits_nd : lits.Nodup := by decide +kernel
theorem has_digit_no : ∀ c ∈ k_LETTERS.cps.toList, ¬ (48 ≤ c ∧ c ≤ 57) := by decide +kernel
theorem has_mem (z : Str) (c : Nat) : has z c = decide (c ∈ z.cps.toList) := StrLaws.found_one z c
theorem writ_mem {x z : Str} {m : Int} (h : writ x z m = true) : 1 ≤ x.length ∧ (x.length : Int) ≤ m ∧ ∀ c ∈ x.cps.toList, c ∈ z.cps.toList := by
  unfold writ at h
  rw [Bool.and_eq_true, Bool.and_eq_true] at h
  obtain ⟨⟨h1, h2⟩, h3⟩ := h
  refine ⟨of_decide_eq_true h1, of_decide_eq_true h2, fun c hc => ?_⟩
  have := List.all_eq_true.mp h3 c hc
  rw [has_mem] at this
  exact of_decide_eq_true this
theorem name_num {x : Str} (h : nameB x = true) : numV x = 0 := by
  unfold nameB at h
  rw [Bool.and_eq_true] at h
  obtain ⟨h1, _, h3⟩ := writ_mem h.1
  unfold numV
  refine if_neg fun q => ?_
  obtain ⟨_, _, d3⟩ := writ_digits q.1
  obtain ⟨c, e, _⟩ := first_at h1
  have hc : c ∈ x.cps.toList := List.mem_of_mem_head? e
  exact has_digit_no c (h3 c hc) (d3 c hc)
theorem name_lit {x : Str} (h : nameB x = true) : x ∉ lits := fun q => by rw [(lits_no x q).1] at h; cases h
theorem lit_at {k j : Nat} {x : Str} (hk : lits[k]? = some x) (hj : lits[j]? = some x) : k = j := nodup_ix lits_nd hk hj
theorem Rt.num {k : Nat} {x : Str} (h : Rt k x) : decide (numV x > 0) = (k == 1) := by
  rcases h with ⟨rfl, h⟩ | ⟨rfl, h1, h2, h3⟩ | ⟨rfl, h1, h2, h3⟩ | ⟨h1, h2⟩
  · rw [name_num h]; rfl
  · rw [decide_eq_true h2]; rfl
  · rw [h2]; rfl
  · have hm := List.mem_of_getElem? h2
    rw [(lits_no x hm).2]
    have : (k == 1) = false := beq_eq_false_iff_ne.mpr (by omega)
    rw [this]; rfl
theorem Rt.name {k : Nat} {x : Str} (h : Rt k x) : nameB x = (k == 0) := by
  rcases h with ⟨rfl, h⟩ | ⟨rfl, h1, h2, h3⟩ | ⟨rfl, h1, h2, h3⟩ | ⟨h1, h2⟩
  · rw [h]; rfl
  · rw [h1]; rfl
  · rw [h1]; rfl
  · have hm := List.mem_of_getElem? h2
    rw [(lits_no x hm).1]
    exact (beq_eq_false_iff_ne.mpr (by omega)).symm
theorem Rt.lit {k j : Nat} {x y : Str} (h : Rt k x) (hj : lits[j]? = some y) : decide (x = y) = (k == j + 3) := by
  have nm : x ∉ lits → k < 3 → decide (x = y) = (k == j + 3) := fun h h3 => by
    have : ¬ x = y := fun q => h (by rw [q]; exact List.mem_of_getElem? hj)
    rw [decide_eq_false this]
    exact (beq_eq_false_iff_ne.mpr (by omega)).symm
  rcases h with ⟨rfl, h⟩ | ⟨rfl, h1, h2, h3⟩ | ⟨rfl, h1, h2, h3⟩ | ⟨h1, h2⟩
  · exact nm (name_lit h) (by omega)
  · exact nm h3 (by omega)
  · exact nm h3 (by omega)
  · by_cases q : k = j + 3
    · subst q
      rw [Nat.add_sub_cancel] at h2
      rw [hj] at h2
      cases h2
      simp
    · have : ¬ x = y := fun e => q (by subst e; have := lit_at h2 hj; omega)
      rw [decide_eq_false this]
      exact (beq_eq_false_iff_ne.mpr q).symm
theorem plc_ne : ∀ p < 17, 3 ≤ p → plc p ≠ "NAME" ∧ plc p ≠ "WHO" ∧ plc p ≠ "NUMBER" ∧ lits[p - 3]? = some (plc p) := by decide +kernel
theorem fitsP_name (x : Str) : fitsP x "NAME" = nameB x := if_pos rfl
theorem who_ne : ("WHO" : Str) ≠ "NAME" ∧ ("NUMBER" : Str) ≠ "NAME" ∧ ("NUMBER" : Str) ≠ "WHO" := by decide +kernel
theorem Rt.fits {k p : Nat} {x : Str} (h : Rt k x) (hp : okP p = true) : fitsP x (plc p) = fits1 k p := by
  unfold fits1
  by_cases h1 : p = 100
  · subst h1
    rw [if_pos rfl]
    show fitsP x "NAME" = _
    rw [fitsP_name, h.name]
  rw [if_neg h1]
  by_cases h2 : p = 101
  · subst h2
    rw [if_pos rfl]
    show fitsP x "WHO" = _
    unfold fitsP
    rw [if_neg who_ne.1, if_pos rfl, h.name, h.lit (j := 0) rfl]
  rw [if_neg h2]
  by_cases h3 : p = 102
  · subst h3
    rw [if_pos rfl]
    show fitsP x "NUMBER" = _
    unfold fitsP
    rw [if_neg who_ne.2.1, if_neg who_ne.2.2, if_pos rfl, h.num]
  rw [if_neg h3]
  have hp' : 3 ≤ p ∧ p ≤ 16 := by
    unfold okP at hp
    simp [h1, h2, h3] at hp
    exact hp
  obtain ⟨a, b, c, d⟩ := plc_ne p (by omega) hp'.1
  unfold fitsP
  rw [if_neg a, if_neg b, if_neg c, h.lit d, Nat.sub_add_cancel hp'.1]
abbrev Rts : List Nat → List Str → Prop := Paired Rt
theorem Rts.fits : ∀ {ks : List Nat} {ws : List Str}, Rts ks ws → ∀ {ps : List Nat}, ps.all okP = true → fitsF ws (ps.map plc) = fitsT ks ps := by
  intro ks ws r ps hp
  unfold fitsF fitsT
  rw [List.length_map, ← r.length]
  congr 1
  induction r generalizing ps with
  | nil => rfl
  | cons h t ih =>
    cases ps with
    | nil => rfl
    | cons p ps =>
      rw [List.all_cons, Bool.and_eq_true] at hp
      rw [List.map_cons, List.zip_cons_cons, List.zip_cons_cons, List.all_cons, List.all_cons, ih hp.2]
      rw [show fitsP _ (plc p) = fits1 _ p from h.fits hp.1]
def partT (ks : List Nat) : Bool := fitsT (ks.take 2) pPart && (ks.length == 2 || (ks.getD 2 99 == 13 && (decide (1 ≤ (ks.drop 3).length) && decide ((ks.drop 3).length ≤ 12) && (ks.drop 3).all (· == 0))))
def roomT (ks : List Nat) : Bool := ks.length == 2 && (decide (14 ≤ ks.getD 0 99) && decide (ks.getD 0 99 ≤ 16)) && ks.getD 1 99 == 0
def noneT (ks : List Nat) : Bool := !fitsT ks pDuty && !fitsT ks pLeave && !fitsT ks pBan && !fitsT ks pPower && !fitsT ks pLet && !partT ks && !roomT ks
def emptyO (ws : List Str) : Prop := clauseO ws = none ∧ letO ws = none ∧ partO ws = none ∧ roomO ws = none
theorem Rts.take : ∀ {ks : List Nat} {ws : List Str} (n : Nat), Rts ks ws → Rts (ks.take n) (ws.take n)
  | _, _, 0, _ => .nil
  | _, _, _ + 1, .nil => .nil
  | _, _, n + 1, .cons r t => .cons r (Rts.take n t)
theorem pok : pDuty.all okP = true ∧ pLeave.all okP = true ∧ pBan.all okP = true ∧ pPower.all okP = true ∧ pLet.all okP = true ∧ pPart.all okP = true := by decide
theorem no_fit {ks ps : List Nat} {ws fs : List Str} (r : Rts ks ws) (hp : ps.all okP = true) (e : fs = ps.map plc) (h : fitsT ks ps = false) : ¬ fitsF ws fs = true := by
  rw [e, r.fits hp, h]
  simp
theorem yes_fit {ks ps : List Nat} {ws fs : List Str} (r : Rts ks ws) (hp : ps.all okP = true) (e : fs = ps.map plc) (h : fitsT ks ps = true) : fitsF ws fs = true := by
  rw [e, r.fits hp, h]
section
variable {P : Program} {w : World} {K : PySem.W.Frag} {mg : Str → Option Value} {base : Heap} {t : Adr}

/-! ### words joined and split again -/
end
theorem sep_inj {c : Nat} : ∀ {xs ys X Y : List Nat}, c ∉ xs → c ∉ ys → xs ++ c :: X = ys ++ c :: Y → xs = ys ∧ X = Y
  | [], [], _, _, _, _, h => by simpa using h
  | [], y :: ys, _, _, _, hy, h => by
    simp only [List.nil_append, List.cons_append, List.cons.injEq] at h
    exact absurd (by rw [h.1]; simp) hy
  | x :: xs, [], _, _, hx, _, h => by
    simp only [List.nil_append, List.cons_append, List.cons.injEq] at h
    exact absurd (by rw [← h.1]; simp) hx
  | x :: xs, y :: ys, X, Y, hx, hy, h => by
    simp only [List.cons_append, List.cons.injEq] at h
    obtain ⟨e1, e2⟩ := sep_inj (c := c) (fun q => hx (List.mem_cons_of_mem _ q)) (fun q => hy (List.mem_cons_of_mem _ q)) h.2
    exact ⟨by rw [h.1, e1], e2⟩
theorem blank_cps : (" " : Str).cps.toList = [32] := by decide +kernel
theorem blank_is : (" " : Str) = ⟨#[32]⟩ := by decide +kernel
theorem join_cons2 (x y : Str) (r : List Str) : (Str.join " " (x :: y :: r)).cps.toList = x.cps.toList ++ 32 :: (Str.join " " (y :: r)).cps.toList := by
  rw [join_two, cps_append, cps_append, blank_cps]
  simp
theorem join_inj : ∀ {as bs : List Str}, as ≠ [] → bs ≠ [] → (∀ x ∈ as, 32 ∉ x.cps.toList) → (∀ x ∈ bs, 32 ∉ x.cps.toList) → Str.join " " as = Str.join " " bs → as = bs
  | [], _, h, _, _, _, _ => absurd rfl h
  | _ :: _, [], _, h, _, _, _ => absurd rfl h
  | [a], [b], _, _, _, _, e => by rw [show a = b from e]
  | [a], b :: b' :: r, _, _, ha, _, e => by
    have e' := congrArg (fun z => z.cps.toList) e
    simp only [join_cons2, L2.join_one] at e'
    exact absurd (by rw [e']; simp) (ha a (by simp))
  | a :: a' :: r, [b], _, _, _, hb, e => by
    have e' := congrArg (fun z => z.cps.toList) e
    simp only [join_cons2, L2.join_one] at e'
    exact absurd (by rw [← e']; simp) (hb b (by simp))
  | a :: a' :: r, b :: b' :: r', _, _, ha, hb, e => by
    have e' := congrArg (fun z => z.cps.toList) e
    simp only [join_cons2] at e'
    obtain ⟨e1, e2⟩ := sep_inj (ha a (by simp)) (hb b (by simp)) e'
    have := join_inj (as := a' :: r) (bs := b' :: r') (by simp) (by simp) (fun x hx => ha x (List.mem_cons_of_mem _ hx)) (fun x hx => hb x (List.mem_cons_of_mem _ hx)) (str_ext e2)
    rw [str_ext e1, this]
theorem spl_join {ws : List Str} (h : ws ≠ []) (hb : ∀ x ∈ ws, 32 ∉ x.cps.toList) : spl (Txt.join " " ws) = ws := by
  unfold spl
  rw [join_eq]
  refine (join_inj h ?_ hb ?_ ?_).symm
  · intro q
    have := PyProof.Rows.split_pos (Str.join " " ws) " "
    rw [q] at this
    simp at this
  · intro x hx
    rw [blank_is] at hx
    exact StrLaws.split_free _ 32 x hx
  · exact (StrLaws.join_split _ _).symm
/-- words that can stand in a row -/
structure Wk (x : Str) : Prop where
  as : asc x
  nb : 32 ∉ x.cps.toList
def tot (ws : List Str) : Nat := (ws.map (·.length)).sum + ws.length
theorem tot_app (as bs : List Str) : tot (as ++ bs) = tot as + tot bs := by
  unfold tot
  rw [List.map_append, List.sum_append, List.length_append]
  omega
theorem tot_one (x : Str) : tot [x] = x.length + 1 := by simp [tot]
theorem tot_le {n : Nat} : ∀ {ws : List Str}, (∀ x ∈ ws, x.length ≤ n) → tot ws ≤ (n + 1) * ws.length
  | [], _ => by simp [tot]
  | x :: r, h => by
    have h1 := h x (by simp)
    have h2 := tot_le (n := n) (ws := r) fun y hy => h y (List.mem_cons_of_mem _ hy)
    have e : tot (x :: r) = tot [x] + tot r := tot_app [x] r
    rw [e, tot_one, List.length_cons, Nat.mul_add]
    omega
theorem row_len (ws : List Str) : (Txt.join " " ws).length ≤ tot ws := by
  have := join_len " " ws
  have e : (" " : Str).length = 1 := by decide +kernel
  rw [e] at this
  unfold tot
  omega
theorem row_sum (ws : List Str) : (ws.map (·.length)).sum + ws.length * (" " : Str).length = tot ws := by
  have e : (" " : Str).length = 1 := by decide +kernel
  rw [e]; unfold tot; omega
section
variable {P : Program} {w : World} {K : PySem.W.Frag} {mg : Str → Option Value} {base : Heap} {t : Adr}


/-! ### the law's own: cells, numbers, names -/
end
def mixF (c k : Int) : Int := (c % 2147483629 + 104729 * (k + 1)) % 2147483629 * ((c % 2147483629 + 104729 * (k + 1)) % 2147483629) % 2147483647 * 48271 % 2147483647 / 7
theorem mix_lt (c k : Int) : 0 ≤ mixF c k ∧ mixF c k < 306783379 := by
  unfold mixF
  generalize (c % 2147483629 + 104729 * (k + 1)) % 2147483629 * ((c % 2147483629 + 104729 * (k + 1)) % 2147483629) % 2147483647 * 48271 = z
  omega
def cellF (ns : List Int) (k : Int) : Int := if k < (ns.length : Int) then ns.getD k.toNat 0 % 1000000000000000000000007 else 0
def spCell (K : PySem.W.Frag) : Sp := fun vs H Q _ => ∃ (a : Addr) (k : Int) (ns : List Int), vs = [.ref a, .int k] ∧ SqL K H a (ns.map V.int) ∧ 0 ≤ k ∧ Q (.int (cellF ns k)) H
def spMix : Sp := fun vs H Q _ => ∃ (c k : Int), vs = [.int c, .int k] ∧ 0 ≤ k ∧ k ≤ 1000 ∧ Q (.int (mixF c k)) H
abbrev sS : Str := "fgjkqvxz"
def spL : List Nat := [102, 103, 106, 107, 113, 118, 120, 122]
theorem sS_ok : sS.length = 8 ∧ sS.cps.toList = spL := by decide +kernel
theorem letL_ok : k_LETTERS.length = 26 ∧ k_LETTERS.cps.toList.length = 26 := by decide +kernel
theorem sp_let : ∀ c ∈ spL, c ∈ k_LETTERS.cps.toList := by decide +kernel
theorem kept_nosp : ∀ x ∈ ks_KEPT, ∀ c ∈ x.cps.toList, c ∉ spL := by decide +kernel
def spc (j : Int) : Nat := spL.getD j.toNat 0
theorem name_of {x : Str} (h1 : 1 ≤ x.length) (h2 : x.length ≤ 8) (h3 : ∀ c ∈ x.cps.toList, c ∈ k_LETTERS.cps.toList) (h4 : ∃ c ∈ x.cps.toList, c ∈ spL) : nameB x = true := by
  unfold nameB writ
  rw [decide_eq_true h1, decide_eq_true (show (x.length : Int) ≤ 8 by omega)]
  have e : x.cps.toList.all (has k_LETTERS) = true := List.all_eq_true.mpr fun c hc => by rw [has_mem]; exact decide_eq_true (h3 c hc)
  rw [e, in_strs]
  obtain ⟨c, hc, hs⟩ := h4
  rw [decide_eq_false (fun q => kept_nosp x q c hc hs)]
  rfl
theorem name_good {x : Str} (h : nameB x = true) : 1 ≤ x.length ∧ x.length ≤ 8 ∧ Wk x := by
  unfold nameB at h
  rw [Bool.and_eq_true] at h
  obtain ⟨h1, h2, h3⟩ := writ_mem h.1
  refine ⟨h1, by omega, fun c hc => lets_ok.2.2 c (h3 c hc), fun hc => ?_⟩
  have : ¬ 32 ∈ k_LETTERS.cps.toList := by decide +kernel
  exact this (h3 32 hc)
def headsS : List Str := ["part", "done", "let", "calm", "sore", "end", "acts", "any", "in", "else", "may", "not"]
theorem heads_ok : ∀ x ∈ headsS, 1 ≤ x.length ∧ x.length ≤ 4 ∧ ∀ c ∈ x.cps.toList, c ∈ k_LETTERS.cps.toList := by decide +kernel
def szF (c : Int) : Int := 2 + c / 81 % (7 - (if c % 3 = 1 then 1 else 0))
def atF (c : Int) : Int := c / 500 % szF c
def hlF (c : Int) : Nat := (headsS.getD (c / 12 % 12).toNat "").length
theorem sz_ok (c : Int) : 2 ≤ szF c ∧ szF c ≤ 8 ∧ (c % 3 = 1 → szF c ≤ 7) := by
  unfold szF
  by_cases h : c % 3 = 1
  · rw [if_pos h]
    omega
  · rw [if_neg h]
    omega
def otF (c : Int) : Int := (atF c + 1 + c / 3600 % (szF c - 1)) % szF c
theorem at_ok (c : Int) : 0 ≤ atF c ∧ atF c < szF c := by
  have h := (sz_ok c).1
  exact ⟨Int.emod_nonneg _ (by omega), Int.emod_lt_of_pos _ (by omega)⟩
theorem ot_ok (c : Int) : 0 ≤ otF c ∧ otF c < szF c ∧ otF c ≠ atF c := by
  have h := (sz_ok c).1
  have ha := at_ok c
  have r0 : 0 ≤ c / 3600 % (szF c - 1) := Int.emod_nonneg _ (by omega)
  have r1 : c / 3600 % (szF c - 1) < szF c - 1 := Int.emod_lt_of_pos _ (by omega)
  refine ⟨Int.emod_nonneg _ (by omega), Int.emod_lt_of_pos _ (by omega), ?_⟩
  unfold otF
  generalize c / 3600 % (szF c - 1) = r at *
  generalize szF c = z at *
  generalize atF c = a at *
  by_cases q : a + 1 + r < z
  · rw [Int.emod_eq_of_lt (by omega) q]
    omega
  · have e : a + 1 + r = (a + 1 + r - z) + z := by omega
    rw [e, Int.add_emod_right, Int.emod_eq_of_lt (by omega) (by omega)]
    omega
theorem seven_pos (b : Bool) : (0 : Int) < 7 - (if b = true then 1 else 0) := by cases b <;> decide
theorem sz_is (c : Int) : (2 + c / 81 % (7 - (if decide (V.int (c % 3) = V.int 1) = true then (1 : Int) else 0))) = szF c := by
  unfold szF
  by_cases q : c % 3 = 1
  · rw [if_pos q, if_pos (by rw [q]; exact decide_eq_true rfl)]
  · rw [if_neg q, if_neg (fun h => q (by have := of_decide_eq_true h; injection this))]
def letc (j : Int) : Nat := k_LETTERS.cps.toList.getD (j % 26).toNat 0
def chF (c k : Int) (j : Nat) : Nat := if (j : Int) = otF c then letc (k / 8 + c / 7) else if (j : Int) = atF c then spc (k % 8) else letc (mixF c j)
def bodF (c k : Int) : List Nat := (List.range (szF c).toNat).map (chF c k)
/-- the name's signs -/
def nmF (c k : Int) : List Nat := if c % 12 = 5 ∧ k < 8 then [spc (k % 8)] else if c % 12 = 7 then (headsS.getD (c / 12 % 12).toNat "").cps.toList ++ [spc (k % 8), letc (k / 8)] else if c % 3 = 1 ∧ k % 2 = 1 then bodF c (k - 1) ++ [letc (c / 3)] else bodF c k
def nmS (c k : Int) : Str := ⟨(nmF c k).toArray⟩
theorem nmS_cps (c k : Int) : (nmS c k).cps.toList = nmF c k := rfl
def spNameL : Sp := fun vs H Q _ => ∃ (c k : Int), vs = [.int c, .int k] ∧ 0 ≤ c ∧ c < 1000000000 ∧ 0 ≤ k ∧ k < 208 ∧ ∀ H', Same H H' → Q (.str (nmS c k)) H'
theorem spc_mem (k : Int) : spc (k % 8) ∈ spL := by
  unfold spc
  have h0 : 0 ≤ k % 8 := Int.emod_nonneg _ (by omega)
  have h1 : k % 8 < 8 := Int.emod_lt_of_pos _ (by omega)
  have hj : (k % 8).toNat < spL.length := by show (k % 8).toNat < 8; omega
  rw [List.getD_eq_getElem?_getD, List.getElem?_eq_getElem hj]
  exact List.getElem_mem hj
theorem let_mem (k : Int) : k_LETTERS.cps.toList.getD (k % 26).toNat 0 ∈ k_LETTERS.cps.toList := by
  have h0 : 0 ≤ k % 26 := Int.emod_nonneg _ (by omega)
  have h1 : k % 26 < 26 := Int.emod_lt_of_pos _ (by omega)
  have hj : (k % 26).toNat < k_LETTERS.cps.toList.length := by rw [letL_ok.2]; omega
  rw [List.getD_eq_getElem?_getD, List.getElem?_eq_getElem hj]
  exact List.getElem_mem hj
def LS (x : Str) : Prop := ∀ c ∈ x.cps.toList, c ∈ k_LETTERS.cps.toList
def tailQ (c k k' : Int) (tl : Str) : Prop := (c % 3 = 1 ∧ k % 2 = 1 ∧ k' = k - 1 ∧ tl.cps.toList = [letc (c / 3)]) ∨ (¬ (c % 3 = 1 ∧ k % 2 = 1) ∧ k' = k ∧ tl = "")
theorem int_x {a b : Int} (h : decide (V.int a = V.int b) = true) : a = b := by have := of_decide_eq_true h; injection this
theorem int_y {a b : Int} (h : a = b) : decide (V.int a = V.int b) = true := by subst h; exact decide_eq_true rfl
section
variable {P : Program} {w : World} {K : PySem.W.Frag} {mg : Str → Option Value} {base : Heap} {t : Adr}
theorem sc_w_cell_at : FnScope ["_law_script", "_law_k"] ["_law_script", "_law_k"] (defScope s_w_cell_at) := ⟨rfl, rfl, rfl, by decide +kernel, rfl, by decide +kernel, by decide +kernel⟩
set_option maxHeartbeats 400000 in
theorem ok_w_cell_at (T : Txt K mg t) : FnOk P w K mg base CX0 1 t.f_w_cell_at t.d_w_cell_at ["_law_script", "_law_k"] (spCell K) := by
  refine T.w_cell_at.fn.ok sc_w_cell_at (fun vs H Q E h => (by obtain ⟨_, _, _, rfl, _⟩ := h; rfl)) (fun cdv A outer s H vs Q E hr h => ?_)
  obtain ⟨a, k, ns, rfl, hA, k0, kk⟩ := h
  refine ⟨_, (pss_cons (ps_if (pt_cmpR op_lt (pv 1) (pe_callB (callK_len (K := K) rfl) rfl T.b_len PySem.boot_len (pa_cons (pv 0) pa_nil)) (nomark _))
        (pss_one (ps_ret (pe_op op_mod (pe_ix (ixK_list (K := K) rfl) (pv 0) (pv 1) (fun _ _ => rfl)) pe_int))) pss_nil)
      (pss_one (ps_ret pe_int))), ?_⟩
  refine ⟨_, rfl, _, rfl, a, _, rfl, .inl hA, _, _, rfl, rfl, _, rfl, ?_⟩
  rw [List.length_map]
  refine ite2 (fun h1 => ?_) (fun h1 => ?_)
  · have h1' := of_decide_eq_true h1
    rw [show cellF ns k = ns.getD k.toNat 0 % 1000000000000000000000007 from if_pos h1'] at kk
    walk_at "rd"
    exact kk
  · have h1' : ¬ k < (ns.length : Int) := fun q => h1 (decide_eq_true q)
    rw [show cellF ns k = 0 from if_neg h1'] at kk
    walk_at "rd"
    exact kk
theorem sc_w_mix : FnScope ["_law_cell", "_law_k", "_law_number"] ["_law_cell", "_law_k"] (defScope s_w_mix) := ⟨rfl, rfl, rfl, by decide +kernel, rfl, by decide +kernel, by decide +kernel⟩
set_option maxHeartbeats 400000 in
theorem ok_w_mix (T : Txt K mg t) : FnOk P w K mg base CX0 1 t.f_w_mix t.d_w_mix ["_law_cell", "_law_k"] spMix := by
  refine T.w_mix.fn.ok sc_w_mix (fun vs H Q E h => (by obtain ⟨_, _, rfl, _⟩ := h; rfl)) (fun cdv A outer s H vs Q E hr h => ?_)
  obtain ⟨c, k, rfl, k0, k1, kk⟩ := h
  refine ⟨_, (pss_cons (ps_set (i := 2) sc_w_mix.nd rfl (Or.inl rfl) (pe_op op_mod (pe_op op_add (pe_op op_mod (pv 0) pe_int) (pe_op op_mul pe_int (pe_op op_add (pv 1) pe_int))) pe_int))
      (pss_one (ps_ret (pe_op op_fdiv (pe_op op_mod (pe_op op_mul (pe_op op_mod (pe_op op_mul (pv 2) (pv 2)) pe_int) pe_int) pe_int) pe_int)))), ?_⟩
  walk_at "rd"
  exact kk
theorem sc_w_name : FnScope ["_law_cell", "_law_k", "_law_letters", "_law_heads", "_law_tail", "_law_size", "_law_at", "_law_other", "_law_name_here", "_law_j", "_law_letter"] ["_law_cell", "_law_k"] (defScope s_w_name) := ⟨rfl, rfl, rfl, by decide +kernel, rfl, by decide +kernel, by decide +kernel⟩
set_option maxHeartbeats 400000 in
theorem ok_w_name (T : Txt K mg t) : FnOk P w K mg base CX0 2 t.f_w_name t.d_w_name ["_law_cell", "_law_k"] spNameL := by
  have G_w_mix : FnOk P w K mg base CX0 1 t.f_w_mix t.d_w_mix ["_law_cell", "_law_k"] spMix := (ok_w_mix T).mono (by decide)
  refine T.w_name.fn.ok sc_w_name (fun vs H Q E h => (by obtain ⟨_, _, rfl, _⟩ := h; rfl)) (fun cdv A outer s H vs Q E hr h => ?_)
  obtain ⟨c, k, rfl, c0, c1, k0, k1, kk⟩ := h
  refine ⟨_, (pss_cons (ps_set (i := 2) sc_w_name.nd rfl (Or.inl rfl) pe_str)
      (pss_cons (PS.join (ps_if (PW.pt (pw_and (pt_cmpR op_eq (pe_op op_mod (pv 0) pe_int) pe_int (nomark _)) (pw_and1 (pt_cmpR op_lt (pv 1) pe_int (nomark _)))))
        (pss_one (ps_ret (pe_ix ix_str pe_str (pv 1) (fun _ _ => rfl)))) pss_nil))
      (pss_cons (ps_if (pt_cmpR op_eq (pe_op op_mod (pv 0) pe_int) pe_int (nomark _))
        (pss_cons (ps_set (i := 3) sc_w_name.nd rfl (Or.inl rfl) (ne_lst (pa_cons pe_str (pa_cons pe_str (pa_cons pe_str (pa_cons pe_str (pa_cons pe_str (pa_cons pe_str (pa_cons pe_str (pa_cons pe_str (pa_cons pe_str (pa_cons pe_str (pa_cons pe_str (pa_cons pe_str pa_nil))))))))))))) sw_list)
      (pss_one (ps_ret (pe_op op_add_str (pe_op op_add_str (pe_ix (ixK_list (K := K) rfl) (pv 3) (pe_op op_mod (pe_op op_fdiv (pv 0) pe_int) pe_int) (fun _ _ => rfl)) (pe_ix ix_str pe_str (pe_op op_mod (pv 1) pe_int) (fun _ _ => rfl))) (pe_ix ix_str (pv 2) (pe_op op_mod (pe_op op_fdiv (pv 1) pe_int) pe_int) (fun _ _ => rfl)))))) pss_nil)
      (pss_cons (ps_set (i := 4) sc_w_name.nd rfl (Or.inl rfl) pe_str)
      (pss_cons (PS.join (ps_if (PW.pt (pw_and (pt_cmpR op_eq (pe_op op_mod (pv 0) pe_int) pe_int (nomark _)) (pw_and1 (pt_cmpR op_eq (pe_op op_mod (pv 1) pe_int) pe_int (nomark _)))))
        (pss_cons (ps_set (i := 4) sc_w_name.nd rfl (Or.inl rfl) (pe_ix ix_str (pv 2) (pe_op op_mod (pe_op op_fdiv (pv 0) pe_int) pe_int) (fun _ _ => rfl)))
      (pss_one (ps_set (i := 1) sc_w_name.nd rfl (Or.inl rfl) (pe_op op_sub (pv 1) pe_int)))) pss_nil))
      (pss_cons (ps_set (i := 5) sc_w_name.nd rfl (Or.inl rfl) (pe_op op_add pe_int (pe_op op_mod (pe_op op_fdiv (pv 0) pe_int) (pe_op op_sub pe_int (pe_callTy call_int1 rfl T.b_int PyProof.Rows.boot_int (pa_cons (pe_cmpR op_eq (pe_op op_mod (pv 0) pe_int) pe_int (nomark _)) pa_nil))))))
      (pss_cons (ps_set (i := 6) sc_w_name.nd rfl (Or.inl rfl) (pe_op op_mod (pe_op op_fdiv (pv 0) pe_int) (pv 5)))
      (pss_cons (ps_set (i := 7) sc_w_name.nd rfl (Or.inl rfl) (pe_op op_mod (pe_op op_add (pe_op op_add (pv 6) pe_int) (pe_op op_mod (pe_op op_fdiv (pv 0) pe_int) (pe_op op_sub (pv 5) pe_int))) (pv 5)))
      (pss_cons (ps_set (i := 8) sc_w_name.nd rfl (Or.inl rfl) pe_str)
      (pss_cons (ps_for PassesOwn.never rfl (pi_range1 rfl T.b_range (pa_cons (pv 5) pa_nil)) (pg_name (i := 9) sc_w_name.nd rfl (Or.inl rfl))
        (pss_cons (ps_set (i := 10) sc_w_name.nd rfl (Or.inl rfl) (pe_ix ix_str (pv 2) (pe_op op_mod (pe_call G_w_mix hr rfl T.w_mix.mg T.w_mix.fn.kp T.w_mix.bd .nil pass0 (pa_cons (pv 0) (pa_cons (pv 9) pa_nil))) pe_int) (fun _ _ => rfl)))
      (pss_cons (PS.join (ps_if (pt_cmpR op_eq (pv 9) (pv 6) (nomark _))
        (pss_one (ps_set (i := 10) sc_w_name.nd rfl (Or.inl rfl) (pe_ix ix_str pe_str (pe_op op_mod (pv 1) pe_int) (fun _ _ => rfl)))) pss_nil))
      (pss_cons (PS.join (ps_if (pt_cmpR op_eq (pv 9) (pv 7) (nomark _))
        (pss_one (ps_set (i := 10) sc_w_name.nd rfl (Or.inl rfl) (pe_ix ix_str (pv 2) (pe_op op_mod (pe_op op_add (pe_op op_fdiv (pv 1) pe_int) (pe_op op_fdiv (pv 0) pe_int)) pe_int) (fun _ _ => rfl)))) pss_nil))
      (pss_one (ps_set (i := 8) sc_w_name.nd rfl (Or.inl rfl) (pe_op op_add_str (pv 8) (pv 10))))))))
      (pss_one (ps_ret (pe_op op_add_str (pv 8) (pv 4)))))))))))))), ?_⟩
  have hs : (Str.ofString "fgjkqvxz").length = 8 := sS_ok.1
  have hl : (Str.ofString "abcdefghijklmnopqrstuvwxyz").length = 26 := letL_ok.1
  have k8 : 0 ≤ k % 8 := Int.emod_nonneg _ (by decide)
  have k8' : k % 8 < 8 := Int.emod_lt_of_pos _ (by decide)
  walk_at "rd"
  refine ⟨fun σ' H' => (σ' = [some (.int c), some (.int k), some (.str (Str.ofString "abcdefghijklmnopqrstuvwxyz")), none, none, none, none, none, none, none, none] ∧ H' = H ∧ ¬ (c % 12 = 5 ∧ k < 8)) ∨ False, ?_, ?_⟩
  · walk_at "rd"
    refine ite2 (fun h1 => ?_) (fun h1 => .inl ⟨rfl, rfl, fun q => h1 (int_y q.1)⟩)
    walk_at "rd"
    refine ite2 (fun h2 => ?_) (fun h2 => .inl ⟨rfl, rfl, fun q => h2 (decide_eq_true q.2)⟩)
    have h2' : k < 8 := of_decide_eq_true h2
    walk_at "rd"
    have em : (⟨#[(Str.ofString "fgjkqvxz").cps.toList.getD k.toNat 0]⟩ : Str) = nmS c k := by
      refine str_ext ?_
      rw [nmS_cps]
      unfold nmF
      rw [if_pos ⟨int_x h1, h2'⟩, show (Str.ofString "fgjkqvxz").cps.toList = spL from sS_ok.2, show k % 8 = k by omega]
      rfl
    rw [em]
    exact kk _ (Same.refl _)
  intro σ' H' q
  obtain ⟨rfl, rfl, hA⟩ := q.resolve_right fun z => z
  walk_at "rd"
  refine ite2 (fun h1 => ?_) (fun h1 => ?_)
  · have e7 : c % 12 = 7 := int_x h1
    walk_at "rd"
    intro lh H1 s1 hlh e1
    have e2 : H1 lh = some (.lst (headsS.map V.str)) := e1
    clear e1
    have hk : headsS.length = 12 := rfl
    have b0 : 0 ≤ c / 12 % 12 := Int.emod_nonneg _ (by decide)
    have b1 : c / 12 % 12 < 12 := Int.emod_lt_of_pos _ (by decide)
    have b2 : 0 ≤ k / 8 % 26 := Int.emod_nonneg _ (by decide)
    have b3 : k / 8 % 26 < 26 := Int.emod_lt_of_pos _ (by decide)
    obtain ⟨g1, g2, g3⟩ := heads_ok _ (wd_mem (ws := headsS) (i := (c / 12 % 12).toNat) (by omega))
    walk_at "rd"
    rw [show (headsS.getD (c / 12 % 12).toNat (Str.ofString "") ++ (⟨#[(Str.ofString "fgjkqvxz").cps.toList.getD (k % 8).toNat 0]⟩ : Str) ++ (⟨#[(Str.ofString "abcdefghijklmnopqrstuvwxyz").cps.toList.getD (k / 8 % 26).toNat 0]⟩ : Str)) = nmS c k from by
      refine str_ext ?_
      rw [cps_append, cps_append, nmS_cps]
      unfold nmF
      rw [if_neg hA, if_pos e7, List.append_assoc, show (Str.ofString "fgjkqvxz").cps.toList = spL from sS_ok.2]
      rfl]
    exact kk H1 (by walk_at "sm")
  have n7 : ¬ c % 12 = 7 := fun q => h1 (int_y q)
  walk_at "rd"
  refine ⟨fun σ' H2 => (∃ (tl : Str) (k' : Int), σ' = [some (.int c), some (.int k'), some (.str (Str.ofString "abcdefghijklmnopqrstuvwxyz")), none, some (.str tl), none, none, none, none, none, none] ∧ H2 = H' ∧ tailQ c k k' tl) ∨ False, ?_, ?_⟩
  · walk_at "rd"
    refine ite2 (fun h2 => ?_) (fun h2 => .inl ⟨_, _, rfl, rfl, .inr ⟨fun q => h2 (int_y q.1), rfl, rfl⟩⟩)
    walk_at "rd"
    refine ite2 (fun h3 => ?_) (fun h3 => .inl ⟨_, _, rfl, rfl, .inr ⟨fun q => h3 (int_y q.2), rfl, rfl⟩⟩)
    have b2 : 0 ≤ c / 3 % 26 := Int.emod_nonneg _ (by decide)
    have b3 : c / 3 % 26 < 26 := Int.emod_lt_of_pos _ (by decide)
    walk_at "rd"
    exact .inl ⟨_, _, rfl, rfl, .inl ⟨int_x h2, int_x h3, rfl, rfl⟩⟩
  intro σ' H2 q
  obtain ⟨tl, k', rfl, rfl, hT⟩ := q.resolve_right fun z => z
  clear q
  have z1 := sz_ok c
  have a1 := at_ok c
  have o1 := ot_ok c
  have k'0 : 0 ≤ k' ∧ k' < 208 := by rcases hT with ⟨_, _, e, _⟩ | ⟨_, e, _⟩ <;> omega
  walk_at "rd"
  refine .inr ⟨_, rfl, _, _, rfl, rfl, _, _, rfl, rfl, seven_pos _, _, _, rfl, rfl, ?_⟩
  show gName 5 (V.int (2 + c / 81 % (7 - (if decide (V.int (c % 3) = V.int 1) = true then (1 : Int) else 0)))) _ _ _
  rw [sz_is c]
  walk_at "rd"
  refine for_range (lo := 0) (n := (szF c).toNat) (fun i σ H3 => ∃ (x : Str) (v9 v10 : Option V), σ = [some (.int c), some (.int k'), some (.str (Str.ofString "abcdefghijklmnopqrstuvwxyz")), none, some (.str tl), some (.int (szF c)), some (.int (atF c)), some (.int (otF c)), some (.str x), v9, v10] ∧ H3 = H2 ∧ x.cps.toList = (List.range i).map (chF c k') ∧ (i = i ∨ False))
    ⟨"", none, none, rfl, rfl, (show ("" : Str).cps.toList = [] from by decide +kernel), .inl rfl⟩ ?_ ?_
  · rintro i σ H3 hi ⟨x, v9, v10, rfl, rfl, hx, _⟩
    have k'8 : 0 ≤ k' % 8 := Int.emod_nonneg _ (by decide)
    have k'8' : k' % 8 < 8 := Int.emod_lt_of_pos _ (by decide)
    have em : (Str.ofString "fgjkqvxz").cps.toList.getD (k' % 8).toNat 0 = spc (k' % 8) := by
      rw [show (Str.ofString "fgjkqvxz").cps.toList = spL from sS_ok.2]; rfl
    have b0 : 0 ≤ (k' / 8 + c / 7) % 26 := Int.emod_nonneg _ (by decide)
    have b1 : (k' / 8 + c / 7) % 26 < 26 := Int.emod_lt_of_pos _ (by decide)
    have bm := mix_lt c (0 + (i : Int))
    walk_at "rd"
    refine ⟨fun σ' H' => (∃ ch : Nat, σ' = [some (.int c), some (.int k'), some (.str (Str.ofString "abcdefghijklmnopqrstuvwxyz")), none, some (.str tl), some (.int (szF c)), some (.int (atF c)), some (.int (otF c)), some (.str x), some (.int (0 + (i : Int))), some (.str ⟨#[ch]⟩)] ∧ H' = H3 ∧ ch = (if (i : Int) = atF c then spc (k' % 8) else letc (mixF c i))) ∨ False, ?_, ?_⟩
    · walk_at "rd"
      refine ite2 (fun h2 => ?_) (fun h2 => .inl ⟨_, rfl, rfl, ?_⟩)
      · have h2' := int_x h2
        walk_at "rd"
        exact .inl ⟨_, rfl, rfl, by rw [if_pos (by omega)]; exact em⟩
      · rw [if_neg (fun q => h2 (int_y (by omega))), Int.zero_add]
        rfl
    intro σ' H' q
    obtain ⟨ch, rfl, rfl, m1⟩ := q.resolve_right fun z => z
    clear q
    refine ⟨fun σ' H3 => (∃ ch : Nat, σ' = [some (.int c), some (.int k'), some (.str (Str.ofString "abcdefghijklmnopqrstuvwxyz")), none, some (.str tl), some (.int (szF c)), some (.int (atF c)), some (.int (otF c)), some (.str x), some (.int (0 + (i : Int))), some (.str ⟨#[ch]⟩)] ∧ H3 = H' ∧ ch = chF c k' i) ∨ False, ?_, ?_⟩
    · walk_at "rd"
      refine ite2 (fun h2 => ?_) (fun h2 => .inl ⟨_, rfl, rfl, ?_⟩)
      · have h2' := int_x h2
        walk_at "rd"
        exact .inl ⟨_, rfl, rfl, by unfold chF; rw [if_pos (by omega)]; rfl⟩
      · unfold chF
        rw [if_neg (fun q => h2 (int_y (by omega)))]
        exact m1
    intro σ' H3 q
    obtain ⟨ch, rfl, rfl, m1⟩ := q.resolve_right fun z => z
    clear q
    have hx9 : x.length ≤ 8 := by
      have := congrArg List.length hx
      rw [List.length_map, List.length_range] at this
      (have e : x.cps.toList.length = x.length := by simp [Str.length])
      omega
    walk_at "rd"
    refine ⟨?_, .inl rfl⟩
    rw [cps_append, hx, List.range_succ, List.map_append, m1]
    rfl
  · rintro σ H3 ⟨x, v9, v10, rfl, rfl, hx, _⟩
    have e : x ++ tl = nmS c k := by
      refine str_ext ?_
      rw [cps_append, nmS_cps]
      unfold nmF
      rw [if_neg hA, if_neg n7]
      rcases hT with ⟨e1, e2, e3, e4⟩ | ⟨e1, e2, e3⟩
      · rw [if_pos ⟨e1, e2⟩, e4, hx, e3]; rfl
      · rw [if_neg e1, e3, hx, e2, show ("" : Str).cps.toList = [] from by decide +kernel, List.append_nil]; rfl
    have hx9 : x.length ≤ 8 := by
      have := congrArg List.length hx
      rw [List.length_map, List.length_range] at this
      (have e : x.cps.toList.length = x.length := by simp [Str.length])
      omega
    have hT9 : tl.length ≤ 1 := by
      rcases hT with ⟨_, _, _, e⟩ | ⟨_, _, e⟩
      · have := congrArg List.length e
        have e' : tl.cps.toList.length = tl.length := by simp [Str.length]
        rw [e'] at this; simp only [List.length_cons, List.length_nil] at this; omega
      · rw [e]; decide +kernel
    walk_at "rd"
    rw [e]
    exact kk _ (Same.refl _)


/-! ### the names differ -/
end
theorem letN : k_LETTERS.cps.toList.Nodup := by decide +kernel
theorem spN : spL.Nodup := by decide +kernel
theorem getD_inj {L : List Nat} (h : L.Nodup) {i j : Nat} (hi : i < L.length) (hj : j < L.length) (e : L.getD i 0 = L.getD j 0) : i = j := by
  rw [List.getD_eq_getElem?_getD, List.getD_eq_getElem?_getD, List.getElem?_eq_getElem hi, List.getElem?_eq_getElem hj] at e
  have e' : L[i] = L[j] := e
  have hp := List.nodup_iff_pairwise_ne.mp h
  rcases Nat.lt_trichotomy i j with q | q | q
  · exact absurd e' (List.pairwise_iff_getElem.mp hp i j hi hj q)
  · exact q
  · exact absurd e'.symm (List.pairwise_iff_getElem.mp hp j i hj hi q)
theorem letc_inj {a b : Int} (e : letc a = letc b) : a % 26 = b % 26 := by
  have a0 : 0 ≤ a % 26 := Int.emod_nonneg _ (by decide)
  have a1 : a % 26 < 26 := Int.emod_lt_of_pos _ (by decide)
  have b0 : 0 ≤ b % 26 := Int.emod_nonneg _ (by decide)
  have b1 : b % 26 < 26 := Int.emod_lt_of_pos _ (by decide)
  have := getD_inj letN (i := (a % 26).toNat) (j := (b % 26).toNat) (by rw [letL_ok.2]; omega) (by rw [letL_ok.2]; omega) e
  omega
theorem spc_inj {a b : Int} (e : spc (a % 8) = spc (b % 8)) : a % 8 = b % 8 := by
  have a0 : 0 ≤ a % 8 := Int.emod_nonneg _ (by decide)
  have a1 : a % 8 < 8 := Int.emod_lt_of_pos _ (by decide)
  have b0 : 0 ≤ b % 8 := Int.emod_nonneg _ (by decide)
  have b1 : b % 8 < 8 := Int.emod_lt_of_pos _ (by decide)
  have := getD_inj spN (i := (a % 8).toNat) (j := (b % 8).toNat) (by show _ < 8; omega) (by show _ < 8; omega) e
  omega
theorem bod_len (c k : Int) : (bodF c k).length = (szF c).toNat := by unfold bodF; rw [List.length_map, List.length_range]
theorem bod_at (c k : Int) : (bodF c k)[(atF c).toNat]? = some (spc (k % 8)) := by
  have a1 := at_ok c
  have o1 := ot_ok c
  unfold bodF
  rw [List.getElem?_map, List.getElem?_range (by omega)]
  show some (chF c k (atF c).toNat) = _
  unfold chF
  rw [if_neg (by omega), if_pos (by omega)]
theorem bod_ot (c k : Int) : (bodF c k)[(otF c).toNat]? = some (letc (k / 8 + c / 7)) := by
  have o1 := ot_ok c
  unfold bodF
  rw [List.getElem?_map, List.getElem?_range (by omega)]
  show some (chF c k (otF c).toNat) = _
  unfold chF
  rw [if_pos (by omega)]
theorem bod_let (c k : Int) : ∀ x ∈ bodF c k, x ∈ k_LETTERS.cps.toList := by
  intro x hx
  unfold bodF at hx
  obtain ⟨j, _, rfl⟩ := List.mem_map.mp hx
  unfold chF
  split
  · exact let_mem _
  · split
    · exact sp_let _ (spc_mem k)
    · exact let_mem _
theorem bod_inj {c k1 k2 : Int} (h1 : 0 ≤ k1 ∧ k1 < 208) (h2 : 0 ≤ k2 ∧ k2 < 208) (e : bodF c k1 = bodF c k2) : k1 = k2 := by
  have e1 := bod_at c k1
  rw [e, bod_at c k2] at e1
  have e2 := bod_ot c k1
  rw [e, bod_ot c k2] at e2
  have f1 := spc_inj (Option.some.inj e1)
  have f2 := letc_inj (Option.some.inj e2)
  omega
theorem nm_ok (c : Int) {k : Int} : nameB (nmS c k) = true := by
  have z1 := sz_ok c
  have a1 := at_ok c
  have len : (nmS c k).length = (nmF c k).length := by rw [← nmS_cps]; simp [Str.length]
  have key : 1 ≤ (nmF c k).length ∧ (nmF c k).length ≤ 8 ∧ (∀ x ∈ nmF c k, x ∈ k_LETTERS.cps.toList) ∧ ∃ x ∈ nmF c k, x ∈ spL := by
    unfold nmF
    split
    · exact ⟨by simp, by simp, fun x hx => by rw [List.mem_singleton.mp hx]; exact sp_let _ (spc_mem k), _, List.mem_singleton.mpr rfl, spc_mem k⟩
    · split
      · have b0 : 0 ≤ c / 12 % 12 := Int.emod_nonneg _ (by decide)
        have b1 : c / 12 % 12 < 12 := Int.emod_lt_of_pos _ (by decide)
        obtain ⟨g1, g2, g3⟩ := heads_ok _ (wd_mem (ws := headsS) (i := (c / 12 % 12).toNat) (by show _ < 12; omega))
        have e : (headsS.getD (c / 12 % 12).toNat "").cps.toList.length = (headsS.getD (c / 12 % 12).toNat "").length := by simp [Str.length]
        refine ⟨by rw [List.length_append]; simp only [List.length_cons, List.length_nil]; omega, by rw [List.length_append]; simp only [List.length_cons, List.length_nil]; omega, fun x hx => ?_, spc (k % 8), by simp, spc_mem k⟩
        (rcases List.mem_append.mp hx with hx | hx)
        · exact g3 x hx
        · simp only [List.mem_cons, List.not_mem_nil, or_false] at hx
          rcases hx with rfl | rfl
          · exact sp_let _ (spc_mem k)
          · exact let_mem _
      · split
        · rename_i h
          have := z1.2.2 h.1
          refine ⟨by rw [List.length_append, bod_len]; simp only [List.length_cons, List.length_nil]; omega, by rw [List.length_append, bod_len]; simp only [List.length_cons, List.length_nil]; omega, fun x hx => ?_, spc ((k - 1) % 8), List.mem_append_left _ (List.mem_of_getElem? (bod_at c (k - 1))), spc_mem _⟩
          (rcases List.mem_append.mp hx with hx | hx)
          · exact bod_let _ _ x hx
          · rw [List.mem_singleton.mp hx]; exact let_mem _
        · exact ⟨by rw [bod_len]; omega, by rw [bod_len]; omega, bod_let c k, spc (k % 8), List.mem_of_getElem? (bod_at c k), spc_mem k⟩
  exact name_of (by rw [len]; exact key.1) (by rw [len]; exact key.2.1) key.2.2.1 key.2.2.2
theorem nm_5 {c k : Int} (h : c % 12 = 5) (q : k < 8) : nmF c k = [spc (k % 8)] := by unfold nmF; rw [if_pos ⟨h, q⟩]
theorem nm_5' {c k : Int} (h : c % 12 = 5) (q : ¬ k < 8) : nmF c k = bodF c k := by unfold nmF; rw [if_neg (fun z => q z.2), if_neg (by omega), if_neg (by omega)]
theorem nm_7 {c k : Int} (h : c % 12 = 7) : nmF c k = (headsS.getD (c / 12 % 12).toNat "").cps.toList ++ [spc (k % 8), letc (k / 8)] := by unfold nmF; rw [if_neg (by omega), if_pos h]
theorem nm_1 {c k : Int} (h : ¬ c % 12 = 5) (h7 : ¬ c % 12 = 7) (h3 : c % 3 = 1) (q : k % 2 = 1) : nmF c k = bodF c (k - 1) ++ [letc (c / 3)] := by unfold nmF; rw [if_neg (fun z => h z.1), if_neg h7, if_pos ⟨h3, q⟩]
theorem nm_0 {c k : Int} (h : ¬ c % 12 = 5) (h7 : ¬ c % 12 = 7) (q : ¬ (c % 3 = 1 ∧ k % 2 = 1)) : nmF c k = bodF c k := by unfold nmF; rw [if_neg (fun z => h z.1), if_neg h7, if_neg q]
theorem nm_inj {c k1 k2 : Int} (h1 : 0 ≤ k1 ∧ k1 < 208) (h2 : 0 ≤ k2 ∧ k2 < 208) (e : nmS c k1 = nmS c k2) : k1 = k2 := by
  have e' : nmF c k1 = nmF c k2 := by rw [← nmS_cps, ← nmS_cps, e]
  have z1 := sz_ok c
  have el := congrArg List.length e'
  by_cases c5 : c % 12 = 5
  · by_cases q1 : k1 < 8 <;> by_cases q2 : k2 < 8
    · rw [nm_5 c5 q1, nm_5 c5 q2] at e'
      have := spc_inj (List.cons.inj e').1
      omega
    · rw [nm_5 c5 q1, nm_5' c5 q2, bod_len] at el
      simp only [List.length_cons, List.length_nil] at el
      omega
    · rw [nm_5' c5 q1, nm_5 c5 q2, bod_len] at el
      simp only [List.length_cons, List.length_nil] at el
      omega
    · rw [nm_5' c5 q1, nm_5' c5 q2] at e'
      exact bod_inj h1 h2 e'
  by_cases c7 : c % 12 = 7
  · rw [nm_7 c7, nm_7 c7] at e'
    have := List.append_cancel_left e'
    obtain ⟨f1, f2⟩ := List.cons.inj this
    have g1 := spc_inj f1
    have g2 := letc_inj (List.cons.inj f2).1
    omega
  by_cases c3 : c % 3 = 1
  · by_cases q1 : k1 % 2 = 1 <;> by_cases q2 : k2 % 2 = 1
    · rw [nm_1 c5 c7 c3 q1, nm_1 c5 c7 c3 q2] at e'
      have := bod_inj (by omega) (by omega) (List.append_cancel_right e')
      omega
    · rw [nm_1 c5 c7 c3 q1, nm_0 c5 c7 (fun z => q2 z.2), List.length_append, bod_len, bod_len] at el
      simp only [List.length_cons, List.length_nil] at el
      omega
    · rw [nm_0 c5 c7 (fun z => q1 z.2), nm_1 c5 c7 c3 q2, List.length_append, bod_len, bod_len] at el
      simp only [List.length_cons, List.length_nil] at el
      omega
    · rw [nm_0 c5 c7 (fun z => q1 z.2), nm_0 c5 c7 (fun z => q2 z.2)] at e'
      exact bod_inj h1 h2 e'
  · rw [nm_0 c5 c7 (fun z => c3 z.1), nm_0 c5 c7 (fun z => c3 z.1)] at e'
    exact bod_inj h1 h2 e'
section
variable {P : Program} {w : World} {K : PySem.W.Frag} {mg : Str → Option Value} {base : Heap} {t : Adr}


/-! ### rows joined by "; " and split again -/
end
theorem semi_is : ("; " : Str) = ⟨#[59, 32]⟩ := by decide +kernel
theorem semi_cps : ("; " : Str).cps.toList = [59, 32] := by decide +kernel
def No2 (l : List Nat) : Prop := ∀ j : Nat, l[j]? = some 59 → l[j + 1]? = some 32 → False
theorem at_two {x : Str} {i : Nat} (h1 : x.cps.toList[i]? = some 59) (h2 : x.cps.toList[i + 1]? = some 32) : StrLaws.At x ⟨#[59, 32]⟩ x.length i := by
  obtain ⟨g1, e1⟩ := List.getElem?_eq_some_iff.mp h1
  obtain ⟨g2, e2⟩ := List.getElem?_eq_some_iff.mp h2
  have hl : x.cps.toList.length = x.length := by simp [Str.length]
  refine ⟨by show i + 2 ≤ x.length; omega, ?_⟩
  rw [StrLaws.subAt_eq]
  show ((x.cps.toList.drop i).take 2 == [59, 32]) = true
  rw [List.drop_eq_getElem_cons g1, List.drop_eq_getElem_cons g2, e1, e2]
  rfl
theorem part_no2 {x : Str} {a b : Nat} (hn : ∀ k, a ≤ k → k < b → ¬ StrLaws.At x ⟨#[59, 32]⟩ x.length k) : No2 (Builtin.Str.strSub x a b).cps.toList := by
  intro j h1 h2
  rw [StrLaws.strSub_toList] at h1 h2
  have hj : j + 1 < b - a := by
    have := (List.getElem?_eq_some_iff.mp h2).1
    rw [List.length_take] at this
    omega
  rw [List.getElem?_take_of_lt (by omega), List.getElem?_drop] at h1
  rw [List.getElem?_take_of_lt hj, List.getElem?_drop] at h2
  exact hn (a + j) (by omega) (by omega) (at_two h1 (by rw [Nat.add_assoc]; exact h2))
theorem parts_no2 {x : Str} : ∀ {cuts : List Nat} {a f : Nat}, StrLaws.ChainG x ⟨#[59, 32]⟩ x.length a cuts f → (∀ k, f ≤ k → ¬ StrLaws.At x ⟨#[59, 32]⟩ x.length k) → ∀ p ∈ StrLaws.partsFrom x 2 a cuts, No2 p.cps.toList
  | [], a, f, h, hn, y, hy => by
    obtain rfl : f = a := h
    rw [List.mem_singleton.mp hy]
    exact part_no2 fun k h1 _ => hn k h1
  | d :: r, a, f, h, hn, y, hy => by
    rcases List.mem_cons.mp hy with rfl | hy'
    · exact part_no2 h.2.2.1
    · exact parts_no2 h.2.2.2 hn y hy'
theorem split_no2 (x : Str) : ∀ p ∈ Txt.split x ⟨#[59, 32]⟩, No2 p.cps.toList := by
  obtain ⟨f, hG, hn⟩ := StrLaws.occ_tight x ⟨#[59, 32]⟩ (by show 1 ≤ 2; decide)
  intro p hp
  have whole : (∀ k, ¬ StrLaws.At x ⟨#[59, 32]⟩ x.length k) → No2 x.cps.toList := fun h j h1 h2 => h j (at_two h1 h2)
  unfold Txt.split at hp
  split at hp
  · rename_i hc
    rw [List.mem_singleton.mp hp]
    refine whole fun k hA => ?_
    (rw [Bool.or_eq_true, decide_eq_true_eq, decide_eq_true_eq] at hc)
    rcases hc with q | q
    · have := hA.1; omega
    · have e : Builtin.Str.strKind ⟨#[59, 32]⟩ = 1 := by decide +kernel
      rw [e] at q
      unfold Builtin.Str.strKind at q
      split at q
      · omega
      · split at q <;> omega
  · split at hp
    · rename_i he
      rw [List.mem_singleton.mp hp]
      rw [List.isEmpty_iff.mp he] at hG
      obtain rfl : f = 0 := hG
      exact whole fun k => hn k (Nat.zero_le _)
    · rw [StrLaws.partsBetween_eq] at hp
      exact parts_no2 hG hn p hp
/-- every 59 is followed by a 32 -/
def G2 (l : List Nat) : Prop := ∀ j : Nat, l[j]? = some 59 → l[j + 1]? = some 32
theorem G2.free {l : List Nat} (h : 59 ∉ l) : G2 l := fun j e => absurd (List.mem_of_getElem? e) h
theorem join_cons3 (x y : Str) (r : List Str) : (Str.join "; " (x :: y :: r)).cps.toList = x.cps.toList ++ 59 :: 32 :: (Str.join "; " (y :: r)).cps.toList := by
  rw [join_two, cps_append, cps_append, semi_cps]
  simp
theorem G2.glue {x l : List Nat} (hx : 59 ∉ x) (hl : G2 l) : G2 (x ++ 59 :: 32 :: l) := by
  intro j e
  by_cases q : j < x.length
  · rw [List.getElem?_append_left q] at e
    exact absurd (List.mem_of_getElem? e) hx
  · rw [List.getElem?_append_right (by omega)] at e ⊢
    rw [show j + 1 - x.length = (j - x.length) + 1 by omega]
    generalize j - x.length = i at e ⊢
    match i, e with
    | 0, _ => rfl
    | 1, e => cases e
    | i + 2, e => exact hl i e
theorem G2.join : ∀ {rows : List Str}, (∀ x ∈ rows, 59 ∉ x.cps.toList) → G2 (Str.join "; " rows).cps.toList
  | [], _ => G2.free (by decide +kernel)
  | [x], h => by rw [L2.join_one]; exact G2.free (h x (by simp))
  | x :: y :: r, h => by
    rw [join_cons3]
    exact G2.glue (h x (by simp)) (G2.join fun z hz => h z (List.mem_cons_of_mem _ hz))
theorem free_parts : ∀ {ps : List Str}, G2 (Str.join "; " ps).cps.toList → (∀ p ∈ ps, No2 p.cps.toList) → ∀ p ∈ ps, 59 ∉ p.cps.toList
  | [], _, _, p, hp => by cases hp
  | [x], h, hn, p, hp => by
    rw [L2.join_one] at h
    rw [List.mem_singleton.mp hp]
    intro hm
    (obtain ⟨j, hj⟩ := List.getElem?_of_mem hm)
    exact hn x (by simp) j hj (h j hj)
  | x :: y :: r, h, hn, p, hp => by
    rw [join_cons3] at h
    have h' : G2 (Str.join "; " (y :: r)).cps.toList := fun j e => by
      have := h (x.cps.toList.length + (j + 2)) (by rw [List.getElem?_append_right (by omega), Nat.add_sub_cancel_left]; exact e)
      rw [List.getElem?_append_right (by omega), show x.cps.toList.length + (j + 2) + 1 - x.cps.toList.length = j + 1 + 2 by omega] at this
      exact this
    (rcases List.mem_cons.mp hp with rfl | hp)
    · intro hm
      (obtain ⟨j, hj⟩ := List.getElem?_of_mem hm)
      have hjl := (List.getElem?_eq_some_iff.mp hj).1
      have e := h j (by rw [List.getElem?_append_left hjl]; exact hj)
      by_cases q : j + 1 < p.cps.toList.length
      · rw [List.getElem?_append_left q] at e
        exact hn p (by simp) j hj e
      · rw [List.getElem?_append_right (by omega), show j + 1 - p.cps.toList.length = 0 by omega] at e
        cases e
    · exact free_parts h' (fun z hz => hn z (List.mem_cons_of_mem _ hz)) p hp
theorem join_inj2 : ∀ {as bs : List Str}, as ≠ [] → bs ≠ [] → (∀ x ∈ as, 59 ∉ x.cps.toList) → (∀ x ∈ bs, 59 ∉ x.cps.toList) → Str.join "; " as = Str.join "; " bs → as = bs
  | [], _, h, _, _, _, _ => absurd rfl h
  | _ :: _, [], _, h, _, _, _ => absurd rfl h
  | [a], [b], _, _, _, _, e => by rw [show a = b from e]
  | [a], b :: b' :: r, _, _, ha, _, e => by
    have e' := congrArg (fun z => z.cps.toList) e
    simp only [join_cons3, L2.join_one] at e'
    exact absurd (by rw [e']; simp) (ha a (by simp))
  | a :: a' :: r, [b], _, _, _, hb, e => by
    have e' := congrArg (fun z => z.cps.toList) e
    simp only [join_cons3, L2.join_one] at e'
    exact absurd (by rw [← e']; simp) (hb b (by simp))
  | a :: a' :: r, b :: b' :: r', _, _, ha, hb, e => by
    have e' := congrArg (fun z => z.cps.toList) e
    simp only [join_cons3] at e'
    obtain ⟨e1, e2⟩ := sep_inj (ha a (by simp)) (hb b (by simp)) e'
    have := join_inj2 (as := a' :: r) (bs := b' :: r') (by simp) (by simp) (fun x hx => ha x (List.mem_cons_of_mem _ hx)) (fun x hx => hb x (List.mem_cons_of_mem _ hx)) (str_ext (List.cons.inj e2).2)
    rw [str_ext e1, this]
theorem rows_join {rows : List Str} (h : rows ≠ []) (hb : ∀ x ∈ rows, 59 ∉ x.cps.toList) : Txt.split (Txt.join "; " rows) "; " = rows := by
  rw [join_eq]
  have hj : Str.join "; " (Txt.split (Str.join "; " rows) "; ") = Str.join "; " rows := StrLaws.join_split _ _
  refine (join_inj2 h ?_ hb ?_ hj.symm).symm
  · intro q
    have := PyProof.Rows.split_pos (Str.join "; " rows) "; "
    rw [q] at this
    simp at this
  · refine free_parts ?_ ?_
    · rw [hj]; exact G2.join hb
    · rw [semi_is]; exact split_no2 _
section
variable {P : Program} {w : World} {K : PySem.W.Frag} {mg : Str → Option Value} {base : Heap} {t : Adr}


/-! ### rows of lets, bare parts and dones -/
end
inductive Ev where
  | lt (a b : Str)
  | pt (n : Str)
  | dn
def Ev.ws : Ev → List Str
  | .lt a b => ["let", a, "be", b]
  | .pt n => ["part", n]
  | .dn => ["done"]
def rowW (ws : List Str) : Str := Txt.join " " ws
def Ev.row (e : Ev) : Str := rowW e.ws
def Ev.ok : Ev → Prop
  | .lt a b => nameB a = true ∧ nameB b = true
  | .pt n => nameB n = true
  | .dn => True
theorem name_nb {x : Str} (h : nameB x = true) : 32 ∉ x.cps.toList := (name_good h).2.2.nb
theorem kept_nb : ∀ x ∈ (["let", "be", "part", "done", "parties", "acts", "calm", "sore", "end"] : List Str), 32 ∉ x.cps.toList ∧ 59 ∉ x.cps.toList ∧ x.length ≤ 7 := by decide +kernel
theorem Ev.nb {e : Ev} (h : e.ok) : ∀ x ∈ e.ws, 32 ∉ x.cps.toList := by
  intro x hx
  cases e with
  | lt a b =>
    simp only [Ev.ws, List.mem_cons, List.not_mem_nil, or_false] at hx
    rcases hx with rfl | rfl | rfl | rfl
    · exact (kept_nb _ (by simp)).1
    · exact name_nb h.1
    · exact (kept_nb _ (by simp)).1
    · exact name_nb h.2
  | pt n =>
    simp only [Ev.ws, List.mem_cons, List.not_mem_nil, or_false] at hx
    rcases hx with rfl | rfl
    · exact (kept_nb _ (by simp)).1
    · exact name_nb h
  | dn =>
    simp only [Ev.ws, List.mem_cons, List.not_mem_nil, or_false] at hx
    rw [hx]; exact (kept_nb _ (by simp)).1
theorem Ev.spl {e : Ev} (h : e.ok) : spl e.row = e.ws := spl_join (by cases e <;> simp [Ev.ws]) (Ev.nb h)
theorem done_row : Ev.row .dn = "done" := by decide +kernel
theorem Ev.not_done {e : Ev} (h : e.ok) (hn : e.ws.length ≠ 1) : ¬ e.row = "done" := fun q => by
  have e1 := Ev.spl h
  have e2 : My.spl (Ev.row .dn) = (["done"] : List Str) := Ev.spl (e := .dn) True.intro
  rw [q, ← done_row, e2] at e1
  exact hn (by rw [← e1]; rfl)
theorem rts_let {a b : Str} (ha : nameB a = true) (hb : nameB b = true) : Rts [10, 0, 11, 0] ["let", a, "be", b] := .cons (.inr (.inr (.inr ⟨by decide, rfl⟩))) (.cons (.inl ⟨rfl, ha⟩) (.cons (.inr (.inr (.inr ⟨by decide, rfl⟩))) (.cons (.inl ⟨rfl, hb⟩) .nil)))
theorem rts_part {n : Str} (h : nameB n = true) : Rts [12, 0] ["part", n] := .cons (.inr (.inr (.inr ⟨by decide, rfl⟩))) (.cons (.inl ⟨rfl, h⟩) .nil)
theorem take_lt {fr : List Fr} {ls : List Str} {a b : Str} (ha : nameB a = true) (hb : nameB b = true) : takeO fr ls (Ev.row (.lt a b)) = some (push fr (.lt a b), ls) := by
  have r := rts_let ha hb
  have hok : (Ev.lt a b).ok := ⟨ha, hb⟩
  have f5 : partO ["let", a, "be", b] = none := by
    unfold partO
    rw [if_neg (no_fit (r.take 2) pok.2.2.2.2.2 forms_ok.2.2.2.2.2 (by decide))]
  have f6 : clauseO ["let", a, "be", b] = none := by
    unfold clauseO
    rw [if_neg (no_fit r pok.1 forms_ok.1 (by decide)), if_neg (no_fit r pok.2.1 forms_ok.2.1 (by decide)), if_neg (no_fit r pok.2.2.1 forms_ok.2.2.1 (by decide)), if_neg (no_fit r pok.2.2.2.1 forms_ok.2.2.2.1 (by decide))]
  have f7 : letO ["let", a, "be", b] = some (a, b) := by
    unfold letO
    rw [if_pos (yes_fit r pok.2.2.2.2.1 forms_ok.2.2.2.2.1 (by decide))]
    rfl
  unfold takeO
  rw [if_neg (Ev.not_done hok (by simp [Ev.ws])), Ev.spl hok, show (Ev.lt a b).ws = (["let", a, "be", b] : List Str) from rfl, f5]
  dsimp only
  rw [f6]
  dsimp only
  rw [f7]
theorem take_pt {fr : List Fr} {ls : List Str} {n : Str} (h : nameB n = true) : takeO fr ls (Ev.row (.pt n)) = if fr.length = 7 ∨ n ∈ ls then none else some ((n, [], []) :: fr, ls ++ [n]) := by
  have r := rts_part h
  have hok : (Ev.pt n).ok := h
  have f5 : partO ["part", n] = some (n, []) := by
    unfold partO
    rw [if_pos (yes_fit (r.take 2) pok.2.2.2.2.2 forms_ok.2.2.2.2.2 (by decide)), if_pos (show (["part", n] : List Str).length = 2 from rfl)]
    rfl
  unfold takeO
  rw [if_neg (Ev.not_done hok (by simp [Ev.ws])), Ev.spl hok, show (Ev.pt n).ws = (["part", n] : List Str) from rfl, f5]
theorem take_dn {ls : List Str} {f g : Fr} {fr : List Fr} : ∃ h, takeO (f :: g :: fr) ls (Ev.row .dn) = some (h :: fr, ls) := by
  obtain ⟨n, rs, rows⟩ := f
  obtain ⟨n2, rs2, rows2⟩ := g
  refine ⟨(n2, rs2, rows2 ++ [.pt n rs rows]), ?_⟩
  unfold takeO
  rw [if_pos done_row]
/-- the first row beyond a bound, among rows behind the header: the row's number, the open parts -/
def bey : Nat → Nat → List Ev → Option Nat
  | _, _, [] => none
  | i, d, e :: r => if i = 90 then some i else match e with
    | .lt _ _ => bey (i + 1) d r
    | .pt _ => if d = 6 then some i else bey (i + 1) (d + 1) r
    | .dn => bey (i + 1) (d - 1) r
def wf : Nat → List Ev → Prop
  | d, [] => d = 0
  | d, .lt _ _ :: r => wf d r
  | d, .pt _ :: r => wf (d + 1) r
  | d, .dn :: r => 0 < d ∧ wf (d - 1) r
def labs : List Ev → List Str
  | [] => []
  | .pt n :: r => n :: labs r
  | _ :: r => labs r
theorem push_len {fr : List Fr} {r : Rw} : (push fr r).length = fr.length := by
  cases fr with
  | nil => rfl
  | cons f fr => obtain ⟨a, b, c⟩ := f; rfl
theorem body_ev : ∀ {evs : List Ev} {i d : Nat} {fr : List Fr} {ls : List Str}, (∀ e ∈ evs, e.ok) → wf d evs → fr.length = d + 1 → d ≤ 6 → (ls ++ labs evs).Nodup →
    (∀ n, bey i d evs = some n → bodyR i (evs.map Ev.row) fr ls = .error n) ∧ (bey i d evs = none → ∃ f, bodyR i (evs.map Ev.row) fr ls = .ok [f])
  | [], i, d, fr, ls, _, hw, hf, hd, _ => by
    refine ⟨fun n h => by simp [bey] at h, fun _ => ?_⟩
    have : d = 0 := hw
    match fr, hf with
    | [f], _ => exact ⟨f, rfl⟩
    | _ :: _ :: _, hf => simp only [List.length_cons] at hf; omega
  | e :: r, i, d, fr, ls, ho, hw, hf, hd, hn => by
    have ho' := fun x hx => ho x (List.mem_cons_of_mem _ hx)
    have he := ho e List.mem_cons_self
    rw [List.map_cons, bodyR]
    by_cases h90 : i = 90
    · simp only [bey, h90, if_true]
      refine ⟨fun n h => by cases h; rfl, fun h => by cases h⟩
    rw [if_neg h90]
    simp only [bey, if_neg h90]
    cases e with
    | lt a b =>
      rw [take_lt he.1 he.2]
      exact body_ev ho' hw (by rw [push_len]; exact hf) hd hn
    | pt n =>
      rw [take_pt he]
      dsimp only
      have hnl : n ∉ ls := fun z => by
        rw [show labs (.pt n :: r) = n :: labs r from rfl, List.nodup_append] at hn
        exact hn.2.2 n z n List.mem_cons_self rfl
      by_cases h6 : d = 6
      · rw [if_pos h6, if_pos (show fr.length = 7 ∨ n ∈ ls from .inl (by omega))]
        refine ⟨fun m h => by cases h; rfl, fun h => by cases h⟩
      · rw [if_neg h6, if_neg (show ¬ (fr.length = 7 ∨ n ∈ ls) from fun z => z.elim (fun z => by omega) hnl)]
        refine body_ev ho' hw (by simp only [List.length_cons]; omega) (by omega) ?_
        rw [List.append_assoc]
        exact hn
    | dn =>
      have hw' : 0 < d ∧ wf (d - 1) r := hw
      match fr, hf with
      | [f], hf => simp only [List.length_cons, List.length_nil] at hf; omega
      | f :: g :: fr', hf =>
        obtain ⟨h, eh⟩ := take_dn (ls := ls) (f := f) (g := g) (fr := fr')
        rw [eh]
        exact body_ev ho' hw'.2 (by simp only [List.length_cons] at hf ⊢; omega) (by omega) hn
section
variable {P : Program} {w : World} {K : PySem.W.Frag} {mg : Str → Option Value} {base : Heap} {t : Adr}


/-! ### the header, and the first row beyond a bound -/
end
def markL : List Str := ["calm", "sore", "end"]
def fbL : Nat → Int → Int → List Str → Option Nat
  | _, _, _, [] => none
  | k, d, m, x :: r =>
    let u := wd (spl x) 0
    let m' := m + (if u ∈ markL then 1 else 0)
    let d' := d + (if u = "part" then 1 else 0) - (if u = "done" then 1 else 0)
    if d' > 6 ∨ m' > 12 ∨ k = 90 then some k else fbL (k + 1) d' m' r
def fbF (rows : List Str) : Option Nat := if (spl (wd rows 0)).length > 5 then some 0 else if (spl (wd rows 1)).length > 7 then some 1 else fbL 0 0 0 rows
structure Hdr (ps as : List Str) (rms : List (Str × Str)) : Prop where
  p1 : 1 ≤ ps.length
  p2 : ps.length ≤ 5
  a1 : 1 ≤ as.length
  a2 : as.length ≤ 7
  r1 : 1 ≤ rms.length
  r2 : rms.length ≤ 13
  pn : ∀ x ∈ ps, nameB x = true
  an : ∀ x ∈ as, nameB x = true
  rn : ∀ mn ∈ rms, RmOk mn
  nd : (ps ++ as ++ rms.map (·.2)).Nodup
def rmRow (mn : Str × Str) : Str := rowW [mn.1, mn.2]
def rowsOf (ps as : List Str) (rms : List (Str × Str)) (evs : List Ev) : List Str := rowW ("parties" :: ps) :: rowW ("acts" :: as) :: (rms.map rmRow ++ evs.map Ev.row)
theorem spl_head {x : Str} {ns : List Str} (hx : x ∈ (["parties", "acts"] : List Str)) (hn : ∀ y ∈ ns, nameB y = true) : spl (rowW (x :: ns)) = x :: ns := by
  refine spl_join (by simp) fun y hy => ?_
  (rcases List.mem_cons.mp hy with rfl | hy)
  · simp only [List.mem_cons, List.not_mem_nil, or_false] at hx
    rcases hx with rfl | rfl
    · exact (kept_nb _ (by simp)).1
    · exact (kept_nb _ (by simp)).1
  · exact name_nb (hn y hy)
theorem all_names {ns : List Str} (hn : ∀ y ∈ ns, nameB y = true) : ns.all nameB = true := List.all_eq_true.mpr hn
theorem namesO_head {x : Str} {ns : List Str} {m : Int} (h1 : 1 ≤ ns.length) (hn : ∀ y ∈ ns, nameB y = true) : namesO (x :: ns) x m = if (ns.length : Int) ≤ m then ns else [] := by
  unfold namesO areN
  rw [List.drop_one, List.tail_cons, all_names hn, decide_eq_true h1, show wd (x :: ns) 0 = x from rfl]
  by_cases q : (ns.length : Int) ≤ m
  · rw [decide_eq_true q, if_pos q, if_neg (by simp)]
  · rw [decide_eq_false q, if_neg q, if_pos (by simp)]
theorem mark_nb : ∀ x ∈ ks_MARKS, 32 ∉ x.cps.toList ∧ 59 ∉ x.cps.toList ∧ x.length ≤ 4 ∧ x ∈ markL ∧ x ≠ "part" ∧ x ≠ "done" := by decide +kernel
theorem spl_rm {mn : Str × Str} (h : RmOk mn) : spl (rmRow mn) = [mn.1, mn.2] := by
  refine spl_join (by simp) fun y hy => ?_
  simp only [List.mem_cons, List.not_mem_nil, or_false] at hy
  rcases hy with rfl | rfl
  · exact (mark_nb _ h.1).1
  · exact name_nb h.2
theorem roomO_rm {mn : Str × Str} (h : RmOk mn) : roomO (spl (rmRow mn)) = some mn := by
  rw [spl_rm h]
  unfold roomO
  rw [if_pos ⟨rfl, by rw [in_strs]; exact decide_eq_true h.1, h.2⟩]
  rfl
theorem roomO_ev {e : Ev} (h : e.ok) : roomO (spl e.row) = none := by
  rw [Ev.spl h]
  unfold roomO
  refine if_neg fun q => ?_
  cases e with
  | lt a b => exact absurd q.1 (by simp [Ev.ws])
  | dn => exact absurd q.1 (by simp [Ev.ws])
  | pt n =>
    have := q.2.1
    rw [in_strs] at this
    have z : ("part" : Str) ∈ ks_MARKS := of_decide_eq_true this
    exact absurd z (by decide +kernel)
theorem rooms_run {taken : List Str} {evs : List Ev} (he : ∀ e ∈ evs, e.ok) : ∀ {rms found : List (Str × Str)}, (∀ mn ∈ rms, RmOk mn) → (taken ++ (found ++ rms).map (·.2)).Nodup → found ++ rms ≠ [] → found.length ≤ 12 →
    roomsR taken found (rms.map rmRow ++ evs.map Ev.row) = if found.length + rms.length ≤ 12 then .ok (found ++ rms) else .error 14
  | [], found, _, _, hne, hf => by
    rw [List.append_nil] at hne
    rw [List.map_nil, List.nil_append, List.length_nil, Nat.add_zero, if_pos hf, List.append_nil]
    cases evs with
    | nil => simp only [List.map_nil, roomsR, if_neg hne]
    | cons e r =>
      rw [List.map_cons, roomsR, roomO_ev (he e List.mem_cons_self)]
      dsimp only
      rw [if_neg hne]
  | mn :: r, found, hr, hnd, hne, hf => by
    have e : found ++ mn :: r = (found ++ [mn]) ++ r := by simp
    rw [e] at hnd hne
    rw [List.map_cons, List.cons_append, roomsR, roomO_rm (hr mn List.mem_cons_self)]
    dsimp only
    have hnd1 : (taken ++ (found ++ [mn]).map (·.2)).Nodup := by
      rw [List.map_append, ← List.append_assoc] at hnd
      exact (List.nodup_append.mp hnd).1
    by_cases q : found.length = 12
    · rw [if_pos (.inl q), if_neg (by simp only [List.length_cons]; omega), q]
    · rw [if_neg (fun z => z.elim q (fun z => z hnd1)), rooms_run he (fun x hx => hr x (List.mem_cons_of_mem _ hx)) hnd hne (by rw [List.length_append]; simp only [List.length_cons, List.length_nil]; omega), e]
      simp only [List.length_append, List.length_cons, List.length_nil]
      rw [show found.length + (0 + 1) + r.length = found.length + (r.length + 1) by omega]
theorem fb_ev : ∀ {evs : List Ev} {i d : Nat} {m : Int}, (∀ e ∈ evs, e.ok) → wf d evs → d ≤ 6 → m ≤ 12 → fbL i d m (evs.map Ev.row) = bey i d evs
  | [], i, d, _, _, _, _, _ => rfl
  | e :: r, i, d, m, ho, hw, hd, hm => by
    have ho' := fun x hx => ho x (List.mem_cons_of_mem _ hx)
    have he := ho e List.mem_cons_self
    rw [List.map_cons, fbL, Ev.spl he]
    try dsimp only
    have nl : ("let" : Str) ∉ markL ∧ ¬ ("let" : Str) = "part" ∧ ¬ ("let" : Str) = "done" ∧ ("part" : Str) ∉ markL ∧ ¬ ("part" : Str) = "done" ∧ ("done" : Str) ∉ markL ∧ ¬ ("done" : Str) = "part" := by decide +kernel
    by_cases h90 : i = 90
    · rw [if_pos (.inr (.inr h90))]
      simp only [bey, h90, if_true]
    simp only [bey, if_neg h90]
    cases e with
    | lt a b =>
      rw [show wd (Ev.lt a b).ws 0 = ("let" : Str) from rfl, if_neg nl.1, if_neg nl.2.1, if_neg nl.2.2.1, Int.add_zero, Int.add_zero, Int.sub_zero, if_neg (by omega)]
      exact fb_ev ho' hw hd hm
    | pt n =>
      rw [show wd (Ev.pt n).ws 0 = ("part" : Str) from rfl, if_neg nl.2.2.2.1, if_pos rfl, if_neg nl.2.2.2.2.1, Int.add_zero, Int.sub_zero]
      dsimp only
      by_cases h6 : d = 6
      · rw [if_pos (.inl (by omega)), if_pos h6]
      · rw [if_neg (by omega), if_neg h6, show (d : Int) + 1 = ((d + 1 : Nat) : Int) by omega]
        exact fb_ev ho' hw (by omega) hm
    | dn =>
      have hw' : 0 < d ∧ wf (d - 1) r := hw
      rw [show wd (Ev.dn).ws 0 = ("done" : Str) from rfl, if_neg nl.2.2.2.2.2.1, if_neg nl.2.2.2.2.2.2, if_pos rfl, Int.add_zero, Int.add_zero, if_neg (by omega), show (d : Int) - 1 = ((d - 1 : Nat) : Int) by omega]
      exact fb_ev ho' hw'.2 (by omega) hm
theorem fb_rooms {evs : List Ev} (he : ∀ e ∈ evs, e.ok) (hw : wf 0 evs) : ∀ {rms : List (Str × Str)} {j : Nat}, (∀ mn ∈ rms, RmOk mn) → j ≤ 12 → fbL (2 + j) 0 j (rms.map rmRow ++ evs.map Ev.row) = if j + rms.length ≤ 12 then bey (2 + (j + rms.length)) 0 evs else some 14
  | [], j, _, hj => by
    rw [List.map_nil, List.nil_append, List.length_nil, Nat.add_zero, if_pos hj]
    exact fb_ev (d := 0) he hw (by decide) (by omega)
  | mn :: r, j, hr, hj => by
    have h := hr mn List.mem_cons_self
    have hm := mark_nb _ h.1
    rw [List.map_cons, List.cons_append, fbL, spl_rm h]
    try dsimp only
    rw [show wd [mn.1, mn.2] 0 = mn.1 from rfl, if_pos hm.2.2.2.1, if_neg hm.2.2.2.2.1, if_neg hm.2.2.2.2.2, Int.add_zero, Int.sub_zero]
    by_cases q : j = 12
    · rw [if_pos (.inr (.inl (by omega))), if_neg (by simp only [List.length_cons]; omega), q]
    · rw [if_neg (by omega), show (j : Int) + 1 = ((j + 1 : Nat) : Int) by omega, show 2 + j + 1 = 2 + (j + 1) by omega, fb_rooms he hw (fun x hx => hr x (List.mem_cons_of_mem _ hx)) (by omega)]
      simp only [List.length_cons]
      rw [show j + 1 + r.length = j + (r.length + 1) by omega]
theorem core27 {ps as : List Str} {rms : List (Str × Str)} {evs : List Ev} (h : Hdr ps as rms) (he : ∀ e ∈ evs, e.ok) (hw : wf 0 evs) (hl : (labs evs).Nodup) :
    (∀ n, fbF (rowsOf ps as rms evs) = some n → readR (rowsOf ps as rms evs) = .error n) ∧ (fbF (rowsOf ps as rms evs) = none → ∃ r, readR (rowsOf ps as rms evs) = .ok r) := by
  have e0 : spl (wd (rowsOf ps as rms evs) 0) = ("parties" : Str) :: ps := spl_head (by simp) h.pn
  have e1 : spl (wd (rowsOf ps as rms evs) 1) = ("acts" : Str) :: as := spl_head (by simp) h.an
  have hlen : (rowsOf ps as rms evs).length = 2 + rms.length + evs.length := by unfold rowsOf; simp only [List.length_cons, List.length_append, List.length_map]; omega
  have hP : namesO ("parties" :: ps) "parties" 4 = if (ps.length : Int) ≤ 4 then ps else [] := namesO_head h.p1 h.pn
  have hA : namesO ("acts" :: as) "acts" 6 = if (as.length : Int) ≤ 6 then as else [] := namesO_head h.a1 h.an
  have nd := h.nd
  have nd2 : (ps ++ as).Nodup := (List.nodup_append.mp nd).1
  have nd1 : ps.Nodup := (List.nodup_append.mp nd2).1
  have nps : ps ≠ [] := fun z => by have := h.p1; rw [z] at this; simp at this
  have nas : as ≠ [] := fun z => by have := h.a1; rw [z] at this; simp at this
  have nrm : rms ≠ [] := fun z => by have := h.r1; rw [z] at this; simp at this
  have h1 := h.p1; have h2 := h.p2; have h3 := h.a1; have h4 := h.a2; have h5 := h.r1; have h6 := h.r2
  unfold fbF
  rw [e0, e1]
  simp only [List.length_cons]
  have hn0 : namesR (rowsOf ps as rms evs) 0 "parties" 4 [] = if ps.length ≤ 4 then some ps else none := by
    unfold namesR
    rw [if_neg (by omega), e0]
    try dsimp only
    rw [hP]
    by_cases q : ps.length ≤ 4
    · rw [if_pos (show (ps.length : Int) ≤ 4 by omega), if_pos q, if_neg (fun z => z.elim nps (fun z => z (by simpa using nd1)))]
    · rw [if_neg (show ¬ (ps.length : Int) ≤ 4 by omega), if_neg q, if_pos (.inl rfl)]
  by_cases q0 : ps.length + 1 > 5
  · rw [if_pos q0]
    refine ⟨fun n z => ?_, fun z => by cases z⟩
    cases z
    unfold readR
    rw [hn0, if_neg (by omega)]
  rw [if_neg q0]
  rw [if_pos (by omega)] at hn0
  have hn1 : namesR (rowsOf ps as rms evs) 1 "acts" 6 ps = if as.length ≤ 6 then some as else none := by
    unfold namesR
    rw [if_neg (by omega), e1]
    try dsimp only
    rw [hA]
    by_cases q : as.length ≤ 6
    · rw [if_pos (show (as.length : Int) ≤ 6 by omega), if_pos q, if_neg (fun z => z.elim nas (fun z => z nd2))]
    · rw [if_neg (show ¬ (as.length : Int) ≤ 6 by omega), if_neg q, if_pos (.inl rfl)]
  by_cases q1 : as.length + 1 > 7
  · rw [if_pos q1]
    refine ⟨fun n z => ?_, fun z => by cases z⟩
    cases z
    unfold readR
    rw [hn0]
    try dsimp only
    rw [hn1, if_neg (by omega)]
  rw [if_neg q1]
  rw [if_pos (by omega)] at hn1
  have np : ("parties" : Str) ∉ markL ∧ ¬ ("parties" : Str) = "part" ∧ ¬ ("parties" : Str) = "done" ∧ ("acts" : Str) ∉ markL ∧ ¬ ("acts" : Str) = "part" ∧ ¬ ("acts" : Str) = "done" := by decide +kernel
  have hfb : fbL 0 0 0 (rowsOf ps as rms evs) = if rms.length ≤ 12 then bey (2 + rms.length) 0 evs else some 14 := by
    have e0' : spl (rowW ("parties" :: ps)) = ("parties" : Str) :: ps := e0
    have e1' : spl (rowW ("acts" :: as)) = ("acts" : Str) :: as := e1
    unfold rowsOf
    rw [fbL, e0']
    try dsimp only
    rw [show wd ("parties" :: ps) 0 = ("parties" : Str) from rfl, if_neg np.1, if_neg np.2.1, if_neg np.2.2.1, if_neg (by omega), fbL, e1']
    try dsimp only
    rw [show wd ("acts" :: as) 0 = ("acts" : Str) from rfl, if_neg np.2.2.2.1, if_neg np.2.2.2.2.1, if_neg np.2.2.2.2.2, if_neg (by omega)]
    have := fb_rooms (j := 0) he hw h.rn (by decide)
    simpa using this
  have hrr : roomsR (ps ++ as) [] ((rowsOf ps as rms evs).drop 2) = if rms.length ≤ 12 then .ok rms else .error 14 := by
    have := rooms_run (taken := ps ++ as) (evs := evs) he (rms := rms) (found := []) h.rn (by simpa using nd) (by simpa using nrm) (by decide)
    simpa [rowsOf] using this
  rw [hfb]
  by_cases q2 : rms.length ≤ 12
  · rw [if_pos q2] at hrr ⊢
    have hdrop : (rowsOf ps as rms evs).drop (2 + rms.length) = evs.map Ev.row := by
      unfold rowsOf
      rw [show 2 + rms.length = rms.length + 1 + 1 by omega, List.drop_succ_cons, List.drop_succ_cons]
      rw [show rms.length = (rms.map rmRow).length by rw [List.length_map], List.drop_left]
    obtain ⟨b1, b2⟩ := body_ev (i := 2 + rms.length) (d := 0) (fr := [("whole", [], [])]) (ls := []) he hw rfl (by decide) (by simpa using hl)
    constructor
    · intro n z
      unfold readR
      rw [hn0]
      try dsimp only
      rw [hn1]
      try dsimp only
      rw [hrr]
      try dsimp only
      unfold wholeR
      rw [hdrop, b1 n z]
      rfl
    · intro z
      obtain ⟨f, ef⟩ := b2 z
      obtain ⟨fa, fb, fc⟩ := f
      refine ⟨(ps, as, rms, .pt fa fb fc), ?_⟩
      unfold readR
      rw [hn0]
      try dsimp only
      rw [hn1]
      try dsimp only
      rw [hrr]
      try dsimp only
      unfold wholeR
      rw [hdrop, ef]
      rfl
  · rw [if_neg q2] at hrr ⊢
    refine ⟨fun n z => ?_, fun z => by cases z⟩
    cases z
    unfold readR
    rw [hn0]
    try dsimp only
    rw [hn1]
    try dsimp only
    rw [hrr]
section
variable {P : Program} {w : World} {K : PySem.W.Frag} {mg : Str → Option Value} {base : Heap} {t : Adr}


/-! ### the law: a text read, and what is caught -/
end
theorem boot_VE : bootBuiltins (Str.ofString "ValueError") = some (Value.type "ValueError") := by kernel_rfl
def spNoT (t : Adr) : Sp := fun vs H Q _ => ∃ (a : Addr) (n : Int), vs = [.ref a] ∧ XOk H a t.c_NoText [("row", .int n)] ∧ Q (.bl true) H
def ehRd (t : Adr) (rows : List Str) (H : Hp) : XK := fun c o H' => ∃ n : Nat, readR rows = .error n ∧ ehT t n H c o H'
def spRef : Sp := fun vs H Q _ => ∃ (x : Str), vs = [.str x] ∧ x.length ≤ 60000 ∧ RowsOk (Txt.split x "; ") ∧ (∀ r H', readR (Txt.split x "; ") = .ok r → Same H H' → Q .non H') ∧ ∀ (n : Nat) H', readR (Txt.split x "; ") = .error n → Same H H' → Q (.int n) H'
def spFB (K : PySem.W.Frag) : Sp := fun vs H Q _ => ∃ (l : Addr) (rows : List Str), vs = [.ref l] ∧ SqL K H l (rows.map V.str) ∧ 2 ≤ rows.length ∧ RowsOk rows ∧ ∀ H', Same H H' → (fbF rows = none → Q .non H') ∧ ∀ n : Nat, fbF rows = some n → Q (.int n) H'
section
variable {P : Program} {w : World} {K : PySem.W.Frag} {mg : Str → Option Value} {base : Heap} {t : Adr}
theorem sc_w_no_text : FnScope ["_law_e"] ["_law_e"] (defScope s_w_no_text) := ⟨rfl, rfl, rfl, by decide +kernel, rfl, by decide +kernel, by decide +kernel⟩
set_option maxHeartbeats 400000 in
theorem ok_w_no_text (T : Txt K mg t) : FnOk P w K mg base CX0 1 t.f_w_no_text t.d_w_no_text ["_law_e"] (spNoT t) := by
  refine T.w_no_text.fn.ok sc_w_no_text (fun vs H Q E h => (by obtain ⟨_, _, rfl, _⟩ := h; rfl)) (fun cdv A outer s H vs Q E hr h => ?_)
  obtain ⟨a, n, rfl, hx, k⟩ := h
  refine ⟨_, (pss_cons (ps_if (PW.pt (pw_or (pt_val (pe_callB (call_isinstX (K := K) rfl) rfl T.b_isinstance PyProof.Rows.boot_isinstance (pa_cons (pv 0) (pa_cons (pe_glob rfl T.m_NoName (v := .ref t.c_NoName) rfl) pa_nil)))) (pw_or (pt_val (pe_callB (call_isinstX (K := K) rfl) rfl T.b_isinstance PyProof.Rows.boot_isinstance (pa_cons (pv 0) (pa_cons (pe_glob rfl T.m_CalmRoom (v := .ref t.c_CalmRoom) rfl) pa_nil)))) (pw_or (pt_val (pe_callB (call_isinstX (K := K) rfl) rfl T.b_isinstance PyProof.Rows.boot_isinstance (pa_cons (pv 0) (pa_cons (pe_glob rfl T.m_NoDeed (v := .ref t.c_NoDeed) rfl) pa_nil)))) (pw_or1 (pt_val (pe_callB (call_isinstX (K := K) rfl) rfl T.b_isinstance PyProof.Rows.boot_isinstance (pa_cons (pv 0) (pa_cons (pe_glob rfl T.m_TooMany (v := .ref t.c_TooMany) rfl) pa_nil)))))))))
        (pss_one (ps_ret pe_bl)) pss_nil)
      (pss_cons (ps_if (PW.pt (pw_or (pt_val (pe_callB (call_isinstX (K := K) rfl) rfl T.b_isinstance PyProof.Rows.boot_isinstance (pa_cons (pv 0) (pa_cons (pe_glob rfl T.m_Breach (v := .ref t.c_Breach) rfl) pa_nil)))) (pw_or (pt_val (pe_callB (call_isinstX (K := K) rfl) rfl T.b_isinstance PyProof.Rows.boot_isinstance (pa_cons (pv 0) (pa_cons (pe_glob rfl T.m_NoStand (v := .ref t.c_NoStand) rfl) pa_nil)))) (pw_or1 (pt_val (pe_callB (call_isinstX (K := K) rfl) rfl T.b_isinstance PyProof.Rows.boot_isinstance (pa_cons (pv 0) (pa_cons (pe_glob rfl T.m_NoPair (v := .ref t.c_NoPair) rfl) pa_nil))))))))
        (pss_one (ps_ret pe_bl)) pss_nil)
      (pss_cons (ps_if (PW.pt (pw_or (pt_val (pe_callB (call_isinstX (K := K) rfl) rfl T.b_isinstance PyProof.Rows.boot_isinstance (pa_cons (pv 0) (pa_cons (pe_glob rfl T.m_NoChange (v := .ref t.c_NoChange) rfl) pa_nil)))) (pw_or (pt_val (pe_callB (call_isinstX (K := K) rfl) rfl T.b_isinstance PyProof.Rows.boot_isinstance (pa_cons (pv 0) (pa_cons (pe_glob rfl T.m_NoRow (v := .ref t.c_NoRow) rfl) pa_nil)))) (pw_or1 (pt_not (pt_val (pe_callB (call_isinstX (K := K) rfl) rfl T.b_isinstance PyProof.Rows.boot_isinstance (pa_cons (pv 0) (pa_cons (pe_bltn rfl T.b_ValueError boot_VE (v := .ty "ValueError") rfl) pa_nil)))))))))
        (pss_one (ps_ret pe_bl)) pss_nil)
      (pss_one (ps_ret (pe_and (pe_callB (call_isinstX (K := K) rfl) rfl T.b_isinstance PyProof.Rows.boot_isinstance (pa_cons (pv 0) (pa_cons (pe_glob rfl T.m_NoText (v := .ref t.c_NoText) rfl) pa_nil))) (pe_and (pe_callB (callK_isinst (K := K) rfl) rfl T.b_isinstance PyProof.Rows.boot_isinstance (pa_cons (pe_xfld (K := K) rfl (pv 0) rfl) (pa_cons (pe_bltn rfl T.b_int PyProof.Rows.boot_int (v := .ty "int") rfl) pa_nil))) (pe_one (pe_not (pe_callB (callK_isinst (K := K) rfl) rfl T.b_isinstance PyProof.Rows.boot_isinstance (pa_cons (pe_xfld (K := K) rfl (pv 0) rfl) (pa_cons (pe_bltn rfl T.b_bool PyProof.Rows.boot_bool (v := .ty "bool") rfl) pa_nil)))))))))))), ?_⟩
  have ty := T.xty_NoText
  refine ⟨_, rfl, a, _, _, _, _, rfl, .inr ⟨_, rfl⟩, hx, ty, T.ki_NoText_NoName, _, rfl, iteF ?_⟩
  refine ⟨_, rfl, a, _, _, _, _, rfl, .inr ⟨_, rfl⟩, hx, ty, T.ki_NoText_CalmRoom, _, rfl, iteF ?_⟩
  refine ⟨_, rfl, a, _, _, _, _, rfl, .inr ⟨_, rfl⟩, hx, ty, T.ki_NoText_NoDeed, _, rfl, iteF ?_⟩
  refine ⟨_, rfl, a, _, _, _, _, rfl, .inr ⟨_, rfl⟩, hx, ty, T.ki_NoText_TooMany, _, rfl, iteF ?_⟩
  refine ⟨_, rfl, a, _, _, _, _, rfl, .inr ⟨_, rfl⟩, hx, ty, T.ki_NoText_Breach, _, rfl, iteF ?_⟩
  refine ⟨_, rfl, a, _, _, _, _, rfl, .inr ⟨_, rfl⟩, hx, ty, T.ki_NoText_NoStand, _, rfl, iteF ?_⟩
  refine ⟨_, rfl, a, _, _, _, _, rfl, .inr ⟨_, rfl⟩, hx, ty, T.ki_NoText_NoPair, _, rfl, iteF ?_⟩
  refine ⟨_, rfl, a, _, _, _, _, rfl, .inr ⟨_, rfl⟩, hx, ty, T.ki_NoText_NoChange, _, rfl, iteF ?_⟩
  refine ⟨_, rfl, a, _, _, _, _, rfl, .inr ⟨_, rfl⟩, hx, ty, T.ki_NoText_NoRow, _, rfl, iteF ?_⟩
  refine ⟨_, rfl, a, _, _, _, _, rfl, .inl ⟨_, rfl⟩, hx, ty, T.ki_NoText_ValueError, _, rfl, ?_⟩
  walk_at "rd"
  refine ⟨a, _, _, _, _, rfl, .inr ⟨_, rfl⟩, hx, ty, T.ki_NoText_NoText, ?_⟩
  walk_at "rd"
  refine ⟨a, _, _, .int n, rfl, hx, ty, T.na_NoText_row, look_hit, ?_⟩
  walk_at "rd"
  refine ⟨a, _, _, .int n, rfl, hx, ty, T.na_NoText_row, look_hit, ?_⟩
  walk_at "rd"
  refine ⟨_, _, .type "int", false, rfl, .inl ⟨_, rfl⟩, TyOf.int _, T.ki_int_bool, ?_⟩
  walk_at "rd"
  exact k
theorem sc_w_refused_at : FnScope ["_law_text", "_law_caught", "_law_e"] ["_law_text"] (defScope s_w_refused_at) := ⟨rfl, rfl, rfl, by decide +kernel, rfl, by decide +kernel, by decide +kernel⟩
set_option maxHeartbeats 400000 in
theorem ok_w_refused_at (T : Txt K mg t) : FnOk P w K mg base CX0 10 t.f_w_refused_at t.d_w_refused_at ["_law_text"] spRef := by
  have G_w_no_text : FnOk P w K mg base CX0 9 t.f_w_no_text t.d_w_no_text ["_law_e"] (spNoT t) := (ok_w_no_text T).mono (by decide)
  have G_v_read : FnOk P w K mg base (CXE P w) 9 t.f_v_read t.d_v_read ["text"] (spRead t) := (ok_v_read T).mono (by decide)
  refine T.w_refused_at.fn.ok sc_w_refused_at (fun vs H Q E h => (by obtain ⟨_, rfl, _⟩ := h; rfl)) (fun cdv A outer s H vs Q E hr h => ?_)
  obtain ⟨x, rfl, hx, hR, k0, k1⟩ := h
  refine ⟨_, (pss_cons (ps_set (i := 1) sc_w_refused_at.nd rfl (Or.inl rfl) pe_non)
      (pss_cons (ps_try1 (Eh := (ehRd t (Txt.split x "; ") H)) (i := 2) (fun _ _ z => z) rfl rfl sc_w_refused_at.nd rfl rfl rfl T.m_PactError (pex_call (fun _ _ z => z) G_v_read hr rfl T.v_read.mg T.v_read.fn.kp T.v_read.bd .nil (pa_cons (pv 0) pa_nil))
      (fun aa => (pss_one (ps_set (i := 1) sc_w_refused_at.nd rfl (Or.inl rfl) (pv 2)))))
      (pss_cons (ps_if (pt_cmpR op_isN (pv 1) pe_non (nomark _))
        (pss_one (ps_ret pe_non)) pss_nil)
      (pss_cons (ps_if (pt_not (pt_val (pe_call G_w_no_text hr rfl T.w_no_text.mg T.w_no_text.fn.kp T.w_no_text.bd .nil pass0 (pa_cons (pv 1) pa_nil))))
        (pss_one (ps_ret (pe_un un_neg pe_int))) pss_nil)
      (pss_one (ps_ret (pe_xfld (K := K) rfl (pv 1) rfl))))))), ?_⟩
  refine ⟨?_, ?_⟩
  · refine ⟨_, rfl, x, rfl, hx, hR, fun n hN c o H' z => ⟨n, hN, z⟩, fun ps as rms rw p H' hS s' _ => ?_⟩
    walk_at "rd"
    exact k0 _ H' hS s'
  rintro C a H1 ⟨n, hN, a', ea, ec, s1, hx1⟩
  obtain rfl : a = a' := Option.some.inj ea
  obtain rfl : C = t.c_NoText := Value.ref.inj ec
  refine ⟨T.ex_NoText_PactError, ?_⟩
  walk_at "rd"
  exact ⟨a, _, _, .int n, rfl, hx1, T.xty_NoText, T.na_NoText_row, look_hit, k1 n H1 hN s1⟩
theorem sc_w_first_beyond : FnScope ["_law_rows", "_law_depth", "_law_rooms", "_law_k", "_law_word"] ["_law_rows"] (defScope s_w_first_beyond) := ⟨rfl, rfl, rfl, by decide +kernel, rfl, by decide +kernel, by decide +kernel⟩
set_option maxHeartbeats 400000 in
theorem ok_w_first_beyond (T : Txt K mg t) : FnOk P w K mg base CX0 1 t.f_w_first_beyond t.d_w_first_beyond ["_law_rows"] (spFB K) := by
  refine T.w_first_beyond.fn.ok sc_w_first_beyond (fun vs H Q E h => (by obtain ⟨_, _, rfl, _⟩ := h; rfl)) (fun cdv A outer s H vs Q E hr h => ?_)
  obtain ⟨l, rows, rfl, hL, h2, hR, k⟩ := h
  refine ⟨_, (pss_cons (ps_if (pt_cmpR op_gt (pe_callB (callK_len (K := K) rfl) rfl T.b_len PySem.boot_len (pa_cons (pe_bm PySem.F.plainAttrs_str PySem.F.slot_str_split PySem.F.type_str_split nm_split (pe_ix (ixK_list (K := K) rfl) (pv 0) pe_int (fun _ _ => rfl)) (pa_cons pe_str pa_nil)) pa_nil)) pe_int (nomark _))
        (pss_one (ps_ret pe_int)) pss_nil)
      (pss_cons (ps_if (pt_cmpR op_gt (pe_callB (callK_len (K := K) rfl) rfl T.b_len PySem.boot_len (pa_cons (pe_bm PySem.F.plainAttrs_str PySem.F.slot_str_split PySem.F.type_str_split nm_split (pe_ix (ixK_list (K := K) rfl) (pv 0) pe_int (fun _ _ => rfl)) (pa_cons pe_str pa_nil)) pa_nil)) pe_int (nomark _))
        (pss_one (ps_ret pe_int)) pss_nil)
      (pss_cons (ps_set (i := 1) sc_w_first_beyond.nd rfl (Or.inl rfl) pe_int)
      (pss_cons (ps_set (i := 2) sc_w_first_beyond.nd rfl (Or.inl rfl) pe_int)
      (pss_cons (ps_for PassesOwn.never rfl (pi_range1 rfl T.b_range (pa_cons (pe_callB (callK_len (K := K) rfl) rfl T.b_len PySem.boot_len (pa_cons (pv 0) pa_nil)) pa_nil)) (pg_name (i := 3) sc_w_first_beyond.nd rfl (Or.inl rfl))
        (pss_cons (ps_set (i := 4) sc_w_first_beyond.nd rfl (Or.inl rfl) (pe_ix (ixK_list (K := K) rfl) (pe_bm PySem.F.plainAttrs_str PySem.F.slot_str_split PySem.F.type_str_split nm_split (pe_ix (ixK_list (K := K) rfl) (pv 0) (pv 3) (fun _ _ => rfl)) (pa_cons pe_str pa_nil)) pe_int (fun _ _ => rfl)))
      (pss_cons (ps_set (i := 2) sc_w_first_beyond.nd rfl (Or.inl rfl) (pe_op op_add (pv 2) (pe_callTy call_int1 rfl T.b_int PyProof.Rows.boot_int (pa_cons (pe_cmpR (opK_in (K := K) rfl) (pv 4) (ne_lst (pa_cons pe_str (pa_cons pe_str (pa_cons pe_str pa_nil)))) rfl) pa_nil))))
      (pss_cons (ps_set (i := 1) sc_w_first_beyond.nd rfl (Or.inl rfl) (pe_op op_sub (pe_op op_add (pv 1) (pe_callTy call_int1 rfl T.b_int PyProof.Rows.boot_int (pa_cons (pe_cmpR op_eq (pv 4) pe_str (nomark _)) pa_nil))) (pe_callTy call_int1 rfl T.b_int PyProof.Rows.boot_int (pa_cons (pe_cmpR op_eq (pv 4) pe_str (nomark _)) pa_nil))))
      (pss_one (ps_if (PW.pt (pw_or (pt_cmpR op_gt (pv 1) pe_int (nomark _)) (pw_or (pt_cmpR op_gt (pv 2) pe_int (nomark _)) (pw_or1 (pt_cmpR op_eq (pv 3) pe_int (nomark _))))))
        (pss_one (ps_ret (pv 3))) pss_nil))))))
      (pss_one (ps_ret pe_non))))))), ?_⟩
  have w0 := hR.short _ (wd_mem (ws := rows) (i := 0) (by omega))
  have w1 := hR.short _ (wd_mem (ws := rows) (i := 1) (by omega))
  walk_at "rd"
  refine ⟨by rw [sizeLine_eq]; have : (rows.getD (Int.toNat 0) (Str.ofString "")).length ≤ 190 := w0; omega, ?_⟩
  intro l1 H1 s1 hl1 e1
  refine ⟨l1, _, rfl, .inl (SqL.of e1), _, _, rfl, rfl, _, rfl, ?_⟩
  rw [List.length_map]
  have eF : fbF rows = if (spl (wd rows 0)).length > 5 then some 0 else if (spl (wd rows 1)).length > 7 then some 1 else fbL 0 0 0 rows := rfl
  refine ite2 (fun h5 => ?_) (fun h5 => ?_)
  · have h5' : (5 : Int) < ((spl (wd rows 0)).length : Nat) := of_decide_eq_true h5
    walk_at "rd"
    exact (k H1 s1).2 0 (by rw [eF, if_pos (by omega)])
  have h5' : ¬ (spl (wd rows 0)).length > 5 := fun q => h5 (decide_eq_true (show (5 : Int) < ((spl (wd rows 0)).length : Nat) by omega))
  rw [if_neg h5'] at eF
  walk_at "rd"
  refine ⟨by rw [sizeLine_eq]; have : (rows.getD (Int.toNat 1) (Str.ofString "")).length ≤ 190 := w1; omega, ?_⟩
  intro l2 H2 s2 hl2 e2
  refine ⟨l2, _, rfl, .inl (SqL.of e2), _, _, rfl, rfl, _, rfl, ?_⟩
  rw [List.length_map]
  refine ite2 (fun h7 => ?_) (fun h7 => ?_)
  · have h7' : (7 : Int) < ((spl (wd rows 1)).length : Nat) := of_decide_eq_true h7
    walk_at "rd"
    exact (k H2 (s1.trans s2)).2 1 (by rw [eF, if_pos (by omega)])
  have h7' : ¬ (spl (wd rows 1)).length > 7 := fun q => h7 (decide_eq_true (show (7 : Int) < ((spl (wd rows 1)).length : Nat) by omega))
  rw [if_neg h7'] at eF
  have sA : Same H H2 := s1.trans s2
  have hfew := hR.few
  walk_at "rd"
  refine ⟨l, _, rfl, .inl (sA.seq hL), ?_⟩
  rw [List.length_map]
  refine ⟨_, rfl, by omega, by omega, ?_⟩
  rw [Int.toNat_natCast]
  refine for_range (lo := 0) (n := rows.length) (fun i σ H' => ∃ (d m : Int) (v3 v4 : Option V), σ = [some (.ref l), some (.int d), some (.int m), v3, v4] ∧ Same H H' ∧ -1000 ≤ d + i ∧ d ≤ i ∧ 0 ≤ m ∧ m ≤ i ∧ fbL 0 0 0 rows = fbL i d m (rows.drop i))
    ⟨0, 0, none, none, rfl, sA, by omega, by omega, by omega, by omega, by rw [List.drop_zero]⟩ ?_ ?_
  · rintro i σ H3 hi ⟨d, m, v3, v4, rfl, s3, d1, d2, m1, m2, hf⟩
    have hwd : wd rows i ∈ rows := wd_mem hi
    have hd : rows.drop i = wd rows i :: rows.drop (i + 1) := by
      unfold wd
      (rw [List.getD_eq_getElem?_getD, List.getElem?_eq_getElem hi])
      exact List.drop_eq_getElem_cons hi
    rw [hd, fbL] at hf
    try dsimp only at hf
    have hix : atI (rows.map V.str) (0 + (i : Int)) = some (.str (wd rows i)) := by
      have := atI_str' (xs := rows) (i := (0 : Int) + i) (by omega) (by omega)
      rw [this]
      unfold wd
      rw [show ((0 : Int) + i).toNat = i by omega]
    walk_at "rd"
    have ei : (0 + (i : Int)).toNat = i := by omega
    rw [ei]
    have hsh : (rows.getD i (Str.ofString "")).length ≤ 190 := hR.short _ hwd
    refine ⟨by rw [sizeLine_eq]; omega, ?_⟩
    intro l4 H4 s4 hl4 e4
    have e4' : H4 l4 = some (.lst ((spl (wd rows i)).map V.str)) := e4
    clear e4
    have hp1 := (spl_len (wd rows i)).1
    generalize spl (wd rows i) = ws at *
    refine ⟨l4, _, _, _, rfl, rfl, SqL.of e4', atI_str' (by omega) (by omega), ?_⟩
    have eu : ws.getD (Int.toNat 0) "" = wd ws 0 := rfl
    rw [eu]
    generalize wd ws 0 = u at *
    walk_at "rd"
    intro l5 H5 s5 hl5 e5
    have e5' : H5 l5 = some (.lst (markL.map V.str)) := e5
    clear e5
    have fl : (markL.map V.str).all flatV = true := by decide +kernel
    refine ⟨l5, _, rfl, .inl (SqL.of e5'), rfl, fl, ?_⟩
    rw [in_strs]
    refine .inr ⟨_, rfl, ?_⟩
    walk_at "rd"
    refine .inr ⟨_, rfl, ?_⟩
    walk_at "rd"
    refine .inr ⟨_, rfl, ?_⟩
    walk_at "rd"
    have x1 : (if (if false = true then !decide (u ∈ markL) else decide (u ∈ markL)) = true then (1 : Int) else 0) = if u ∈ markL then 1 else 0 := by by_cases q : u ∈ markL <;> simp [q]
    have x2 : (if decide (V.str u = V.str (Str.ofString "part")) = true then (1 : Int) else 0) = if u = "part" then 1 else 0 := by rw [str_dec]; by_cases q : u = "part" <;> simp [q]
    have x3 : (if decide (V.str u = V.str (Str.ofString "done")) = true then (1 : Int) else 0) = if u = "done" then 1 else 0 := by rw [str_dec]; by_cases q : u = "done" <;> simp [q]
    rw [x1, x2, x3]
    have y1 : 0 ≤ (if u ∈ markL then (1 : Int) else 0) ∧ (if u ∈ markL then (1 : Int) else 0) ≤ 1 := by split <;> decide
    have y2 : 0 ≤ (if u = "part" then (1 : Int) else 0) ∧ (if u = "part" then (1 : Int) else 0) ≤ 1 := by split <;> decide
    have y3 : 0 ≤ (if u = "done" then (1 : Int) else 0) ∧ (if u = "done" then (1 : Int) else 0) ≤ 1 := by split <;> decide
    generalize (if u ∈ markL then (1 : Int) else 0) = z1 at *
    generalize (if u = "part" then (1 : Int) else 0) = z2 at *
    generalize (if u = "done" then (1 : Int) else 0) = z3 at *
    have sB : Same H H5 := (s3.trans s4).trans s5
    refine ite2 (fun g1 => iteT ?_) (fun g1 => ?_)
    · walk_at "rd"
      have g1' : (6 : Int) < d + z2 - z3 := of_decide_eq_true g1
      rw [if_pos (.inl g1')] at hf
      rw [Int.zero_add]
      exact (k H5 sB).2 i (by rw [eF, hf])
    have g1' : ¬ (6 : Int) < d + z2 - z3 := fun q => g1 (decide_eq_true q)
    walk_at "rd"
    refine ite2 (fun g2 => iteT ?_) (fun g2 => ?_)
    · walk_at "rd"
      have g2' : (12 : Int) < m + z1 := of_decide_eq_true g2
      rw [if_pos (.inr (.inl g2'))] at hf
      rw [Int.zero_add]
      exact (k H5 sB).2 i (by rw [eF, hf])
    have g2' : ¬ (12 : Int) < m + z1 := fun q => g2 (decide_eq_true q)
    walk_at "rd"
    refine ite2 (fun g3 => ?_) (fun g3 => ?_)
    · walk_at "rd"
      have g3' : (0 : Int) + i = 90 := int_x g3
      rw [if_pos (.inr (.inr (by omega)))] at hf
      rw [Int.zero_add]
      exact (k H5 sB).2 i (by rw [eF, hf])
    have g3' : ¬ i = 90 := fun q => g3 (int_y (by omega))
    rw [if_neg (fun q => q.elim g1' (fun q => q.elim g2' g3'))] at hf
    walk_at "rd"
    exact ⟨d + z2 - z3, m + z1, _, _, rfl, sB, by omega, by omega, by omega, by omega, hf⟩
  · rintro σ H3 ⟨d, m, v3, v4, rfl, s3, d1, d2, m1, m2, hf⟩
    rw [List.drop_length, fbL] at hf
    walk_at "rd"
    exact (k H3 s3).1 (by rw [eF, hf])


/-! ### the law: its rows -/
end
theorem lit_cps : ("let " : Str).cps.toList = ("let" : Str).cps.toList ++ [32] ∧ (" be " : Str).cps.toList = 32 :: (("be" : Str).cps.toList ++ [32]) ∧ ("part " : Str).cps.toList = ("part" : Str).cps.toList ++ [32] ∧ ("parties " : Str).cps.toList = ("parties" : Str).cps.toList ++ [32] ∧ ("acts " : Str).cps.toList = ("acts" : Str).cps.toList ++ [32] := by decide +kernel
theorem let_row (a b : Str) : Str.ofString "let " ++ a ++ Str.ofString " be " ++ b = Ev.row (.lt a b) := by
  refine str_ext ?_
  unfold Ev.row rowW Ev.ws
  rw [join_eq, join_cons2, join_cons2, join_cons2, L2.join_one, cps_append, cps_append, cps_append, lit_cps.1, lit_cps.2.1]
  simp
theorem part_row (n : Str) : Str.ofString "part " ++ n = Ev.row (.pt n) := by
  refine str_ext ?_
  unfold Ev.row rowW Ev.ws
  rw [join_eq, join_cons2, L2.join_one, cps_append, lit_cps.2.2.1]
  simp
def NM (c : Int) : List Str := (List.range 70).map fun (k : Nat) => nmS c k
theorem NM_len (c : Int) : (NM c).length = 70 := by unfold NM; rw [List.length_map, List.length_range]
theorem NM_get (c : Int) {i : Nat} (h : i < 70) : (NM c).getD i "" = nmS c i := by
  unfold NM
  (rw [List.getD_eq_getElem?_getD, List.getElem?_map, List.getElem?_range h])
  rfl
theorem nm_len (c k : Int) : (nmS c k).length ≤ 8 := (name_good (nm_ok c)).2.1
/-- the head of a nest: lets, and a part each -/
def Pre (c : Int) (start : Nat) : Nat → List Ev → Prop
  | 0, evs => evs = []
  | k + 1, evs => ∃ p ls, evs = p ++ ls ++ [.pt (nmS c ((40 + start + k : Nat) : Int))] ∧ Pre c start k p ∧ (∀ e ∈ ls, ∃ a b : Int, e = .lt (nmS c a) (nmS c b)) ∧ ls.length ≤ 2
theorem lt_app : ∀ {ls : List Ev} {d : Nat} {r : List Ev} {c : Int}, (∀ e ∈ ls, ∃ a b : Int, e = .lt (nmS c a) (nmS c b)) → (wf d (ls ++ r) ↔ wf d r) ∧ labs (ls ++ r) = labs r
  | [], _, _, _, _ => ⟨Iff.rfl, rfl⟩
  | e :: ls, d, r, c, h => by
    obtain ⟨a, b, rfl⟩ := h e List.mem_cons_self
    exact lt_app (ls := ls) fun x hx => h x (List.mem_cons_of_mem _ hx)
theorem Pre.facts {c : Int} {start : Nat} : ∀ {k : Nat} {evs : List Ev}, Pre c start k evs → (∀ e ∈ evs, e.ok) ∧ (∀ d r, wf d (evs ++ r) ↔ wf (d + k) r) ∧ (∀ r, labs (evs ++ r) = (List.range k).map (fun j => nmS c ((40 + start + j : Nat) : Int)) ++ labs r) ∧ evs.length ≤ 3 * k
  | 0, evs, h => by
    obtain rfl : evs = [] := h
    exact ⟨fun e he => (by cases he), fun d r => Iff.rfl, fun r => rfl, Nat.le_refl _⟩
  | k + 1, evs, ⟨p, ls, e, hp, hl, h2⟩ => by
    obtain ⟨f1, f2, f3, f4⟩ := Pre.facts hp
    subst e
    refine ⟨fun x hx => ?_, fun d r => ?_, fun r => ?_, ?_⟩
    · rcases List.mem_append.mp hx with hx | hx
      · rcases List.mem_append.mp hx with hx | hx
        · exact f1 x hx
        · obtain ⟨a, b, rfl⟩ := hl x hx
          exact ⟨nm_ok c, nm_ok c⟩
      · rw [List.mem_singleton.mp hx]; exact nm_ok c
    · rw [List.append_assoc, List.append_assoc, f2, (lt_app hl).1]
      show wf (d + k + 1) r ↔ _
      rw [Nat.add_assoc]
    · rw [List.append_assoc, List.append_assoc, f3, (lt_app (d := 0) hl).2, List.range_succ, List.map_append, List.append_assoc]
      rfl
    · rw [List.length_append, List.length_append]
      (simp only [List.length_cons, List.length_nil])
      omega
theorem dn_wf : ∀ {k d : Nat} {r : List Ev}, wf (d + k) (List.replicate k Ev.dn ++ r) ↔ wf d r
  | 0, _, _ => Iff.rfl
  | k + 1, d, r => by
    show (0 < d + (k + 1) ∧ wf (d + (k + 1) - 1) (List.replicate k Ev.dn ++ r)) ↔ _
    rw [show d + (k + 1) - 1 = d + k by omega, dn_wf (k := k)]
    exact ⟨fun h => h.2, fun h => ⟨by omega, h⟩⟩
theorem dn_labs : ∀ {k : Nat} {r : List Ev}, labs (List.replicate k Ev.dn ++ r) = labs r
  | 0, _ => rfl
  | k + 1, r => dn_labs (k := k)
/-- rows behind the header: the labels' numbers -/
structure EvsOk (c : Int) (I : List Nat) (evs : List Ev) (n : Nat) : Prop where
  ok : ∀ e ∈ evs, e.ok
  wf : wf 0 evs
  lb : labs evs = I.map fun (i : Nat) => nmS c (i : Int)
  len : evs.length ≤ n
theorem wf_app : ∀ {e1 e2 : List Ev} {d : Nat}, My.wf d e1 → (My.wf d (e1 ++ e2) ↔ My.wf 0 e2)
  | [], _, d, h => by
    obtain rfl : d = 0 := h
    exact Iff.rfl
  | .lt a b :: e1, e2, d, h => wf_app (e1 := e1) h
  | .pt n :: e1, e2, d, h => wf_app (e1 := e1) h
  | .dn :: e1, e2, d, h => by
    have h' : 0 < d ∧ My.wf (d - 1) e1 := h
    show (0 < d ∧ My.wf (d - 1) (e1 ++ e2)) ↔ _
    rw [wf_app h'.2]
    exact ⟨fun z => z.2, fun z => ⟨h'.1, z⟩⟩
theorem labs_app : ∀ {e1 e2 : List Ev}, labs (e1 ++ e2) = labs e1 ++ labs e2
  | [], _ => rfl
  | .lt a b :: e1, e2 => labs_app (e1 := e1)
  | .pt n :: e1, e2 => by show n :: labs (e1 ++ e2) = n :: (labs e1 ++ labs e2); rw [labs_app]
  | .dn :: e1, e2 => labs_app (e1 := e1)
theorem EvsOk.app {c : Int} {I J : List Nat} {e1 e2 : List Ev} {n m : Nat} (h1 : EvsOk c I e1 n) (h2 : EvsOk c J e2 m) : EvsOk c (I ++ J) (e1 ++ e2) (n + m) :=
  ⟨fun e he => (List.mem_append.mp he).elim (h1.ok e) (h2.ok e), (wf_app h1.wf).mpr h2.wf, by rw [labs_app, h1.lb, h2.lb, List.map_append], by rw [List.length_append]; have := h1.len; have := h2.len; omega⟩
theorem nest_ok {c : Int} {start deep : Nat} {p : List Ev} (h : Pre c start deep p) : EvsOk c ((List.range deep).map (40 + start + ·)) (p ++ List.replicate deep .dn) (4 * deep) := by
  obtain ⟨f1, f2, f3, f4⟩ := Pre.facts h
  refine ⟨fun e he => ?_, ?_, ?_, ?_⟩
  · (rcases List.mem_append.mp he with he | he)
    · exact f1 e he
    · rw [(List.mem_replicate.mp he).2]; exact True.intro
  · rw [f2]
    have := dn_wf (k := deep) (d := 0) (r := [])
    rw [List.append_nil] at this
    exact this.mpr rfl
  · have e := dn_labs (k := deep) (r := [])
    rw [List.append_nil] at e
    rw [f3, e, List.map_map]
    simp [labs]
  · rw [List.length_append, List.length_replicate]; omega
theorem rows_snoc (evs : List Ev) (e : Ev) : ((evs ++ [e]).map Ev.row).map V.str = (evs.map Ev.row).map V.str ++ [V.str e.row] := by simp
theorem rep_one {α : Type} (x : α) : ∀ n : Nat, (List.replicate n [x]).flatten = List.replicate n x
  | 0 => rfl
  | n + 1 => by rw [List.replicate_succ, List.flatten_cons, rep_one x n]; rfl
def spNest (K : PySem.W.Frag) : Sp := fun vs H Q _ => ∃ (a b : Addr) (c : Int) (ns : List Int) (deep start : Nat), vs = [.ref a, .ref b, .int deep, .int start] ∧ SqL K H a ((NM c).map V.str) ∧ SqL K H b (ns.map V.int) ∧ deep ≤ 8 ∧ start ≤ 16 ∧ ∀ evs l H', EvsOk c ((List.range deep).map (40 + start + ·)) evs 32 → Same H H' → H l = none → H' l = some (.lst ((evs.map Ev.row).map V.str)) → Q (.ref l) H'
section
variable {P : Program} {w : World} {K : PySem.W.Frag} {mg : Str → Option Value} {base : Heap} {t : Adr}
theorem sc_w_nest : FnScope ["_law_names", "_law_script", "_law_deep", "_law_start", "_law_rows", "_law_k", "_law_j"] ["_law_names", "_law_script", "_law_deep", "_law_start"] (defScope s_w_nest) := ⟨rfl, rfl, rfl, by decide +kernel, rfl, by decide +kernel, by decide +kernel⟩
set_option maxHeartbeats 400000 in
theorem ok_w_nest (T : Txt K mg t) : FnOk P w K mg base CX0 2 t.f_w_nest t.d_w_nest ["_law_names", "_law_script", "_law_deep", "_law_start"] (spNest K) := by
  have G_w_cell_at : FnOk P w K mg base CX0 1 t.f_w_cell_at t.d_w_cell_at ["_law_script", "_law_k"] (spCell K) := (ok_w_cell_at T).mono (by decide)
  refine T.w_nest.fn.ok sc_w_nest (fun vs H Q E h => (by obtain ⟨_, _, _, _, _, _, rfl, _⟩ := h; rfl)) (fun cdv A outer s H vs Q E hr h => ?_)
  obtain ⟨a, b, c, ns, deep, start, rfl, hA, hB, hd, hs, k⟩ := h
  refine ⟨_, (pss_cons (ps_set (i := 4) sc_w_nest.nd rfl (Or.inl rfl) (ne_lst pa_nil) sw_list)
      (pss_cons (ps_for PassesOwn.never rfl (pi_range1 rfl T.b_range (pa_cons (pv 2) pa_nil)) (pg_name (i := 5) sc_w_nest.nd rfl (Or.inl rfl))
        (pss_cons (ps_for PassesOwn.never rfl (pi_range1 rfl T.b_range (pa_cons (pe_op op_mod (pe_call G_w_cell_at hr rfl T.w_cell_at.mg T.w_cell_at.fn.kp T.w_cell_at.bd .nil pass0 (pa_cons (pv 1) (pa_cons (pe_op op_add (pe_op op_add pe_int (pv 3)) (pv 5)) pa_nil))) pe_int) pa_nil)) (pg_name (i := 6) sc_w_nest.nd rfl (Or.inl rfl))
        (pss_one (ps_expr (pe_bm PySem.F.plainAttrs_list PySem.F.slot_list_append PySem.F.type_list_append nm_append (pv 4) (pa_cons (pe_op op_add_str (pe_op op_add_str (pe_op op_add_str pe_str (pe_ix (ixK_list (K := K) rfl) (pv 0) (pv 5) (fun _ _ => rfl))) pe_str) (pe_ix (ixK_list (K := K) rfl) (pv 0) (pv 6) (fun _ _ => rfl))) pa_nil)))))
      (pss_one (ps_expr (pe_bm PySem.F.plainAttrs_list PySem.F.slot_list_append PySem.F.type_list_append nm_append (pv 4) (pa_cons (pe_op op_add_str pe_str (pe_ix (ixK_list (K := K) rfl) (pv 0) (pe_op op_add (pe_op op_add pe_int (pv 3)) (pv 5)) (fun _ _ => rfl))) pa_nil))))))
      (pss_one (ps_ret (pe_op no_cat (pv 4) (pe_op op_rep (ne_lst (pa_cons pe_str pa_nil)) (pv 2))))))), ?_⟩
  refine ⟨Nat.zero_le _, ?_⟩
  intro l H1 s1 hl e1
  have hN := NM_len c
  walk_at "rd"
  refine for_range (lo := 0) (n := deep) (fun i σ H' => ∃ (p : List Ev) (v5 v6 : Option V), σ = [some (.ref a), some (.ref b), some (.int deep), some (.int start), some (.ref l), v5, v6] ∧ Same H H' ∧ H' l = some (.lst ((p.map Ev.row).map V.str)) ∧ Pre c start i p)
    ⟨[], none, none, rfl, s1, e1, rfl⟩ ?_ ?_
  · rintro i σ H2 hi ⟨p, v5, v6, rfl, s2, e2, hp⟩
    have hA2 := s2.seq hA
    have hB2 := s2.seq hB
    have q0 : 0 ≤ cellF ns (3 + (start : Int) + (0 + (i : Int))) % 3 := Int.emod_nonneg _ (by decide)
    have q1 : cellF ns (3 + (start : Int) + (0 + (i : Int))) % 3 < 3 := Int.emod_lt_of_pos _ (by decide)
    have hpl := (Pre.facts hp).2.2.2
    walk_at "rd"
    refine ⟨b, _, ns, rfl, hB2, by omega, ?_⟩
    walk_at "rd"
    refine for_range (lo := 0) (n := (cellF ns (3 + (start : Int) + (0 + (i : Int))) % 3).toNat) (fun j σ H' => ∃ (ls : List Ev) (v6 : Option V), σ = [some (.ref a), some (.ref b), some (.int deep), some (.int start), some (.ref l), some (.int (0 + (i : Int))), v6] ∧ Same H H' ∧ H' l = some (.lst (((p ++ ls).map Ev.row).map V.str)) ∧ (∀ e ∈ ls, ∃ a b : Int, e = .lt (nmS c a) (nmS c b)) ∧ ls.length = j)
      ⟨[], v6, rfl, s2, by rw [List.append_nil]; exact e2, fun e he => (by cases he), rfl⟩ ?_ ?_
    · rintro j σ H3 hj ⟨ls, v6', rfl, s3, e3, h3, hl3⟩
      have hA3 := s3.seq hA
      have hi2 : (i : Int) < 8 := by omega
      have hj2 : (j : Int) < 3 := by omega
      have ei : (NM c).getD (0 + (i : Int)).toNat (Str.ofString "") = nmS c i := by rw [show ((0 : Int) + i).toNat = i by omega]; exact NM_get c (by omega)
      have ej : (NM c).getD (0 + (j : Int)).toNat (Str.ofString "") = nmS c j := by rw [show ((0 : Int) + j).toNat = j by omega]; exact NM_get c (by omega)
      have n1 := nm_len c i
      have n2 := nm_len c j
      have l1 : (Str.ofString "let ").length = 4 := by decide +kernel
      have l2 : (Str.ofString " be ").length = 4 := by decide +kernel
      walk_at "rd"
      rw [ei]
      refine ⟨line_small (by omega), ?_⟩
      refine ⟨_, _, rfl, rfl, line_small (by rw [str_len_append]; omega), ?_⟩
      walk_at "rd"
      rw [ej]
      refine ⟨line_small (by rw [str_len_append, str_len_append]; omega), ?_⟩
      rw [let_row]
      refine ⟨l, _, _, rfl, rfl, e3, line_small (by rw [List.length_map, List.length_map, List.length_append]; omega), ?_⟩
      intro H4 k4 e4
      refine ⟨ls ++ [.lt (nmS c i) (nmS c j)], _, rfl, k4.put s3 hl, ?_, fun e he => ?_, by rw [List.length_append, hl3]; rfl⟩
      · rw [e4, ← List.append_assoc, rows_snoc]
      · (rcases List.mem_append.mp he with he | he)
        · exact h3 e he
        · rw [List.mem_singleton.mp he]; exact ⟨_, _, rfl⟩
    · rintro σ H3 ⟨ls, v6', rfl, s3, e3, h3, hl3⟩
      have hA3 := s3.seq hA
      have ei : (NM c).getD (40 + (start : Int) + (0 + (i : Int))).toNat (Str.ofString "") = nmS c ((40 + start + i : Nat) : Int) := by
        rw [show (40 + (start : Int) + (0 + (i : Int))).toNat = 40 + start + i by omega]; exact NM_get c (by omega)
      have n1 := nm_len c ((40 + start + i : Nat) : Int)
      have l1 : (Str.ofString "part ").length = 5 := by decide +kernel
      walk_at "rd"
      rw [ei]
      refine ⟨line_small (by omega), ?_⟩
      rw [part_row]
      refine ⟨l, _, _, rfl, rfl, e3, line_small (by rw [List.length_map, List.length_map, List.length_append]; omega), ?_⟩
      intro H4 k4 e4
      refine ⟨p ++ ls ++ [.pt (nmS c ((40 + start + i : Nat) : Int))], _, _, rfl, k4.put s3 hl, ?_, p, ls, rfl, hp, h3, by omega⟩
      rw [e4, rows_snoc]
  · rintro σ H2 ⟨p, v5, v6, rfl, s2, e2, hp⟩
    have hpl := (Pre.facts hp).2.2.2
    walk_at "rd"
    intro l3 H3 s3 hl3 e3
    refine ⟨_, rfl, l3, _, _, rfl, rfl, e3, by omega, by omega, line_small (by show 1 * _ ≤ _; omega), ?_⟩
    intro q hq
    have s4 : Same H3 (upd H3 q (.lst (List.replicate ((deep : Nat) : Int).toNat [V.str (Str.ofString "done")]).flatten)) := Same.new1 hq
    refine ⟨l, q, _, _, rfl, rfl, s4 _ _ (s3 _ _ e2), upd_same, line_small (by rw [len_rep]; simp only [List.length_map, List.length_cons, List.length_nil]; omega), ?_⟩
    intro l5 H5 s5 hl5 e5
    have sA : Same H H5 := ((s2.trans s3).trans s4).trans s5
    refine k (p ++ List.replicate deep .dn) l5 H5 ?_ sA (((s2.trans s3).trans s4).free hl5) ?_
    · have := nest_ok hp
      exact ⟨this.ok, this.wf, this.lb, by have := this.len; omega⟩
    · rw [e5, List.map_append, List.map_append, List.map_replicate, List.map_replicate, done_row, Int.toNat_natCast, rep_one]


/-! ### the law: its header -/
end
theorem cut_mid {α : Type} (f : α → V) (xs : List α) (n m : Nat) (h : n + m ≤ xs.length) : cutV (xs.map f) (some (n : Int)) (some ((n + m : Nat) : Int)) = ((xs.drop n).take m).map f := by
  unfold cutV
  rw [HT.sIx_nat, HT.sIx_nat, List.length_map, Nat.min_eq_left (show n ≤ xs.length by omega), Nat.min_eq_left (show n + m ≤ xs.length from h), ← List.map_drop, ← List.map_take, Nat.add_sub_cancel_left]
theorem NM_take (c : Int) {m : Nat} (h : m ≤ 70) : (NM c).take m = (List.range m).map fun (j : Nat) => nmS c (j : Int) := by
  unfold NM
  rw [← List.map_take, List.take_range, Nat.min_eq_left h]
theorem NM_mid (c : Int) {n m : Nat} (h : n + m ≤ 70) : ((NM c).drop n).take m = (List.range m).map fun (j : Nat) => nmS c ((n + j : Nat) : Int) := by
  apply List.ext_getElem?
  intro i
  by_cases q : i < m
  · rw [List.getElem?_take_of_lt q, List.getElem?_drop, List.getElem?_map, List.getElem?_range q]
    unfold NM
    rw [List.getElem?_map, List.getElem?_range (by omega)]
    rfl
  · rw [List.getElem?_eq_none_iff.mpr (by rw [List.length_take]; omega), List.getElem?_eq_none_iff.mpr (by rw [List.length_map, List.length_range]; omega)]
theorem nm_nodup {c : Int} {I : List Nat} (h : I.Nodup) (hb : ∀ i ∈ I, i < 208) : (I.map fun (i : Nat) => nmS c (i : Int)).Nodup := by
  induction I with
  | nil => simp
  | cons a r ih =>
    rw [List.nodup_cons] at h
    (rw [List.map_cons, List.nodup_cons])
    refine ⟨fun hm => ?_, ih h.2 fun i hi => hb i (List.mem_cons_of_mem _ hi)⟩
    obtain ⟨b, hbm, e⟩ := List.mem_map.mp hm
    have ha := hb a List.mem_cons_self
    have hb' := hb b (List.mem_cons_of_mem _ hbm)
    have := nm_inj (c := c) (k1 := b) (k2 := a) (by omega) (by omega) e
    exact h.1 (by rw [show a = b by omega]; exact hbm)
theorem head_row {x y : Str} (e : y.cps.toList = x.cps.toList ++ [32]) {ns : List Str} (h : ns ≠ []) : y ++ Txt.join " " ns = rowW (x :: ns) := by
  obtain ⟨a, r, rfl⟩ := List.exists_cons_of_ne_nil h
  refine str_ext ?_
  unfold rowW
  rw [cps_append, join_eq, join_eq, join_cons2, e]
  simp
theorem mk_cps : ("calm " : Str).cps.toList = ("calm" : Str).cps.toList ++ [32] ∧ ("sore " : Str).cps.toList = ("sore" : Str).cps.toList ++ [32] ∧ ("end " : Str).cps.toList = ("end" : Str).cps.toList ++ [32] := by decide +kernel
def mkT : List Str := ["calm ", "sore ", "end "]
theorem mk_row (n : Str) : ∀ j < 3, ∃ m ∈ ks_MARKS, mkT.getD j "" ++ n = rmRow (m, n) ∧ (mkT.getD j "").length ≤ 5 := by
  have key : ∀ {x y : Str}, y.cps.toList = x.cps.toList ++ [32] → y ++ n = rmRow (x, n) := fun {x y} e => by
    refine str_ext ?_
    unfold rmRow rowW
    rw [cps_append, join_eq, join_cons2, L2.join_one, e]
    simp
  intro j hj
  match j, hj with
  | 0, _ => exact ⟨"calm", by decide +kernel, key mk_cps.1, by decide +kernel⟩
  | 1, _ => exact ⟨"sore", by decide +kernel, key mk_cps.2.1, by decide +kernel⟩
  | 2, _ => exact ⟨"end", by decide +kernel, key mk_cps.2.2, by decide +kernel⟩
def spHd (K : PySem.W.Frag) : Sp := fun vs H Q _ => ∃ (a : Addr) (c cell : Int), vs = [.ref a, .int cell] ∧ SqL K H a ((NM c).map V.str) ∧ 0 ≤ cell ∧ ∀ ps as rms l H', Hdr ps as rms → Same H H' → H l = none → H' l = some (.lst ((rowsOf ps as rms []).map V.str)) → Q (.ref l) H'
section
variable {P : Program} {w : World} {K : PySem.W.Frag} {mg : Str → Option Value} {base : Heap} {t : Adr}
theorem sc_w_header_rows : FnScope ["_law_names", "_law_cell", "_law_many", "_law_rows", "_law_k"] ["_law_names", "_law_cell"] (defScope s_w_header_rows) := ⟨rfl, rfl, rfl, by decide +kernel, rfl, by decide +kernel, by decide +kernel⟩
set_option maxHeartbeats 400000 in
theorem ok_w_header_rows (T : Txt K mg t) : FnOk P w K mg base CX0 2 t.f_w_header_rows t.d_w_header_rows ["_law_names", "_law_cell"] (spHd K) := by
  have G_w_mix : FnOk P w K mg base CX0 1 t.f_w_mix t.d_w_mix ["_law_cell", "_law_k"] spMix := (ok_w_mix T).mono (by decide)
  refine T.w_header_rows.fn.ok sc_w_header_rows (fun vs H Q E h => (by obtain ⟨_, _, _, rfl, _⟩ := h; rfl)) (fun cdv A outer s H vs Q E hr h => ?_)
  obtain ⟨a, c, cell, rfl, hA, hc, k⟩ := h
  refine ⟨_, (pss_cons (ps_set (i := 2) sc_w_header_rows.nd rfl (Or.inl rfl) (ne_lst (pa_cons (pe_op op_add pe_int (pe_op op_mod (pe_op op_fdiv (pv 1) pe_int) pe_int)) (pa_cons (pe_op op_add pe_int (pe_op op_mod (pe_op op_fdiv (pv 1) pe_int) pe_int)) (pa_cons (pe_op op_add pe_int (pe_op op_mod (pe_op op_fdiv (pv 1) pe_int) pe_int)) pa_nil)))) sw_list)
      (pss_cons (PS.join (ps_if (pt_cmpR op_lt (pe_op op_mod (pv 1) pe_int) pe_int (nomark _))
        (pss_one (ps_asg (pe_ix (ixK_list (K := K) rfl) (ne_lst (pa_cons pe_int (pa_cons pe_int (pa_cons pe_int pa_nil)))) (pe_op op_mod (pv 1) pe_int) (fun _ _ => rfl)) (pg_sub (pv 2) (pe_op op_mod (pv 1) pe_int) nset_list))) pss_nil))
      (pss_cons (PS.join (ps_if (pt_cmpR op_eq (pe_op op_mod (pv 1) pe_int) pe_int (nomark _))
        (pss_one (ps_set (i := 2) sc_w_header_rows.nd rfl (Or.inl rfl) (ne_lst (pa_cons pe_int (pa_cons pe_int (pa_cons pe_int pa_nil)))) sw_list)) pss_nil))
      (pss_cons (ps_set (i := 3) sc_w_header_rows.nd rfl (Or.inl rfl) (ne_lst (pa_cons (pe_op op_add_str pe_str (pe_bm PySem.F.plainAttrs_str PySem.F.slot_str_join PySem.F.type_str_join (mtK_join (K := K) rfl) pe_str (pa_cons (pe_slice (nsK_list (K := K) rfl) (pv 0) po_none (po_some (pe_ix (ixK_list (K := K) rfl) (pv 2) pe_int (fun _ _ => rfl)))) pa_nil))) (pa_cons (pe_op op_add_str pe_str (pe_bm PySem.F.plainAttrs_str PySem.F.slot_str_join PySem.F.type_str_join (mtK_join (K := K) rfl) pe_str (pa_cons (pe_slice (nsK_list (K := K) rfl) (pv 0) (po_some pe_int) (po_some (pe_op op_add pe_int (pe_ix (ixK_list (K := K) rfl) (pv 2) pe_int (fun _ _ => rfl))))) pa_nil))) pa_nil))) sw_list)
      (pss_cons (ps_for PassesOwn.never rfl (pi_range1 rfl T.b_range (pa_cons (pe_ix (ixK_list (K := K) rfl) (pv 2) pe_int (fun _ _ => rfl)) pa_nil)) (pg_name (i := 4) sc_w_header_rows.nd rfl (Or.inl rfl))
        (pss_one (ps_expr (pe_bm PySem.F.plainAttrs_list PySem.F.slot_list_append PySem.F.type_list_append nm_append (pv 3) (pa_cons (pe_op op_add_str (pe_ix (ixK_list (K := K) rfl) (ne_lst (pa_cons pe_str (pa_cons pe_str (pa_cons pe_str pa_nil)))) (pe_op op_mod (pe_call G_w_mix hr rfl T.w_mix.mg T.w_mix.fn.kp T.w_mix.bd .nil pass0 (pa_cons (pv 1) (pa_cons (pv 4) pa_nil))) pe_int) (fun _ _ => rfl)) (pe_ix (ixK_list (K := K) rfl) (pv 0) (pe_op op_add pe_int (pv 4)) (fun _ _ => rfl))) pa_nil)))))
      (pss_one (ps_ret (pv 3)))))))), ?_⟩
  have hN := NM_len c
  have c0 : 0 ≤ cell % 6 := Int.emod_nonneg _ (by decide)
  have c1 : cell % 6 < 6 := Int.emod_lt_of_pos _ (by decide)
  have m0a : 0 ≤ cell / 6 % 4 := Int.emod_nonneg _ (by decide)
  have m0b : cell / 6 % 4 < 4 := Int.emod_lt_of_pos _ (by decide)
  have m1a : 0 ≤ cell / 24 % 6 := Int.emod_nonneg _ (by decide)
  have m1b : cell / 24 % 6 < 6 := Int.emod_lt_of_pos _ (by decide)
  have m2a : 0 ≤ cell / 144 % 12 := Int.emod_nonneg _ (by decide)
  have m2b : cell / 144 % 12 < 12 := Int.emod_lt_of_pos _ (by decide)
  walk_at "rd"
  intro lm H1 s1 hlm e1
  refine ⟨fun σ' H' => (∃ (m0 m1 m2 : Int), σ' = [some (.ref a), some (.int cell), some (.ref lm), none, none] ∧ Same H H' ∧ H' lm = some (.lst [.int m0, .int m1, .int m2]) ∧ 1 ≤ m0 ∧ m0 ≤ 5 ∧ 1 ≤ m1 ∧ m1 ≤ 7 ∧ 1 ≤ m2 ∧ m2 ≤ 13) ∨ False, ?_, ?_⟩
  · walk_at "rd"
    refine ite2 (fun h1 => ?_) (fun h1 => .inl ⟨_, _, _, rfl, s1, e1, by omega, by omega, by omega, by omega, by omega, by omega⟩)
    have h1' : cell % 6 < 3 := of_decide_eq_true h1
    walk_at "rd"
    intro l2 H2 s2 hl2 e2
    obtain h | h | h : cell % 6 = 0 ∨ cell % 6 = 1 ∨ cell % 6 = 2 := by omega
    · refine ⟨_, rfl, _, _, rfl, rfl, (show (0 : Int) < 6 by decide), l2, _, _, _, rfl, rfl, SqL.of e2, (by show atI _ (cell % 6) = _; rw [h]; rfl), ?_⟩
      refine ⟨_, rfl, _, rfl, _, _, rfl, rfl, (show (0 : Int) < 6 by decide), lm, _, _, _, rfl, rfl, s2 _ _ e1, (by show ixN _ (cell % 6) = _; rw [h]; rfl), ?_⟩
      intro H3 k3 e3
      exact .inl ⟨_, _, _, rfl, k3.put (s1.trans s2) hlm, e3, by omega, by omega, by omega, by omega, by omega, by omega⟩
    · refine ⟨_, rfl, _, _, rfl, rfl, (show (0 : Int) < 6 by decide), l2, _, _, _, rfl, rfl, SqL.of e2, (by show atI _ (cell % 6) = _; rw [h]; rfl), ?_⟩
      refine ⟨_, rfl, _, rfl, _, _, rfl, rfl, (show (0 : Int) < 6 by decide), lm, _, _, _, rfl, rfl, s2 _ _ e1, (by show ixN _ (cell % 6) = _; rw [h]; rfl), ?_⟩
      intro H3 k3 e3
      exact .inl ⟨_, _, _, rfl, k3.put (s1.trans s2) hlm, e3, by omega, by omega, by omega, by omega, by omega, by omega⟩
    · refine ⟨_, rfl, _, _, rfl, rfl, (show (0 : Int) < 6 by decide), l2, _, _, _, rfl, rfl, SqL.of e2, (by show atI _ (cell % 6) = _; rw [h]; rfl), ?_⟩
      refine ⟨_, rfl, _, rfl, _, _, rfl, rfl, (show (0 : Int) < 6 by decide), lm, _, _, _, rfl, rfl, s2 _ _ e1, (by show ixN _ (cell % 6) = _; rw [h]; rfl), ?_⟩
      intro H3 k3 e3
      exact .inl ⟨_, _, _, rfl, k3.put (s1.trans s2) hlm, e3, by omega, by omega, by omega, by omega, by omega, by omega⟩
  intro σ' H2 q
  obtain ⟨m0, m1, m2, rfl, s2, e2, b1, b2, b3, b4, b5, b6⟩ := q.resolve_right fun z => z
  clear q e1 s1
  refine ⟨fun σ' H' => (∃ (lm : Addr) (m0 m1 m2 : Nat), σ' = [some (.ref a), some (.int cell), some (.ref lm), none, none] ∧ Same H H' ∧ H' lm = some (.lst [.int m0, .int m1, .int m2]) ∧ 1 ≤ m0 ∧ m0 ≤ 5 ∧ 1 ≤ m1 ∧ m1 ≤ 7 ∧ 1 ≤ m2 ∧ m2 ≤ 13) ∨ False, ?_, ?_⟩
  · walk_at "rd"
    refine ite2 (fun h1 => ?_) (fun h1 => .inl ⟨lm, m0.toNat, m1.toNat, m2.toNat, rfl, s2, by rw [e2, Int.toNat_of_nonneg (by omega), Int.toNat_of_nonneg (by omega), Int.toNat_of_nonneg (by omega)], by omega, by omega, by omega, by omega, by omega, by omega⟩)
    walk_at "rd"
    intro l3 H3 s3 hl3 e3
    exact .inl ⟨l3, 4, 6, 12, rfl, s2.trans s3, e3, by omega, by omega, by omega, by omega, by omega, by omega⟩
  intro σ' H3 q
  obtain ⟨lm', n0, n1, n2, rfl, s3, e3, d1, d2, d3, d4, d5, d6⟩ := q.resolve_right fun z => z
  clear q e2 s2 b1 b2 b3 b4 b5 b6
  have hA3 := s3.seq hA
  have hps : ∀ x ∈ (NM c).take n0, nameB x = true := fun x hx => by
    rw [NM_take c (by omega)] at hx
    obtain ⟨j, _, rfl⟩ := List.mem_map.mp hx
    exact nm_ok c
  have has : ∀ x ∈ ((NM c).drop 5).take n1, nameB x = true := fun x hx => by
    rw [NM_mid c (by omega)] at hx
    obtain ⟨j, _, rfl⟩ := List.mem_map.mp hx
    exact nm_ok c
  have lps : ((NM c).take n0).length = n0 := by rw [List.length_take, hN]; omega
  have las : (((NM c).drop 5).take n1).length = n1 := by rw [List.length_take, List.length_drop, hN]; omega
  have tp : tot ((NM c).take n0) ≤ 9 * 5 := Nat.le_trans (tot_le (n := 8) fun x hx => (name_good (hps x hx)).2.1) (by rw [lps]; omega)
  have ta : tot (((NM c).drop 5).take n1) ≤ 9 * 7 := Nat.le_trans (tot_le (n := 8) fun x hx => (name_good (has x hx)).2.1) (by rw [las]; omega)
  walk_at "rd"
  refine ⟨lm', _, _, _, rfl, rfl, SqL.of e3, rfl, _, rfl, ?_⟩
  refine ⟨a, _, rfl, hA3, ?_⟩
  intro l4 H4 s4 hl4 e4
  have e4' : H4 l4 = some (.lst (((NM c).take n0).map V.str)) := by rw [← cut_take V.str (NM c) n0]; exact e4
  clear e4
  refine ⟨_, l4, _, rfl, rfl, SqL.of e4', by rw [row_sum]; omega, ?_⟩
  have j1 : (Txt.join (Str.ofString " ") ((NM c).take n0)).length ≤ 45 := Nat.le_trans (row_len _) tp
  have j2 : (Txt.join (Str.ofString " ") (((NM c).drop 5).take n1)).length ≤ 63 := Nat.le_trans (row_len _) ta
  have w1 : (Str.ofString "parties ").length = 8 := by decide +kernel
  have w2 : (Str.ofString "acts ").length = 5 := by decide +kernel
  have np : (NM c).take n0 ≠ [] := fun z => by rw [z] at lps; simp at lps; omega
  have na : ((NM c).drop 5).take n1 ≠ [] := fun z => by rw [z] at las; simp at las; omega
  refine ⟨_, _, rfl, rfl, line_small (by omega), ?_⟩
  rw [show Str.ofString "parties " ++ Txt.join (Str.ofString " ") ((NM c).take n0) = rowW ("parties" :: (NM c).take n0) from head_row lit_cps.2.2.2.1 np]
  refine ⟨rfl, ?_⟩
  have hA4 := s4.seq hA3
  refine ⟨_, rfl, _, rfl, _, rfl, lm', _, _, _, rfl, rfl, SqL.of (s4 _ _ e3), rfl, _, _, rfl, rfl, _, rfl, ?_⟩
  refine ⟨a, _, rfl, hA4, ?_⟩
  intro l5 H5 s5 hl5 e5
  have e5' : H5 l5 = some (.lst ((((NM c).drop 5).take n1).map V.str)) := by
    rw [← cut_mid V.str (NM c) 5 n1 (by omega)]
    exact e5
  clear e5
  refine ⟨_, l5, _, rfl, rfl, SqL.of e5', by rw [row_sum]; omega, ?_⟩
  refine ⟨_, _, rfl, rfl, line_small (by omega), ?_⟩
  rw [show Str.ofString "acts " ++ Txt.join (Str.ofString " ") (((NM c).drop 5).take n1) = rowW ("acts" :: ((NM c).drop 5).take n1) from head_row lit_cps.2.2.2.2 na]
  refine ⟨line_small (by show 2 ≤ 1000; decide), ?_⟩
  intro lr H6 s6 hlr e6
  have sA : Same H H6 := ((s3.trans s4).trans s5).trans s6
  have em : H6 lm' = some (.lst [.int n0, .int n1, .int n2]) := s6 _ _ (s5 _ _ (s4 _ _ e3))
  have hlr0 : H lr = none := ((s3.trans s4).trans s5).free hlr
  walk_at "rd"
  refine ⟨lm', _, _, _, rfl, rfl, SqL.of em, rfl, _, rfl, by omega, by omega, ?_⟩
  rw [Int.toNat_natCast]
  refine for_range (lo := 0) (n := n2) (fun i σ H' => ∃ (rms : List (Str × Str)) (v4 : Option V), σ = [some (.ref a), some (.int cell), some (.ref lm'), some (.ref lr), v4] ∧ Same H H' ∧ H' lr = some (.lst ((rowsOf ((NM c).take n0) (((NM c).drop 5).take n1) rms []).map V.str)) ∧ (∀ mn ∈ rms, RmOk mn) ∧ rms.map (·.2) = (List.range i).map (fun (j : Nat) => nmS c ((12 + j : Nat) : Int)))
    ⟨[], none, rfl, sA, e6, fun _ z => (by cases z), rfl⟩ ?_ ?_
  · rintro i σ H7 hi ⟨rms, v4, rfl, s7, e7, h7, g7⟩
    have hA7 := s7.seq hA
    have x0 : 0 ≤ mixF cell (0 + (i : Int)) % 3 := Int.emod_nonneg _ (by decide)
    have x1 : mixF cell (0 + (i : Int)) % 3 < 3 := Int.emod_lt_of_pos _ (by decide)
    have hlen : rms.length = i := by have := congrArg List.length g7; simpa using this
    have ei : (NM c).getD (12 + (0 + (i : Int))).toNat (Str.ofString "") = nmS c ((12 + i : Nat) : Int) := by
      rw [show (12 + (0 + (i : Int))).toNat = 12 + i by omega]; exact NM_get c (by omega)
    walk_at "rd"
    intro l8 H8 s8 hl8 e8
    have e8' : H8 l8 = some (.lst (mkT.map V.str)) := e8
    clear e8
    have hA8 := s8.seq hA7
    refine ⟨_, rfl, _, rfl, cell, _, rfl, by omega, by omega, ?_⟩
    refine ⟨_, _, rfl, rfl, (show (0 : Int) < 3 by decide), ?_⟩
    refine ⟨l8, _, _, _, rfl, rfl, SqL.of e8', atI_str' x0 (show _ < (3 : Int) from x1), ?_⟩
    refine ⟨_, rfl, _, rfl, _, _, rfl, rfl, a, _, _, _, rfl, rfl, hA8, atI_str' (by omega) (by omega), ?_⟩
    rw [ei]
    obtain ⟨m, hm, er, hl5⟩ := mk_row (nmS c ((12 + i : Nat) : Int)) (mixF cell (0 + (i : Int)) % 3).toNat (by omega)
    have n1 := nm_len c ((12 + i : Nat) : Int)
    refine ⟨_, _, rfl, rfl, line_small (by omega), ?_⟩
    rw [er]
    have e78 := s8 _ _ e7
    refine ⟨lr, _, _, rfl, rfl, e78, line_small (by rw [List.length_map]; unfold rowsOf; simp only [List.length_cons, List.length_append, List.length_map, List.length_nil]; omega), ?_⟩
    intro H9 k9 e9
    refine ⟨rms ++ [(m, nmS c ((12 + i : Nat) : Int))], _, rfl, k9.put (s7.trans s8) hlr0, ?_, fun mn hmn => ?_, ?_⟩
    · rw [e9]
      unfold rowsOf
      simp only [List.map_nil, List.append_nil, List.map_append, List.map_cons, List.cons_append]
    · rcases List.mem_append.mp hmn with q | q
      · exact h7 mn q
      · rw [List.mem_singleton.mp q]; exact ⟨hm, nm_ok c⟩
    · rw [List.map_append, g7, List.range_succ, List.map_append]; rfl
  · rintro σ H7 ⟨rms, v4, rfl, s7, e7, h7, g7⟩
    have hlen : rms.length = n2 := by have := congrArg List.length g7; simpa using this
    walk_at "rd"
    refine k _ _ rms lr H7 ⟨by omega, by omega, by omega, by omega, by omega, by omega, hps, has, h7, ?_⟩ s7 hlr0 e7
    rw [g7, NM_take c (by omega), NM_mid c (by omega)]
    have := nm_nodup (c := c) (I := List.range n0 ++ (List.range n1).map (5 + ·) ++ (List.range n2).map (12 + ·)) ?_ ?_
    · rw [List.map_append, List.map_append, List.map_map, List.map_map] at this
      exact this
    · rw [List.nodup_append, List.nodup_append]
      refine ⟨⟨List.nodup_range, ?_, ?_⟩, ?_, ?_⟩
      · exact List.Pairwise.map _ (fun a b h z => h (by omega)) List.nodup_range
      · intro x hx y hy z
        obtain ⟨j, _, rfl⟩ := List.mem_map.mp hy
        have := List.mem_range.mp hx
        omega
      · exact List.Pairwise.map _ (fun a b h z => h (by omega)) List.nodup_range
      · intro x hx y hy z
        obtain ⟨j, _, rfl⟩ := List.mem_map.mp hy
        (rcases List.mem_append.mp hx with hx | hx)
        · have := List.mem_range.mp hx; omega
        · obtain ⟨j', hj', rfl⟩ := List.mem_map.mp hx
          have := List.mem_range.mp hj'
          omega
    · intro x hx
      (rcases List.mem_append.mp hx with hx | hx)
      · rcases List.mem_append.mp hx with hx | hx
        · have := List.mem_range.mp hx; omega
        · obtain ⟨j', hj', rfl⟩ := List.mem_map.mp hx
          have := List.mem_range.mp hj'
          omega
      · obtain ⟨j', hj', rfl⟩ := List.mem_map.mp hx
        have := List.mem_range.mp hj'
        omega


/-! ### the law -/
end
theorem rowW_free : ∀ {ws : List Str}, (∀ x ∈ ws, 59 ∉ x.cps.toList) → 59 ∉ (rowW ws).cps.toList
  | [], _ => by unfold rowW; decide +kernel
  | [x], h => by unfold rowW; rw [join_eq, L2.join_one]; exact h x (by simp)
  | x :: y :: r, h => by
    have ih := rowW_free (ws := y :: r) fun z hz => h z (List.mem_cons_of_mem _ hz)
    unfold rowW at ih ⊢
    rw [join_eq] at ih ⊢
    rw [join_cons2]
    intro hm
    (rcases List.mem_append.mp hm with hm | hm)
    · exact h x (by simp) hm
    · rcases List.mem_cons.mp hm with hm | hm
      · cases hm
      · exact ih hm
theorem name_free {x : Str} (h : nameB x = true) : 59 ∉ x.cps.toList := fun hc => by
  have h' := h
  unfold nameB at h'
  rw [Bool.and_eq_true] at h'
  have : ¬ 59 ∈ k_LETTERS.cps.toList := by decide +kernel
  exact this ((writ_mem h'.1).2.2 59 hc)
structure RowF (x : Str) : Prop where
  fr : 59 ∉ x.cps.toList
  sh : x.length ≤ 75
theorem rowW_ok {ws : List Str} (h : ∀ x ∈ ws, 59 ∉ x.cps.toList ∧ x.length ≤ 8) (hl : ws.length ≤ 8) : RowF (rowW ws) := by
  refine ⟨rowW_free fun x hx => (h x hx).1, ?_⟩
  have h1 : (rowW ws).length ≤ tot ws := row_len ws
  have h2 := tot_le (n := 8) (ws := ws) fun x hx => (h x hx).2
  have h3 : (8 + 1) * ws.length ≤ 9 * 8 := by omega
  omega
theorem name_w {x : Str} (h : nameB x = true) : 59 ∉ x.cps.toList ∧ x.length ≤ 8 := ⟨name_free h, (name_good h).2.1⟩
theorem kept_w {x : Str} (h : x ∈ (["let", "be", "part", "done", "parties", "acts", "calm", "sore", "end"] : List Str)) : 59 ∉ x.cps.toList ∧ x.length ≤ 8 := ⟨(kept_nb x h).2.1, Nat.le_succ_of_le (kept_nb x h).2.2⟩
theorem Ev.rowF {e : Ev} (h : e.ok) : RowF e.row := by
  cases e with
  | lt a b =>
    refine rowW_ok (fun x hx => ?_) (by simp [Ev.ws])
    simp only [Ev.ws, List.mem_cons, List.not_mem_nil, or_false] at hx
    rcases hx with rfl | rfl | rfl | rfl
    · exact kept_w (by simp)
    · exact name_w h.1
    · exact kept_w (by simp)
    · exact name_w h.2
  | pt n =>
    refine rowW_ok (fun x hx => ?_) (by simp [Ev.ws])
    simp only [Ev.ws, List.mem_cons, List.not_mem_nil, or_false] at hx
    rcases hx with rfl | rfl
    · exact kept_w (by simp)
    · exact name_w h
  | dn =>
    refine rowW_ok (fun x hx => ?_) (by simp [Ev.ws])
    simp only [Ev.ws, List.mem_cons, List.not_mem_nil, or_false] at hx
    rw [hx]; exact kept_w (by simp)
theorem rows_ok {ps as : List Str} {rms : List (Str × Str)} {evs : List Ev} (h : Hdr ps as rms) (he : ∀ e ∈ evs, e.ok) : ∀ x ∈ rowsOf ps as rms evs, RowF x := by
  intro x hx
  unfold rowsOf at hx
  (rcases List.mem_cons.mp hx with rfl | hx)
  · exact rowW_ok (fun y hy => (List.mem_cons.mp hy).elim (fun z => by rw [z]; exact kept_w (by simp)) (fun z => name_w (h.pn y z))) (by have := h.p2; simp only [List.length_cons]; omega)
  (rcases List.mem_cons.mp hx with rfl | hx)
  · exact rowW_ok (fun y hy => (List.mem_cons.mp hy).elim (fun z => by rw [z]; exact kept_w (by simp)) (fun z => name_w (h.an y z))) (by have := h.a2; simp only [List.length_cons]; omega)
  (rcases List.mem_append.mp hx with hx | hx)
  · obtain ⟨mn, hmn, rfl⟩ := List.mem_map.mp hx
    have hm := h.rn mn hmn
    refine rowW_ok (fun y hy => ?_) (by simp)
    simp only [List.mem_cons, List.not_mem_nil, or_false] at hy
    rcases hy with rfl | rfl
    · have := mark_nb _ hm.1; exact ⟨this.2.1, by omega⟩
    · exact name_w hm.2
  · obtain ⟨e, hee, rfl⟩ := List.mem_map.mp hx
    exact Ev.rowF (he e hee)
theorem sum_le {n : Nat} : ∀ {xs : List Str}, (∀ x ∈ xs, x.length ≤ n) → (xs.map (·.length)).sum ≤ n * xs.length
  | [], _ => by simp
  | x :: r, h => by
    have h1 := h x (by simp)
    have h2 := sum_le (n := n) (xs := r) fun y hy => h y (List.mem_cons_of_mem _ hy)
    rw [List.map_cons, List.sum_cons, List.length_cons, Nat.mul_add]
    omega
theorem rows_app (ps as : List Str) (rms : List (Str × Str)) (e1 e2 : List Ev) : rowsOf ps as rms (e1 ++ e2) = rowsOf ps as rms e1 ++ e2.map Ev.row := by unfold rowsOf; simp
theorem rows_len {ps as : List Str} {rms : List (Str × Str)} {evs : List Ev} : (rowsOf ps as rms evs).length = 2 + rms.length + evs.length := by unfold rowsOf; simp only [List.length_cons, List.length_append, List.length_map]; omega
def spLaw (K : PySem.W.Frag) : Sp := fun vs H Q _ => ∃ (a : Addr) (ns : List Int), vs = [.ref a] ∧ SqL K H a (ns.map V.int) ∧ ns.length ≤ 63 ∧ ∀ H', Q (.bl true) H'
section
variable {P : Program} {w : World} {K : PySem.W.Frag} {mg : Str → Option Value} {base : Heap} {t : Adr}
theorem sc_v_law : FnScope ["_law_script", "_law_names", "_law_cell", "_law_rows", "_law_more", "_law_k", "_law_many", "_law_found", "_law_due"] ["_law_script"] (defScope s_v_law) := ⟨rfl, rfl, rfl, by decide +kernel, rfl, by decide +kernel, by decide +kernel⟩
set_option maxHeartbeats 400000 in
theorem ok_v_law (T : Txt K mg t) : FnOk P w K mg base CX0 11 t.f_v_law t.d_v_law ["_law_script"] (spLaw K) := by
  have G_w_cell_at : FnOk P w K mg base CX0 10 t.f_w_cell_at t.d_w_cell_at ["_law_script", "_law_k"] (spCell K) := (ok_w_cell_at T).mono (by decide)
  have G_w_first_beyond : FnOk P w K mg base CX0 10 t.f_w_first_beyond t.d_w_first_beyond ["_law_rows"] (spFB K) := (ok_w_first_beyond T).mono (by decide)
  have G_w_header_rows : FnOk P w K mg base CX0 10 t.f_w_header_rows t.d_w_header_rows ["_law_names", "_law_cell"] (spHd K) := (ok_w_header_rows T).mono (by decide)
  have G_w_mix : FnOk P w K mg base CX0 10 t.f_w_mix t.d_w_mix ["_law_cell", "_law_k"] spMix := (ok_w_mix T).mono (by decide)
  have G_w_name : FnOk P w K mg base CX0 10 t.f_w_name t.d_w_name ["_law_cell", "_law_k"] spNameL := (ok_w_name T).mono (by decide)
  have G_w_nest : FnOk P w K mg base CX0 10 t.f_w_nest t.d_w_nest ["_law_names", "_law_script", "_law_deep", "_law_start"] (spNest K) := (ok_w_nest T).mono (by decide)
  have G_w_refused_at : FnOk P w K mg base CX0 10 t.f_w_refused_at t.d_w_refused_at ["_law_text"] spRef := (ok_w_refused_at T).mono (by decide)
  refine T.v_law.fn.ok sc_v_law (fun vs H Q E h => (by obtain ⟨_, _, rfl, _⟩ := h; rfl)) (fun cdv A outer s H vs Q E hr h => ?_)
  obtain ⟨a, ns, rfl, hS, hl, k⟩ := h
  refine ⟨_, (pss_cons (ps_set_lcomp (i := 1) (osc := defScope s_v_law) (N := ["_law_script", "_law_names", "_law_cell", "_law_rows", "_law_more", "_law_k", "_law_many", "_law_found", "_law_due"]) (names := ["_law_script"]) (caps := [0]) rfl rfl rfl sc_v_law.nd ⟨rfl, by decide +kernel, by decide +kernel, by decide +kernel, rfl, rfl, by decide +kernel, by decide +kernel⟩ rfl rfl (pi_range1 rfl T.b_range (pa_cons pe_int pa_nil)) (fun _ _ _ => (pe_call G_w_name hr rfl T.w_name.mg T.w_name.fn.kp T.w_name.bd .nil pass0 (pa_cons (pe_call G_w_mix hr rfl T.w_mix.mg T.w_mix.fn.kp T.w_mix.bd .nil pass0 (pa_cons (pe_call G_w_cell_at hr rfl T.w_cell_at.mg T.w_cell_at.fn.kp T.w_cell_at.bd .nil pass0 (pa_cons (pv 1) (pa_cons pe_int pa_nil))) (pa_cons pe_int pa_nil))) (pa_cons (pv 0) pa_nil)))))
      (pss_cons (ps_set (i := 2) sc_v_law.nd rfl (Or.inl rfl) (pe_call G_w_mix hr rfl T.w_mix.mg T.w_mix.fn.kp T.w_mix.bd .nil pass0 (pa_cons (pe_call G_w_cell_at hr rfl T.w_cell_at.mg T.w_cell_at.fn.kp T.w_cell_at.bd .nil pass0 (pa_cons (pv 0) (pa_cons pe_int pa_nil))) (pa_cons pe_int pa_nil))))
      (pss_cons (ps_set (i := 3) sc_v_law.nd rfl (Or.inl rfl) (pe_call G_w_header_rows hr rfl T.w_header_rows.mg T.w_header_rows.fn.kp T.w_header_rows.bd .nil pass0 (pa_cons (pv 1) (pa_cons (pv 2) pa_nil))))
      (pss_cons (ps_set (i := 4) sc_v_law.nd rfl (Or.inl rfl) (pe_call G_w_mix hr rfl T.w_mix.mg T.w_mix.fn.kp T.w_mix.bd .nil pass0 (pa_cons (pe_call G_w_cell_at hr rfl T.w_cell_at.mg T.w_cell_at.fn.kp T.w_cell_at.bd .nil pass0 (pa_cons (pv 0) (pa_cons pe_int pa_nil))) (pa_cons pe_int pa_nil))))
      (pss_cons (ps_for PassesOwn.never rfl (pi_range1 rfl T.b_range (pa_cons (pe_ix (ixK_list (K := K) rfl) (ne_lst (pa_cons pe_int (pa_cons pe_int pa_nil))) (pe_op op_mod (pv 4) pe_int) (fun _ _ => rfl)) pa_nil)) (pg_name (i := 5) sc_v_law.nd rfl (Or.inl rfl))
        (pss_one (ps_set (i := 3) sc_v_law.nd rfl (Or.inl rfl) (pe_op no_cat (pv 3) (pe_call G_w_nest hr rfl T.w_nest.mg T.w_nest.fn.kp T.w_nest.bd .nil pass0 (pa_cons (pv 1) (pa_cons (pv 0) (pa_cons (pe_op op_mod (pe_op op_fdiv (pe_op op_fdiv (pv 4) pe_int) (pe_op op_add (pe_op op_mul pe_int (pv 5)) pe_int)) pe_int) (pa_cons (pe_op op_mul pe_int (pv 5)) pa_nil)))))))))
      (pss_cons (ps_set (i := 6) sc_v_law.nd rfl (Or.inl rfl) (pe_ix (ixK_list (K := K) rfl) (ne_lst (pa_cons (pe_op op_mod (pe_op op_fdiv (pv 4) pe_int) pe_int) (pa_cons (pe_op op_sub (pe_op op_add pe_int (pe_op op_mod (pe_op op_fdiv (pv 4) pe_int) pe_int)) (pe_callB (callK_len (K := K) rfl) rfl T.b_len PySem.boot_len (pa_cons (pv 3) pa_nil))) pa_nil))) (pe_op op_mod (pe_op op_fdiv (pv 4) pe_int) pe_int) (fun _ _ => rfl)))
      (pss_cons (ps_for PassesOwn.never rfl (pi_range1 rfl T.b_range (pa_cons (pv 6) pa_nil)) (pg_name (i := 5) sc_v_law.nd rfl (Or.inl rfl))
        (pss_one (ps_expr (pe_bm PySem.F.plainAttrs_list PySem.F.slot_list_append PySem.F.type_list_append nm_append (pv 3) (pa_cons (pe_op op_add_str (pe_op op_add_str (pe_op op_add_str pe_str (pe_ix (ixK_list (K := K) rfl) (pv 1) (pe_op op_mod (pv 5) pe_int) (fun _ _ => rfl))) pe_str) (pe_ix (ixK_list (K := K) rfl) (pv 1) (pe_op op_mod (pe_op op_add (pv 5) (pe_op op_fdiv (pv 4) pe_int)) pe_int) (fun _ _ => rfl))) pa_nil)))))
      (pss_cons (ps_set (i := 7) sc_v_law.nd rfl (Or.inl rfl) (pe_call G_w_refused_at hr rfl T.w_refused_at.mg T.w_refused_at.fn.kp T.w_refused_at.bd .nil pass0 (pa_cons (pe_bm PySem.F.plainAttrs_str PySem.F.slot_str_join PySem.F.type_str_join (mtK_join (K := K) rfl) pe_str (pa_cons (pv 3) pa_nil)) pa_nil)))
      (pss_cons (ps_set (i := 8) sc_v_law.nd rfl (Or.inl rfl) (pe_call G_w_first_beyond hr rfl T.w_first_beyond.mg T.w_first_beyond.fn.kp T.w_first_beyond.bd .nil pass0 (pa_cons (pv 3) pa_nil)))
      (pss_cons (ps_if (pt_cmpR op_isN (pv 8) pe_non (nomark _))
        (pss_one (ps_ret (pe_cmpR op_isN (pv 7) pe_non (nomark _)))) pss_nil)
      (pss_one (ps_ret (pe_cmpR op_eq (pv 7) (pv 8) (nomark _)))))))))))))), ?_⟩
  walk_at "rd"
  have hc := mix_lt (cellF ns 1) 60
  have hcell := mix_lt (cellF ns 0) 61
  have hmore := mix_lt (cellF ns 2) 62
  refine comp_seq seqj_range (fun i _ v => v = .str (nmS (mixF (cellF ns 1) 60) (i : Int))) (line_small (by decide +kernel)) ?_ ?_
  · intro i y H' Q' hy s' kk
    have hi : i < 70 := by
      have := (List.getElem?_eq_some_iff.mp hy).1
      simpa using this
    have hy' : y = V.int (0 + (i : Int)) := by
      rw [List.getElem?_map, List.getElem?_range (show i < (70 : Int).toNat from hi)] at hy
      exact (Option.some.inj hy).symm
    subst hy'
    refine ⟨_, rfl, a, 1, ns, rfl, s'.seq hS, by decide, ?_⟩
    refine ⟨_, _, rfl, by decide, by decide, ?_⟩
    refine ⟨_, rfl, _, _, rfl, hc.1, by omega, by omega, by omega, fun H4 s4 => ?_⟩
    rw [Int.zero_add]
    exact kk _ _ s4 rfl
  intro D H1 ys s1 hD e1 hlen hp
  generalize hcc : mixF (cellF ns 1) 60 = c at *
  generalize hce : mixF (cellF ns 0) 61 = cell at *
  generalize hmo : mixF (cellF ns 2) 62 = more at *
  have eys : ys = (NM c).map V.str := by
    apply List.ext_getElem?
    intro i
    by_cases hi : i < 70
    · have hi' : i < ys.length := by rw [hlen]; simpa using hi
      rw [List.getElem?_eq_getElem hi', List.getElem?_map]
      unfold NM
      rw [List.getElem?_map, List.getElem?_range hi]
      exact congrArg some (hp i _ _ (by rw [List.getElem?_map, List.getElem?_range (show i < (70 : Int).toNat from hi)]; rfl) (List.getElem?_eq_getElem hi'))
    · have hl1 : ys.length = 70 := by rw [hlen]; simp
      rw [List.getElem?_eq_none_iff.mpr (by omega), List.getElem?_eq_none_iff.mpr (by rw [List.length_map, NM_len]; omega)]
  subst eys
  have hA1 : SqL K H1 D ((NM c).map V.str) := SqL.of e1
  have hS1 := s1.seq hS
  refine ⟨_, rfl, a, 0, ns, rfl, hS1, by decide, ?_⟩
  refine ⟨_, _, rfl, by decide, by decide, ?_⟩
  rw [hce]
  walk_at "rd"
  refine ⟨D, c, cell, rfl, hA1, hcell.1, fun ps as rms l H2 hH s2 hl2 e2 => ?_⟩
  have hS2 := s2.seq hS1
  have hA2 := s2.seq hA1
  refine ⟨_, rfl, a, 2, ns, rfl, hS2, by decide, ?_⟩
  refine ⟨_, _, rfl, by decide, by decide, ?_⟩
  rw [hmo]
  have mo0 : 0 ≤ more % 2 := Int.emod_nonneg _ (by decide)
  have mo1 : more % 2 < 2 := Int.emod_lt_of_pos _ (by decide)
  walk_at "rd"
  intro l3 H3 s3 hl3 e3
  obtain ⟨r, er, hr⟩ : ∃ r : Int, atI [V.int 1, V.int 3] (more % 2) = some (.int r) ∧ (r = 1 ∨ r = 3) := by
    obtain q | q : more % 2 = 0 ∨ more % 2 = 1 := by omega
    · exact ⟨1, by rw [q]; rfl, .inl rfl⟩
    · exact ⟨3, by rw [q]; rfl, .inr rfl⟩
  refine ⟨_, rfl, _, _, rfl, rfl, (show (0 : Int) < 2 by decide), l3, _, _, _, rfl, rfl, SqL.of e3, er, _, rfl, by omega, by omega, ?_⟩
  have sA : Same H H3 := (s1.trans s2).trans s3
  have hl0 : H l = none := s1.free hl2
  refine for_range (lo := 0) (n := r.toNat) (fun i σ H' => ∃ (evs : List Ev) (I : List Nat) (lr : Addr) (v5 : Option V), σ = [some (.ref a), some (.ref D), some (.int cell), some (.ref lr), some (.int more), v5, none, none, none] ∧ Same H H' ∧ Same H1 H' ∧ H1 lr = none ∧ H' lr = some (.lst ((rowsOf ps as rms evs).map V.str)) ∧ EvsOk c I evs (32 * i) ∧ I.Nodup ∧ ∀ x ∈ I, 40 ≤ x ∧ x < 40 + 8 * i)
    ⟨[], [], l, none, rfl, sA, s2.trans s3, hl2, s3 _ _ e2, ⟨fun _ z => (by cases z), rfl, rfl, Nat.le_refl _⟩, by simp, fun _ z => (by cases z)⟩ ?_ ?_
  · rintro i σ H4 hi ⟨evs, I, lr, v5, rfl, s4, s14, hlr, e4, hev, hnd, hI⟩
    have hi3 : i < 3 := by omega
    have hA4 := s14.seq hA1
    have hS4 := s4.seq hS
    have hd0 : 0 ≤ more / 2 / (9 * (0 + (i : Int)) + 1) % 9 := Int.emod_nonneg _ (by decide)
    have hd1 : more / 2 / (9 * (0 + (i : Int)) + 1) % 9 < 9 := Int.emod_lt_of_pos _ (by decide)
    have helen := hev.len
    have hr2 := hH.r2
    walk_at "rd"
    refine ⟨D, a, c, ns, (more / 2 / (9 * (0 + (i : Int)) + 1) % 9).toNat, 8 * i, by rw [Int.toNat_of_nonneg hd0, show ((8 * i : Nat) : Int) = 8 * (0 + (i : Int)) by omega]; rfl, hA4, hS4, by omega, by omega, fun evs2 l5 H5 hev2 s5 hl5 e5 => ?_⟩
    have hl2' := hev2.len
    have hrl := @rows_len ps as rms evs
    refine ⟨lr, l5, _, _, rfl, rfl, s5 _ _ e4, e5, line_small (by simp only [List.length_map]; omega), ?_⟩
    intro l6 H6 s6 hl6 e6
    refine ⟨evs ++ evs2, I ++ (List.range (more / 2 / (9 * (0 + (i : Int)) + 1) % 9).toNat).map (40 + 8 * i + ·), l6, _, rfl, (s4.trans s5).trans s6, (s14.trans s5).trans s6, (s14.trans s5).free hl6, ?_, hev.app hev2, ?_, ?_⟩
    · rw [e6, rows_app, List.map_append]
    · rw [List.nodup_append]
      refine ⟨hnd, List.Pairwise.map _ (fun a b h z => h (by omega)) List.nodup_range, fun x hx y hy z => ?_⟩
      obtain ⟨j, _, rfl⟩ := List.mem_map.mp hy
      have := hI x hx
      omega
    · intro x hx
      (rcases List.mem_append.mp hx with hx | hx)
      · have := hI x hx; omega
      · obtain ⟨j, hj, rfl⟩ := List.mem_map.mp hx
        have := List.mem_range.mp hj
        omega
  · rintro σ H4 ⟨evs, I, lr, v5, rfl, s4, s14, hlr, e4, hev, hnd, hI⟩
    have hA4 := s14.seq hA1
    have helen := hev.len
    have hr1 := hH.r1
    have hr2 := hH.r2
    have hrl := @rows_len ps as rms evs
    have g0 : 0 ≤ more / 18 % 5 := Int.emod_nonneg _ (by decide)
    have g1 : more / 18 % 5 < 5 := Int.emod_lt_of_pos _ (by decide)
    have g2 : 0 ≤ more / 90 % 8 := Int.emod_nonneg _ (by decide)
    have g3 : more / 90 % 8 < 8 := Int.emod_lt_of_pos _ (by decide)
    have g4 : 0 ≤ more / 7 % 2 := Int.emod_nonneg _ (by decide)
    have g5 : more / 7 % 2 < 2 := Int.emod_lt_of_pos _ (by decide)
    walk_at "rd"
    refine ⟨lr, _, rfl, .inl (SqL.of e4), ?_⟩
    rw [List.length_map]
    walk_at "rd"
    intro l5 H5 s5 hl5 e5
    obtain ⟨m, em, hm⟩ : ∃ m : Int, atI [V.int (more / 18 % 5), V.int (86 + more / 90 % 8 - ((rowsOf ps as rms evs).length : Nat))] (more / 7 % 2) = some (.int m) ∧ m ≤ 93 ∧ -1000 ≤ m := by
      obtain q | q : more / 7 % 2 = 0 ∨ more / 7 % 2 = 1 := by omega
      · exact ⟨_, by rw [q]; rfl, by omega, by omega⟩
      · exact ⟨_, by rw [q]; rfl, by omega, by omega⟩
    refine ⟨_, rfl, _, _, rfl, rfl, ⟨by decide, by decide⟩, _, _, rfl, rfl, (show (0 : Int) < 2 by decide), l5, _, _, _, rfl, rfl, SqL.of e5, em, ?_⟩
    refine ⟨_, rfl, _, rfl, by omega, by omega, ?_⟩
    have hN := NM_len c
    refine for_range (lo := 0) (n := m.toNat) (fun i σ H' => ∃ (lets : List Ev) (v5 : Option V), σ = [some (.ref a), some (.ref D), some (.int cell), some (.ref lr), some (.int more), v5, some (.int m), none, none] ∧ Same H1 H' ∧ H' lr = some (.lst ((rowsOf ps as rms (evs ++ lets)).map V.str)) ∧ (∀ e ∈ lets, ∃ a b : Int, e = .lt (nmS c a) (nmS c b)) ∧ lets.length = i)
      ⟨[], v5, rfl, s14.trans s5, by rw [List.append_nil]; exact s5 _ _ e4, fun _ z => (by cases z), rfl⟩ ?_ ?_
    · rintro i σ H6 hi ⟨lets, v5', rfl, s6, e6, h6, hl6⟩
      have hA6 := s6.seq hA1
      have x0 : 0 ≤ (0 + (i : Int)) % 40 := Int.emod_nonneg _ (by decide)
      have x1 : (0 + (i : Int)) % 40 < 40 := Int.emod_lt_of_pos _ (by decide)
      have y0 : 0 ≤ (0 + (i : Int) + more / 11) % 40 := Int.emod_nonneg _ (by decide)
      have y1 : (0 + (i : Int) + more / 11) % 40 < 40 := Int.emod_lt_of_pos _ (by decide)
      have hrl6 := @rows_len ps as rms (evs ++ lets)
      rw [List.length_append] at hrl6
      have l1 : (Str.ofString "let ").length = 4 := by decide +kernel
      have l2 : (Str.ofString " be ").length = 4 := by decide +kernel
      have n1 := nm_len c (((0 + (i : Int)) % 40).toNat : Int)
      have n2 := nm_len c (((0 + (i : Int) + more / 11) % 40).toNat : Int)
      have ei : (NM c).getD ((0 + (i : Int)) % 40).toNat (Str.ofString "") = nmS c (((0 + (i : Int)) % 40).toNat : Int) := NM_get c (by omega)
      have ej : (NM c).getD ((0 + (i : Int) + more / 11) % 40).toNat (Str.ofString "") = nmS c (((0 + (i : Int) + more / 11) % 40).toNat : Int) := NM_get c (by omega)
      walk_at "rd"
      rw [ei]
      refine ⟨line_small (by omega), ?_⟩
      refine ⟨_, _, rfl, rfl, line_small (by rw [str_len_append]; omega), ?_⟩
      walk_at "rd"
      rw [ej]
      refine ⟨line_small (by rw [str_len_append, str_len_append]; omega), ?_⟩
      rw [let_row]
      refine ⟨lr, _, _, rfl, rfl, e6, line_small (by rw [List.length_map]; omega), ?_⟩
      intro H7 k7 e7
      refine ⟨lets ++ [.lt (nmS c (((0 + (i : Int)) % 40).toNat : Int)) (nmS c (((0 + (i : Int) + more / 11) % 40).toNat : Int))], _, rfl, k7.put s6 hlr, ?_, fun e he => ?_, by rw [List.length_append, hl6]; rfl⟩
      · rw [e7, ← List.append_assoc, rows_app ps as rms (evs ++ lets), List.map_append]; rfl
      · (rcases List.mem_append.mp he with he | he)
        · exact h6 e he
        · rw [List.mem_singleton.mp he]; exact ⟨_, _, rfl⟩
    · rintro σ H6 ⟨lets, v5', rfl, s6, e6, h6, hl6⟩
      have hok : ∀ e ∈ evs ++ lets, e.ok := fun e he => by
        (rcases List.mem_append.mp he with he | he)
        · exact hev.ok e he
        · obtain ⟨x, y, rfl⟩ := h6 e he
          exact ⟨nm_ok c, nm_ok c⟩
      have hlt := lt_app (ls := lets) (d := 0) (r := []) h6
      rw [List.append_nil] at hlt
      have hwf : wf 0 (evs ++ lets) := (wf_app hev.wf).mpr (hlt.1.mpr rfl)
      have hlab : (labs (evs ++ lets)).Nodup := by
        rw [labs_app, hlt.2, hev.lb]
        simpa [labs] using nm_nodup hnd fun x hx => by have := hI x hx; omega
      obtain ⟨cE, cO⟩ := core27 hH hok hwf hlab
      have hF := rows_ok (evs := evs ++ lets) hH hok
      have hrl6 := @rows_len ps as rms (evs ++ lets)
      rw [List.length_append] at hrl6
      generalize rowsOf ps as rms (evs ++ lets) = rows at *
      have hne : rows ≠ [] := fun z => by rw [z] at hrl6; simp only [List.length_nil] at hrl6; omega
      have hsum : (rows.map (·.length)).sum ≤ 75 * rows.length := sum_le fun x hx => (hF x hx).sh
      have hsemi : (Str.ofString "; ").length = 2 := by decide +kernel
      have hRk : RowsOk rows := ⟨by omega, fun x hx => Nat.le_trans (hF x hx).sh (by decide)⟩
      have hsp : Txt.split (Txt.join (Str.ofString "; ") rows) (Str.ofString "; ") = rows := rows_join hne fun x hx => (hF x hx).fr
      have hjl := join_len (Str.ofString "; ") rows
      walk_at "rd"
      refine ⟨_, lr, rows, rfl, rfl, SqL.of e6, by rw [hsemi]; omega, ?_⟩
      refine ⟨_, rfl, by rw [hsemi] at hjl; omega, ?_⟩
      rw [hsp]
      refine ⟨hRk, fun rr H7 hrr s7 => ?_, fun n H7 hrr s7 => ?_⟩
      · walk_at "rd"
        refine fun H8 s8 => ⟨fun hN => ?_, fun n hS => ?_⟩
        · walk_at "rd"
          exact k H8
        · have := cE n hS
          rw [hrr] at this
          cases this
      · walk_at "rd"
        refine fun H8 s8 => ⟨fun hN => ?_, fun n' hS => ?_⟩
        · obtain ⟨r', er'⟩ := cO hN
          rw [hrr] at er'
          cases er'
        · have := cE n' hS
          rw [hrr] at this
          cases this
          walk_at "rd"
          rw [decide_eq_true rfl]
          exact k H8


theorem law_binds (T : Txt K mg t) (s : Shared) (u : Value) : BindsTo s t.d_v_law ⟨[u], []⟩ [("_law_script", u)] := by
  obtain ⟨oc, od, kV, doc, pm, an, cdv, ct, osl, e, _⟩ := T.v_law.fn.ex
  rw [e]
  exact .of_eq rfl
theorem law_start {H : Hp} {a : Addr} {ns : List Int} (hl : ns.length ≤ 63) (_ : Only H) (hS : SqL K H a (ns.map V.int)) : spLaw K [.ref a] H (fun v _ => v = .bl true) fun _ _ _ => False :=
  ⟨a, ns, rfl, hS, hl, fun _ => rfl⟩


end
theorem kl_KEPT : (19 : Nat) ≤ sizeLine := line_small (by decide)
theorem kv_KEPT {t0 t1 t2 t3 t4 t5 t6 t7 t8 t9 t10 t11 t12 t13 t14 t15 t16 t17 t18 : Tok} : Vals (ks_KEPT.map V.str) ([.str "acts" t0, .str "any" t1, .str "be" t2, .str "by" t3, .str "calm" t4, .str "done" t5, .str "else" t6, .str "end" t7, .str "in" t8, .str "let" t9, .str "may" t10, .str "must" t11, .str "not" t12, .str "part" t13, .str "parties" t14, .str "rest" t15, .str "sore" t16, .str "to" t17, .str "whole" t18] : List Value) := by
  repeat (first | exact .nil | refine .cons ⟨_, rfl⟩ ?_)
theorem kl_MARKS : (3 : Nat) ≤ sizeLine := line_small (by decide)
theorem kv_MARKS {t0 t1 t2 : Tok} : Vals (ks_MARKS.map V.str) ([.str "calm" t0, .str "sore" t1, .str "end" t2] : List Value) := by
  repeat (first | exact .nil | refine .cons ⟨_, rfl⟩ ?_)
set_option maxHeartbeats 4000000 in
theorem txt_mk {K : PySem.W.Frag} {h : Heap} {mg : Str → Option Value} (X : K.In h) (G : h.Ns mainGlobals mg)
    {f_NoText_init f_Clause_init f_Clause_number f_Duty_init f_Duty_number f_Ban_init f_Power_init f_Let_init f_Part_init f_Pact_init f_v_is_name f_v_number_of f_v_written_with f_v_names_of f_v_are_names f_v_room_of f_v_let_of f_v_part_of f_v_clause_of f_v_fits_form f_v_fits_place f_v_read f_v_read_names f_v_told_once f_v_read_rooms f_v_read_whole f_Body_init f_Body_many_open f_Body_takes f_Body_takes_done f_Body_takes_head f_Body_takes_clause f_Body_put_in f_Body_closed f_w_cell_at f_w_mix f_w_name f_w_no_text f_w_refused_at f_w_nest f_w_header_rows f_w_first_beyond f_v_law c_PactError c_NoText c_NoName c_CalmRoom c_NoDeed c_TooMany c_Breach c_NoStand c_NoPair c_NoChange c_NoRow c_Row c_Clause c_Duty c_Leave c_Ban c_Power c_Let c_Part c_Pact c_Body k_KEPT k_MARKS : Addr}
    {od_NoText_init an_NoText_init : Option Addr} {sl_NoText_init : Array (Option Value)} {oc_NoText_init kV_NoText_init dc_NoText_init pm_NoText_init cd_NoText_init ct_NoText_init : Value}
    {od_Clause_init an_Clause_init : Option Addr} {sl_Clause_init : Array (Option Value)} {oc_Clause_init kV_Clause_init dc_Clause_init pm_Clause_init cd_Clause_init ct_Clause_init : Value}
    {od_Clause_number an_Clause_number : Option Addr} {sl_Clause_number : Array (Option Value)} {oc_Clause_number kV_Clause_number dc_Clause_number pm_Clause_number cd_Clause_number ct_Clause_number : Value}
    {od_Duty_init an_Duty_init : Option Addr} {sl_Duty_init : Array (Option Value)} {oc_Duty_init kV_Duty_init dc_Duty_init pm_Duty_init cd_Duty_init ct_Duty_init : Value}
    {od_Duty_number an_Duty_number : Option Addr} {sl_Duty_number : Array (Option Value)} {oc_Duty_number kV_Duty_number dc_Duty_number pm_Duty_number cd_Duty_number ct_Duty_number : Value}
    {od_Ban_init an_Ban_init : Option Addr} {sl_Ban_init : Array (Option Value)} {oc_Ban_init kV_Ban_init dc_Ban_init pm_Ban_init cd_Ban_init ct_Ban_init : Value}
    {od_Power_init an_Power_init : Option Addr} {sl_Power_init : Array (Option Value)} {oc_Power_init kV_Power_init dc_Power_init pm_Power_init cd_Power_init ct_Power_init : Value}
    {od_Let_init an_Let_init : Option Addr} {sl_Let_init : Array (Option Value)} {oc_Let_init kV_Let_init dc_Let_init pm_Let_init cd_Let_init ct_Let_init : Value}
    {od_Part_init an_Part_init : Option Addr} {sl_Part_init : Array (Option Value)} {oc_Part_init kV_Part_init dc_Part_init pm_Part_init cd_Part_init ct_Part_init : Value}
    {od_Pact_init an_Pact_init : Option Addr} {sl_Pact_init : Array (Option Value)} {oc_Pact_init kV_Pact_init dc_Pact_init pm_Pact_init cd_Pact_init ct_Pact_init : Value}
    {od_v_is_name an_v_is_name : Option Addr} {sl_v_is_name : Array (Option Value)} {oc_v_is_name kV_v_is_name dc_v_is_name pm_v_is_name cd_v_is_name ct_v_is_name : Value}
    {od_v_number_of an_v_number_of : Option Addr} {sl_v_number_of : Array (Option Value)} {oc_v_number_of kV_v_number_of dc_v_number_of pm_v_number_of cd_v_number_of ct_v_number_of : Value}
    {od_v_written_with an_v_written_with : Option Addr} {sl_v_written_with : Array (Option Value)} {oc_v_written_with kV_v_written_with dc_v_written_with pm_v_written_with cd_v_written_with ct_v_written_with : Value}
    {od_v_names_of an_v_names_of : Option Addr} {sl_v_names_of : Array (Option Value)} {oc_v_names_of kV_v_names_of dc_v_names_of pm_v_names_of cd_v_names_of ct_v_names_of : Value}
    {od_v_are_names an_v_are_names : Option Addr} {sl_v_are_names : Array (Option Value)} {oc_v_are_names kV_v_are_names dc_v_are_names pm_v_are_names cd_v_are_names ct_v_are_names : Value}
    {od_v_room_of an_v_room_of : Option Addr} {sl_v_room_of : Array (Option Value)} {oc_v_room_of kV_v_room_of dc_v_room_of pm_v_room_of cd_v_room_of ct_v_room_of : Value}
    {od_v_let_of an_v_let_of : Option Addr} {sl_v_let_of : Array (Option Value)} {oc_v_let_of kV_v_let_of dc_v_let_of pm_v_let_of cd_v_let_of ct_v_let_of : Value}
    {od_v_part_of an_v_part_of : Option Addr} {sl_v_part_of : Array (Option Value)} {oc_v_part_of kV_v_part_of dc_v_part_of pm_v_part_of cd_v_part_of ct_v_part_of : Value}
    {od_v_clause_of an_v_clause_of : Option Addr} {sl_v_clause_of : Array (Option Value)} {oc_v_clause_of kV_v_clause_of dc_v_clause_of pm_v_clause_of cd_v_clause_of ct_v_clause_of : Value}
    {od_v_fits_form an_v_fits_form : Option Addr} {sl_v_fits_form : Array (Option Value)} {oc_v_fits_form kV_v_fits_form dc_v_fits_form pm_v_fits_form cd_v_fits_form ct_v_fits_form : Value}
    {od_v_fits_place an_v_fits_place : Option Addr} {sl_v_fits_place : Array (Option Value)} {oc_v_fits_place kV_v_fits_place dc_v_fits_place pm_v_fits_place cd_v_fits_place ct_v_fits_place : Value}
    {od_v_read an_v_read : Option Addr} {sl_v_read : Array (Option Value)} {oc_v_read kV_v_read dc_v_read pm_v_read cd_v_read ct_v_read : Value}
    {od_v_read_names an_v_read_names : Option Addr} {sl_v_read_names : Array (Option Value)} {oc_v_read_names kV_v_read_names dc_v_read_names pm_v_read_names cd_v_read_names ct_v_read_names : Value}
    {od_v_told_once an_v_told_once : Option Addr} {sl_v_told_once : Array (Option Value)} {oc_v_told_once kV_v_told_once dc_v_told_once pm_v_told_once cd_v_told_once ct_v_told_once : Value}
    {od_v_read_rooms an_v_read_rooms : Option Addr} {sl_v_read_rooms : Array (Option Value)} {oc_v_read_rooms kV_v_read_rooms dc_v_read_rooms pm_v_read_rooms cd_v_read_rooms ct_v_read_rooms : Value}
    {od_v_read_whole an_v_read_whole : Option Addr} {sl_v_read_whole : Array (Option Value)} {oc_v_read_whole kV_v_read_whole dc_v_read_whole pm_v_read_whole cd_v_read_whole ct_v_read_whole : Value}
    {od_Body_init an_Body_init : Option Addr} {sl_Body_init : Array (Option Value)} {oc_Body_init kV_Body_init dc_Body_init pm_Body_init cd_Body_init ct_Body_init : Value}
    {od_Body_many_open an_Body_many_open : Option Addr} {sl_Body_many_open : Array (Option Value)} {oc_Body_many_open kV_Body_many_open dc_Body_many_open pm_Body_many_open cd_Body_many_open ct_Body_many_open : Value}
    {od_Body_takes an_Body_takes : Option Addr} {sl_Body_takes : Array (Option Value)} {oc_Body_takes kV_Body_takes dc_Body_takes pm_Body_takes cd_Body_takes ct_Body_takes : Value}
    {od_Body_takes_done an_Body_takes_done : Option Addr} {sl_Body_takes_done : Array (Option Value)} {oc_Body_takes_done kV_Body_takes_done dc_Body_takes_done pm_Body_takes_done cd_Body_takes_done ct_Body_takes_done : Value}
    {od_Body_takes_head an_Body_takes_head : Option Addr} {sl_Body_takes_head : Array (Option Value)} {oc_Body_takes_head kV_Body_takes_head dc_Body_takes_head pm_Body_takes_head cd_Body_takes_head ct_Body_takes_head : Value}
    {od_Body_takes_clause an_Body_takes_clause : Option Addr} {sl_Body_takes_clause : Array (Option Value)} {oc_Body_takes_clause kV_Body_takes_clause dc_Body_takes_clause pm_Body_takes_clause cd_Body_takes_clause ct_Body_takes_clause : Value}
    {od_Body_put_in an_Body_put_in : Option Addr} {sl_Body_put_in : Array (Option Value)} {oc_Body_put_in kV_Body_put_in dc_Body_put_in pm_Body_put_in cd_Body_put_in ct_Body_put_in : Value}
    {od_Body_closed an_Body_closed : Option Addr} {sl_Body_closed : Array (Option Value)} {oc_Body_closed kV_Body_closed dc_Body_closed pm_Body_closed cd_Body_closed ct_Body_closed : Value}
    {od_w_cell_at an_w_cell_at : Option Addr} {sl_w_cell_at : Array (Option Value)} {oc_w_cell_at kV_w_cell_at dc_w_cell_at pm_w_cell_at cd_w_cell_at ct_w_cell_at : Value}
    {od_w_mix an_w_mix : Option Addr} {sl_w_mix : Array (Option Value)} {oc_w_mix kV_w_mix dc_w_mix pm_w_mix cd_w_mix ct_w_mix : Value}
    {od_w_name an_w_name : Option Addr} {sl_w_name : Array (Option Value)} {oc_w_name kV_w_name dc_w_name pm_w_name cd_w_name ct_w_name : Value}
    {od_w_no_text an_w_no_text : Option Addr} {sl_w_no_text : Array (Option Value)} {oc_w_no_text kV_w_no_text dc_w_no_text pm_w_no_text cd_w_no_text ct_w_no_text : Value}
    {od_w_refused_at an_w_refused_at : Option Addr} {sl_w_refused_at : Array (Option Value)} {oc_w_refused_at kV_w_refused_at dc_w_refused_at pm_w_refused_at cd_w_refused_at ct_w_refused_at : Value}
    {od_w_nest an_w_nest : Option Addr} {sl_w_nest : Array (Option Value)} {oc_w_nest kV_w_nest dc_w_nest pm_w_nest cd_w_nest ct_w_nest : Value}
    {od_w_header_rows an_w_header_rows : Option Addr} {sl_w_header_rows : Array (Option Value)} {oc_w_header_rows kV_w_header_rows dc_w_header_rows pm_w_header_rows cd_w_header_rows ct_w_header_rows : Value}
    {od_w_first_beyond an_w_first_beyond : Option Addr} {sl_w_first_beyond : Array (Option Value)} {oc_w_first_beyond kV_w_first_beyond dc_w_first_beyond pm_w_first_beyond cd_w_first_beyond ct_w_first_beyond : Value}
    {od_v_law an_v_law : Option Addr} {sl_v_law : Array (Option Value)} {oc_v_law kV_v_law dc_v_law pm_v_law cd_v_law ct_v_law : Value}
    {tk_LETTERS tk_FIGURES tk_MOST_LETTERS tk_MOST_FIGURES tk_MOST_ROOMS tk_MOST_PARTIES tk_MOST_ACTS tk_MOST_ROWS tk_MOST_OPEN tk_FIRST_ROOM : Tok}
    {oK_KEPT : Obj} {oK_MARKS : Obj} {oX_PactError : Obj} {oX_NoText : Obj}
    (ac_PactError : PySem.W.nsIn K mainGlobals "PactError" = some (some (.ref c_PactError)))
    (ac_NoText : PySem.W.nsIn K mainGlobals "NoText" = some (some (.ref c_NoText)))
    (ac_NoName : PySem.W.nsIn K mainGlobals "NoName" = some (some (.ref c_NoName)))
    (ac_CalmRoom : PySem.W.nsIn K mainGlobals "CalmRoom" = some (some (.ref c_CalmRoom)))
    (ac_NoDeed : PySem.W.nsIn K mainGlobals "NoDeed" = some (some (.ref c_NoDeed)))
    (ac_TooMany : PySem.W.nsIn K mainGlobals "TooMany" = some (some (.ref c_TooMany)))
    (ac_Breach : PySem.W.nsIn K mainGlobals "Breach" = some (some (.ref c_Breach)))
    (ac_NoStand : PySem.W.nsIn K mainGlobals "NoStand" = some (some (.ref c_NoStand)))
    (ac_NoPair : PySem.W.nsIn K mainGlobals "NoPair" = some (some (.ref c_NoPair)))
    (ac_NoChange : PySem.W.nsIn K mainGlobals "NoChange" = some (some (.ref c_NoChange)))
    (ac_NoRow : PySem.W.nsIn K mainGlobals "NoRow" = some (some (.ref c_NoRow)))
    (ac_Row : PySem.W.nsIn K mainGlobals "Row" = some (some (.ref c_Row)))
    (ac_Clause : PySem.W.nsIn K mainGlobals "Clause" = some (some (.ref c_Clause)))
    (ac_Duty : PySem.W.nsIn K mainGlobals "Duty" = some (some (.ref c_Duty)))
    (ac_Leave : PySem.W.nsIn K mainGlobals "Leave" = some (some (.ref c_Leave)))
    (ac_Ban : PySem.W.nsIn K mainGlobals "Ban" = some (some (.ref c_Ban)))
    (ac_Power : PySem.W.nsIn K mainGlobals "Power" = some (some (.ref c_Power)))
    (ac_Let : PySem.W.nsIn K mainGlobals "Let" = some (some (.ref c_Let)))
    (ac_Part : PySem.W.nsIn K mainGlobals "Part" = some (some (.ref c_Part)))
    (ac_Pact : PySem.W.nsIn K mainGlobals "Pact" = some (some (.ref c_Pact)))
    (ac_Body : PySem.W.nsIn K mainGlobals "Body" = some (some (.ref c_Body)))
    (ak_KEPT : PySem.W.nsIn K mainGlobals "KEPT" = some (some (.ref k_KEPT)))
    (ak_LETTERS : PySem.W.nsIn K mainGlobals "LETTERS" = some (some (.str "abcdefghijklmnopqrstuvwxyz" tk_LETTERS)))
    (ak_FIGURES : PySem.W.nsIn K mainGlobals "FIGURES" = some (some (.str "0123456789" tk_FIGURES)))
    (ak_MOST_LETTERS : PySem.W.nsIn K mainGlobals "MOST_LETTERS" = some (some (.int 8 tk_MOST_LETTERS)))
    (ak_MOST_FIGURES : PySem.W.nsIn K mainGlobals "MOST_FIGURES" = some (some (.int 20 tk_MOST_FIGURES)))
    (ak_MARKS : PySem.W.nsIn K mainGlobals "MARKS" = some (some (.ref k_MARKS)))
    (ak_MOST_ROOMS : PySem.W.nsIn K mainGlobals "MOST_ROOMS" = some (some (.int 12 tk_MOST_ROOMS)))
    (ak_MOST_PARTIES : PySem.W.nsIn K mainGlobals "MOST_PARTIES" = some (some (.int 4 tk_MOST_PARTIES)))
    (ak_MOST_ACTS : PySem.W.nsIn K mainGlobals "MOST_ACTS" = some (some (.int 6 tk_MOST_ACTS)))
    (ak_MOST_ROWS : PySem.W.nsIn K mainGlobals "MOST_ROWS" = some (some (.int 90 tk_MOST_ROWS)))
    (ak_MOST_OPEN : PySem.W.nsIn K mainGlobals "MOST_OPEN" = some (some (.int 6 tk_MOST_OPEN)))
    (ak_FIRST_ROOM : PySem.W.nsIn K mainGlobals "FIRST_ROOM" = some (some (.int 2 tk_FIRST_ROOM)))
    (a_NoText_init : PySem.W.findIn K (.ref c_NoText) "__init__" = some (some (.ref f_NoText_init)))
    (l_NoText_init : K.lookup f_NoText_init = some ⟨oc_NoText_init, od_NoText_init, .func (PySem.W.fnOf "__init__" "NoText.__init__" (defArgs s_NoText_init) (defBody s_NoText_init) (defScope s_NoText_init) .none kV_NoText_init dc_NoText_init pm_NoText_init an_NoText_init cd_NoText_init ct_NoText_init), sl_NoText_init⟩)
    (c_NoText_init_ : PySem.W.codeIn K cd_NoText_init "NoText.__init__" = true)
    (k_NoText_init_ : PySem.W.keepIn K (.ref f_NoText_init) = true)
    (a_Clause_init : PySem.W.findIn K (.ref c_Clause) "__init__" = some (some (.ref f_Clause_init)))
    (l_Clause_init : K.lookup f_Clause_init = some ⟨oc_Clause_init, od_Clause_init, .func (PySem.W.fnOf "__init__" "Clause.__init__" (defArgs s_Clause_init) (defBody s_Clause_init) (defScope s_Clause_init) .none kV_Clause_init dc_Clause_init pm_Clause_init an_Clause_init cd_Clause_init ct_Clause_init), sl_Clause_init⟩)
    (c_Clause_init_ : PySem.W.codeIn K cd_Clause_init "Clause.__init__" = true)
    (k_Clause_init_ : PySem.W.keepIn K (.ref f_Clause_init) = true)
    (a_Clause_number : PySem.W.findIn K (.ref c_Clause) "number" = some (some (.ref f_Clause_number)))
    (l_Clause_number : K.lookup f_Clause_number = some ⟨oc_Clause_number, od_Clause_number, .func (PySem.W.fnOf "number" "Clause.number" (defArgs s_Clause_number) (defBody s_Clause_number) (defScope s_Clause_number) .none kV_Clause_number dc_Clause_number pm_Clause_number an_Clause_number cd_Clause_number ct_Clause_number), sl_Clause_number⟩)
    (c_Clause_number_ : PySem.W.codeIn K cd_Clause_number "Clause.number" = true)
    (k_Clause_number_ : PySem.W.keepIn K (.ref f_Clause_number) = true)
    (a_Duty_init : PySem.W.findIn K (.ref c_Duty) "__init__" = some (some (.ref f_Duty_init)))
    (l_Duty_init : K.lookup f_Duty_init = some ⟨oc_Duty_init, od_Duty_init, .func (PySem.W.fnOf "__init__" "Duty.__init__" (defArgs s_Duty_init) (defBody s_Duty_init) (defScope s_Duty_init) .none kV_Duty_init dc_Duty_init pm_Duty_init an_Duty_init cd_Duty_init ct_Duty_init), sl_Duty_init⟩)
    (c_Duty_init_ : PySem.W.codeIn K cd_Duty_init "Duty.__init__" = true)
    (k_Duty_init_ : PySem.W.keepIn K (.ref f_Duty_init) = true)
    (a_Duty_number : PySem.W.findIn K (.ref c_Duty) "number" = some (some (.ref f_Duty_number)))
    (l_Duty_number : K.lookup f_Duty_number = some ⟨oc_Duty_number, od_Duty_number, .func (PySem.W.fnOf "number" "Duty.number" (defArgs s_Duty_number) (defBody s_Duty_number) (defScope s_Duty_number) .none kV_Duty_number dc_Duty_number pm_Duty_number an_Duty_number cd_Duty_number ct_Duty_number), sl_Duty_number⟩)
    (c_Duty_number_ : PySem.W.codeIn K cd_Duty_number "Duty.number" = true)
    (k_Duty_number_ : PySem.W.keepIn K (.ref f_Duty_number) = true)
    (a_Ban_init : PySem.W.findIn K (.ref c_Ban) "__init__" = some (some (.ref f_Ban_init)))
    (l_Ban_init : K.lookup f_Ban_init = some ⟨oc_Ban_init, od_Ban_init, .func (PySem.W.fnOf "__init__" "Ban.__init__" (defArgs s_Ban_init) (defBody s_Ban_init) (defScope s_Ban_init) .none kV_Ban_init dc_Ban_init pm_Ban_init an_Ban_init cd_Ban_init ct_Ban_init), sl_Ban_init⟩)
    (c_Ban_init_ : PySem.W.codeIn K cd_Ban_init "Ban.__init__" = true)
    (k_Ban_init_ : PySem.W.keepIn K (.ref f_Ban_init) = true)
    (a_Power_init : PySem.W.findIn K (.ref c_Power) "__init__" = some (some (.ref f_Power_init)))
    (l_Power_init : K.lookup f_Power_init = some ⟨oc_Power_init, od_Power_init, .func (PySem.W.fnOf "__init__" "Power.__init__" (defArgs s_Power_init) (defBody s_Power_init) (defScope s_Power_init) .none kV_Power_init dc_Power_init pm_Power_init an_Power_init cd_Power_init ct_Power_init), sl_Power_init⟩)
    (c_Power_init_ : PySem.W.codeIn K cd_Power_init "Power.__init__" = true)
    (k_Power_init_ : PySem.W.keepIn K (.ref f_Power_init) = true)
    (a_Let_init : PySem.W.findIn K (.ref c_Let) "__init__" = some (some (.ref f_Let_init)))
    (l_Let_init : K.lookup f_Let_init = some ⟨oc_Let_init, od_Let_init, .func (PySem.W.fnOf "__init__" "Let.__init__" (defArgs s_Let_init) (defBody s_Let_init) (defScope s_Let_init) .none kV_Let_init dc_Let_init pm_Let_init an_Let_init cd_Let_init ct_Let_init), sl_Let_init⟩)
    (c_Let_init_ : PySem.W.codeIn K cd_Let_init "Let.__init__" = true)
    (k_Let_init_ : PySem.W.keepIn K (.ref f_Let_init) = true)
    (a_Part_init : PySem.W.findIn K (.ref c_Part) "__init__" = some (some (.ref f_Part_init)))
    (l_Part_init : K.lookup f_Part_init = some ⟨oc_Part_init, od_Part_init, .func (PySem.W.fnOf "__init__" "Part.__init__" (defArgs s_Part_init) (defBody s_Part_init) (defScope s_Part_init) .none kV_Part_init dc_Part_init pm_Part_init an_Part_init cd_Part_init ct_Part_init), sl_Part_init⟩)
    (c_Part_init_ : PySem.W.codeIn K cd_Part_init "Part.__init__" = true)
    (k_Part_init_ : PySem.W.keepIn K (.ref f_Part_init) = true)
    (a_Pact_init : PySem.W.findIn K (.ref c_Pact) "__init__" = some (some (.ref f_Pact_init)))
    (l_Pact_init : K.lookup f_Pact_init = some ⟨oc_Pact_init, od_Pact_init, .func (PySem.W.fnOf "__init__" "Pact.__init__" (defArgs s_Pact_init) (defBody s_Pact_init) (defScope s_Pact_init) .none kV_Pact_init dc_Pact_init pm_Pact_init an_Pact_init cd_Pact_init ct_Pact_init), sl_Pact_init⟩)
    (c_Pact_init_ : PySem.W.codeIn K cd_Pact_init "Pact.__init__" = true)
    (k_Pact_init_ : PySem.W.keepIn K (.ref f_Pact_init) = true)
    (a_v_is_name : PySem.W.nsIn K mainGlobals "is_name" = some (some (.ref f_v_is_name)))
    (l_v_is_name : K.lookup f_v_is_name = some ⟨oc_v_is_name, od_v_is_name, .func (PySem.W.fnOf "is_name" "is_name" (defArgs s_v_is_name) (defBody s_v_is_name) (defScope s_v_is_name) .none kV_v_is_name dc_v_is_name pm_v_is_name an_v_is_name cd_v_is_name ct_v_is_name), sl_v_is_name⟩)
    (c_v_is_name_ : PySem.W.codeIn K cd_v_is_name "is_name" = true)
    (k_v_is_name_ : PySem.W.keepIn K (.ref f_v_is_name) = true)
    (a_v_number_of : PySem.W.nsIn K mainGlobals "number_of" = some (some (.ref f_v_number_of)))
    (l_v_number_of : K.lookup f_v_number_of = some ⟨oc_v_number_of, od_v_number_of, .func (PySem.W.fnOf "number_of" "number_of" (defArgs s_v_number_of) (defBody s_v_number_of) (defScope s_v_number_of) .none kV_v_number_of dc_v_number_of pm_v_number_of an_v_number_of cd_v_number_of ct_v_number_of), sl_v_number_of⟩)
    (c_v_number_of_ : PySem.W.codeIn K cd_v_number_of "number_of" = true)
    (k_v_number_of_ : PySem.W.keepIn K (.ref f_v_number_of) = true)
    (a_v_written_with : PySem.W.nsIn K mainGlobals "written_with" = some (some (.ref f_v_written_with)))
    (l_v_written_with : K.lookup f_v_written_with = some ⟨oc_v_written_with, od_v_written_with, .func (PySem.W.fnOf "written_with" "written_with" (defArgs s_v_written_with) (defBody s_v_written_with) (defScope s_v_written_with) .none kV_v_written_with dc_v_written_with pm_v_written_with an_v_written_with cd_v_written_with ct_v_written_with), sl_v_written_with⟩)
    (c_v_written_with_ : PySem.W.codeIn K cd_v_written_with "written_with" = true)
    (k_v_written_with_ : PySem.W.keepIn K (.ref f_v_written_with) = true)
    (a_v_names_of : PySem.W.nsIn K mainGlobals "names_of" = some (some (.ref f_v_names_of)))
    (l_v_names_of : K.lookup f_v_names_of = some ⟨oc_v_names_of, od_v_names_of, .func (PySem.W.fnOf "names_of" "names_of" (defArgs s_v_names_of) (defBody s_v_names_of) (defScope s_v_names_of) .none kV_v_names_of dc_v_names_of pm_v_names_of an_v_names_of cd_v_names_of ct_v_names_of), sl_v_names_of⟩)
    (c_v_names_of_ : PySem.W.codeIn K cd_v_names_of "names_of" = true)
    (k_v_names_of_ : PySem.W.keepIn K (.ref f_v_names_of) = true)
    (a_v_are_names : PySem.W.nsIn K mainGlobals "are_names" = some (some (.ref f_v_are_names)))
    (l_v_are_names : K.lookup f_v_are_names = some ⟨oc_v_are_names, od_v_are_names, .func (PySem.W.fnOf "are_names" "are_names" (defArgs s_v_are_names) (defBody s_v_are_names) (defScope s_v_are_names) .none kV_v_are_names dc_v_are_names pm_v_are_names an_v_are_names cd_v_are_names ct_v_are_names), sl_v_are_names⟩)
    (c_v_are_names_ : PySem.W.codeIn K cd_v_are_names "are_names" = true)
    (k_v_are_names_ : PySem.W.keepIn K (.ref f_v_are_names) = true)
    (a_v_room_of : PySem.W.nsIn K mainGlobals "room_of" = some (some (.ref f_v_room_of)))
    (l_v_room_of : K.lookup f_v_room_of = some ⟨oc_v_room_of, od_v_room_of, .func (PySem.W.fnOf "room_of" "room_of" (defArgs s_v_room_of) (defBody s_v_room_of) (defScope s_v_room_of) .none kV_v_room_of dc_v_room_of pm_v_room_of an_v_room_of cd_v_room_of ct_v_room_of), sl_v_room_of⟩)
    (c_v_room_of_ : PySem.W.codeIn K cd_v_room_of "room_of" = true)
    (k_v_room_of_ : PySem.W.keepIn K (.ref f_v_room_of) = true)
    (a_v_let_of : PySem.W.nsIn K mainGlobals "let_of" = some (some (.ref f_v_let_of)))
    (l_v_let_of : K.lookup f_v_let_of = some ⟨oc_v_let_of, od_v_let_of, .func (PySem.W.fnOf "let_of" "let_of" (defArgs s_v_let_of) (defBody s_v_let_of) (defScope s_v_let_of) .none kV_v_let_of dc_v_let_of pm_v_let_of an_v_let_of cd_v_let_of ct_v_let_of), sl_v_let_of⟩)
    (c_v_let_of_ : PySem.W.codeIn K cd_v_let_of "let_of" = true)
    (k_v_let_of_ : PySem.W.keepIn K (.ref f_v_let_of) = true)
    (a_v_part_of : PySem.W.nsIn K mainGlobals "part_of" = some (some (.ref f_v_part_of)))
    (l_v_part_of : K.lookup f_v_part_of = some ⟨oc_v_part_of, od_v_part_of, .func (PySem.W.fnOf "part_of" "part_of" (defArgs s_v_part_of) (defBody s_v_part_of) (defScope s_v_part_of) .none kV_v_part_of dc_v_part_of pm_v_part_of an_v_part_of cd_v_part_of ct_v_part_of), sl_v_part_of⟩)
    (c_v_part_of_ : PySem.W.codeIn K cd_v_part_of "part_of" = true)
    (k_v_part_of_ : PySem.W.keepIn K (.ref f_v_part_of) = true)
    (a_v_clause_of : PySem.W.nsIn K mainGlobals "clause_of" = some (some (.ref f_v_clause_of)))
    (l_v_clause_of : K.lookup f_v_clause_of = some ⟨oc_v_clause_of, od_v_clause_of, .func (PySem.W.fnOf "clause_of" "clause_of" (defArgs s_v_clause_of) (defBody s_v_clause_of) (defScope s_v_clause_of) .none kV_v_clause_of dc_v_clause_of pm_v_clause_of an_v_clause_of cd_v_clause_of ct_v_clause_of), sl_v_clause_of⟩)
    (c_v_clause_of_ : PySem.W.codeIn K cd_v_clause_of "clause_of" = true)
    (k_v_clause_of_ : PySem.W.keepIn K (.ref f_v_clause_of) = true)
    (a_v_fits_form : PySem.W.nsIn K mainGlobals "fits_form" = some (some (.ref f_v_fits_form)))
    (l_v_fits_form : K.lookup f_v_fits_form = some ⟨oc_v_fits_form, od_v_fits_form, .func (PySem.W.fnOf "fits_form" "fits_form" (defArgs s_v_fits_form) (defBody s_v_fits_form) (defScope s_v_fits_form) .none kV_v_fits_form dc_v_fits_form pm_v_fits_form an_v_fits_form cd_v_fits_form ct_v_fits_form), sl_v_fits_form⟩)
    (c_v_fits_form_ : PySem.W.codeIn K cd_v_fits_form "fits_form" = true)
    (k_v_fits_form_ : PySem.W.keepIn K (.ref f_v_fits_form) = true)
    (a_v_fits_place : PySem.W.nsIn K mainGlobals "fits_place" = some (some (.ref f_v_fits_place)))
    (l_v_fits_place : K.lookup f_v_fits_place = some ⟨oc_v_fits_place, od_v_fits_place, .func (PySem.W.fnOf "fits_place" "fits_place" (defArgs s_v_fits_place) (defBody s_v_fits_place) (defScope s_v_fits_place) .none kV_v_fits_place dc_v_fits_place pm_v_fits_place an_v_fits_place cd_v_fits_place ct_v_fits_place), sl_v_fits_place⟩)
    (c_v_fits_place_ : PySem.W.codeIn K cd_v_fits_place "fits_place" = true)
    (k_v_fits_place_ : PySem.W.keepIn K (.ref f_v_fits_place) = true)
    (a_v_read : PySem.W.nsIn K mainGlobals "read" = some (some (.ref f_v_read)))
    (l_v_read : K.lookup f_v_read = some ⟨oc_v_read, od_v_read, .func (PySem.W.fnOf "read" "read" (defArgs s_v_read) (defBody s_v_read) (defScope s_v_read) .none kV_v_read dc_v_read pm_v_read an_v_read cd_v_read ct_v_read), sl_v_read⟩)
    (c_v_read_ : PySem.W.codeIn K cd_v_read "read" = true)
    (k_v_read_ : PySem.W.keepIn K (.ref f_v_read) = true)
    (a_v_read_names : PySem.W.nsIn K mainGlobals "read_names" = some (some (.ref f_v_read_names)))
    (l_v_read_names : K.lookup f_v_read_names = some ⟨oc_v_read_names, od_v_read_names, .func (PySem.W.fnOf "read_names" "read_names" (defArgs s_v_read_names) (defBody s_v_read_names) (defScope s_v_read_names) .none kV_v_read_names dc_v_read_names pm_v_read_names an_v_read_names cd_v_read_names ct_v_read_names), sl_v_read_names⟩)
    (c_v_read_names_ : PySem.W.codeIn K cd_v_read_names "read_names" = true)
    (k_v_read_names_ : PySem.W.keepIn K (.ref f_v_read_names) = true)
    (a_v_told_once : PySem.W.nsIn K mainGlobals "told_once" = some (some (.ref f_v_told_once)))
    (l_v_told_once : K.lookup f_v_told_once = some ⟨oc_v_told_once, od_v_told_once, .func (PySem.W.fnOf "told_once" "told_once" (defArgs s_v_told_once) (defBody s_v_told_once) (defScope s_v_told_once) .none kV_v_told_once dc_v_told_once pm_v_told_once an_v_told_once cd_v_told_once ct_v_told_once), sl_v_told_once⟩)
    (c_v_told_once_ : PySem.W.codeIn K cd_v_told_once "told_once" = true)
    (k_v_told_once_ : PySem.W.keepIn K (.ref f_v_told_once) = true)
    (a_v_read_rooms : PySem.W.nsIn K mainGlobals "read_rooms" = some (some (.ref f_v_read_rooms)))
    (l_v_read_rooms : K.lookup f_v_read_rooms = some ⟨oc_v_read_rooms, od_v_read_rooms, .func (PySem.W.fnOf "read_rooms" "read_rooms" (defArgs s_v_read_rooms) (defBody s_v_read_rooms) (defScope s_v_read_rooms) .none kV_v_read_rooms dc_v_read_rooms pm_v_read_rooms an_v_read_rooms cd_v_read_rooms ct_v_read_rooms), sl_v_read_rooms⟩)
    (c_v_read_rooms_ : PySem.W.codeIn K cd_v_read_rooms "read_rooms" = true)
    (k_v_read_rooms_ : PySem.W.keepIn K (.ref f_v_read_rooms) = true)
    (a_v_read_whole : PySem.W.nsIn K mainGlobals "read_whole" = some (some (.ref f_v_read_whole)))
    (l_v_read_whole : K.lookup f_v_read_whole = some ⟨oc_v_read_whole, od_v_read_whole, .func (PySem.W.fnOf "read_whole" "read_whole" (defArgs s_v_read_whole) (defBody s_v_read_whole) (defScope s_v_read_whole) .none kV_v_read_whole dc_v_read_whole pm_v_read_whole an_v_read_whole cd_v_read_whole ct_v_read_whole), sl_v_read_whole⟩)
    (c_v_read_whole_ : PySem.W.codeIn K cd_v_read_whole "read_whole" = true)
    (k_v_read_whole_ : PySem.W.keepIn K (.ref f_v_read_whole) = true)
    (a_Body_init : PySem.W.findIn K (.ref c_Body) "__init__" = some (some (.ref f_Body_init)))
    (l_Body_init : K.lookup f_Body_init = some ⟨oc_Body_init, od_Body_init, .func (PySem.W.fnOf "__init__" "Body.__init__" (defArgs s_Body_init) (defBody s_Body_init) (defScope s_Body_init) .none kV_Body_init dc_Body_init pm_Body_init an_Body_init cd_Body_init ct_Body_init), sl_Body_init⟩)
    (c_Body_init_ : PySem.W.codeIn K cd_Body_init "Body.__init__" = true)
    (k_Body_init_ : PySem.W.keepIn K (.ref f_Body_init) = true)
    (a_Body_many_open : PySem.W.findIn K (.ref c_Body) "many_open" = some (some (.ref f_Body_many_open)))
    (l_Body_many_open : K.lookup f_Body_many_open = some ⟨oc_Body_many_open, od_Body_many_open, .func (PySem.W.fnOf "many_open" "Body.many_open" (defArgs s_Body_many_open) (defBody s_Body_many_open) (defScope s_Body_many_open) .none kV_Body_many_open dc_Body_many_open pm_Body_many_open an_Body_many_open cd_Body_many_open ct_Body_many_open), sl_Body_many_open⟩)
    (c_Body_many_open_ : PySem.W.codeIn K cd_Body_many_open "Body.many_open" = true)
    (k_Body_many_open_ : PySem.W.keepIn K (.ref f_Body_many_open) = true)
    (a_Body_takes : PySem.W.findIn K (.ref c_Body) "takes" = some (some (.ref f_Body_takes)))
    (l_Body_takes : K.lookup f_Body_takes = some ⟨oc_Body_takes, od_Body_takes, .func (PySem.W.fnOf "takes" "Body.takes" (defArgs s_Body_takes) (defBody s_Body_takes) (defScope s_Body_takes) .none kV_Body_takes dc_Body_takes pm_Body_takes an_Body_takes cd_Body_takes ct_Body_takes), sl_Body_takes⟩)
    (c_Body_takes_ : PySem.W.codeIn K cd_Body_takes "Body.takes" = true)
    (k_Body_takes_ : PySem.W.keepIn K (.ref f_Body_takes) = true)
    (a_Body_takes_done : PySem.W.findIn K (.ref c_Body) "takes_done" = some (some (.ref f_Body_takes_done)))
    (l_Body_takes_done : K.lookup f_Body_takes_done = some ⟨oc_Body_takes_done, od_Body_takes_done, .func (PySem.W.fnOf "takes_done" "Body.takes_done" (defArgs s_Body_takes_done) (defBody s_Body_takes_done) (defScope s_Body_takes_done) .none kV_Body_takes_done dc_Body_takes_done pm_Body_takes_done an_Body_takes_done cd_Body_takes_done ct_Body_takes_done), sl_Body_takes_done⟩)
    (c_Body_takes_done_ : PySem.W.codeIn K cd_Body_takes_done "Body.takes_done" = true)
    (k_Body_takes_done_ : PySem.W.keepIn K (.ref f_Body_takes_done) = true)
    (a_Body_takes_head : PySem.W.findIn K (.ref c_Body) "takes_head" = some (some (.ref f_Body_takes_head)))
    (l_Body_takes_head : K.lookup f_Body_takes_head = some ⟨oc_Body_takes_head, od_Body_takes_head, .func (PySem.W.fnOf "takes_head" "Body.takes_head" (defArgs s_Body_takes_head) (defBody s_Body_takes_head) (defScope s_Body_takes_head) .none kV_Body_takes_head dc_Body_takes_head pm_Body_takes_head an_Body_takes_head cd_Body_takes_head ct_Body_takes_head), sl_Body_takes_head⟩)
    (c_Body_takes_head_ : PySem.W.codeIn K cd_Body_takes_head "Body.takes_head" = true)
    (k_Body_takes_head_ : PySem.W.keepIn K (.ref f_Body_takes_head) = true)
    (a_Body_takes_clause : PySem.W.findIn K (.ref c_Body) "takes_clause" = some (some (.ref f_Body_takes_clause)))
    (l_Body_takes_clause : K.lookup f_Body_takes_clause = some ⟨oc_Body_takes_clause, od_Body_takes_clause, .func (PySem.W.fnOf "takes_clause" "Body.takes_clause" (defArgs s_Body_takes_clause) (defBody s_Body_takes_clause) (defScope s_Body_takes_clause) .none kV_Body_takes_clause dc_Body_takes_clause pm_Body_takes_clause an_Body_takes_clause cd_Body_takes_clause ct_Body_takes_clause), sl_Body_takes_clause⟩)
    (c_Body_takes_clause_ : PySem.W.codeIn K cd_Body_takes_clause "Body.takes_clause" = true)
    (k_Body_takes_clause_ : PySem.W.keepIn K (.ref f_Body_takes_clause) = true)
    (a_Body_put_in : PySem.W.findIn K (.ref c_Body) "put_in" = some (some (.ref f_Body_put_in)))
    (l_Body_put_in : K.lookup f_Body_put_in = some ⟨oc_Body_put_in, od_Body_put_in, .func (PySem.W.fnOf "put_in" "Body.put_in" (defArgs s_Body_put_in) (defBody s_Body_put_in) (defScope s_Body_put_in) .none kV_Body_put_in dc_Body_put_in pm_Body_put_in an_Body_put_in cd_Body_put_in ct_Body_put_in), sl_Body_put_in⟩)
    (c_Body_put_in_ : PySem.W.codeIn K cd_Body_put_in "Body.put_in" = true)
    (k_Body_put_in_ : PySem.W.keepIn K (.ref f_Body_put_in) = true)
    (a_Body_closed : PySem.W.findIn K (.ref c_Body) "closed" = some (some (.ref f_Body_closed)))
    (l_Body_closed : K.lookup f_Body_closed = some ⟨oc_Body_closed, od_Body_closed, .func (PySem.W.fnOf "closed" "Body.closed" (defArgs s_Body_closed) (defBody s_Body_closed) (defScope s_Body_closed) .none kV_Body_closed dc_Body_closed pm_Body_closed an_Body_closed cd_Body_closed ct_Body_closed), sl_Body_closed⟩)
    (c_Body_closed_ : PySem.W.codeIn K cd_Body_closed "Body.closed" = true)
    (k_Body_closed_ : PySem.W.keepIn K (.ref f_Body_closed) = true)
    (a_w_cell_at : PySem.W.nsIn K mainGlobals "_law_cell_at" = some (some (.ref f_w_cell_at)))
    (l_w_cell_at : K.lookup f_w_cell_at = some ⟨oc_w_cell_at, od_w_cell_at, .func (PySem.W.fnOf "_law_cell_at" "_law_cell_at" (defArgs s_w_cell_at) (defBody s_w_cell_at) (defScope s_w_cell_at) .none kV_w_cell_at dc_w_cell_at pm_w_cell_at an_w_cell_at cd_w_cell_at ct_w_cell_at), sl_w_cell_at⟩)
    (c_w_cell_at_ : PySem.W.codeIn K cd_w_cell_at "_law_cell_at" = true)
    (k_w_cell_at_ : PySem.W.keepIn K (.ref f_w_cell_at) = true)
    (a_w_mix : PySem.W.nsIn K mainGlobals "_law_mix" = some (some (.ref f_w_mix)))
    (l_w_mix : K.lookup f_w_mix = some ⟨oc_w_mix, od_w_mix, .func (PySem.W.fnOf "_law_mix" "_law_mix" (defArgs s_w_mix) (defBody s_w_mix) (defScope s_w_mix) .none kV_w_mix dc_w_mix pm_w_mix an_w_mix cd_w_mix ct_w_mix), sl_w_mix⟩)
    (c_w_mix_ : PySem.W.codeIn K cd_w_mix "_law_mix" = true)
    (k_w_mix_ : PySem.W.keepIn K (.ref f_w_mix) = true)
    (a_w_name : PySem.W.nsIn K mainGlobals "_law_name" = some (some (.ref f_w_name)))
    (l_w_name : K.lookup f_w_name = some ⟨oc_w_name, od_w_name, .func (PySem.W.fnOf "_law_name" "_law_name" (defArgs s_w_name) (defBody s_w_name) (defScope s_w_name) .none kV_w_name dc_w_name pm_w_name an_w_name cd_w_name ct_w_name), sl_w_name⟩)
    (c_w_name_ : PySem.W.codeIn K cd_w_name "_law_name" = true)
    (k_w_name_ : PySem.W.keepIn K (.ref f_w_name) = true)
    (a_w_no_text : PySem.W.nsIn K mainGlobals "_law_no_text" = some (some (.ref f_w_no_text)))
    (l_w_no_text : K.lookup f_w_no_text = some ⟨oc_w_no_text, od_w_no_text, .func (PySem.W.fnOf "_law_no_text" "_law_no_text" (defArgs s_w_no_text) (defBody s_w_no_text) (defScope s_w_no_text) .none kV_w_no_text dc_w_no_text pm_w_no_text an_w_no_text cd_w_no_text ct_w_no_text), sl_w_no_text⟩)
    (c_w_no_text_ : PySem.W.codeIn K cd_w_no_text "_law_no_text" = true)
    (k_w_no_text_ : PySem.W.keepIn K (.ref f_w_no_text) = true)
    (a_w_refused_at : PySem.W.nsIn K mainGlobals "_law_refused_at" = some (some (.ref f_w_refused_at)))
    (l_w_refused_at : K.lookup f_w_refused_at = some ⟨oc_w_refused_at, od_w_refused_at, .func (PySem.W.fnOf "_law_refused_at" "_law_refused_at" (defArgs s_w_refused_at) (defBody s_w_refused_at) (defScope s_w_refused_at) .none kV_w_refused_at dc_w_refused_at pm_w_refused_at an_w_refused_at cd_w_refused_at ct_w_refused_at), sl_w_refused_at⟩)
    (c_w_refused_at_ : PySem.W.codeIn K cd_w_refused_at "_law_refused_at" = true)
    (k_w_refused_at_ : PySem.W.keepIn K (.ref f_w_refused_at) = true)
    (a_w_nest : PySem.W.nsIn K mainGlobals "_law_nest" = some (some (.ref f_w_nest)))
    (l_w_nest : K.lookup f_w_nest = some ⟨oc_w_nest, od_w_nest, .func (PySem.W.fnOf "_law_nest" "_law_nest" (defArgs s_w_nest) (defBody s_w_nest) (defScope s_w_nest) .none kV_w_nest dc_w_nest pm_w_nest an_w_nest cd_w_nest ct_w_nest), sl_w_nest⟩)
    (c_w_nest_ : PySem.W.codeIn K cd_w_nest "_law_nest" = true)
    (k_w_nest_ : PySem.W.keepIn K (.ref f_w_nest) = true)
    (a_w_header_rows : PySem.W.nsIn K mainGlobals "_law_header_rows" = some (some (.ref f_w_header_rows)))
    (l_w_header_rows : K.lookup f_w_header_rows = some ⟨oc_w_header_rows, od_w_header_rows, .func (PySem.W.fnOf "_law_header_rows" "_law_header_rows" (defArgs s_w_header_rows) (defBody s_w_header_rows) (defScope s_w_header_rows) .none kV_w_header_rows dc_w_header_rows pm_w_header_rows an_w_header_rows cd_w_header_rows ct_w_header_rows), sl_w_header_rows⟩)
    (c_w_header_rows_ : PySem.W.codeIn K cd_w_header_rows "_law_header_rows" = true)
    (k_w_header_rows_ : PySem.W.keepIn K (.ref f_w_header_rows) = true)
    (a_w_first_beyond : PySem.W.nsIn K mainGlobals "_law_first_beyond" = some (some (.ref f_w_first_beyond)))
    (l_w_first_beyond : K.lookup f_w_first_beyond = some ⟨oc_w_first_beyond, od_w_first_beyond, .func (PySem.W.fnOf "_law_first_beyond" "_law_first_beyond" (defArgs s_w_first_beyond) (defBody s_w_first_beyond) (defScope s_w_first_beyond) .none kV_w_first_beyond dc_w_first_beyond pm_w_first_beyond an_w_first_beyond cd_w_first_beyond ct_w_first_beyond), sl_w_first_beyond⟩)
    (c_w_first_beyond_ : PySem.W.codeIn K cd_w_first_beyond "_law_first_beyond" = true)
    (k_w_first_beyond_ : PySem.W.keepIn K (.ref f_w_first_beyond) = true)
    (a_v_law : PySem.W.nsIn K mainGlobals "law" = some (some (.ref f_v_law)))
    (l_v_law : K.lookup f_v_law = some ⟨oc_v_law, od_v_law, .func (PySem.W.fnOf "law" "law" (defArgs s_v_law) (defBody s_v_law) (defScope s_v_law) .none kV_v_law dc_v_law pm_v_law an_v_law cd_v_law ct_v_law), sl_v_law⟩)
    (c_v_law_ : PySem.W.codeIn K cd_v_law "law" = true)
    (k_v_law_ : PySem.W.keepIn K (.ref f_v_law) = true)
    (z_list : PySem.W.nsIn K mainGlobals "list" = some none)
    (z_len : PySem.W.nsIn K mainGlobals "len" = some none)
    (z_range : PySem.W.nsIn K mainGlobals "range" = some none)
    (z_all : PySem.W.nsIn K mainGlobals "all" = some none)
    (z_int : PySem.W.nsIn K mainGlobals "int" = some none)
    (z_isinstance : PySem.W.nsIn K mainGlobals "isinstance" = some none)
    (z_bool : PySem.W.nsIn K mainGlobals "bool" = some none)
    (z_zip : PySem.W.nsIn K mainGlobals "zip" = some none)
    (z_ValueError : PySem.W.nsIn K mainGlobals "ValueError" = some none)
    (z_set : PySem.W.nsIn K mainGlobals "set" = some none)
    (lK_KEPT : K.lookup k_KEPT = some oK_KEPT)
    (hK_KEPT : ∃ (its : Array Value) (n : Nat), oK_KEPT.cls = .type "tuple" ∧ oK_KEPT.data = .seq its n ∧ its.size ≤ sizeLine ∧ Vals (ks_KEPT.map V.str) its.toList)
    (lK_MARKS : K.lookup k_MARKS = some oK_MARKS)
    (hK_MARKS : ∃ (its : Array Value) (n : Nat), oK_MARKS.cls = .type "tuple" ∧ oK_MARKS.data = .seq its n ∧ its.size ≤ sizeLine ∧ Vals (ks_MARKS.map V.str) its.toList)
    (cl_Clause_pg : PySem.W.plainGet K c_Clause Str.empty = true)
    (cl_Clause_hd : PySem.W.hasDictIn K c_Clause = true)
    (cl_Clause_po : PySem.W.plainOver K c_Clause = true)
    (cl_Clause_sa : PySem.W.findIn K (.ref c_Clause) "__setattr__" = some (some (.builtin "object.__setattr__")))
    (na_Clause_act_k : PySem.W.findIn K (.ref c_Clause) "act" = some none)
    (na_Clause_label_k : PySem.W.findIn K (.ref c_Clause) "label" = some none)
    (na_Clause_room_k : PySem.W.findIn K (.ref c_Clause) "room" = some none)
    (na_Clause_turns_k : PySem.W.findIn K (.ref c_Clause) "turns" = some none)
    (na_Clause_who_k : PySem.W.findIn K (.ref c_Clause) "who" = some none)
    (mk_Clause_mk : PySem.W.makesIn K c_Clause = true)
    (mk_Clause_in : PySem.W.findIn K (.ref c_Clause) "__init__" = some (some (.ref f_Clause_init)))
    (mk_Clause_fn : PySem.W.isFn K (.ref f_Clause_init) = true)
    (mk_Clause_kp : PySem.W.keepIn K (.ref c_Clause) = true)
    (cl_Duty_pg : PySem.W.plainGet K c_Duty Str.empty = true)
    (cl_Duty_hd : PySem.W.hasDictIn K c_Duty = true)
    (cl_Duty_po : PySem.W.plainOver K c_Duty = true)
    (cl_Duty_sa : PySem.W.findIn K (.ref c_Duty) "__setattr__" = some (some (.builtin "object.__setattr__")))
    (na_Duty_act_k : PySem.W.findIn K (.ref c_Duty) "act" = some none)
    (na_Duty_label_k : PySem.W.findIn K (.ref c_Duty) "label" = some none)
    (na_Duty_room_k : PySem.W.findIn K (.ref c_Duty) "room" = some none)
    (na_Duty_turns_k : PySem.W.findIn K (.ref c_Duty) "turns" = some none)
    (na_Duty_who_k : PySem.W.findIn K (.ref c_Duty) "who" = some none)
    (mk_Duty_mk : PySem.W.makesIn K c_Duty = true)
    (mk_Duty_in : PySem.W.findIn K (.ref c_Duty) "__init__" = some (some (.ref f_Duty_init)))
    (mk_Duty_fn : PySem.W.isFn K (.ref f_Duty_init) = true)
    (mk_Duty_kp : PySem.W.keepIn K (.ref c_Duty) = true)
    (cl_Leave_pg : PySem.W.plainGet K c_Leave Str.empty = true)
    (cl_Leave_hd : PySem.W.hasDictIn K c_Leave = true)
    (cl_Leave_po : PySem.W.plainOver K c_Leave = true)
    (cl_Leave_sa : PySem.W.findIn K (.ref c_Leave) "__setattr__" = some (some (.builtin "object.__setattr__")))
    (na_Leave_act_k : PySem.W.findIn K (.ref c_Leave) "act" = some none)
    (na_Leave_label_k : PySem.W.findIn K (.ref c_Leave) "label" = some none)
    (na_Leave_room_k : PySem.W.findIn K (.ref c_Leave) "room" = some none)
    (na_Leave_turns_k : PySem.W.findIn K (.ref c_Leave) "turns" = some none)
    (na_Leave_who_k : PySem.W.findIn K (.ref c_Leave) "who" = some none)
    (mk_Leave_mk : PySem.W.makesIn K c_Leave = true)
    (mk_Leave_in : PySem.W.findIn K (.ref c_Leave) "__init__" = some (some (.ref f_Clause_init)))
    (mk_Leave_fn : PySem.W.isFn K (.ref f_Clause_init) = true)
    (mk_Leave_kp : PySem.W.keepIn K (.ref c_Leave) = true)
    (cl_Ban_pg : PySem.W.plainGet K c_Ban Str.empty = true)
    (cl_Ban_hd : PySem.W.hasDictIn K c_Ban = true)
    (cl_Ban_po : PySem.W.plainOver K c_Ban = true)
    (cl_Ban_sa : PySem.W.findIn K (.ref c_Ban) "__setattr__" = some (some (.builtin "object.__setattr__")))
    (na_Ban_act_k : PySem.W.findIn K (.ref c_Ban) "act" = some none)
    (na_Ban_label_k : PySem.W.findIn K (.ref c_Ban) "label" = some none)
    (na_Ban_room_k : PySem.W.findIn K (.ref c_Ban) "room" = some none)
    (na_Ban_turns_k : PySem.W.findIn K (.ref c_Ban) "turns" = some none)
    (na_Ban_who_k : PySem.W.findIn K (.ref c_Ban) "who" = some none)
    (mk_Ban_mk : PySem.W.makesIn K c_Ban = true)
    (mk_Ban_in : PySem.W.findIn K (.ref c_Ban) "__init__" = some (some (.ref f_Ban_init)))
    (mk_Ban_fn : PySem.W.isFn K (.ref f_Ban_init) = true)
    (mk_Ban_kp : PySem.W.keepIn K (.ref c_Ban) = true)
    (cl_Power_pg : PySem.W.plainGet K c_Power Str.empty = true)
    (cl_Power_hd : PySem.W.hasDictIn K c_Power = true)
    (cl_Power_po : PySem.W.plainOver K c_Power = true)
    (cl_Power_sa : PySem.W.findIn K (.ref c_Power) "__setattr__" = some (some (.builtin "object.__setattr__")))
    (na_Power_act_k : PySem.W.findIn K (.ref c_Power) "act" = some none)
    (na_Power_label_k : PySem.W.findIn K (.ref c_Power) "label" = some none)
    (na_Power_room_k : PySem.W.findIn K (.ref c_Power) "room" = some none)
    (na_Power_turns_k : PySem.W.findIn K (.ref c_Power) "turns" = some none)
    (na_Power_who_k : PySem.W.findIn K (.ref c_Power) "who" = some none)
    (mk_Power_mk : PySem.W.makesIn K c_Power = true)
    (mk_Power_in : PySem.W.findIn K (.ref c_Power) "__init__" = some (some (.ref f_Power_init)))
    (mk_Power_fn : PySem.W.isFn K (.ref f_Power_init) = true)
    (mk_Power_kp : PySem.W.keepIn K (.ref c_Power) = true)
    (cl_Let_pg : PySem.W.plainGet K c_Let Str.empty = true)
    (cl_Let_hd : PySem.W.hasDictIn K c_Let = true)
    (cl_Let_po : PySem.W.plainOver K c_Let = true)
    (cl_Let_sa : PySem.W.findIn K (.ref c_Let) "__setattr__" = some (some (.builtin "object.__setattr__")))
    (na_Let_name_k : PySem.W.findIn K (.ref c_Let) "name" = some none)
    (na_Let_value_k : PySem.W.findIn K (.ref c_Let) "value" = some none)
    (mk_Let_mk : PySem.W.makesIn K c_Let = true)
    (mk_Let_in : PySem.W.findIn K (.ref c_Let) "__init__" = some (some (.ref f_Let_init)))
    (mk_Let_fn : PySem.W.isFn K (.ref f_Let_init) = true)
    (mk_Let_kp : PySem.W.keepIn K (.ref c_Let) = true)
    (cl_Part_pg : PySem.W.plainGet K c_Part Str.empty = true)
    (cl_Part_hd : PySem.W.hasDictIn K c_Part = true)
    (cl_Part_po : PySem.W.plainOver K c_Part = true)
    (cl_Part_sa : PySem.W.findIn K (.ref c_Part) "__setattr__" = some (some (.builtin "object.__setattr__")))
    (na_Part_name_k : PySem.W.findIn K (.ref c_Part) "name" = some none)
    (na_Part_rooms_k : PySem.W.findIn K (.ref c_Part) "rooms" = some none)
    (na_Part_rows_k : PySem.W.findIn K (.ref c_Part) "rows" = some none)
    (mk_Part_mk : PySem.W.makesIn K c_Part = true)
    (mk_Part_in : PySem.W.findIn K (.ref c_Part) "__init__" = some (some (.ref f_Part_init)))
    (mk_Part_fn : PySem.W.isFn K (.ref f_Part_init) = true)
    (mk_Part_kp : PySem.W.keepIn K (.ref c_Part) = true)
    (cl_Pact_pg : PySem.W.plainGet K c_Pact Str.empty = true)
    (cl_Pact_hd : PySem.W.hasDictIn K c_Pact = true)
    (cl_Pact_po : PySem.W.plainOver K c_Pact = true)
    (cl_Pact_sa : PySem.W.findIn K (.ref c_Pact) "__setattr__" = some (some (.builtin "object.__setattr__")))
    (na_Pact_acts_k : PySem.W.findIn K (.ref c_Pact) "acts" = some none)
    (na_Pact_parties_k : PySem.W.findIn K (.ref c_Pact) "parties" = some none)
    (na_Pact_rooms_k : PySem.W.findIn K (.ref c_Pact) "rooms" = some none)
    (na_Pact_whole_k : PySem.W.findIn K (.ref c_Pact) "whole" = some none)
    (mk_Pact_mk : PySem.W.makesIn K c_Pact = true)
    (mk_Pact_in : PySem.W.findIn K (.ref c_Pact) "__init__" = some (some (.ref f_Pact_init)))
    (mk_Pact_fn : PySem.W.isFn K (.ref f_Pact_init) = true)
    (mk_Pact_kp : PySem.W.keepIn K (.ref c_Pact) = true)
    (cl_Body_pg : PySem.W.plainGet K c_Body Str.empty = true)
    (cl_Body_hd : PySem.W.hasDictIn K c_Body = true)
    (cl_Body_po : PySem.W.plainOver K c_Body = true)
    (cl_Body_sa : PySem.W.findIn K (.ref c_Body) "__setattr__" = some (some (.builtin "object.__setattr__")))
    (na_Body_bodies_k : PySem.W.findIn K (.ref c_Body) "bodies" = some none)
    (na_Body_heads_k : PySem.W.findIn K (.ref c_Body) "heads" = some none)
    (na_Body_labels_k : PySem.W.findIn K (.ref c_Body) "labels" = some none)
    (mk_Body_mk : PySem.W.makesIn K c_Body = true)
    (mk_Body_in : PySem.W.findIn K (.ref c_Body) "__init__" = some (some (.ref f_Body_init)))
    (mk_Body_fn : PySem.W.isFn K (.ref f_Body_init) = true)
    (mk_Body_kp : PySem.W.keepIn K (.ref c_Body) = true)
    (mt_Body_many_open_at : PySem.W.findIn K (.ref c_Body) "many_open" = some (some (.ref f_Body_many_open)))
    (mt_Body_many_open_fn : PySem.W.isFn K (.ref f_Body_many_open) = true)
    (mt_Body_takes_at : PySem.W.findIn K (.ref c_Body) "takes" = some (some (.ref f_Body_takes)))
    (mt_Body_takes_fn : PySem.W.isFn K (.ref f_Body_takes) = true)
    (mt_Body_takes_done_at : PySem.W.findIn K (.ref c_Body) "takes_done" = some (some (.ref f_Body_takes_done)))
    (mt_Body_takes_done_fn : PySem.W.isFn K (.ref f_Body_takes_done) = true)
    (mt_Body_takes_head_at : PySem.W.findIn K (.ref c_Body) "takes_head" = some (some (.ref f_Body_takes_head)))
    (mt_Body_takes_head_fn : PySem.W.isFn K (.ref f_Body_takes_head) = true)
    (mt_Body_takes_clause_at : PySem.W.findIn K (.ref c_Body) "takes_clause" = some (some (.ref f_Body_takes_clause)))
    (mt_Body_takes_clause_fn : PySem.W.isFn K (.ref f_Body_takes_clause) = true)
    (mt_Body_put_in_at : PySem.W.findIn K (.ref c_Body) "put_in" = some (some (.ref f_Body_put_in)))
    (mt_Body_put_in_fn : PySem.W.isFn K (.ref f_Body_put_in) = true)
    (mt_Body_closed_at : PySem.W.findIn K (.ref c_Body) "closed" = some (some (.ref f_Body_closed)))
    (mt_Body_closed_fn : PySem.W.isFn K (.ref f_Body_closed) = true)
    (xc_PactError_l : K.lookup c_PactError = some oX_PactError)
    (xc_PactError_h : xcO c_PactError oX_PactError = true)
    (xc_NoText_l : K.lookup c_NoText = some oX_NoText)
    (xc_NoText_h : xcO c_NoText oX_NoText = true)
    (xc_NoText_sa : PySem.W.findIn K (.ref c_NoText) "__setattr__" = some (some (.builtin "object.__setattr__")))
    (xty_NoText_ga : PySem.W.findIn K (.ref c_NoText) "__getattribute__" = some (some (.builtin "BaseException.__getattribute__")))
    (xty_NoText_gn : PySem.W.findIn K (.ref c_NoText) "__getattr__" = some none)
    (xty_NoText_bx : PySem.W.mroIn K c_NoText (.type "BaseException") = some true)
    (xty_NoText_hd : PySem.W.hasDictIn K c_NoText = true)
    (xty_NoText_ha : PySem.W.findIn K (.ref c_NoText) "__class__" = some (some (.builtin "object.__class__")))
    (xty_NoText_hn : PySem.W.specialIn K (.builtin "object.__class__") "__get__" = some (some (.builtin "getset_descriptor.__get__")))
    (xty_NoText_tk : PySem.W.takesIn K (.builtin "object.__class__") = some true)
    (xty_NoText_hm : PySem.W.mroIn K c_NoText (.type "object") = some true)
    (xm_NoText_in : PySem.W.findIn K (.ref c_NoText) "__init__" = some (some (.ref f_NoText_init)))
    (xm_NoText_fn : PySem.W.isFn K (.ref f_NoText_init) = true)
    (xm_NoText_kp : PySem.W.keepIn K (.ref c_NoText) = true)
    (na_NoText_row_k : PySem.W.findIn K (.ref c_NoText) "row" = some none)
    (ex_NoText_PactError_s : PySem.W.subIn K (.ref c_PactError) (.type "BaseException") = some true)
    (ex_NoText_PactError_t : PySem.W.typeIn K (.ref c_PactError) = some (.type "type"))
    (ex_NoText_PactError_k : PySem.W.subIn K (.ref c_NoText) (.ref c_PactError) = some true)
    (cm_Clause_ga : PySem.W.specialIn K (.ref c_Clause) "__getattribute__" = some (some (.builtin "type.__getattribute__")))
    (cm_Clause_rd : PySem.W.readsIn K c_Clause (.type "type") = true)
    (cm_Clause_at : PySem.W.findCls K (.ref c_Clause) (.type "type") "__init__" = some (.val (.ref f_Clause_init)))
    (cm_Leave_ga : PySem.W.specialIn K (.ref c_Leave) "__getattribute__" = some (some (.builtin "type.__getattribute__")))
    (cm_Leave_rd : PySem.W.readsIn K c_Leave (.type "type") = true)
    (cm_Leave_at : PySem.W.findCls K (.ref c_Leave) (.type "type") "__init__" = some (.val (.ref f_Clause_init)))
    (ki_NoText_NoName_k : PySem.W.kitOne K (.ref c_NoText) (.ref c_NoName) = some false)
    (ki_NoText_CalmRoom_k : PySem.W.kitOne K (.ref c_NoText) (.ref c_CalmRoom) = some false)
    (ki_NoText_NoDeed_k : PySem.W.kitOne K (.ref c_NoText) (.ref c_NoDeed) = some false)
    (ki_NoText_TooMany_k : PySem.W.kitOne K (.ref c_NoText) (.ref c_TooMany) = some false)
    (ki_NoText_Breach_k : PySem.W.kitOne K (.ref c_NoText) (.ref c_Breach) = some false)
    (ki_NoText_NoStand_k : PySem.W.kitOne K (.ref c_NoText) (.ref c_NoStand) = some false)
    (ki_NoText_NoPair_k : PySem.W.kitOne K (.ref c_NoText) (.ref c_NoPair) = some false)
    (ki_NoText_NoChange_k : PySem.W.kitOne K (.ref c_NoText) (.ref c_NoChange) = some false)
    (ki_NoText_NoRow_k : PySem.W.kitOne K (.ref c_NoText) (.ref c_NoRow) = some false)
    (ki_NoText_NoText_k : PySem.W.kitOne K (.ref c_NoText) (.ref c_NoText) = some true)
    (ki_NoText_ValueError_k : PySem.W.kitOne K (.ref c_NoText) (.type "ValueError") = some true)
    (ki_int_bool_k : PySem.W.kitOne K (.type "int") (.type "bool") = some false)
    : ∃ t : Adr, Txt K mg t ∧ mg "law" = some (.ref t.f_v_law) := by
  have F_NoText_init := fun_mk (st := s_NoText_init) l_NoText_init c_NoText_init_ k_NoText_init_
  have B_NoText_init := F_NoText_init.binds (ps := ["self", "row"]) fun _ _ _ _ _ _ us hl => match us, hl with | [_, _], _ => rfl
  have F_Clause_init := fun_mk (st := s_Clause_init) l_Clause_init c_Clause_init_ k_Clause_init_
  have B_Clause_init := F_Clause_init.binds (ps := ["self", "label", "who", "act"]) fun _ _ _ _ _ _ us hl => match us, hl with | [_, _, _, _], _ => rfl
  have F_Clause_number := fun_mk (st := s_Clause_number) l_Clause_number c_Clause_number_ k_Clause_number_
  have B_Clause_number := F_Clause_number.binds (ps := ["self"]) fun _ _ _ _ _ _ us hl => match us, hl with | [_], _ => rfl
  have F_Duty_init := fun_mk (st := s_Duty_init) l_Duty_init c_Duty_init_ k_Duty_init_
  have B_Duty_init := F_Duty_init.binds (ps := ["self", "label", "who", "act", "turns", "room"]) fun _ _ _ _ _ _ us hl => match us, hl with | [_, _, _, _, _, _], _ => rfl
  have F_Duty_number := fun_mk (st := s_Duty_number) l_Duty_number c_Duty_number_ k_Duty_number_
  have B_Duty_number := F_Duty_number.binds (ps := ["self"]) fun _ _ _ _ _ _ us hl => match us, hl with | [_], _ => rfl
  have F_Ban_init := fun_mk (st := s_Ban_init) l_Ban_init c_Ban_init_ k_Ban_init_
  have B_Ban_init := F_Ban_init.binds (ps := ["self", "label", "who", "act", "room"]) fun _ _ _ _ _ _ us hl => match us, hl with | [_, _, _, _, _], _ => rfl
  have F_Power_init := fun_mk (st := s_Power_init) l_Power_init c_Power_init_ k_Power_init_
  have B_Power_init := F_Power_init.binds (ps := ["self", "label", "who", "act", "room"]) fun _ _ _ _ _ _ us hl => match us, hl with | [_, _, _, _, _], _ => rfl
  have F_Let_init := fun_mk (st := s_Let_init) l_Let_init c_Let_init_ k_Let_init_
  have B_Let_init := F_Let_init.binds (ps := ["self", "name", "value"]) fun _ _ _ _ _ _ us hl => match us, hl with | [_, _, _], _ => rfl
  have F_Part_init := fun_mk (st := s_Part_init) l_Part_init c_Part_init_ k_Part_init_
  have B_Part_init := F_Part_init.binds (ps := ["self", "name", "rooms", "rows"]) fun _ _ _ _ _ _ us hl => match us, hl with | [_, _, _, _], _ => rfl
  have F_Pact_init := fun_mk (st := s_Pact_init) l_Pact_init c_Pact_init_ k_Pact_init_
  have B_Pact_init := F_Pact_init.binds (ps := ["self", "parties", "acts", "rooms", "whole"]) fun _ _ _ _ _ _ us hl => match us, hl with | [_, _, _, _, _], _ => rfl
  have F_v_is_name := fun_mk (st := s_v_is_name) l_v_is_name c_v_is_name_ k_v_is_name_
  have B_v_is_name := F_v_is_name.binds (ps := ["word"]) fun _ _ _ _ _ _ us hl => match us, hl with | [_], _ => rfl
  have F_v_number_of := fun_mk (st := s_v_number_of) l_v_number_of c_v_number_of_ k_v_number_of_
  have B_v_number_of := F_v_number_of.binds (ps := ["word"]) fun _ _ _ _ _ _ us hl => match us, hl with | [_], _ => rfl
  have F_v_written_with := fun_mk (st := s_v_written_with) l_v_written_with c_v_written_with_ k_v_written_with_
  have B_v_written_with := F_v_written_with.binds (ps := ["word", "signs", "most"]) fun _ _ _ _ _ _ us hl => match us, hl with | [_, _, _], _ => rfl
  have F_v_names_of := fun_mk (st := s_v_names_of) l_v_names_of c_v_names_of_ k_v_names_of_
  have B_v_names_of := F_v_names_of.binds (ps := ["row", "word", "most"]) fun _ _ _ _ _ _ us hl => match us, hl with | [_, _, _], _ => rfl
  have F_v_are_names := fun_mk (st := s_v_are_names) l_v_are_names c_v_are_names_ k_v_are_names_
  have B_v_are_names := F_v_are_names.binds (ps := ["words", "most"]) fun _ _ _ _ _ _ us hl => match us, hl with | [_, _], _ => rfl
  have F_v_room_of := fun_mk (st := s_v_room_of) l_v_room_of c_v_room_of_ k_v_room_of_
  have B_v_room_of := F_v_room_of.binds (ps := ["row"]) fun _ _ _ _ _ _ us hl => match us, hl with | [_], _ => rfl
  have F_v_let_of := fun_mk (st := s_v_let_of) l_v_let_of c_v_let_of_ k_v_let_of_
  have B_v_let_of := F_v_let_of.binds (ps := ["row"]) fun _ _ _ _ _ _ us hl => match us, hl with | [_], _ => rfl
  have F_v_part_of := fun_mk (st := s_v_part_of) l_v_part_of c_v_part_of_ k_v_part_of_
  have B_v_part_of := F_v_part_of.binds (ps := ["row"]) fun _ _ _ _ _ _ us hl => match us, hl with | [_], _ => rfl
  have F_v_clause_of := fun_mk (st := s_v_clause_of) l_v_clause_of c_v_clause_of_ k_v_clause_of_
  have B_v_clause_of := F_v_clause_of.binds (ps := ["row"]) fun _ _ _ _ _ _ us hl => match us, hl with | [_], _ => rfl
  have F_v_fits_form := fun_mk (st := s_v_fits_form) l_v_fits_form c_v_fits_form_ k_v_fits_form_
  have B_v_fits_form := F_v_fits_form.binds (ps := ["words", "form"]) fun _ _ _ _ _ _ us hl => match us, hl with | [_, _], _ => rfl
  have F_v_fits_place := fun_mk (st := s_v_fits_place) l_v_fits_place c_v_fits_place_ k_v_fits_place_
  have B_v_fits_place := F_v_fits_place.binds (ps := ["word", "place"]) fun _ _ _ _ _ _ us hl => match us, hl with | [_, _], _ => rfl
  have F_v_read := fun_mk (st := s_v_read) l_v_read c_v_read_ k_v_read_
  have B_v_read := F_v_read.binds (ps := ["text"]) fun _ _ _ _ _ _ us hl => match us, hl with | [_], _ => rfl
  have F_v_read_names := fun_mk (st := s_v_read_names) l_v_read_names c_v_read_names_ k_v_read_names_
  have B_v_read_names := F_v_read_names.binds (ps := ["rows", "number", "word", "most", "taken"]) fun _ _ _ _ _ _ us hl => match us, hl with | [_, _, _, _, _], _ => rfl
  have F_v_told_once := fun_mk (st := s_v_told_once) l_v_told_once c_v_told_once_ k_v_told_once_
  have B_v_told_once := F_v_told_once.binds (ps := ["names"]) fun _ _ _ _ _ _ us hl => match us, hl with | [_], _ => rfl
  have F_v_read_rooms := fun_mk (st := s_v_read_rooms) l_v_read_rooms c_v_read_rooms_ k_v_read_rooms_
  have B_v_read_rooms := F_v_read_rooms.binds (ps := ["rows", "taken"]) fun _ _ _ _ _ _ us hl => match us, hl with | [_, _], _ => rfl
  have F_v_read_whole := fun_mk (st := s_v_read_whole) l_v_read_whole c_v_read_whole_ k_v_read_whole_
  have B_v_read_whole := F_v_read_whole.binds (ps := ["rows", "start"]) fun _ _ _ _ _ _ us hl => match us, hl with | [_, _], _ => rfl
  have F_Body_init := fun_mk (st := s_Body_init) l_Body_init c_Body_init_ k_Body_init_
  have B_Body_init := F_Body_init.binds (ps := ["self"]) fun _ _ _ _ _ _ us hl => match us, hl with | [_], _ => rfl
  have F_Body_many_open := fun_mk (st := s_Body_many_open) l_Body_many_open c_Body_many_open_ k_Body_many_open_
  have B_Body_many_open := F_Body_many_open.binds (ps := ["self"]) fun _ _ _ _ _ _ us hl => match us, hl with | [_], _ => rfl
  have F_Body_takes := fun_mk (st := s_Body_takes) l_Body_takes c_Body_takes_ k_Body_takes_
  have B_Body_takes := F_Body_takes.binds (ps := ["self", "row"]) fun _ _ _ _ _ _ us hl => match us, hl with | [_, _], _ => rfl
  have F_Body_takes_done := fun_mk (st := s_Body_takes_done) l_Body_takes_done c_Body_takes_done_ k_Body_takes_done_
  have B_Body_takes_done := F_Body_takes_done.binds (ps := ["self"]) fun _ _ _ _ _ _ us hl => match us, hl with | [_], _ => rfl
  have F_Body_takes_head := fun_mk (st := s_Body_takes_head) l_Body_takes_head c_Body_takes_head_ k_Body_takes_head_
  have B_Body_takes_head := F_Body_takes_head.binds (ps := ["self", "head"]) fun _ _ _ _ _ _ us hl => match us, hl with | [_, _], _ => rfl
  have F_Body_takes_clause := fun_mk (st := s_Body_takes_clause) l_Body_takes_clause c_Body_takes_clause_ k_Body_takes_clause_
  have B_Body_takes_clause := F_Body_takes_clause.binds (ps := ["self", "clause"]) fun _ _ _ _ _ _ us hl => match us, hl with | [_, _], _ => rfl
  have F_Body_put_in := fun_mk (st := s_Body_put_in) l_Body_put_in c_Body_put_in_ k_Body_put_in_
  have B_Body_put_in := F_Body_put_in.binds (ps := ["self", "row"]) fun _ _ _ _ _ _ us hl => match us, hl with | [_, _], _ => rfl
  have F_Body_closed := fun_mk (st := s_Body_closed) l_Body_closed c_Body_closed_ k_Body_closed_
  have B_Body_closed := F_Body_closed.binds (ps := ["self"]) fun _ _ _ _ _ _ us hl => match us, hl with | [_], _ => rfl
  have F_w_cell_at := fun_mk (st := s_w_cell_at) l_w_cell_at c_w_cell_at_ k_w_cell_at_
  have B_w_cell_at := F_w_cell_at.binds (ps := ["_law_script", "_law_k"]) fun _ _ _ _ _ _ us hl => match us, hl with | [_, _], _ => rfl
  have F_w_mix := fun_mk (st := s_w_mix) l_w_mix c_w_mix_ k_w_mix_
  have B_w_mix := F_w_mix.binds (ps := ["_law_cell", "_law_k"]) fun _ _ _ _ _ _ us hl => match us, hl with | [_, _], _ => rfl
  have F_w_name := fun_mk (st := s_w_name) l_w_name c_w_name_ k_w_name_
  have B_w_name := F_w_name.binds (ps := ["_law_cell", "_law_k"]) fun _ _ _ _ _ _ us hl => match us, hl with | [_, _], _ => rfl
  have F_w_no_text := fun_mk (st := s_w_no_text) l_w_no_text c_w_no_text_ k_w_no_text_
  have B_w_no_text := F_w_no_text.binds (ps := ["_law_e"]) fun _ _ _ _ _ _ us hl => match us, hl with | [_], _ => rfl
  have F_w_refused_at := fun_mk (st := s_w_refused_at) l_w_refused_at c_w_refused_at_ k_w_refused_at_
  have B_w_refused_at := F_w_refused_at.binds (ps := ["_law_text"]) fun _ _ _ _ _ _ us hl => match us, hl with | [_], _ => rfl
  have F_w_nest := fun_mk (st := s_w_nest) l_w_nest c_w_nest_ k_w_nest_
  have B_w_nest := F_w_nest.binds (ps := ["_law_names", "_law_script", "_law_deep", "_law_start"]) fun _ _ _ _ _ _ us hl => match us, hl with | [_, _, _, _], _ => rfl
  have F_w_header_rows := fun_mk (st := s_w_header_rows) l_w_header_rows c_w_header_rows_ k_w_header_rows_
  have B_w_header_rows := F_w_header_rows.binds (ps := ["_law_names", "_law_cell"]) fun _ _ _ _ _ _ us hl => match us, hl with | [_, _], _ => rfl
  have F_w_first_beyond := fun_mk (st := s_w_first_beyond) l_w_first_beyond c_w_first_beyond_ k_w_first_beyond_
  have B_w_first_beyond := F_w_first_beyond.binds (ps := ["_law_rows"]) fun _ _ _ _ _ _ us hl => match us, hl with | [_], _ => rfl
  have F_v_law := fun_mk (st := s_v_law) l_v_law c_v_law_ k_v_law_
  have B_v_law := F_v_law.binds (ps := ["_law_script"]) fun _ _ _ _ _ _ us hl => match us, hl with | [_], _ => rfl
  refine ⟨{ f_NoText_init := f_NoText_init, d_NoText_init := PySem.W.fnOf "__init__" "NoText.__init__" (defArgs s_NoText_init) (defBody s_NoText_init) (defScope s_NoText_init) .none kV_NoText_init dc_NoText_init pm_NoText_init an_NoText_init cd_NoText_init ct_NoText_init, f_Clause_init := f_Clause_init, d_Clause_init := PySem.W.fnOf "__init__" "Clause.__init__" (defArgs s_Clause_init) (defBody s_Clause_init) (defScope s_Clause_init) .none kV_Clause_init dc_Clause_init pm_Clause_init an_Clause_init cd_Clause_init ct_Clause_init, f_Clause_number := f_Clause_number, d_Clause_number := PySem.W.fnOf "number" "Clause.number" (defArgs s_Clause_number) (defBody s_Clause_number) (defScope s_Clause_number) .none kV_Clause_number dc_Clause_number pm_Clause_number an_Clause_number cd_Clause_number ct_Clause_number, f_Duty_init := f_Duty_init, d_Duty_init := PySem.W.fnOf "__init__" "Duty.__init__" (defArgs s_Duty_init) (defBody s_Duty_init) (defScope s_Duty_init) .none kV_Duty_init dc_Duty_init pm_Duty_init an_Duty_init cd_Duty_init ct_Duty_init, f_Duty_number := f_Duty_number, d_Duty_number := PySem.W.fnOf "number" "Duty.number" (defArgs s_Duty_number) (defBody s_Duty_number) (defScope s_Duty_number) .none kV_Duty_number dc_Duty_number pm_Duty_number an_Duty_number cd_Duty_number ct_Duty_number, f_Ban_init := f_Ban_init, d_Ban_init := PySem.W.fnOf "__init__" "Ban.__init__" (defArgs s_Ban_init) (defBody s_Ban_init) (defScope s_Ban_init) .none kV_Ban_init dc_Ban_init pm_Ban_init an_Ban_init cd_Ban_init ct_Ban_init, f_Power_init := f_Power_init, d_Power_init := PySem.W.fnOf "__init__" "Power.__init__" (defArgs s_Power_init) (defBody s_Power_init) (defScope s_Power_init) .none kV_Power_init dc_Power_init pm_Power_init an_Power_init cd_Power_init ct_Power_init, f_Let_init := f_Let_init, d_Let_init := PySem.W.fnOf "__init__" "Let.__init__" (defArgs s_Let_init) (defBody s_Let_init) (defScope s_Let_init) .none kV_Let_init dc_Let_init pm_Let_init an_Let_init cd_Let_init ct_Let_init, f_Part_init := f_Part_init, d_Part_init := PySem.W.fnOf "__init__" "Part.__init__" (defArgs s_Part_init) (defBody s_Part_init) (defScope s_Part_init) .none kV_Part_init dc_Part_init pm_Part_init an_Part_init cd_Part_init ct_Part_init, f_Pact_init := f_Pact_init, d_Pact_init := PySem.W.fnOf "__init__" "Pact.__init__" (defArgs s_Pact_init) (defBody s_Pact_init) (defScope s_Pact_init) .none kV_Pact_init dc_Pact_init pm_Pact_init an_Pact_init cd_Pact_init ct_Pact_init, f_v_is_name := f_v_is_name, d_v_is_name := PySem.W.fnOf "is_name" "is_name" (defArgs s_v_is_name) (defBody s_v_is_name) (defScope s_v_is_name) .none kV_v_is_name dc_v_is_name pm_v_is_name an_v_is_name cd_v_is_name ct_v_is_name, f_v_number_of := f_v_number_of, d_v_number_of := PySem.W.fnOf "number_of" "number_of" (defArgs s_v_number_of) (defBody s_v_number_of) (defScope s_v_number_of) .none kV_v_number_of dc_v_number_of pm_v_number_of an_v_number_of cd_v_number_of ct_v_number_of, f_v_written_with := f_v_written_with, d_v_written_with := PySem.W.fnOf "written_with" "written_with" (defArgs s_v_written_with) (defBody s_v_written_with) (defScope s_v_written_with) .none kV_v_written_with dc_v_written_with pm_v_written_with an_v_written_with cd_v_written_with ct_v_written_with, f_v_names_of := f_v_names_of, d_v_names_of := PySem.W.fnOf "names_of" "names_of" (defArgs s_v_names_of) (defBody s_v_names_of) (defScope s_v_names_of) .none kV_v_names_of dc_v_names_of pm_v_names_of an_v_names_of cd_v_names_of ct_v_names_of, f_v_are_names := f_v_are_names, d_v_are_names := PySem.W.fnOf "are_names" "are_names" (defArgs s_v_are_names) (defBody s_v_are_names) (defScope s_v_are_names) .none kV_v_are_names dc_v_are_names pm_v_are_names an_v_are_names cd_v_are_names ct_v_are_names, f_v_room_of := f_v_room_of, d_v_room_of := PySem.W.fnOf "room_of" "room_of" (defArgs s_v_room_of) (defBody s_v_room_of) (defScope s_v_room_of) .none kV_v_room_of dc_v_room_of pm_v_room_of an_v_room_of cd_v_room_of ct_v_room_of, f_v_let_of := f_v_let_of, d_v_let_of := PySem.W.fnOf "let_of" "let_of" (defArgs s_v_let_of) (defBody s_v_let_of) (defScope s_v_let_of) .none kV_v_let_of dc_v_let_of pm_v_let_of an_v_let_of cd_v_let_of ct_v_let_of, f_v_part_of := f_v_part_of, d_v_part_of := PySem.W.fnOf "part_of" "part_of" (defArgs s_v_part_of) (defBody s_v_part_of) (defScope s_v_part_of) .none kV_v_part_of dc_v_part_of pm_v_part_of an_v_part_of cd_v_part_of ct_v_part_of, f_v_clause_of := f_v_clause_of, d_v_clause_of := PySem.W.fnOf "clause_of" "clause_of" (defArgs s_v_clause_of) (defBody s_v_clause_of) (defScope s_v_clause_of) .none kV_v_clause_of dc_v_clause_of pm_v_clause_of an_v_clause_of cd_v_clause_of ct_v_clause_of, f_v_fits_form := f_v_fits_form, d_v_fits_form := PySem.W.fnOf "fits_form" "fits_form" (defArgs s_v_fits_form) (defBody s_v_fits_form) (defScope s_v_fits_form) .none kV_v_fits_form dc_v_fits_form pm_v_fits_form an_v_fits_form cd_v_fits_form ct_v_fits_form, f_v_fits_place := f_v_fits_place, d_v_fits_place := PySem.W.fnOf "fits_place" "fits_place" (defArgs s_v_fits_place) (defBody s_v_fits_place) (defScope s_v_fits_place) .none kV_v_fits_place dc_v_fits_place pm_v_fits_place an_v_fits_place cd_v_fits_place ct_v_fits_place, f_v_read := f_v_read, d_v_read := PySem.W.fnOf "read" "read" (defArgs s_v_read) (defBody s_v_read) (defScope s_v_read) .none kV_v_read dc_v_read pm_v_read an_v_read cd_v_read ct_v_read, f_v_read_names := f_v_read_names, d_v_read_names := PySem.W.fnOf "read_names" "read_names" (defArgs s_v_read_names) (defBody s_v_read_names) (defScope s_v_read_names) .none kV_v_read_names dc_v_read_names pm_v_read_names an_v_read_names cd_v_read_names ct_v_read_names, f_v_told_once := f_v_told_once, d_v_told_once := PySem.W.fnOf "told_once" "told_once" (defArgs s_v_told_once) (defBody s_v_told_once) (defScope s_v_told_once) .none kV_v_told_once dc_v_told_once pm_v_told_once an_v_told_once cd_v_told_once ct_v_told_once, f_v_read_rooms := f_v_read_rooms, d_v_read_rooms := PySem.W.fnOf "read_rooms" "read_rooms" (defArgs s_v_read_rooms) (defBody s_v_read_rooms) (defScope s_v_read_rooms) .none kV_v_read_rooms dc_v_read_rooms pm_v_read_rooms an_v_read_rooms cd_v_read_rooms ct_v_read_rooms, f_v_read_whole := f_v_read_whole, d_v_read_whole := PySem.W.fnOf "read_whole" "read_whole" (defArgs s_v_read_whole) (defBody s_v_read_whole) (defScope s_v_read_whole) .none kV_v_read_whole dc_v_read_whole pm_v_read_whole an_v_read_whole cd_v_read_whole ct_v_read_whole, f_Body_init := f_Body_init, d_Body_init := PySem.W.fnOf "__init__" "Body.__init__" (defArgs s_Body_init) (defBody s_Body_init) (defScope s_Body_init) .none kV_Body_init dc_Body_init pm_Body_init an_Body_init cd_Body_init ct_Body_init, f_Body_many_open := f_Body_many_open, d_Body_many_open := PySem.W.fnOf "many_open" "Body.many_open" (defArgs s_Body_many_open) (defBody s_Body_many_open) (defScope s_Body_many_open) .none kV_Body_many_open dc_Body_many_open pm_Body_many_open an_Body_many_open cd_Body_many_open ct_Body_many_open, f_Body_takes := f_Body_takes, d_Body_takes := PySem.W.fnOf "takes" "Body.takes" (defArgs s_Body_takes) (defBody s_Body_takes) (defScope s_Body_takes) .none kV_Body_takes dc_Body_takes pm_Body_takes an_Body_takes cd_Body_takes ct_Body_takes, f_Body_takes_done := f_Body_takes_done, d_Body_takes_done := PySem.W.fnOf "takes_done" "Body.takes_done" (defArgs s_Body_takes_done) (defBody s_Body_takes_done) (defScope s_Body_takes_done) .none kV_Body_takes_done dc_Body_takes_done pm_Body_takes_done an_Body_takes_done cd_Body_takes_done ct_Body_takes_done, f_Body_takes_head := f_Body_takes_head, d_Body_takes_head := PySem.W.fnOf "takes_head" "Body.takes_head" (defArgs s_Body_takes_head) (defBody s_Body_takes_head) (defScope s_Body_takes_head) .none kV_Body_takes_head dc_Body_takes_head pm_Body_takes_head an_Body_takes_head cd_Body_takes_head ct_Body_takes_head, f_Body_takes_clause := f_Body_takes_clause, d_Body_takes_clause := PySem.W.fnOf "takes_clause" "Body.takes_clause" (defArgs s_Body_takes_clause) (defBody s_Body_takes_clause) (defScope s_Body_takes_clause) .none kV_Body_takes_clause dc_Body_takes_clause pm_Body_takes_clause an_Body_takes_clause cd_Body_takes_clause ct_Body_takes_clause, f_Body_put_in := f_Body_put_in, d_Body_put_in := PySem.W.fnOf "put_in" "Body.put_in" (defArgs s_Body_put_in) (defBody s_Body_put_in) (defScope s_Body_put_in) .none kV_Body_put_in dc_Body_put_in pm_Body_put_in an_Body_put_in cd_Body_put_in ct_Body_put_in, f_Body_closed := f_Body_closed, d_Body_closed := PySem.W.fnOf "closed" "Body.closed" (defArgs s_Body_closed) (defBody s_Body_closed) (defScope s_Body_closed) .none kV_Body_closed dc_Body_closed pm_Body_closed an_Body_closed cd_Body_closed ct_Body_closed, f_w_cell_at := f_w_cell_at, d_w_cell_at := PySem.W.fnOf "_law_cell_at" "_law_cell_at" (defArgs s_w_cell_at) (defBody s_w_cell_at) (defScope s_w_cell_at) .none kV_w_cell_at dc_w_cell_at pm_w_cell_at an_w_cell_at cd_w_cell_at ct_w_cell_at, f_w_mix := f_w_mix, d_w_mix := PySem.W.fnOf "_law_mix" "_law_mix" (defArgs s_w_mix) (defBody s_w_mix) (defScope s_w_mix) .none kV_w_mix dc_w_mix pm_w_mix an_w_mix cd_w_mix ct_w_mix, f_w_name := f_w_name, d_w_name := PySem.W.fnOf "_law_name" "_law_name" (defArgs s_w_name) (defBody s_w_name) (defScope s_w_name) .none kV_w_name dc_w_name pm_w_name an_w_name cd_w_name ct_w_name, f_w_no_text := f_w_no_text, d_w_no_text := PySem.W.fnOf "_law_no_text" "_law_no_text" (defArgs s_w_no_text) (defBody s_w_no_text) (defScope s_w_no_text) .none kV_w_no_text dc_w_no_text pm_w_no_text an_w_no_text cd_w_no_text ct_w_no_text, f_w_refused_at := f_w_refused_at, d_w_refused_at := PySem.W.fnOf "_law_refused_at" "_law_refused_at" (defArgs s_w_refused_at) (defBody s_w_refused_at) (defScope s_w_refused_at) .none kV_w_refused_at dc_w_refused_at pm_w_refused_at an_w_refused_at cd_w_refused_at ct_w_refused_at, f_w_nest := f_w_nest, d_w_nest := PySem.W.fnOf "_law_nest" "_law_nest" (defArgs s_w_nest) (defBody s_w_nest) (defScope s_w_nest) .none kV_w_nest dc_w_nest pm_w_nest an_w_nest cd_w_nest ct_w_nest, f_w_header_rows := f_w_header_rows, d_w_header_rows := PySem.W.fnOf "_law_header_rows" "_law_header_rows" (defArgs s_w_header_rows) (defBody s_w_header_rows) (defScope s_w_header_rows) .none kV_w_header_rows dc_w_header_rows pm_w_header_rows an_w_header_rows cd_w_header_rows ct_w_header_rows, f_w_first_beyond := f_w_first_beyond, d_w_first_beyond := PySem.W.fnOf "_law_first_beyond" "_law_first_beyond" (defArgs s_w_first_beyond) (defBody s_w_first_beyond) (defScope s_w_first_beyond) .none kV_w_first_beyond dc_w_first_beyond pm_w_first_beyond an_w_first_beyond cd_w_first_beyond ct_w_first_beyond, f_v_law := f_v_law, d_v_law := PySem.W.fnOf "law" "law" (defArgs s_v_law) (defBody s_v_law) (defScope s_v_law) .none kV_v_law dc_v_law pm_v_law an_v_law cd_v_law ct_v_law, c_PactError := c_PactError, c_NoText := c_NoText, c_NoName := c_NoName, c_CalmRoom := c_CalmRoom, c_NoDeed := c_NoDeed, c_TooMany := c_TooMany, c_Breach := c_Breach, c_NoStand := c_NoStand, c_NoPair := c_NoPair, c_NoChange := c_NoChange, c_NoRow := c_NoRow, c_Row := c_Row, c_Clause := c_Clause, c_Duty := c_Duty, c_Leave := c_Leave, c_Ban := c_Ban, c_Power := c_Power, c_Let := c_Let, c_Part := c_Part, c_Pact := c_Pact, c_Body := c_Body, k_KEPT := k_KEPT, k_MARKS := k_MARKS }, ?_, PySem.W.mg_of X G a_v_law⟩
  exact {
    NoText_init := ⟨F_NoText_init, B_NoText_init⟩,
    Clause_init := ⟨F_Clause_init, B_Clause_init⟩,
    Clause_number := ⟨F_Clause_number, B_Clause_number⟩,
    Duty_init := ⟨F_Duty_init, B_Duty_init⟩,
    Duty_number := ⟨F_Duty_number, B_Duty_number⟩,
    Ban_init := ⟨F_Ban_init, B_Ban_init⟩,
    Power_init := ⟨F_Power_init, B_Power_init⟩,
    Let_init := ⟨F_Let_init, B_Let_init⟩,
    Part_init := ⟨F_Part_init, B_Part_init⟩,
    Pact_init := ⟨F_Pact_init, B_Pact_init⟩,
    v_is_name := ⟨F_v_is_name, B_v_is_name, PySem.W.mg_of X G a_v_is_name⟩,
    v_number_of := ⟨F_v_number_of, B_v_number_of, PySem.W.mg_of X G a_v_number_of⟩,
    v_written_with := ⟨F_v_written_with, B_v_written_with, PySem.W.mg_of X G a_v_written_with⟩,
    v_names_of := ⟨F_v_names_of, B_v_names_of, PySem.W.mg_of X G a_v_names_of⟩,
    v_are_names := ⟨F_v_are_names, B_v_are_names, PySem.W.mg_of X G a_v_are_names⟩,
    v_room_of := ⟨F_v_room_of, B_v_room_of, PySem.W.mg_of X G a_v_room_of⟩,
    v_let_of := ⟨F_v_let_of, B_v_let_of, PySem.W.mg_of X G a_v_let_of⟩,
    v_part_of := ⟨F_v_part_of, B_v_part_of, PySem.W.mg_of X G a_v_part_of⟩,
    v_clause_of := ⟨F_v_clause_of, B_v_clause_of, PySem.W.mg_of X G a_v_clause_of⟩,
    v_fits_form := ⟨F_v_fits_form, B_v_fits_form, PySem.W.mg_of X G a_v_fits_form⟩,
    v_fits_place := ⟨F_v_fits_place, B_v_fits_place, PySem.W.mg_of X G a_v_fits_place⟩,
    v_read := ⟨F_v_read, B_v_read, PySem.W.mg_of X G a_v_read⟩,
    v_read_names := ⟨F_v_read_names, B_v_read_names, PySem.W.mg_of X G a_v_read_names⟩,
    v_told_once := ⟨F_v_told_once, B_v_told_once, PySem.W.mg_of X G a_v_told_once⟩,
    v_read_rooms := ⟨F_v_read_rooms, B_v_read_rooms, PySem.W.mg_of X G a_v_read_rooms⟩,
    v_read_whole := ⟨F_v_read_whole, B_v_read_whole, PySem.W.mg_of X G a_v_read_whole⟩,
    Body_init := ⟨F_Body_init, B_Body_init⟩,
    Body_many_open := ⟨F_Body_many_open, B_Body_many_open⟩,
    Body_takes := ⟨F_Body_takes, B_Body_takes⟩,
    Body_takes_done := ⟨F_Body_takes_done, B_Body_takes_done⟩,
    Body_takes_head := ⟨F_Body_takes_head, B_Body_takes_head⟩,
    Body_takes_clause := ⟨F_Body_takes_clause, B_Body_takes_clause⟩,
    Body_put_in := ⟨F_Body_put_in, B_Body_put_in⟩,
    Body_closed := ⟨F_Body_closed, B_Body_closed⟩,
    w_cell_at := ⟨F_w_cell_at, B_w_cell_at, PySem.W.mg_of X G a_w_cell_at⟩,
    w_mix := ⟨F_w_mix, B_w_mix, PySem.W.mg_of X G a_w_mix⟩,
    w_name := ⟨F_w_name, B_w_name, PySem.W.mg_of X G a_w_name⟩,
    w_no_text := ⟨F_w_no_text, B_w_no_text, PySem.W.mg_of X G a_w_no_text⟩,
    w_refused_at := ⟨F_w_refused_at, B_w_refused_at, PySem.W.mg_of X G a_w_refused_at⟩,
    w_nest := ⟨F_w_nest, B_w_nest, PySem.W.mg_of X G a_w_nest⟩,
    w_header_rows := ⟨F_w_header_rows, B_w_header_rows, PySem.W.mg_of X G a_w_header_rows⟩,
    w_first_beyond := ⟨F_w_first_beyond, B_w_first_beyond, PySem.W.mg_of X G a_w_first_beyond⟩,
    v_law := ⟨F_v_law, B_v_law, PySem.W.mg_of X G a_v_law⟩,
    b_list := PySem.W.mg_none_of X G z_list,
    b_len := PySem.W.mg_none_of X G z_len,
    b_range := PySem.W.mg_none_of X G z_range,
    b_all := PySem.W.mg_none_of X G z_all,
    b_int := PySem.W.mg_none_of X G z_int,
    b_isinstance := PySem.W.mg_none_of X G z_isinstance,
    b_bool := PySem.W.mg_none_of X G z_bool,
    b_zip := PySem.W.mg_none_of X G z_zip,
    b_ValueError := PySem.W.mg_none_of X G z_ValueError,
    b_set := PySem.W.mg_none_of X G z_set,
    g_KEPT := PySem.W.mg_of X G ak_KEPT,
    g_LETTERS := ⟨_, PySem.W.mg_of X G ak_LETTERS⟩,
    g_FIGURES := ⟨_, PySem.W.mg_of X G ak_FIGURES⟩,
    g_MOST_LETTERS := ⟨_, PySem.W.mg_of X G ak_MOST_LETTERS⟩,
    g_MOST_FIGURES := ⟨_, PySem.W.mg_of X G ak_MOST_FIGURES⟩,
    g_MARKS := PySem.W.mg_of X G ak_MARKS,
    g_MOST_ROOMS := ⟨_, PySem.W.mg_of X G ak_MOST_ROOMS⟩,
    g_MOST_PARTIES := ⟨_, PySem.W.mg_of X G ak_MOST_PARTIES⟩,
    g_MOST_ACTS := ⟨_, PySem.W.mg_of X G ak_MOST_ACTS⟩,
    g_MOST_ROWS := ⟨_, PySem.W.mg_of X G ak_MOST_ROWS⟩,
    g_MOST_OPEN := ⟨_, PySem.W.mg_of X G ak_MOST_OPEN⟩,
    g_FIRST_ROOM := ⟨_, PySem.W.mg_of X G ak_FIRST_ROOM⟩,
    m_PactError := PySem.W.mg_of X G ac_PactError,
    m_NoText := PySem.W.mg_of X G ac_NoText,
    m_NoName := PySem.W.mg_of X G ac_NoName,
    m_CalmRoom := PySem.W.mg_of X G ac_CalmRoom,
    m_NoDeed := PySem.W.mg_of X G ac_NoDeed,
    m_TooMany := PySem.W.mg_of X G ac_TooMany,
    m_Breach := PySem.W.mg_of X G ac_Breach,
    m_NoStand := PySem.W.mg_of X G ac_NoStand,
    m_NoPair := PySem.W.mg_of X G ac_NoPair,
    m_NoChange := PySem.W.mg_of X G ac_NoChange,
    m_NoRow := PySem.W.mg_of X G ac_NoRow,
    m_Row := PySem.W.mg_of X G ac_Row,
    m_Clause := PySem.W.mg_of X G ac_Clause,
    m_Duty := PySem.W.mg_of X G ac_Duty,
    m_Leave := PySem.W.mg_of X G ac_Leave,
    m_Ban := PySem.W.mg_of X G ac_Ban,
    m_Power := PySem.W.mg_of X G ac_Power,
    m_Let := PySem.W.mg_of X G ac_Let,
    m_Part := PySem.W.mg_of X G ac_Part,
    m_Pact := PySem.W.mg_of X G ac_Pact,
    m_Body := PySem.W.mg_of X G ac_Body,
    o_KEPT := (by obtain ⟨its, n, h1, h2, h3, h4⟩ := hK_KEPT; exact ⟨oK_KEPT, its, n, lK_KEPT, h1, h2, h3, h4⟩),
    o_MARKS := (by obtain ⟨its, n, h1, h2, h3, h4⟩ := hK_MARKS; exact ⟨oK_MARKS, its, n, lK_MARKS, h1, h2, h3, h4⟩),
    cl_Clause := ⟨cl_Clause_pg, cl_Clause_hd, cl_Clause_po, cl_Clause_sa⟩,
    na_Clause_act := na_Clause_act_k,
    na_Clause_label := na_Clause_label_k,
    na_Clause_room := na_Clause_room_k,
    na_Clause_turns := na_Clause_turns_k,
    na_Clause_who := na_Clause_who_k,
    mk_Clause := ⟨mk_Clause_mk, mk_Clause_in, mk_Clause_fn, mk_Clause_kp⟩,
    cl_Duty := ⟨cl_Duty_pg, cl_Duty_hd, cl_Duty_po, cl_Duty_sa⟩,
    na_Duty_act := na_Duty_act_k,
    na_Duty_label := na_Duty_label_k,
    na_Duty_room := na_Duty_room_k,
    na_Duty_turns := na_Duty_turns_k,
    na_Duty_who := na_Duty_who_k,
    mk_Duty := ⟨mk_Duty_mk, mk_Duty_in, mk_Duty_fn, mk_Duty_kp⟩,
    cl_Leave := ⟨cl_Leave_pg, cl_Leave_hd, cl_Leave_po, cl_Leave_sa⟩,
    na_Leave_act := na_Leave_act_k,
    na_Leave_label := na_Leave_label_k,
    na_Leave_room := na_Leave_room_k,
    na_Leave_turns := na_Leave_turns_k,
    na_Leave_who := na_Leave_who_k,
    mk_Leave := ⟨mk_Leave_mk, mk_Leave_in, mk_Leave_fn, mk_Leave_kp⟩,
    cl_Ban := ⟨cl_Ban_pg, cl_Ban_hd, cl_Ban_po, cl_Ban_sa⟩,
    na_Ban_act := na_Ban_act_k,
    na_Ban_label := na_Ban_label_k,
    na_Ban_room := na_Ban_room_k,
    na_Ban_turns := na_Ban_turns_k,
    na_Ban_who := na_Ban_who_k,
    mk_Ban := ⟨mk_Ban_mk, mk_Ban_in, mk_Ban_fn, mk_Ban_kp⟩,
    cl_Power := ⟨cl_Power_pg, cl_Power_hd, cl_Power_po, cl_Power_sa⟩,
    na_Power_act := na_Power_act_k,
    na_Power_label := na_Power_label_k,
    na_Power_room := na_Power_room_k,
    na_Power_turns := na_Power_turns_k,
    na_Power_who := na_Power_who_k,
    mk_Power := ⟨mk_Power_mk, mk_Power_in, mk_Power_fn, mk_Power_kp⟩,
    cl_Let := ⟨cl_Let_pg, cl_Let_hd, cl_Let_po, cl_Let_sa⟩,
    na_Let_name := na_Let_name_k,
    na_Let_value := na_Let_value_k,
    mk_Let := ⟨mk_Let_mk, mk_Let_in, mk_Let_fn, mk_Let_kp⟩,
    cl_Part := ⟨cl_Part_pg, cl_Part_hd, cl_Part_po, cl_Part_sa⟩,
    na_Part_name := na_Part_name_k,
    na_Part_rooms := na_Part_rooms_k,
    na_Part_rows := na_Part_rows_k,
    mk_Part := ⟨mk_Part_mk, mk_Part_in, mk_Part_fn, mk_Part_kp⟩,
    cl_Pact := ⟨cl_Pact_pg, cl_Pact_hd, cl_Pact_po, cl_Pact_sa⟩,
    na_Pact_acts := na_Pact_acts_k,
    na_Pact_parties := na_Pact_parties_k,
    na_Pact_rooms := na_Pact_rooms_k,
    na_Pact_whole := na_Pact_whole_k,
    mk_Pact := ⟨mk_Pact_mk, mk_Pact_in, mk_Pact_fn, mk_Pact_kp⟩,
    cl_Body := ⟨cl_Body_pg, cl_Body_hd, cl_Body_po, cl_Body_sa⟩,
    na_Body_bodies := na_Body_bodies_k,
    na_Body_heads := na_Body_heads_k,
    na_Body_labels := na_Body_labels_k,
    mk_Body := ⟨mk_Body_mk, mk_Body_in, mk_Body_fn, mk_Body_kp⟩,
    mt_Body_many_open := ⟨mt_Body_many_open_at, mt_Body_many_open_fn, k_Body_many_open_⟩,
    mt_Body_takes := ⟨mt_Body_takes_at, mt_Body_takes_fn, k_Body_takes_⟩,
    mt_Body_takes_done := ⟨mt_Body_takes_done_at, mt_Body_takes_done_fn, k_Body_takes_done_⟩,
    mt_Body_takes_head := ⟨mt_Body_takes_head_at, mt_Body_takes_head_fn, k_Body_takes_head_⟩,
    mt_Body_takes_clause := ⟨mt_Body_takes_clause_at, mt_Body_takes_clause_fn, k_Body_takes_clause_⟩,
    mt_Body_put_in := ⟨mt_Body_put_in_at, mt_Body_put_in_fn, k_Body_put_in_⟩,
    mt_Body_closed := ⟨mt_Body_closed_at, mt_Body_closed_fn, k_Body_closed_⟩,
    xc_NoText := ⟨xcO_mro xc_NoText_l xc_NoText_h, xc_NoText_sa⟩,
    xty_NoText := ⟨xty_NoText_ga, xty_NoText_gn, xty_NoText_bx, xty_NoText_hd, xty_NoText_ha, xty_NoText_hn, xty_NoText_tk, xty_NoText_hm⟩,
    xm_NoText := ⟨xcO_cl xc_NoText_l xc_NoText_h, xm_NoText_in, xm_NoText_fn, xm_NoText_kp⟩,
    na_NoText_row := na_NoText_row_k,
    ex_NoText_PactError := (exm_mk (xcO_cl xc_PactError_l xc_PactError_h) ex_NoText_PactError_s ex_NoText_PactError_t ex_NoText_PactError_k),
    cm_Clause := ⟨cm_Clause_ga, cm_Clause_rd, cm_Clause_at, k_Clause_init_⟩,
    cm_Leave := ⟨cm_Leave_ga, cm_Leave_rd, cm_Leave_at, k_Clause_init_⟩,
    ki_NoText_NoName := ki_NoText_NoName_k,
    ki_NoText_CalmRoom := ki_NoText_CalmRoom_k,
    ki_NoText_NoDeed := ki_NoText_NoDeed_k,
    ki_NoText_TooMany := ki_NoText_TooMany_k,
    ki_NoText_Breach := ki_NoText_Breach_k,
    ki_NoText_NoStand := ki_NoText_NoStand_k,
    ki_NoText_NoPair := ki_NoText_NoPair_k,
    ki_NoText_NoChange := ki_NoText_NoChange_k,
    ki_NoText_NoRow := ki_NoText_NoRow_k,
    ki_NoText_NoText := ki_NoText_NoText_k,
    ki_NoText_ValueError := ki_NoText_ValueError_k,
    ki_int_bool := ki_int_bool_k }
end My
theorem PySem.W.Fast.tw16326224291755790048 : True := trivial
theorem PySem.W.Fast.tw12051336951699387553 : True := trivial
theorem PySem.W.Fast.tw14791299719346116129 : True := trivial
theorem PySem.W.Fast.tw6757394287959032101 : True := trivial
theorem PySem.W.Fast.tw7234970951205745445 : True := trivial
theorem PySem.W.Fast.tw1847177174525433894 : True := trivial
theorem PySem.W.Fast.tw12622559789045496967 : True := trivial
theorem PySem.W.Fast.tw16584872208203283879 : True := trivial
theorem PySem.W.Fast.tw15090354577748309160 : True := trivial
theorem PySem.W.Fast.tw14946990491689928360 : True := trivial
theorem PySem.W.Fast.tw9833691919122967721 : True := trivial
theorem PySem.W.Fast.tw1150413714699355178 : True := trivial
theorem PySem.W.Fast.tw11856857747441488658 : True := trivial
theorem PySem.W.Fast.tw2782192810400115220 : True := trivial
theorem PySem.W.Fast.tw8382943810802911381 : True := trivial
theorem PySem.W.Fast.tw10768272580820618582 : True := trivial
theorem PySem.W.Fast.tw5388232005696183128 : True := trivial
theorem PySem.W.Fast.tw2753352054782766682 : True := trivial
theorem PySem.W.Fast.tw16869140150999785146 : True := trivial
theorem PySem.W.Fast.tw5418999704430923580 : True := trivial
theorem PySem.W.Fast.tw6900833323953263325 : True := trivial
theorem PySem.W.Fast.tw13016428760869473053 : True := trivial
theorem PySem.W.Fast.tw15235211260431670302 : True := trivial
theorem PySem.W.Fast.tw13572949454970877502 : True := trivial
theorem PySem.W.Fast.tw5867474624315705342 : True := trivial
theorem PySem.W.Fast.tw1677699259059666207 : True := trivial
theorem PySem.W.Fast.tw5867159666970341791 : True := trivial
theorem PySem.W.Fast.tw13038401501323185823 : True := trivial
theorem PySem.W.Fast.tw17716468453773508136 : True := trivial
theorem PySem.W.Fast.tw4352050949018440824 : True := trivial
theorem PySem.W.Fast.tw4067512025801290857 : True := trivial
theorem PySem.W.Fast.tw6840093372119109527 : True := trivial
theorem PySem.W.Fast.tw3616619882791871557 : True := trivial
theorem PySem.W.Fast.tw13291887848016891412 : True := trivial
theorem PySem.W.Fast.tw7966116724024233427 : True := trivial
theorem PySem.W.Fast.tw4228242998634905499 : True := trivial
theorem PySem.W.Fast.tw6426978029855518441 : True := trivial
theorem PySem.W.Fast.tw15262758680001190039 : True := trivial
theorem PySem.W.Fast.tw17286691544451744201 : True := trivial
theorem PySem.W.Fast.tw7682037752214246542 : True := trivial
theorem PySem.W.Fast.tw4778487208834193284 : True := trivial
theorem PySem.W.Fast.tw10555723503807288157 : True := trivial
theorem PySem.W.Fast.tw18431979724525077749 : True := trivial
theorem PySem.W.Fast.tw10579971862912735091 : True := trivial
theorem PySem.W.Fast.tw4676560708195282408 : True := trivial
theorem PySem.W.Fast.tw15577903255565724238 : True := trivial
theorem PySem.W.Fast.tw12773725922702803077 : True := trivial
theorem PySem.W.Fast.tw139720259494187769 : True := trivial
theorem PySem.W.Fast.tw14334802484661672870 : True := trivial
theorem PySem.W.Fast.tw3999948897943761572 : True := trivial
theorem PySem.W.Fast.tw262666982224580019 : True := trivial
theorem PySem.W.Fast.tw6654561914078924770 : True := trivial
theorem PySem.W.Fast.tw6778445805323995094 : True := trivial
theorem PySem.W.Fast.tw15880927772319698945 : True := trivial
theorem PySem.W.Fast.tw15011742141981505712 : True := trivial
theorem PySem.W.Fast.tw12279324492235644977 : True := trivial
theorem PySem.W.Fast.tw3471497592620970467 : True := trivial
theorem PySem.W.Fast.tw17940429566894343886 : True := trivial
theorem PySem.W.Fast.tw2345216352496164308 : True := trivial
theorem PySem.W.Fast.tw12889445766653683379 : True := trivial
theorem PySem.W.Fast.tw17563700308293204612 : True := trivial
theorem PySem.W.Fast.tw12178404052300461378 : True := trivial
theorem PySem.W.Fast.tw13749589799960731551 : True := trivial
theorem PySem.W.Fast.tw4849089171712572036 : True := trivial
theorem PySem.W.Fast.tw9904197485884961169 : True := trivial
theorem PySem.W.Fast.tw12837902356028173694 : True := trivial
theorem PySem.W.Fast.tw7363990358645147957 : True := trivial
theorem PySem.W.Fast.tw8731556760258432917 : True := trivial
theorem PySem.W.Fast.tw2603670745742764009 : True := trivial
theorem PySem.W.Fast.tw13377135031556164907 : True := trivial
theorem PySem.W.Fast.tw18224783398356749465 : True := trivial
theorem PySem.W.Fast.tw9930726628845358507 : True := trivial
theorem PySem.W.Fast.tw9526447994528012668 : True := trivial
theorem PySem.W.Fast.tw1870216454958142516 : True := trivial
theorem PySem.W.Fast.tw8625662288424192459 : True := trivial
theorem PySem.W.Fast.tw14041703353647659256 : True := trivial
theorem PySem.W.Fast.tw10472803951707891171 : True := trivial
theorem PySem.W.Fast.tw13801653355623577822 : True := trivial
theorem PySem.W.Fast.tw1544719269297279968 : True := trivial
theorem PySem.W.Fast.tw8218975637069897998 : True := trivial
theorem PySem.W.Fast.tw2843966968351965518 : True := trivial
theorem PySem.W.Fast.tw15414045681844858848 : True := trivial
theorem PySem.W.Fast.tw15460986535622388791 : True := trivial
theorem PySem.W.Fast.tw5972425363226284733 : True := trivial
theorem PySem.W.Fast.tw9031302161118052312 : True := trivial
theorem PySem.W.Fast.tw18001249050941881603 : True := trivial
theorem PySem.W.Fast.tw4222278858536237674 : True := trivial
theorem PySem.W.Fast.tw7931637053641072800 : True := trivial
theorem PySem.W.Fast.tw595440397924366615 : True := trivial
theorem PySem.W.Fast.tw12160721209602877635 : True := trivial
theorem PySem.W.Fast.tw1001504244463024932 : True := trivial
theorem PySem.W.Fast.tw15035122879066041163 : True := trivial
theorem PySem.W.Fast.tw11723403579749605987 : True := trivial
theorem PySem.W.Fast.tw9524019936134853591 : True := trivial
theorem PySem.W.Fast.tw14211383449810679342 : True := trivial
theorem PySem.W.Fast.tw2598557682883159763 : True := trivial
theorem PySem.W.Fast.tw7806165009163333299 : True := trivial
theorem PySem.W.Fast.tw17492567184085350104 : True := trivial
theorem PySem.W.Fast.tw4806891639907742335 : True := trivial
theorem PySem.W.Fast.tw9035461840560985453 : True := trivial
theorem PySem.W.Fast.tw17202675016083964146 : True := trivial
theorem PySem.W.Fast.tw5793665694889839950 : True := trivial
theorem PySem.W.Fast.tw16417958705561807355 : True := trivial
theorem PySem.W.Fast.tw10376293951100662426 : True := trivial
theorem PySem.W.Fast.tw13749729823139896493 : True := trivial
theorem PySem.W.Fast.tw17935488665973373512 : True := trivial
theorem PySem.W.Fast.tw9836360549413608987 : True := trivial
theorem PySem.W.Fast.tw13736736342670047024 : True := trivial
theorem PySem.W.Fast.tw13218147456477351035 : True := trivial
theorem PySem.W.Fast.tw12480345394857653994 : True := trivial
theorem PySem.W.Fast.tw14263543528753914387 : True := trivial
theorem PySem.W.Fast.tw45376504863589321 : True := trivial
theorem PySem.W.Fast.tw8871075429193794165 : True := trivial
theorem PySem.W.Fast.tw10060484373990442089 : True := trivial
theorem PySem.W.Fast.tw18231417451605989311 : True := trivial
theorem PySem.W.Fast.tw6185303043576826559 : True := trivial
theorem PySem.W.Fast.tw16601655506035992081 : True := trivial
theorem PySem.W.Fast.tw15539238448027663468 : True := trivial
theorem PySem.W.Fast.tw3128879062898196847 : True := trivial
theorem PySem.W.Fast.tw13096001869979847566 : True := trivial
theorem PySem.W.Fast.tw806199413601715081 : True := trivial
theorem PySem.W.Fast.tw8543971290809461639 : True := trivial
theorem PySem.W.Fast.tw2353412450265132386 : True := trivial
theorem PySem.W.Fast.tw7728038650516859529 : True := trivial
theorem PySem.W.Fast.tw15123381539581833923 : True := trivial
theorem PySem.W.Fast.tw14716683807431562573 : True := trivial
theorem PySem.W.Fast.tw4940634329811166538 : True := trivial
theorem PySem.W.Fast.tw138301467603328639 : True := trivial
theorem PySem.W.Fast.tw6444013636028858433 : True := trivial
theorem PySem.W.Fast.tw15295612405799146962 : True := trivial
theorem PySem.W.Fast.tw5332026826353931388 : True := trivial
theorem PySem.W.Fast.tw4200223232185813092 : True := trivial
theorem PySem.W.Fast.tw594635581861431148 : True := trivial
theorem PySem.W.Fast.tw15553546037361782239 : True := trivial
theorem PySem.W.Fast.tw7765602715122496325 : True := trivial
theorem PySem.W.Fast.tw5983513725998420956 : True := trivial
theorem PySem.W.Fast.tw8548716577465475753 : True := trivial
theorem PySem.W.Fast.tw7232746454408553149 : True := trivial
theorem PySem.W.Fast.tw477846710542301722 : True := trivial
theorem PySem.W.Fast.tw5350133252165826266 : True := trivial
theorem PySem.W.Fast.tw34155204348726104 : True := trivial
theorem PySem.W.Fast.tw18274810765815252325 : True := trivial
theorem PySem.W.Fast.tw16805997439517554058 : True := trivial
theorem PySem.W.Fast.tw7323890608409719888 : True := trivial
theorem PySem.W.Fast.tw9252676018940368504 : True := trivial
theorem PySem.W.Fast.tw17762913707282569387 : True := trivial
theorem PySem.W.Fast.tw2850849821915650232 : True := trivial
theorem PySem.W.Fast.tw831929231365625072 : True := trivial
theorem PySem.W.Fast.tw5701071998142816242 : True := trivial
theorem PySem.W.Fast.tw16214200516101491210 : True := trivial
theorem PySem.W.Fast.tw2845204231718521921 : True := trivial
theorem PySem.W.Fast.tw12862511034406306059 : True := trivial
theorem PySem.W.Fast.tw14519070470580549292 : True := trivial
theorem PySem.W.Fast.tw8363451140669978948 : True := trivial
theorem PySem.W.Fast.tw9462070863153552811 : True := trivial
theorem PySem.W.Fast.tw7476500814490170259 : True := trivial
theorem PySem.W.Fast.tw9010670930893818580 : True := trivial
theorem PySem.W.Fast.tw4235837341860304596 : True := trivial
open PySem PySem.W PyProof.Rows
set_option maxRecDepth 100000 in
set_option maxHeartbeats 0 in
theorem PySem.Challenge.cw_pactway_k27_deep_and_many_holds : PySem.Challenge.rw_pactway_k27_deep_and_many.Holds := by
  w_on; o_law; k_head; (case hw => w_witness2)
  k_fill
  refine L2.walk_ofK (l := PySem.Challenge.rw_pactway_k27_deep_and_many) (n := 63) (k := 11) (x := "_law_script") (CX := L2.CX0) (sp := My.spLaw) rfl (by decide) rfl ⟨rfl, by decide, by decide⟩ (fun w h Y => PySem.W.kIn_of Y) ?F ?S ?C
  case F =>
    intro w mg fa h KX G hmg
    have T : ∃ t : My.Adr, My.Txt (L2.KOf KX) mg t ∧ mg "law" = some (.ref t.f_v_law) := by
      dsimp only [L2.KOf]
      refine' My.txt_mk KX G ?ac_PactError ?ac_NoText ?ac_NoName ?ac_CalmRoom ?ac_NoDeed ?ac_TooMany ?ac_Breach ?ac_NoStand ?ac_NoPair ?ac_NoChange ?ac_NoRow ?ac_Row ?ac_Clause ?ac_Duty ?ac_Leave ?ac_Ban ?ac_Power ?ac_Let ?ac_Part ?ac_Pact ?ac_Body ?ak_KEPT ?ak_LETTERS ?ak_FIGURES ?ak_MOST_LETTERS ?ak_MOST_FIGURES ?ak_MARKS ?ak_MOST_ROOMS ?ak_MOST_PARTIES ?ak_MOST_ACTS ?ak_MOST_ROWS ?ak_MOST_OPEN ?ak_FIRST_ROOM ?a_NoText_init ?l_NoText_init ?c_NoText_init_ ?k_NoText_init_ ?a_Clause_init ?l_Clause_init ?c_Clause_init_ ?k_Clause_init_ ?a_Clause_number ?l_Clause_number ?c_Clause_number_ ?k_Clause_number_ ?a_Duty_init ?l_Duty_init ?c_Duty_init_ ?k_Duty_init_ ?a_Duty_number ?l_Duty_number ?c_Duty_number_ ?k_Duty_number_ ?a_Ban_init ?l_Ban_init ?c_Ban_init_ ?k_Ban_init_ ?a_Power_init ?l_Power_init ?c_Power_init_ ?k_Power_init_ ?a_Let_init ?l_Let_init ?c_Let_init_ ?k_Let_init_ ?a_Part_init ?l_Part_init ?c_Part_init_ ?k_Part_init_ ?a_Pact_init ?l_Pact_init ?c_Pact_init_ ?k_Pact_init_ ?a_v_is_name ?l_v_is_name ?c_v_is_name_ ?k_v_is_name_ ?a_v_number_of ?l_v_number_of ?c_v_number_of_ ?k_v_number_of_ ?a_v_written_with ?l_v_written_with ?c_v_written_with_ ?k_v_written_with_ ?a_v_names_of ?l_v_names_of ?c_v_names_of_ ?k_v_names_of_ ?a_v_are_names ?l_v_are_names ?c_v_are_names_ ?k_v_are_names_ ?a_v_room_of ?l_v_room_of ?c_v_room_of_ ?k_v_room_of_ ?a_v_let_of ?l_v_let_of ?c_v_let_of_ ?k_v_let_of_ ?a_v_part_of ?l_v_part_of ?c_v_part_of_ ?k_v_part_of_ ?a_v_clause_of ?l_v_clause_of ?c_v_clause_of_ ?k_v_clause_of_ ?a_v_fits_form ?l_v_fits_form ?c_v_fits_form_ ?k_v_fits_form_ ?a_v_fits_place ?l_v_fits_place ?c_v_fits_place_ ?k_v_fits_place_ ?a_v_read ?l_v_read ?c_v_read_ ?k_v_read_ ?a_v_read_names ?l_v_read_names ?c_v_read_names_ ?k_v_read_names_ ?a_v_told_once ?l_v_told_once ?c_v_told_once_ ?k_v_told_once_ ?a_v_read_rooms ?l_v_read_rooms ?c_v_read_rooms_ ?k_v_read_rooms_ ?a_v_read_whole ?l_v_read_whole ?c_v_read_whole_ ?k_v_read_whole_ ?a_Body_init ?l_Body_init ?c_Body_init_ ?k_Body_init_ ?a_Body_many_open ?l_Body_many_open ?c_Body_many_open_ ?k_Body_many_open_ ?a_Body_takes ?l_Body_takes ?c_Body_takes_ ?k_Body_takes_ ?a_Body_takes_done ?l_Body_takes_done ?c_Body_takes_done_ ?k_Body_takes_done_ ?a_Body_takes_head ?l_Body_takes_head ?c_Body_takes_head_ ?k_Body_takes_head_ ?a_Body_takes_clause ?l_Body_takes_clause ?c_Body_takes_clause_ ?k_Body_takes_clause_ ?a_Body_put_in ?l_Body_put_in ?c_Body_put_in_ ?k_Body_put_in_ ?a_Body_closed ?l_Body_closed ?c_Body_closed_ ?k_Body_closed_ ?a_w_cell_at ?l_w_cell_at ?c_w_cell_at_ ?k_w_cell_at_ ?a_w_mix ?l_w_mix ?c_w_mix_ ?k_w_mix_ ?a_w_name ?l_w_name ?c_w_name_ ?k_w_name_ ?a_w_no_text ?l_w_no_text ?c_w_no_text_ ?k_w_no_text_ ?a_w_refused_at ?l_w_refused_at ?c_w_refused_at_ ?k_w_refused_at_ ?a_w_nest ?l_w_nest ?c_w_nest_ ?k_w_nest_ ?a_w_header_rows ?l_w_header_rows ?c_w_header_rows_ ?k_w_header_rows_ ?a_w_first_beyond ?l_w_first_beyond ?c_w_first_beyond_ ?k_w_first_beyond_ ?a_v_law ?l_v_law ?c_v_law_ ?k_v_law_ ?z_list ?z_len ?z_range ?z_all ?z_int ?z_isinstance ?z_bool ?z_zip ?z_ValueError ?z_set ?lK_KEPT ?hK_KEPT ?lK_MARKS ?hK_MARKS ?cl_Clause_pg ?cl_Clause_hd ?cl_Clause_po ?cl_Clause_sa ?na_Clause_act_k ?na_Clause_label_k ?na_Clause_room_k ?na_Clause_turns_k ?na_Clause_who_k ?mk_Clause_mk ?mk_Clause_in ?mk_Clause_fn ?mk_Clause_kp ?cl_Duty_pg ?cl_Duty_hd ?cl_Duty_po ?cl_Duty_sa ?na_Duty_act_k ?na_Duty_label_k ?na_Duty_room_k ?na_Duty_turns_k ?na_Duty_who_k ?mk_Duty_mk ?mk_Duty_in ?mk_Duty_fn ?mk_Duty_kp ?cl_Leave_pg ?cl_Leave_hd ?cl_Leave_po ?cl_Leave_sa ?na_Leave_act_k ?na_Leave_label_k ?na_Leave_room_k ?na_Leave_turns_k ?na_Leave_who_k ?mk_Leave_mk ?mk_Leave_in ?mk_Leave_fn ?mk_Leave_kp ?cl_Ban_pg ?cl_Ban_hd ?cl_Ban_po ?cl_Ban_sa ?na_Ban_act_k ?na_Ban_label_k ?na_Ban_room_k ?na_Ban_turns_k ?na_Ban_who_k ?mk_Ban_mk ?mk_Ban_in ?mk_Ban_fn ?mk_Ban_kp ?cl_Power_pg ?cl_Power_hd ?cl_Power_po ?cl_Power_sa ?na_Power_act_k ?na_Power_label_k ?na_Power_room_k ?na_Power_turns_k ?na_Power_who_k ?mk_Power_mk ?mk_Power_in ?mk_Power_fn ?mk_Power_kp ?cl_Let_pg ?cl_Let_hd ?cl_Let_po ?cl_Let_sa ?na_Let_name_k ?na_Let_value_k ?mk_Let_mk ?mk_Let_in ?mk_Let_fn ?mk_Let_kp ?cl_Part_pg ?cl_Part_hd ?cl_Part_po ?cl_Part_sa ?na_Part_name_k ?na_Part_rooms_k ?na_Part_rows_k ?mk_Part_mk ?mk_Part_in ?mk_Part_fn ?mk_Part_kp ?cl_Pact_pg ?cl_Pact_hd ?cl_Pact_po ?cl_Pact_sa ?na_Pact_acts_k ?na_Pact_parties_k ?na_Pact_rooms_k ?na_Pact_whole_k ?mk_Pact_mk ?mk_Pact_in ?mk_Pact_fn ?mk_Pact_kp ?cl_Body_pg ?cl_Body_hd ?cl_Body_po ?cl_Body_sa ?na_Body_bodies_k ?na_Body_heads_k ?na_Body_labels_k ?mk_Body_mk ?mk_Body_in ?mk_Body_fn ?mk_Body_kp ?mt_Body_many_open_at ?mt_Body_many_open_fn ?mt_Body_takes_at ?mt_Body_takes_fn ?mt_Body_takes_done_at ?mt_Body_takes_done_fn ?mt_Body_takes_head_at ?mt_Body_takes_head_fn ?mt_Body_takes_clause_at ?mt_Body_takes_clause_fn ?mt_Body_put_in_at ?mt_Body_put_in_fn ?mt_Body_closed_at ?mt_Body_closed_fn ?xc_PactError_l ?xc_PactError_h ?xc_NoText_l ?xc_NoText_h ?xc_NoText_sa ?xty_NoText_ga ?xty_NoText_gn ?xty_NoText_bx ?xty_NoText_hd ?xty_NoText_ha ?xty_NoText_hn ?xty_NoText_tk ?xty_NoText_hm ?xm_NoText_in ?xm_NoText_fn ?xm_NoText_kp ?na_NoText_row_k ?ex_NoText_PactError_s ?ex_NoText_PactError_t ?ex_NoText_PactError_k ?cm_Clause_ga ?cm_Clause_rd ?cm_Clause_at ?cm_Leave_ga ?cm_Leave_rd ?cm_Leave_at ?ki_NoText_NoName_k ?ki_NoText_CalmRoom_k ?ki_NoText_NoDeed_k ?ki_NoText_TooMany_k ?ki_NoText_Breach_k ?ki_NoText_NoStand_k ?ki_NoText_NoPair_k ?ki_NoText_NoChange_k ?ki_NoText_NoRow_k ?ki_NoText_NoText_k ?ki_NoText_ValueError_k ?ki_int_bool_k
      (case ac_PactError => k_is)
      (case ac_NoText => k_is)
      (case ac_NoName => k_is)
      (case ac_CalmRoom => k_is)
      (case ac_NoDeed => k_is)
      (case ac_TooMany => k_is)
      (case ac_Breach => k_is)
      (case ac_NoStand => k_is)
      (case ac_NoPair => k_is)
      (case ac_NoChange => k_is)
      (case ac_NoRow => k_is)
      (case ac_Row => k_is)
      (case ac_Clause => k_is)
      (case ac_Duty => k_is)
      (case ac_Leave => k_is)
      (case ac_Ban => k_is)
      (case ac_Power => k_is)
      (case ac_Let => k_is)
      (case ac_Part => k_is)
      (case ac_Pact => k_is)
      (case ac_Body => k_is)
      (case ak_KEPT => k_is)
      (case ak_LETTERS => k_is)
      (case ak_FIGURES => k_is)
      (case ak_MOST_LETTERS => k_is)
      (case ak_MOST_FIGURES => k_is)
      (case ak_MARKS => k_is)
      (case ak_MOST_ROOMS => k_is)
      (case ak_MOST_PARTIES => k_is)
      (case ak_MOST_ACTS => k_is)
      (case ak_MOST_ROWS => k_is)
      (case ak_MOST_OPEN => k_is)
      (case ak_FIRST_ROOM => k_is)
      (case a_NoText_init => k_is)
      (case l_NoText_init => k_is)
      (case c_NoText_init_ => k_is)
      (case k_NoText_init_ => k_is)
      (case a_Clause_init => k_is)
      (case l_Clause_init => k_is)
      (case c_Clause_init_ => k_is)
      (case k_Clause_init_ => k_is)
      (case a_Clause_number => k_is)
      (case l_Clause_number => k_is)
      (case c_Clause_number_ => k_is)
      (case k_Clause_number_ => k_is)
      (case a_Duty_init => k_is)
      (case l_Duty_init => k_is)
      (case c_Duty_init_ => k_is)
      (case k_Duty_init_ => k_is)
      (case a_Duty_number => k_is)
      (case l_Duty_number => k_is)
      (case c_Duty_number_ => k_is)
      (case k_Duty_number_ => k_is)
      (case a_Ban_init => k_is)
      (case l_Ban_init => k_is)
      (case c_Ban_init_ => k_is)
      (case k_Ban_init_ => k_is)
      (case a_Power_init => k_is)
      (case l_Power_init => k_is)
      (case c_Power_init_ => k_is)
      (case k_Power_init_ => k_is)
      (case a_Let_init => k_is)
      (case l_Let_init => k_is)
      (case c_Let_init_ => k_is)
      (case k_Let_init_ => k_is)
      (case a_Part_init => k_is)
      (case l_Part_init => k_is)
      (case c_Part_init_ => k_is)
      (case k_Part_init_ => k_is)
      (case a_Pact_init => k_is)
      (case l_Pact_init => k_is)
      (case c_Pact_init_ => k_is)
      (case k_Pact_init_ => k_is)
      (case a_v_is_name => k_is)
      (case l_v_is_name => k_is)
      (case c_v_is_name_ => k_is)
      (case k_v_is_name_ => k_is)
      (case a_v_number_of => k_is)
      (case l_v_number_of => k_is)
      (case c_v_number_of_ => k_is)
      (case k_v_number_of_ => k_is)
      (case a_v_written_with => k_is)
      (case l_v_written_with => k_is)
      (case c_v_written_with_ => k_is)
      (case k_v_written_with_ => k_is)
      (case a_v_names_of => k_is)
      (case l_v_names_of => k_is)
      (case c_v_names_of_ => k_is)
      (case k_v_names_of_ => k_is)
      (case a_v_are_names => k_is)
      (case l_v_are_names => k_is)
      (case c_v_are_names_ => k_is)
      (case k_v_are_names_ => k_is)
      (case a_v_room_of => k_is)
      (case l_v_room_of => k_is)
      (case c_v_room_of_ => k_is)
      (case k_v_room_of_ => k_is)
      (case a_v_let_of => k_is)
      (case l_v_let_of => k_is)
      (case c_v_let_of_ => k_is)
      (case k_v_let_of_ => k_is)
      (case a_v_part_of => k_is)
      (case l_v_part_of => k_is)
      (case c_v_part_of_ => k_is)
      (case k_v_part_of_ => k_is)
      (case a_v_clause_of => k_is)
      (case l_v_clause_of => k_is)
      (case c_v_clause_of_ => k_is)
      (case k_v_clause_of_ => k_is)
      (case a_v_fits_form => k_is)
      (case l_v_fits_form => k_is)
      (case c_v_fits_form_ => k_is)
      (case k_v_fits_form_ => k_is)
      (case a_v_fits_place => k_is)
      (case l_v_fits_place => k_is)
      (case c_v_fits_place_ => k_is)
      (case k_v_fits_place_ => k_is)
      (case a_v_read => k_is)
      (case l_v_read => k_is)
      (case c_v_read_ => k_is)
      (case k_v_read_ => k_is)
      (case a_v_read_names => k_is)
      (case l_v_read_names => k_is)
      (case c_v_read_names_ => k_is)
      (case k_v_read_names_ => k_is)
      (case a_v_told_once => k_is)
      (case l_v_told_once => k_is)
      (case c_v_told_once_ => k_is)
      (case k_v_told_once_ => k_is)
      (case a_v_read_rooms => k_is)
      (case l_v_read_rooms => k_is)
      (case c_v_read_rooms_ => k_is)
      (case k_v_read_rooms_ => k_is)
      (case a_v_read_whole => k_is)
      (case l_v_read_whole => k_is)
      (case c_v_read_whole_ => k_is)
      (case k_v_read_whole_ => k_is)
      (case a_Body_init => k_is)
      (case l_Body_init => k_is)
      (case c_Body_init_ => k_is)
      (case k_Body_init_ => k_is)
      (case a_Body_many_open => k_is)
      (case l_Body_many_open => k_is)
      (case c_Body_many_open_ => k_is)
      (case k_Body_many_open_ => k_is)
      (case a_Body_takes => k_is)
      (case l_Body_takes => k_is)
      (case c_Body_takes_ => k_is)
      (case k_Body_takes_ => k_is)
      (case a_Body_takes_done => k_is)
      (case l_Body_takes_done => k_is)
      (case c_Body_takes_done_ => k_is)
      (case k_Body_takes_done_ => k_is)
      (case a_Body_takes_head => k_is)
      (case l_Body_takes_head => k_is)
      (case c_Body_takes_head_ => k_is)
      (case k_Body_takes_head_ => k_is)
      (case a_Body_takes_clause => k_is)
      (case l_Body_takes_clause => k_is)
      (case c_Body_takes_clause_ => k_is)
      (case k_Body_takes_clause_ => k_is)
      (case a_Body_put_in => k_is)
      (case l_Body_put_in => k_is)
      (case c_Body_put_in_ => k_is)
      (case k_Body_put_in_ => k_is)
      (case a_Body_closed => k_is)
      (case l_Body_closed => k_is)
      (case c_Body_closed_ => k_is)
      (case k_Body_closed_ => k_is)
      (case a_w_cell_at => k_is)
      (case l_w_cell_at => k_is)
      (case c_w_cell_at_ => k_is)
      (case k_w_cell_at_ => k_is)
      (case a_w_mix => k_is)
      (case l_w_mix => k_is)
      (case c_w_mix_ => k_is)
      (case k_w_mix_ => k_is)
      (case a_w_name => k_is)
      (case l_w_name => k_is)
      (case c_w_name_ => k_is)
      (case k_w_name_ => k_is)
      (case a_w_no_text => k_is)
      (case l_w_no_text => k_is)
      (case c_w_no_text_ => k_is)
      (case k_w_no_text_ => k_is)
      (case a_w_refused_at => k_is)
      (case l_w_refused_at => k_is)
      (case c_w_refused_at_ => k_is)
      (case k_w_refused_at_ => k_is)
      (case a_w_nest => k_is)
      (case l_w_nest => k_is)
      (case c_w_nest_ => k_is)
      (case k_w_nest_ => k_is)
      (case a_w_header_rows => k_is)
      (case l_w_header_rows => k_is)
      (case c_w_header_rows_ => k_is)
      (case k_w_header_rows_ => k_is)
      (case a_w_first_beyond => k_is)
      (case l_w_first_beyond => k_is)
      (case c_w_first_beyond_ => k_is)
      (case k_w_first_beyond_ => k_is)
      (case a_v_law => k_is)
      (case l_v_law => k_is)
      (case c_v_law_ => k_is)
      (case k_v_law_ => k_is)
      (case z_list => k_is)
      (case z_len => k_is)
      (case z_range => k_is)
      (case z_all => k_is)
      (case z_int => k_is)
      (case z_isinstance => k_is)
      (case z_bool => k_is)
      (case z_zip => k_is)
      (case z_ValueError => k_is)
      (case z_set => k_is)
      (case lK_KEPT => k_is)
      (case hK_KEPT => exact ⟨_, _, rfl, rfl, My.kl_KEPT, My.kv_KEPT⟩)
      (case lK_MARKS => k_is)
      (case hK_MARKS => exact ⟨_, _, rfl, rfl, My.kl_MARKS, My.kv_MARKS⟩)
      (case cl_Clause_pg => k_is)
      (case cl_Clause_hd => k_is)
      (case cl_Clause_po => k_is)
      (case cl_Clause_sa => k_is)
      (case na_Clause_act_k => k_is)
      (case na_Clause_label_k => k_is)
      (case na_Clause_room_k => k_is)
      (case na_Clause_turns_k => k_is)
      (case na_Clause_who_k => k_is)
      (case mk_Clause_mk => k_is)
      (case mk_Clause_in => k_is)
      (case mk_Clause_fn => k_is)
      (case mk_Clause_kp => k_is)
      (case cl_Duty_pg => k_is)
      (case cl_Duty_hd => k_is)
      (case cl_Duty_po => k_is)
      (case cl_Duty_sa => k_is)
      (case na_Duty_act_k => k_is)
      (case na_Duty_label_k => k_is)
      (case na_Duty_room_k => k_is)
      (case na_Duty_turns_k => k_is)
      (case na_Duty_who_k => k_is)
      (case mk_Duty_mk => k_is)
      (case mk_Duty_in => k_is)
      (case mk_Duty_fn => k_is)
      (case mk_Duty_kp => k_is)
      (case cl_Leave_pg => k_is)
      (case cl_Leave_hd => k_is)
      (case cl_Leave_po => k_is)
      (case cl_Leave_sa => k_is)
      (case na_Leave_act_k => k_is)
      (case na_Leave_label_k => k_is)
      (case na_Leave_room_k => k_is)
      (case na_Leave_turns_k => k_is)
      (case na_Leave_who_k => k_is)
      (case mk_Leave_mk => k_is)
      (case mk_Leave_in => k_is)
      (case mk_Leave_fn => k_is)
      (case mk_Leave_kp => k_is)
      (case cl_Ban_pg => k_is)
      (case cl_Ban_hd => k_is)
      (case cl_Ban_po => k_is)
      (case cl_Ban_sa => k_is)
      (case na_Ban_act_k => k_is)
      (case na_Ban_label_k => k_is)
      (case na_Ban_room_k => k_is)
      (case na_Ban_turns_k => k_is)
      (case na_Ban_who_k => k_is)
      (case mk_Ban_mk => k_is)
      (case mk_Ban_in => k_is)
      (case mk_Ban_fn => k_is)
      (case mk_Ban_kp => k_is)
      (case cl_Power_pg => k_is)
      (case cl_Power_hd => k_is)
      (case cl_Power_po => k_is)
      (case cl_Power_sa => k_is)
      (case na_Power_act_k => k_is)
      (case na_Power_label_k => k_is)
      (case na_Power_room_k => k_is)
      (case na_Power_turns_k => k_is)
      (case na_Power_who_k => k_is)
      (case mk_Power_mk => k_is)
      (case mk_Power_in => k_is)
      (case mk_Power_fn => k_is)
      (case mk_Power_kp => k_is)
      (case cl_Let_pg => k_is)
      (case cl_Let_hd => k_is)
      (case cl_Let_po => k_is)
      (case cl_Let_sa => k_is)
      (case na_Let_name_k => k_is)
      (case na_Let_value_k => k_is)
      (case mk_Let_mk => k_is)
      (case mk_Let_in => k_is)
      (case mk_Let_fn => k_is)
      (case mk_Let_kp => k_is)
      (case cl_Part_pg => k_is)
      (case cl_Part_hd => k_is)
      (case cl_Part_po => k_is)
      (case cl_Part_sa => k_is)
      (case na_Part_name_k => k_is)
      (case na_Part_rooms_k => k_is)
      (case na_Part_rows_k => k_is)
      (case mk_Part_mk => k_is)
      (case mk_Part_in => k_is)
      (case mk_Part_fn => k_is)
      (case mk_Part_kp => k_is)
      (case cl_Pact_pg => k_is)
      (case cl_Pact_hd => k_is)
      (case cl_Pact_po => k_is)
      (case cl_Pact_sa => k_is)
      (case na_Pact_acts_k => k_is)
      (case na_Pact_parties_k => k_is)
      (case na_Pact_rooms_k => k_is)
      (case na_Pact_whole_k => k_is)
      (case mk_Pact_mk => k_is)
      (case mk_Pact_in => k_is)
      (case mk_Pact_fn => k_is)
      (case mk_Pact_kp => k_is)
      (case cl_Body_pg => k_is)
      (case cl_Body_hd => k_is)
      (case cl_Body_po => k_is)
      (case cl_Body_sa => k_is)
      (case na_Body_bodies_k => k_is)
      (case na_Body_heads_k => k_is)
      (case na_Body_labels_k => k_is)
      (case mk_Body_mk => k_is)
      (case mk_Body_in => k_is)
      (case mk_Body_fn => k_is)
      (case mk_Body_kp => k_is)
      (case mt_Body_many_open_at => k_is)
      (case mt_Body_many_open_fn => k_is)
      (case mt_Body_takes_at => k_is)
      (case mt_Body_takes_fn => k_is)
      (case mt_Body_takes_done_at => k_is)
      (case mt_Body_takes_done_fn => k_is)
      (case mt_Body_takes_head_at => k_is)
      (case mt_Body_takes_head_fn => k_is)
      (case mt_Body_takes_clause_at => k_is)
      (case mt_Body_takes_clause_fn => k_is)
      (case mt_Body_put_in_at => k_is)
      (case mt_Body_put_in_fn => k_is)
      (case mt_Body_closed_at => k_is)
      (case mt_Body_closed_fn => k_is)
      (case xc_PactError_l => k_is)
      (case xc_PactError_h => rfl)
      (case xc_NoText_l => k_is)
      (case xc_NoText_h => rfl)
      (case xc_NoText_sa => k_is)
      (case xty_NoText_ga => k_is)
      (case xty_NoText_gn => k_is)
      (case xty_NoText_bx => k_is)
      (case xty_NoText_hd => k_is)
      (case xty_NoText_ha => k_is)
      (case xty_NoText_hn => k_is)
      (case xty_NoText_tk => k_is)
      (case xty_NoText_hm => k_is)
      (case xm_NoText_in => k_is)
      (case xm_NoText_fn => k_is)
      (case xm_NoText_kp => k_is)
      (case na_NoText_row_k => k_is)
      (case ex_NoText_PactError_s => k_is)
      (case ex_NoText_PactError_t => k_is)
      (case ex_NoText_PactError_k => k_is)
      (case cm_Clause_ga => k_is)
      (case cm_Clause_rd => k_is)
      (case cm_Clause_at => k_is)
      (case cm_Leave_ga => k_is)
      (case cm_Leave_rd => k_is)
      (case cm_Leave_at => k_is)
      (case ki_NoText_NoName_k => kit_is)
      (case ki_NoText_CalmRoom_k => kit_is)
      (case ki_NoText_NoDeed_k => kit_is)
      (case ki_NoText_TooMany_k => kit_is)
      (case ki_NoText_Breach_k => kit_is)
      (case ki_NoText_NoStand_k => kit_is)
      (case ki_NoText_NoPair_k => kit_is)
      (case ki_NoText_NoChange_k => kit_is)
      (case ki_NoText_NoRow_k => kit_is)
      (case ki_NoText_NoText_k => kit_is)
      (case ki_NoText_ValueError_k => kit_is)
      (case ki_int_bool_k => kit_is)
    obtain ⟨t, T, hl⟩ := T
    have e0 := hmg.symm.trans hl
    cases e0
    exact ⟨_, My.law_binds T, fun base kb nb => My.ok_v_law T⟩
  case S => exact fun K H a ns hl hO hS => My.law_start hl hO hS
  case C => exact fun _ _ _ _ z => z
