import PyProof.Rows.All
import Wide.All
import OpenK.AllK
import Wide.FinOn
import PyProof.EqAt
import PyProof.EqKinds
import PyProof.TupleCall
import Lean
import PySem.Challenge.RW_pactway_k21_rows_of_a_text
set_option Elab.async false
set_option linter.all false
set_option maxRecDepth 100000
/-! THE HAND LAYER, for ints, bools, texts, own classes, LISTS and tuples (index, slices, in, append, pop ..), calls, loops. Paste it whole ahead of your own text; what your proof does not reach may be deleted. -/
namespace L2
open PySem PySem.Spec PyProof.Rows

/-- a key: an int or a str -/
abbrev Key := Sum Int Str
def keyIs : Key → Value → Bool
  | .inl k, v => Value.isInt k v
  | .inr x, v => Value.isStrOf x v
def keyH (w : World) : Key → Int
  | .inl k => hashInt k
  | .inr x => hashStr w x
theorem keyIs_shape : ∀ {k : Key} {v : Value}, keyIs k v = true → (∃ i t, k = Sum.inl i ∧ v = Value.int i t) ∨ (∃ x t, k = Sum.inr x ∧ v = Value.str x t)
  | .inl i, v, h => by
    obtain ⟨t, e⟩ := Value.isInt_shape (k := i) (v := v) h
    exact .inl ⟨i, t, rfl, e⟩
  | .inr x, v, h => by
    obtain ⟨t, e⟩ := Value.isStrOf_shape (x := x) (v := v) h
    exact .inr ⟨x, t, rfl, e⟩
theorem keyIs_int (i : Int) (t : Tok) : keyIs (.inl i) (.int i t) = true := by simp [keyIs, Value.isInt]
theorem keyIs_str (x : Str) (t : Tok) : keyIs (.inr x) (.str x t) = true := by simp [keyIs, Value.isStrOf]
theorem key_ll (a b : Int) : decide ((Sum.inl a : Key) = Sum.inl b) = (a == b) := by
  by_cases e : a = b
  · subst e; simp
  · have h : ¬ (Sum.inl a : Key) = Sum.inl b := fun q => e (Sum.inl.inj q)
    rw [decide_eq_false h]
    exact (beq_eq_false_iff_ne.mpr e).symm
theorem key_rr (a b : Str) : decide ((Sum.inr a : Key) = Sum.inr b) = decide (a = b) := by
  by_cases e : a = b
  · subst e; simp
  · have h : ¬ (Sum.inr a : Key) = Sum.inr b := fun q => e (Sum.inr.inj q)
    rw [decide_eq_false h, decide_eq_false e]
theorem key_lr (a : Int) (b : Str) : decide ((Sum.inl a : Key) = Sum.inr b) = false := decide_eq_false (fun q => nomatch q)
theorem key_rl (a : Str) (b : Int) : decide ((Sum.inr a : Key) = Sum.inl b) = false := decide_eq_false (fun q => nomatch q)

def mixKind (prog : Program) (w : World) : PySem.KeyKind prog w Key where
  is := keyIs
  hash := keyH w
  inj := fun v a b ha hb => by
    rcases keyIs_shape ha with ⟨i, t, rfl, rfl⟩ | ⟨x, t, rfl, rfl⟩
    · rcases keyIs_shape hb with ⟨j, u, rfl, e⟩ | ⟨y, u, rfl, e⟩
      · injection e with e1 _; rw [e1]
      · exact nomatch e
    · rcases keyIs_shape hb with ⟨j, u, rfl, e⟩ | ⟨y, u, rfl, e⟩
      · exact nomatch e
      · injection e with e1 _; rw [e1]
  byValue := fun k v h => by
    rcases keyIs_shape h with ⟨i, t, rfl, rfl⟩ | ⟨x, t, rfl, rfl⟩ <;> rfl
  pyHash := fun hv h => by
    rcases keyIs_shape hv with ⟨i, t, rfl, rfl⟩ | ⟨x, t, rfl, rfl⟩
    · exact wpAny_pyHash_int h
    · exact wpAny_pyHash_str h
  eqBool := fun hu hv h => by
    rcases keyIs_shape hu with ⟨i, t, rfl, rfl⟩ | ⟨x, t, rfl, rfl⟩
    · rcases keyIs_shape hv with ⟨j, u, rfl, rfl⟩ | ⟨y, u, rfl, rfl⟩
      · rw [key_ll] at h; exact wpAny_eqBool_int h
      · rw [key_lr] at h; exact SeqAt.EqAt.int_str i t y u _ _ _ _ h
    · rcases keyIs_shape hv with ⟨j, u, rfl, rfl⟩ | ⟨y, u, rfl, rfl⟩
      · rw [key_rl] at h; exact SeqAt.EqAt.str_int x t j u _ _ _ _ h
      · rw [key_rr] at h; exact wpAny_eqBool_str h
  «strs» := fun k x t v h => by
    rcases keyIs_shape h with ⟨i, u, rfl, e⟩ | ⟨y, u, rfl, e⟩
    · exact nomatch e
    · injection e with e1 _
      subst e1
      cases v <;> rfl

theorem mixKind_is (prog : Program) (w : World) (k : Key) (v : Value) : (mixKind prog w).is k v = keyIs k v := rfl
theorem mixKind_int (prog : Program) (w : World) (i : Int) (t : Tok) : (mixKind prog w).is (.inl i) (.int i t) = true := keyIs_int i t
theorem mixKind_str (prog : Program) (w : World) (x : Str) (t : Tok) : (mixKind prog w).is (.inr x) (.str x t) = true := keyIs_str x t
end L2

namespace L2
open PySem PySem.Spec PyProof.Rows

/-- a value, without the heap -/
inductive V where
  | non | bl (b : Bool) | int (i : Int) | str (x : Str) | byt (b : Array UInt8) | flt (b : UInt64) | ref (a : Addr) | ty (n : String)
  deriving DecidableEq

def RelV : V → Value → Prop
  | .non, u => u = Value.none
  | .bl b, u => u = Value.bool b
  | .int i, u => ∃ t, u = Value.int i t
  | .str x, u => ∃ t, u = Value.str x t
  | .byt b, u => ∃ t, u = Value.bytes b t
  | .flt b, u => ∃ t, u = Value.float b t
  | .ref a, u => u = Value.ref a
  | .ty n, u => u = Value.type n

abbrev Vals : List V → List Value → Prop := Paired RelV
theorem Vals.length {xs : List V} {us : List Value} (r : Vals xs us) : xs.length = us.length := Paired.length r
theorem Vals.get : ∀ {xs : List V} {us : List Value} {i : Nat} {x : V}, Vals xs us → xs[i]? = some x → ∃ u, us[i]? = some u ∧ RelV x u
  | _, _, _, _, .nil, e => by simp at e
  | _, _, 0, _, .cons r _, e => by simp at e; subst e; exact ⟨_, rfl, r⟩
  | _, _, i + 1, x, .cons _ t, e => by
    obtain ⟨u, h1, h2⟩ := Vals.get (i := i) (x := x) t (by simpa using e)
    exact ⟨u, by simpa using h1, h2⟩
theorem Vals.set {x : V} {u : Value} (r : RelV x u) : ∀ {xs : List V} {us : List Value} (i : Nat), Vals xs us → Vals (xs.set i x) (us.set i u)
  | _, _, _, .nil => .nil
  | _, _, 0, .cons _ t => .cons r t
  | _, _, i + 1, .cons q t => .cons q (Vals.set r i t)
theorem Vals.append : ∀ {xs ys : List V} {us ws : List Value}, Vals xs us → Vals ys ws → Vals (xs ++ ys) (us ++ ws)
  | _, _, _, _, .nil, s => s
  | _, _, _, _, .cons r t, s => .cons r (Vals.append t s)
theorem Vals.take : ∀ {xs : List V} {us : List Value} (n : Nat), Vals xs us → Vals (xs.take n) (us.take n)
  | _, _, 0, _ => .nil
  | _, _, _ + 1, .nil => .nil
  | _, _, n + 1, .cons r t => .cons r (Vals.take n t)
theorem Vals.drop : ∀ {xs : List V} {us : List Value} (n : Nat), Vals xs us → Vals (xs.drop n) (us.drop n)
  | _, _, 0, r => r
  | _, _, _ + 1, .nil => .nil
  | _, _, n + 1, .cons _ t => Vals.drop n t
theorem Vals.none_of : ∀ {xs : List V} {us : List Value} {i : Nat}, Vals xs us → xs[i]? = none → us[i]? = none := fun {xs us i} r e => by
  have h1 := r.length
  have h2 : xs.length ≤ i := List.getElem?_eq_none_iff.mp e
  exact List.getElem?_eq_none_iff.mpr (by omega)

def RelO : Option V → Option Value → Prop
  | some v, some u => RelV v u
  | none, none => True
  | _, _ => False
def KV {κ : Type} : List (κ × V) → List (κ × Value) → Prop := Paired fun (p : κ × V) (q : κ × Value) => p.1 = q.1 ∧ RelV p.2 q.2

/-- a key of a dict (00_mix): an int or a text -/
def kV : Key → V
  | .inl i => .int i
  | .inr x => .str x

/-- what stands at a tracked address -/
inductive HO where
  /-- a list -/
  | lst (xs : List V)
  /-- a tuple (never changes) -/
  | tup (xs : List V)
  /-- a dict whose keys are ints and texts; one whose keys are tuples of ints and texts (the empty one is both) -/
  | dK (kvs : List (Key × V)) | dT (kvs : List (List Key × V))
  /-- a set of ints: its members, its size -/
  | set (S : Int → Bool) (n : Nat)
  /-- an instance of the class at C, its dict at dx, its attributes -/
  | ins (C dx : Addr) (fs : List (Str × V))
  /-- the dict of the instance at x -/
  | own (x : Addr)
  /-- the dict of an exception -/
  | xd (fs : List (Str × V))
  /-- a bound method, f of x -/
  | met (f x : Addr)
  /-- a range object lo, lo + 1, .. below hi -/
  | rng (lo hi : Int)
  /-- a thing that is known to the object (the script; a dict while a loop walks it): read, never written while it is so -/
  | frz (o : Obj) (u : HO)
  /-- a code object's table -/
  | tbl (ps : Array Value)
  /-- any other thing, by what is true of its one object (a def of one's own: SetO a S n := HO.ext fun h => ..) -/
  | ext (φ : Heap → Prop)

abbrev Hp := Addr → Option HO
def upd (H : Hp) (a : Addr) (o : HO) : Hp := fun b => if b = a then some o else H b
theorem upd_same {H : Hp} {a : Addr} {o : HO} : upd H a o a = some o := by unfold upd; rw [if_pos rfl]
theorem upd_ne {H : Hp} {a b : Addr} {o : HO} (h : b ≠ a) : upd H a o b = H b := by unfold upd; rw [if_neg h]
theorem upd_upd {H : Hp} {a : Addr} {o u : HO} : upd (upd H a o) a u = upd H a u := by
  funext b; unfold upd; split <;> rfl
/-- two objects of different content stand apart -/
theorem ne_of {H : Hp} {a b : Addr} {o u : HO} (h : H a = some o) (h' : H b = some u) (d : o ≠ u) : a ≠ b := by
  intro e; subst e; rw [h] at h'; exact d (Option.some.inj h')
theorem ne_of_none {H : Hp} {a b : Addr} {o : HO} (h : H a = some o) (h' : H b = none) : a ≠ b := by
  intro e; subst e; rw [h] at h'; cases h'

section
variable (P : Program) (w : World)
def ObjOk (H : Hp) (h : Heap) (a : Addr) : HO → Prop
  | .lst xs => xs.length ≤ sizeLine ∧ ∃ (its : List Value) (n : Nat), Vals xs its ∧ h.get? a = some { cls := .type "list", data := .seq its.toArray n }
  | .tup xs => xs.length ≤ sizeLine ∧ ∃ its : List Value, Vals xs its ∧ IsTup h a its.toArray
  | .dK kvs => kvs.length ≤ sizeLine ∧ (a == sysModules) = false ∧ ∃ vs, KV kvs vs ∧ h.DictOf (mixKind P w) a vs
  | .dT kvs => kvs.length ≤ sizeLine ∧ (a == sysModules) = false ∧ ∃ xs : List (List Key × Addr × Value),
      Paired (fun (p : List Key × V) (q : List Key × Addr × Value) => p.1 = q.1 ∧ H q.2.1 = some (.tup (p.1.map kV)) ∧ RelV p.2 q.2.2) kvs xs ∧
      ∃ o es ep, h.get? a = some o ∧ o.ExactDict ∧ o.data = .dict es ep ∧ es.toList = xs.map (entryOfKey (tupleKind (mixKind P w))) ∧ (xs.map (·.1)).Nodup
  | .set S n => h.SetOf (intKind P w) a S n
  | .ins C dx fs => H dx = some (.own a) ∧ fs.length ≤ 1000 ∧ dx ≠ a ∧ h.get? a = some (PySem.W.instObj C dx) ∧
      ∃ mA, h.Ns1 dx mA ∧ (∀ f, RelO (fs.lookup f) (mA f)) ∧ PySem.Within mA (fs.map (·.1))
  | .own _ => ∃ o, h.get? a = some o
  | .xd fs => ∃ mA, h.Ns1 a mA ∧ ∀ f, RelO (fs.lookup f) (mA f)
  | .rng lo hi => ∃ t u v, h.get? a = some { cls := .type "range", data := .fields #[.int lo t, .int hi u, .int 1 v] }
  | .frz o u => h.get? a = some o ∧ ObjOk H h a u
  | .tbl ps => h.get? a = some { cls := .none, data := .fields ps }
  | .met f x => h.get? a = some (PySem.W.methodObj (.ref f) (.ref x))
  | .ext φ => φ h ∧ (∃ o, h.get? a = some o) ∧ ∀ h1 h2 : Heap, φ h1 → (∀ o, h1.get? a = some o → h2.get? a = some o) → φ h2
/-- the abstract heap is held -/
def HOk (H : Hp) (h : Heap) : Prop := ∀ a o, H a = some o → ObjOk P w H h a o
end

section
variable {P : Program} {w : World} {H H' : Hp} {h h' : Heap} {a : Addr} {o : HO}
theorem ObjOk.lt (x : ObjOk P w H h a o) : a < h.objs.size := by
  cases o with
  | lst xs => obtain ⟨_, _, _, _, e⟩ := x; exact Heap.lt_size e
  | tup xs => obtain ⟨_, _, _, p⟩ := x; exact p.lt
  | dK kvs => obtain ⟨_, _, _, _, o, _, _, e, _⟩ := x; exact Heap.lt_size e
  | dT kvs => obtain ⟨_, _, _, _, o, _, _, e, _⟩ := x; exact Heap.lt_size e
  | set S n => obtain ⟨o, _, _, _, e, _⟩ := x; exact Heap.lt_size e
  | ins C dx fs => obtain ⟨_, _, _, e, _⟩ := x; exact Heap.lt_size e
  | own y => obtain ⟨_, e⟩ := x; exact Heap.lt_size e
  | xd fs => obtain ⟨_, ⟨_, _, _, e, _⟩, _⟩ := x; exact Heap.lt_size e
  | rng lo hi => obtain ⟨_, _, _, e⟩ := x; exact Heap.lt_size e
  | frz ob u => obtain ⟨e, _⟩ := x; exact Heap.lt_size e
  | tbl ps => exact Heap.lt_size (show h.get? a = some _ from x)
  | met f y => exact Heap.lt_size (show h.get? a = some _ from x)
  | ext φ => obtain ⟨_, ⟨_, e⟩, _⟩ := x; exact Heap.lt_size e
theorem Paired.mapP {α β : Type} {F G : α → β → Prop} : ∀ {l₁ : List α} {l₂ : List β}, Paired F l₁ l₂ → (∀ a b, F a b → G a b) → Paired G l₁ l₂
  | _, _, .nil, _ => .nil
  | _, _, .cons r t, f => .cons (f _ _ r) (Paired.mapP t f)
theorem Paired.imp' {α β : Type} {F G : α → β → Prop} (f : ∀ a b, F a b → G a b) {l₁ : List α} {l₂ : List β} (r : Paired F l₁ l₂) : Paired G l₁ l₂ := Paired.mapP r f
/-- what an object's description leans on: its own object, its own dict, the tuples -/
theorem ObjOk.stay (x : ObjOk P w H h a o) (k : ∀ b u, (b = a ∨ H b = some (.own a)) → h.get? b = some u → h'.get? b = some u)
    (ho : ∀ b, H b = some (.own a) → H' b = some (.own a)) (ht : ∀ b xs, H b = some (.tup xs) → H' b = some (.tup xs)) : ObjOk P w H' h' a o := by
  induction o with
  | lst xs => obtain ⟨z, its, n, r, e⟩ := x; exact ⟨z, its, n, r, k _ _ (.inl rfl) e⟩
  | tup xs => obtain ⟨z, its, r, ob, e, c⟩ := x; exact ⟨z, its, r, ob, k _ _ (.inl rfl) e, c⟩
  | dK kvs => obtain ⟨z, y, vs, r, ob, es, ep, e, c⟩ := x; exact ⟨z, y, vs, r, ob, es, ep, k _ _ (.inl rfl) e, c⟩
  | dT kvs =>
    obtain ⟨z, y, xs, r, ob, es, ep, e, c⟩ := x
    exact ⟨z, y, xs, Paired.mapP r fun p q z => ⟨z.1, ht _ _ z.2.1, z.2.2⟩, ob, es, ep, k _ _ (.inl rfl) e, c⟩
  | set S n => obtain ⟨ob, es, ep, t, e, c⟩ := x; exact ⟨ob, es, ep, t, k _ _ (.inl rfl) e, c⟩
  | ins C dx fs =>
    obtain ⟨d, z, ne, e, mA, ⟨od, es, ep, e2, c⟩, r⟩ := x
    exact ⟨ho _ d, z, ne, k _ _ (.inl rfl) e, mA, ⟨od, es, ep, k _ _ (.inr d) e2, c⟩, r⟩
  | own y => obtain ⟨ob, e⟩ := x; exact ⟨ob, k _ _ (.inl rfl) e⟩
  | xd fs => obtain ⟨mA, ⟨od, es, ep, e, c⟩, r⟩ := x; exact ⟨mA, ⟨od, es, ep, k _ _ (.inl rfl) e, c⟩, r⟩
  | rng lo hi => obtain ⟨t, u, v, e⟩ := x; exact ⟨t, u, v, k _ _ (.inl rfl) e⟩
  | frz ob u ih => obtain ⟨e, q⟩ := x; exact ⟨k _ _ (.inl rfl) e, ih q⟩
  | tbl ps =>
    have e : h.get? a = some { cls := .none, data := .fields ps } := x
    show h'.get? a = some { cls := .none, data := .fields ps }
    exact k a _ (.inl rfl) e
  | met f y =>
    have e : h.get? a = some (PySem.W.methodObj (.ref f) (.ref y)) := x
    show h'.get? a = some (PySem.W.methodObj (.ref f) (.ref y))
    exact k a _ (.inl rfl) e
  | ext φ => obtain ⟨p, ⟨o, e⟩, st⟩ := x; exact ⟨st _ _ p fun o q => k _ _ (.inl rfl) q, ⟨o, k _ _ (.inl rfl) e⟩, st⟩
theorem HOk.lt (x : HOk P w H h) (e : H a = some o) : a < h.objs.size := (x a o e).lt
theorem HOk.fresh (x : HOk P w H h) (e : h.objs.size ≤ a) : H a = none := by
  cases q : H a with
  | none => rfl
  | some u => exact absurd (Nat.lt_of_lt_of_le (x.lt q) e) (Nat.lt_irrefl _)
/-- every object of the heap is kept -/
theorem HOk.kept (x : HOk P w H h) (k : ∀ b u, h.get? b = some u → h'.get? b = some u) : HOk P w H h' := fun a o e =>
  (x a o e).stay (fun b u _ q => k b u q) (fun _ q => q) fun _ _ q => q
/-- a new object is laid and tracked -/
theorem HOk.laid (x : HOk P w H h) (k : ∀ b u, h.get? b = some u → h'.get? b = some u) (hp : h.objs.size ≤ a) (new : ObjOk P w (upd H a o) h' a o) : HOk P w (upd H a o) h' := fun b u e => by
  have hn := x.fresh hp
  by_cases hb : b = a
  · subst hb; rw [upd_same] at e; cases e; exact new
  · rw [upd_ne hb] at e
    exact (x b u e).stay (fun c v _ q => k c v q) (fun c q => by rw [upd_ne (ne_of_none q hn)]; exact q) fun c xs q => by rw [upd_ne (ne_of_none q hn)]; exact q
end

/-- what may be read as u: it is u, or a known u -/
def Rd (H : Hp) (a : Addr) (u : HO) : Prop := H a = some u ∨ ∃ o, H a = some (.frz o u)
theorem Rd.of {H : Hp} {a : Addr} {u : HO} (h : H a = some u) : Rd H a u := .inl h
theorem Rd.ok {P : Program} {w : World} {H : Hp} {h : Heap} {a : Addr} {u : HO} (r : Rd H a u) (x : HOk P w H h) : ObjOk P w H h a u := by
  rcases r with r | ⟨o, r⟩
  · exact x a u r
  · obtain ⟨_, q⟩ := x a _ r
    exact q
/-- what may be written -/
def Mut : Option HO → Prop
  | some (.lst _) => True
  | some (.dK _) => True
  | some (.dT _) => True
  | some (.set _ _) => True
  | some (.ins _ _ _) => True
  | some (.ext _) => True
  | _ => False
section
variable {P : Program} {w : World} {H : Hp} {h h' : Heap} {x e : Addr} {o' : HO}
/-- the object at e is changed: x itself, or the dict of the instance x -/
theorem HOk.write (ok : HOk P w H h) (mu : Mut (H x)) (he : e = x ∨ H e = some (.own x)) (k : ∀ b u, b ≠ e → h.get? b = some u → h'.get? b = some u) (heo : ∃ u, h'.get? e = some u)
    (new : ObjOk P w (upd H x o') h' x o') : HOk P w (upd H x o') h' := fun b u q => by
  have nown : ∀ c y, H c = some (.own y) → c ≠ x := fun c y r z => by subst z; rw [r] at mu; exact mu
  have ntup : ∀ c xs, H c = some (.tup xs) → c ≠ x := fun c xs r z => by subst z; rw [r] at mu; exact mu
  by_cases hb : b = x
  · subst hb; rw [upd_same] at q; cases q; exact new
  · rw [upd_ne hb] at q
    by_cases hbe : b = e
    · have q' : H b = some (.own x) := by
        rcases he with z | z
        · exact absurd (hbe.trans z) hb
        · rw [hbe]; exact z
      rw [q] at q'; cases q'
      obtain ⟨v, hv⟩ := heo
      exact ⟨v, by rw [hbe]; exact hv⟩
    · refine (ok b u q).stay (fun c v hc r => k c v ?_ r) (fun c r => by rw [upd_ne (nown c b r)]; exact r) fun c xs r => by rw [upd_ne (ntup c xs r)]; exact r
      rcases hc with rfl | hc
      · exact hbe
      · rintro rfl
        rcases he with z | z
        · exact nown c b hc z
        · rw [hc] at z; cases z; exact hb rfl
end

/-! ### kept unless tracked; of the frames at fs (the callers') the slots may change (an exception that passes writes there); of the records at ex (iterators) nothing is said -/
structure Un (fs ex : List Addr) (H H' : Hp) (h h' : Heap) : Prop where
  keep : ∀ b o, h.get? b = some o → H b = none → b ∉ fs → b ∉ ex → h'.get? b = some o
  slot : ∀ b o, h.get? b = some o → H b = none → b ∈ fs → b ∉ ex → ∃ sl, h'.get? b = some { o with slots := sl }
  free : ∀ b o, h.get? b = some o → H b = none → b ∉ ex → H' b = none
  there : ∀ b o, h.get? b = some o → b ∉ ex → ∃ o', h'.get? b = some o'
  tups : ∀ b xs, H b = some (.tup xs) → H' b = some (.tup xs)
  frzs : ∀ b o u, H b = some (.frz o u) → H' b = some (.frz o u)
  tbls : ∀ b ps, H b = some (.tbl ps) → ∃ more, H' b = some (.tbl (ps ++ more))
section
variable {fs fs' ex ex' : List Addr} {H H1 H2 : Hp} {h h1 h2 h' : Heap} {a x e : Addr} {o : HO}
theorem Un.any (u : Un fs ex H H1 h h1) {b : Addr} {ob : Obj} (q : h.get? b = some ob) (n : H b = none) (hx : b ∉ ex) : ∃ sl, h1.get? b = some { ob with slots := sl } := by
  by_cases hb : b ∈ fs
  · exact u.slot b ob q n hb hx
  · exact ⟨ob.slots, u.keep b ob q n hb hx⟩
theorem Un.trans (a : Un fs ex H H1 h h1) (b : Un fs ex H1 H2 h1 h2) : Un fs ex H H2 h h2 where
  keep := fun c ob q n hc hx => b.keep c ob (a.keep c ob q n hc hx) (a.free c ob q n hx) hc hx
  slot := fun c ob q n hc hx => by
    obtain ⟨sl, e1⟩ := a.slot c ob q n hc hx
    obtain ⟨sl', e2⟩ := b.slot c _ e1 (a.free c ob q n hx) hc hx
    exact ⟨sl', e2⟩
  free := fun c ob q n hx => by
    obtain ⟨o', e1⟩ := a.there c ob q hx
    exact b.free c o' e1 (a.free c ob q n hx) hx
  there := fun c ob q hx => by
    obtain ⟨o', e1⟩ := a.there c ob q hx
    exact b.there c o' e1 hx
  tups := fun c xs q => b.tups c xs (a.tups c xs q)
  frzs := fun c ob xs q => b.frzs c ob xs (a.frzs c ob xs q)
  tbls := fun c ps q => by
    obtain ⟨m1, e1⟩ := a.tbls c ps q
    obtain ⟨m2, e2⟩ := b.tbls c _ e1
    exact ⟨m1 ++ m2, by rw [e2, Array.append_assoc]⟩
theorem Un.kept (k : ∀ b u, h.get? b = some u → h'.get? b = some u) : Un fs ex H H h h' :=
  ⟨fun b ob q _ _ _ => k b ob q, fun b ob q _ _ _ => ⟨ob.slots, k b ob q⟩, fun _ _ _ n _ => n, fun b ob q _ => ⟨ob, k b ob q⟩, fun _ _ q => q, fun _ _ _ q => q, fun _ ps q => ⟨#[], by rw [q]; simp⟩⟩
theorem Un.refl : Un fs ex H H h h := Un.kept fun _ _ q => q
theorem Un.laid (k : ∀ b u, h.get? b = some u → h'.get? b = some u) (hp : h.objs.size ≤ a) (hn : H a = none) : Un fs ex H (upd H a o) h h' where
  keep := fun b u q _ _ _ => k b u q
  slot := fun b u q _ _ _ => ⟨u.slots, k b u q⟩
  free := fun b u q n _ => by rw [upd_ne (Nat.ne_of_lt (Nat.lt_of_lt_of_le (Heap.lt_size q) hp))]; exact n
  there := fun b u q _ => ⟨u, k b u q⟩
  tups := fun b xs q => by rw [upd_ne (ne_of_none q hn)]; exact q
  frzs := fun b u xs q => by rw [upd_ne (ne_of_none q hn)]; exact q
  tbls := fun b ps q => ⟨#[], by rw [upd_ne (ne_of_none q hn), q]; simp⟩
theorem Un.write (mu : Mut (H x)) (he : e = x ∨ H e = some (.own x)) (k : ∀ b u, b ≠ e → h.get? b = some u → h'.get? b = some u) (heo : ∃ u, h'.get? e = some u) : Un fs ex H (upd H x o) h h' := by
  have hx : ∀ b, H b = none → b ≠ x := fun b n z => by subst z; rw [n] at mu; exact mu
  have hb : ∀ b, H b = none → b ≠ e := fun b n z => by
    subst z
    rcases he with r | r
    · exact hx b n r
    · rw [n] at r; cases r
  have hm : ∀ b u, H b = some u → ¬ Mut (some u) → b ≠ x := fun b u q nm z => by subst z; rw [q] at mu; exact nm mu
  refine ⟨fun b u q n _ _ => k b u (hb b n) q, fun b u q n _ _ => ⟨u.slots, k b u (hb b n) q⟩, fun b u q n _ => by rw [upd_ne (hx b n)]; exact n, fun b u q _ => ?_,
    fun b xs q => by rw [upd_ne (hm b _ q fun z => z)]; exact q, fun b u xs q => by rw [upd_ne (hm b _ q fun z => z)]; exact q, fun b ps q => ⟨#[], by rw [upd_ne (hm b _ q fun z => z), q]; simp⟩⟩
  by_cases hbe : b = e
  · subst hbe; exact heo
  · exact ⟨u, k b u hbe q⟩
theorem Un.mono (u : Un fs ex H H1 h h1) (hs : ∀ b ∈ fs, b ∈ fs') (hx : ∀ b ∈ ex, b ∈ ex') : Un fs' ex' H H1 h h1 :=
  ⟨fun b ob q n hb he => u.keep b ob q n (fun z => hb (hs b z)) fun z => he (hx b z), fun _ _ q n _ he => u.any q n fun z => he (hx _ z), fun b ob q n he => u.free b ob q n fun z => he (hx b z), fun b ob q he => u.there b ob q fun z => he (hx b z), u.tups, u.frzs, u.tbls⟩
end

/-! ### the heap without what is tracked -/
def trk (h : Heap) (H : Hp) : List Addr := (List.range h.objs.size).filter fun a => (H a).isSome
def hidT (h : Heap) (H : Hp) : Heap := PySem.W.hideAll h (trk h H)
theorem hidT_size (h : Heap) (H : Hp) : (hidT h H).objs.size = h.objs.size := PySem.W.hideAll_size _ _
theorem hidT_get {h : Heap} {H : Hp} {b : Addr} {o : Obj} (e : h.get? b = some o) (n : H b = none) : (hidT h H).get? b = some o :=
  PySem.W.hideAll_get _ e fun hm => by
    have q : (H b).isSome = true := (List.mem_filter.mp hm).2
    rw [n] at q; simp at q
theorem of_hidT {h : Heap} {H : Hp} {b : Addr} {o : Obj} (e : (hidT h H).get? b = some o) : h.get? b = some o ∧ H b = none := by
  have e' : h.get? b = some o := PySem.W.of_hideAll (trk h H) e
  refine ⟨e', ?_⟩
  cases q : H b with
  | none => rfl
  | some x =>
    have hm : b ∈ trk h H := List.mem_filter.mpr ⟨List.mem_range.mpr (Heap.lt_size e'), by simp [q]⟩
    have z : (hidT h H).get? b = none := PySem.W.hideAll_none (trk h H) hm
    rw [z] at e; cases e

/-! ### OpenK's ledger, filled with every new object but one -/
def allNews (g h : Heap) (L : Addr) : List (Addr × Obj) := (List.range h.objs.size).filterMap fun a => if a = L ∨ (g.get? a).isSome = true then none else (h.get? a).map fun o => (a, o)
theorem mem_allNews {g h : Heap} {L a : Addr} {o : Obj} (h1 : a ≠ L) (h2 : g.get? a = none) (h3 : h.get? a = some o) : (a, o) ∈ allNews g h L :=
  List.mem_filterMap.mpr ⟨a, List.mem_range.mpr (Heap.lt_size h3), by simp [h1, h2, h3]⟩
theorem of_mem_allNews {g h : Heap} {L : Addr} {p : Addr × Obj} (hp : p ∈ allNews g h L) : p.1 ≠ L ∧ g.get? p.1 = none ∧ h.get? p.1 = some p.2 := by
  obtain ⟨b, _, e⟩ := List.mem_filterMap.mp hp
  split at e
  · cases e
  · rename_i hn
    cases q : h.get? b with
    | none => rw [q] at e; simp at e
    | some u =>
      rw [q] at e
      simp only [Option.map_some, Option.some.injEq] at e
      subst e
      refine ⟨fun z => hn (.inl z), ?_, q⟩
      show g.get? b = none
      cases r : g.get? b with
      | none => rfl
      | some v => exact (hn (.inr (by simp [r]))).elim
def rest (g h : Heap) (L d : Addr) : List (Addr × Obj) := (allNews g h L).filter fun p => decide (p.1 ≠ d)
theorem rest_ne {g h : Heap} {L d : Addr} : ∀ p ∈ rest g h L d, p.1 ≠ d := fun p hp => of_decide_eq_true (List.mem_filter.mp hp).2
theorem mem_rest {g h : Heap} {L d a : Addr} {o : Obj} (h1 : a ≠ L) (h2 : g.get? a = none) (h3 : h.get? a = some o) (h4 : a ≠ d) : (a, o) ∈ rest g h L d :=
  List.mem_filter.mpr ⟨mem_allNews h1 h2 h3, decide_eq_true h4⟩
theorem news_all {g h : Heap} {L : Addr} : News g L h (allNews g h L) := fun p hp => let ⟨a, b, c⟩ := of_mem_allNews hp; ⟨c, a, b⟩
theorem news_at {g h : Heap} {L d : Addr} {o : Obj} (h1 : d ≠ L) (h2 : g.get? d = none) (h3 : h.get? d = some o) : News g L h ((d, o) :: rest g h L d) := fun p hp => by
  rcases List.mem_cons.mp hp with rfl | hp
  · exact ⟨h3, h1, h2⟩
  · exact news_all p (List.mem_filter.mp hp).1
/-- behind a rule that changed d alone: all else but the frame is kept -/
theorem kept_of_news {g h h' : Heap} {L d : Addr} {m : Str → Option Value} (k : ∀ b o, g.get? b = some o → h.get? b = some o) (F : Fr g L h' m) (N : News g L h' (rest g h L d)) :
    ∀ b o, b ≠ L → b ≠ d → h.get? b = some o → h'.get? b = some o := fun b o h1 h2 e => by
  cases q : g.get? b with
  | some u =>
    have := k b u q
    rw [e] at this; cases this
    exact F.keep b _ q
  | none => exact (N (b, o) (mem_rest h1 q e h2)).1
end L2

namespace L2
open PySem PySem.Spec PyProof.Rows

/-- the module's facts, over the base: the heap at the law's entry without what is tracked there -/
structure Mod (K : PySem.W.Frag) (mg : Str → Option Value) (base : Heap) : Prop where
  kin : K.In base
  glob : base.Ns mainGlobals mg
  blt : ∃ mb, base.Ns builtinsNs mb ∧ ∀ x : Str, x ≠ "__name__" → mb x = bootBuiltins x
  nolimit : base.NoLimit

/-- the context: a def's body (or a comprehension's block) running. base: fixed through the whole law; s₀, H₀: the entry; outer: the frames whose slots others may change (a def's callers); stack: all frames that run;
   ex: iterators that were made ahead of the entry and are walked here (a comprehension's); fn: the names whose cells were made at the entry (a def: all; a comprehension's block: its own); calm: not within an except suite; pn: pins that every state bears; xe: what is wanted of an exception that leaves the code -/
structure Cx where
  prog : Program
  w : World
  K : PySem.W.Frag
  mg : Str → Option Value
  base : Heap
  A : Around
  N : List Str
  s₀ : Shared
  H₀ : Hp
  env : Env
  outer : List Env
  stack : List Env
  ex : List Addr
  fn : Str → Bool
  calm : Bool
  pn : List (Addr × Obj)
  xe : Value → Shared → Prop
/-- the callers' frames -/
def frs (l : List Env) : List Addr := l.filterMap (·.frame)
abbrev Cx.fs (X : Cx) : List Addr := frs X.outer

def Vis (sc : Scope) (x : Str) : Prop := sc.names.lookup x = some .local ∨ sc.names.lookup x = some .cell ∨ sc.names.lookup x = some .free
def Loc (sc : Scope) (x : Str) : Prop := sc.names.lookup x = some .local ∨ sc.names.lookup x = some .cell
def Look (env : Env) (h : Heap) (m : Str → Option Value) (x : Str) (u : Value) : Prop :=
  (env.kindOf x = some .local ∧ m x = some u) ∨ ((env.kindOf x = some .cell ∨ env.kindOf x = some .free) ∧ ∃ c, env.cells.lookup x = some c ∧ h.IsCell c (some u))

structure Cx.Ok (X : Cx) : Prop where
  mod : Mod X.K X.mg X.base
  kind : X.env.scope.kind = .function
  glob : X.env.globals = mainGlobals
  blt : X.env.builtins = builtinsNs
  above : X.s₀.heap.objs.size ≤ X.env.locals
  inj : ∀ x y c, X.env.cells.lookup x = some c → X.env.cells.lookup y = some c → x = y
  has : ∀ x, (X.env.kindOf x = some .cell ∨ X.env.kindOf x = some .free) → ∃ c, X.env.cells.lookup x = some c
  cab : ∀ x c, X.fn x = true → X.env.cells.lookup x = some c → X.s₀.heap.objs.size ≤ c
  hd : X.calm = true → X.A.handled = none
  frames : X.A.frames = some X.stack
  stk : X.stack = X.outer ∨ (X.stack = X.env :: X.outer ∧ X.env.frame = some X.env.locals)
  exf : ∀ b ∈ X.ex, b ≠ X.env.locals ∧ ∀ x c, X.env.cells.lookup x = some c → c ≠ b
  bs : ∀ b o, X.base.get? b = some o → X.s₀.heap.get? b = some o ∧ X.H₀ b = none
  bsz : X.base.objs.size ≤ X.s₀.heap.objs.size
  noex : ∀ b o, X.base.get? b = some o → b ∉ X.ex
  exfs : ∀ b ∈ X.ex, b ∉ X.fs
  funs : X.s₀.heap.FunFrames X.base X.outer
  frf : ∀ b ∈ X.fs, X.H₀ b = none

structure Inv (X : Cx) (pins : List (Addr × Obj)) (σ : List (Option V)) (H : Hp) (s : Shared) : Prop where
  ok : X.Ok
  os : s.os = X.s₀.os
  bare : AllBare s.gens
  base : Un X.fs X.ex X.H₀ H X.s₀.heap s.heap
  loc : ∃ m, s.heap.Ns X.env.locals m ∧ ∀ (i : Nat) (x : Str) (v : V), X.N[i]? = some x → σ[i]? = some (some v) → Vis X.env.scope x → ∃ u, RelV v u ∧ Look X.env s.heap m x u
  cell : ∀ x c, X.env.cells.lookup x = some c → ∃ v, s.heap.IsCell c v
  free : H X.env.locals = none
  freeC : ∀ x c, X.env.cells.lookup x = some c → H c = none
  pin : ∀ p ∈ X.pn ++ pins, s.heap.get? p.1 = some p.2 ∧ H p.1 = none ∧ p.1 ≠ X.env.locals ∧ p.1 ∉ X.fs ∧ ∀ v, p.2.data ≠ .cell v
  hok : HOk X.prog X.w H s.heap
  len : σ.length = X.N.length

section
variable {X : Cx} {pins : List (Addr × Obj)} {σ : List (Option V)} {H H' : Hp} {s : Shared} {h' : Heap}

theorem Cx.Ok.nofr (ok : X.Ok) {b : Addr} {o : Obj} (e : X.base.get? b = some o) : b ∉ X.fs := fun hb => by
  have := (ok.funs.mem hb).1
  rw [e] at this; cases this
theorem Inv.bs (I : Inv X pins σ H s) : ∀ b o, X.base.get? b = some o → s.heap.get? b = some o ∧ H b = none := fun b o e =>
  ⟨I.base.keep b o (I.ok.bs b o e).1 (I.ok.bs b o e).2 (I.ok.nofr e) (I.ok.noex b o e), I.base.free b o (I.ok.bs b o e).1 (I.ok.bs b o e).2 (I.ok.noex b o e)⟩
theorem Inv.bk (I : Inv X pins σ H s) : ∀ b o, X.base.get? b = some o → s.heap.get? b = some o := fun b o e => (I.bs b o e).1
theorem Inv.mod (I : Inv X pins σ H s) : Mod X.K X.mg X.base := I.ok.mod
theorem Inv.kIn (I : Inv X pins σ H s) : X.K.In s.heap := I.ok.mod.kin.keeps I.bk
theorem Inv.nolimit (I : Inv X pins σ H s) : s.heap.NoLimit := I.ok.mod.nolimit.keeps I.bk
/-- the frame over the base: for OpenK's rules (K.In X.base is I.mod.kin) -/
theorem Inv.fr (I : Inv X pins σ H s) : ∃ m, Fr X.base X.env.locals s.heap m :=
  let ⟨m, hn, _⟩ := I.loc
  ⟨m, hn, I.bk, Nat.le_trans I.ok.bsz I.ok.above⟩
theorem Inv.lt (I : Inv X pins σ H s) : X.env.locals < s.heap.objs.size := let ⟨_, hn, _⟩ := I.loc; hn.lt
theorem Inv.sz (I : Inv X pins σ H s) : X.s₀.heap.objs.size ≤ s.heap.objs.size := Nat.le_trans I.ok.above (Nat.le_of_lt I.lt)
theorem Inv.nofs (I : Inv X pins σ H s) {a : Addr} (h : s.heap.objs.size ≤ a) : a ∉ X.fs := fun hb => by
  obtain ⟨_, o, ho, _⟩ := I.ok.funs.mem hb
  exact absurd (Nat.lt_of_lt_of_le (Heap.lt_size ho) (Nat.le_trans I.sz h)) (Nat.lt_irrefl _)
theorem Inv.cne (I : Inv X pins σ H s) : ∀ x c, X.env.cells.lookup x = some c → c ≠ X.env.locals := fun x c e z => by
  obtain ⟨v, o, ho, hd⟩ := I.cell x c e
  obtain ⟨m, ⟨o', es, ep, ho', hd', _⟩, _⟩ := I.loc
  rw [z, ho'] at ho; cases ho; rw [hd'] at hd; cases hd
theorem Inv.funs (I : Inv X pins σ H s) : s.heap.FunFrames X.base X.outer := by
  have all : ∀ (l : List Env), (∀ b ∈ frs l, b ∈ X.fs) → X.s₀.heap.FunFrames X.base l → s.heap.FunFrames X.base l := by
    intro l
    induction l with
    | nil => intro _ _; trivial
    | cons env r ih =>
      intro hs hl
      obtain ⟨hk, ⟨L, o, hf, hn, ho, hd⟩, hr⟩ := hl
      have hL : L ∈ X.fs := hs L (by unfold frs; rw [List.filterMap_cons, hf]; exact List.mem_cons_self)
      obtain ⟨sl, e⟩ := I.base.slot L o ho (I.ok.frf L hL) hL fun z => I.ok.exfs L z hL
      exact ⟨hk, ⟨L, _, hf, hn, e, hd⟩, ih (fun b hb => hs b (by unfold frs; rw [List.filterMap_cons, hf]; exact List.mem_cons_of_mem _ hb)) hr⟩
  exact all X.outer (fun _ hb => hb) I.ok.funs

/-- the frames that run, for a call -/
theorem Inv.stack (I : Inv X pins σ H s) : s.heap.FunFrames X.base X.stack := by
  rcases I.ok.stk with e | ⟨e, hf⟩
  · rw [e]; exact I.funs
  · rw [e]
    obtain ⟨m, hn, _⟩ := I.loc
    refine .cons (by rw [I.ok.kind]; decide) hf hn ?_ I.funs
    exact Heap.get?_none_of_le (Nat.le_trans I.ok.bsz I.ok.above)
theorem Inv.stkSub (I : Inv X pins σ H s) : ∀ b ∈ frs X.stack, b ∈ X.env.locals :: X.fs := fun b hb => by
  rcases I.ok.stk with e | ⟨e, hf⟩
  · rw [e] at hb; exact List.mem_cons_of_mem _ hb
  · rw [e] at hb
    unfold frs at hb
    rw [List.filterMap_cons, hf] at hb
    exact hb
theorem Inv.stkFree (I : Inv X pins σ H s) : ∀ b ∈ frs X.stack, H b = none := fun b hb => by
  rcases List.mem_cons.mp (I.stkSub b hb) with e | hb
  · rw [e]; exact I.free
  · obtain ⟨_, o, ho, _⟩ := I.ok.funs.mem hb
    exact I.base.free b o ho (I.ok.frf b hb) fun z => I.ok.exfs b z hb

/-- THE STEP: the untracked objects but the frame and the records at ch are kept (the callers' frames up to slots), the frame's map is kept, the new abstract heap is held -/
theorem Inv.step {g' : Array GenState} {t' : Nat} {d' : Drawn} {ch : List Addr} (I : Inv X pins σ H s)
    (hch : ∀ b ∈ ch, (b ∈ X.ex ∨ X.s₀.heap.objs.size ≤ b) ∧ b ≠ X.env.locals ∧ (∀ x c, X.env.cells.lookup x = some c → c ≠ b) ∧ ∀ p ∈ X.pn ++ pins, p.1 ≠ b)
    (keep : ∀ b o, b ≠ X.env.locals → b ∉ X.fs → b ∉ ch → s.heap.get? b = some o → H b = none → h'.get? b = some o)
    (slot : ∀ b o, b ≠ X.env.locals → b ∈ X.fs → b ∉ ch → s.heap.get? b = some o → H b = none → ∃ sl, h'.get? b = some { o with slots := sl }) (free : ∀ b o, b ∉ ch → s.heap.get? b = some o → H b = none → H' b = none)
    (there : ∀ b o, b ∉ ch → s.heap.get? b = some o → ∃ o', h'.get? b = some o')
    (tups : ∀ b xs, H b = some (.tup xs) → H' b = some (.tup xs)) (frzs : ∀ b o u, H b = some (.frz o u) → H' b = some (.frz o u)) (tbls : ∀ b ps, H b = some (.tbl ps) → ∃ more, H' b = some (.tbl (ps ++ more)))
    (ns : ∀ m, s.heap.Ns X.env.locals m → h'.Ns X.env.locals m) (hok : HOk X.prog X.w H' h') (hg : AllBare g') :
    Inv X pins σ H' { s with heap := h', gens := g', drawn := d', toks := t' } := by
  have neL : ∀ b o, X.s₀.heap.get? b = some o → b ≠ X.env.locals := fun b o e => Nat.ne_of_lt (Nat.lt_of_lt_of_le (Heap.lt_size e) I.ok.above)
  have neC : ∀ b o, X.s₀.heap.get? b = some o → b ∉ X.ex → b ∉ ch := fun b o e hx hb => by
    rcases (hch b hb).1 with z | z
    · exact hx z
    · exact absurd (Nat.lt_of_lt_of_le (Heap.lt_size e) z) (Nat.lt_irrefl _)
  have cellK : ∀ x c, X.env.cells.lookup x = some c → ∀ v, s.heap.IsCell c v → h'.IsCell c v := fun x c e v ⟨o, ho, hd⟩ => by
    have nch : c ∉ ch := fun z => (hch c z).2.2.1 x c e rfl
    by_cases hc : c ∈ X.fs
    · obtain ⟨sl, q⟩ := slot c o (I.cne x c e) hc nch ho (I.freeC x c e)
      exact ⟨_, q, hd⟩
    · exact ⟨o, keep c o (I.cne x c e) hc nch ho (I.freeC x c e), hd⟩
  refine ⟨I.ok, I.os, hg, ⟨fun b o e n hb hx => ?_, fun b o e n hb hx => ?_, fun b o e n hx => ?_, fun b o e hx => ?_, fun b xs e => tups b xs (I.base.tups b xs e), fun b o xs e => frzs b o xs (I.base.frzs b o xs e), fun b ps e => ?_⟩, ?_, fun x c e => ?_, ?_, fun x c e => ?_, fun p hp => ?_, hok, I.len⟩
  · exact keep b o (neL b o e) hb (neC b o e hx) (I.base.keep b o e n hb hx) (I.base.free b o e n hx)
  · obtain ⟨sl, e1⟩ := I.base.slot b o e n hb hx
    obtain ⟨sl', e2⟩ := slot b _ (neL b o e) hb (neC b o e hx) e1 (I.base.free b o e n hx)
    exact ⟨sl', e2⟩
  · obtain ⟨o', e1⟩ := I.base.there b o e hx
    exact free b o' (neC b o e hx) e1 (I.base.free b o e n hx)
  · obtain ⟨o', e1⟩ := I.base.there b o e hx
    exact there b o' (neC b o e hx) e1
  · obtain ⟨m1, e1⟩ := I.base.tbls b ps e
    obtain ⟨m2, e2⟩ := tbls b _ e1
    exact ⟨m1 ++ m2, by rw [e2, Array.append_assoc]⟩
  · obtain ⟨m, hn, hl⟩ := I.loc
    refine ⟨m, ns m hn, fun i x v e1 e2 e3 => ?_⟩
    obtain ⟨u, r, l⟩ := hl i x v e1 e2 e3
    refine ⟨u, r, ?_⟩
    rcases l with l | ⟨k, c, e, z⟩
    · exact .inl l
    · exact .inr ⟨k, c, e, cellK x c e _ z⟩
  · obtain ⟨v, z⟩ := I.cell x c e
    exact ⟨v, cellK x c e v z⟩
  · obtain ⟨m, ⟨o, _, _, ho, _⟩, _⟩ := I.loc
    exact free _ o (fun z => (hch _ z).2.1 rfl) ho I.free
  · obtain ⟨v, o, ho, hd⟩ := I.cell x c e
    exact free c o (fun z => (hch c z).2.2.1 x c e rfl) ho (I.freeC x c e)
  · obtain ⟨e, n, ne, nf, d⟩ := I.pin p hp
    have nch : p.1 ∉ ch := fun z => (hch p.1 z).2.2.2 p hp rfl
    exact ⟨keep p.1 p.2 ne nf nch e n, free p.1 p.2 nch e n, ne, nf, d⟩
/-- .. where the frame's own object is kept too -/
theorem Inv.un {t' : Nat} (I : Inv X pins σ H s) (u : Un X.fs [] H H' s.heap h') (hok : HOk X.prog X.w H' h') : Inv X pins σ H' { s with heap := h', toks := t' } := by
  obtain ⟨m, ⟨o, es, ep, ho, r⟩, _⟩ := id I.loc
  obtain ⟨sl, hL⟩ := u.any ho I.free (by simp)
  exact I.step (g' := s.gens) (d' := s.drawn) (ch := []) (fun _ z => nomatch z) (fun b o _ hb _ e n => u.keep b o e n hb (by simp)) (fun b o _ hb _ e n => u.slot b o e n hb (by simp)) (fun b o _ e n => u.free b o e n (by simp)) (fun b o _ e => u.there b o e (by simp)) u.tups u.frzs u.tbls (fun m' hm => by
    obtain ⟨o', es', ep', ho', r'⟩ := hm
    rw [ho] at ho'; cases ho'
    exact ⟨_, es', ep', hL, r'⟩) hok I.bare
/-- behind a call (or a comprehension's block): the slots of this frame may have changed too, the records at ch may have turned -/
theorem Inv.call {g' : Array GenState} {t' : Nat} {d' : Drawn} {ch : List Addr} (I : Inv X pins σ H s) (u : Un (frs X.stack) ch H H' s.heap h') (hok : HOk X.prog X.w H' h') (hg : AllBare g')
    (hch : ∀ b ∈ ch, (b ∈ X.ex ∨ X.s₀.heap.objs.size ≤ b) ∧ b ≠ X.env.locals ∧ (∀ x c, X.env.cells.lookup x = some c → c ≠ b) ∧ ∀ p ∈ X.pn ++ pins, p.1 ≠ b) :
    Inv X pins σ H' { s with heap := h', gens := g', drawn := d', toks := t' } := by
  obtain ⟨m, ⟨o, es, ep, ho, r⟩, _⟩ := id I.loc
  obtain ⟨sl, hL⟩ := u.any ho I.free fun z => (hch _ z).2.1 rfl
  exact I.step (ch := ch) hch (fun b o hL hb hc e n => u.keep b o e n (fun z => (List.mem_cons.mp (I.stkSub b z)).elim hL hb) hc) (fun b o _ _ hc e n => u.any e n hc) (fun b o hc e n => u.free b o e n hc) (fun b o hc e => u.there b o e hc) u.tups u.frzs u.tbls (fun m' hm => by
    obtain ⟨o', es', ep', ho', r'⟩ := hm
    rw [ho] at ho'; cases ho'
    exact ⟨_, es', ep', hL, r'⟩) hok hg
/-- an untracked record of ours (an iterator) has turned -/
theorem Inv.turned {t' : Nat} {it : Addr} (I : Inv X pins σ H s) (k : ∀ b o, b ≠ it → s.heap.get? b = some o → h'.get? b = some o) (hn : H it = none) (hL : it ≠ X.env.locals)
    (h1 : it ∈ X.ex ∨ X.s₀.heap.objs.size ≤ it) (h2 : ∀ x c, X.env.cells.lookup x = some c → c ≠ it) (h3 : ∀ p ∈ X.pn ++ pins, p.1 ≠ it) : Inv X pins σ H { s with heap := h', toks := t' } := by
  have nit : ∀ b u, H b = some u → b ≠ it := fun b u e z => by rw [z, hn] at e; cases e
  refine I.step (g' := s.gens) (d' := s.drawn) (ch := [it]) (fun b hb => ?_) (fun b o _ _ hc e _ => k b o (fun z => hc (by simp [z])) e) (fun b o _ _ hc e _ => ⟨o.slots, k b o (fun z => hc (by simp [z])) e⟩) (fun _ _ _ _ n => n)
    (fun b o hc e => ⟨o, k b o (fun z => hc (by simp [z])) e⟩) (fun _ _ e => e) (fun _ _ _ e => e) (fun b ps e => ⟨#[], by rw [e]; simp⟩) (fun m hm => ?_) (fun b u e => ?_) I.bare
  · have e : b = it := by simpa using hb
    subst e
    exact ⟨h1, hL, h2, h3⟩
  · obtain ⟨o, es, ep, ho, r⟩ := hm
    exact ⟨o, es, ep, k _ o (Ne.symm hL) ho, r⟩
  · refine (I.hok b u e).stay (fun c v hc q => k c v ?_ q) (fun _ q => q) fun _ _ q => q
    rcases hc with z | z
    · rw [z]; exact nit b u e
    · exact nit c _ z
theorem Inv.tok (I : Inv X pins σ H s) (t : Nat) : Inv X pins σ H { s with toks := t } := I.un (h' := s.heap) (t' := t) Un.refl I.hok
/-- all objects kept -/
theorem Inv.kept {t' : Nat} (I : Inv X pins σ H s) (k : ∀ b u, s.heap.get? b = some u → h'.get? b = some u) : Inv X pins σ H { s with heap := h', toks := t' } := I.un (Un.kept k) (I.hok.kept k)
/-- a new object laid and tracked -/
theorem Inv.laid {a : Addr} {o : HO} {t' : Nat} (I : Inv X pins σ H s) (k : ∀ b u, s.heap.get? b = some u → h'.get? b = some u) (hp : s.heap.objs.size ≤ a) (new : ObjOk X.prog X.w (upd H a o) h' a o) :
    Inv X pins σ (upd H a o) { s with heap := h', toks := t' } := I.un (Un.laid k hp (I.hok.fresh hp)) (I.hok.laid k hp new)
/-- an object written -/
theorem Inv.write {x e : Addr} {o : HO} {t' : Nat} (I : Inv X pins σ H s) (mu : Mut (H x)) (he : e = x ∨ H e = some (.own x)) (k : ∀ b u, b ≠ e → s.heap.get? b = some u → h'.get? b = some u) (heo : ∃ u, h'.get? e = some u)
    (new : ObjOk X.prog X.w (upd H x o) h' x o) : Inv X pins σ (upd H x o) { s with heap := h', toks := t' } := I.un (Un.write mu he k heo) (I.hok.write mu he k heo new)
/-- forgetting slots, pins -/
theorem Inv.weak {σ' : List (Option V)} (I : Inv X pins σ H s) (hl : σ'.length = σ.length) (w : ∀ (i : Nat) v, σ'[i]? = some (some v) → σ[i]? = some (some v)) : Inv X pins σ' H s :=
  ⟨I.ok, I.os, I.bare, I.base, let ⟨m, hn, hl'⟩ := I.loc; ⟨m, hn, fun i x v e1 e2 e3 => hl' i x v e1 (w i v e2) e3⟩, I.cell, I.free, I.freeC, I.pin, I.hok, hl.trans I.len⟩
theorem Inv.pins_of {pins' : List (Addr × Obj)} (I : Inv X pins σ H s) (h : ∀ p ∈ pins', s.heap.get? p.1 = some p.2 ∧ H p.1 = none ∧ p.1 ≠ X.env.locals ∧ p.1 ∉ X.fs ∧ ∀ v, p.2.data ≠ .cell v) : Inv X pins' σ H s :=
  ⟨I.ok, I.os, I.bare, I.base, I.loc, I.cell, I.free, I.freeC, fun p hp => (List.mem_append.mp hp).elim (fun z => I.pin p (List.mem_append_left _ z)) (h p), I.hok, I.len⟩

theorem nodup_ix {N : List Str} (hN : N.Nodup) {i j : Nat} {x : Str} (a : N[i]? = some x) (b : N[j]? = some x) : i = j := by
  obtain ⟨h1, e1⟩ := List.getElem?_eq_some_iff.mp a
  obtain ⟨h2, e2⟩ := List.getElem?_eq_some_iff.mp b
  exact (List.getElem_inj hN).mp (e1.trans e2.symm)

/-- a name is stored; what changed -/
theorem store_ok2 {M : Model} {A : Around} {E : Value → Shared → Prop} {i : Nat} {x : Str} {v : V} {u : Value} {Q : Unit → Shared → Prop} (I : Inv X pins σ H s) (hN : X.N.Nodup) (hi : X.N[i]? = some x) (hx : Loc X.env.scope x) (r : RelV v u)
    (h : ∀ s', Inv X pins (σ.set i (some v)) H s' → (∃ a, Heap.SameBut a s.heap s'.heap ∧ (a = X.env.locals ∨ X.env.cells.lookup x = some a)) → Q () s') (hf : X.fn x = true ∨ X.env.scope.names.lookup x = some .local := by first | exact .inl rfl | exact .inr rfl | assumption) : wpAny M A (storeName X.env x u) Q E s := by
  obtain ⟨m, hn, hl⟩ := id I.loc
  have hcls : (X.env.scope.kind == .class || (X.env.scope.kind == .module && X.env.locals != X.env.globals)) = false := by rw [I.ok.kind]; rfl
  have hiσ : i < σ.length := by rw [I.len]; exact (List.getElem?_eq_some_iff.mp hi).1
  have cne := I.cne
  have tracked : ∀ {a : Addr} {h' : Heap}, (∃ o, s.heap.get? a = some o ∧ H a = none) → Heap.SameBut a s.heap h' → HOk X.prog X.w H h' := fun {a h'} ha hs b ob e => by
    obtain ⟨_, _, hfree⟩ := ha
    refine (I.hok b ob e).stay (fun c w' hc q => (hs.2 c ?_).trans q) (fun _ q => q) fun _ _ q => q
    rintro rfl
    rcases hc with rfl | hc
    · rw [hfree] at e; cases e
    · rw [hfree] at hc; cases hc
  rcases hx with hk | hk
  · refine wpAny_storeName_local hk hn (fun h' hn' hs => ?_) hcls
    obtain ⟨oL, _, _, hoL, _⟩ := id hn
    refine h _ ⟨I.ok, I.os, I.bare, ⟨fun b o e n hb hx => ?_, fun b o e n hb hx => ?_, I.base.free, fun b o e hx => ?_, I.base.tups, I.base.frzs, I.base.tbls⟩, ⟨_, hn', fun j y v' e1 e2 e3 => ?_⟩, fun y c e => ?_, I.free, I.freeC, fun p hp => ?_, tracked ⟨oL, hoL, I.free⟩ hs, by simpa using I.len⟩ ⟨_, hs, .inl rfl⟩
    · exact (hs.2 b (Nat.ne_of_lt (Nat.lt_of_lt_of_le (Heap.lt_size e) I.ok.above))).trans (I.base.keep b o e n hb hx)
    · obtain ⟨sl, e1⟩ := I.base.slot b o e n hb hx
      exact ⟨sl, (hs.2 b (Nat.ne_of_lt (Nat.lt_of_lt_of_le (Heap.lt_size e) I.ok.above))).trans e1⟩
    · obtain ⟨o', e1⟩ := I.base.there b o e hx
      exact ⟨o', (hs.2 b (Nat.ne_of_lt (Nat.lt_of_lt_of_le (Heap.lt_size e) I.ok.above))).trans e1⟩
    · by_cases hj : j = i
      · subst hj
        rw [hi] at e1; cases e1
        rw [List.getElem?_set_self hiσ] at e2
        cases e2
        exact ⟨u, r, .inl ⟨hk, by simp⟩⟩
      · rw [List.getElem?_set_ne (Ne.symm hj)] at e2
        obtain ⟨u', r', q⟩ := hl j y v' e1 e2 e3
        refine ⟨u', r', ?_⟩
        rcases q with ⟨k, e⟩ | ⟨k, c, e, z⟩
        · refine .inl ⟨k, ?_⟩
          have : y ≠ x := fun e => hj (nodup_ix hN e1 (e ▸ hi))
          simp [this, e]
        · exact .inr ⟨k, c, e, z.sameBut hs (cne y c e)⟩
    · obtain ⟨w', z⟩ := I.cell y c e
      exact ⟨w', z.sameBut hs (cne y c e)⟩
    · obtain ⟨e, n, ne, nf, d⟩ := I.pin p hp
      exact ⟨(hs.2 p.1 ne).trans e, n, ne, nf, d⟩
  · have hfn : X.fn x = true := by
      rcases hf with z | z
      · exact z
      · rw [z] at hk; cases hk
    obtain ⟨c, hc⟩ := I.ok.has x (.inl hk)
    obtain ⟨w', z⟩ := I.cell x c hc
    refine wpAny_storeName_cell I.ok.kind hk hc z (fun h' hc' hs => ?_)
    obtain ⟨oc, hoc, hocd⟩ := id z
    refine h { s with heap := h' } ⟨I.ok, I.os, I.bare, ⟨fun b o e n hb hx => ?_, fun b o e n hb hx => ?_, I.base.free, fun b o e hx => ?_, I.base.tups, I.base.frzs, I.base.tbls⟩, ⟨m, hn.sameBut hs (Ne.symm (cne x c hc)), fun j y v' e1 e2 e3 => ?_⟩, fun y c' e => ?_, I.free, I.freeC, fun p hp => ?_, tracked ⟨oc, hoc, I.freeC x c hc⟩ hs, by simpa using I.len⟩ ⟨c, hs, .inr hc⟩
    · exact (hs.2 b (Nat.ne_of_lt (Nat.lt_of_lt_of_le (Heap.lt_size e) (I.ok.cab x c hfn hc)))).trans (I.base.keep b o e n hb hx)
    · obtain ⟨sl, e1⟩ := I.base.slot b o e n hb hx
      exact ⟨sl, (hs.2 b (Nat.ne_of_lt (Nat.lt_of_lt_of_le (Heap.lt_size e) (I.ok.cab x c hfn hc)))).trans e1⟩
    · obtain ⟨o', e1⟩ := I.base.there b o e hx
      exact ⟨o', (hs.2 b (Nat.ne_of_lt (Nat.lt_of_lt_of_le (Heap.lt_size e) (I.ok.cab x c hfn hc)))).trans e1⟩
    · by_cases hj : j = i
      · subst hj
        rw [hi] at e1; cases e1
        rw [List.getElem?_set_self hiσ] at e2
        cases e2
        exact ⟨u, r, .inr ⟨.inl hk, c, hc, hc'⟩⟩
      · rw [List.getElem?_set_ne (Ne.symm hj)] at e2
        obtain ⟨u', r', q⟩ := hl j y v' e1 e2 e3
        refine ⟨u', r', ?_⟩
        rcases q with q | ⟨k, c', e, z'⟩
        · exact .inl q
        · refine .inr ⟨k, c', e, z'.sameBut hs ?_⟩
          rintro rfl
          exact hj (nodup_ix hN e1 (I.ok.inj _ _ _ e hc ▸ hi))
    · by_cases hcc : c' = c
      · subst hcc; exact ⟨_, hc'⟩
      · obtain ⟨w2, z2⟩ := I.cell y c' e
        exact ⟨w2, z2.sameBut hs hcc⟩
    · obtain ⟨e, n, ne, nf, d⟩ := I.pin p hp
      refine ⟨(hs.2 p.1 ?_).trans e, n, ne, nf, d⟩
      intro q
      rw [q, hoc] at e
      have q' : oc = p.2 := Option.some.inj e
      exact d w' (by rw [← q']; exact hocd)
theorem store_ok {M : Model} {A : Around} {E : Value → Shared → Prop} {i : Nat} {x : Str} {v : V} {u : Value} {Q : Unit → Shared → Prop} (I : Inv X pins σ H s) (hN : X.N.Nodup) (hi : X.N[i]? = some x) (hx : Loc X.env.scope x) (r : RelV v u)
    (h : ∀ s', Inv X pins (σ.set i (some v)) H s' → Q () s') (hf : X.fn x = true ∨ X.env.scope.names.lookup x = some .local := by first | exact .inl rfl | exact .inr rfl | assumption) : wpAny M A (storeName X.env x u) Q E s :=
  store_ok2 I hN hi hx r (fun s' I' _ => h s' I') hf
/-- behind a call or a block, the state as it is -/
theorem Inv.call' {s' : Shared} {ch : List Addr} (I : Inv X pins σ H s) (ho : s'.os = s.os) (u : Un (frs X.stack) ch H H' s.heap s'.heap) (hok : HOk X.prog X.w H' s'.heap) (hg : AllBare s'.gens)
    (hch : ∀ b ∈ ch, (b ∈ X.ex ∨ X.s₀.heap.objs.size ≤ b) ∧ b ≠ X.env.locals ∧ (∀ x c, X.env.cells.lookup x = some c → c ≠ b) ∧ ∀ p ∈ X.pn ++ pins, p.1 ≠ b) : Inv X pins σ H' s' := by
  obtain ⟨h', g', d', t', o'⟩ := s'
  have e : o' = s.os := ho
  subst e
  exact I.call (g' := g') (t' := t') (d' := d') u hok hg hch
end

/-! ### the judgements -/
/-- an exception: its class, its own dict's address (where it has one), the abstract heap behind it -/
abbrev XK := Value → Option Addr → Hp → Prop
abbrev St := List (Option V)
abbrev VK := V → Hp → Prop
/-- an expression's reading; a test's; an argument list's -/
abbrev TE := St → Hp → VK → Prop
abbrev TT := St → Hp → (Bool → Hp → Prop) → Prop
abbrev TA := St → Hp → (List V → Hp → Prop) → Prop
/-- what is wanted behind a statement -/
structure Ends where
  nx : St → Hp → Prop
  rt : VK
  bk : St → Hp → Prop := fun _ _ => False
  ct : St → Hp → Prop := fun _ _ => False
abbrev TS := Ends → St → Hp → Prop

def EP (X : Cx) (pins : List (Addr × Obj)) (σ : St) (Q : VK) (u : Value) (s' : Shared) : Prop := ∃ v H', Inv X pins σ H' s' ∧ RelV v u ∧ Q v H'
def TP (X : Cx) (pins : List (Addr × Obj)) (σ : St) (Q : Bool → Hp → Prop) (b : Bool) (s' : Shared) : Prop := ∃ H', Inv X pins σ H' s' ∧ Q b H'
def AP (X : Cx) (pins : List (Addr × Obj)) (σ : St) (Q : List V → Hp → Prop) (us : List Value) (s' : Shared) : Prop := ∃ vs H', Inv X pins σ H' s' ∧ Vals vs us ∧ Q vs H'
def SP (X : Cx) (pins : List (Addr × Obj)) (D : Ends) (f : Flow) (s' : Shared) : Prop :=
  match f with
  | .next => ∃ σ' H', Inv X pins σ' H' s' ∧ D.nx σ' H'
  | .brk => ∃ σ' H', Inv X pins σ' H' s' ∧ D.bk σ' H'
  | .cont => ∃ σ' H', Inv X pins σ' H' s' ∧ D.ct σ' H'
  | .ret u => ∃ v σ' H', Inv X pins σ' H' s' ∧ RelV v u ∧ D.rt v H'

def PE (X : Cx) (e : Expr) (t : TE) : Prop :=
  ∀ (pins : List (Addr × Obj)) (s : Shared) (σ : St) (H : Hp) (Q : VK), Inv X pins σ H s → t σ H Q → wpAny (model X.prog X.w) X.A (eval e X.env) (EP X pins σ Q) X.xe s
def PT (X : Cx) (e : Expr) (t : TT) : Prop :=
  ∀ (pins : List (Addr × Obj)) (s : Shared) (σ : St) (H : Hp) (Q : Bool → Hp → Prop), Inv X pins σ H s → t σ H Q → wpAny (model X.prog X.w) X.A (isTrue e X.env (eval e X.env)) (TP X pins σ Q) X.xe s
/-- a test whatever its 'whole' is (and, or) -/
def PW (X : Cx) (e : Expr) (t : TT) : Prop :=
  ∀ (whole : Sem Value) (pins : List (Addr × Obj)) (s : Shared) (σ : St) (H : Hp) (Q : Bool → Hp → Prop), Inv X pins σ H s → t σ H Q → wpAny (model X.prog X.w) X.A (isTrue e X.env whole) (TP X pins σ Q) X.xe s
theorem PW.pt {X : Cx} {e : Expr} {t : TT} (h : PW X e t) : PT X e t := h _
/-- an argument list (no star), from the left -/
def PA (X : Cx) (es : List Expr) (t : TA) : Prop :=
  ∀ (pos : Pos) (pins : List (Addr × Obj)) (s : Shared) (σ : St) (H : Hp) (Q : List V → Hp → Prop), Inv X pins σ H s → t σ H Q → wpAny (model X.prog X.w) X.A (spliced (backTo pos (starEach es X.env))) (AP X pins σ Q) X.xe s
def PS (X : Cx) (st : Stmt) (t : TS) : Prop :=
  ∀ (pins : List (Addr × Obj)) (s : Shared) (σ : St) (H : Hp) (D : Ends), Inv X pins σ H s → t D σ H → wpAny (model X.prog X.w) X.A (exec st X.env) (SP X pins D) X.xe s
def PSs (X : Cx) (st : List Stmt) (t : TS) : Prop :=
  ∀ (pins : List (Addr × Obj)) (s : Shared) (σ : St) (H : Hp) (D : Ends), Inv X pins σ H s → t D σ H → wpAny (model X.prog X.w) X.A (execs st X.env) (SP X pins D) X.xe s
/-- weaken the end -/
theorem thn {α : Type} {t : Sem α} {Q Q' : α → Shared → Prop} {M : Model} {A : Around} {E : Value → Shared → Prop} {s : Shared} (h : wpAny M A t Q E s) (hQ : ∀ a s, Q a s → Q' a s) : wpAny M A t Q' E s := wpAny_mono h hQ fun _ _ x => x
end L2

namespace L2
open PySem PySem.Spec PyProof.Rows
section
variable {X : Cx}

/-- two expressions in a row -/
theorem bin {a b : Expr} {ta tb : TE} (ha : PE X a ta) (hb : PE X b tb) {pins : List (Addr × Obj)} {s : Shared} {σ : St} {H : Hp} {R : V → V → Hp → Prop} (I : Inv X pins σ H s) (h : ta σ H fun x H1 => tb σ H1 fun y H2 => R x y H2)
    {α : Type} {Q : α → Shared → Prop} {f : Value → Value → Sem α}
    (hf : ∀ v u s2 x y H2, Inv X pins σ H2 s2 → RelV x v → RelV y u → R x y H2 → wpAny (model X.prog X.w) X.A (f v u) Q X.xe s2) :
    wpAny (model X.prog X.w) X.A (eval a X.env) (fun v s₁ => wpAny (model X.prog X.w) X.A (eval b X.env) (fun u s₂ => wpAny (model X.prog X.w) X.A (f v u) Q X.xe s₂) X.xe s₁) X.xe s := by
  refine thn (ha pins s σ H _ I h) fun v s1 ⟨x, H1, I1, r1, q1⟩ => ?_
  refine thn (hb pins s1 σ H1 _ I1 q1) fun u s2 ⟨y, H2, I2, r2, q2⟩ => ?_
  exact hf v u s2 x y H2 I2 r1 r2 q2

/-! ### names and constants -/
def tVar (i : Nat) : TE := fun σ H Q => ∃ v, σ[i]? = some (some v) ∧ Q v H
def tC (v : V) : TE := fun _ H Q => Q v H
theorem pe_var {i : Nat} {x : Str} {pos : Pos} (hN : X.N[i]? = some x) (hv : Vis X.env.scope x) (hd : (x == ("__debug__" : Str)) = false := by decide) (hcd : (x == ("__classdict__" : Str)) = false := by decide) : PE X (.Name x pos) (tVar i) := by
  intro pins s σ H Q I h
  obtain ⟨v, e, h⟩ := h
  obtain ⟨m, hn, hl⟩ := I.loc
  obtain ⟨u, r, l⟩ := hl i x v hN e hv
  have fin : EP X pins σ Q u s := ⟨v, H, I, r, h⟩
  rcases l with ⟨hk, hm⟩ | ⟨hk, c, hc, hcell⟩
  · exact wpAny_Name (wpAny_loadName_local I.ok.kind hk hn hm fin) hd
  · rcases hk with hk | hk
    · exact wpAny_Name (wpAny_loadName_cell I.ok.kind hk hc hcell fin) hd
    · exact wpAny_Name (wpAny_loadName_free I.ok.kind hk hc hcell fin hcd) hd
theorem pe_int {i j pos} : PE X (.Constant (.int i) j pos) (tC (.int i)) := fun _ _ _ H _ I h => wpAny_Constant_int ⟨.int i, H, I.tok _, ⟨_, rfl⟩, h⟩
theorem pe_bl {b j pos} : PE X (.Constant (.bool b) j pos) (tC (.bl b)) := fun _ _ _ H _ I h => Constant_bool ⟨.bl b, H, I, rfl, h⟩
theorem pe_non {j pos} : PE X (.Constant .none j pos) (tC .non) := fun _ _ _ H _ I h => Constant_none ⟨.non, H, I, rfl, h⟩
theorem pe_str {x j pos} : PE X (.Constant (.str x) j pos) (tC (.str x)) := fun _ _ _ H _ I h => Calls.Constant_str ⟨.str x, H, I.tok _, ⟨_, rfl⟩, h⟩

/-- a global name of the def -/
def Gl (X : Cx) (x : Str) : Prop := X.env.kindOf x = some .globalImplicit
theorem ld_glob {E : Value → Shared → Prop} {pins : List (Addr × Obj)} {s : Shared} {σ : St} {H : Hp} {x : Str} {u : Value} {pos : Pos} {Q : Value → Shared → Prop} (I : Inv X pins σ H s) (hg : Gl X x) (hm : X.mg x = some u) (h : Q u s)
    (hd : (x == ("__debug__" : Str)) = false := by decide) : wpAny (model X.prog X.w) X.A (eval (.Name x pos) X.env) Q E s :=
  Calls.Name_function_global I.ok.kind hg (Calls.loadGlobal_global (by rw [I.ok.glob]; exact I.mod.glob.keeps I.bk) hm h) hd
theorem ld_blt {E : Value → Shared → Prop} {pins : List (Addr × Obj)} {s : Shared} {σ : St} {H : Hp} {x : Str} {u : Value} {pos : Pos} {Q : Value → Shared → Prop} (I : Inv X pins σ H s) (hg : Gl X x) (hm : X.mg x = none) (hv : bootBuiltins x = some u) (h : Q u s)
    (hn : x ≠ "__name__" := by decide) (hd : (x == ("__debug__" : Str)) = false := by decide) : wpAny (model X.prog X.w) X.A (eval (.Name x pos) X.env) Q E s := by
  obtain ⟨mb, h1, h2⟩ := I.mod.blt
  exact Calls.Name_function_global I.ok.kind hg (Calls.loadGlobal_builtin (by rw [I.ok.glob]; exact I.mod.glob.keeps I.bk) hm (by rw [I.ok.blt]; exact h1.keeps I.bk) ((h2 x hn).trans hv) h) hd
/-- a module's constant, a class, a function, as a value -/
theorem pe_glob {x : Str} {v : V} {u : Value} {pos : Pos} (hg : Gl X x) (hm : X.mg x = some u) (r : RelV v u) (hd : (x == ("__debug__" : Str)) = false := by decide) : PE X (.Name x pos) (tC v) :=
  fun _ _ _ H _ I h => ld_glob I hg hm ⟨v, H, I, r, h⟩ hd
theorem pe_bltn {x : Str} {v : V} {u : Value} {pos : Pos} (hg : Gl X x) (hm : X.mg x = none) (hv : bootBuiltins x = some u) (r : RelV v u) (hn : x ≠ "__name__" := by decide) (hd : (x == ("__debug__" : Str)) = false := by decide) : PE X (.Name x pos) (tC v) :=
  fun _ _ _ H _ I h => ld_blt I hg hm hv ⟨v, H, I, r, h⟩ hn hd

/-! ### arithmetic -/
/-- two ints -/
def t2I (ta tb : TE) (k : Int → Int → Hp → Prop) : St → Hp → Prop := fun σ H => ta σ H fun x H1 => tb σ H1 fun y H2 => ∃ i j, x = .int i ∧ y = .int j ∧ k i j H2
def tAdd (ta tb : TE) : TE := fun σ H Q => t2I ta tb (fun i j H2 => Q (.int (i + j)) H2) σ H
def tSub (ta tb : TE) : TE := fun σ H Q => t2I ta tb (fun i j H2 => Q (.int (i - j)) H2) σ H
/-- the left factor below 2^64 -/
def tMul (ta tb : TE) : TE := fun σ H Q => t2I ta tb (fun i j H2 => (-(2 ^ 64) < i ∧ i < 2 ^ 64) ∧ Q (.int (i * j)) H2) σ H
variable {a b : Expr} {ta tb : TE} {pos : Pos}
theorem pe_add (ha : PE X a ta) (hb : PE X b tb) : PE X (.BinOp a .Add b pos) (tAdd ta tb) := by
  intro pins s σ H Q I h
  refine wpAny_BinOp (bin ha hb I h fun v u s2 x y H2 I2 rx ry q => ?_)
  obtain ⟨i, j, rfl, rfl, q⟩ := q
  obtain ⟨t, rfl⟩ := rx
  obtain ⟨t', rfl⟩ := ry
  exact add_int ⟨.int _, H2, I2.tok _, ⟨_, rfl⟩, q⟩
theorem pe_sub (ha : PE X a ta) (hb : PE X b tb) : PE X (.BinOp a .Sub b pos) (tSub ta tb) := by
  intro pins s σ H Q I h
  refine wpAny_BinOp (bin ha hb I h fun v u s2 x y H2 I2 rx ry q => ?_)
  obtain ⟨i, j, rfl, rfl, q⟩ := q
  obtain ⟨t, rfl⟩ := rx
  obtain ⟨t', rfl⟩ := ry
  exact sub_int ⟨.int _, H2, I2.tok _, ⟨_, rfl⟩, q⟩
theorem pe_mul (ha : PE X a ta) (hb : PE X b tb) : PE X (.BinOp a .Mult b pos) (tMul ta tb) := by
  intro pins s σ H Q I h
  refine wpAny_BinOp (bin ha hb I h fun v u s2 x y H2 I2 rx ry q => ?_)
  obtain ⟨i, j, rfl, rfl, ⟨q1, q2⟩, q⟩ := q
  obtain ⟨t, rfl⟩ := rx
  obtain ⟨t', rfl⟩ := ry
  exact mul_int ⟨.int _, H2, I2.tok _, ⟨_, rfl⟩, q⟩ (.of_left (intBits_le_64 q1 q2))

/-! ### comparisons -/
def PC (X : Cx) (op : CmpOp) (a b : Expr) (t : TE) : Prop :=
  ∀ (pins : List (Addr × Obj)) (s : Shared) (σ : St) (H : Hp) (Q : VK), Inv X pins σ H s → t σ H Q →
    wpAny (model X.prog X.w) X.A (eval a X.env) (fun v s₁ => wpAny (model X.prog X.w) X.A (eval b X.env) (fun u s₂ => wpAny (model X.prog X.w) X.A (compareOp op v u) (EP X pins σ Q) X.xe s₂) X.xe s₁) X.xe s
theorem nobehind (b : Expr) {op : CmpOp} (h : op ≠ .In) (h2 : op ≠ .NotIn) : behindInMarks op b = false := by
  have e1 : (op == CmpOp.In) = false := by cases op <;> first | rfl | exact absurd rfl h
  have e2 : (op == CmpOp.NotIn) = false := by cases op <;> first | rfl | exact absurd rfl h2
  cases b <;> simp [behindInMarks, e1, e2]
def tCmp (p : Int → Int → Bool) (ta tb : TE) : TE := fun σ H Q => t2I ta tb (fun i j H2 => Q (.bl (p i j)) H2) σ H
abbrev tLt : TE → TE → TE := tCmp fun i j => decide (i < j)
abbrev tLe : TE → TE → TE := tCmp fun i j => decide (i ≤ j)
abbrev tGt : TE → TE → TE := tCmp fun i j => decide (j < i)
abbrev tGe : TE → TE → TE := tCmp fun i j => decide (j ≤ i)
abbrev tEqI : TE → TE → TE := tCmp fun i j => decide (i = j)
abbrev tNeI : TE → TE → TE := tCmp fun i j => !decide (i = j)
/-- a comparison of two ints, by its rule -/
theorem pc_int {op : CmpOp} {p : Int → Int → Bool} (ha : PE X a ta) (hb : PE X b tb)
    (rule : ∀ (i j : Int) (t u : Tok) (Q : Value → Shared → Prop) (s : Shared), Q (.bool (p i j)) s → wpAny (model X.prog X.w) X.A (compareOp op (.int i t) (.int j u)) Q X.xe s) : PC X op a b (tCmp p ta tb) := by
  intro pins s σ H Q I h
  refine bin ha hb I h fun v u s2 x y H2 I2 rx ry q => ?_
  obtain ⟨i, j, rfl, rfl, q⟩ := q
  obtain ⟨t, rfl⟩ := rx
  obtain ⟨t', rfl⟩ := ry
  exact rule i j t t' _ s2 ⟨.bl _, H2, I2, rfl, q⟩
theorem pc_lt (ha : PE X a ta) (hb : PE X b tb) : PC X .Lt a b (tLt ta tb) := pc_int ha hb fun _ _ _ _ _ _ h => lt_int h
theorem pc_le (ha : PE X a ta) (hb : PE X b tb) : PC X .LtE a b (tLe ta tb) := pc_int ha hb fun _ _ _ _ _ _ h => le_int h
theorem pc_gt (ha : PE X a ta) (hb : PE X b tb) : PC X .Gt a b (tGt ta tb) := pc_int ha hb fun _ _ _ _ _ _ h => gt_int h
theorem pc_ge (ha : PE X a ta) (hb : PE X b tb) : PC X .GtE a b (tGe ta tb) := pc_int ha hb fun _ _ _ _ _ _ h => ge_int h
theorem pc_eqI (ha : PE X a ta) (hb : PE X b tb) : PC X .Eq a b (tEqI ta tb) := pc_int ha hb fun _ _ _ _ _ _ h => eq_int (by rw [Bool.beq_eq_decide_eq]; exact h)
theorem pc_neI (ha : PE X a ta) (hb : PE X b tb) : PC X .NotEq a b (tNeI ta tb) := pc_int ha hb fun _ _ _ _ _ _ h => ne_int (by rw [bne, Bool.beq_eq_decide_eq]; exact h)
/-- is None -/
def tIsN (ta : TE) : TE := fun σ H Q => ta σ H fun x H1 => Q (.bl (decide (x = .non))) H1
def tNotN (ta : TE) : TE := fun σ H Q => ta σ H fun x H1 => Q (.bl (!decide (x = .non))) H1
theorem RelV.none_iff {x : V} {v : Value} (r : RelV x v) : (v == Value.none) = decide (x = .non) := by
  cases x with
  | non => cases r; rfl
  | bl _ => cases r; rfl
  | int _ => obtain ⟨t, rfl⟩ := r; rfl
  | str _ => obtain ⟨t, rfl⟩ := r; rfl
  | byt _ => obtain ⟨t, rfl⟩ := r; rfl
  | flt _ => obtain ⟨t, rfl⟩ := r; rfl
  | ref _ => cases r; rfl
  | ty _ => cases r; rfl
theorem pc_isN {j pos'} (ha : PE X a ta) : PC X .Is a (.Constant .none j pos') (tIsN ta) := by
  intro pins s σ H Q I h
  refine thn (ha pins s σ H _ I h) fun v s1 ⟨x, H1, I1, r1, q1⟩ => ?_
  exact Constant_none (is_none_gen ⟨.bl _, H1, I1, by rw [r1.none_iff]; rfl, q1⟩)
theorem pc_notN {j pos'} (ha : PE X a ta) : PC X .IsNot a (.Constant .none j pos') (tNotN ta) := by
  intro pins s σ H Q I h
  refine thn (ha pins s σ H _ I h) fun v s1 ⟨x, H1, I1, r1, q1⟩ => ?_
  exact Constant_none (isnot_none_gen ⟨.bl _, H1, I1, by rw [r1.none_iff]; rfl, q1⟩)
/-- a comparison as a value, as a test -/
def tB (t : TE) : TT := fun σ H Q => t σ H fun x H1 => ∃ c, x = .bl c ∧ Q c H1
theorem pe_cmp {op : CmpOp} {t : TE} (h : PC X op a b t) (h1 : behindInMarks op b = false := by first | exact nobehind _ (by decide) (by decide) | rfl) : PE X (.Compare a [op] [b] pos) t := fun pins s σ H Q I hw => wpAny_Compare1 (h pins s σ H Q I hw) h1
theorem pt_cmp {op : CmpOp} {t : TE} (h : PC X op a b t) (h1 : behindInMarks op b = false := by first | exact nobehind _ (by decide) (by decide) | rfl) : PT X (.Compare a [op] [b] pos) (tB t) := by
  intro pins s σ H Q I hw
  refine wpAny_isTrue_Compare1 (thn (h pins s σ H _ I hw) fun v s1 h1 => thn h1 fun u s2 h2 => thn h2 fun c s3 ⟨x, H1, I1, r1, q1⟩ => ?_) h1
  obtain ⟨d, rfl, q⟩ := q1
  cases r1
  exact wpAny_truthy_bool ⟨H1, I1, q⟩
/-- an expression whose value is a bool, as a test -/
theorem pt_val {e : Expr} {t : TE} (h : PE X e t) (he : ∀ whole, isTrue e X.env whole = (do let v ← whole; standAt e.pos; holding [v] (truthy v)) := by intro _; rfl) : PT X e (tB t) := by
  intro pins s σ H Q I hw
  refine isTrue_plain (thn (h pins s σ H _ I hw) fun v s1 ⟨x, H1, I1, r1, q1⟩ => ?_) (he _)
  obtain ⟨d, rfl, q⟩ := q1
  cases r1
  exact wpAny_truthy_bool ⟨H1, I1, q⟩

/-! ### and, or, not -/
variable {tA tB' : TT} {rest : List Expr}
def tAnd (t u : TT) : TT := fun σ H Q => t σ H fun c H1 => if c = true then u σ H1 Q else Q false H1
def tOr (t u : TT) : TT := fun σ H Q => t σ H fun c H1 => if c = true then Q true H1 else u σ H1 Q
def tNot (t : TT) : TT := fun σ H Q => t σ H fun c H1 => Q (!c) H1
theorem pw_and1 (ha : PT X a tA) : PW X (.BoolOp .And [a] pos) tA := by
  intro wh pins s σ H Q I h
  refine isTrue_and (thn (ha pins s σ H Q I h) fun c s1 e => ?_)
  cases c with
  | true => exact isTrue_and_nil e
  | false => exact e
theorem pw_or1 (ha : PT X a tA) : PW X (.BoolOp .Or [a] pos) tA := by
  intro wh pins s σ H Q I h
  refine isTrue_or (thn (ha pins s σ H Q I h) fun c s1 e => ?_)
  cases c with
  | false => exact isTrue_or_nil e
  | true => exact e
theorem pw_and (ha : PT X a tA) (hb : PW X (.BoolOp .And (b :: rest) pos) tB') : PW X (.BoolOp .And (a :: b :: rest) pos) (tAnd tA tB') := by
  intro wh pins s σ H Q I h
  refine isTrue_and (thn (ha pins s σ H _ I h) fun c s1 ⟨H1, I1, q1⟩ => ?_)
  cases c with
  | true => exact hb wh pins s1 σ H1 Q I1 q1
  | false => exact ⟨H1, I1, q1⟩
theorem pw_or (ha : PT X a tA) (hb : PW X (.BoolOp .Or (b :: rest) pos) tB') : PW X (.BoolOp .Or (a :: b :: rest) pos) (tOr tA tB') := by
  intro wh pins s σ H Q I h
  refine isTrue_or (thn (ha pins s σ H _ I h) fun c s1 ⟨H1, I1, q1⟩ => ?_)
  cases c with
  | true => exact ⟨H1, I1, q1⟩
  | false => exact hb wh pins s1 σ H1 Q I1 q1
theorem pt_not (ha : PT X a tA) : PT X (.UnaryOp .Not a pos) (tNot tA) := by
  intro pins s σ H Q I h
  exact isTrue_not (ha pins s σ H (fun c H1 => Q (!c) H1) I h)
/-- .. as values (bools) -/
def tAndV (ta tb : TE) : TE := fun σ H Q => ta σ H fun x H1 => ∃ c, x = .bl c ∧ if c = true then tb σ H1 Q else Q (.bl false) H1
def tOrV (ta tb : TE) : TE := fun σ H Q => ta σ H fun x H1 => ∃ c, x = .bl c ∧ if c = true then Q (.bl true) H1 else tb σ H1 Q
def tNotV (ta : TE) : TE := fun σ H Q => ta σ H fun x H1 => ∃ c, x = .bl c ∧ Q (.bl (!c)) H1
theorem pe_one {op} {t : TE} (h : PE X a t) : PE X (.BoolOp op [a] pos) t := fun pins s σ H Q I hw => BoolOp_one (h pins s σ H Q I hw)
theorem pe_and (ha : PE X a ta) (hb : PE X (.BoolOp .And (b :: rest) pos) tb) : PE X (.BoolOp .And (a :: b :: rest) pos) (tAndV ta tb) := by
  intro pins s σ H Q I h
  refine BoolOp_and (thn (ha pins s σ H _ I h) fun v s1 ⟨x, H1, I1, r1, q1⟩ => ?_)
  obtain ⟨c, rfl, q1⟩ := q1
  cases r1
  refine wpAny_truthy_bool ?_
  cases c with
  | true => exact hb pins s1 σ H1 Q I1 q1
  | false => exact ⟨.bl false, H1, I1, rfl, q1⟩
theorem pe_or (ha : PE X a ta) (hb : PE X (.BoolOp .Or (b :: rest) pos) tb) : PE X (.BoolOp .Or (a :: b :: rest) pos) (tOrV ta tb) := by
  intro pins s σ H Q I h
  refine BoolOp_or (thn (ha pins s σ H _ I h) fun v s1 ⟨x, H1, I1, r1, q1⟩ => ?_)
  obtain ⟨c, rfl, q1⟩ := q1
  cases r1
  refine wpAny_truthy_bool ?_
  cases c with
  | false => exact hb pins s1 σ H1 Q I1 q1
  | true => exact ⟨.bl true, H1, I1, rfl, q1⟩
theorem pe_not (ha : PE X a ta) : PE X (.UnaryOp .Not a pos) (tNotV ta) := by
  intro pins s σ H Q I h
  refine UnaryOp_ (thn (ha pins s σ H _ I h) fun v s1 ⟨x, H1, I1, r1, q1⟩ => ?_)
  obtain ⟨c, rfl, q1⟩ := q1
  cases r1
  exact not_of (wpAny_truthy_bool ⟨.bl (!c), H1, I1, rfl, q1⟩)
/-- a if t else b -/
def tIf (t : TT) (ta tb : TE) : TE := fun σ H Q => t σ H fun c H1 => if c = true then ta σ H1 Q else tb σ H1 Q
theorem pe_ifExp {c : Expr} (hc : PT X c tA) (ha : PE X a ta) (hb : PE X b tb) : PE X (.IfExp c a b pos) (tIf tA ta tb) := by
  intro pins s σ H Q I h
  refine wpAny_IfExp (thn (hc pins s σ H _ I h) fun d s1 ⟨H1, I1, q1⟩ => ?_)
  cases d with
  | true => exact ha pins s1 σ H1 Q I1 q1
  | false => exact hb pins s1 σ H1 Q I1 q1
end
end L2

namespace L2
open PySem PySem.Spec PyProof.Rows

/-! ### a list, a tuple that is read: tracked, frozen, or an object of the module -/
def SqL (K : PySem.W.Frag) (H : Hp) (a : Addr) (xs : List V) : Prop :=
  Rd H a (.lst xs) ∨
    ∃ (o : Obj) (its : Array Value) (n : Nat), K.lookup a = some o ∧ o.cls = .type "list" ∧ o.dict = none ∧ o.data = .seq its n ∧ its.size ≤ sizeLine ∧ Vals xs its.toList
def SqT (K : PySem.W.Frag) (H : Hp) (a : Addr) (xs : List V) : Prop :=
  Rd H a (.tup xs) ∨
    ∃ (o : Obj) (its : Array Value) (n : Nat), K.lookup a = some o ∧ o.cls = .type "tuple" ∧ o.data = .seq its n ∧ its.size ≤ sizeLine ∧ Vals xs its.toList
def absV : Value → Option V
  | .none => some .non
  | .bool b => some (.bl b)
  | .int i _ => some (.int i)
  | .str x _ => some (.str x)
  | .bytes b _ => some (.byt b)
  | .float b _ => some (.flt b)
  | .ref a => some (.ref a)
  | .type n => some (.ty n)
  | _ => none
theorem RelV.abs {x : V} {u : Value} (r : RelV x u) : absV u = some x := by
  cases x with
  | non => cases r; rfl
  | bl _ => cases r; rfl
  | int _ => obtain ⟨t, rfl⟩ := r; rfl
  | str _ => obtain ⟨t, rfl⟩ := r; rfl
  | byt _ => obtain ⟨t, rfl⟩ := r; rfl
  | flt _ => obtain ⟨t, rfl⟩ := r; rfl
  | ref _ => cases r; rfl
  | ty _ => cases r; rfl
theorem RelV.inj {x y : V} {u : Value} (r : RelV x u) (q : RelV y u) : x = y := Option.some.inj (r.abs.symm.trans q.abs)
theorem Vals.inj : ∀ {xs ys : List V} {us : List Value}, Vals xs us → Vals ys us → xs = ys
  | _, _, _, .nil, .nil => rfl
  | _, _, _, .cons r t, .cons r' t' => by rw [r.inj r', Vals.inj t t']
section
variable {X : Cx} {pins : List (Addr × Obj)} {σ : St} {H : Hp} {s : Shared} {a : Addr} {xs ys : List V}
theorem SqL.of {K : PySem.W.Frag} (h : H a = some (.lst xs)) : SqL K H a xs := .inl (.inl h)
theorem SqT.of {K : PySem.W.Frag} (h : H a = some (.tup xs)) : SqT K H a xs := .inl (.inl h)
theorem Inv.list (I : Inv X pins σ H s) (h : SqL X.K H a xs) : ∃ its : List Value, Vals xs its ∧ PlainL s.heap a its.toArray ∧ xs.length ≤ sizeLine := by
  rcases h with h | ⟨o, its, n, hk, hc, hd, hs, hz, r⟩
  · obtain ⟨z, its, n, r, e⟩ := h.ok I.hok
    exact ⟨its, r, ⟨_, n, e, rfl, rfl, rfl⟩, z⟩
  · refine ⟨its.toList, r, ⟨o, n, I.kIn a o hk, hc, hd, by simpa using hs⟩, ?_⟩
    have e := r.length
    simp only [Array.length_toList] at e
    omega
theorem Inv.tuple (I : Inv X pins σ H s) (h : SqT X.K H a xs) : ∃ its : List Value, Vals xs its ∧ IsTup s.heap a its.toArray ∧ xs.length ≤ sizeLine := by
  rcases h with h | ⟨o, its, n, hk, hc, hs, hz, r⟩
  · obtain ⟨z, its, r, p⟩ := h.ok I.hok
    exact ⟨its, r, p, z⟩
  · refine ⟨its.toList, r, ⟨o, I.kIn a o hk, hc, n, by simpa using hs⟩, ?_⟩
    have e := r.length
    simp only [Array.length_toList] at e
    omega
theorem Inv.list_inj (I : Inv X pins σ H s) (h : SqL X.K H a xs) (h' : SqL X.K H a ys) : xs = ys := by
  obtain ⟨its, r, ⟨o, n, e, _, _, d⟩, _⟩ := I.list h
  obtain ⟨its', r', ⟨o', n', e', _, _, d'⟩, _⟩ := I.list h'
  rw [e] at e'; cases e'
  rw [d] at d'
  injection d' with d1 _
  have : its = its' := by simpa using congrArg Array.toList d1
  subst this
  exact r.inj r'
theorem Inv.tuple_inj (I : Inv X pins σ H s) (h : SqT X.K H a xs) (h' : SqT X.K H a ys) : xs = ys := by
  obtain ⟨its, r, ⟨o, e, _, n, d⟩, _⟩ := I.tuple h
  obtain ⟨its', r', ⟨o', e', _, n', d'⟩, _⟩ := I.tuple h'
  rw [e] at e'; cases e'
  rw [d] at d'
  injection d' with d1 _
  have : its = its' := by simpa using congrArg Array.toList d1
  subst this
  exact r.inj r'
end

/-! ### another wish about exceptions -/
abbrev Cx.wish (X : Cx) (E : Value → Shared → Prop) : Cx := { X with xe := E }
/-- no exception leaves -/
abbrev Cx.nox (X : Cx) : Cx := X.wish fun _ _ => False
theorem Cx.Ok.wish {X : Cx} (ok : X.Ok) (E : Value → Shared → Prop) : (X.wish E).Ok :=
  ⟨ok.mod, ok.kind, ok.glob, ok.blt, ok.above, ok.inj, ok.has, ok.cab, ok.hd, ok.frames, ok.stk, ok.exf, ok.bs, ok.bsz, ok.noex, ok.exfs, ok.funs, ok.frf⟩
theorem Cx.Ok.unwish {X : Cx} {E : Value → Shared → Prop} (ok : (X.wish E).Ok) : X.Ok :=
  ⟨ok.mod, ok.kind, ok.glob, ok.blt, ok.above, ok.inj, ok.has, ok.cab, ok.hd, ok.frames, ok.stk, ok.exf, ok.bs, ok.bsz, ok.noex, ok.exfs, ok.funs, ok.frf⟩
section
variable {X : Cx} {pins : List (Addr × Obj)} {σ : St} {H : Hp} {s : Shared} {E : Value → Shared → Prop}
theorem Inv.wish (I : Inv X pins σ H s) (E : Value → Shared → Prop) : Inv (X.wish E) pins σ H s := ⟨I.ok.wish E, I.os, I.bare, I.base, I.loc, I.cell, I.free, I.freeC, I.pin, I.hok, I.len⟩
theorem Inv.unwish (I : Inv (X.wish E) pins σ H s) : Inv X pins σ H s := ⟨I.ok.unwish, I.os, I.bare, I.base, I.loc, I.cell, I.free, I.freeC, I.pin, I.hok, I.len⟩
theorem SP.unwish {D : Ends} {f : Flow} {s' : Shared} (h : SP (X.wish E) pins D f s') : SP X pins D f s' := by
  cases f with
  | next => obtain ⟨σ', H', I, q⟩ := h; exact ⟨σ', H', I.unwish, q⟩
  | brk => obtain ⟨σ', H', I, q⟩ := h; exact ⟨σ', H', I.unwish, q⟩
  | cont => obtain ⟨σ', H', I, q⟩ := h; exact ⟨σ', H', I.unwish, q⟩
  | ret u => obtain ⟨v, σ', H', I, r, q⟩ := h; exact ⟨v, σ', H', I.unwish, r, q⟩
theorem PE.nox {e : Expr} {t : TE} (h : PE X.nox e t) : PE X e t := fun pins s σ H Q I hw =>
  wpAny_mono (h pins s σ H Q (I.wish _) hw) (fun _ _ ⟨v, H', I', r, q⟩ => ⟨v, H', I'.unwish, r, q⟩) fun _ _ z => False.elim z
theorem PT.nox {e : Expr} {t : TT} (h : PT X.nox e t) : PT X e t := fun pins s σ H Q I hw =>
  wpAny_mono (h pins s σ H Q (I.wish _) hw) (fun _ _ ⟨H', I', q⟩ => ⟨H', I'.unwish, q⟩) fun _ _ z => False.elim z
theorem PSs.nox {st : List Stmt} {t : TS} (h : PSs X.nox st t) : PSs X st t := fun pins s σ H D I hw =>
  wpAny_mono (h pins s σ H D (I.wish _) hw) (fun _ _ q => q.unwish) fun _ _ z => False.elim z
end

/-! ### blocks and small statements -/
section
variable {X : Cx} {st : Stmt} {rest : List Stmt} {t u : TS} {e : Expr} {te : TE} {pos : Pos}
def tNext : TS := fun D σ H => D.nx σ H
def tSeq (t u : TS) : TS := fun D σ H => t { D with nx := u D } σ H
theorem pss_nil : PSs X [] tNext := fun _ _ σ H _ I h => wpAny_execs_nil ⟨σ, H, I, h⟩
theorem pss_cons (h1 : PS X st t) (h2 : PSs X rest u) : PSs X (st :: rest) (tSeq t u) := by
  intro pins s σ H D I h
  refine wpAny_execs_cons (thn (h1 pins s σ H { D with nx := u D } I h) fun f s1 q => ?_)
  cases f with
  | next =>
    obtain ⟨σ', H', I', q⟩ := q
    exact h2 pins s1 σ' H' D I' q
  | ret v => exact q
  | brk => exact q
  | cont => exact q
theorem pss_one (h1 : PS X st t) : PSs X [st] t := by
  intro pins s σ H D I h
  refine wpAny_execs_cons (thn (h1 pins s σ H D I h) fun f s1 q => ?_)
  cases f with
  | next => exact wpAny_execs_nil q
  | ret v => exact q
  | brk => exact q
  | cont => exact q
def tBreak : TS := fun D σ H => D.bk σ H
def tCont : TS := fun D σ H => D.ct σ H
theorem ps_pass : PS X (.Pass pos) tNext := fun _ _ σ H _ I h => wpAny_Pass ⟨σ, H, I, h⟩
theorem ps_break : PS X (.Break pos) tBreak := fun _ _ σ H _ I h => wpAny_Break ⟨σ, H, I, h⟩
theorem ps_continue : PS X (.Continue pos) tCont := fun _ _ σ H _ I h => wpAny_Continue ⟨σ, H, I, h⟩
/-- in a def's body nothing is shown -/
theorem Inv.quiet {pins : List (Addr × Obj)} {σ : St} {H : Hp} {s : Shared} (I : Inv X pins σ H s) : interactive X.env = false := by simp [interactive, I.ok.kind]
/-- a docstring -/
theorem ps_doc {x j pos pos'} : PS X (.Expr (.Constant (.str x) j pos) pos') tNext := fun _ s σ H _ I h => wpAny_Expr (Calls.Constant_str (show SP X _ _ .next { s with toks := s.toks + 1 } from ⟨σ, H, I.tok _, h⟩)) I.quiet
/-- an expression whose value is dropped -/
def tDrop (te : TE) : TS := fun D σ H => te σ H fun _ H1 => D.nx σ H1
theorem ps_expr (he : PE X e te) (hs : swapsWith e none pos.line X.env = pure false := by rfl) : PS X (.Expr e pos) (tDrop te) := by
  intro pins s σ H D I h
  exact wpAny_Expr_any (thn (he pins s σ H _ I h) fun v s1 ⟨x, H1, I1, r1, q1⟩ => ⟨σ, H1, I1, q1⟩) I.quiet hs
def tRet (te : TE) : TS := fun D σ H => te σ H D.rt
theorem ps_ret (he : PE X e te) : PS X (.Return (some e) pos) (tRet te) := by
  intro pins s σ H D I h
  exact wpAny_Return_some (thn (he pins s σ H _ I h) fun v s1 ⟨x, H1, I1, r1, q1⟩ => ⟨x, σ, H1, I1, r1, q1⟩)
def tRetN : TS := fun D _ H => D.rt .non H
theorem ps_retN : PS X (.Return none pos) tRetN := fun _ _ σ H _ I h => wpAny_Return_none ⟨.non, σ, H, I, rfl, h⟩
def tIfS (c : TT) (t u : TS) : TS := fun D σ H => c σ H fun b H1 => if b = true then t D σ H1 else u D σ H1
theorem ps_if {c : Expr} {a b : List Stmt} {tc : TT} (hc : PT X c tc) (ha : PSs X a t) (hb : PSs X b u) : PS X (.If c a b pos) (tIfS tc t u) := by
  intro pins s σ H D I h
  refine wpAny_If (thn (hc pins s σ H _ I h) fun d s1 ⟨H1, I1, q1⟩ => ?_)
  cases d with
  | true => exact ha pins s1 σ H1 D I1 q1
  | false => exact hb pins s1 σ H1 D I1 q1
/-- code that the proof never comes to -/
def tNever : TS := fun _ _ _ => False
theorem ps_never : PS X st tNever := fun _ _ _ _ _ _ h => h.elim
theorem pss_never {sts : List Stmt} : PSs X sts tNever := fun _ _ _ _ _ _ h => h.elim
end

/-! ### targets -/
abbrev TG := V → St → Hp → (St → Hp → Prop) → Prop
abbrev TGs := List V → St → Hp → (St → Hp → Prop) → Prop
def PG (X : Cx) (target : Expr) (t : TG) : Prop :=
  ∀ (pins : List (Addr × Obj)) (s : Shared) (σ : St) (H : Hp) (v : V) (u : Value) (Q : St → Hp → Prop), Inv X pins σ H s → RelV v u → t v σ H Q →
    wpAny (model X.prog X.w) X.A (assign target X.env u) (fun _ s' => ∃ σ' H', Inv X pins σ' H' s' ∧ Q σ' H') X.xe s
/-- several targets, one after another -/
def PGs (X : Cx) (ts : List Expr) (t : TGs) : Prop :=
  ∀ (pins : List (Addr × Obj)) (s : Shared) (σ : St) (H : Hp) (vs : List V) (us : List Value) (Q : St → Hp → Prop), Inv X pins σ H s → Vals vs us → t vs σ H Q →
    wpAny (model X.prog X.w) X.A (assignInOrder ((assignEach ts X.env).map (·.2)) us) (fun _ s' => ∃ σ' H', Inv X pins σ' H' s' ∧ Q σ' H') X.xe s
/-- o[i] = v, by values -/
abbrev TSet := V → V → V → Hp → (Hp → Prop) → Prop
def PSet (X : Cx) (t : TSet) : Prop :=
  ∀ (pins : List (Addr × Obj)) (s : Shared) (σ : St) (H : Hp) (o i v : V) (ov iv u : Value) (Q : Hp → Prop), Inv X pins σ H s → RelV o ov → RelV i iv → RelV v u → t o i v H Q →
    wpAny (model X.prog X.w) X.A (setItem ov iv u) (fun _ s' => ∃ H', Inv X pins σ H' s' ∧ Q H') X.xe s
/-- a op= b, by values -/
abbrev TIp := V → V → Hp → VK → Prop
def PIp (X : Cx) (op : Operator) (t : TIp) : Prop :=
  ∀ (pins : List (Addr × Obj)) (s : Shared) (σ : St) (H : Hp) (x y : V) (v u : Value) (Q : VK), Inv X pins σ H s → RelV x v → RelV y u → t x y H Q →
    wpAny (model X.prog X.w) X.A (inplaceOp op v u) (EP X pins σ Q) X.xe s
section
variable {X : Cx} {pos : Pos}
def gName (i : Nat) : TG := fun v σ H Q => Q (σ.set i (some v)) H
theorem pg_name {i : Nat} {x : Str} (hN : X.N.Nodup) (hi : X.N[i]? = some x) (hx : Loc X.env.scope x) (hf : X.fn x = true ∨ X.env.scope.names.lookup x = some .local := by first | exact .inl rfl | exact .inr rfl | assumption) : PG X (.Name x pos) (gName i) := by
  intro pins s σ H v u Q I r h
  exact wpAny_assign_Name (store_ok I hN hi hx r (fun s' I' => ⟨_, H, I', h⟩) hf)
def gNil : TGs := fun vs σ H Q => vs = [] ∧ Q σ H
def gCons (t : TG) (u : TGs) : TGs := fun vs σ H Q => ∃ v r, vs = v :: r ∧ t v σ H fun σ' H' => u r σ' H' Q
theorem pgs_nil : PGs X [] gNil := by
  intro pins s σ H vs us Q I r h
  obtain ⟨e, h⟩ := h
  subst e
  cases r
  exact assignInOrder_nil ⟨σ, H, I, h⟩
theorem pgs_cons {e : Expr} {es : List Expr} {t : TG} {u : TGs} (h1 : PG X e t) (h2 : PGs X es u)
    (hs : (assignEach (e :: es) X.env).map (·.2) = assign e X.env :: (assignEach es X.env).map (·.2) := by rfl) : PGs X (e :: es) (gCons t u) := by
  intro pins s σ H vs us Q I r h
  obtain ⟨v, vr, e1, h⟩ := h
  subst e1
  cases r with
  | cons r rr =>
    rw [hs]
    refine assignInOrder_cons (thn (h1 pins s σ H _ _ _ I r h) fun _ s1 ⟨σ1, H1, I1, q1⟩ => ?_)
    exact h2 pins s1 σ1 H1 _ _ Q I1 rr q1
/-- (a, b, ..) = a tuple of that length -/
def gTup (K : PySem.W.Frag) (n : Nat) (t : TGs) : TG := fun v σ H Q => ∃ a xs, v = .ref a ∧ SqT K H a xs ∧ xs.length = n ∧ t xs σ H Q
theorem pg_tup {es : List Expr} {k : Nat} {t : TGs} {n : Nat} (hc : X.calm = true) (h : PGs X es t)
    (hn : (assignEach es X.env).length = n := by rfl) (hst : (assignEach es X.env).findIdx? (·.1) = none := by rfl) : PG X (.Tuple es k pos) (gTup X.K n t) := by
  intro pins s σ H v u Q I r hw
  obtain ⟨a, xs, e1, hq, hl, hw⟩ := hw
  subst e1
  cases r
  obtain ⟨its, rv, ht, hz⟩ := I.tuple hq
  refine assign_Tuple_tuple (I.ok.hd hc) ht (by simp [hn, ← hl, rv.length]) hst fun h' hx => ?_
  have I1 : Inv X pins σ H { s with heap := h' } := I.kept (t' := s.toks) fun b o e => hx b o (Nat.ne_of_lt (Heap.lt_size e)) e
  exact h pins _ σ H xs _ Q I1 (by simpa using rv) hw
/-- o[i] = .. -/
def gSub (to ti : TE) (t : TSet) : TG := fun v σ H Q => to σ H fun o H1 => ti σ H1 fun i H2 => t o i v H2 fun H3 => Q σ H3
theorem pg_sub {o i : Expr} {to ti : TE} {t : TSet} (ho : PE X o to) (hi : PE X i ti) (hs : PSet X t)
    (ha : ∀ v, assign (.Subscript o i pos) X.env v = (do
      let ov ← holding [v] (eval o X.env)
      let iv ← holding [v, ov] (eval i X.env)
      standAt pos
      holding [v, ov, iv] (setItem ov iv v)
      release [v, ov, iv] []) := by intro _; rfl) : PG X (.Subscript o i pos) (gSub to ti t) := by
  intro pins s σ H v u Q I r h
  rw [ha]
  refine wpAny_bind (wpAny_holding (thn (ho pins s σ H _ I h) fun ov s1 ⟨x, H1, I1, r1, q1⟩ => ?_))
  refine wpAny_bind (wpAny_holding (thn (hi pins s1 σ H1 _ I1 q1) fun iv s2 ⟨y, H2, I2, r2, q2⟩ => ?_))
  refine wpAny_bind (wpAny_standAt (wpAny_bind (wpAny_holding (thn (hs pins s2 σ H2 x y v ov iv u _ I2 r1 r2 r q2) fun _ s3 ⟨H3, I3, q3⟩ => ?_))))
  exact wpAny_release ⟨σ, H3, I3, q3⟩
/-- target = value -/
def tAsg (te : TE) (g : TG) : TS := fun D σ H => te σ H fun x H1 => g x σ H1 D.nx
theorem ps_asg {tg e : Expr} {te : TE} {g : TG} (he : PE X e te) (hg : PG X tg g) (hs : swapsWithSole [tg] e pos.line X.env = pure false := by rfl) (hw : swappedStores [tg] e X.env = pure none := by rfl)
    (h1 : (assignEach [tg] X.env).map (·.2) = [assign tg X.env] := by rfl) : PS X (.Assign [tg] e pos) (tAsg te g) := by
  intro pins s σ H D I h
  refine wpAny_Assign_stores (thn (he pins s σ H _ I h) fun v s1 ⟨x, H1, I1, r1, q1⟩ => ?_) hs hw
  rw [h1]
  exact thn (hg pins s1 σ H1 x v _ I1 r1 q1) fun _ s2 q => q
/-- name = value -/
theorem ps_set {i : Nat} {x : Str} {e : Expr} {te : TE} {pos' : Pos} (hN : X.N.Nodup) (hi : X.N[i]? = some x) (hx : Loc X.env.scope x) (he : PE X e te) (hs : swapsWith e (some (.Name x pos')) pos.line X.env = pure false := by rfl) (hf : X.fn x = true ∨ X.env.scope.names.lookup x = some .local := by first | exact .inl rfl | exact .inr rfl | assumption) :
    PS X (.Assign [.Name x pos'] e pos) (tAsg te (gName i)) := by
  intro pins s σ H D I h
  refine wpAny_Assign_Name (thn (he pins s σ H _ I h) fun v s1 ⟨y, H1, I1, r1, q1⟩ => ?_) hs
  exact store_ok I1 hN hi hx r1 (fun s2 I2 => ⟨_, H1, I2, q1⟩) hf
/-- a, b = x, y with plain local names: stored from the right; the pair itself is not tracked (the opening rows as in PyProof/Rows/TupAssign.lean:23) -/
def tPar (i j : Nat) (ta : TA) : TS := fun D σ H => ta σ H fun vs H1 => ∃ v w, vs = [v, w] ∧ D.nx ((σ.set i (some v)).set j (some w)) H1
theorem ps_par {i j : Nat} {x y : Str} {a b : Expr} {ta : TA} {px py pt : Pos} {kt k2 pt2} (hc : X.calm = true) (hN : X.N.Nodup) (hi : X.N[i]? = some x) (hj : X.N[j]? = some y) (hij : i ≠ j)
    (hx : X.env.scope.names.lookup x = some .local) (hy : X.env.scope.names.lookup y = some .local) (ha : PA X [a, b] ta)
    (hw : swappedStores [.Tuple [.Name x px, .Name y py] kt pt] (.Tuple [a, b] k2 pt2) X.env = pure (some [x, y]))
    (hs : swapsWithSole [.Tuple [.Name x px, .Name y py] kt pt] (.Tuple [a, b] k2 pt2) pos.line X.env = pure false := by rfl) :
    PS X (.Assign [.Tuple [.Name x px, .Name y py] kt pt] (.Tuple [a, b] k2 pt2) pos) (tPar i j ta) := by
  intro pins s σ H D I h
  rw [exec_Assign_arm]
  refine wpAny_bind (wpAny_standAt ?_)
  rw [hs]
  refine wpAny_bind (wpAny_pure ?_)
  rw [if_neg (by decide)]
  refine wpAny_bind (Tuple_ (thn (ha _ pins s σ H _ I h) fun us s1 ⟨vs, H1, I1, r1, q1⟩ => ?_))
  obtain ⟨v, w, e1, q1⟩ := q1
  subst e1
  obtain ⟨u1, u2, rfl, rv, rw'⟩ : ∃ u1 u2, us = [u1, u2] ∧ RelV v u1 ∧ RelV w u2 := by
    cases r1 with
    | cons p q =>
      cases q with
      | cons p' q' =>
        cases q'
        exact ⟨_, _, rfl, p, p'⟩
  refine wpAny_newObj_type ?_ (by show 2 ≤ sizeLine; decide)
  have I2 : Inv X pins σ H1 { s1 with heap := s1.heap.push { cls := .type "tuple", data := .seq [u1, u2].toArray } } := I1.kept (t' := s1.toks) fun b o e => Heap.get?_push_of_some _ e
  rw [hw]
  refine wpAny_bind (wpAny_pure ?_)
  show wpAny (model X.prog X.w) X.A (do rule "assign.swapped-stores"; let items ← unpackItems (.ref s1.heap.objs.size) 2 none; assignInOrder [fun v => bindName X.env y v, fun v => bindName X.env x v] items.reverse; pure Flow.next) _ _ _
  refine wpAny_bind (wpAny_rule (wpAny_bind (unpackItems_tuple (items := #[u1, u2]) (I.ok.hd hc) (IsTup.new s1.heap _) fun h' hx' => ?_)))
  have I3 := I2.kept (h' := h') (t' := s1.toks) fun b o e => hx' b o (Nat.ne_of_lt (Heap.lt_size e)) e
  show wpAny _ _ (assignInOrder [fun v => bindName X.env y v, fun v => bindName X.env x v] [u2, u1] >>= fun _ => pure Flow.next) _ _ _
  refine wpAny_bind (assignInOrder_cons (wpAny_bindName (store_ok I3 hN hj (.inl hy) rw' (fun s2 I4 => ?_) (.inr hy))))
  refine assignInOrder_cons (wpAny_bindName (store_ok I4 hN hi (.inl hx) rv (fun s3 I5 => assignInOrder_nil (wpAny_pure ?_)) (.inr hx)))
  rw [List.set_comm _ _ (Ne.symm hij)] at I5
  exact ⟨_, H1, I5, q1⟩
/-- name op= e -/
def tAug (i : Nat) (te : TE) (ti : TIp) : TS := fun D σ H => ∃ x, σ[i]? = some (some x) ∧ te σ H fun y H1 => ti x y H1 fun z H2 => D.nx (σ.set i (some z)) H2
theorem ps_aug {i : Nat} {x : Str} {e : Expr} {te : TE} {op : Operator} {ti : TIp} {pos' : Pos} (hN : X.N.Nodup) (hi : X.N[i]? = some x) (hx : Loc X.env.scope x) (he : PE X e te) (ho : PIp X op ti) (hf : X.fn x = true ∨ X.env.scope.names.lookup x = some .local := by first | exact .inl rfl | exact .inr rfl | assumption) :
    PS X (.AugAssign (.Name x pos') op e pos) (tAug i te ti) := by
  intro pins s σ H D I h
  obtain ⟨v, e1, h⟩ := h
  obtain ⟨m, hn, hl⟩ := I.loc
  have vis : Vis X.env.scope x := by rcases hx with k | k; exact .inl k; exact .inr (.inl k)
  obtain ⟨u, r, l⟩ := hl i x v hi e1 vis
  refine wpAny_AugAssign_Name ?_
  have go : wpAny (model X.prog X.w) X.A (eval e X.env) (fun w s₂ => wpAny (model X.prog X.w) X.A (inplaceOp op u w) (fun r s₃ => wpAny (model X.prog X.w) X.A (storeName X.env x r) (fun _ => SP X pins D .next) X.xe s₃) X.xe s₂) X.xe s := by
    refine thn (he pins s σ H _ I h) fun w s1 ⟨y, H1, I1, r1, q1⟩ => ?_
    refine thn (ho pins s1 σ H1 v y u w _ I1 r r1 q1) fun z s2 ⟨zv, H2, I2, r2, q2⟩ => ?_
    exact store_ok I2 hN hi hx r2 (fun s3 I3 => ⟨_, H2, I3, q2⟩) hf
  rcases l with ⟨hk, hm⟩ | ⟨hk, c, hc, hcell⟩
  · exact wpAny_loadName_local I.ok.kind hk hn hm go
  · rcases hk with hk | hk
    · exact wpAny_loadName_cell I.ok.kind hk hc hcell go
    · rcases hx with k | k
      · have : X.env.scope.names.lookup x = some .free := hk
        rw [k] at this; cases this
      · have : X.env.scope.names.lookup x = some .free := hk
        rw [k] at this; cases this
/-- o[i] op= e -/
def tAugS (to ti te : TE) (tget : V → V → Hp → VK → Prop) (tip : TIp) (tset : TSet) : TS := fun D σ H => to σ H fun o H1 => ti σ H1 fun i H2 => tget o i H2 fun x H3 => te σ H3 fun y H4 => tip x y H4 fun z H5 => tset o i z H5 fun H6 => D.nx σ H6
/-- o[i], by values -/
def PGet (X : Cx) (t : V → V → Hp → VK → Prop) : Prop :=
  ∀ (pins : List (Addr × Obj)) (s : Shared) (σ : St) (H : Hp) (o i : V) (ov iv : Value) (Q : VK), Inv X pins σ H s → RelV o ov → RelV i iv → t o i H Q →
    wpAny (model X.prog X.w) X.A (getItem ov iv) (EP X pins σ Q) X.xe s
theorem ps_augS {o i e : Expr} {to ti te : TE} {tget : V → V → Hp → VK → Prop} {tip : TIp} {tset : TSet} {op : Operator} {tpos : Pos} (ho : PE X o to) (hi : PE X i ti) (hg : PGet X tget) (he : PE X e te) (hp : PIp X op tip) (hs : PSet X tset)
    (ha : ∀ ov iv new, augStore i ov iv new = (do holding [new, ov, iv] (setItem ov iv new); release [new, ov, iv] []; pure .next) := by intros; rfl) : PS X (.AugAssign (.Subscript o i tpos) op e pos) (tAugS to ti te tget tip tset) := by
  intro pins s σ H D I h
  refine wpAny_AugAssign_SubscriptAny (thn (ho pins s σ H _ I h) fun ov s1 ⟨x1, H1, I1, r1, q1⟩ => ?_) ha
  refine thn (hi pins s1 σ H1 _ I1 q1) fun iv s2 ⟨x2, H2, I2, r2, q2⟩ => ?_
  refine thn (hg pins s2 σ H2 x1 x2 ov iv _ I2 r1 r2 q2) fun old s3 ⟨x3, H3, I3, r3, q3⟩ => ?_
  refine thn (he pins s3 σ H3 _ I3 q3) fun v s4 ⟨x4, H4, I4, r4, q4⟩ => ?_
  refine thn (hp pins s4 σ H4 x3 x4 old v _ I4 r3 r4 q4) fun new s5 ⟨x5, H5, I5, r5, q5⟩ => ?_
  exact thn (hs pins s5 σ H5 x1 x2 x5 ov iv new _ I5 r1 r2 r5 q5) fun _ s6 ⟨H6, I6, q6⟩ => ⟨σ, H6, I6, q6⟩
/-- ints -/
def ipI (f : Int → Int → Int) : TIp := fun x y H Q => ∃ i j, x = .int i ∧ y = .int j ∧ Q (.int (f i j)) H
theorem ip_add : PIp X .Add (ipI fun i j => i + j) := by
  intro pins s σ H x y v u Q I r1 r2 h
  obtain ⟨i, j, e1, e2, q⟩ := h
  subst e1; subst e2
  obtain ⟨t, rfl⟩ := r1
  obtain ⟨t', rfl⟩ := r2
  exact iadd_int ⟨.int _, H, I.tok _, ⟨_, rfl⟩, q⟩
theorem ip_sub : PIp X .Sub (ipI fun i j => i - j) := by
  intro pins s σ H x y v u Q I r1 r2 h
  obtain ⟨i, j, e1, e2, q⟩ := h
  subst e1; subst e2
  obtain ⟨t, rfl⟩ := r1
  obtain ⟨t', rfl⟩ := r2
  exact isub_int ⟨.int _, H, I.tok _, ⟨_, rfl⟩, q⟩
end

/-! ### while -/
section
variable {X : Cx} {pos : Pos}
/-- the invariant W with its measure -/
def tWhile (c : TT) (tb : TS) : TS := fun D σ H => ∃ W : Nat → St → Hp → Prop, (∃ m, W m σ H) ∧ ∀ m σ H, W m σ H →
  c σ H fun b H1 => if b = true then ∃ N : St → Hp → Prop, (∀ σ' H', N σ' H' → ∃ m', m' < m ∧ W m' σ' H') ∧ tb { D with nx := N, ct := N, bk := D.nx } σ H1 else D.nx σ H1
theorem ps_while {c : Expr} {body : List Stmt} {tc : TT} {tb : TS} (hp : PassesOwn (model X.prog X.w) X.A X.env X.xe) (hc : PT X c tc) (hb : PSs X body tb) : PS X (.While c body [] pos) (tWhile tc tb) := by
  intro pins s σ H D I h
  obtain ⟨W, ⟨m0, w0⟩, turn⟩ := h
  refine wpAny_While (codeAny_whileLoop (fun n s' => ∃ σ' H', Inv X pins σ' H' s' ∧ W n σ' H') ?_ m0 ⟨σ, H, I, w0⟩)
  rintro n s1 ⟨σ1, H1, I1, w1⟩
  refine wpAny_passesOwn hp (thn (hc pins s1 σ1 H1 _ I1 (turn n σ1 H1 w1)) fun b s2 ⟨H2, I2, q2⟩ => ?_)
  cases b with
  | true =>
    obtain ⟨N, hN, q2⟩ := q2
    rw [if_pos rfl]
    refine wpAny_passesOwn hp (thn (hb pins s2 σ1 H2 _ I2 q2) fun f s3 q3 => ?_)
    cases f with
    | next =>
      obtain ⟨σ3, H3, I3, n3⟩ := q3
      obtain ⟨m', hm, w3⟩ := hN σ3 H3 n3
      exact ⟨m', hm, σ3, H3, I3, w3⟩
    | cont =>
      obtain ⟨σ3, H3, I3, n3⟩ := q3
      obtain ⟨m', hm, w3⟩ := hN σ3 H3 n3
      exact ⟨m', hm, σ3, H3, I3, w3⟩
    | brk => exact q3
    | ret v => exact q3
  | false =>
    rw [if_neg Bool.false_ne_true]
    exact wpAny_execs_nil ⟨σ1, H2, I2, q2⟩
end

/-! ### what a loop or a comprehension walks -/
/-- at turn i: it yields x (the heap may grow), or it stops -/
structure It where
  go : Nat → Hp → Prop
  yld : Nat → Hp → V → Hp → Prop
  stop : Nat → Hp → Prop
/-- the iterator's own objects may turn: they are not the frame's, not pinned, younger than the entry (or a comprehension's own) -/
def FpOk (X : Cx) (pins : List (Addr × Obj)) (H : Hp) (b : Addr) : Prop :=
  H b = none ∧ b ≠ X.env.locals ∧ b ∉ X.fs ∧ (b ∈ X.ex ∨ X.s₀.heap.objs.size ≤ b) ∧ (∀ x c, X.env.cells.lookup x = some c → c ≠ b) ∧ ∀ p ∈ X.pn ++ pins, p.1 ≠ b
theorem Inv.fpOk {X : Cx} {pins : List (Addr × Obj)} {σ : St} {H H' : Hp} {s : Shared} {b : Addr} (I : Inv X pins σ H s) (hb : s.heap.objs.size ≤ b) (hn : H' b = none) : FpOk X pins H' b := by
  refine ⟨hn, Nat.ne_of_gt (Nat.lt_of_lt_of_le I.lt hb), I.nofs hb, .inr (Nat.le_trans I.sz hb), fun x c e z => ?_, fun p hp z => ?_⟩
  · obtain ⟨v, q⟩ := I.cell x c e
    exact absurd (Nat.lt_of_lt_of_le q.lt (by rw [z]; exact hb)) (Nat.lt_irrefl _)
  · exact absurd (Nat.lt_of_lt_of_le (Heap.lt_size (I.pin p hp).1) (by rw [z]; exact hb)) (Nat.lt_irrefl _)
structure Turn (P : Program) (w : World) (K : PySem.W.Frag) (tg : Expr) (J : It) (fp : List Addr) (it : Addr) (tn : Nat → Heap → Prop) : Prop where
  mem : it ∈ fp
  obj : ∀ i h, tn i h → ∀ b ∈ fp, ∃ o, h.get? b = some o ∧ ∀ v, o.data ≠ .cell v
  keep : ∀ i h h', tn i h → (∀ b ∈ fp, ∀ o, h.get? b = some o → h'.get? b = some o) → tn i h'
  item : ∀ (X : Cx), X.prog = P → X.w = w → X.K = K → X.calm = true → ∀ (i : Nat) (pins : List (Addr × Obj)) (s : Shared) (σ : St) (H : Hp) (E : Value → Shared → Prop), Inv X pins σ H s → (∀ b ∈ fp, FpOk X pins H b) → tn i s.heap → J.go i H →
    wpAny (model P w) X.A (pyNext (.ref it)) (fun r s1 => ∃ u, r = some u ∧
      wpAny (model P w) X.A (letOwnedTupleGo tg (.ref it) u) (fun _ s2 => ∃ x H', Inv X pins σ H' s2 ∧ RelV x u ∧ J.yld i H x H' ∧ tn (i + 1) s2.heap ∧ ∀ b ∈ fp, H' b = none) E s1) E s
  done : ∀ (X : Cx), X.prog = P → X.w = w → X.K = K → X.calm = true → ∀ (i : Nat) (pins : List (Addr × Obj)) (s : Shared) (σ : St) (H : Hp) (E : Value → Shared → Prop), Inv X pins σ H s → (∀ b ∈ fp, FpOk X pins H b) → tn i s.heap → J.stop i H →
    wpAny (model P w) X.A (pyNext (.ref it)) (fun r s1 => r = none ∧ Inv X pins σ H s1) E s
  self : ∀ (A : Around) (i : Nat) (s : Shared) (Q : Value → Shared → Prop) (E : Value → Shared → Prop), tn i s.heap → Q (.ref it) s → wpAny (model P w) A (pyIter (.ref it)) Q E s
abbrev TI := St → Hp → (It → Hp → Prop) → Prop
/-- an iterator has come -/
def PIE (X : Cx) (pins : List (Addr × Obj)) (σ : St) (tg : Expr) (R : It → Hp → Prop) (itv : Value) (s2 : Shared) : Prop :=
  ∃ (it : Addr) (fp : List Addr) (tn : Nat → Heap → Prop) (J : It) (H' : Hp), itv = .ref it ∧ Inv X pins σ H' s2 ∧ Turn X.prog X.w X.K tg J fp it tn ∧ tn 0 s2.heap ∧ (∀ b ∈ fp, FpOk X pins H' b) ∧ R J H'
def PI (X : Cx) (tg iter : Expr) (wi : TI) : Prop :=
  ∀ (pins : List (Addr × Obj)) (s : Shared) (σ : St) (H : Hp) (R : It → Hp → Prop), Inv X pins σ H s → wi σ H R →
    wpAny (model X.prog X.w) X.A (eval iter X.env) (fun v s1 => wpAny (model X.prog X.w) X.A (pyIter v) (PIE X pins σ tg R) X.xe s1) X.xe s

/-- the step ahead of the store is nothing for an iterator that keeps no tuple -/
theorem go_of {M : Model} {A : Around} {E : Value → Shared → Prop} {s : Shared} {tg : Expr} {it : Addr} {u : Value} {o : Obj} {n : String} {vs : Array Value} {Q : Unit → Shared → Prop} (ho : s.heap.get? it = some o) (hc : o.cls = .type n) (hd : o.data = .fields vs)
    (hn : ["enumerate", "zip", "dict_itemiterator", "dict_reverseitemiterator", "odict_iterator", "itertools.zip_longest", "itertools.pairwise"].contains n = false) (hQ : Q () s) : wpAny M A (letOwnedTupleGo tg (.ref it) u) Q E s := by
  unfold letOwnedTupleGo
  cases tg <;> first
    | exact wpAny_pure hQ
    | (cases u <;> first
        | exact wpAny_pure hQ
        | (refine wpAny_bind (wpAny_load ho ?_)
           rw [hc, hd]
           show wpAny M A (if (["enumerate", "zip", "dict_itemiterator", "dict_reverseitemiterator", "odict_iterator", "itertools.zip_longest", "itertools.pairwise"].contains n && vs[0]? == some (rawInt _)) = true then _ else _) Q E s
           rw [if_neg (by intro h; rw [hn, Bool.false_and] at h; cases h)]
           exact wpAny_pure hQ))

/-- the list at a, as it stands at each turn (a loop may append to it) -/
def Itl (K : PySem.W.Frag) (a : Addr) : It :=
  ⟨fun i H => ∃ xs x, SqL K H a xs ∧ xs[i]? = some x, fun i H x H' => H' = H ∧ ∀ xs, SqL K H a xs → xs[i]? = some x, fun i H => ∃ xs, SqL K H a xs ∧ xs.length ≤ i⟩
def Itt (K : PySem.W.Frag) (a : Addr) : It :=
  ⟨fun i H => ∃ xs x, SqT K H a xs ∧ xs[i]? = some x, fun i H x H' => H' = H ∧ ∀ xs, SqT K H a xs → xs[i]? = some x, fun i H => ∃ xs, SqT K H a xs ∧ xs.length ≤ i⟩
/-- lo, lo + 1, .. (n of them) -/
def Itr (lo : Int) (n : Nat) : It := ⟨fun i _ => i < n, fun i H x H' => H' = H ∧ x = .int (lo + i), fun i _ => n ≤ i⟩
theorem turn_list {P : Program} {w : World} {K : PySem.W.Frag} {tg : Expr} (a it : Addr) : Turn P w K tg (Itl K a) [it] it (fun i h => h.IsListIter it a i) where
  mem := by simp
  obj := fun i h st b hb => by
    have e : b = it := by simpa using hb
    subst e
    obtain ⟨o, e, c, d⟩ := st
    exact ⟨o, e, fun v z => by rw [d] at z; cases z⟩
  keep := fun i h h' st k => st.at fun o e => k it (by simp) o e
  item := by
    intro X hP hw hK hc i pins s σ H E I hf st hg
    subst hP hw hK
    obtain ⟨xs, x, hq, hx⟩ := hg
    obtain ⟨its, rv, p, hz⟩ := I.list hq
    obtain ⟨u, hu, ru⟩ := rv.get hx
    obtain ⟨f0, f1, f2, f3, f4, f5⟩ := hf it (by simp)
    refine wpAny_pyNext_list_item st p.isList (x := u) (by simpa using hu) fun h' st' sb => ?_
    have I1 : Inv X pins σ H { s with heap := h' } := I.turned (t' := s.toks) (fun b o hb e => (sb.2 b hb).trans e) f0 f1 f3 f4 f5
    obtain ⟨o, e, c, d⟩ := id st'
    exact ⟨u, rfl, go_of (s := { s with heap := h' }) e c d (by decide) ⟨x, H, I1, ru, ⟨rfl, fun ys hy => by rw [I.list_inj hy hq]; exact hx⟩, st', fun b hb => (hf b hb).1⟩⟩
  done := by
    intro X hP hw hK hc i pins s σ H E I hf st hg
    subst hP hw hK
    obtain ⟨xs, hq, hx⟩ := hg
    obtain ⟨its, rv, p, hz⟩ := I.list hq
    obtain ⟨f0, f1, f2, f3, f4, f5⟩ := hf it (by simp)
    have hl := rv.length
    exact wpAny_pyNext_list_end (I.ok.hd hc) st p.isList (by simp; omega) fun h' eb => ⟨rfl, I.turned (t' := s.toks) (fun b o hb e => eb b o hb e) f0 f1 f3 f4 f5⟩
  self := fun _ _ _ _ _ st h => wpAny_pyIter_listiter st h
theorem turn_tuple {P : Program} {w : World} {K : PySem.W.Frag} {tg : Expr} (a it : Addr) : Turn P w K tg (Itt K a) [it] it (fun i h => h.IsTupleIter it a i) where
  mem := by simp
  obj := fun i h st b hb => by
    have e : b = it := by simpa using hb
    subst e
    obtain ⟨o, e, c, d⟩ := st
    exact ⟨o, e, fun v z => by rw [d] at z; cases z⟩
  keep := fun i h h' st k => st.at fun o e => k it (by simp) o e
  item := by
    intro X hP hw hK hc i pins s σ H E I hf st hg
    subst hP hw hK
    obtain ⟨xs, x, hq, hx⟩ := hg
    obtain ⟨its, rv, p, hz⟩ := I.tuple hq
    obtain ⟨u, hu, ru⟩ := rv.get hx
    obtain ⟨f0, f1, f2, f3, f4, f5⟩ := hf it (by simp)
    refine wpAny_pyNext_tuple_item st (show s.heap.IsTuple a its.toArray from p) (x := u) (by simpa using hu) fun h' st' sb => ?_
    have I1 : Inv X pins σ H { s with heap := h' } := I.turned (t' := s.toks) (fun b o hb e => (sb.2 b hb).trans e) f0 f1 f3 f4 f5
    obtain ⟨o, e, c, d⟩ := id st'
    exact ⟨u, rfl, go_of (s := { s with heap := h' }) e c d (by decide) ⟨x, H, I1, ru, ⟨rfl, fun ys hy => by rw [I.tuple_inj hy hq]; exact hx⟩, st', fun b hb => (hf b hb).1⟩⟩
  done := by
    intro X hP hw hK hc i pins s σ H E I hf st hg
    subst hP hw hK
    obtain ⟨xs, hq, hx⟩ := hg
    obtain ⟨its, rv, p, hz⟩ := I.tuple hq
    obtain ⟨f0, f1, f2, f3, f4, f5⟩ := hf it (by simp)
    have hl := rv.length
    exact wpAny_pyNext_tuple_end (I.ok.hd hc) st (show s.heap.IsTuple a its.toArray from p) (by simp; omega) fun h' eb => ⟨rfl, I.turned (t' := s.toks) (fun b o hb e => eb b o hb e) f0 f1 f3 f4 f5⟩
  self := fun _ _ _ _ _ st h => wpAny_pyIter_tupleiter st h
theorem turn_range {P : Program} {w : World} {K : PySem.W.Frag} {tg : Expr} (it : Addr) (lo : Int) (n : Nat) : Turn P w K tg (Itr lo n) [it] it (fun i h => IsRangeIter h it (lo + (i : Nat) * 1) ((n : Int) - (i : Nat)) 1) where
  mem := by simp
  obj := fun i h st b hb => by
    have e : b = it := by simpa using hb
    subst e
    exact ⟨_, st, fun v z => by
      have z' : Data.fields _ = Data.cell v := z
      cases z'⟩
  keep := fun i h h' st k => k it (by simp) _ st
  item := by
    intro X hP hw hK hc i pins s σ H E I hf st hg
    subst hP hw hK
    obtain ⟨f0, f1, f2, f3, f4, f5⟩ := hf it (by simp)
    have W := Walks.range (prog := X.prog) (w := X.w) (I.ok.hd hc) it lo 1 n
    refine W.item i s _ _ hg st fun v h' tk hv st' kk => ?_
    obtain ⟨t, rfl⟩ := hv
    have I1 : Inv X pins σ H { s with heap := h', toks := tk } := I.turned (fun b o hb e => kk b o (by simpa using hb) e) f0 f1 f3 f4 f5
    refine ⟨_, rfl, go_of (s := { s with heap := h', toks := tk }) (n := "range_iterator") st' rfl rfl (by decide) ⟨.int (lo + i), H, I1, ⟨t, ?_⟩, ⟨rfl, rfl⟩, st', fun b hb => (hf b hb).1⟩⟩
    rw [Int.mul_one]
  done := by
    intro X hP hw hK hc i pins s σ H E I hf st hg
    subst hP hw hK
    obtain ⟨f0, f1, f2, f3, f4, f5⟩ := hf it (by simp)
    exact wpAny_pyNext_range_end (I.ok.hd hc) st (by have : n ≤ i := hg; omega) fun h' eb => ⟨rfl, I.turned (t' := s.toks) (fun b o hb e => eb b o hb e) f0 f1 f3 f4 f5⟩
  self := fun _ _ _ _ _ st h => wpAny_pyIter_rangeiter st h
end L2

namespace L2
open PySem PySem.Spec PyProof.Rows
section
variable {X : Cx} {tg : Expr}
def iList (K : PySem.W.Frag) (tl : TE) : TI := fun σ H R => tl σ H fun x H1 => ∃ a, x = .ref a ∧ (∃ xs, SqL K H1 a xs) ∧ R (Itl K a) H1
def iTup (K : PySem.W.Frag) (tl : TE) : TI := fun σ H R => tl σ H fun x H1 => ∃ a, x = .ref a ∧ (∃ xs, SqT K H1 a xs) ∧ R (Itt K a) H1
theorem pi_list {l : Expr} {tl : TE} (hl : PE X l tl) : PI X tg l (iList X.K tl) := by
  intro pins s σ H R I h
  refine thn (hl pins s σ H _ I h) fun v s1 ⟨x, H1, I1, r1, q1⟩ => ?_
  obtain ⟨a, e, ⟨xs, hq⟩, q⟩ := q1
  subst e
  cases r1
  obtain ⟨its, rv, p, hz⟩ := I1.list hq
  refine wpAny_pyIter_list p.isList ?_
  refine ⟨s1.heap.objs.size, [s1.heap.objs.size], _, _, H1, rfl, I1.kept (t' := s1.toks) fun b o e => Heap.get?_push_of_some _ e, turn_list a _, ⟨_, Heap.get?_push_size _ rfl, rfl, rfl⟩, fun b hb => ?_, q⟩
  have e : b = s1.heap.objs.size := by simpa using hb
  subst e
  exact I1.fpOk (Nat.le_refl _) (I1.hok.fresh (Nat.le_refl _))
theorem pi_tup {l : Expr} {tl : TE} (hl : PE X l tl) : PI X tg l (iTup X.K tl) := by
  intro pins s σ H R I h
  refine thn (hl pins s σ H _ I h) fun v s1 ⟨x, H1, I1, r1, q1⟩ => ?_
  obtain ⟨a, e, ⟨xs, hq⟩, q⟩ := q1
  subst e
  cases r1
  obtain ⟨its, rv, p, hz⟩ := I1.tuple hq
  refine wpAny_pyIter_tuple (show s1.heap.IsTuple a its.toArray from p) ?_
  refine ⟨s1.heap.objs.size, [s1.heap.objs.size], _, _, H1, rfl, I1.kept (t' := s1.toks) fun b o e => Heap.get?_push_of_some _ e, turn_tuple a _, ⟨_, Heap.get?_push_size _ rfl, rfl, rfl⟩, fun b hb => ?_, q⟩
  have e : b = s1.heap.objs.size := by simpa using hb
  subst e
  exact I1.fpOk (Nat.le_refl _) (I1.hok.fresh (Nat.le_refl _))
/-- a range object just made, walked -/
theorem range_it {pins : List (Addr × Obj)} {σ : St} {H : Hp} {s : Shared} {R : It → Hp → Prop} {E : Value → Shared → Prop} {lo hi : Int} {t u v : Tok} {tk : Nat} (I : Inv X pins σ H s) (h1 : -(2 ^ 62) ≤ lo) (h2 : lo < 2 ^ 62) (h3 : -(2 ^ 62) ≤ hi) (h4 : hi < 2 ^ 62)
    (q : R (Itr lo (hi - lo).toNat) H) : wpAny (model X.prog X.w) X.A (pyIter (.ref s.heap.objs.size)) (PIE X pins σ tg R) E { s with heap := s.heap.push { cls := .type "range", data := .fields #[.int lo t, .int hi u, .int 1 v] }, toks := tk } := by
  refine wpAny_pyIter_range (IsRange.new ..) (small_one h1 h2 h3 h4) ?_
  have I1 : Inv X pins σ H { s with heap := s.heap.push { cls := .type "range", data := .fields #[.int lo t, .int hi u, .int 1 v] }, toks := tk } := I.kept fun b o e => Heap.get?_push_of_some _ e
  refine ⟨(s.heap.push { cls := .type "range", data := .fields #[.int lo t, .int hi u, .int 1 v] }).objs.size, [(s.heap.push { cls := .type "range", data := .fields #[.int lo t, .int hi u, .int 1 v] }).objs.size], _, _, H, rfl,
    I1.kept (t' := tk) fun b o e => Heap.get?_push_of_some _ e, turn_range _ lo (hi - lo).toNat, ?_, fun b hb => ?_, q⟩
  · have e1 : lo + ((0 : Nat) : Int) * 1 = lo := by simp
    have e2 : (((hi - lo).toNat : Nat) : Int) - ((0 : Nat) : Int) = Builtin.Range.rangeSize lo hi 1 := by rw [rangeSize_one]; split <;> omega
    show IsRangeIter _ _ (lo + ((0 : Nat) : Int) * 1) ((((hi - lo).toNat : Nat) : Int) - ((0 : Nat) : Int)) 1
    rw [e1, e2]
    exact Heap.get?_push_size _ rfl
  · have e : b = (s.heap.push { cls := .type "range", data := .fields #[.int lo t, .int hi u, .int 1 v] }).objs.size := by simpa using hb
    subst e
    exact I1.fpOk (Nat.le_refl _) (I1.hok.fresh (Nat.le_refl _))
def iRng1 (ta : TA) : TI := fun σ H R => ta σ H fun vs H1 => ∃ j : Int, vs = [.int j] ∧ -(2 ^ 62) ≤ j ∧ j < 2 ^ 62 ∧ R (Itr 0 j.toNat) H1
def iRng2 (ta : TA) : TI := fun σ H R => ta σ H fun vs H1 => ∃ i j : Int, vs = [.int i, .int j] ∧ (-(2 ^ 62) ≤ i ∧ i < 2 ^ 62 ∧ -(2 ^ 62) ≤ j ∧ j < 2 ^ 62) ∧ R (Itr i (j - i).toNat) H1
theorem pi_range1 {a : Expr} {ta : TA} {p pos : Pos} (hg : Gl X "range") (hm : X.mg "range" = none) (ha : PA X [a] ta) (hs : starEach [a] X.env = [(false, eval a X.env)] := by rfl) : PI X tg (.Call (.Name "range" p) [a] [] pos) (iRng1 ta) := by
  intro pins s σ H R I h
  refine Call_ (ld_blt I hg hm boot_range (PyProof.Rows.callWith_type1 (thn (ha pos pins s σ H _ I h) fun us s1 ⟨vs, H1, I1, r1, q1⟩ => ?_) hs rfl))
  obtain ⟨j, e, q1, q2, q⟩ := q1
  subst e
  cases r1 with
  | cons r rr =>
    cases rr
    obtain ⟨t, rfl⟩ := r
    exact call_range_1 (range_it I1 (by omega) (by omega) q1 q2 (by simpa using q))
theorem pi_range2 {a b : Expr} {ta : TA} {p pos : Pos} (hg : Gl X "range") (hm : X.mg "range" = none) (ha : PA X [a, b] ta) (hs : starEach [a, b] X.env = [(false, eval a X.env), (false, eval b X.env)] := by rfl) (hs2 : starEach [b] X.env = [(false, eval b X.env)] := by rfl) :
    PI X tg (.Call (.Name "range" p) [a, b] [] pos) (iRng2 ta) := by
  intro pins s σ H R I h
  refine Call_ (ld_blt I hg hm boot_range (PyProof.Rows.callWith_type1 (thn (ha pos pins s σ H _ I h) fun us s1 ⟨vs, H1, I1, r1, q1⟩ => ?_) (by rw [hs, hs2]) (by rw [hs2]; rfl)))
  obtain ⟨i, j, e, ⟨q1, q2, q3, q4⟩, q⟩ := q1
  subst e
  cases r1 with
  | cons r rr =>
    cases rr with
    | cons r' rr =>
      cases rr
      obtain ⟨t, rfl⟩ := r
      obtain ⟨t', rfl⟩ := r'
      exact call_range_2 (range_it I1 q1 q2 q3 q4 q)

/-! ### for -/
/-- W: the invariant by the turn and a measure; N: what the body is to reach -/
def tFor (wi : TI) (g : TG) (tb : TS) : TS := fun D σ H => wi σ H fun J H1 => ∃ W : Nat → Nat → St → Hp → Prop, (∃ m, W 0 m σ H1) ∧ ∀ i m σ H, W i m σ H →
  (J.stop i H ∧ D.nx σ H) ∨ (J.go i H ∧ ∃ N : St → Hp → Prop, (∀ σ' H', N σ' H' → ∃ m', m' < m ∧ W (i + 1) m' σ' H') ∧ ∀ x H', J.yld i H x H' → g x σ H' fun σ2 H2 => tb { D with nx := N, ct := N, bk := D.nx } σ2 H2)
/-- the records at fp as they stand -/
def pinsAt (fp : List Addr) (h : Heap) : List (Addr × Obj) := fp.filterMap fun b => (h.get? b).map fun o => (b, o)
theorem mem_pinsAt {fp : List Addr} {h : Heap} {b : Addr} {o : Obj} (hb : b ∈ fp) (e : h.get? b = some o) : (b, o) ∈ pinsAt fp h := List.mem_filterMap.mpr ⟨b, hb, by rw [e]; rfl⟩
theorem of_pinsAt {fp : List Addr} {h : Heap} {p : Addr × Obj} (hp : p ∈ pinsAt fp h) : p.1 ∈ fp ∧ h.get? p.1 = some p.2 := by
  obtain ⟨b, hb, e⟩ := List.mem_filterMap.mp hp
  cases q : h.get? b with
  | none => rw [q] at e; cases e
  | some o =>
    rw [q] at e
    have e' : (b, o) = p := Option.some.inj e
    subst e'
    exact ⟨hb, q⟩
theorem Inv.pinned {pins : List (Addr × Obj)} {σ : St} {H : Hp} {s : Shared} {fp : List Addr} (I : Inv X pins σ H s) (hf : ∀ b ∈ fp, FpOk X pins H b) (ho : ∀ b ∈ fp, ∃ o, s.heap.get? b = some o ∧ ∀ v, o.data ≠ .cell v) : Inv X (pins ++ pinsAt fp s.heap) σ H s :=
  I.pins_of fun p hp => (List.mem_append.mp hp).elim (fun z => I.pin p (List.mem_append_right _ z)) fun z => by
    obtain ⟨hb, e⟩ := of_pinsAt z
    obtain ⟨f0, f1, f2, _⟩ := hf p.1 hb
    obtain ⟨o, e', d⟩ := ho p.1 hb
    rw [e] at e'; cases e'
    exact ⟨e, f0, f1, f2, d⟩
theorem Inv.unpinned {pins pl : List (Addr × Obj)} {σ : St} {H : Hp} {s : Shared} (I : Inv X (pins ++ pl) σ H s) : Inv X pins σ H s := I.pins_of fun p hp => I.pin p (List.mem_append_right _ (List.mem_append_left _ hp))
theorem ps_for {iter : Expr} {body : List Stmt} {wi : TI} {g : TG} {tb : TS} {pos : Pos} (hp : PassesOwn (model X.prog X.w) X.A X.env X.xe) (hc : X.calm = true) (hi : PI X tg iter wi) (hg : PG X tg g) (hb : PSs X body tb)
    (hs : ∀ x, foldedSetIterable iter X.env x = pure x := by intro _; rfl) : PS X (.For tg iter body [] pos) (tFor wi g tb) := by
  intro pins s σ H D I h
  refine wpAny_For (thn (hi pins s σ H _ I h) fun v s1 h1 => thn h1 fun itv s2 h2 => ?_) hs
  obtain ⟨it, fp, tn, J, H2, e, I2, T, st2, f2, W, ⟨m0, w0⟩, turn⟩ := h2
  subst e
  -- what stays true of the iterator's objects through the loop
  have stat : ∀ {H' : Hp}, (∀ b ∈ fp, H' b = none) → ∀ b ∈ fp, FpOk X pins H' b := fun hn b hb => ⟨hn b hb, (f2 b hb).2⟩
  refine codeAny_forLoop_any (fun n s' => ∃ i σ' H', Inv X pins σ' H' s' ∧ tn i s'.heap ∧ (∀ b ∈ fp, H' b = none) ∧ W i n σ' H') ?_ m0 ⟨0, σ, H2, I2, st2, fun b hb => (f2 b hb).1, w0⟩
  rintro n s3 ⟨i, σ3, H3, I3, st3, fr3, w3⟩
  rcases turn i n σ3 H3 w3 with ⟨stop, qn⟩ | ⟨go, N, hN, step⟩
  · refine wpAny_passesOwn hp (thn (T.done X rfl rfl rfl hc i pins s3 σ3 H3 X.xe I3 (stat fr3) st3 stop) fun r s4 ⟨hr, I4⟩ => ?_)
    subst hr
    exact wpAny_execs_nil ⟨σ3, H3, I4, qn⟩
  · refine wpAny_passesOwn hp (thn (T.item X rfl rfl rfl hc i pins s3 σ3 H3 X.xe I3 (stat fr3) st3 go) fun r s4 ⟨u, hr, h4⟩ => ?_)
    subst hr
    refine wpAny_passesOwn hp (thn h4 fun _ s5 ⟨x, H5, I5, r5, y5, st5, fr5⟩ => ?_)
    have I5' := I5.pinned (stat fr5) (T.obj _ _ st5)
    refine wpAny_passesOwn hp (thn (hg _ s5 σ3 H5 x u _ I5' r5 (step x H5 y5)) fun _ s6 ⟨σ6, H6, I6, q6⟩ => ?_)
    refine wpAny_passesOwn hp (thn (hb _ s6 σ6 H6 _ I6 q6) fun f s7 q7 => ?_)
    have again : ∀ {σ7 : St} {H7 : Hp}, Inv X (pins ++ pinsAt fp s5.heap) σ7 H7 s7 → N σ7 H7 → ∃ m, m < n ∧ ∃ i σ' H', Inv X pins σ' H' s7 ∧ tn i s7.heap ∧ (∀ b ∈ fp, H' b = none) ∧ W i m σ' H' := fun {σ7 H7} I7 n7 => by
      obtain ⟨m', hm, w7⟩ := hN σ7 H7 n7
      refine ⟨m', hm, i + 1, σ7, H7, I7.unpinned, T.keep _ _ _ st5 fun b hb o e => (I7.pin (b, o) (List.mem_append_right _ (List.mem_append_right _ (mem_pinsAt hb e)))).1, fun b hb => ?_, w7⟩
      obtain ⟨o, e, d⟩ := T.obj _ _ st5 b hb
      exact (I7.pin (b, o) (List.mem_append_right _ (List.mem_append_right _ (mem_pinsAt hb e)))).2.1
    cases f with
    | next => obtain ⟨σ7, H7, I7, n7⟩ := q7; exact again I7 n7
    | cont => obtain ⟨σ7, H7, I7, n7⟩ := q7; exact again I7 n7
    | brk => obtain ⟨σ7, H7, I7, q7⟩ := q7; exact ⟨σ7, H7, I7.unpinned, q7⟩
    | ret v => obtain ⟨x7, σ7, H7, I7, r7, q7⟩ := q7; exact ⟨x7, σ7, H7, I7.unpinned, r7, q7⟩
end

/-! ### the forms one uses -/
/-- over a list that the body leaves as it is -/
theorem for_list {K : PySem.W.Frag} {a : Addr} {xs : List V} {g : TG} {tb : TS} {D : Ends} {σ : St} {H : Hp} (Pv : Nat → St → Hp → Prop) (h0 : Pv 0 σ H) (hl : ∀ i σ H, i ≤ xs.length → Pv i σ H → SqL K H a xs)
    (hs : ∀ i x σ H, xs[i]? = some x → Pv i σ H → g x σ H fun σ2 H2 => tb { D with nx := Pv (i + 1), ct := Pv (i + 1), bk := D.nx } σ2 H2) (hd : ∀ σ H, Pv xs.length σ H → D.nx σ H) :
    ∃ W : Nat → Nat → St → Hp → Prop, (∃ m, W 0 m σ H) ∧ ∀ i m σ H, W i m σ H →
      ((Itl K a).stop i H ∧ D.nx σ H) ∨ ((Itl K a).go i H ∧ ∃ N : St → Hp → Prop, (∀ σ' H', N σ' H' → ∃ m', m' < m ∧ W (i + 1) m' σ' H') ∧ ∀ x H', (Itl K a).yld i H x H' → g x σ H' fun σ2 H2 => tb { D with nx := N, ct := N, bk := D.nx } σ2 H2) := by
  refine ⟨fun i m σ H => m = xs.length - i ∧ i ≤ xs.length ∧ Pv i σ H, ⟨xs.length, by simp, Nat.zero_le _, h0⟩, ?_⟩
  rintro i m σ H ⟨rfl, hi, p⟩
  have q := hl i σ H hi p
  by_cases hlt : i < xs.length
  · refine .inr ⟨⟨xs, xs[i], q, by simp [hlt]⟩, Pv (i + 1), fun σ' H' p' => ⟨xs.length - (i + 1), by omega, rfl, hlt, p'⟩, fun x H' y => ?_⟩
    obtain ⟨e, y⟩ := y
    subst e
    exact hs i x σ _ (y xs q) p
  · have e : i = xs.length := by omega
    subst e
    exact .inl ⟨⟨xs, q, Nat.le_refl _⟩, hd σ H p⟩
theorem for_tup {K : PySem.W.Frag} {a : Addr} {xs : List V} {g : TG} {tb : TS} {D : Ends} {σ : St} {H : Hp} (Pv : Nat → St → Hp → Prop) (h0 : Pv 0 σ H) (hl : ∀ i σ H, i ≤ xs.length → Pv i σ H → SqT K H a xs)
    (hs : ∀ i x σ H, xs[i]? = some x → Pv i σ H → g x σ H fun σ2 H2 => tb { D with nx := Pv (i + 1), ct := Pv (i + 1), bk := D.nx } σ2 H2) (hd : ∀ σ H, Pv xs.length σ H → D.nx σ H) :
    ∃ W : Nat → Nat → St → Hp → Prop, (∃ m, W 0 m σ H) ∧ ∀ i m σ H, W i m σ H →
      ((Itt K a).stop i H ∧ D.nx σ H) ∨ ((Itt K a).go i H ∧ ∃ N : St → Hp → Prop, (∀ σ' H', N σ' H' → ∃ m', m' < m ∧ W (i + 1) m' σ' H') ∧ ∀ x H', (Itt K a).yld i H x H' → g x σ H' fun σ2 H2 => tb { D with nx := N, ct := N, bk := D.nx } σ2 H2) := by
  refine ⟨fun i m σ H => m = xs.length - i ∧ i ≤ xs.length ∧ Pv i σ H, ⟨xs.length, by simp, Nat.zero_le _, h0⟩, ?_⟩
  rintro i m σ H ⟨rfl, hi, p⟩
  have q := hl i σ H hi p
  by_cases hlt : i < xs.length
  · refine .inr ⟨⟨xs, xs[i], q, by simp [hlt]⟩, Pv (i + 1), fun σ' H' p' => ⟨xs.length - (i + 1), by omega, rfl, hlt, p'⟩, fun x H' y => ?_⟩
    obtain ⟨e, y⟩ := y
    subst e
    exact hs i x σ _ (y xs q) p
  · have e : i = xs.length := by omega
    subst e
    exact .inl ⟨⟨xs, q, Nat.le_refl _⟩, hd σ H p⟩
theorem for_range {lo : Int} {n : Nat} {g : TG} {tb : TS} {D : Ends} {σ : St} {H : Hp} (Pv : Nat → St → Hp → Prop) (h0 : Pv 0 σ H)
    (hs : ∀ i σ H, i < n → Pv i σ H → g (.int (lo + i)) σ H fun σ2 H2 => tb { D with nx := Pv (i + 1), ct := Pv (i + 1), bk := D.nx } σ2 H2) (hd : ∀ σ H, Pv n σ H → D.nx σ H) :
    ∃ W : Nat → Nat → St → Hp → Prop, (∃ m, W 0 m σ H) ∧ ∀ i m σ H, W i m σ H →
      ((Itr lo n).stop i H ∧ D.nx σ H) ∨ ((Itr lo n).go i H ∧ ∃ N : St → Hp → Prop, (∀ σ' H', N σ' H' → ∃ m', m' < m ∧ W (i + 1) m' σ' H') ∧ ∀ x H', (Itr lo n).yld i H x H' → g x σ H' fun σ2 H2 => tb { D with nx := N, ct := N, bk := D.nx } σ2 H2) := by
  refine ⟨fun i m σ H => m = n - i ∧ i ≤ n ∧ Pv i σ H, ⟨n, by simp, Nat.zero_le _, h0⟩, ?_⟩
  rintro i m σ H ⟨rfl, hi, p⟩
  by_cases hlt : i < n
  · refine .inr ⟨hlt, Pv (i + 1), fun σ' H' p' => ⟨n - (i + 1), by omega, rfl, hlt, p'⟩, fun x H' y => ?_⟩
    obtain ⟨e, y⟩ := y
    subst e y
    exact hs i σ _ hlt p
  · have e : i = n := by omega
    subst e
    exact .inl ⟨Nat.le_refl _, hd σ H p⟩
/-- while, by a word and a measure of the state -/
theorem while_by {c : TT} {tb : TS} {D : Ends} {σ : St} {H : Hp} (Pv : St → Hp → Prop) (μ : St → Hp → Nat) (h0 : Pv σ H)
    (hs : ∀ σ H, Pv σ H → c σ H fun b H1 => if b = true then tb { D with nx := fun σ' H' => Pv σ' H' ∧ μ σ' H' < μ σ H, ct := fun σ' H' => Pv σ' H' ∧ μ σ' H' < μ σ H, bk := D.nx } σ H1 else D.nx σ H1)
    (mono : ∀ σ H Q Q', (∀ b H1, Q b H1 → Q' b H1) → c σ H Q → c σ H Q') : tWhile c tb D σ H := by
  refine ⟨fun m σ H => m = μ σ H ∧ Pv σ H, ⟨_, rfl, h0⟩, ?_⟩
  rintro m σ H ⟨rfl, p⟩
  refine mono σ H _ _ (fun b H1 q => ?_) (hs σ H p)
  cases b with
  | true => exact ⟨_, fun σ' H' ⟨p', l⟩ => ⟨_, l, rfl, p'⟩, q⟩
  | false => exact q
end L2

namespace L2
open PySem PySem.Spec PyProof.Rows

abbrev R2 := V → V → Hp → VK → Prop
/-- a two-place operation on values: f is binaryOp op, inplaceOp op or compareOp op -/
def OpR (X : Cx) (f : Value → Value → Sem Value) (r : R2) : Prop :=
  ∀ (pins : List (Addr × Obj)) (s : Shared) (σ : St) (H : Hp) (x y : V) (v u : Value) (Q : VK), Inv X pins σ H s → RelV x v → RelV y u → r x y H Q →
    wpAny (model X.prog X.w) X.A (f v u) (EP X pins σ Q) X.xe s
/-- a one-place operation -/
def UnR (X : Cx) (f : Value → Sem Value) (r : V → Hp → VK → Prop) : Prop :=
  ∀ (pins : List (Addr × Obj)) (s : Shared) (σ : St) (H : Hp) (x : V) (v : Value) (Q : VK), Inv X pins σ H s → RelV x v → r x H Q →
    wpAny (model X.prog X.w) X.A (f v) (EP X pins σ Q) X.xe s
/-- a call of a value that is known (a builtin, a type) with values -/
def CallR (X : Cx) (f : Value) (r : List V → Hp → VK → Prop) : Prop :=
  ∀ (pins : List (Addr × Obj)) (s : Shared) (σ : St) (H : Hp) (xs : List V) (us : List Value) (Q : VK), Inv X pins σ H s → Vals xs us → r xs H Q →
    wpAny (model X.prog X.w) X.A (call f us) (EP X pins σ Q) X.xe s
/-- a value's truth -/
def TruR (X : Cx) (r : V → Hp → (Bool → Hp → Prop) → Prop) : Prop :=
  ∀ (pins : List (Addr × Obj)) (s : Shared) (σ : St) (H : Hp) (x : V) (v : Value) (Q : Bool → Hp → Prop), Inv X pins σ H s → RelV x v → r x H Q →
    wpAny (model X.prog X.w) X.A (truthy v) (TP X pins σ Q) X.xe s

def tOp (r : R2) (ta tb : TE) : TE := fun σ H Q => ta σ H fun x H1 => tb σ H1 fun y H2 => r x y H2 Q
def tUn (r : V → Hp → VK → Prop) (ta : TE) : TE := fun σ H Q => ta σ H fun x H1 => r x H1 Q
/-- ints in, under C, and a value out -/
def rI (C : Int → Int → Prop) (g : Int → Int → V) : R2 := fun x y H Q => ∃ i j, x = .int i ∧ y = .int j ∧ C i j ∧ Q (g i j) H
def rI0 (g : Int → Int → V) : R2 := fun x y H Q => ∃ i j, x = .int i ∧ y = .int j ∧ Q (g i j) H
def rU (g : Int → V) : V → Hp → VK → Prop := fun x H Q => ∃ i, x = .int i ∧ Q (g i) H

section
variable {X : Cx} {a b c : Expr} {ta tb tc : TE} {pos : Pos}

theorem binT (ha : PE X a ta) (hb : PE X b tb) {pins : List (Addr × Obj)} {s : Shared} {σ : St} {H : Hp} {R : V → V → Hp → Prop} (I : Inv X pins σ H s)
    (h : ta σ H fun x H1 => tb σ H1 fun y H2 => R x y H2) {Q : Value → Shared → Prop} {f : Value → Value → Sem Value}
    (hf : ∀ v u s2 x y H2, Inv X pins σ H2 s2 → RelV x v → RelV y u → R x y H2 → wpAny (model X.prog X.w) X.A (f v u) Q X.xe s2) :
    wpAny (model X.prog X.w) X.A (eval a X.env) (fun v s₁ => wpAny (model X.prog X.w) X.A (eval b X.env) (fun u s₂ => wpAny (model X.prog X.w) X.A (f v u) Q X.xe s₂) X.xe s₁) X.xe s := by
  refine thn (ha pins s σ H _ I h) fun v s1 ⟨x, H1, I1, r1, q1⟩ => ?_
  refine thn (hb pins s1 σ H1 _ I1 q1) fun u s2 ⟨y, H2, I2, r2, q2⟩ => ?_
  exact hf v u s2 x y H2 I2 r1 r2 q2

theorem pe_op {op : Operator} {r : R2} (ho : OpR X (binaryOp op) r) (ha : PE X a ta) (hb : PE X b tb) : PE X (.BinOp a op b pos) (tOp r ta tb) := by
  intro pins s σ H Q I h
  exact wpAny_BinOp (binT ha hb I h fun v u s2 x y H2 I2 rx ry q => ho pins s2 σ H2 x y v u Q I2 rx ry q)
theorem pe_un {op : UnaryOp} {r : V → Hp → VK → Prop} (ho : UnR X (unaryOp op) r) (ha : PE X a ta) : PE X (.UnaryOp op a pos) (tUn r ta) := by
  intro pins s σ H Q I h
  exact UnaryOp_ (thn (ha pins s σ H _ I h) fun v s1 ⟨x, H1, I1, r1, q1⟩ => ho pins s1 σ H1 x v Q I1 r1 q1)
/-- a op= e at a name: the name's slot i -/
theorem augR {op : Operator} {r : R2} (ho : OpR X (inplaceOp op) r) {pins : List (Addr × Obj)} {s : Shared} {σ : St} {H : Hp} {x y : V} {v u : Value} {Q : VK} (I : Inv X pins σ H s)
    (rx : RelV x v) (ry : RelV y u) (q : r x y H Q) : wpAny (model X.prog X.w) X.A (inplaceOp op v u) (EP X pins σ Q) X.xe s := ho pins s σ H x y v u Q I rx ry q

/-! ### ints -/
theorem opI {f : Value → Value → Sem Value} {C : Int → Int → Prop} {g : Int → Int → Int}
    (rule : ∀ (i j : Int) (t u : Tok) (s : Shared) (Q : Value → Shared → Prop) (E : Value → Shared → Prop), C i j → Q (.int (g i j) s.toks) { s with toks := s.toks + 1 } → wpAny (model X.prog X.w) X.A (f (.int i t) (.int j u)) Q E s) :
    OpR X f (rI C fun i j => .int (g i j)) := by
  intro pins s σ H x y v u Q I rx ry h
  obtain ⟨i, j, rfl, rfl, hc, q⟩ := h
  obtain ⟨t, rfl⟩ := rx
  obtain ⟨t', rfl⟩ := ry
  exact rule i j t t' s _ _ hc ⟨.int (g i j), H, I.tok _, ⟨_, rfl⟩, q⟩
theorem opI0 {f : Value → Value → Sem Value} {g : Int → Int → Int}
    (rule : ∀ (i j : Int) (t u : Tok) (s : Shared) (Q : Value → Shared → Prop) (E : Value → Shared → Prop), Q (.int (g i j) s.toks) { s with toks := s.toks + 1 } → wpAny (model X.prog X.w) X.A (f (.int i t) (.int j u)) Q E s) :
    OpR X f (rI0 fun i j => .int (g i j)) := by
  intro pins s σ H x y v u Q I rx ry h
  obtain ⟨i, j, rfl, rfl, q⟩ := h
  obtain ⟨t, rfl⟩ := rx
  obtain ⟨t', rfl⟩ := ry
  exact rule i j t t' s _ _ ⟨.int (g i j), H, I.tok _, ⟨_, rfl⟩, q⟩
theorem opB0 {f : Value → Value → Sem Value} {g : Int → Int → Bool}
    (rule : ∀ (i j : Int) (t u : Tok) (s : Shared) (Q : Value → Shared → Prop) (E : Value → Shared → Prop), Q (.bool (g i j)) s → wpAny (model X.prog X.w) X.A (f (.int i t) (.int j u)) Q E s) :
    OpR X f (rI0 fun i j => .bl (g i j)) := by
  intro pins s σ H x y v u Q I rx ry h
  obtain ⟨i, j, rfl, rfl, q⟩ := h
  obtain ⟨t, rfl⟩ := rx
  obtain ⟨t', rfl⟩ := ry
  exact rule i j t t' s _ _ ⟨.bl (g i j), H, I, rfl, q⟩

def CDiv (i j : Int) : Prop := 0 < j ∧ j < 1073741824
def CDivN (i j : Int) : Prop := j ≠ 0 ∧ j.natAbs < 1073741824
def CPow (i j : Int) : Prop := 0 ≤ j ∧ j ≤ 1000000 ∧ i.natAbs < 2 ^ 64
def CMul (i j : Int) : Prop := (-(2 ^ 64) < i ∧ i < 2 ^ 64) ∨ (-(2 ^ 64) < j ∧ j < 2 ^ 64)
theorem CMul.ok {i j : Int} (h : CMul i j) : IntMulOk i j := by
  rcases h with ⟨h1, h2⟩ | ⟨h1, h2⟩
  · exact .of_left (intBits_le_64 h1 h2)
  · exact .of_right (intBits_le_64 h1 h2)
theorem two_pow_nn (k : Nat) : (0 : Int) ≤ 2 ^ k := by
  rw [two_pow_cast]
  exact Int.natCast_nonneg _

theorem op_add : OpR X (binaryOp .Add) (rI0 fun i j => .int (i + j)) := opI0 fun _ _ _ _ _ _ _ q => add_int q
theorem op_sub : OpR X (binaryOp .Sub) (rI0 fun i j => .int (i - j)) := opI0 fun _ _ _ _ _ _ _ q => sub_int q
theorem op_mul : OpR X (binaryOp .Mult) (rI CMul fun i j => .int (i * j)) := opI fun _ _ _ _ _ _ _ hc q => mul_int q hc.ok
/-- // by a positive divisor -/
theorem op_fdiv : OpR X (binaryOp .FloorDiv) (rI CDiv fun i j => .int (i / j)) := opI fun i j _ _ _ _ _ hc q => by
  have h1 : (0 : Int) < j := hc.1
  have h2 : j < 1073741824 := hc.2
  exact floordiv_int (by omega) (by rw [Int.fdiv_eq_ediv_of_nonneg i (by omega)]; exact q) (.inl (PyProof.noPylong_small (by omega)))
theorem op_fdivN : OpR X (binaryOp .FloorDiv) (rI CDivN fun i j => .int (i.fdiv j)) := opI fun _ _ _ _ _ _ _ hc q => floordiv_int hc.1 q (.inl (PyProof.noPylong_small hc.2))
/-- % by a positive divisor of any size -/
theorem op_mod : OpR X (binaryOp .Mod) (rI (fun _ j => 0 < j) fun i j => .int (i % j)) := opI fun i j _ _ _ _ _ hc q => by
  have h1 : (0 : Int) < j := hc
  exact mod_int' (by omega) (by rw [Int.fmod_eq_emod_of_nonneg i (by omega)]; exact q)
theorem op_modN : OpR X (binaryOp .Mod) (rI (fun _ j => j ≠ 0) fun i j => .int (i.fmod j)) := opI fun _ _ _ _ _ _ _ hc q => mod_int' hc q
theorem op_pow : OpR X (binaryOp .Pow) (rI CPow fun i j => .int (i ^ j.toNat)) := opI fun _ _ _ _ _ _ _ hc q => pow_int_small hc.1 hc.2.1 hc.2.2 q
theorem op_shl : OpR X (binaryOp .LShift) (rI CPow fun i j => .int (i * 2 ^ j.toNat)) := opI fun _ _ _ _ _ _ _ hc q => lshift_int_small hc.1 hc.2.1 hc.2.2 q
theorem op_shr : OpR X (binaryOp .RShift) (rI (fun _ j => 0 ≤ j) fun i j => .int (i / 2 ^ j.toNat)) := opI fun i j _ _ _ _ _ hc q =>
  rshift_int hc (by rw [Int.fdiv_eq_ediv_of_nonneg i (two_pow_nn _)]; exact q)
theorem op_and : OpR X (binaryOp .BitAnd) (rI0 fun i j => .int (Builtin.bitAnd i j)) := opI0 fun _ _ _ _ _ _ _ q => and_int q
theorem op_or : OpR X (binaryOp .BitOr) (rI0 fun i j => .int (Builtin.bitOr i j)) := opI0 fun _ _ _ _ _ _ _ q => or_int q
theorem op_xor : OpR X (binaryOp .BitXor) (rI0 fun i j => .int (Builtin.bitXor i j)) := opI0 fun _ _ _ _ _ _ _ q => xor_int q

theorem iop_add : OpR X (inplaceOp .Add) (rI0 fun i j => .int (i + j)) := opI0 fun _ _ _ _ _ _ _ q => iadd_int q
theorem iop_sub : OpR X (inplaceOp .Sub) (rI0 fun i j => .int (i - j)) := opI0 fun _ _ _ _ _ _ _ q => isub_int q
theorem iop_mul : OpR X (inplaceOp .Mult) (rI CMul fun i j => .int (i * j)) := opI fun _ _ _ _ _ _ _ hc q => imul_int q hc.ok
theorem iop_fdiv : OpR X (inplaceOp .FloorDiv) (rI CDiv fun i j => .int (i / j)) := opI fun i j _ _ _ _ _ hc q => by
  have h1 : (0 : Int) < j := hc.1
  have h2 : j < 1073741824 := hc.2
  exact ifloordiv_int (by omega) (by rw [Int.fdiv_eq_ediv_of_nonneg i (by omega)]; exact q) (.inl (PyProof.noPylong_small (by omega)))
theorem iop_mod : OpR X (inplaceOp .Mod) (rI (fun _ j => 0 < j) fun i j => .int (i % j)) := opI fun i j _ _ _ _ _ hc q => by
  have h1 : (0 : Int) < j := hc
  exact imod_int (by omega) (by rw [Int.fmod_eq_emod_of_nonneg i (by omega)]; exact q)
theorem iop_shl : OpR X (inplaceOp .LShift) (rI CPow fun i j => .int (i * 2 ^ j.toNat)) := opI fun _ _ _ _ _ _ _ hc q => ilshift_int_small hc.1 hc.2.1 hc.2.2 q
theorem iop_shr : OpR X (inplaceOp .RShift) (rI (fun _ j => 0 ≤ j) fun i j => .int (i / 2 ^ j.toNat)) := opI fun i j _ _ _ _ _ hc q =>
  irshift_int hc (by rw [Int.fdiv_eq_ediv_of_nonneg i (two_pow_nn _)]; exact q)
theorem iop_and : OpR X (inplaceOp .BitAnd) (rI0 fun i j => .int (Builtin.bitAnd i j)) := opI0 fun _ _ _ _ _ _ _ q => iand_int q
theorem iop_or : OpR X (inplaceOp .BitOr) (rI0 fun i j => .int (Builtin.bitOr i j)) := opI0 fun _ _ _ _ _ _ _ q => ior_int q
theorem iop_xor : OpR X (inplaceOp .BitXor) (rI0 fun i j => .int (Builtin.bitXor i j)) := opI0 fun _ _ _ _ _ _ _ q => ixor_int q

theorem unI {f : Value → Sem Value} {g : Int → Int}
    (rule : ∀ (i : Int) (t : Tok) (s : Shared) (Q : Value → Shared → Prop) (E : Value → Shared → Prop), Q (.int (g i) s.toks) { s with toks := s.toks + 1 } → wpAny (model X.prog X.w) X.A (f (.int i t)) Q E s) :
    UnR X f (rU fun i => .int (g i)) := by
  intro pins s σ H x v Q I rx h
  obtain ⟨i, rfl, q⟩ := h
  obtain ⟨t, rfl⟩ := rx
  exact rule i t s _ _ ⟨.int (g i), H, I.tok _, ⟨_, rfl⟩, q⟩
theorem un_neg : UnR X (unaryOp .USub) (rU fun i => .int (-i)) := unI fun _ _ _ _ _ q => neg_int q
theorem un_inv : UnR X (unaryOp .Invert) (rU fun i => .int (Builtin.bitNot i)) := unI fun _ _ _ _ _ q => invert_int q

/-! ### bools among ints: n += (a < b) -/
theorem op_add_ib : OpR X (binaryOp .Add) (fun x y H Q => ∃ i k, x = .int i ∧ y = .bl k ∧ Q (.int (i + b2i k)) H) := by
  intro pins s σ H x y v u Q I rx ry h
  obtain ⟨i, k, rfl, rfl, q⟩ := h
  obtain ⟨t, rfl⟩ := rx
  cases ry
  exact add_int_bool ⟨.int (i + b2i k), H, I.tok _, ⟨_, rfl⟩, q⟩
end

/-! ### comparisons -/
/-- the scalars that == tells apart as data does -/
def scal : V → V → Bool
  | .non, .non => true | .non, .int _ => true | .int _, .non => true | .non, .bl _ => true | .bl _, .non => true | .non, .str _ => true | .str _, .non => true
  | .int _, .int _ => true | .bl _, .bl _ => true | .str _, .str _ => true | .byt _, .byt _ => true
  | .int _, .str _ => true | .str _, .int _ => true | .bl _, .str _ => true | .str _, .bl _ => true
  | _, _ => false
def rEq : R2 := fun x y H Q => scal x y = true ∧ Q (.bl (decide (x = y))) H
def rNe : R2 := fun x y H Q => scal x y = true ∧ Q (.bl (!decide (x = y))) H

theorem dec_int {i j : Int} : decide (V.int i = V.int j) = (i == j) := by
  rw [Bool.eq_iff_iff]
  simp
theorem dec_bl {i j : Bool} : decide (V.bl i = V.bl j) = (i == j) := by
  rw [Bool.eq_iff_iff]
  simp
theorem dec_str {i j : Str} : decide (V.str i = V.str j) = (i == j) := by
  rw [Bool.eq_iff_iff]
  simp
theorem dec_byt {i j : Array UInt8} : decide (V.byt i = V.byt j) = (i.toList == j.toList) := by
  rw [Bool.eq_iff_iff]
  cases i
  cases j
  simp

section
variable {X : Cx} {a b c : Expr} {ta tb tc : TE} {pos : Pos}
theorem fin_bl {pins : List (Addr × Obj)} {σ : St} {H : Hp} {s : Shared} {Q : VK} {k k' : Bool} (I : Inv X pins σ H s) (q : Q (.bl k) H) (e : k = k') : EP X pins σ Q (.bool k') s := by
  subst e
  exact ⟨.bl k, H, I, rfl, q⟩
theorem op_eq : OpR X (compareOp .Eq) rEq := by
  intro pins s σ H x y v u Q I rx ry h
  obtain ⟨hs, q⟩ := h
  cases x with
  | non =>
    cases rx
    cases y with
    | non => cases ry; exact PySem.EqNone.eq_none_none (fin_bl I q (by simp))
    | bl j => cases ry; exact PySem.EqNone.eq_none_bool (fin_bl I q (by simp))
    | int j => obtain ⟨t', rfl⟩ := ry; exact PySem.EqNone.eq_none_int (fin_bl I q (by simp))
    | str j => obtain ⟨t', rfl⟩ := ry; exact PySem.EqNone.eq_none_str (fin_bl I q (by simp))
    | _ => exact absurd (show false = true from hs) Bool.false_ne_true
  | bl i =>
    cases rx
    cases y with
    | non => cases ry; exact PySem.EqNone.eq_bool_none (fin_bl I q (by simp))
    | bl j => cases ry; exact eq_bool (fin_bl I q dec_bl)
    | str j => obtain ⟨t', rfl⟩ := ry; exact PySem.EqMixed.eq_bool_str (fin_bl I q (by simp))
    | _ => exact absurd (show false = true from hs) Bool.false_ne_true
  | int i =>
    obtain ⟨t, rfl⟩ := rx
    cases y with
    | non => cases ry; exact PySem.EqNone.eq_int_none (fin_bl I q (by simp))
    | int j => obtain ⟨t', rfl⟩ := ry; exact eq_int (fin_bl I q dec_int)
    | str j => obtain ⟨t', rfl⟩ := ry; exact PySem.EqMixed.eq_int_str (fin_bl I q (by simp))
    | _ => exact absurd (show false = true from hs) Bool.false_ne_true
  | str i =>
    obtain ⟨t, rfl⟩ := rx
    cases y with
    | non => cases ry; exact PySem.EqNone.eq_str_none (fin_bl I q (by simp))
    | bl j => cases ry; exact PySem.EqMixed.eq_str_bool (fin_bl I q (by simp))
    | int j => obtain ⟨t', rfl⟩ := ry; exact PySem.EqMixed.eq_str_int (fin_bl I q (by simp))
    | str j => obtain ⟨t', rfl⟩ := ry; exact eq_str (fin_bl I q dec_str)
    | _ => exact absurd (show false = true from hs) Bool.false_ne_true
  | byt i =>
    obtain ⟨t, rfl⟩ := rx
    cases y with
    | byt j => obtain ⟨t', rfl⟩ := ry; exact PySem.W.eq_bytes (fin_bl I q dec_byt)
    | _ => exact absurd (show false = true from hs) Bool.false_ne_true
  | _ => cases y <;> exact absurd (show false = true from hs) Bool.false_ne_true
theorem op_ne : OpR X (compareOp .NotEq) rNe := by
  intro pins s σ H x y v u Q I rx ry h
  obtain ⟨hs, q⟩ := h
  cases x with
  | non =>
    cases rx
    cases y with
    | non => cases ry; exact PySem.EqNone.ne_none_none (fin_bl I q (by simp))
    | bl j => cases ry; exact PySem.EqNone.ne_none_bool (fin_bl I q (by simp))
    | int j => obtain ⟨t', rfl⟩ := ry; exact PySem.EqNone.ne_none_int (fin_bl I q (by simp))
    | str j => obtain ⟨t', rfl⟩ := ry; exact PySem.EqNone.ne_none_str (fin_bl I q (by simp))
    | _ => exact absurd (show false = true from hs) Bool.false_ne_true
  | bl i =>
    cases rx
    cases y with
    | non => cases ry; exact PySem.EqNone.ne_bool_none (fin_bl I q (by simp))
    | bl j => cases ry; exact ne_bool (fin_bl I q (congrArg not dec_bl))
    | str j => obtain ⟨t', rfl⟩ := ry; exact PySem.EqMixed.ne_bool_str (fin_bl I q (by simp))
    | _ => exact absurd (show false = true from hs) Bool.false_ne_true
  | int i =>
    obtain ⟨t, rfl⟩ := rx
    cases y with
    | non => cases ry; exact PySem.EqNone.ne_int_none (fin_bl I q (by simp))
    | int j => obtain ⟨t', rfl⟩ := ry; exact ne_int (fin_bl I q (congrArg not dec_int))
    | str j => obtain ⟨t', rfl⟩ := ry; exact PySem.EqMixed.ne_int_str (fin_bl I q (by simp))
    | _ => exact absurd (show false = true from hs) Bool.false_ne_true
  | str i =>
    obtain ⟨t, rfl⟩ := rx
    cases y with
    | non => cases ry; exact PySem.EqNone.ne_str_none (fin_bl I q (by simp))
    | bl j => cases ry; exact PySem.EqMixed.ne_str_bool (fin_bl I q (by simp))
    | int j => obtain ⟨t', rfl⟩ := ry; exact PySem.EqMixed.ne_str_int (fin_bl I q (by simp))
    | str j => obtain ⟨t', rfl⟩ := ry; exact ne_str (fin_bl I q (congrArg not dec_str))
    | _ => exact absurd (show false = true from hs) Bool.false_ne_true
  | byt i =>
    obtain ⟨t, rfl⟩ := rx
    cases y with
    | byt j => obtain ⟨t', rfl⟩ := ry; exact PySem.W.ne_bytes (fin_bl I q (congrArg not dec_byt))
    | _ => exact absurd (show false = true from hs) Bool.false_ne_true
  | _ => cases y <;> exact absurd (show false = true from hs) Bool.false_ne_true

theorem op_lt : OpR X (compareOp .Lt) (rI0 fun i j => .bl (decide (i < j))) := opB0 fun _ _ _ _ _ _ _ q => lt_int q
theorem op_le : OpR X (compareOp .LtE) (rI0 fun i j => .bl (decide (i ≤ j))) := opB0 fun _ _ _ _ _ _ _ q => le_int q
theorem op_gt : OpR X (compareOp .Gt) (rI0 fun i j => .bl (decide (j < i))) := opB0 fun _ _ _ _ _ _ _ q => gt_int q
theorem op_ge : OpR X (compareOp .GtE) (rI0 fun i j => .bl (decide (j ≤ i))) := opB0 fun _ _ _ _ _ _ _ q => ge_int q
theorem op_lt_str : OpR X (compareOp .Lt) (fun x y H Q => ∃ i j, x = .str i ∧ y = .str j ∧ Q (.bl (decide (i.cps.toList < j.cps.toList))) H) := by
  intro pins s σ H x y v u Q I rx ry h
  obtain ⟨i, j, rfl, rfl, q⟩ := h
  obtain ⟨t, rfl⟩ := rx
  obtain ⟨t', rfl⟩ := ry
  exact lt_str (fin_bl I q rfl)
/-- the one string within the other -/
theorem op_in_str : OpR X (compareOp .In) (fun x y H Q => ∃ i j, x = .str i ∧ y = .str j ∧ Q (.bl (!(Builtin.Str.occurrences j i 0 j.length 1).isEmpty)) H) := by
  intro pins s σ H x y v u Q I rx ry h
  obtain ⟨i, j, rfl, rfl, q⟩ := h
  obtain ⟨t, rfl⟩ := rx
  obtain ⟨t', rfl⟩ := ry
  exact in_str (fin_bl I q rfl)

/-- is None, is not None: the right side a value none -/
theorem op_isN : OpR X (compareOp .Is) (fun x y H Q => y = .non ∧ Q (.bl (decide (x = .non))) H) := by
  intro pins s σ H x y v u Q I rx ry h
  obtain ⟨rfl, q⟩ := h
  cases ry
  refine is_none_gen (fin_bl I q ?_)
  cases x <;> first
    | (cases rx; rfl)
    | (obtain ⟨t, rfl⟩ := rx; rfl)
theorem op_notN : OpR X (compareOp .IsNot) (fun x y H Q => y = .non ∧ Q (.bl (!decide (x = .non))) H) := by
  intro pins s σ H x y v u Q I rx ry h
  obtain ⟨rfl, q⟩ := h
  cases ry
  refine isnot_none_gen (fin_bl I q ?_)
  cases x <;> first
    | (cases rx; rfl)
    | (obtain ⟨t, rfl⟩ := rx; rfl)

theorem op_notin_str : OpR X (compareOp .NotIn) (fun x y H Q => ∃ i j, x = .str i ∧ y = .str j ∧ Q (.bl (!(!(Builtin.Str.occurrences j i 0 j.length 1).isEmpty))) H) := by
  intro pins s σ H x y v u Q I rx ry h
  obtain ⟨i, j, rfl, rfl, q⟩ := h
  obtain ⟨t, rfl⟩ := rx
  obtain ⟨t', rfl⟩ := ry
  exact notIn_str (fin_bl I q rfl)
/-- is, is not of two objects that are tracked lists or instances -/
def isObj : HO → Bool
  | .lst _ => true
  | .ins _ _ _ => true
  | _ => false
theorem obj_there {pins : List (Addr × Obj)} {s : Shared} {σ : St} {H : Hp} {a : Addr} {o : HO} (I : Inv X pins σ H s) (h : H a = some o) (p : isObj o = true) : ∃ ob, s.heap.get? a = some ob ∧ ob.cls ≠ .type "tuple" := by
  cases o with
  | lst xs =>
    obtain ⟨_, its, n, _, e⟩ : xs.length ≤ sizeLine ∧ ∃ (its : List Value) (n : Nat), Vals xs its ∧ s.heap.get? a = some { cls := .type "list", data := .seq its.toArray n } := I.hok a _ h
    exact ⟨_, e, (by show Value.type "list" ≠ .type "tuple"; decide +kernel)⟩
  | ins C dx fs =>
    have x := I.hok a _ h
    obtain ⟨_, _, _, e, _⟩ := x
    exact ⟨_, e, (by show Value.ref C ≠ .type "tuple"; exact fun z => by cases z)⟩
  | _ => exact absurd (show false = true from p) Bool.false_ne_true
theorem op_is_ref : OpR X (compareOp .Is) (fun x y H Q => ∃ a b oa ob, x = .ref a ∧ y = .ref b ∧ H a = some oa ∧ isObj oa = true ∧ H b = some ob ∧ isObj ob = true ∧ Q (.bl (decide (a = b))) H) := by
  intro pins s σ H x y v u Q I rx ry h
  obtain ⟨a, b, oa, ob, rfl, rfl, ha, pa, hb, pb, q⟩ := h
  cases rx
  cases ry
  obtain ⟨o1, e1, n1⟩ := obj_there I ha pa
  obtain ⟨o2, e2, _⟩ := obj_there I hb pb
  by_cases z : a = b
  · subst z
    exact wpAny_is_ref_self (fin_bl I q (by simp))
  · exact wpAny_is_ref_other z e1 e2 n1 (fin_bl I q (by simp [z]))
theorem op_isnot_ref : OpR X (compareOp .IsNot) (fun x y H Q => ∃ a b oa ob, x = .ref a ∧ y = .ref b ∧ H a = some oa ∧ isObj oa = true ∧ H b = some ob ∧ isObj ob = true ∧ Q (.bl (!decide (a = b))) H) := by
  intro pins s σ H x y v u Q I rx ry h
  obtain ⟨a, b, oa, ob, rfl, rfl, ha, pa, hb, pb, q⟩ := h
  cases rx
  cases ry
  obtain ⟨o1, e1, n1⟩ := obj_there I ha pa
  obtain ⟨o2, e2, _⟩ := obj_there I hb pb
  by_cases z : a = b
  · subst z
    exact wpAny_isNot_ref_self (fin_bl I q (by simp))
  · exact wpAny_isNot_ref_other z e1 e2 n1 (fin_bl I q (by simp [z]))

/-- two rules for one operation: by cases -/
theorem OpR.or {f : Value → Value → Sem Value} {r r' : R2} (h : OpR X f r) (h' : OpR X f r') : OpR X f (fun x y H Q => r x y H Q ∨ r' x y H Q) := by
  intro pins s σ H x y v u Q I rx ry q
  rcases q with q | q
  · exact h pins s σ H x y v u Q I rx ry q
  · exact h' pins s σ H x y v u Q I rx ry q

theorem nomark (b : Expr) {op : CmpOp} (h : op ≠ .In := by decide) (h2 : op ≠ .NotIn := by decide) : behindInMarks op b = false := by
  have e1 : (op == CmpOp.In) = false := by cases op <;> first | rfl | exact absurd rfl h
  have e2 : (op == CmpOp.NotIn) = false := by cases op <;> first | rfl | exact absurd rfl h2
  cases b <;> simp [behindInMarks, e1, e2]
/-- a comparison as a value; hm: nomark b, or (for in, not in) by with_unfolding_all rfl -/
theorem pe_cmpR {op : CmpOp} {r : R2} (ho : OpR X (compareOp op) r) (ha : PE X a ta) (hb : PE X b tb) (hm : behindInMarks op b = false) : PE X (.Compare a [op] [b] pos) (tOp r ta tb) := by
  intro pins s σ H Q I h
  exact wpAny_Compare1 (binT ha hb I h fun v u s2 x y H2 I2 rx ry q => ho pins s2 σ H2 x y v u Q I2 rx ry q) hm
/-- a reading of a value as a test -/
def tTest (t : TE) : TT := fun σ H Q => t σ H fun x H' => ∃ k, x = .bl k ∧ Q k H'
theorem pt_cmpR {op : CmpOp} {r : R2} (ho : OpR X (compareOp op) r) (ha : PE X a ta) (hb : PE X b tb) (hm : behindInMarks op b = false) : PT X (.Compare a [op] [b] pos) (tTest (tOp r ta tb)) := by
  intro pins s σ H Q I h
  refine wpAny_isTrue_Compare1 (thn (ha pins s σ H _ I h) fun v s1 ⟨x, H1, I1, r1, q1⟩ => thn (hb pins s1 σ H1 _ I1 q1) fun u s2 ⟨y, H2, I2, r2, q2⟩ =>
    thn (ho pins s2 σ H2 x y v u _ I2 r1 r2 q2) fun c s3 ⟨z, H3, I3, r3, k, e, q3⟩ => ?_) hm
  subst e
  cases r3
  exact wpAny_truthy_bool ⟨H3, I3, q3⟩
/-- a op1 b op2 c -/
def tChain (r r' : R2) (ta tb tc : TE) : TE := fun σ H Q => ta σ H fun x H1 => tb σ H1 fun y H2 => r x y H2 fun z H3 => ∃ k, z = .bl k ∧
  (if k = true then tc σ H3 fun w' H4 => r' y w' H4 Q else Q (.bl false) H3)
theorem pe_chain {op op' : CmpOp} {r r' : R2} (ho : OpR X (compareOp op) r) (ho' : OpR X (compareOp op') r') (ha : PE X a ta) (hb : PE X b tb) (hc : PE X c tc)
    (hm : lastMarks [op, op'] [b, c] = false := by with_unfolding_all rfl) : PE X (.Compare a [op, op'] [b, c] pos) (tChain r r' ta tb tc) := by
  intro pins s σ H Q I h
  refine Compare_chain (thn (ha pins s σ H _ I h) fun v s1 ⟨x, H1, I1, r1, q1⟩ => chain_link (thn (hb pins s1 σ H1 _ I1 q1) fun u s2 ⟨y, H2, I2, r2, q2⟩ =>
    thn (ho pins s2 σ H2 x y v u _ I2 r1 r2 q2) fun d s3 ⟨z, H3, I3, r3, k, e, q3⟩ => ?_)) hm
  subst e
  cases r3
  refine wpAny_truthy_bool ?_
  cases k with
  | false => exact ite_ff ⟨.bl false, H3, I3, rfl, q3⟩
  | true => exact ite_tt (chain_last (thn (hc pins s3 σ H3 _ I3 q3) fun w' s4 ⟨z', H4, I4, r4, q4⟩ => ho' pins s4 σ H4 y z' u w' Q I4 r2 r4 q4))
theorem pt_chain {op op' : CmpOp} {r r' : R2} (ho : OpR X (compareOp op) r) (ho' : OpR X (compareOp op') r') (ha : PE X a ta) (hb : PE X b tb) (hc : PE X c tc)
    (hm : lastMarks [op, op'] [b, c] = false := by with_unfolding_all rfl) : PT X (.Compare a [op, op'] [b, c] pos) (tTest (tChain r r' ta tb tc)) := by
  intro pins s σ H Q I h
  refine isTrue_chain (thn (ha pins s σ H _ I h) fun v s1 ⟨x, H1, I1, r1, q1⟩ => test_link (thn (hb pins s1 σ H1 _ I1 q1) fun u s2 ⟨y, H2, I2, r2, q2⟩ =>
    thn (ho pins s2 σ H2 x y v u _ I2 r1 r2 q2) fun d s3 ⟨z, H3, I3, r3, k, e, q3⟩ => ?_)) hm
  subst e
  cases r3
  refine wpAny_truthy_bool ?_
  cases k with
  | false =>
    obtain ⟨k', e', q'⟩ := q3
    cases e'
    exact ite_ff ⟨H3, I3, q'⟩
  | true =>
    refine ite_tt (test_last (thn (hc pins s3 σ H3 _ I3 q3) fun w' s4 ⟨z', H4, I4, r4, q4⟩ => thn (ho' pins s4 σ H4 y z' u w' _ I4 r2 r4 q4) fun d' s5 ⟨z2, H5, I5, r5, k2, e2, q5⟩ => ?_))
    subst e2
    cases r5
    exact wpAny_truthy_bool ⟨H5, I5, q5⟩

/-! ### truth -/
/-- a value's truth by the abstract heap -/
def TruV (K : PySem.W.Frag) (x : V) (H : Hp) (k : Bool) : Prop :=
  match x with
  | .non => k = false
  | .bl b => k = b
  | .int i => k = (i != 0)
  | .str y => y.length ≤ sizeLine ∧ k = ((y.length : Int) != 0)
  | .byt y => y.size ≤ sizeLine ∧ k = ((y.size : Int) != 0)
  | .ref p => (∃ xs, SqL K H p xs ∧ k = !xs.isEmpty) ∨ (∃ xs, SqT K H p xs ∧ k = !xs.isEmpty) ∨ ∃ kvs, H p = some (.dK kvs) ∧ k = !kvs.isEmpty
  | _ => False
theorem isEmpty_kv {κ : Type} {kvs : List (κ × V)} {vs : List (κ × Value)} (r : KV kvs vs) : (!vs.isEmpty) = !kvs.isEmpty := by
  cases r <;> rfl
theorem isEmpty_of {xs : List V} {its : List Value} (r : Vals xs its) : (!its.toArray.isEmpty) = !xs.isEmpty := by
  cases r <;> simp
theorem line63 : (sizeLine : Nat) < 2 ^ 63 := by rw [sizeLine_eq]; decide
theorem tru_ok : TruR X (fun x H Q => ∃ k, TruV X.K x H k ∧ Q k H) := by
  intro pins s σ H x v Q I rx h
  obtain ⟨k, e, q⟩ := h
  have hl := line63
  have hs : sizeLine = 16777216 := sizeLine_eq
  cases x with
  | non =>
    cases rx
    have e' : k = false := e
    subst e'
    exact truthy_none ⟨H, I, q⟩
  | bl b =>
    cases rx
    have e' : k = b := e
    subst e'
    exact wpAny_truthy_bool ⟨H, I, q⟩
  | int i =>
    obtain ⟨t, rfl⟩ := rx
    have e' : k = (i != 0) := e
    subst e'
    exact PySem.P.truthy_int ⟨H, I, q⟩
  | str y =>
    obtain ⟨t, rfl⟩ := rx
    obtain ⟨hy, e'⟩ : y.length ≤ sizeLine ∧ k = ((y.length : Int) != 0) := e
    subst e'
    exact PySem.P.truthy_str (by omega) ⟨H, I.tok _, q⟩
  | byt y =>
    obtain ⟨t, rfl⟩ := rx
    obtain ⟨hy, e'⟩ : y.size ≤ sizeLine ∧ k = ((y.size : Int) != 0) := e
    subst e'
    exact PySem.W.truthy_bytes (by omega) ⟨H, I.tok _, q⟩
  | ref p =>
    cases rx
    have e' : (∃ xs, SqL X.K H p xs ∧ k = !xs.isEmpty) ∨ (∃ xs, SqT X.K H p xs ∧ k = !xs.isEmpty) ∨ ∃ kvs, H p = some (.dK kvs) ∧ k = !kvs.isEmpty := e
    rcases e' with ⟨xs, hx, e'⟩ | ⟨xs, hx, e'⟩ | ⟨kvs, hx, e'⟩
    · subst e'
      obtain ⟨its, r, pl, hz⟩ := I.list hx
      have hlen := r.length
      exact wpAny_truthy_list pl.isList (by simp only [List.size_toArray]; omega) ⟨H, I.tok _, by rw [isEmpty_of r]; exact q⟩
    · subst e'
      obtain ⟨its, r, pl, hz⟩ := I.tuple hx
      have hlen := r.length
      exact truthy_tuple pl (by simp only [List.size_toArray]; omega) ⟨H, I.tok _, by rw [isEmpty_of r]; exact q⟩
    · subst e'
      obtain ⟨hz, hS, vs, r, m⟩ : kvs.length ≤ sizeLine ∧ (p == sysModules) = false ∧ ∃ vs, KV kvs vs ∧ s.heap.DictOf (mixKind X.prog X.w) p vs := I.hok p _ hx
      have hlen : kvs.length = vs.length := Paired.length r
      exact wpAny_truthy_dict hS m (by omega) ⟨H, I.tok _, by rw [isEmpty_kv r]; exact q⟩
  | _ => exact (show False from e).elim
/-- any expression whose test is its value's truth (a name, a call, a subscript, a field ..: he by fun _ => rfl) -/
theorem pt_truth (ha : PE X a ta) (he : ∀ whole, isTrue a X.env whole = (do let v ← whole; standAt a.pos; holding [v] (truthy v))) :
    PT X a (fun σ H Q => ta σ H fun x H' => ∃ k, TruV X.K x H' k ∧ Q k H') := by
  intro pins s σ H Q I h
  exact isTrue_plain (thn (ha pins s σ H _ I h) fun v s1 ⟨x, H1, I1, r1, q1⟩ => tru_ok pins s1 σ H1 x v Q I1 r1 q1) (he _)

/-! ### strs and bytes -/
theorem pe_byt {x : List UInt8} {k : Nat} : PE X (.Constant (.bytes x) k pos) (fun _ H Q => Q (.byt x.toArray) H) := fun _ _ _ H _ I h => PySem.W.Constant_bytes ⟨.byt x.toArray, H, I.tok _, ⟨_, rfl⟩, h⟩
theorem op_add_str : OpR X (binaryOp .Add) (fun x y H Q => ∃ i j, x = .str i ∧ y = .str j ∧ i.length + j.length ≤ sizeLine ∧ Q (.str (i ++ j)) H) := by
  intro pins s σ H x y v u Q I rx ry h
  obtain ⟨i, j, rfl, rfl, hz, q⟩ := h
  obtain ⟨t, rfl⟩ := rx
  obtain ⟨t', rfl⟩ := ry
  exact add_str (fun t' tk => ⟨.str (i ++ j), H, I.tok _, ⟨_, rfl⟩, q⟩) hz
theorem iop_add_str : OpR X (inplaceOp .Add) (fun x y H Q => ∃ i j, x = .str i ∧ y = .str j ∧ i.length + j.length ≤ sizeLine ∧ Q (.str (i ++ j)) H) := by
  intro pins s σ H x y v u Q I rx ry h
  obtain ⟨i, j, rfl, rfl, hz, q⟩ := h
  obtain ⟨t, rfl⟩ := rx
  obtain ⟨t', rfl⟩ := ry
  exact iadd_str (fun t' tk => ⟨.str (i ++ j), H, I.tok _, ⟨_, rfl⟩, q⟩) hz
theorem op_add_byt : OpR X (binaryOp .Add) (fun x y H Q => ∃ i j, x = .byt i ∧ y = .byt j ∧ i.size + j.size ≤ 16777216 ∧ Q (.byt (i ++ j)) H) := by
  intro pins s σ H x y v u Q I rx ry h
  obtain ⟨i, j, rfl, rfl, hz, q⟩ := h
  obtain ⟨t, rfl⟩ := rx
  obtain ⟨t', rfl⟩ := ry
  exact PySem.W.KBy.add_bytes hz (fun t' tk => ⟨.byt (i ++ j), H, I.tok _, ⟨_, rfl⟩, q⟩)

def PlainIxT (b : Expr) : Prop := ∀ o i, subscripted b false o i = operate [o, i] (getItem o i)
/-- s[i], 0 ≤ i < len -/
theorem pe_item_str (ha : PE X a ta) (hb : PE X b tb) (hs : PlainIxT b) :
    PE X (.Subscript a b pos) (tOp (fun x y H Q => ∃ z i c, x = .str z ∧ y = .int i ∧ 0 ≤ i ∧ i < 2 ^ 63 ∧ i < z.length ∧ z.cps[i.toNat]? = some c ∧ Q (.str ⟨#[c]⟩) H) ta tb) := by
  intro pins s σ H Q I h
  refine Subscript_ (binT ha hb I h fun v u s2 x y H2 I2 rx ry q => ?_)
  obtain ⟨z, i, c, rfl, rfl, h0, h63, h1, hc, q⟩ := q
  obtain ⟨t, rfl⟩ := rx
  obtain ⟨t', rfl⟩ := ry
  have e : seqIndex? i z.length = some i.toNat := PySem.StrLaws.seqIndex_nonneg h0 h1
  exact tail_any (typeIs_str s2 z t) slot_str_getitem.lookup (getItem_str (c := c) (by
    have e1 : decide (i < -(2 ^ 63 : Int)) = false := decide_eq_false (by omega)
    have e2 : decide (i ≥ 2 ^ 63) = false := decide_eq_false (by omega)
    rw [e1, e2] <;> rfl) (by rw [e]; exact hc) ⟨.str ⟨#[c]⟩, H2, I2.tok _, ⟨_, rfl⟩, q⟩) (hs _ _)
/-- b[i], 0 ≤ i < len -/
theorem pe_item_byt (ha : PE X a ta) (hb : PE X b tb) (hs : PlainIxT b) :
    PE X (.Subscript a b pos) (tOp (fun x y H Q => ∃ (z : List UInt8) (i : Int), x = .byt z.toArray ∧ y = .int i ∧ z.length ≤ sizeLine ∧ 0 ≤ i ∧ i < z.length ∧ Q (.int ((z.getD i.toNat 0).toNat : Nat)) H) ta tb) := by
  intro pins s σ H Q I h
  refine Subscript_ (binT ha hb I h fun v u s2 x y H2 I2 rx ry q => ?_)
  obtain ⟨z, i, rfl, rfl, hz, h0, h1, q⟩ := q
  obtain ⟨t, rfl⟩ := rx
  obtain ⟨t', rfl⟩ := ry
  have hl : sizeLine = 16777216 := sizeLine_eq
  exact tail_any (PySem.W.typeIs_bytes s2 z.toArray t) PySem.W.FB.slot_bytes_getitem.lookup (PySem.W.getItem_bytes (by omega) h0 h1 ⟨.int ((z.getD i.toNat 0).toNat : Nat), H2, I2.tok _, ⟨_, rfl⟩, q⟩) (hs _ _)

/-! ### scalar builtins, by CallR -/
theorem vals1 {x : V} {us : List Value} (r : Vals [x] us) : ∃ u, us = [u] ∧ RelV x u := by
  cases r with
  | cons r1 r2 => cases r2; exact ⟨_, rfl, r1⟩
theorem vals2 {x y : V} {us : List Value} (r : Vals [x, y] us) : ∃ u w', us = [u, w'] ∧ RelV x u ∧ RelV y w' := by
  cases r with
  | cons r1 r2 =>
    cases r2 with
    | cons r3 r4 => cases r4; exact ⟨_, _, rfl, r1, r3⟩
theorem call_abs : CallR X (.builtin "abs") (fun xs H Q => ∃ i, xs = [.int i] ∧ Q (.int (if i < 0 then -i else i)) H) := by
  intro pins s σ H xs us Q I r h
  obtain ⟨i, rfl, q⟩ := h
  obtain ⟨u, rfl, t, rfl⟩ := vals1 r
  exact call_abs_int fun u tk => ⟨.int (if i < 0 then -i else i), H, I.tok _, ⟨_, rfl⟩, q⟩
theorem call_max2 (hc : X.calm = true) : CallR X (.builtin "max") (fun xs H Q => ∃ i j, xs = [.int i, .int j] ∧ Q (.int (if j > i then j else i)) H) := by
  intro pins s σ H xs us Q I r h
  obtain ⟨i, j, rfl, q⟩ := h
  obtain ⟨u, w', rfl, ⟨t, rfl⟩, ⟨t', rfl⟩⟩ := vals2 r
  refine max_two_ints (I.ok.hd hc) fun h' tk k => ⟨_, H, I.kept k, ?_, q⟩
  by_cases hj : j > i
  · rw [if_pos hj, if_pos hj]; exact ⟨_, rfl⟩
  · rw [if_neg hj, if_neg hj]; exact ⟨_, rfl⟩
theorem call_min2 (hc : X.calm = true) : CallR X (.builtin "min") (fun xs H Q => ∃ i j, xs = [.int i, .int j] ∧ Q (.int (if j < i then j else i)) H) := by
  intro pins s σ H xs us Q I r h
  obtain ⟨i, j, rfl, q⟩ := h
  obtain ⟨u, w', rfl, ⟨t, rfl⟩, ⟨t', rfl⟩⟩ := vals2 r
  refine min_two_ints (I.ok.hd hc) fun h' tk k => ⟨_, H, I.kept k, ?_, q⟩
  by_cases hj : j < i
  · rw [if_pos hj, if_pos hj]; exact ⟨_, rfl⟩
  · rw [if_neg hj, if_neg hj]; exact ⟨_, rfl⟩
theorem call_int1 : CallR X (.type "int") (fun xs H Q => (∃ i, xs = [.int i] ∧ Q (.int i) H) ∨ ∃ k, xs = [.bl k] ∧ Q (.int (if k then 1 else 0)) H) := by
  intro pins s σ H xs us Q I r h
  rcases h with ⟨i, rfl, q⟩ | ⟨k, rfl, q⟩
  · obtain ⟨u, rfl, t, rfl⟩ := vals1 r
    exact call_int_int ⟨.int i, H, I, ⟨_, rfl⟩, q⟩
  · obtain ⟨u, rfl, r1⟩ := vals1 r
    cases r1
    exact call_int_bool ⟨.int (if k then 1 else 0), H, I.tok _, ⟨_, rfl⟩, q⟩
theorem call_bool1 : CallR X (.type "bool") (fun xs H Q => (∃ i, xs = [.int i] ∧ Q (.bl (i != 0)) H) ∨ ∃ k, xs = [.bl k] ∧ Q (.bl k) H) := by
  intro pins s σ H xs us Q I r h
  rcases h with ⟨i, rfl, q⟩ | ⟨k, rfl, q⟩
  · obtain ⟨u, rfl, t, rfl⟩ := vals1 r
    exact call_bool_int ⟨.bl (i != 0), H, I, rfl, q⟩
  · obtain ⟨u, rfl, r1⟩ := vals1 r
    cases r1
    exact call_bool_bool ⟨.bl k, H, I, rfl, q⟩
theorem call_str_int : CallR X (.type "str") (fun xs H Q => ∃ i, xs = [.int i] ∧ i.natAbs.log2 < 1920 ∧ Q (.str (toString i)) H) := by
  intro pins s σ H xs us Q I r h
  obtain ⟨i, rfl, hz, q⟩ := h
  obtain ⟨u, rfl, t, rfl⟩ := vals1 r
  exact PySem.P.str_of_int hz ⟨.str _, H, I.tok _, ⟨_, rfl⟩, q⟩
theorem call_ord : CallR X (.builtin "ord") (fun xs H Q => ∃ x, xs = [.str x] ∧ x.length = 1 ∧ Q (.int (x.cps.getD 0 0 : Nat)) H) := by
  intro pins s σ H xs us Q I r h
  obtain ⟨x, rfl, hz, q⟩ := h
  obtain ⟨u, rfl, t, rfl⟩ := vals1 r
  exact ord_of_one hz ⟨.int _, H, I.tok _, ⟨_, rfl⟩, q⟩
theorem call_chr : CallR X (.builtin "chr") (fun xs H Q => ∃ i, xs = [.int i] ∧ 0 ≤ i ∧ i ≤ 1114111 ∧ Q (.str ⟨#[i.toNat]⟩) H) := by
  intro pins s σ H xs us Q I r h
  obtain ⟨i, rfl, h0, h1, q⟩ := h
  obtain ⟨u, rfl, t, rfl⟩ := vals1 r
  exact chr_of_range h0 h1 ⟨.str _, H, I.tok _, ⟨_, rfl⟩, q⟩
/-- len of a str, a bytes, a list, a tuple -/
def LenV (K : PySem.W.Frag) (x : V) (H : Hp) (n : Nat) : Prop :=
  match x with
  | .str y => y.length ≤ sizeLine ∧ n = y.length
  | .byt y => y.size ≤ sizeLine ∧ n = y.size
  | .ref p => (∃ xs, SqL K H p xs ∧ n = xs.length) ∨ ∃ xs, SqT K H p xs ∧ n = xs.length
  | _ => False
theorem call_len : CallR X (.builtin "len") (fun xs H Q => ∃ x n, xs = [x] ∧ LenV X.K x H n ∧ Q (.int n) H) := by
  intro pins s σ H xs us Q I r h
  obtain ⟨x, n, rfl, e, q⟩ := h
  obtain ⟨u, rfl, rx⟩ := vals1 r
  have hl := line63
  have hs : sizeLine = 16777216 := sizeLine_eq
  cases x with
  | str y =>
    obtain ⟨t, rfl⟩ := rx
    obtain ⟨hy, e'⟩ : y.length ≤ sizeLine ∧ n = y.length := e
    subst e'
    exact len_str (by omega) ⟨.int _, H, I.tok _, ⟨_, rfl⟩, q⟩
  | byt y =>
    obtain ⟨t, rfl⟩ := rx
    obtain ⟨hy, e'⟩ : y.size ≤ sizeLine ∧ n = y.size := e
    subst e'
    exact PySem.W.len_bytes (by omega) ⟨.int _, H, I.tok _, ⟨_, rfl⟩, q⟩
  | ref p =>
    cases rx
    have e' : (∃ xs, SqL X.K H p xs ∧ n = xs.length) ∨ ∃ xs, SqT X.K H p xs ∧ n = xs.length := e
    rcases e' with ⟨xs, hx, e'⟩ | ⟨xs, hx, e'⟩
    · subst e'
      obtain ⟨its, r', pl, hz⟩ := I.list hx
      have hlen := r'.length
      exact Calls.call_len_list pl.isList (by simp only [List.size_toArray]; omega) ⟨.int xs.length, H, I.tok _, ⟨_, by simp only [List.size_toArray]; rw [hlen]⟩, q⟩
    · subst e'
      obtain ⟨its, r', pl, hz⟩ := I.tuple hx
      have hlen := r'.length
      exact len_tuple pl (by simp only [List.size_toArray]; omega) ⟨.int xs.length, H, I.tok _, ⟨_, by simp only [List.size_toArray]; rw [hlen]⟩, q⟩
  | _ => exact (show False from e).elim
/-- divmod: a new tuple -/
theorem call_divmod : CallR X (.builtin "divmod") (fun xs H Q => ∃ i j, xs = [.int i, .int j] ∧ CDiv i j ∧ ∀ p, H p = none → Q (.ref p) (upd H p (.tup [.int (i / j), .int (i % j)]))) := by
  intro pins s σ H xs us Q I r h
  obtain ⟨i, j, rfl, ⟨h1, h2⟩, q⟩ := h
  obtain ⟨u, w', rfl, ⟨t, rfl⟩, ⟨t', rfl⟩⟩ := vals2 r
  refine divmod_int (by omega) ?_ (.inl (PyProof.noPylong_small (by omega)))
  rw [Int.fdiv_eq_ediv_of_nonneg i (by omega), Int.fmod_eq_emod_of_nonneg i (by omega)]
  have hn : H s.heap.objs.size = none := I.hok.fresh (Nat.le_refl _)
  refine ⟨.ref s.heap.objs.size, _, ?_, rfl, q _ hn⟩
  refine I.laid (fun b o e => Heap.get?_push_of_some _ e) (Nat.le_refl _) ⟨by simp only [List.length_cons, List.length_nil]; rw [sizeLine_eq]; decide, [.int (i / j) s.toks, .int (i % j) (s.toks + 1)], .cons ⟨_, rfl⟩ (.cons ⟨_, rfl⟩ .nil), ?_⟩
  exact ⟨_, Heap.get?_push_size s.heap rfl, rfl, 0, rfl⟩
end
end L2

namespace L2
open PySem PySem.Spec PyProof.Rows

/-! ### an instance, its attributes a map -/
structure ObjM (h : Heap) (x dx C : Addr) (mA : Str → Option Value) : Prop where
  obj : h.get? x = some (PySem.W.instObj C dx)
  ns : h.Ns1 dx mA
  ne : dx ≠ x

theorem lookIn_ns {h : Heap} {dx : Addr} {mA : Str → Option Value} (n : h.Ns1 dx mA) : ∃ od, h.get? dx = some od ∧ ∀ name, PySem.W.lookIn name od = some (mA name) := by
  obtain ⟨o, es, ep, ho, hd, hk, _, hm⟩ := n
  refine ⟨o, ho, fun name => ?_⟩
  have e := hm name
  unfold nsFind findBy at e
  rw [← Array.find?_toList] at e
  unfold PySem.W.lookIn
  rw [hd]
  dsimp only
  split
  · rename_i y q
    rw [q] at e
    exact congrArg some e
  · rename_i q
    rw [q] at e
    have a : es.toList.any (·.refKey) = false := by
      rw [List.any_eq_false]
      intro y hy
      obtain ⟨z, t, hkey⟩ := hk y (Array.mem_toList_iff.mp hy)
      simp [DictEntry.refKey, hkey]
    have a' : ¬ es.toList.any (·.refKey) = true := by rw [a]; exact Bool.false_ne_true
    rw [if_neg a']
    exact congrArg some e

theorem ObjM.look {h : Heap} {x dx C : Addr} {mA : Str → Option Value} (I : ObjM h x dx C mA) : ∃ od, PySem.W.InstAt h x (PySem.W.instObj C dx) C (some od) ∧ ∀ name, PySem.W.lookIn name od = some (mA name) :=
  let ⟨od, ho, hl⟩ := lookIn_ns I.ns
  ⟨od, ⟨I.obj, rfl, rfl, ho⟩, hl⟩

section
variable {prog : Program} {w : World} {A : Around} {E : Value → Shared → Prop} {s : Shared} {K : PySem.W.Frag} {x dx C f : Addr} {mA : Str → Option Value} {name : Str} {v : Value}

theorem get_map {expr : Bool} {Q : Value → Shared → Prop} (X : K.In s.heap) (I : ObjM s.heap x dx C mA) (hg : PySem.W.plainGet K C name = true) (hh : PySem.W.hasDictIn K C = true)
    (ha : PySem.W.findIn K (.ref C) name = some none) (hv : mA name = some v) (hv' : PySem.W.handedIn v = true) (h : Q v { s with toks := s.toks + 1 }) :
    wpAny (model prog w) A (getAttr (.ref x) name expr) Q E s := by
  obtain ⟨od, J, hl⟩ := I.look
  exact PySem.W.get_value X J (PySem.W.plainGet_of hg).1 (PySem.W.findObj_own hh ha rfl (by rw [hl, hv])) hv' h

theorem get_const {expr : Bool} {a : Value} {Q : Value → Shared → Prop} (X : K.In s.heap) (I : ObjM s.heap x dx C mA) (hg : PySem.W.plainGet K C name = true) (hh : PySem.W.hasDictIn K C = true)
    (ha : PySem.W.findIn K (.ref C) name = some (some a)) (hn : PySem.W.specialIn K a "__get__" = some none) (hc : PySem.W.copiedNames.contains name = false) (hv : mA name = none) (hv' : PySem.W.handedIn a = true)
    (h : Q a { s with toks := s.toks + 1 }) : wpAny (model prog w) A (getAttr (.ref x) name expr) Q E s := by
  obtain ⟨od, J, hl⟩ := I.look
  exact PySem.W.get_value X J (PySem.W.plainGet_of hg).1 (PySem.W.findObj_cls hh ha hn hv' hc (by rw [hl, hv])) hv' h

theorem get_meth {pl : Sem Bool} {Q : Value × List Value → Shared → Prop} (X : K.In s.heap) (I : ObjM s.heap x dx C mA) (hg : PySem.W.plainGet K C name = true)
    (hf : PySem.W.findIn K (.ref C) name = some (some (.ref f))) (ht : PySem.W.isFn K (.ref f) = true) (hv : mA name = none) (h : Q (.ref f, [.ref x]) s) :
    wpAny (model prog w) A (getMethod (.ref x) name pl) Q E s := by
  obtain ⟨od, J, hl⟩ := I.look
  exact PySem.W.method_fn X J (PySem.W.plainGet_of hg).1 (PySem.W.plainGet_of hg).2 hf (beq_iff_eq.mp ht) (by show (PySem.W.lookIn name od).map (·.isSome) = some false; rw [hl, hv]; rfl) h

theorem set_map {ns : List Str} {Q : Unit → Shared → Prop} (X : K.In s.heap) (I : ObjM s.heap x dx C mA)
    (hs : PySem.W.findIn K (.ref C) "__setattr__" = some (some (.builtin "object.__setattr__"))) (hp : PySem.W.plainOver K C = true) (ht : PySem.W.takerIn K C name = some none) (hh : PySem.W.hasDictIn K C = true)
    (hw : PySem.Within mA ns) (hsz : ns.length ≤ sizeLine)
    (h : ∀ h', ObjM h' x dx C (fun y => if y = name then some v else mA y) → Heap.SameBut dx s.heap h' → Q () { s with heap := h', toks := s.toks + 2 }) :
    wpAny (model prog w) A (setAttr (.ref x) name v) Q E s := by
  obtain ⟨od, J, hl⟩ := I.look
  refine PySem.W.set_plain X J hs (PySem.W.osa_open (s := { s with toks := s.toks + 1 }) (r := none) X J hp ht fun b => ?_)
  obtain ⟨cd, hc, hd'⟩ := PySem.W.any_some hh
  have hx : s.heap.get? x = some ⟨.ref C, some dx, .plain, #[]⟩ := I.obj
  refine wpAny_bind (wpAny_pure (wpAny_bind (wpAny_bind (wpAny_loadPart hx (wpAny_bind (PySem.W.Looks.here (s := { s with toks := s.toks + 1 }) (PySem.W.looks_clsIn X hc) ?_))))))
  rw [hd']
  refine wpAny_pure (a := some dx) (wpAny_bind (wpAny_pure (wpAny_bind ?_)))
  refine wpAny_nsSet1 (s := { s with toks := s.toks + 1 }) I.ns fun h' hn2 hs2 => ?_
  obtain ⟨oD, esD, epD, hoD, hdD, hcD⟩ := hn2.count (PySem.Within.cons name v hw)
  refine wpAny_bind (wpAny_lookBehind hoD (by rw [hdD]; exact pastItsLine_dict (Nat.le_trans hcD (by rw [List.length_cons]; omega))) ?_)
  exact wpAny_pure (h _ ⟨(hs2.2 _ (Ne.symm I.ne)).trans I.obj, hn2, I.ne⟩ hs2)

/-- C(..): the dict at the heap's end, the instance behind it; then its __init__ -/
theorem make_map {R : Result → Shared → Prop} {vs : List Value} {kw : List (Str × Value)} (X : K.In s.heap) (hm : PySem.W.makesIn K C = true)
    (hi : PySem.W.findIn K (.ref C) "__init__" = some (some (.ref f))) (hf : PySem.W.typeIn K (.ref f) = some (.type "function"))
    (h : codeAny (model prog w) (A.under (.builtin "type.__call__" ⟨.ref C :: vs, kw⟩)) (.call (.ref f) ⟨.ref (s.heap.objs.size + 1) :: vs, kw⟩) (PySem.W.InitBack (s.heap.objs.size + 1) R)
      { s with heap := (s.heap.push PySem.W.emptyDict).push (PySem.W.instObj C s.heap.objs.size) }) :
    codeAny (model prog w) A (.call (.ref C) ⟨vs, kw⟩) R s := by
  obtain ⟨hh, g, d, t, os⟩ := s
  exact PySem.W.make_core (PySem.W.makes_of X hm) (PySem.W.looks_findIn X hi) (fun self => PySem.W.bind_fn X self hf) (.inl rfl) h
/-- C() where there is no __init__ but object's -/
theorem make_map0 {R : Result → Shared → Prop} (X : K.In s.heap) (hm : PySem.W.makesIn K C = true)
    (hi : PySem.W.findIn K (.ref C) "__init__" = some (some (.builtin "object.__init__")))
    (hb : ∀ self, PySem.W.Looks (model prog w) s.heap (bindSpecial (.builtin "object.__init__") self) (.builtin "object.__init__", [self]))
    (h : codeAny (model prog w) (A.under (.builtin "type.__call__" ⟨[.ref C], []⟩)) (.call (.builtin "object.__init__") ⟨[.ref (s.heap.objs.size + 1)], []⟩) (PySem.W.InitBack (s.heap.objs.size + 1) R)
      { s with heap := (s.heap.push PySem.W.emptyDict).push (PySem.W.instObj C s.heap.objs.size) }) :
    codeAny (model prog w) A (.call (.ref C) ⟨[], []⟩) R s := by
  obtain ⟨hh, g, d, t, os⟩ := s
  exact PySem.W.make_core (PySem.W.makes_of X hm) (PySem.W.looks_findIn X hi) hb (.inr ⟨rfl, rfl⟩) h
end

/-! ### the attributes as a list of pairs -/
def putF (f : Str) (v : V) : List (Str × V) → List (Str × V)
  | [] => [(f, v)]
  | (g, x) :: r => if g = f then (g, v) :: r else (g, x) :: putF f v r
theorem lookup_putF (f g : Str) (v : V) : ∀ fs : List (Str × V), (putF f v fs).lookup g = if g = f then some v else fs.lookup g
  | [] => by
    show List.lookup g [(f, v)] = _
    by_cases h : g = f
    · have hb : (g == f) = true := beq_iff_eq.mpr h
      simp only [List.lookup, hb, if_pos h]
    · have hb : (g == f) = false := beq_eq_false_iff_ne.mpr h
      simp only [List.lookup, hb, if_neg h]
  | (k, x) :: r => by
    have ih := lookup_putF f g v r
    rw [show putF f v ((k, x) :: r) = (if k = f then (k, v) :: r else (k, x) :: putF f v r) from rfl]
    by_cases hk : k = f
    · rw [if_pos hk]
      by_cases h : g = k
      · have hb : (g == k) = true := beq_iff_eq.mpr h
        simp only [List.lookup, hb, if_pos (h.trans hk)]
      · have hb : (g == k) = false := beq_eq_false_iff_ne.mpr h
        simp only [List.lookup, hb, if_neg (fun e : g = f => h (e.trans hk.symm))]
    · rw [if_neg hk]
      by_cases h : g = k
      · have hb : (g == k) = true := beq_iff_eq.mpr h
        simp only [List.lookup, hb, if_neg (fun e : g = f => hk (h.symm.trans e))]
      · have hb : (g == k) = false := beq_eq_false_iff_ne.mpr h
        simp only [List.lookup, hb]
        exact ih
theorem keys_putF (f : Str) (v : V) : ∀ fs : List (Str × V), f ∈ (putF f v fs).map (·.1) ∧ ∀ g, g ∈ fs.map (·.1) → g ∈ (putF f v fs).map (·.1)
  | [] => ⟨by simp [putF], fun g h => by simp at h⟩
  | (k, x) :: r => by
    obtain ⟨i1, i2⟩ := keys_putF f v r
    rw [show putF f v ((k, x) :: r) = (if k = f then (k, v) :: r else (k, x) :: putF f v r) from rfl]
    by_cases hk : k = f
    · rw [if_pos hk]
      subst hk
      exact ⟨by simp, fun g h => by simpa using h⟩
    · rw [if_neg hk]
      refine ⟨?_, fun g h => ?_⟩
      · rw [List.map_cons]
        exact List.mem_cons_of_mem _ i1
      · rw [List.map_cons] at h ⊢
        rcases List.mem_cons.mp h with e | e
        · exact List.mem_cons.mpr (.inl e)
        · exact List.mem_cons_of_mem _ (i2 g e)
theorem length_putF (f : Str) (v : V) : ∀ fs : List (Str × V), (putF f v fs).length ≤ fs.length + 1
  | [] => by simp [putF]
  | (k, x) :: r => by
    have ih := length_putF f v r
    rw [show putF f v ((k, x) :: r) = (if k = f then (k, v) :: r else (k, x) :: putF f v r) from rfl]
    by_cases hk : k = f
    · rw [if_pos hk, List.length_cons, List.length_cons]; omega
    · rw [if_neg hk, List.length_cons, List.length_cons]; omega

theorem RelO.some_of {v : V} {o : Option Value} (r : RelO (some v) o) : ∃ u, o = some u ∧ RelV v u := by
  cases o with
  | none => exact (show False from r).elim
  | some u => exact ⟨u, rfl, r⟩
theorem RelO.none_of {o : Option Value} (r : RelO none o) : o = none := by
  cases o with
  | none => rfl
  | some u => exact (show False from r).elim
theorem handed_of {v : V} {u : Value} (r : RelV v u) : PySem.W.handedIn u = true := by
  cases v with
  | non => cases (show u = Value.none from r); rfl
  | bl b => cases (show u = Value.bool b from r); rfl
  | int i => obtain ⟨t, e⟩ := (show ∃ t, u = Value.int i t from r); cases e; rfl
  | str x => obtain ⟨t, e⟩ := (show ∃ t, u = Value.str x t from r); cases e; rfl
  | byt b => obtain ⟨t, e⟩ := (show ∃ t, u = Value.bytes b t from r); cases e; rfl
  | flt b => obtain ⟨t, e⟩ := (show ∃ t, u = Value.float b t from r); cases e; rfl
  | ref a => cases (show u = Value.ref a from r); rfl
  | ty n => cases (show u = Value.type n from r); rfl

section
variable {P : Program} {w : World} {H H' : Hp} {h h' : Heap} {a C dx : Addr} {fs fs' : List (Str × V)}
theorem ins_get (hok : HOk P w H h) (e : H a = some (.ins C dx fs)) : ∃ mA, ObjM h a dx C mA ∧ (∀ f, RelO (fs.lookup f) (mA f)) ∧ PySem.Within mA (fs.map (·.1)) ∧ fs.length ≤ 1000 ∧ H dx = some (.own a) := by
  obtain ⟨d, z, ne, ob, mA, n, r, q⟩ := (show ObjOk P w H h a (.ins C dx fs) from hok a _ e)
  exact ⟨mA, ⟨ob, n, ne⟩, r, q, z, d⟩
end

/-! ### what of the text a class must have -/
structure Cls (K : PySem.W.Frag) (C : Addr) : Prop where
  pg : PySem.W.plainGet K C Str.empty = true
  hd : PySem.W.hasDictIn K C = true
  po : PySem.W.plainOver K C = true
  sa : PySem.W.findIn K (.ref C) "__setattr__" = some (some (.builtin "object.__setattr__"))
theorem Cls.get {K : PySem.W.Frag} {C : Addr} (c : Cls K C) (f : Str) : PySem.W.plainGet K C f = true := c.pg
/-- no class of it has the name -/
def NoAttr (K : PySem.W.Frag) (C : Addr) (f : Str) : Prop := PySem.W.findIn K (.ref C) f = some none
theorem NoAttr.taker {K : PySem.W.Frag} {C : Addr} {f : Str} (n : NoAttr K C f) : PySem.W.takerIn K C f = some none := by
  unfold PySem.W.takerIn
  rw [show PySem.W.findIn K (.ref C) f = some none from n]
  rfl
/-- a constant of the class -/
structure Con (K : PySem.W.Frag) (C : Addr) (f : Str) (v : V) (u : Value) : Prop where
  at_ : PySem.W.findIn K (.ref C) f = some (some u)
  rel : RelV v u
  get : PySem.W.specialIn K u "__get__" = some none
  cp : PySem.W.copiedNames.contains f = false
/-- a method: a plain def of the class or of one above it -/
structure Meth (K : PySem.W.Frag) (C : Addr) (m : Str) (f : Addr) : Prop where
  at_ : PySem.W.findIn K (.ref C) m = some (some (.ref f))
  fn : PySem.W.isFn K (.ref f) = true
  kp : PySem.W.keepIn K (.ref f) = true

section
variable {X : Cx} {pins : List (Addr × Obj)} {σ : St} {H : Hp} {s : Shared} {a C dx : Addr} {fs : List (Str × V)} {f : Str} {v : V} {A : Around} {E : Value → Shared → Prop}

theorem getattr_ok {b : Bool} {Q : Value → Shared → Prop} (I : Inv X pins σ H s) (e : H a = some (.ins C dx fs)) (c : Cls X.K C) (n : NoAttr X.K C f) (l : fs.lookup f = some v)
    (h : ∀ u s', Inv X pins σ H s' → RelV v u → Q u s') : wpAny (model X.prog X.w) A (getAttr (.ref a) f b) Q E s := by
  obtain ⟨mA, O, r, _, _, _⟩ := ins_get I.hok e
  obtain ⟨u, hu, ru⟩ := RelO.some_of (v := v) (o := mA f) (by rw [← l]; exact r f)
  exact get_map I.kIn O (c.get f) c.hd n hu (handed_of ru) (h u _ (I.tok _) ru)

theorem getcon_ok {b : Bool} {u : Value} {Q : Value → Shared → Prop} (I : Inv X pins σ H s) (e : H a = some (.ins C dx fs)) (c : Cls X.K C) (k : Con X.K C f v u) (l : fs.lookup f = none)
    (h : ∀ s', Inv X pins σ H s' → Q u s') : wpAny (model X.prog X.w) A (getAttr (.ref a) f b) Q E s := by
  obtain ⟨mA, O, r, _, _, _⟩ := ins_get I.hok e
  have hn : mA f = none := RelO.none_of (by rw [← l]; exact r f)
  exact get_const I.kIn O (c.get f) c.hd k.at_ k.get k.cp hn (handed_of k.rel) (h _ (I.tok _))

theorem getmeth_ok {m : Str} {g : Addr} {pl : Sem Bool} {Q : Value × List Value → Shared → Prop} (I : Inv X pins σ H s) (e : H a = some (.ins C dx fs)) (c : Cls X.K C) (k : Meth X.K C m g) (l : fs.lookup m = none)
    (h : Q (.ref g, [.ref a]) s) : wpAny (model X.prog X.w) A (getMethod (.ref a) m pl) Q E s := by
  obtain ⟨mA, O, r, _, _, _⟩ := ins_get I.hok e
  have hn : mA m = none := RelO.none_of (by rw [← l]; exact r m)
  exact get_meth I.kIn O (c.get m) k.at_ k.fn hn h

theorem setattr_ok {y : V} {u : Value} {Q : Unit → Shared → Prop} (I : Inv X pins σ H s) (e : H a = some (.ins C dx fs)) (c : Cls X.K C) (n : NoAttr X.K C f) (hl : fs.length < 1000) (ry : RelV y u)
    (h : ∀ s', Inv X pins σ (upd H a (.ins C dx (putF f y fs))) s' → Q () s') : wpAny (model X.prog X.w) A (setAttr (.ref a) f u) Q E s := by
  obtain ⟨mA, O, r, wi, _, ho⟩ := ins_get I.hok e
  have hz : (fs.map (·.1)).length ≤ sizeLine := by rw [List.length_map, sizeLine_eq]; omega
  refine set_map I.kIn O c.sa c.po n.taker c.hd wi hz fun h' O' sb => h _ ?_
  have hd : ∃ o, h'.get? dx = some o := let ⟨o, _, _, e', _⟩ := O'.ns; ⟨o, e'⟩
  refine I.write (x := a) (e := dx) (by rw [e]; exact True.intro) (.inr ho) (fun b q hb z => (sb.2 b hb).trans z) hd ?_
  refine ⟨by rw [upd_ne O.ne]; exact ho, ?_, O.ne, O'.obj, _, O'.ns, fun g => ?_, fun g hg => ?_⟩
  · have := length_putF f y fs; omega
  · show RelO ((putF f y fs).lookup g) (if g = f then some u else mA g)
    rw [lookup_putF]
    by_cases q : g = f
    · rw [if_pos q, if_pos q]; exact ry
    · rw [if_neg q, if_neg q]; exact r g
  · by_cases q : g = f
    · rw [q]; exact (keys_putF f y fs).1
    · refine (keys_putF f y fs).2 g (wi g fun z => hg ?_)
      show (if g = f then some u else mA g) = none
      rw [if_neg q]; exact z

/-- a new instance, tracked, without attributes -/
theorem Inv.made (I : Inv X pins σ H s) : Inv X pins σ (upd (upd H s.heap.objs.size (.own (s.heap.objs.size + 1))) (s.heap.objs.size + 1) (.ins C s.heap.objs.size []))
    { s with heap := (s.heap.push PySem.W.emptyDict).push (PySem.W.instObj C s.heap.objs.size) } := by
  have e1 : (s.heap.push PySem.W.emptyDict).get? s.heap.objs.size = some PySem.W.emptyDict := Heap.get?_push_size s.heap rfl
  have e2 : ((s.heap.push PySem.W.emptyDict).push (PySem.W.instObj C s.heap.objs.size)).get? (s.heap.objs.size + 1) = some (PySem.W.instObj C s.heap.objs.size) := by
    have := Heap.get?_push_size (s.heap.push PySem.W.emptyDict) (o := PySem.W.instObj C s.heap.objs.size) rfl
    rwa [Heap.size_push] at this
  have e3 : (s.heap.push PySem.W.emptyDict).Ns s.heap.objs.size (fun _ => none) := ⟨PySem.W.emptyDict, #[], _, e1, rfl, (fun e he => absurd he (by simp)), fun _ => rfl⟩
  have I1 := I.laid (a := s.heap.objs.size) (o := .own (s.heap.objs.size + 1)) (h' := s.heap.push PySem.W.emptyDict) (t' := s.toks) (fun b u q => Heap.get?_push_of_some _ q) (Nat.le_refl _) ⟨_, e1⟩
  refine I1.laid (a := s.heap.objs.size + 1) (o := .ins C s.heap.objs.size []) (t' := s.toks) (fun b u q => Heap.get?_push_of_some _ q) (Nat.le_of_eq (Heap.size_push _ _)) ?_
  have ne : s.heap.objs.size ≠ s.heap.objs.size + 1 := Nat.ne_of_lt (Nat.lt_succ_self _)
  refine ⟨by rw [upd_ne ne, upd_same], Nat.zero_le _, ne, e2, fun _ => none, (Heap.Ns1.of_empty e3).at fun o q => Heap.get?_push_of_some _ q, fun _ => True.intro, fun y hy => absurd rfl hy⟩

/-- e.f where nothing but the object is asked: through attributeBase (super) and the last hold -/
theorem attr_of {prog : Program} {w : World} {env : Env} {e : Expr} {f : Str} {pos : Pos} {s : Shared} {Q : Value → Shared → Prop} (hb : attributeBase e f env (eval e env) = eval e env)
    (h : wpAny (model prog w) A (eval e env) (fun o s₁ => wpAny (model prog w) A (getAttr o f true) Q E s₁) E s) : wpAny (model prog w) A (eval (.Attribute e f pos) env) Q E s :=
  Attribute_any_ h (by rw [arm_eval_Attribute, hb])
end

/-! ### readings and rules -/
/-- e.f, an attribute of the instance -/
def tFld (K : PySem.W.Frag) (ta : TE) (f : Str) : TE := fun σ H Q => ta σ H fun x H1 => ∃ a C dx fs v, x = .ref a ∧ H1 a = some (.ins C dx fs) ∧ Cls K C ∧ NoAttr K C f ∧ fs.lookup f = some v ∧ Q v H1
/-- e.f, a constant of the class -/
def tCon (K : PySem.W.Frag) (ta : TE) (f : Str) : TE := fun σ H Q => ta σ H fun x H1 => ∃ a C dx fs v u, x = .ref a ∧ H1 a = some (.ins C dx fs) ∧ Cls K C ∧ Con K C f v u ∧ fs.lookup f = none ∧ Q v H1
/-- e.f = value -/
def sFld (K : PySem.W.Frag) (ta tv : TE) (f : Str) : TS := fun D σ H => tv σ H fun y H1 => ta σ H1 fun x H2 => ∃ a C dx fs, x = .ref a ∧ H2 a = some (.ins C dx fs) ∧ Cls K C ∧ NoAttr K C f ∧ fs.length < 1000 ∧
  D.nx σ (upd H2 a (.ins C dx (putF f y fs)))
/-- an augmented operator on two values -/
def InOp (X : Cx) (op : Operator) (rd : V → V → Hp → VK → Prop) : Prop :=
  ∀ (pins : List (Addr × Obj)) (s : Shared) (σ : St) (H : Hp) (x y : V) (u v : Value) (Q : VK), Inv X pins σ H s → RelV x u → RelV y v → rd x y H Q → wpAny (model X.prog X.w) X.A (inplaceOp op u v) (EP X pins σ Q) X.xe s
/-- e.f op= value -/
def sFldAug (K : PySem.W.Frag) (ta tv : TE) (rd : V → V → Hp → VK → Prop) (f : Str) : TS := fun D σ H => ta σ H fun x H1 => ∃ a C dx fs v, x = .ref a ∧ H1 a = some (.ins C dx fs) ∧ Cls K C ∧ NoAttr K C f ∧ fs.lookup f = some v ∧
  tv σ H1 fun y H2 => rd v y H2 fun z H3 => ∃ dx' fs', H3 a = some (.ins C dx' fs') ∧ fs'.length < 1000 ∧ D.nx σ (upd H3 a (.ins C dx' (putF f z fs')))

section
variable {X : Cx} {o e value : Expr} {f : Str} {pos pos' tpos : Pos} {ta tv : TE}
theorem pe_fld (he : PE X e ta) (hb : attributeBase e f X.env (eval e X.env) = eval e X.env) : PE X (.Attribute e f pos) (tFld X.K ta f) := by
  intro pins s σ H Q I h
  refine attr_of hb (thn (he pins s σ H _ I h) fun u s1 ⟨x, H1, I1, rx, a, C, dx, fs, v, ex, ea, c, n, l, q⟩ => ?_)
  subst ex
  obtain rfl : u = Value.ref a := rx
  exact getattr_ok I1 ea c n l fun u' s2 I2 ru => ⟨v, H1, I2, ru, q⟩
theorem pe_con (he : PE X e ta) (hb : attributeBase e f X.env (eval e X.env) = eval e X.env) : PE X (.Attribute e f pos) (tCon X.K ta f) := by
  intro pins s σ H Q I h
  refine attr_of hb (thn (he pins s σ H _ I h) fun u s1 ⟨x, H1, I1, rx, a, C, dx, fs, v, u0, ex, ea, c, k, l, q⟩ => ?_)
  subst ex
  obtain rfl : u = Value.ref a := rx
  exact getcon_ok I1 ea c k l fun s2 I2 => ⟨v, H1, I2, k.rel, q⟩
theorem ps_fld (ha : PE X o ta) (hv : PE X value tv) (hs : swapsWith value (some (.Attribute o f pos')) pos.line X.env = pure false) : PS X (.Assign [.Attribute o f pos'] value pos) (sFld X.K ta tv f) := by
  intro pins s σ H D I h
  refine plainObj_wpAny_Assign_Attribute (thn (hv pins s σ H _ I h) fun u s1 ⟨y, H1, I1, ry, q⟩ => thn (ha pins s1 σ H1 _ I1 q) fun ov s2 ⟨x, H2, I2, rx, a, C, dx, fs, ex, ea, c, n, l, q2⟩ => ?_) hs
  subst ex
  obtain rfl : ov = Value.ref a := rx
  exact setattr_ok I2 ea c n l ry fun s3 I3 => ⟨σ, _, I3, q2⟩
theorem ps_fldaug {op : Operator} {rd : V → V → Hp → VK → Prop} (ha : PE X o ta) (hv : PE X value tv) (hop : InOp X op rd) : PS X (.AugAssign (.Attribute o f tpos) op value pos) (sFldAug X.K ta tv rd f) := by
  intro pins s σ H D I h
  refine wpAny_AugAssign_AttributeAny (thn (ha pins s σ H _ I h) fun ov s1 ⟨x, H1, I1, rx, a, C, dx, fs, v, ex, ea, c, n, l, q⟩ => ?_)
  subst ex
  obtain rfl : ov = Value.ref a := rx
  refine getattr_ok I1 ea c n l fun u s2 I2 ru => thn (hv pins s2 σ H1 _ I2 q) fun w3 s3 ⟨y, H2, I3, ry, q3⟩ => thn (hop pins s3 σ H2 v y u w3 _ I3 ru ry q3) fun w4 s4 ⟨z, H3, I4, rz, dx', fs', ea', l', q4⟩ => ?_
  exact setattr_ok I4 ea' c n l' rz fun s5 I5 => ⟨σ, _, I5, q4⟩
def rAdd : V → V → Hp → VK → Prop := fun x y H Q => ∃ i j, x = .int i ∧ y = .int j ∧ Q (.int (i + j)) H
def rSub : V → V → Hp → VK → Prop := fun x y H Q => ∃ i j, x = .int i ∧ y = .int j ∧ Q (.int (i - j)) H
theorem in_add : InOp X .Add rAdd := by
  rintro pins s σ H x y u v Q I rx ry ⟨i, j, rfl, rfl, q⟩
  obtain ⟨t, rfl⟩ := (show ∃ t, u = Value.int i t from rx)
  obtain ⟨t', rfl⟩ := (show ∃ t', v = Value.int j t' from ry)
  exact PyProof.Rows.iadd_int ⟨.int (i + j), H, I.tok _, ⟨_, rfl⟩, q⟩
theorem in_sub : InOp X .Sub rSub := by
  rintro pins s σ H x y u v Q I rx ry ⟨i, j, rfl, rfl, q⟩
  obtain ⟨t, rfl⟩ := (show ∃ t, u = Value.int i t from rx)
  obtain ⟨t', rfl⟩ := (show ∃ t', v = Value.int j t' from ry)
  exact PyProof.Rows.isub_int ⟨.int (i - j), H, I.tok _, ⟨_, rfl⟩, q⟩

/-- what is between an instance and its method: the tree of a method call -/
theorem methcall_of {pl : Sem Bool} {m : Str} {apos : Pos} {args : List Expr} {pins : List (Addr × Obj)} {s : Shared} {σ : St} {H : Hp} {Q : Value → Shared → Prop} {te : TE} (he : PE X e te) (I : Inv X pins σ H s)
    (h : te σ H fun x H1 => ∃ a C dx fs g, x = .ref a ∧ H1 a = some (.ins C dx fs) ∧ Cls X.K C ∧ Meth X.K C m g ∧ fs.lookup m = none ∧
      ∀ s1, Inv X pins σ H1 s1 → wpAny (model X.prog X.w) X.A (callWith pos (.ref g) [.ref a] (backTo pos (starEach args X.env)) (backToKw pos (keywordEach [] X.env))) Q X.xe s1)
    (ht : eval (.Call (.Attribute e m apos) args [] pos) X.env = (do
      let ov ← eval e X.env
      standAt apos.atName
      let (f, first) ← holding [ov] (getMethod ov m pl)
      callWith pos f first (backTo pos (starEach args X.env)) (backToKw pos (keywordEach [] X.env)))) :
    wpAny (model X.prog X.w) X.A (eval (.Call (.Attribute e m apos) args [] pos) X.env) Q X.xe s := by
  refine PySem.W.methodCall_KW (pl := pl) (thn (he pins s σ H _ I h) fun u s1 ⟨x, H1, I1, rx, a, C, dx, fs, g, ex, ea, c, k, l, q⟩ => ?_) ht
  subst ex
  obtain rfl : u = Value.ref a := rx
  exact getmeth_ok I1 ea c k l (q s1 I1)
end

/-! ### isinstance -/
section
variable {X : Cx} {pins : List (Addr × Obj)} {σ : St} {H : Hp} {s : Shared} {A : Around} {E : Value → Shared → Prop} {Q : Value → Shared → Prop} {c : Value} {b : Bool}
/-- the type of a value, as the fragment's deciders take it; for an instance its class -/
inductive TyOf (K : PySem.W.Frag) (H : Hp) : V → Value → Prop where
  | non : TyOf K H .non (.type "NoneType")
  | bl (x : Bool) : TyOf K H (.bl x) (.type "bool")
  | int (i : Int) : TyOf K H (.int i) (.type "int")
  | str (x : Str) : TyOf K H (.str x) (.type "str")
  | flt (x : UInt64) : TyOf K H (.flt x) (.type "float")
  | lst {a : Addr} {xs : List V} (e : H a = some (.lst xs)) : TyOf K H (.ref a) (.type "list")
  | frz {a : Addr} {o : Obj} {xs : List V} (e : H a = some (.frz o (.lst xs))) : TyOf K H (.ref a) (.type "list")
  | tup {a : Addr} {xs : List V} (e : H a = some (.tup xs)) : TyOf K H (.ref a) (.type "tuple")
  | dK {a : Addr} {kvs : List (Key × V)} (e : H a = some (.dK kvs)) : TyOf K H (.ref a) (.type "dict")
  | dT {a : Addr} {kvs : List (List Key × V)} (e : H a = some (.dT kvs)) : TyOf K H (.ref a) (.type "dict")
  | ins {a C dx : Addr} {fs : List (Str × V)} (e : H a = some (.ins C dx fs)) (cl : Cls K C) (ha : PySem.W.findIn K (.ref C) "__class__" = some (some (.builtin "object.__class__")))
      (hn : PySem.W.specialIn K (.builtin "object.__class__") "__get__" = some (some (.builtin "getset_descriptor.__get__"))) (htk : PySem.W.takesIn K (.builtin "object.__class__") = some true)
      (hm : PySem.W.mroIn K C (.type "object") = some true) : TyOf K H (.ref a) (.ref C)
/-- isinstance(x, c) for one class c, a built-in or an own one: kitOne's answer -/
theorem isinst_ok {x : V} {u t : Value} (I : Inv X pins σ H s) (rx : RelV x u) (ty : TyOf X.K H x t) (e : PySem.W.kitOne X.K t c = some b) (h : ∀ tk, Q (.bool b) { s with toks := tk }) :
    wpAny (model X.prog X.w) A (call (.builtin "isinstance") [u, c]) Q E s := by
  cases ty with
  | non => cases (show u = Value.none from rx); exact PySem.W.kia_one PySem.W.kitx_none I.kIn True.intro e (fun z => nomatch z) h
  | bl y => cases (show u = Value.bool y from rx); exact PySem.W.kia_one PySem.W.kitx_bool I.kIn True.intro e (fun z => nomatch z) h
  | int i => obtain ⟨t, q⟩ := (show ∃ t, u = Value.int i t from rx); cases q; exact PySem.W.kia_one PySem.W.kitx_int I.kIn True.intro e (fun z => nomatch z) h
  | str y => obtain ⟨t, q⟩ := (show ∃ t, u = Value.str y t from rx); cases q; exact PySem.W.kia_one PySem.W.kitx_str I.kIn True.intro e (fun z => nomatch z) h
  | flt y => obtain ⟨t, q⟩ := (show ∃ t, u = Value.float y t from rx); cases q; exact PySem.W.kia_one PySem.W.kitx_float I.kIn True.intro e (fun z => nomatch z) h
  | @lst a xs ea =>
    cases (show u = Value.ref a from rx)
    obtain ⟨_, _, n, _, h1⟩ := (show ObjOk X.prog X.w H s.heap a (.lst xs) from I.hok a _ ea)
    exact PySem.W.kia_one PySem.W.kitx_list I.kIn ⟨_, h1, rfl⟩ e (fun z => nomatch z) h
  | @frz a ob xs ea =>
    cases (show u = Value.ref a from rx)
    obtain ⟨_, _, _, n, _, h1⟩ := (show ObjOk X.prog X.w H s.heap a (.frz ob (.lst xs)) from I.hok a _ ea)
    exact PySem.W.kia_one PySem.W.kitx_list I.kIn ⟨_, h1, rfl⟩ e (fun z => nomatch z) h
  | @tup a xs ea =>
    cases (show u = Value.ref a from rx)
    obtain ⟨_, _, _, p⟩ := (show ObjOk X.prog X.w H s.heap a (.tup xs) from I.hok a _ ea)
    obtain ⟨o, h1, h2, _⟩ := p
    exact PySem.W.kia_one PySem.W.kitx_tuple I.kIn ⟨o, h1, h2⟩ e (fun z => nomatch z) h
  | @dK a kvs ea =>
    cases (show u = Value.ref a from rx)
    obtain ⟨_, _, vs, _, p⟩ := (show ObjOk X.prog X.w H s.heap a (.dK kvs) from I.hok a _ ea)
    obtain ⟨o, es, ep, h1, h2, _⟩ := p
    exact PySem.W.kia_one PySem.W.kitx_dict I.kIn ⟨o, h1, h2.1⟩ e (fun z => nomatch z) h
  | @dT a kvs ea =>
    cases (show u = Value.ref a from rx)
    obtain ⟨_, _, xs, _, o, es, ep, h1, h2, _⟩ := (show ObjOk X.prog X.w H s.heap a (.dT kvs) from I.hok a _ ea)
    exact PySem.W.kia_one PySem.W.kitx_dict I.kIn ⟨o, h1, h2.1⟩ e (fun z => nomatch z) h
  | @ins a C dx fs ea cl ha hn htk hm =>
    cases (show u = Value.ref a from rx)
    obtain ⟨mA, O, _⟩ := ins_get I.hok ea
    obtain ⟨od, J, _⟩ := O.look
    exact PySem.W.kia_one (PySem.W.kitx_own (cl.get _) cl.hd ha hn htk hm) I.kIn J e (fun z => nomatch z) h
end
end L2

namespace L2
open PySem PySem.Spec PyProof.Rows

/-! ### room -/
structure Room (k : Nat) (A : Around) : Prop where
  hd : A.handled = none
  dp : A.depth + 3 * k + 5 < recursionLimit
  un : A.units + 16 * k + 200 < cLine
theorem Room.mono {j k : Nat} {A : Around} (r : Room k A) (h : j ≤ k) : Room j A := ⟨r.hd, by have := r.dp; omega, by have := r.un; omega⟩
theorem Room.deeper {k : Nat} {A : Around} (r : Room (k + 1) A) (env : Env) : Room k (A.deeper env) :=
  ⟨r.hd, by have := r.dp; show A.depth + 1 + 3 * k + 5 < _; omega, by have := r.un; show A.units + 3 + 16 * k + 200 < _; omega⟩
theorem Room.in1 {k : Nat} {A : Around} (r : Room (k + 1) A) : Room k A.in1 :=
  ⟨r.hd, by have := r.dp; show A.depth + 3 * k + 5 < _; omega, by have := r.un; show A.units + 1 + 16 * k + 200 < _; omega⟩
theorem make_depth {A : Around} {C : Addr} {us : List Value} {kw : List (Str × Value)} : (A.under (.builtin "type.__call__" ⟨.ref C :: us, kw⟩)).depth = A.depth + 1 := by
  first | rfl | simp [Around.under, Code.weight, Code.isCreation, Code.isGuard, Code.isCaller, Code.frames, Code.isFrame, guardIds]
theorem make_units {A : Around} {C : Addr} {us : List Value} {kw : List (Str × Value)} : (A.under (.builtin "type.__call__" ⟨.ref C :: us, kw⟩)).units = A.units + 1 := by
  first | rfl | simp [Around.under, Code.cUnits, Code.frames, Code.isFrame]
theorem Room.make {k : Nat} {A : Around} (r : Room (k + 1) A) (C : Addr) (us : List Value) (kw : List (Str × Value)) : Room k (A.under (.builtin "type.__call__" ⟨.ref C :: us, kw⟩)) :=
  ⟨r.hd, by have := r.dp; rw [make_depth]; omega, by have := r.un; rw [make_units]; omega⟩
theorem Room.depth {k : Nat} {A : Around} (r : Room k A) : A.depth < recursionLimit := by have := r.dp; omega
theorem Room.units {k : Nat} {A : Around} (r : Room k A) : A.units + 64 < cLine := by have := r.un; omega
theorem Room.units0 {k : Nat} {A : Around} (r : Room k A) : A.units < cLine := by have := r.un; omega

/-! ### argument lists and displays -/
def tNil : TA := fun _ H Q => Q [] H
def tCons (ta : TE) (tr : TA) : TA := fun σ H Q => ta σ H fun x H1 => tr σ H1 fun xs H2 => Q (x :: xs) H2
section
variable {X : Cx} {e : Expr} {es : List Expr} {te : TE} {t : TA} {pos : Pos}
theorem pa_nil : PA X [] tNil := fun _ _ _ _ H Q I h => Calls.spliced_nil ⟨[], H, I, .nil, h⟩
theorem pa_cons (ha : PE X e te) (hr : PA X es t) (hs : starEach (e :: es) X.env = (false, eval e X.env) :: starEach es X.env := by rfl) : PA X (e :: es) (tCons te t) := by
  intro pos pins s σ H Q I h
  rw [hs]
  show wpAny _ _ (spliced ((false, eval e X.env) :: backTo pos (starEach es X.env))) _ _ s
  refine Calls.spliced_cons (thn (ha pins s σ H _ I h) fun u s1 ⟨x, H1, I1, r1, q1⟩ => ?_)
  exact thn (hr pos pins s1 σ H1 _ I1 q1) fun us s2 ⟨xs, H2, I2, r2, q2⟩ => ⟨x :: xs, H2, I2, .cons r1 r2, q2⟩

/-- a tuple, a list of written items -/
def tTup (t : TA) : TE := fun σ H Q => t σ H fun xs H1 => xs.length ≤ sizeLine ∧ ∀ p, H1 p = none → Q (.ref p) (upd H1 p (.tup xs))
def tLst (t : TA) : TE := fun σ H Q => t σ H fun xs H1 => xs.length ≤ sizeLine ∧ ∀ p, H1 p = none → Q (.ref p) (upd H1 p (.lst xs))
theorem pe_tup {x1} (h : PA X es t) : PE X (.Tuple es x1 pos) (tTup t) := by
  intro pins s σ H Q I hq
  refine wpAny_Tuple_spliced (thn (h pos pins s σ H _ I hq) fun us s1 ⟨xs, H1, I1, r, z, q⟩ => ⟨by rw [← r.length]; exact z, ?_⟩)
  have hf : H1 s1.heap.objs.size = none := I1.hok.fresh (Nat.le_refl _)
  refine ⟨.ref s1.heap.objs.size, upd H1 s1.heap.objs.size (.tup xs), I1.laid (t' := s1.toks) (fun b u e => Heap.get?_push_of_some _ e) (Nat.le_refl _) ?_, rfl, q _ hf⟩
  exact ⟨z, us, r, ⟨_, Heap.get?_push_size _ rfl, rfl, _, rfl⟩⟩
theorem pe_lst (h : PA X es t) : PE X (.List es pos) (tLst t) := by
  intro pins s σ H Q I hq
  refine wpAny_List_spliced (thn (h pos pins s σ H _ I hq) fun us s1 ⟨xs, H1, I1, r, z, q⟩ => ⟨by rw [← r.length]; exact z, ?_⟩)
  have hf : H1 s1.heap.objs.size = none := I1.hok.fresh (Nat.le_refl _)
  refine ⟨.ref s1.heap.objs.size, upd H1 s1.heap.objs.size (.lst xs), I1.laid (t' := s1.toks) (fun b u e => Heap.get?_push_of_some _ e) (Nat.le_refl _) ?_, rfl, q _ hf⟩
  exact ⟨z, us, 0, r, Heap.get?_push_size _ rfl⟩
end

/-! ### what a def promises -/
/-- a def's promise: the bound arguments in the parameters' order, the heap, the wanted end, the wanted exception -/
abbrev Sp := List V → Hp → VK → XK → Prop
/-- how an exception lies behind a call (file 08 gives it): the callers' frames, abstract heap and state ahead of the call, the wish, the exception, the state -/
abbrev CXT := List Env → Hp → Shared → XK → Value → Shared → Prop

/-- the state at a call -/
structure Env0 (P : Program) (w : World) (K : PySem.W.Frag) (mg : Str → Option Value) (base : Heap) (A : Around) (outer : List Env) (s : Shared) (H : Hp) : Prop where
  frames : A.frames = some outer
  mod : Mod K mg base
  bs : ∀ b o, base.get? b = some o → s.heap.get? b = some o ∧ H b = none
  bsz : base.objs.size ≤ s.heap.objs.size
  funs : s.heap.FunFrames base outer
  frf : ∀ b ∈ frs outer, H b = none
  hok : HOk P w H s.heap
  bare : AllBare s.gens
/-- a call's end -/
def CE (outer : List Env) (P : Program) (w : World) (H : Hp) (s : Shared) (Q : VK) (u : Value) (s' : Shared) : Prop :=
  ∃ v H', s'.os = s.os ∧ AllBare s'.gens ∧ Un (frs outer) [] H H' s.heap s'.heap ∧ HOk P w H' s'.heap ∧ RelV v u ∧ Q v H'
def CR (CX : CXT) (outer : List Env) (P : Program) (w : World) (H : Hp) (s : Shared) (Q : VK) (E : XK) (r : Result) (s' : Shared) : Prop :=
  match r with
  | .ok (.ret u) => CE outer P w H s Q u s'
  | .ok _ => False
  | .error e => CX outer H s E e s'
structure FnOk (P : Program) (w : World) (K : PySem.W.Frag) (mg : Str → Option Value) (base : Heap) (CX : CXT) (k : Nat) (f : Addr) (fd : FuncData) (ps : List Str) (sp : Sp) : Prop where
  len : ∀ vs H Q E, sp vs H Q E → vs.length = ps.length
  run : ∀ (A : Around) (outer : List Env) (s : Shared) (H : Hp) (args : Args) (us : List Value) (vs : List V) (Q : VK) (E : XK), Room k A → Env0 P w K mg base A outer s H → BindsTo s fd args (ps.zip us) → Vals vs us → sp vs H Q E →
    codeAny (model P w) A (.call (.ref f) args) (CR CX outer P w H s Q E) s
theorem FnOk.mono {P : Program} {w : World} {K : PySem.W.Frag} {mg : Str → Option Value} {base : Heap} {CX : CXT} {j k : Nat} {f : Addr} {fd : FuncData} {ps : List Str} {sp : Sp} (F : FnOk P w K mg base CX j f fd ps sp) (h : j ≤ k) :
    FnOk P w K mg base CX k f fd ps sp := ⟨F.len, fun A outer s H args us vs Q E hr => F.run A outer s H args us vs Q E (hr.mono h)⟩
/-- a weaker promise -/
theorem FnOk.imp {P : Program} {w : World} {K : PySem.W.Frag} {mg : Str → Option Value} {base : Heap} {CX : CXT} {k : Nat} {f : Addr} {fd : FuncData} {ps : List Str} {sp sp' : Sp} (F : FnOk P w K mg base CX k f fd ps sp)
    (h : ∀ vs H Q E, sp' vs H Q E → sp vs H Q E) : FnOk P w K mg base CX k f fd ps sp' :=
  ⟨fun vs H Q E q => F.len vs H Q E (h _ _ _ _ q), fun A outer s H args us vs Q E hr he hb hv hs => F.run A outer s H args us vs Q E hr he hb hv (h _ _ _ _ hs)⟩

theorem Env0.make {P : Program} {w : World} {K : PySem.W.Frag} {mg : Str → Option Value} {base : Heap} {A : Around} {outer : List Env} {s : Shared} {H : Hp} (e : Env0 P w K mg base A outer s H) (C : Addr) (us : List Value) (kw : List (Str × Value)) :
    Env0 P w K mg base (A.under (.builtin "type.__call__" ⟨.ref C :: us, kw⟩)) outer s H := ⟨by first | exact e.frames | (simpa [Around.under, Code.envs, Code.isFrame, pushEnvs] using e.frames), e.mod, e.bs, e.bsz, e.funs, e.frf, e.hok, e.bare⟩
theorem Env0.in1 {P : Program} {w : World} {K : PySem.W.Frag} {mg : Str → Option Value} {base : Heap} {A : Around} {outer : List Env} {s : Shared} {H : Hp} (e : Env0 P w K mg base A outer s H) :
    Env0 P w K mg base A.in1 outer s H := ⟨e.frames, e.mod, e.bs, e.bsz, e.funs, e.frf, e.hok, e.bare⟩

section
variable {X : Cx} {pins : List (Addr × Obj)} {σ : St} {H : Hp} {s s' : Shared}
/-- from a body: what a callee wants -/
theorem Inv.env0 (I : Inv X pins σ H s) : Env0 X.prog X.w X.K X.mg X.base X.A X.stack s H :=
  ⟨I.ok.frames, I.ok.mod, I.bs, Nat.le_trans I.ok.bsz I.sz, I.stack, I.stkFree, I.hok, I.bare⟩
/-- behind a call -/
theorem Inv.after {Q : VK} {u : Value} (I : Inv X pins σ H s) (h : CE X.stack X.prog X.w H s Q u s') : EP X pins σ Q u s' := by
  obtain ⟨v, H', os, bare, un, hok, r, q⟩ := h
  obtain ⟨hh, g, d, t, os'⟩ := s'
  obtain rfl : os' = s.os := os
  exact ⟨v, H', I.call (h' := hh) (g' := g) (d' := d) (t' := t) (ch := []) un hok bare (fun b z => absurd z (by simp)), r, q⟩
end

/-! ### calls -/
/-- f(..): the written arguments, then the defaults dvs; E: what is wanted of an exception -/
def tCall (sp : Sp) (dvs : List V) (E : XK) (t : TA) : TE := fun σ H Q => t σ H fun vs H1 => sp (vs ++ dvs) H1 Q E
/-- o.m(..) of an instance of the class at C -/
def tMeth (C : Addr) (m : Str) (sp : Sp) (dvs : List V) (E : XK) (ta : TE) (t : TA) : TE := fun σ H Q => ta σ H fun x H1 => ∃ a dx fs, x = .ref a ∧ H1 a = some (.ins C dx fs) ∧ fs.lookup m = none ∧
  t σ H1 fun vs H2 => sp (x :: (vs ++ dvs)) H2 Q E
/-- C(..): a new instance and its dict, then __init__ -/
def tMake (C : Addr) (sp : Sp) (dvs : List V) (E : XK) (t : TA) : TE := fun σ H Q => t σ H fun vs H1 => ∀ x dx, H1 x = none → H1 dx = none → dx ≠ x →
  sp (.ref x :: (vs ++ dvs)) (upd (upd H1 dx (.own x)) x (.ins C dx [])) (fun v H2 => v = .non ∧ Q (.ref x) H2) E

/-- how the parameters are bound: us the positional arguments, kw the keywords' values by name, ds the defaults that fill up -/
def Binds (K : PySem.W.Frag) (fd : FuncData) (ps : List Str) (ds : List Value) : Prop :=
  ∀ (s : Shared) (us : List Value), K.In s.heap → (us ++ ds).length = ps.length → BindsTo s fd ⟨us, []⟩ (ps.zip (us ++ ds))
/-- every parameter is given -/
theorem Binds.all {K : PySem.W.Frag} {fd : FuncData} {ps : List Str} (h : ∀ us : List Value, us.length = ps.length → bindArgs fd ⟨us, []⟩ = pure (ps.zip us)) : Binds K fd ps [] := fun s us _ hl => by
  rw [List.append_nil] at hl ⊢
  exact .of_eq (h us hl)

/-- an exception of a callee reaches what this body wants of exceptions -/
def Passes (CX : CXT) (X : Cx) (E : XK) : Prop := ∀ (pins : List (Addr × Obj)) (σ : St) (H : Hp) (s : Shared) (e : Value) (s' : Shared), Inv X pins σ H s → CX X.stack H s E e s' → X.xe e s'

section
variable {X : Cx} {CX : CXT} {k : Nat} {f C : Addr} {fd : FuncData} {ps : List Str} {sp : Sp} {dvs : List V} {ds : List Value} {E : XK} {x m : Str} {p pos apos : Pos} {e o : Expr} {es : List Expr} {ta : TE} {t : TA}

/-- the callee runs -/
theorem run_fn {pins : List (Addr × Obj)} {σ : St} {H : Hp} {s : Shared} {Q : VK} {us : List Value} {vs : List V} (F : FnOk X.prog X.w X.K X.mg X.base CX k f fd ps sp) (hr : Room k X.A) (hb : Binds X.K fd ps ds) (hd : Vals dvs ds) (hx : Passes CX X E)
    (I : Inv X pins σ H s) (r : Vals vs us) (h : sp (vs ++ dvs) H Q E) : wpAny (model X.prog X.w) X.A (call (.ref f) us) (EP X pins σ Q) X.xe s := by
  have r2 : Vals (vs ++ dvs) (us ++ ds) := r.append hd
  have hl : (us ++ ds).length = ps.length := by rw [← r2.length]; exact F.len _ _ _ _ h
  refine wpAny_call (codeAny_mono (F.run X.A X.stack s H ⟨us, []⟩ (us ++ ds) (vs ++ dvs) Q E hr I.env0 (hb s us I.kIn hl) r2 h) fun r s' hq => ?_)
  cases r with
  | error e => exact hx pins σ H s e s' I hq
  | ok fl =>
    cases fl with
    | ret u => exact I.after hq
    | next => exact False.elim hq
    | brk => exact False.elim hq
    | cont => exact False.elim hq

theorem pe_call (F : FnOk X.prog X.w X.K X.mg X.base CX k f fd ps sp) (hr : Room k X.A) (hg : Gl X x) (hm : X.mg x = some (.ref f)) (hk : PySem.W.keepIn X.K (.ref f) = true) (hb : Binds X.K fd ps ds) (hd : Vals dvs ds) (hx : Passes CX X E)
    (ha : PA X (e :: es) t) (hdb : (x == ("__debug__" : Str)) = false := by decide) (he : starEach (e :: es) X.env = (false, eval e X.env) :: starEach es X.env := by rfl) (hpl : (backTo pos (starEach es X.env)).any (·.1) = false := by rfl) :
    PE X (.Call (.Name x p) (e :: es) [] pos) (tCall sp dvs E t) := by
  intro pins s σ H Q I h
  refine wpAny_Call_Name_kw (ld_glob I hg hm ?_ hdb)
  refine PySem.W.callWith_K (h₀ := X.base) I.ok.mod.kin hk (thn (ha pos pins s σ H _ I h) fun us s1 ⟨vs, H1, I1, r, q⟩ => ⟨I1.kIn, ?_⟩) he hpl
  exact run_fn F hr hb hd hx I1 r q
theorem pe_call0 (F : FnOk X.prog X.w X.K X.mg X.base CX k f fd ps sp) (hr : Room k X.A) (hg : Gl X x) (hm : X.mg x = some (.ref f)) (hk : PySem.W.keepIn X.K (.ref f) = true) (hb : Binds X.K fd ps ds) (hd : Vals dvs ds) (hx : Passes CX X E)
    (hdb : (x == ("__debug__" : Str)) = false := by decide) : PE X (.Call (.Name x p) [] [] pos) (tCall sp dvs E tNil) := by
  intro pins s σ H Q I h
  refine wpAny_Call_Name_kw (ld_glob I hg hm ?_ hdb)
  exact PySem.W.callWith_K0 I.kIn hk (run_fn (us := []) F hr hb hd hx I .nil h)

/-- o.m(e, ..) -/
theorem pe_meth {pl : Sem Bool} (he : PE X o ta) (c : Cls X.K C) (hm : Meth X.K C m f) (F : FnOk X.prog X.w X.K X.mg X.base CX k f fd ps sp) (hr : Room k X.A) (hb : Binds X.K fd ps ds) (hd : Vals dvs ds) (hx : Passes CX X E) (ha : PA X (e :: es) t)
    (hst : starEach (e :: es) X.env = (false, eval e X.env) :: starEach es X.env := by rfl) (hpl : (backTo pos (starEach es X.env)).any (·.1) = false := by rfl)
    (ht : eval (.Call (.Attribute o m apos) (e :: es) [] pos) X.env = (do
      let ov ← eval o X.env
      standAt apos.atName
      let (f, first) ← holding [ov] (getMethod ov m pl)
      callWith pos f first (backTo pos (starEach (e :: es) X.env)) (backToKw pos (keywordEach [] X.env))) := by rfl) :
    PE X (.Call (.Attribute o m apos) (e :: es) [] pos) (tMeth C m sp dvs E ta t) := by
  intro pins s σ H Q I h
  refine PySem.W.methodCall_KW (pl := pl) (thn (he pins s σ H _ I h) fun u s1 ⟨x, H1, I1, rx, a, dx, fs, ex, ea, l, q⟩ => ?_) ht
  subst ex
  obtain rfl : u = Value.ref a := rx
  refine getmeth_ok I1 ea c hm l ?_
  refine PySem.W.callWith_K (first := [.ref a]) (h₀ := X.base) I.ok.mod.kin hm.kp (thn (ha pos pins s1 σ H1 _ I1 q) fun us s2 ⟨vs, H2, I2, r, q2⟩ => ⟨I2.kIn, ?_⟩) hst hpl
  exact run_fn (us := .ref a :: us) (vs := .ref a :: vs) F hr hb hd hx I2 (.cons rfl r) q2
/-- o.m() -/
theorem pe_meth0 {pl : Sem Bool} (he : PE X o ta) (c : Cls X.K C) (hm : Meth X.K C m f) (F : FnOk X.prog X.w X.K X.mg X.base CX k f fd ps sp) (hr : Room k X.A) (hb : Binds X.K fd ps ds) (hd : Vals dvs ds) (hx : Passes CX X E)
    (ht : eval (.Call (.Attribute o m apos) [] [] pos) X.env = (do
      let ov ← eval o X.env
      standAt apos.atName
      let (f, first) ← holding [ov] (getMethod ov m pl)
      callWith pos f first (backTo pos (starEach [] X.env)) (backToKw pos (keywordEach [] X.env))) := by rfl) :
    PE X (.Call (.Attribute o m apos) [] [] pos) (tMeth C m sp dvs E ta tNil) := by
  intro pins s σ H Q I h
  refine PySem.W.methodCall_KW (pl := pl) (thn (he pins s σ H _ I h) fun u s1 ⟨x, H1, I1, rx, a, dx, fs, ex, ea, l, q⟩ => ?_) ht
  subst ex
  obtain rfl : u = Value.ref a := rx
  refine getmeth_ok I1 ea c hm l ?_
  exact PySem.W.callWith_K0 (first := [.ref a]) I1.kIn hm.kp (run_fn (us := [.ref a]) (vs := [.ref a]) F hr hb hd hx I1 (.cons rfl .nil) q)

/-- what a class must have to be made -/
structure Mk (K : PySem.W.Frag) (C f : Addr) : Prop where
  makes : PySem.W.makesIn K C = true
  init : PySem.W.findIn K (.ref C) "__init__" = some (some (.ref f))
  fn : PySem.W.isFn K (.ref f) = true
  kp : PySem.W.keepIn K (.ref C) = true

theorem run_make {pins : List (Addr × Obj)} {σ : St} {H : Hp} {s : Shared} {Q : VK} {us : List Value} {vs : List V} (M : Mk X.K C f) (F : FnOk X.prog X.w X.K X.mg X.base CX k f fd ps sp) (hr : Room (k + 1) X.A) (hb : Binds X.K fd ps ds) (hd : Vals dvs ds)
    (hx : Passes CX X E) (I : Inv X pins σ H s) (r : Vals vs us)
    (h : ∀ x dx, H x = none → H dx = none → dx ≠ x → sp (.ref x :: (vs ++ dvs)) (upd (upd H dx (.own x)) x (.ins C dx [])) (fun v H2 => v = .non ∧ Q (.ref x) H2) E) :
    wpAny (model X.prog X.w) X.A (call (.ref C) us) (EP X pins σ Q) X.xe s := by
  have hq := h (s.heap.objs.size + 1) s.heap.objs.size (I.hok.fresh (Nat.le_succ _)) (I.hok.fresh (Nat.le_refl _)) (Nat.ne_of_lt (Nat.lt_succ_self _))
  have I2 := Inv.made (C := C) I
  have r2 : Vals (V.ref (s.heap.objs.size + 1) :: (vs ++ dvs)) (Value.ref (s.heap.objs.size + 1) :: (us ++ ds)) := .cons rfl (r.append hd)
  have hl : (Value.ref (s.heap.objs.size + 1) :: us ++ ds).length = ps.length := by
    have e := r2.length
    rw [F.len _ _ _ _ hq] at e
    exact e.symm
  refine wpAny_call (make_map (f := f) I.kIn M.makes M.init (beq_iff_eq.mp M.fn) (codeAny_mono (F.run _ X.stack _ _ ⟨Value.ref (s.heap.objs.size + 1) :: us, []⟩ (Value.ref (s.heap.objs.size + 1) :: (us ++ ds)) _ _ E (hr.make C us [])
    (I2.env0.make C us []) (hb _ (Value.ref (s.heap.objs.size + 1) :: us) I2.kIn hl) r2 hq) fun r s' hq' => ?_))
  cases r with
  | error e => exact hx pins σ _ _ e s' I2 hq'
  | ok fl =>
    cases fl with
    | ret u =>
      obtain ⟨v, H', I3, rv, ev, q3⟩ := I2.after hq'
      subst ev
      exact ⟨rv, ⟨V.ref (s.heap.objs.size + 1), H', I3, rfl, q3⟩⟩
    | next => exact False.elim hq'
    | brk => exact False.elim hq'
    | cont => exact False.elim hq'
theorem pe_make (M : Mk X.K C f) (F : FnOk X.prog X.w X.K X.mg X.base CX k f fd ps sp) (hr : Room (k + 1) X.A) (hg : Gl X x) (hm : X.mg x = some (.ref C)) (hb : Binds X.K fd ps ds) (hd : Vals dvs ds) (hx : Passes CX X E)
    (ha : PA X (e :: es) t) (hdb : (x == ("__debug__" : Str)) = false := by decide) (he : starEach (e :: es) X.env = (false, eval e X.env) :: starEach es X.env := by rfl) (hpl : (backTo pos (starEach es X.env)).any (·.1) = false := by rfl) :
    PE X (.Call (.Name x p) (e :: es) [] pos) (tMake C sp dvs E t) := by
  intro pins s σ H Q I h
  refine wpAny_Call_Name_kw (ld_glob I hg hm ?_ hdb)
  refine PySem.W.callWith_K (h₀ := X.base) I.ok.mod.kin M.kp (thn (ha pos pins s σ H _ I h) fun us s1 ⟨vs, H1, I1, r, q⟩ => ⟨I1.kIn, ?_⟩) he hpl
  exact run_make M F hr hb hd hx I1 r q
theorem pe_make0 (M : Mk X.K C f) (F : FnOk X.prog X.w X.K X.mg X.base CX k f fd ps sp) (hr : Room (k + 1) X.A) (hg : Gl X x) (hm : X.mg x = some (.ref C)) (hb : Binds X.K fd ps ds) (hd : Vals dvs ds) (hx : Passes CX X E)
    (hdb : (x == ("__debug__" : Str)) = false := by decide) : PE X (.Call (.Name x p) [] [] pos) (tMake C sp dvs E tNil) := by
  intro pins s σ H Q I h
  refine wpAny_Call_Name_kw (ld_glob I hg hm ?_ hdb)
  exact PySem.W.callWith_K0 I.kIn M.kp (run_make (us := []) M F hr hb hd hx I .nil h)
end

/-! ### keywords -/
/-- the values of the keywords, from the left -/
def PK (X : Cx) (kws : List Keyword) (t : TA) : Prop :=
  ∀ (pos : Pos) (pins : List (Addr × Obj)) (s : Shared) (σ : St) (H : Hp) (Q : List V → Hp → Prop), Inv X pins σ H s → t σ H Q → wpAny (model X.prog X.w) X.A (evalAll ((backToKw pos (keywordEach kws X.env)).map (·.2))) (AP X pins σ Q) X.xe s
section
variable {X : Cx} {CX : CXT} {k : Nat} {f C : Addr} {fd : FuncData} {ps ks : List Str} {sp : Sp} {E : XK} {x m : Str} {p pos apos kpos : Pos} {e o : Expr} {es : List Expr} {kws : List Keyword} {te ta : TE} {t tk : TA} {nm : Option Str}
theorem pk_nil : PK X [] tNil := fun _ _ _ _ H Q I h => wpAny_evalAll_nil ⟨[], H, I, .nil, h⟩
theorem pk_cons (ha : PE X e te) (hr : PK X kws t) : PK X (⟨nm, e, kpos⟩ :: kws) (tCons te t) := by
  intro pos pins s σ H Q I h
  show wpAny _ _ (evalAll ((do let v ← eval e X.env; standAt pos; pure v) :: (backToKw pos (keywordEach kws X.env)).map (·.2))) _ _ s
  refine wpAny_evalAll_cons (wpAny_bind (thn (ha pins s σ H _ I h) fun u s1 ⟨x, H1, I1, r1, q1⟩ => wpAny_bind (wpAny_standAt (wpAny_pure ?_))))
  exact thn (hr pos pins s1 σ H1 _ I1 q1) fun us s2 ⟨xs, H2, I2, r2, q2⟩ => ⟨x :: xs, H2, I2, .cons r1 r2, q2⟩

/-- how a call with keywords binds: g puts the positional values us and the keywords' values ws (names ks) in the parameters' order, defaults among them -/
structure KBinds (K : PySem.W.Frag) (fd : FuncData) (ps ks : List Str) (g : List Value → List Value → List Value) (gV : List V → List V → List V) : Prop where
  to : ∀ (s : Shared) (us ws : List Value), K.In s.heap → (g us ws).length = ps.length → BindsTo s fd ⟨us, ks.zip ws⟩ (ps.zip (g us ws))
  rel : ∀ {vs : List V} {us : List Value} {zs : List V} {ws : List Value}, Vals vs us → Vals zs ws → Vals (gV vs zs) (g us ws)
def tCallK (sp : Sp) (gV : List V → List V → List V) (E : XK) (t tk : TA) : TE := fun σ H Q => t σ H fun vs H1 => tk σ H1 fun zs H2 => sp (gV vs zs) H2 Q E
variable {g : List Value → List Value → List Value} {gV : List V → List V → List V}
theorem run_fnk {pins : List (Addr × Obj)} {σ : St} {H : Hp} {s : Shared} {Q : VK} {us ws : List Value} {vs zs : List V} (F : FnOk X.prog X.w X.K X.mg X.base CX k f fd ps sp) (hr : Room k X.A) (hb : KBinds X.K fd ps ks g gV) (hx : Passes CX X E)
    (I : Inv X pins σ H s) (r : Vals vs us) (rz : Vals zs ws) (h : sp (gV vs zs) H Q E) : wpAny (model X.prog X.w) X.A (call (.ref f) us (ks.zip ws)) (EP X pins σ Q) X.xe s := by
  have r2 := hb.rel r rz
  have hl : (g us ws).length = ps.length := by rw [← r2.length]; exact F.len _ _ _ _ h
  refine wpAny_call (codeAny_mono (F.run X.A X.stack s H ⟨us, ks.zip ws⟩ (g us ws) (gV vs zs) Q E hr I.env0 (hb.to s us ws I.kIn hl) r2 h) fun r s' hq => ?_)
  cases r with
  | error e => exact hx pins σ H s e s' I hq
  | ok fl =>
    cases fl with
    | ret u => exact I.after hq
    | next => exact False.elim hq
    | brk => exact False.elim hq
    | cont => exact False.elim hq
/-- f(e, .., k = v, ..) -/
theorem pe_callK (F : FnOk X.prog X.w X.K X.mg X.base CX k f fd ps sp) (hr : Room k X.A) (hg : Gl X x) (hm : X.mg x = some (.ref f)) (hk : PySem.W.keepIn X.K (.ref f) = true) (hb : KBinds X.K fd ps ks g gV) (hx : Passes CX X E)
    (ha : PA X (e :: es) t) (hkw : PK X kws tk) (hall : (backToKw pos (keywordEach kws X.env)).all (·.1.isSome) = true := by rfl) (hks : (backToKw pos (keywordEach kws X.env)).filterMap (·.1) = ks := by rfl)
    (hdb : (x == ("__debug__" : Str)) = false := by decide) (he : starEach (e :: es) X.env = (false, eval e X.env) :: starEach es X.env := by rfl)
    (hpl : ((backTo pos (starEach (e :: es) X.env)).any (·.1) || (backToKw pos (keywordEach kws X.env)).any (·.1.isNone)) = false := by rfl) :
    PE X (.Call (.Name x p) (e :: es) kws pos) (tCallK sp gV E t tk) := by
  intro pins s σ H Q I h
  refine wpAny_Call_Name_kw (ld_glob I hg hm ?_ hdb)
  refine PySem.W.callWith_KW (h₀ := X.base) I.ok.mod.kin hk hall (thn (ha pos pins s σ H _ I h) fun us s1 ⟨vs, H1, I1, r, q⟩ => ?_) hpl he
  refine thn (hkw pos pins s1 σ H1 _ I1 q) fun ws s2 ⟨zs, H2, I2, rz, q2⟩ => ⟨I2.kIn, ?_⟩
  rw [hks]
  exact run_fnk F hr hb hx I2 r rz q2
end

/-! ### a def's body keeps its promise -/
/-- names: the parameters first -/
structure FnScope (N P : List Str) (sc : Scope) : Prop where
  kind : sc.kind = .function
  co : sc.isCoroutine = false
  gen : sc.isGenerator = false
  nd : N.Nodup
  pre : N.take P.length = P
  par : ∀ x ∈ P, sc.names.lookup x = some .local ∨ sc.names.lookup x = some .cell
  nofree : ∀ y ∈ sc.names, y.2 ≠ .free

theorem bindL_out {kindOf : Str → Option NameKind} {x : Str} : ∀ {binds : List (Str × Value)} {m : Str → Option Value}, (∀ v, (x, v) ∉ binds) → bindL kindOf binds m x = m x
  | [], _, _ => rfl
  | (n, v) :: r, m, h => by
    unfold bindL
    rw [bindL_out fun w hw => h w (List.mem_cons_of_mem _ hw)]
    split
    · have : x ≠ n := by rintro rfl; exact h v List.mem_cons_self
      simp [this]
    · rfl
theorem bindC_out {kindOf : Str → Option NameKind} {x : Str} : ∀ {binds : List (Str × Value)} {m : Str → Option Value}, (∀ v, (x, v) ∉ binds) → bindC kindOf binds m x = m x
  | [], _, _ => rfl
  | (n, v) :: r, m, h => by
    unfold bindC
    rw [bindC_out fun w hw => h w (List.mem_cons_of_mem _ hw)]
    split
    · rfl
    · have : x ≠ n := by rintro rfl; exact h v List.mem_cons_self
      simp [this]
theorem bindL_get {kindOf : Str → Option NameKind} {x : Str} {v : Value} : ∀ {P : List Str} {vs : List Value} {i : Nat} {m : Str → Option Value}, P.Nodup → P[i]? = some x → vs[i]? = some v → kindOf x = some .local →
    bindL kindOf (P.zip vs) m x = some v
  | [], _, _, _, _, h, _, _ => by simp at h
  | _ :: _, [], _, _, _, _, h, _ => by simp at h
  | p :: P, w :: vs, 0, m, nd, h1, h2, hk => by
    simp at h1 h2; subst h1; subst h2
    show bindL kindOf ((p, w) :: P.zip vs) m p = _
    unfold bindL
    rw [bindL_out fun v hv => (List.nodup_cons.mp nd).1 (List.of_mem_zip hv).1, if_pos hk]
    simp
  | p :: P, w :: vs, i + 1, m, nd, h1, h2, hk => by
    show bindL kindOf ((p, w) :: P.zip vs) m x = _
    unfold bindL
    exact bindL_get (i := i) (List.nodup_cons.mp nd).2 (by simpa using h1) (by simpa using h2) hk
theorem bindC_get {kindOf : Str → Option NameKind} {x : Str} {v : Value} : ∀ {P : List Str} {vs : List Value} {i : Nat} {m : Str → Option Value}, P.Nodup → P[i]? = some x → vs[i]? = some v → kindOf x ≠ some .local →
    bindC kindOf (P.zip vs) m x = some v
  | [], _, _, _, _, h, _, _ => by simp at h
  | _ :: _, [], _, _, _, _, h, _ => by simp at h
  | p :: P, w :: vs, 0, m, nd, h1, h2, hk => by
    simp at h1 h2; subst h1; subst h2
    show bindC kindOf ((p, w) :: P.zip vs) m p = _
    unfold bindC
    rw [bindC_out fun v hv => (List.nodup_cons.mp nd).1 (List.of_mem_zip hv).1, if_neg hk]
    simp
  | p :: P, w :: vs, i + 1, m, nd, h1, h2, hk => by
    show bindC kindOf ((p, w) :: P.zip vs) m x = _
    unfold bindC
    exact bindC_get (i := i) (List.nodup_cons.mp nd).2 (by simpa using h1) (by simpa using h2) hk

/-- the names' values at the entry -/
def start (N : List Str) (vs : List V) : St := vs.map some ++ List.replicate (N.length - vs.length) none

/-- the context of a def's body, at its entry; an exception leaves the frame, then lies as CX says -/
def cxOf (CX : CXT) (P : Program) (w : World) (K : PySem.W.Frag) (mg : Str → Option Value) (base : Heap) (N : List Str) (qual : Str) (scope : Scope) (f : Addr) (cd : Value) (A : Around) (outer : List Env) (s : Shared) (H : Hp) (E : XK) : Cx where
  prog := P
  w := w
  K := K
  mg := mg
  base := base
  A := A.deeper (envOfC qual scope s.heap.objs.size f cd)
  N := N
  s₀ := s
  H₀ := H
  env := envOfC qual scope s.heap.objs.size f cd
  outer := outer
  stack := envOfC qual scope s.heap.objs.size f cd :: outer
  ex := []
  calm := true
  fn := fun _ => true
  pn := []
  xe := fun e s' => wpAny (model P w) (A.deeper (envOfC qual scope s.heap.objs.size f cd)) (leaving (envOfC qual scope s.heap.objs.size f cd) e) (fun _ s'' => CX outer H s E e s'') (fun e' s'' => CX outer H s E e' s'') s'

theorem cell_has {sc : Scope} {n : Nat} {x : Str} (h : sc.names.lookup x = some .cell) : ∃ c, (cellsFrom n sc.names []).lookup x = some c := by
  have q := PySem.W.cellsFrom_some sc.names n [] (.inl h)
  exact Option.isSome_iff_exists.mp q

theorem inv_start {CX : CXT} {P : Program} {w : World} {K : PySem.W.Frag} {mg : Str → Option Value} {base : Heap} {N ps : List Str} {qual : Str} {scope : Scope} {f : Addr} {cd : Value} {A : Around} {outer : List Env} {s s1 : Shared} {H : Hp} {E : XK} {us : List Value} {vs : List V}
    (S : FnScope N ps scope) (hd : A.handled = none) (e0 : Env0 P w K mg base A outer s H) (hl : vs.length = ps.length) (r : Vals vs us)
    (x : InCallC s s.heap.objs.size (bindL (envOfC qual scope s.heap.objs.size f cd).kindOf (ps.zip us) fun _ => none) (cellsFrom (s.heap.objs.size + 1) scope.names []) (bindC (envOfC qual scope s.heap.objs.size f cd).kindOf (ps.zip us) fun _ => none) s1) :
    Inv (cxOf CX P w K mg base N qual scope f cd A outer s H E) [] (start N vs) H s1 := by
  have hpl : ps.length ≤ N.length := by have := congrArg List.length S.pre; rw [List.length_take] at this; omega
  obtain ⟨h1, tk, rfl, hk⟩ := x.done
  have noA : ∀ b : Addr, b ∉ (cxOf CX P w K mg base N qual scope f cd A outer s H E).ex := fun b z => absurd (show b ∈ ([] : List Addr) from z) (by simp)
  refine ⟨⟨e0.mod, S.kind, rfl, rfl, Nat.le_refl _, fun y z c h1 h2 => ?_, fun y hy => ?_, fun y c _ h => ?_, fun _ => hd, Around.frames_deeper e0.frames, .inr ⟨rfl, rfl⟩, fun b z => absurd z (noA b), e0.bs, e0.bsz, fun b _ _ => noA b, fun b z => absurd z (noA b), e0.funs, e0.frf⟩,
    rfl, e0.bare, Un.kept hk, ⟨_, x.toInCall.ns, fun i y v h1 h2 h3 => ?_⟩, fun y c h => ⟨_, x.cell y c h⟩, e0.hok.fresh (Nat.le_refl _), fun y c h => ?_, fun p hp => absurd (show p ∈ ([] : List (Addr × Obj)) from hp) (by simp), e0.hok.kept hk, ?_⟩
  · exact name_of_addr x.apart (PySem.mem_of_lookup h1) (PySem.mem_of_lookup h2)
  · have hy : scope.names.lookup y = some .cell ∨ scope.names.lookup y = some .free := hy
    rcases hy with hy | hy
    · exact cell_has hy
    · exact absurd rfl (S.nofree _ (PySem.mem_of_lookup hy))
  · exact Nat.le_of_lt (x.above y c (PySem.mem_of_lookup h))
  · have hi : i < vs.length := by
      unfold start at h2
      by_cases hi : i < vs.length
      · exact hi
      · rw [List.getElem?_append_right (by simpa using hi)] at h2
        rw [List.getElem?_replicate] at h2
        split at h2 <;> cases h2
    have ha : vs[i]? = some v := by
      unfold start at h2
      rw [List.getElem?_append_left (by simpa using hi), List.getElem?_map] at h2
      cases e : vs[i]? with
      | none => rw [e] at h2; cases h2
      | some a => rw [e] at h2; cases h2; rfl
    obtain ⟨u, hu, rv⟩ := r.get ha
    have hp : ps[i]? = some y := by
      rw [← S.pre, List.getElem?_take_of_lt (by omega)]; exact h1
    have ndP : ps.Nodup := by rw [← S.pre]; exact S.nd.sublist (List.take_sublist _ _)
    refine ⟨u, rv, ?_⟩
    rcases S.par y (List.mem_of_getElem? hp) with k | k
    · exact .inl ⟨k, bindL_get ndP hp hu k⟩
    · obtain ⟨c, e⟩ := cell_has (n := s.heap.objs.size + 1) k
      refine .inr ⟨.inl k, c, e, ?_⟩
      have q := x.cell y c e
      rw [bindC_get ndP hp hu (by show scope.names.lookup y ≠ _; rw [k]; decide)] at q
      exact q
  · exact e0.hok.fresh (Nat.le_of_lt (x.above y c (PySem.mem_of_lookup h)))
  · unfold start
    show _ = N.length
    rw [List.length_append, List.length_map, List.length_replicate]
    omega

/-- THE RULE: a def (or a method) of the text, by its body. The body's reading t is chosen for each entry; it is run at the parameters' values -/
theorem fn_of {CX : CXT} {P : Program} {w : World} {K : PySem.W.Frag} {mg : Str → Option Value} {base : Heap} {k : Nat} {f : Addr} {name qual : Str} {params : Arguments} {body : List Stmt} {scope : Scope} {dV kV doc pm cdv ct oc : Value} {an od : Option Addr}
    {osl : Array (Option Value)} {N ps : List Str} {sp : Sp} (lk : K.lookup f = some ⟨oc, od, .func (PySem.W.fnOf name qual params body scope dV kV doc pm an cdv ct), osl⟩) (hcd : PySem.W.codeIn K cdv qual = true) (S : FnScope N ps scope)
    (len : ∀ vs H Q E, sp vs H Q E → vs.length = ps.length)
    (hbody : ∀ (A : Around) (outer : List Env) (s : Shared) (H : Hp) (vs : List V) (Q : VK) (E : XK), Room k (A.deeper (envOfC qual scope s.heap.objs.size f cdv)) → sp vs H Q E →
      ∃ t, PSs (cxOf CX P w K mg base N qual scope f cdv A outer s H E) body t ∧ t { nx := fun _ H' => Q .non H', rt := Q } (start N vs) H) :
    FnOk P w K mg base CX (k + 1) f (PySem.W.fnOf name qual params body scope dV kV doc pm an cdv ct) ps sp := by
  refine ⟨len, fun A outer s H args us vs Q E hr e0 hb r hsp => ?_⟩
  have hl := len _ _ _ _ hsp
  have KX : K.In s.heap := e0.mod.kin.keeps fun b o e => (e0.bs b o e).1
  have lim : s.heap.NoLimit := e0.mod.nolimit.keeps fun b o e => (e0.bs b o e).1
  have hkind : ∀ y ∈ ps.zip us, scope.names.lookup y.1 = some .local ∨ (scope.names.lookup y.1 = some .cell ∧ ((cellsFrom (s.heap.objs.size + 1) scope.names []).lookup y.1).isSome = true) := fun ⟨n, v⟩ hy => by
    rcases S.par n (List.of_mem_zip hy).1 with q | q
    · exact .inl q
    · exact .inr ⟨q, PySem.W.cellsFrom_some _ _ _ (.inl q)⟩
  refine codeAny_call_function hr.depth (KX _ _ lk) rfl S.co S.gen rfl (PySem.W.codeRec_of KX hcd) (hb _ _ _ _ ?_)
  refine wpAny_newFunctionEnv_cells S.kind hkind fun env he s1 x => ?_
  subst he
  refine ⟨lim.keeps x.toInCall.keep, codeAny_func ?_⟩
  obtain ⟨t, ht, hq⟩ := hbody A outer s H vs Q E (hr.deeper _) hsp
  have I : Inv (cxOf CX P w K mg base N qual scope f cdv A outer s H E) [] (start N vs) H s1 := inv_start S hr.hd e0 hl r x
  refine wpAny_mono (ht [] s1 (start N vs) H _ I hq) (fun fl s' hs => ?_) fun e s' hs => hs
  have fin : ∀ {σ' : St} {H' : Hp} {v : V} {u : Value}, Inv (cxOf CX P w K mg base N qual scope f cdv A outer s H E) [] σ' H' s' → RelV v u → Q v H' → CE outer P w H s Q u s' :=
    fun {σ' H' v u} J rv q => ⟨v, H', J.os, J.bare, J.base, J.hok, rv, q⟩
  cases fl with
  | ret u =>
    obtain ⟨v, σ', H', J, rv, q⟩ := hs
    exact fin J rv q
  | next =>
    obtain ⟨σ', H', J, q⟩ := hs
    exact fin (v := V.non) (u := Value.none) J rfl q
  | brk =>
    obtain ⟨_, _, _, q⟩ := hs
    exact False.elim q
  | cont =>
    obtain ⟨_, _, _, q⟩ := hs
    exact False.elim q
end L2

namespace L2
open PySem PySem.Spec PyProof.Rows
section
variable {X : Cx} {x : Str} {p pos : Pos} {e : Expr} {es : List Expr} {t : TA} {id T : String} {r : List V → Hp → VK → Prop}

def tCB (r : List V → Hp → VK → Prop) (t : TA) : TE := fun σ H Q => t σ H fun vs H1 => r vs H1 Q
/-- f(e, ..), f a built-in function -/
theorem pe_callB (hc : CallR X (.builtin id) r) (hg : Gl X x) (hm : X.mg x = none) (hv : bootBuiltins x = some (.builtin id)) (ha : PA X (e :: es) t) (hn : x ≠ "__name__" := by decide) (hdb : (x == ("__debug__" : Str)) = false := by decide)
    (he : starEach (e :: es) X.env = (false, eval e X.env) :: starEach es X.env := by rfl) (hpl : (backTo pos (starEach es X.env)).any (·.1) = false := by rfl) : PE X (.Call (.Name x p) (e :: es) [] pos) (tCB r t) := by
  intro pins s σ H Q I h
  refine wpAny_Call_Name_kw (ld_blt I hg hm hv ?_ hn hdb)
  exact PyProof.Rows.callWith_builtin1 (thn (ha pos pins s σ H _ I h) fun us s1 ⟨vs, H1, I1, r1, q1⟩ => hc pins s1 σ H1 vs us Q I1 r1 q1) he hpl
/-- T(e, ..), T a built-in type -/
theorem pe_callTy (hc : CallR X (.type T) r) (hg : Gl X x) (hm : X.mg x = none) (hv : bootBuiltins x = some (.type T)) (ha : PA X (e :: es) t) (hn : x ≠ "__name__" := by decide) (hdb : (x == ("__debug__" : Str)) = false := by decide)
    (he : starEach (e :: es) X.env = (false, eval e X.env) :: starEach es X.env := by rfl) (hpl : (backTo pos (starEach es X.env)).any (·.1) = false := by rfl) : PE X (.Call (.Name x p) (e :: es) [] pos) (tCB r t) := by
  intro pins s σ H Q I h
  refine wpAny_Call_Name_kw (ld_blt I hg hm hv ?_ hn hdb)
  exact PyProof.Rows.callWith_type1 (thn (ha pos pins s σ H _ I h) fun us s1 ⟨vs, H1, I1, r1, q1⟩ => hc pins s1 σ H1 vs us Q I1 r1 q1) he hpl
/-- T() -/
theorem pe_callTy0 (hc : CallR X (.type T) r) (hg : Gl X x) (hm : X.mg x = none) (hv : bootBuiltins x = some (.type T)) (hn : x ≠ "__name__" := by decide) (hdb : (x == ("__debug__" : Str)) = false := by decide) :
    PE X (.Call (.Name x p) [] [] pos) (tCB r tNil) := by
  intro pins s σ H Q I h
  refine wpAny_Call_Name_kw (ld_blt I hg hm hv ?_ hn hdb)
  exact PyProof.Rows.callWith_type0 (hc pins s σ H [] [] Q I .nil h)
end
end L2

namespace HT
open PySem PyProof.Rows

/-- t < u of tuples of ints -/
def lexLt : List Int → List Int → Bool
  | [], [] => false
  | [], _ :: _ => true
  | _ :: _, [] => false
  | x :: xs, y :: ys => if x = y then lexLt xs ys else decide (x < y)
theorem lexLt_cons (x y : Int) (xs ys : List Int) : lexLt (x :: xs) (y :: ys) = if x = y then lexLt xs ys else decide (x < y) := rfl
theorem lexLt_nil_nil : lexLt [] [] = false := rfl
theorem lexLt_nil_cons (y : Int) (ys : List Int) : lexLt [] (y :: ys) = true := rfl
theorem lexLt_cons_nil (x : Int) (xs : List Int) : lexLt (x :: xs) [] = false := rfl

theorem eqAt_int (A : Around) (s : Shared) (a : Int) (t : Tok) (c : Int) (u : Tok) : ∃ e, SeqAt.EqAt A s (.int a t) (.int c u) e ∧ (e = true ↔ a = c) :=
  ⟨(a == c), SeqAt.EqAt.int_int a t c u, by simp⟩
theorem rcLt_int (A : Around) (s : Shared) (a : Int) (t : Tok) (c : Int) (u : Tok) (prog : Program) (w : World) (E : Value → Shared → Prop) (Q : Value → Shared → Prop) (h : Q (.bool (decide (a < c))) s) :
    wpAny (model prog w) A (richCompare .Lt (.int a t) (.int c u)) Q E s :=
  (PyProof.Rows.lt_int h : wpAny (model prog w) A (compareOp .Lt (.int a t) (.int c u)) Q E s)

section
open PySem.SeqAt
open PySem.AutoSeq1 (wpAny_loadPart')
open PySem.MeetsSeq PySem.MeetsSeq2 PySem.MeetsSeq3

theorem tuple_lt_ints (l b : Addr) (items items2 : Array Value) (n n2 : Nat) (dd dd2 : Option Addr) (sl sl2 : Array (Option Value)) (ns ms : List Int) (hi : IntsAre items.toList ns) (hj : IntsAre items2.toList ms) :
    Meets (Builtin.«tuple.__lt__» ⟨[.ref l, .ref b], []⟩)
      (fun _ R s => s.heap.get? l = some { cls := .type "tuple", dict := dd, data := .seq items n, slots := sl } ∧ s.heap.get? b = some { cls := .type "tuple", dict := dd2, data := .seq items2 n2, slots := sl2 } ∧
        R (.ok (.ret (.bool (lexLt ns ms)))) s) :=
  .of_wp fun prog w A R s h => by
    obtain ⟨hp, g, d, tk, os⟩ := s; obtain ⟨hl, hb, h⟩ := h
    have f2 := AutoSeq1.sub_tuple_tuple
    have z1 : items.size = ns.length := by rw [← hi.length]; simp
    have z2 : items2.size = ms.length := by rw [← hj.length]; simp
    wp_walk using wpAny_loadPart' hl, wpAny_loadPart' hb, wpAny_forIn_list _ (fun rest b s' => b.1 = none ∧ s' = ⟨hp, g, d, tk, os⟩ ∧ ∃ (vs ws : List Value) (ns' ms' : List Int), rest = vs.zip ws ∧
      IntsAre vs ns' ∧ IntsAre ws ms' ∧ ns'.length + items2.size = ms'.length + items.size ∧ R (.ok (.ret (.bool (lexLt ns' ms')))) ⟨hp, g, d, tk, os⟩) _
    case turn =>
      rintro ⟨y, x⟩ rest b s' ⟨hb', rfl, vs, ws, ns', ms', hz, hvi, hwi, hlen, hR⟩
      cases hvi with
      | nil => rw [List.zip_nil_left] at hz; cases hz
      | cons a t hvi' =>
        cases hwi with
        | nil => rw [List.zip_nil_right] at hz; cases hz
        | cons c u hwi' =>
          rw [List.zip_cons_cons] at hz
          injection hz with hyx hrest
          injection hyx with hy hx
          subst hy hx
          rw [lexLt_cons] at hR
          simp only [List.length_cons] at hlen
          obtain ⟨e, he, hiff⟩ := eqAt_int A.in1 ⟨hp, g, d, tk, os⟩ a t c u
          refine wpAny_bind (he prog w _ _ ?_)
          cases e with
          | true =>
            rw [if_pos (hiff.mp rfl)] at hR
            wp_walk
            exact ⟨rfl, rfl, _, _, _, _, hrest, hvi', hwi', by omega, hR⟩
          | false =>
            rw [if_neg (fun q => absurd (hiff.mpr q) Bool.false_ne_true)] at hR
            have hri := rcLt_int A.in1 ⟨hp, g, d, tk, os⟩ a t c u prog w
            wp_walk using hri
            exact ⟨_, rfl, by simpa using hR⟩
    case fin =>
      rintro ⟨b1, b2⟩ s' ⟨hb', rfl, vs, ws, ns', ms', hz, hvi, hwi, hlen, hR⟩
      simp only at hb'
      subst hb'
      have hv : lexLt ns' ms' = decide (items.size < items2.size) := by
        cases hvi with
        | nil =>
          cases hwi with
          | nil =>
            simp only [List.length_nil] at hlen
            rw [lexLt_nil_nil]
            exact (decide_eq_false (by omega)).symm
          | cons c u hw =>
            simp only [List.length_nil, List.length_cons] at hlen
            rw [lexLt_nil_cons]
            exact (decide_eq_true (by omega)).symm
        | cons a t hv =>
          cases hwi with
          | nil =>
            simp only [List.length_nil, List.length_cons] at hlen
            rw [lexLt_cons_nil]
            exact (decide_eq_false (by omega)).symm
          | cons c u hw =>
            rw [List.zip_cons_cons] at hz
            cases hz
      rw [hv] at hR
      wp_walk
      exact ⟨_, rfl, by simpa [Builtin.Tuple.tupleCompareSizes] using hR⟩
    case h =>
      exact ⟨rfl, rfl, items.toList, items2.toList, ns, ms, rfl, hi, hj, by omega, h⟩
end

section
variable {prog : Program} {w : World} {A : Around} {E : Value → Shared → Prop} {s : Shared}

theorem lt_tupInts {l b : Addr} {items items2 : Array Value} {ns ms : List Int} {Q : Value → Shared → Prop} (hl : IsTup s.heap l items) (hb : IsTup s.heap b items2) (hi : IntsAre items.toList ns) (hj : IntsAre items2.toList ms)
    (hu : A.units < cLine) (h : Q (.bool (lexLt ns ms)) s) : wpAny (model prog w) A (compareOp .Lt (.ref l) (.ref b)) Q E s := by
  obtain ⟨⟨cls, dd, data, sl⟩, ho, hc, n, hd⟩ := id hl
  obtain ⟨⟨cls2, dd2, data2, sl2⟩, ho2, hc2, n2, hd2⟩ := id hb
  simp only at hc hd hc2 hd2
  subst hc hd hc2 hd2
  exact richCompare_meets_room (op := .Lt) ⟨_, ho, rfl⟩ ⟨_, ho2, rfl⟩ PySem.F.slot_tuple_lt PySem.F.entry_tuple_lt (PySem.F.args_tuple_lt_2 _ _) (tuple_lt_ints l b items items2 n n2 dd dd2 sl sl2 ns ms hi hj)
    ⟨ho, ho2, show Value.bool (lexLt ns ms) ≠ Value.notImplemented ∧ Q (.bool (lexLt ns ms)) s from ⟨(fun x => nomatch x), h⟩⟩ hu

/-- t + u, t not empty -/
theorem cat_tup {t b : Addr} {vs ws : List Value} {Q : Value → Shared → Prop} (ht : IsTup s.heap t vs.toArray) (hb : IsTup s.heap b ws.toArray) (hv : vs ≠ [])
    (h1 : ws = [] → Q (.ref t) s) (h2 : ws ≠ [] → Q (.ref s.heap.objs.size) { s with heap := s.heap.push { cls := .type "tuple", data := .seq (vs ++ ws).toArray } })
    (hsz : vs.length + ws.length ≤ sizeLine) : wpAny (model prog w) A (binaryOp .Add (.ref t) (.ref b)) Q E s := by
  obtain ⟨⟨cls, dd, data, sl⟩, ho, hc, n, hd⟩ := id ht
  obtain ⟨⟨cls2, dd2, data2, sl2⟩, ho2, hc2, n2, hd2⟩ := id hb
  simp only at hc hd hc2 hd2
  subst hc hd hc2 hd2
  have e : vs.toArray ++ ws.toArray = (vs ++ ws).toArray := by simp
  by_cases hw : ws = []
  · exact concat_meets ⟨_, ho, rfl⟩ ⟨_, ho2, rfl⟩ noFill_tuple_add seq_tuple_add PySem.F.slot_tuple_add PySem.F.entry_tuple_add (PySem.F.args_tuple_add_2 _ _)
      (tuple_addW1 t b vs.toArray ws.toArray n n2 dd dd2 sl sl2 (by simpa using hv) (by simp [hw])) ⟨ho, ho2, h1 hw⟩
  · refine concat_meets ⟨_, ho, rfl⟩ ⟨_, ho2, rfl⟩ noFill_tuple_add seq_tuple_add PySem.F.slot_tuple_add PySem.F.entry_tuple_add (PySem.F.args_tuple_add_2 _ _)
      (tuple_addW2 t b vs.toArray ws.toArray n n2 dd dd2 sl sl2 (by simpa using hv) (by simpa using hw) (by rw [List.size_toArray, List.size_toArray]; exact hsz)) ⟨ho, ho2, ?_⟩
    rw [e]
    exact h2 hw

/-! ### t[a:b], not the whole -/
/-- a slice's bound as a place among n (d where it is left out) -/
def sIx (n d : Nat) : Option Int → Nat
  | none => d
  | some v => if v < 0 then (v + (n : Int)).toNat else min v.toNat n
theorem sIx_none (n d : Nat) : sIx n d none = d := rfl
theorem sIx_nat (n d k : Nat) : sIx n d (some (k : Int)) = min k n := by
  show (if (k : Int) < 0 then ((k : Int) + (n : Int)).toNat else min (k : Int).toNat n) = min k n
  rw [if_neg (by omega), Int.toNat_natCast]
theorem sIx_le (n d : Nat) (hd : d ≤ n) (o : Option Int) : sIx n d o ≤ n := by
  cases o with
  | none => exact hd
  | some v =>
    show (if v < 0 then (v + (n : Int)).toNat else min v.toNat n) ≤ n
    by_cases hv : v < 0
    · rw [if_pos hv]; omega
    · rw [if_neg hv]; exact Nat.min_le_right _ _
theorem clip_eq (v : Int) (n d : Nat) : (if v < 0 then max (v + (n : Int)) 0 else min v (n : Int)) = ((sIx n d (some v) : Nat) : Int) := by
  show (if v < 0 then max (v + (n : Int)) 0 else min v (n : Int)) = (((if v < 0 then (v + (n : Int)).toNat else min v.toNat n) : Nat) : Int)
  by_cases hv : v < 0
  · simp only [if_pos hv]; omega
  · simp only [if_neg hv]; omega
theorem adjust_gen (lo hi : Option Int) (n : Nat) : Builtin.Slice.sliceAdjust lo hi 1 (n : Int) = (((sIx n 0 lo : Nat) : Int), ((sIx n n hi : Nat) : Int)) := by
  have h1 : ¬ ((1 : Int) < 0) := by omega
  unfold Builtin.Slice.sliceAdjust
  simp only [h1, if_false]
  refine Prod.ext ?_ ?_
  · cases lo with
    | none => rfl
    | some v => exact clip_eq v n 0
  · cases hi with
    | none => rfl
    | some v => exact clip_eq v n n
theorem places_gen (i j : Nat) : Builtin.Slice.slicePlaces (i : Int) (j : Int) 1 = j - i := by
  unfold Builtin.Slice.slicePlaces
  have h1 : (1 : Int) > 0 := by omega
  simp only [h1, if_true, Int.ediv_one]
  split <;> omega
theorem slicePart_ {v : Value} {o : Option Int} {Q : Option Int → Shared → Prop} (p : IsPart v o) (h : Q o s) : wpAny (model prog w) A (Builtin.Slice.slicePartIndex v) Q E s := by
  cases p with
  | none => exact slicePart_none h
  | int i t => exact slicePart_int h
theorem sliceApplied_gen {sl : Addr} {vl vu : Value} {lo hi : Option Int} {n : Nat} {Q : Int × Int × Nat → Shared → Prop} (hs : s.heap.IsSliceOf sl vl vu .none) (pl : IsPart vl lo) (pu : IsPart vu hi)
    (h : Q (((sIx n 0 lo : Nat) : Int), 1, sIx n n hi - sIx n 0 lo) s) : wpAny (model prog w) A (Builtin.Slice.sliceApplied (.ref sl) (pure (n : Int))) Q E s := by
  obtain ⟨os, hos, hcs, hds⟩ := id hs
  unfold Builtin.Slice.sliceApplied Builtin.Slice.sliceFields
  refine wpAny_bind (wpAny_bind (wpAny_field hos hds (x := vl) rfl (wpAny_bind (wpAny_field hos hds (x := vu) rfl (wpAny_bind (wpAny_field hos hds (x := .none) rfl (wpAny_pure ?_)))))))
  refine wpAny_bind (slicePart_none ?_)
  show wpAny _ _ (if ((1 : Int) == 0) = true then _ else _) _ _ s
  rw [if_neg (by decide)]
  refine wpAny_bind (slicePart_ pl (wpAny_bind (slicePart_ pu (wpAny_bind (wpAny_pure ?_)))))
  show wpAny _ _ (match Builtin.Slice.sliceAdjust lo hi 1 (n : Int) with | (lo, hi) => pure (lo, (1 : Int), Builtin.Slice.slicePlaces lo hi 1)) _ _ s
  rw [adjust_gen lo hi n]
  show wpAny _ _ (pure (((sIx n 0 lo : Nat) : Int), (1 : Int), Builtin.Slice.slicePlaces ((sIx n 0 lo : Nat) : Int) ((sIx n n hi : Nat) : Int) 1)) _ _ s
  rw [places_gen]
  exact wpAny_pure h
theorem pick_gen (xs : Array Value) (i k : Nat) : ((List.range k).filterMap fun (m : Nat) => xs[((i : Int) + (m : Int) * 1).toNat]?).toArray = ((xs.toList.drop i).take k).toArray := by
  have e : (fun (m : Nat) => xs[((i : Int) + (m : Int) * 1).toNat]?) = fun m => xs[i + m]? := by
    funext m
    have : ((i : Int) + (m : Int) * 1).toNat = i + m := by omega
    rw [this]
  rw [e]
  have := pick_run xs i k
  rw [List.filterMap_map] at this
  have e2 : ((fun x => xs[x]?) ∘ fun x => i + x) = fun m => xs[i + m]? := rfl
  rw [e2] at this
  rw [this]

theorem getItem_tuple_cut {t sl : Addr} {items : Array Value} {vl vu : Value} {lo hi : Option Int} {Q : Value → Shared → Prop} (ht : IsTup s.heap t items) (hs : s.heap.IsSliceOf sl vl vu .none) (pl : IsPart vl lo) (pu : IsPart vu hi)
    (hw : ¬ (sIx items.size 0 lo = 0 ∧ sIx items.size items.size hi = items.size))
    (h : Q (.ref s.heap.objs.size) { s with heap := s.heap.push { cls := .type "tuple", data := .seq ((items.toList.drop (sIx items.size 0 lo)).take (sIx items.size items.size hi - sIx items.size 0 lo)).toArray } })
    (hsz : items.size ≤ sizeLine) : wpAny (model prog w) A (getItem (.ref t) (.ref sl)) Q E s := by
  have htake : sizeOk (.seq ((items.toList.drop (sIx items.size 0 lo)).take (sIx items.size items.size hi - sIx items.size 0 lo)).toArray) := by
    show ((items.toList.drop (sIx items.size 0 lo)).take (sIx items.size items.size hi - sIx items.size 0 lo)).toArray.size ≤ sizeLine
    rw [List.size_toArray, List.length_take, List.length_drop, Array.length_toList]
    omega
  have hj : sIx items.size items.size hi ≤ items.size := sIx_le _ _ (Nat.le_refl _) hi
  obtain ⟨os, hos, hcs, hds⟩ := id hs
  have hTs : s.TypeIs (.ref sl) "slice" := ⟨os, hos, hcs⟩
  unfold getItem
  try with_reducible refine wpAny_holding ?_
  first | refine wpAny_bind (wpAny_pure ?_) | skip
  refine wpAny_bind (wpAny_sequenceKey ht.typeIs (by decide) ?_)
  refine wpAny_bind (wpAny_callSpecial?_slot (name := Str.ofString "__getitem__") ht.typeIs PyProof.Rows.slot_tuple_getitem
    (wpAny_call_entry PyProof.Rows.slot_tuple_getitem ht.typeIs entry_tuple_getitem ?_ (args_tuple_getitem _ _)))
  show wpAny _ _ (Builtin.Tuple.tupleItemsOf (.ref t) >>= _) _ _ s
  refine wpAny_bind (tupleItemsOf_ ht ?_)
  refine wpAny_bind (wpAny_typeOf hTs ?_)
  rw [if_pos (by decide)]
  refine wpAny_bind (sliceApplied_gen hs pl pu ?_)
  have hno : ¬ ((((sIx items.size 0 lo : Nat) : Int) == 0 && (1 : Int) == 1 && (sIx items.size items.size hi - sIx items.size 0 lo) == items.size) = true) := by
    intro q
    rw [Bool.and_eq_true, Bool.and_eq_true] at q
    have q1 : ((sIx items.size 0 lo : Nat) : Int) = 0 := eq_of_beq q.1.1
    have q2 : sIx items.size items.size hi - sIx items.size 0 lo = items.size := eq_of_beq q.2
    exact hw ⟨by omega, by omega⟩
  show wpAny _ _ (if (((sIx items.size 0 lo : Nat) : Int) == 0 && (1 : Int) == 1 && (sIx items.size items.size hi - sIx items.size 0 lo) == items.size) = true then _ else _) _ _ s
  rw [if_neg hno, pick_gen]
  first
    | exact wpAny_bind (m := Builtin.Tuple.tupleExact _) (wpAny_newObj_type (wpAny_pure ⟨_, rfl, wpAny_pure h⟩) htake)
    | exact wpAny_bind (m := Builtin.Tuple.tupleExact _) (wpAny_newObj_type (wpAny_bind (wpAny_pure (wpAny_pure ⟨_, rfl, wpAny_pure h⟩))) htake)
    | exact wpAny_bind (wpAny_bind (m := Builtin.Tuple.tupleExact _) (wpAny_newObj_type (wpAny_pure (wpAny_pure ⟨_, rfl, wpAny_pure h⟩)) htake))
    | exact wpAny_bind (wpAny_bind (m := Builtin.Tuple.tupleExact _) (wpAny_newObj_type (wpAny_pure ⟨_, rfl, wpAny_pure h⟩) htake))
end
end HT

namespace L2
open PySem PySem.Spec PyProof.Rows

/-! ### the parts of a slice -/
abbrev TO := St → Hp → (Option Int → Hp → Prop) → Prop
/-- a slice's part (left out, or an int) -/
def PO (X : Cx) (e : Option Expr) (t : TO) : Prop :=
  ∀ (pins : List (Addr × Obj)) (s : Shared) (σ : St) (H : Hp) (Q : Option Int → Hp → Prop), Inv X pins σ H s → t σ H Q →
    wpAny (model X.prog X.w) X.A (evalPart e X.env) (fun u s' => ∃ o H', Inv X pins σ H' s' ∧ IsPart u o ∧ Q o H') X.xe s
def tNoPart : TO := fun _ H Q => Q none H
def tPart (t : TE) : TO := fun σ H Q => t σ H fun x H1 => ∃ i, x = .int i ∧ Q (some i) H1

theorem intsAre_of {ns : List Int} : ∀ {us : List Value}, Vals (ns.map V.int) us → IntsAre us ns := by
  induction ns with
  | nil => intro us r; rw [List.map_nil] at r; cases r; exact .nil
  | cons n ns ih =>
    intro us r
    rw [List.map_cons] at r
    cases r with
    | cons r1 r2 =>
      obtain ⟨t, e⟩ := r1
      subst e
      exact .cons n t (ih r2)

section
variable {X : Cx} {e : Expr} {te : TE} {lo hi : Option Expr} {tl th : TO} {pos p2 : Pos}

theorem po_none : PO X none tNoPart := by
  intro pins s σ H Q I h
  rw [evalPart_none]
  exact wpAny_pure ⟨none, H, I, .none, h⟩
theorem po_some (h : PE X e te) : PO X (some e) (tPart te) := by
  intro pins s σ H Q I hw
  rw [evalPart_some]
  refine thn (h pins s σ H _ I hw) fun u s1 ⟨x, H1, I1, r1, q1⟩ => ?_
  obtain ⟨i, rfl, q⟩ := q1
  obtain ⟨t, rfl⟩ := r1
  exact ⟨some i, H1, I1, .int i t, q⟩

/-- what a slice of a value is, by values: the slice object stands at sl -/
def SlR (X : Cx) (r : V → Option Int → Option Int → Hp → VK → Prop) : Prop :=
  ∀ (pins : List (Addr × Obj)) (s : Shared) (σ : St) (H : Hp) (x : V) (v vl vu : Value) (lo hi : Option Int) (sl : Addr) (Q : VK), Inv X pins σ H s → RelV x v → s.heap.IsSliceOf sl vl vu .none → IsPart vl lo → IsPart vu hi → r x lo hi H Q →
    ∃ T id, typeLookup (.type T) "__getitem__" = pure (some (.builtin id)) ∧ s.TypeIs v T ∧ wpAny (model X.prog X.w) X.A (getItem v (.ref sl)) (EP X pins σ Q) X.xe s
theorem SlR.or {r r' : V → Option Int → Option Int → Hp → VK → Prop} (h : SlR X r) (h' : SlR X r') : SlR X (fun x lo hi H Q => r x lo hi H Q ∨ r' x lo hi H Q) := by
  intro pins s σ H x v vl vu lo hi sl Q I rx hs pl pu q
  rcases q with q | q
  · exact h pins s σ H x v vl vu lo hi sl Q I rx hs pl pu q
  · exact h' pins s σ H x v vl vu lo hi sl Q I rx hs pl pu q
def tSl (r : V → Option Int → Option Int → Hp → VK → Prop) (te : TE) (tl th : TO) : TE := fun σ H Q => te σ H fun x H1 => tl σ H1 fun l H2 => th σ H2 fun u H3 => r x l u H3 Q
/-- a[lo:hi], any a -/
theorem pe_slice {r : V → Option Int → Option Int → Hp → VK → Prop} (hr : SlR X r) (he : PE X e te) (hl : PO X lo tl) (hu : PO X hi th) : PE X (.Subscript e (.Slice lo hi none p2) pos) (tSl r te tl th) := by
  intro pins s σ H Q I h
  refine Subscript_ (thn (he pins s σ H _ I h) fun v s1 ⟨x, H1, I1, r1, q1⟩ => ?_)
  refine wpAny_Slice (thn (hl pins s1 σ H1 _ I1 q1) fun vl s2 ⟨l, H2, I2, pl, q2⟩ => thn (hu pins s2 σ H2 _ I2 q2) fun vu s3 ⟨u, H3, I3, pu, q3⟩ => ?_)
  rw [evalPart_none]
  refine wpAny_pure ?_
  have I4 : Inv X pins σ H3 { s3 with heap := s3.heap.push { cls := .type "slice", data := .fields #[vl, vu, .none] } } := I3.kept (t' := s3.toks) fun b ob q => Heap.get?_push_of_some _ q
  obtain ⟨T, id, hT, ht, hg⟩ := hr pins { s3 with heap := s3.heap.push { cls := .type "slice", data := .fields #[vl, vu, .none] } } σ H3 x v vl vu l u s3.heap.objs.size Q I4 r1 (Heap.IsSliceOf.new ..) pl pu q3
  show wpAny (model X.prog X.w) X.A (subscriptTail e (.Slice lo hi none p2) v (.ref s3.heap.objs.size)) (EP X pins σ Q) X.xe { s3 with heap := s3.heap.push { cls := .type "slice", data := .fields #[vl, vu, .none] } }
  exact tail_any (ops := [.ref s3.heap.objs.size, v]) ht hT hg (by with_unfolding_all rfl)

/-- the items of xs[lo:hi] -/
def cutV (xs : List V) (lo hi : Option Int) : List V := (xs.drop (HT.sIx xs.length 0 lo)).take (HT.sIx xs.length xs.length hi - HT.sIx xs.length 0 lo)
theorem cutV_length (xs : List V) (lo hi : Option Int) : (cutV xs lo hi).length ≤ xs.length := by
  unfold cutV
  rw [List.length_take, List.length_drop]
  omega
/-- t[lo:hi], not the whole of it (the whole would be t itself) -/
def rSlT (K : PySem.W.Frag) : V → Option Int → Option Int → Hp → VK → Prop := fun x lo hi H Q => ∃ a xs, x = .ref a ∧ SqT K H a xs ∧
  ¬ (HT.sIx xs.length 0 lo = 0 ∧ HT.sIx xs.length xs.length hi = xs.length) ∧ ∀ p, H p = none → Q (.ref p) (upd H p (.tup (cutV xs lo hi)))
theorem sl_tup : SlR X (rSlT X.K) := by
  intro pins s σ H x v vl vu lo hi sl Q I rx hs pl pu h
  obtain ⟨a, xs, rfl, hx, hw, q⟩ := h
  cases rx
  obtain ⟨its, r, ht, hz⟩ := I.tuple hx
  have hlen : its.toArray.size = xs.length := by rw [List.size_toArray]; exact r.length.symm
  refine ⟨"tuple", _, PyProof.Rows.slot_tuple_getitem.lookup, ht.typeIs, ?_⟩
  refine HT.getItem_tuple_cut ht hs pl pu (by rw [hlen]; exact hw) ?_ (by rw [hlen]; exact hz)
  rw [hlen]
  refine ⟨.ref s.heap.objs.size, _, I.laid (t' := s.toks) (o := .tup (cutV xs lo hi)) (fun b ob q => Heap.get?_push_of_some _ q) (Nat.le_refl _) ?_, rfl, q _ (I.hok.fresh (Nat.le_refl _))⟩
  exact ⟨Nat.le_trans (cutV_length xs lo hi) hz, _, (r.drop (HT.sIx xs.length 0 lo)).take (HT.sIx xs.length xs.length hi - HT.sIx xs.length 0 lo), IsTup.new _ _⟩

/-! ### t < u, t + u -/
def rLtT (K : PySem.W.Frag) : R2 := fun x y H Q => ∃ a b ns ms, x = .ref a ∧ y = .ref b ∧ SqT K H a (ns.map V.int) ∧ SqT K H b (ms.map V.int) ∧ Q (.bl (HT.lexLt ns ms)) H
theorem op_ltT (hu : X.A.units < cLine) : OpR X (compareOp .Lt) (rLtT X.K) := by
  intro pins s σ H x y v u Q I rx ry h
  obtain ⟨a, b, ns, ms, rfl, rfl, ha, hb, q⟩ := h
  cases rx
  cases ry
  obtain ⟨its, r1, p1, _⟩ := I.tuple ha
  obtain ⟨its2, r2, p2, _⟩ := I.tuple hb
  have i1 : IntsAre its.toArray.toList ns := intsAre_of r1
  have i2 : IntsAre its2.toArray.toList ms := intsAre_of r2
  exact HT.lt_tupInts p1 p2 i1 i2 hu ⟨.bl (HT.lexLt ns ms), H, I, rfl, q⟩
/-- t + u, t not empty: u empty gives t itself -/
def rCatT (K : PySem.W.Frag) : R2 := fun x y H Q => ∃ a b xs ys, x = .ref a ∧ y = .ref b ∧ SqT K H a xs ∧ SqT K H b ys ∧ xs ≠ [] ∧ xs.length + ys.length ≤ sizeLine ∧
  (ys = [] → Q (.ref a) H) ∧ (ys ≠ [] → ∀ p, H p = none → Q (.ref p) (upd H p (.tup (xs ++ ys))))
theorem Vals.nil_iff {xs : List V} {us : List Value} (r : Vals xs us) : us = [] ↔ xs = [] := by
  cases r with
  | nil => simp
  | cons _ _ => simp
theorem op_catT : OpR X (binaryOp .Add) (rCatT X.K) := by
  intro pins s σ H x y v u Q I rx ry h
  obtain ⟨a, b, xs, ys, rfl, rfl, ha, hb, hx, hz, q1, q2⟩ := h
  cases rx
  cases ry
  obtain ⟨its, r1, p1, _⟩ := I.tuple ha
  obtain ⟨its2, r2, p2, _⟩ := I.tuple hb
  refine HT.cat_tup p1 p2 (fun z => hx (r1.nil_iff.mp z)) (fun z => ⟨.ref a, H, I, rfl, q1 (r2.nil_iff.mp z)⟩) (fun z => ?_) (by rw [← r1.length, ← r2.length]; exact hz)
  refine ⟨.ref s.heap.objs.size, _, I.laid (t' := s.toks) (o := .tup (xs ++ ys)) (fun b ob q => Heap.get?_push_of_some _ q) (Nat.le_refl _) ?_, rfl, q2 (fun w => z (r2.nil_iff.mpr w)) _ (I.hok.fresh (Nat.le_refl _))⟩
  exact ⟨by rw [List.length_append]; exact hz, _, r1.append r2, IsTup.new _ _⟩
/-- tuple(t) -/
theorem call_tupleT : CallR X (.type "tuple") (fun xs H Q => ∃ a ys, xs = [.ref a] ∧ SqT X.K H a ys ∧ Q (.ref a) H) := by
  intro pins s σ H xs us Q I r h
  obtain ⟨a, ys, rfl, ha, q⟩ := h
  obtain ⟨u, rfl, ru⟩ := vals1 r
  cases ru
  obtain ⟨its, _, p1, _⟩ := I.tuple ha
  exact call_tuple_same (items := its.toArray) p1 ⟨.ref a, H, I, rfl, q⟩
end
end L2

namespace L2
open PySem PySem.Spec PyProof.Rows

/-! ### places -/
/-- the place that an index of any sign means -/
def ixN (n : Nat) (i : Int) : Option Nat := if 0 ≤ i then (if i < n then some i.toNat else none) else if -(n : Int) ≤ i then some (i + n).toNat else none
def atI {α : Type} (xs : List α) (i : Int) : Option α := (ixN xs.length i).bind fun j => xs[j]?
theorem ixN_seq {n : Nat} {i : Int} {j : Nat} (h : ixN n i = some j) : seqIndex? i n = some j ∧ j < n ∧ -(n : Int) ≤ i ∧ i < n := by
  unfold ixN at h
  by_cases h0 : 0 ≤ i
  · rw [if_pos h0] at h
    by_cases h1 : i < n
    · rw [if_pos h1] at h
      have e : i.toNat = j := Option.some.inj h
      exact ⟨by rw [seqIndex_of h0 h1, e], by omega, by omega, h1⟩
    · rw [if_neg h1] at h; cases h
  · rw [if_neg h0] at h
    by_cases h1 : -(n : Int) ≤ i
    · rw [if_pos h1] at h
      have e : (i + n).toNat = j := Option.some.inj h
      exact ⟨by rw [seqIndex_neg (by omega) h1, e], by omega, h1, by omega⟩
    · rw [if_neg h1] at h; cases h
theorem atI_get {α : Type} {xs : List α} {i : Int} {v : α} (h : atI xs i = some v) : ∃ j, seqIndex? i xs.length = some j ∧ xs[j]? = some v ∧ j < xs.length ∧ -(xs.length : Int) ≤ i ∧ i < xs.length := by
  unfold atI at h
  cases e : ixN xs.length i with
  | none => rw [e] at h; cases h
  | some j =>
    rw [e] at h
    obtain ⟨h1, h2, h3, h4⟩ := ixN_seq e
    exact ⟨j, h1, h, h2, h3, h4⟩
theorem atI_nat {α : Type} {xs : List α} {j : Nat} {v : α} (h : xs[j]? = some v) : atI xs (j : Int) = some v := by
  have hj : j < xs.length := (List.getElem?_eq_some_iff.mp h).1
  have e : ixN xs.length (j : Int) = some j := by
    unfold ixN
    rw [if_pos (by omega), if_pos (by omega)]; simp
  unfold atI; rw [e]; exact h
theorem atI_last {α : Type} (xs : List α) (v : α) : atI (xs ++ [v]) (-1) = some v := by
  have hl : (xs ++ [v]).length = xs.length + 1 := by simp
  have e : ixN (xs ++ [v]).length (-1) = some xs.length := by
    unfold ixN
    rw [hl, if_neg (by decide), if_pos (by omega)]
    congr 1
    omega
  unfold atI
  rw [e]
  show (xs ++ [v])[xs.length]? = some v
  simp

/-! ### what may be subscripted -/
/-- what stands as an index of a plain subscript -/
def PlainIx (b : Expr) : Prop := ∀ o i, subscripted b false o i = operate [o, i] (getItem o i)
/-- a subscript by values -/
def IxR (X : Cx) (r : R2) : Prop :=
  ∀ (value slice : Expr) (pins : List (Addr × Obj)) (s : Shared) (σ : St) (H : Hp) (x y : V) (v u : Value) (Q : VK), Inv X pins σ H s → RelV x v → RelV y u → r x y H Q →
    subscripted slice false v u = operate [v, u] (getItem v u) → wpAny (model X.prog X.w) X.A (subscriptTail value slice v u) (EP X pins σ Q) X.xe s
/-- a call of a builtin's method by values: the receiver, the arguments -/
def MtR (X : Cx) (id : String) (r : V → List V → Hp → VK → Prop) : Prop :=
  ∀ (pins : List (Addr × Obj)) (s : Shared) (σ : St) (H : Hp) (x : V) (xs : List V) (v : Value) (us : List Value) (Q : VK), Inv X pins σ H s → RelV x v → Vals xs us → r x xs H Q →
    wpAny (model X.prog X.w) X.A (call (.builtin id) (v :: us)) (EP X pins σ Q) X.xe s
section
variable {X : Cx} {a b : Expr} {ta tb : TE} {pos : Pos}
theorem IxR.or {r r' : R2} (h : IxR X r) (h' : IxR X r') : IxR X (fun x y H Q => r x y H Q ∨ r' x y H Q) := by
  intro value slice pins s σ H x y v u Q I rx ry q hs
  rcases q with q | q
  · exact h value slice pins s σ H x y v u Q I rx ry q hs
  · exact h' value slice pins s σ H x y v u Q I rx ry q hs
theorem MtR.or {id : String} {r r' : V → List V → Hp → VK → Prop} (h : MtR X id r) (h' : MtR X id r') : MtR X id (fun x xs H Q => r x xs H Q ∨ r' x xs H Q) := by
  intro pins s σ H x xs v us Q I rx rs q
  rcases q with q | q
  · exact h pins s σ H x xs v us Q I rx rs q
  · exact h' pins s σ H x xs v us Q I rx rs q
/-- a[b] -/
theorem pe_ix {r : R2} (hr : IxR X r) (ha : PE X a ta) (hb : PE X b tb) (hs : PlainIx b) : PE X (.Subscript a b pos) (tOp r ta tb) := by
  intro pins s σ H Q I h
  exact Subscript_ (binT ha hb I h fun v u s2 x y H2 I2 rx ry q => hr a b pins s2 σ H2 x y v u Q I2 rx ry q (hs _ _))

def rIxL (K : PySem.W.Frag) : R2 := fun x y H Q => ∃ p xs i v, x = .ref p ∧ y = .int i ∧ SqL K H p xs ∧ atI xs i = some v ∧ Q v H
def rIxT (K : PySem.W.Frag) : R2 := fun x y H Q => ∃ p xs i v, x = .ref p ∧ y = .int i ∧ SqT K H p xs ∧ atI xs i = some v ∧ Q v H
def rIxS : R2 := fun x y H Q => ∃ z i c, x = .str z ∧ y = .int i ∧ z.length ≤ sizeLine ∧ atI z.cps.toList i = some c ∧ Q (.str ⟨#[c]⟩) H
theorem ix_list : IxR X (rIxL X.K) := by
  intro value slice pins s σ H x y v u Q I rx ry h hs
  obtain ⟨p, xs, i, z, rfl, rfl, hq, he, q⟩ := h
  cases rx
  obtain ⟨t, rfl⟩ := ry
  obtain ⟨its, r, pl, hz⟩ := I.list hq
  obtain ⟨j, h1, h2, h3, h4, h5⟩ := atI_get he
  obtain ⟨w, ew, rw'⟩ := r.get h2
  have hl := r.length
  have hn := line63
  have fin : EP X pins σ Q w s := ⟨z, H, I, rw', q⟩
  by_cases h0 : 0 ≤ i
  · have hj : i.toNat = j := by
      rw [seqIndex_of h0 h5] at h1
      exact Option.some.inj h1
    exact item_listR pl.isList h0 (by omega) (by rw [hj]; simpa using ew) fin hs
  · have hj : (i + (its.toArray.size : Int)).toNat = j := by
      rw [seqIndex_neg (by omega) h4] at h1
      rw [List.size_toArray, ← hl]
      exact Option.some.inj h1
    exact subscriptTail_builtinR (x := w) pl.isList.typeIs slot_list_getitem.lookup
      (wpAny_getItem_list_neg (Q := fun r s' => r = w ∧ EP X pins σ Q r s') pl.isList (by omega) (by rw [List.size_toArray] <;> omega) (by omega) (by rw [hj]; simpa using ew) ⟨rfl, fin⟩) hs
theorem ix_tup : IxR X (rIxT X.K) := by
  intro value slice pins s σ H x y v u Q I rx ry h hs
  obtain ⟨p, xs, i, z, rfl, rfl, hq, he, q⟩ := h
  cases rx
  obtain ⟨t, rfl⟩ := ry
  obtain ⟨its, r, pl, hz⟩ := I.tuple hq
  obtain ⟨j, h1, h2, h3, h4, h5⟩ := atI_get he
  obtain ⟨w, ew, rw'⟩ := r.get h2
  have hl := r.length
  have hn := line63
  have fin : EP X pins σ Q w s := ⟨z, H, I, rw', q⟩
  exact subscriptTail_builtinR (x := w) pl.typeIs slot_tuple_getitem.lookup
    (getItem_tuple (j := j) (Q := fun r s' => r = w ∧ EP X pins σ Q r s') pl (by omega) (by omega) (by rw [List.size_toArray, ← hl]; exact h1) (by simpa using ew) ⟨rfl, fin⟩) hs
theorem ix_str : IxR X rIxS := by
  intro value slice pins s σ H x y v u Q I rx ry h hs
  obtain ⟨z, i, c, rfl, rfl, hz, he, q⟩ := h
  obtain ⟨t, rfl⟩ := rx
  obtain ⟨t', rfl⟩ := ry
  obtain ⟨j, h1, h2, h3, h4, h5⟩ := atI_get he
  have hl : z.cps.toList.length = z.length := by simp [Str.length]
  rw [hl] at h1 h4 h5
  have hn := line63
  exact tail_any (typeIs_str s z t) slot_str_getitem.lookup (getItem_str (c := c) (by
    have e1 : decide (i < -(2 ^ 63 : Int)) = false := decide_eq_false (by omega)
    have e2 : decide (i ≥ 2 ^ 63) = false := decide_eq_false (by omega)
    rw [e1, e2, Bool.or_false]) (by rw [h1]; simpa using h2) ⟨.str ⟨#[c]⟩, H, I.tok _, ⟨_, rfl⟩, q⟩) hs
/-- list, tuple or str -/
def rIx (K : PySem.W.Frag) : R2 := fun x y H Q => rIxL K x y H Q ∨ rIxT K x y H Q ∨ rIxS x y H Q
theorem ix_seq : IxR X (rIx X.K) := ix_list.or (ix_tup.or ix_str)

/-! ### xs[i] = v, any sign -/
/-- the list's object behind a store -/
theorem mapSeq_set (its : List Value) (n j : Nat) (u : Value) : Obj.mapSeq (·.setIfInBounds j u) { cls := .type "list", data := .seq its.toArray n } = { cls := .type "list", data := .seq (its.set j u).toArray n } := by
  simp [Obj.mapSeq]
theorem Inv.lst {pins : List (Addr × Obj)} {σ : St} {H : Hp} {s : Shared} {p : Addr} {xs : List V} (I : Inv X pins σ H s) (h : H p = some (.lst xs)) :
    ∃ (its : List Value) (n : Nat), Vals xs its ∧ s.heap.get? p = some { cls := .type "list", data := .seq its.toArray n } ∧ xs.length ≤ sizeLine := by
  obtain ⟨z, its, n, r, e⟩ := I.hok p _ h
  exact ⟨its, n, r, e, z⟩
/-- the list at p is written by an update of its object -/
theorem Inv.lstUpd {pins : List (Addr × Obj)} {σ : St} {H : Hp} {s : Shared} {p : Addr} {xs ys : List V} {its its' : List Value} {n n' : Nat} {f : Obj → Obj} (I : Inv X pins σ H s) (h : H p = some (.lst xs))
    (ho : s.heap.get? p = some { cls := .type "list", data := .seq its.toArray n }) (hf : f { cls := .type "list", data := .seq its.toArray n } = { cls := .type "list", data := .seq its'.toArray n' }) (r : Vals ys its') (hz : ys.length ≤ sizeLine) (t : Nat) :
    Inv X pins σ (upd H p (.lst ys)) { s with heap := s.heap.update p f, toks := t } := by
  have e : (s.heap.update p f).get? p = some { cls := .type "list", data := .seq its'.toArray n' } := by
    rw [Heap.get?_update_self f ho (by rw [hf] <;> rfl), hf]
  refine I.write (x := p) (e := p) (by rw [h]; trivial) (.inl rfl) (fun b u hb q => (Heap.get?_update_other _ _ (Ne.symm hb)).trans q) ⟨_, e⟩ ?_
  exact ⟨hz, its', n', r, e⟩
def rSetL : V → V → V → Hp → (Hp → Prop) → Prop := fun o i v H Q => ∃ p xs k j, o = .ref p ∧ i = .int k ∧ H p = some (.lst xs) ∧ ixN xs.length k = some j ∧ Q (upd H p (.lst (xs.set j v)))
theorem set_list : PSet X rSetL := by
  intro pins s σ H o i v ov iv u Q I ro ri rv h
  obtain ⟨p, xs, k, j, rfl, rfl, hp, hj, q⟩ := h
  cases ro
  obtain ⟨t, rfl⟩ := ri
  obtain ⟨its, n, r, ho, hz⟩ := I.lst hp
  obtain ⟨h1, h2, h3, h4⟩ := ixN_seq hj
  have hl := r.length
  have hn := line63
  have I' : Inv X pins σ (upd H p (.lst (xs.set j v))) { s with heap := s.heap.update p (Obj.mapSeq (·.setIfInBounds j u)) } :=
    I.lstUpd hp ho (mapSeq_set its n j u) (r.set rv j) (by rw [List.length_set]; exact hz) s.toks
  by_cases h0 : 0 ≤ k
  · have hk : k.toNat = j := by
      rw [seqIndex_of h0 h4] at h1
      exact Option.some.inj h1
    exact PySem.W.ki_setAt ho h0 (by omega) (by rw [List.size_toArray, ← hl]; exact h4) (by rw [hk]; exact ⟨_, I', q⟩)
  · have hk : (k + (its.toArray.size : Int)).toNat = j := by
      rw [seqIndex_neg (by omega) h3] at h1
      rw [List.size_toArray, ← hl]
      exact Option.some.inj h1
    exact PySem.W.ki_setBack ho (by omega) (by rw [List.size_toArray, ← hl]; exact h3) (by omega) (by rw [hk]; exact ⟨_, I', q⟩)

/-! ### slices -/
theorem slice_bounds (lo hi : Option Int) (n : Nat) : (sliceBounds lo hi none n).1 = ((HT.sIx n 0 lo : Nat) : Int) ∧ (sliceBounds lo hi none n).2.1 = ((HT.sIx n n hi : Nat) : Int) ∧ (sliceBounds lo hi none n).2.2 = 1 := by
  refine ⟨?_, ?_, rfl⟩
  · cases lo with
    | none => simp [sliceBounds, HT.sIx]
    | some i =>
      simp only [sliceBounds, HT.sIx, Option.getD_none, show (1 : Int) > 0 by decide, if_true]
      by_cases h : i < 0
      · simp only [h, if_true] <;> omega
      · simp only [h, if_false] <;> omega
  · cases hi with
    | none => simp [sliceBounds, HT.sIx]
    | some i =>
      simp only [sliceBounds, HT.sIx, Option.getD_none, show (1 : Int) > 0 by decide, if_true]
      by_cases h : i < 0
      · simp only [h, if_true] <;> omega
      · simp only [h, if_false] <;> omega
theorem slicePick_cut (its : List Value) (lo hi : Option Int) : slicePick its.toArray lo hi none = ((its.drop (HT.sIx its.length 0 lo)).take (HT.sIx its.length its.length hi - HT.sIx its.length 0 lo)).toArray := by
  obtain ⟨h1, h2, h3⟩ := slice_bounds lo hi its.toArray.size
  unfold slicePick
  rw [h1, h2, h3]
  simp only [sliceRange_one, pick_run, List.size_toArray] <;> rfl
/-- xs[lo:hi] of a list: a new list -/
def rSlL (K : PySem.W.Frag) : V → Option Int → Option Int → Hp → VK → Prop := fun x lo hi H Q => ∃ a xs, x = .ref a ∧ SqL K H a xs ∧ ∀ p, H p = none → Q (.ref p) (upd H p (.lst (cutV xs lo hi)))
theorem sl_list : SlR X (rSlL X.K) := by
  intro pins s σ H x v vl vu lo hi sl Q I rx hs pl pu h
  obtain ⟨a, xs, rfl, hx, q⟩ := h
  cases rx
  obtain ⟨its, r, ht, hz⟩ := I.list hx
  have hlen := r.length
  refine ⟨"list", _, slot_list_getitem.lookup, ht.isList.typeIs, ?_⟩
  refine wpAny_getItem_list_slice ht.isList hs pl pu .none (by simp) ?_ (by rw [List.size_toArray] <;> omega)
  rw [slicePick_cut, ← hlen]
  refine ⟨.ref s.heap.objs.size, _, I.laid (t' := s.toks) (o := .lst (cutV xs lo hi)) (fun b ob q => Heap.get?_push_of_some _ q) (Nat.le_refl _) ?_, rfl, q _ (I.hok.fresh (Nat.le_refl _))⟩
  exact ⟨Nat.le_trans (cutV_length xs lo hi) hz, _, 0, (r.drop (HT.sIx xs.length 0 lo)).take (HT.sIx xs.length xs.length hi - HT.sIx xs.length 0 lo), Heap.get?_push_size _ rfl⟩

/-! ### in, not in: flat items -/
def flatV : V → Bool
  | .non => true
  | .bl _ => true
  | .int _ => true
  | .str _ => true
  | _ => false
/-- == of flat values -/
def eqV : V → V → Bool
  | .non, .non => true
  | .bl a, .bl b => a == b
  | .bl a, .int b => (if a then 1 else 0) == b
  | .int a, .bl b => a == (if b then 1 else 0)
  | .int a, .int b => a == b
  | .str a, .str b => a == b
  | _, _ => false
theorem eqAt_V {A : Around} {s : Shared} {y x : V} {u v : Value} (ry : RelV y u) (rx : RelV x v) (fy : flatV y = true) (fx : flatV x = true) : SeqAt.EqAt A s u v (eqV y x) := by
  cases y with
  | non =>
    cases ry
    cases x with
    | non => cases rx; exact SeqAt.EqAt.same _
    | bl b => cases rx; exact SeqAt.EqAt.none_bool b
    | int b => obtain ⟨t, rfl⟩ := rx; exact SeqAt.EqAt.none_int b t
    | str b => obtain ⟨t, rfl⟩ := rx; exact SeqAt.EqAt.none_str b t
    | _ => exact absurd (show false = true from fx) Bool.false_ne_true
  | bl a =>
    cases ry
    cases x with
    | non => cases rx; exact SeqAt.EqAt.bool_none a
    | bl b => cases rx; exact SeqAt.EqAt.bool_bool a b
    | int b => obtain ⟨t, rfl⟩ := rx; exact SeqAt.EqAt.bool_int a b t
    | str b => obtain ⟨t, rfl⟩ := rx; exact SeqAt.EqAt.bool_str a b t
    | _ => exact absurd (show false = true from fx) Bool.false_ne_true
  | int a =>
    obtain ⟨t', rfl⟩ := ry
    cases x with
    | non => cases rx; exact SeqAt.EqAt.int_none a t'
    | bl b => cases rx; exact SeqAt.EqAt.int_bool a t' b
    | int b => obtain ⟨t, rfl⟩ := rx; exact SeqAt.EqAt.int_int a t' b t
    | str b => obtain ⟨t, rfl⟩ := rx; exact SeqAt.EqAt.int_str a t' b t
    | _ => exact absurd (show false = true from fx) Bool.false_ne_true
  | str a =>
    obtain ⟨t', rfl⟩ := ry
    cases x with
    | non => cases rx; exact SeqAt.EqAt.str_none a t'
    | bl b => cases rx; exact SeqAt.EqAt.str_bool a t' b
    | int b => obtain ⟨t, rfl⟩ := rx; exact SeqAt.EqAt.str_int a t' b t
    | str b => obtain ⟨t, rfl⟩ := rx; exact SeqAt.EqAt.str_str a t' b t
    | _ => exact absurd (show false = true from fx) Bool.false_ne_true
  | _ => exact absurd (show false = true from fy) Bool.false_ne_true
/-- the items' answers, read off the values (a value's own answer does not lean on its token) -/
def eqU (x : V) (u : Value) : Bool := match u with
  | .none => eqV .non x
  | .bool b => eqV (.bl b) x
  | .int i _ => eqV (.int i) x
  | .str z _ => eqV (.str z) x
  | _ => false
theorem eqU_of {x y : V} {u : Value} (r : RelV y u) (f : flatV y = true) : eqU x u = eqV y x := by
  cases y with
  | non => cases r; rfl
  | bl b => cases r; rfl
  | int i => obtain ⟨t, rfl⟩ := r; rfl
  | str z => obtain ⟨t, rfl⟩ := r; rfl
  | _ => exact absurd (show false = true from f) Bool.false_ne_true
theorem any_eqU {x : V} : ∀ {xs : List V} {us : List Value}, Vals xs us → xs.all flatV = true → us.any (eqU x) = xs.any fun y => eqV y x
  | _, _, .nil, _ => rfl
  | y :: xs, u :: us, .cons r t, f => by
    rw [List.all_cons, Bool.and_eq_true] at f
    rw [List.any_cons, List.any_cons, eqU_of r f.1, any_eqU t f.2]
theorem mem_eqAt {A : Around} {s : Shared} {x : V} {v : Value} (rx : RelV x v) (fx : flatV x = true) : ∀ {xs : List V} {us : List Value}, Vals xs us → xs.all flatV = true → ∀ u ∈ us, SeqAt.EqAt A s u v (eqU x u)
  | _, _, .nil, _ => fun u hu => by cases hu
  | y :: xs, u :: us, .cons r t, f => fun u' hu => by
    rw [List.all_cons, Bool.and_eq_true] at f
    rcases List.mem_cons.mp hu with rfl | hu
    · rw [eqU_of r f.1]; exact eqAt_V r rx f.1 fx
    · exact mem_eqAt rx fx t f.2 u' hu
def inV (x : V) (xs : List V) : Bool := xs.any fun y => eqV y x
/-- x in a list or tuple of flat items -/
def rIn (K : PySem.W.Frag) (neg : Bool) : R2 := fun x y H Q => ∃ p xs, y = .ref p ∧ (SqL K H p xs ∨ SqT K H p xs) ∧ flatV x = true ∧ xs.all flatV = true ∧ Q (.bl (if neg then !inV x xs else inV x xs)) H
theorem op_in_seq : OpR X (compareOp .In) (rIn X.K false) := by
  intro pins s σ H x y v u Q I rx ry h
  obtain ⟨p, xs, rfl, hq, fx, fs, q⟩ := h
  cases ry
  rcases hq with hq | hq
  · obtain ⟨its, r, pl, hz⟩ := I.list hq
    refine SeqAt.in_listAt (eqU x) pl.isList (fun w hw => mem_eqAt rx fx r fs w (by simpa using hw)) ⟨.bl _, H, I, rfl, ?_⟩
    rw [show its.toArray.any (eqU x) = its.any (eqU x) by simp, any_eqU r fs]
    exact q
  · obtain ⟨its, r, pl, hz⟩ := I.tuple hq
    refine SeqAt.in_tupleAt (eqU x) pl (fun w hw => mem_eqAt rx fx r fs w (by simpa using hw)) ⟨.bl _, H, I, rfl, ?_⟩
    rw [show its.toArray.any (eqU x) = its.any (eqU x) by simp, any_eqU r fs]
    exact q
theorem op_notIn_seq : OpR X (compareOp .NotIn) (rIn X.K true) := by
  intro pins s σ H x y v u Q I rx ry h
  obtain ⟨p, xs, rfl, hq, fx, fs, q⟩ := h
  cases ry
  rcases hq with hq | hq
  · obtain ⟨its, r, pl, hz⟩ := I.list hq
    refine SeqAt.notIn_listAt (eqU x) pl.isList (fun w hw => mem_eqAt rx fx r fs w (by simpa using hw)) ⟨.bl _, H, I, rfl, ?_⟩
    rw [show its.toArray.any (eqU x) = its.any (eqU x) by simp, any_eqU r fs]
    exact q
  · obtain ⟨its, r, pl, hz⟩ := I.tuple hq
    refine SeqAt.notIn_tupleAt (eqU x) pl (fun w hw => mem_eqAt rx fx r fs w (by simpa using hw)) ⟨.bl _, H, I, rfl, ?_⟩
    rw [show its.toArray.any (eqU x) = its.any (eqU x) by simp, any_eqU r fs]
    exact q
theorem op_notIn_str : OpR X (compareOp .NotIn) (fun x y H Q => ∃ i j, x = .str i ∧ y = .str j ∧ Q (.bl (!(!(Builtin.Str.occurrences j i 0 j.length 1).isEmpty))) H) := by
  intro pins s σ H x y v u Q I rx ry h
  obtain ⟨i, j, rfl, rfl, q⟩ := h
  obtain ⟨t, rfl⟩ := rx
  obtain ⟨t', rfl⟩ := ry
  exact notIn_str ⟨.bl _, H, I, rfl, q⟩

/-! ### len, list(x), tuple(x) of any list or tuple that is read -/
theorem call_len_seq : CallR X (.builtin "len") (fun xs H Q => ∃ p ys, xs = [.ref p] ∧ (SqL X.K H p ys ∨ SqT X.K H p ys) ∧ Q (.int ys.length) H) := by
  intro pins s σ H xs us Q I r h
  obtain ⟨p, ys, rfl, hq, q⟩ := h
  obtain ⟨u, rfl, rx⟩ := vals1 r
  cases rx
  have hn := line63
  rcases hq with hq | hq
  · obtain ⟨its, r', pl, hz⟩ := I.list hq
    have hlen := r'.length
    exact Calls.call_len_list pl.isList (by simp only [List.size_toArray] <;> omega) ⟨.int ys.length, H, I.tok _, ⟨s.toks + 1, by rw [List.size_toArray, hlen]⟩, q⟩
  · obtain ⟨its, r', pl, hz⟩ := I.tuple hq
    have hlen := r'.length
    exact len_tuple pl (by simp only [List.size_toArray] <;> omega) ⟨.int ys.length, H, I.tok _, ⟨s.toks + 1, by rw [List.size_toArray, hlen]⟩, q⟩
theorem call_len_str : CallR X (.builtin "len") (fun xs H Q => ∃ z, xs = [.str z] ∧ z.length ≤ sizeLine ∧ Q (.int z.length) H) := by
  intro pins s σ H xs us Q I r h
  obtain ⟨z, rfl, hz, q⟩ := h
  obtain ⟨u, rfl, t, rfl⟩ := vals1 r
  have hn := line63
  exact len_str (by omega) ⟨.int z.length, H, I.tok _, ⟨_, rfl⟩, q⟩
theorem CallR.or {f : Value} {r r' : List V → Hp → VK → Prop} (h : CallR X f r) (h' : CallR X f r') : CallR X f (fun xs H Q => r xs H Q ∨ r' xs H Q) := by
  intro pins s σ H xs us Q I rs q
  rcases q with q | q
  · exact h pins s σ H xs us Q I rs q
  · exact h' pins s σ H xs us Q I rs q
theorem call_list_of : CallR X (.type "list") (fun xs H Q => ∃ p ys, xs = [.ref p] ∧ (SqL X.K H p ys ∨ SqT X.K H p ys) ∧ ∀ l, H l = none → Q (.ref l) (upd H l (.lst ys))) := by
  intro pins s σ H xs us Q I r h
  obtain ⟨p, ys, rfl, hq, q⟩ := h
  obtain ⟨u, rfl, rx⟩ := vals1 r
  cases rx
  have fin : ∀ (its : List Value), Vals ys its → ys.length ≤ sizeLine → ∀ (h' : Heap) (c' : Nat), (∀ b o', s.heap.get? b = some o' → h'.get? b = some o') →
      h'.get? s.heap.objs.size = some { cls := .type "list", dict := none, data := .seq its.toArray c', slots := #[] } → EP X pins σ Q (.ref s.heap.objs.size) { s with heap := h' } := fun its r' hz h' c' kp e =>
    ⟨.ref s.heap.objs.size, _, I.laid (t' := s.toks) kp (Nat.le_refl _) (show ObjOk X.prog X.w _ h' _ (.lst ys) from ⟨hz, its, c', r', e⟩), rfl, q _ (I.hok.fresh (Nat.le_refl _))⟩
  rcases hq with hq | hq
  · obtain ⟨its, r', pl, hz⟩ := I.list hq
    have hlen := r'.length
    obtain ⟨o, ho, hc, n, hd⟩ := pl.isList
    exact call_list_seq p (.inl rfl) ho hc hd (fun h' c' kp e => fin its r' hz h' c' kp e) (by simp only [List.size_toArray] <;> omega)
  · obtain ⟨its, r', pl, hz⟩ := I.tuple hq
    have hlen := r'.length
    obtain ⟨o, ho, hc, n, hd⟩ := pl
    exact call_list_seq p (.inr rfl) ho hc hd (fun h' c' kp e => fin its r' hz h' c' kp e) (by simp only [List.size_toArray] <;> omega)
theorem call_tuple_of : CallR X (.type "tuple") (fun xs H Q => ∃ p ys, xs = [.ref p] ∧ ((SqL X.K H p ys ∧ ∀ l, H l = none → Q (.ref l) (upd H l (.tup ys))) ∨ (SqT X.K H p ys ∧ Q (.ref p) H))) := by
  intro pins s σ H xs us Q I r h
  obtain ⟨p, ys, rfl, h⟩ := h
  obtain ⟨u, rfl, rx⟩ := vals1 r
  cases rx
  rcases h with ⟨hq, q⟩ | ⟨hq, q⟩
  · obtain ⟨its, r', pl, hz⟩ := I.list hq
    have hlen := r'.length
    refine call_tuple_list pl.isList (fun h' kp => ?_) (by simp only [List.size_toArray] <;> omega)
    have I1 : Inv X pins σ H { s with heap := h' } := I.kept (t' := s.toks) kp
    have I2 : Inv X pins σ (upd H h'.objs.size (.tup ys)) { s with heap := h'.push { cls := .type "tuple", data := .seq its.toArray } } :=
      I1.laid (t' := s.toks) (fun b o e => Heap.get?_push_of_some _ e) (Nat.le_refl _) (show ObjOk X.prog X.w _ _ _ (.tup ys) from ⟨hz, its, r', IsTup.new _ _⟩)
    exact ⟨.ref h'.objs.size, _, I2, rfl, q _ (I1.hok.fresh (Nat.le_refl _))⟩
  · obtain ⟨its, r', pl, hz⟩ := I.tuple hq
    exact call_tuple_same pl ⟨.ref p, H, I, rfl, q⟩

/-! ### the call of a builtin's method: o.m(..) -/
/-- the value is of that builtin type -/
def tyV (K : PySem.W.Frag) (T : String) (x : V) (H : Hp) : Prop := match x with
  | .str _ => T = "str"
  | .int _ => T = "int"
  | .ref p => (T = "list" ∧ ∃ xs, SqL K H p xs) ∨ (T = "tuple" ∧ ∃ o, K.lookup p = some o ∧ o.cls = .type "tuple" ∧ o.dict = none) ∨
      (T = "dict" ∧ ((∃ kvs, H p = some (.dK kvs)) ∨ ∃ kvs, H p = some (.dT kvs))) ∨ (T = "set" ∧ ∃ S n, H p = some (.set S n))
  | _ => False
theorem tyV_is {pins : List (Addr × Obj)} {σ : St} {H : Hp} {s : Shared} {T : String} {x : V} {v : Value} (I : Inv X pins σ H s) (r : RelV x v) (ty : tyV X.K T x H) :
    s.TypeIs v T ∧ ∀ a, v = .ref a → ∃ ob, s.heap.get? a = some ob ∧ ob.dict = none := by
  cases x with
  | str z =>
    obtain ⟨t, rfl⟩ := r
    cases (show T = "str" from ty)
    exact ⟨typeIs_str s z t, fun _ e => nomatch e⟩
  | int i =>
    obtain ⟨t, rfl⟩ := r
    cases (show T = "int" from ty)
    exact ⟨typeIs_int s i t, fun _ e => nomatch e⟩
  | ref p =>
    cases r
    rcases ty with ⟨rfl, xs, hq⟩ | ⟨rfl, o, hk, hc, hd⟩ | ⟨rfl, hk⟩ | ⟨rfl, S, n, hk⟩
    · obtain ⟨its, _, pl, _⟩ := I.list hq
      refine ⟨pl.isList.typeIs, fun a e => ?_⟩
      cases e
      obtain ⟨o, n, e, c, hd, _⟩ := pl
      exact ⟨o, e, hd⟩
    · refine ⟨⟨o, I.kIn p o hk, hc⟩, fun a e => ?_⟩
      cases e
      exact ⟨o, I.kIn _ o hk, hd⟩
    · have z : ∃ o, s.heap.get? p = some o ∧ o.ExactDict := by
        rcases hk with ⟨kvs, hk⟩ | ⟨kvs, hk⟩
        · obtain ⟨_, _, _, _, o, _, _, e, ex, _⟩ := I.hok p _ hk
          exact ⟨o, e, ex⟩
        · obtain ⟨_, _, _, _, o, _, _, e, ex, _⟩ := I.hok p _ hk
          exact ⟨o, e, ex⟩
      obtain ⟨o, e, ex⟩ := z
      refine ⟨⟨o, e, ex.1⟩, fun a e2 => ?_⟩
      cases e2
      exact ⟨o, e, ex.2.1⟩
    · obtain ⟨o, _, _, _, e, ex, _⟩ := I.hok p _ hk
      refine ⟨⟨o, e, ex.1⟩, fun a e2 => ?_⟩
      cases e2
      exact ⟨o, e, ex.2.1⟩
  | _ => exact False.elim ty
def tBM0 (K : PySem.W.Frag) (T : String) (r : V → List V → Hp → VK → Prop) (to : TE) : TE := fun σ H Q => to σ H fun x H1 => tyV K T x H1 ∧ r x [] H1 Q
def tBM (K : PySem.W.Frag) (T : String) (r : V → List V → Hp → VK → Prop) (to : TE) (t : TA) : TE := fun σ H Q => to σ H fun x H1 => tyV K T x H1 ∧ t σ H1 fun xs H2 => r x xs H2 Q
variable {o e : Expr} {es : List Expr} {to : TE} {t : TA} {name : Str} {apos cpos : Pos} {T id : String} {r : V → List V → Hp → VK → Prop}
theorem pe_bm0 (pa : PlainAttrs T) (slot : Slot T name id) (hty : typeOf (.builtin id) = pure (.type "method_descriptor")) (hm : MtR X id r) (ho : PE X o to)
    (hbase : attributeBase o name X.env (eval o X.env) = eval o X.env := by rfl) (hline : (apos.endLine == cpos.line) = true := by rfl) : PE X (.Call (.Attribute o name apos) [] [] cpos) (tBM0 X.K T r to) := by
  intro pins s σ H Q I h
  refine wpAny_Call_method0_late hbase hline (thn (ho pins s σ H _ I h) fun v s1 ⟨x, H1, I1, r1, ty, q1⟩ => ?_)
  obtain ⟨h1, h2⟩ := tyV_is I1 r1 ty
  exact ⟨T, id, pa, slot, hty, h1, h2, Calls.callWith_builtin rfl (PySem.evalArgs_none (hm pins s1 σ H1 x [] v [] Q I1 r1 .nil q1))⟩
theorem pe_bm (pa : PlainAttrs T) (slot : Slot T name id) (hty : typeOf (.builtin id) = pure (.type "method_descriptor")) (hm : MtR X id r) (ho : PE X o to) (ha : PA X (e :: es) t)
    (hbase : attributeBase o name X.env (eval o X.env) = eval o X.env := by rfl)
    (hfew : ((backTo cpos (starEach (e :: es) X.env)).all (fun x => !x.1) && (backToKw cpos (keywordEach [] X.env)).all (fun x => x.1.isSome)
      && decide ((e :: es).length + ([] : List Keyword).length + (if ([] : List Keyword).isEmpty then 0 else 1) < 30)) = true := by rfl)
    (hline : (apos.endLine == cpos.line) = true := by rfl) (hs : starEach (e :: es) X.env = (false, eval e X.env) :: starEach es X.env := by rfl) (hplain : (backTo cpos (starEach es X.env)).any (·.1) = false := by rfl) :
    PE X (.Call (.Attribute o name apos) (e :: es) [] cpos) (tBM X.K T r to t) := by
  intro pins s σ H Q I h
  refine wpAny_Call_method_late hbase hfew hline rfl (thn (ho pins s σ H _ I h) fun v s1 ⟨x, H1, I1, r1, ty, q1⟩ => ?_)
  obtain ⟨h1, h2⟩ := tyV_is I1 r1 ty
  refine ⟨T, id, pa, slot, hty, h1, h2, ?_⟩
  have hA := ha cpos pins s1 σ H1 _ I1 q1
  rw [hs] at hA ⊢
  refine Calls.callWith_builtin (by show (false || (backTo cpos (starEach es X.env)).any (·.1)) = false; rw [hplain] <;> rfl) (Calls.evalArgs_plain ?_)
  exact thn hA fun us s2 ⟨vs, H2, I2, r2, q2⟩ => hm pins s2 σ H2 x vs v us Q I2 r1 r2 q2
/- xs.append(e), list.index on a module's tuple .. are MtR facts of 06m -/
end
end L2

namespace L2
open PySem PySem.Spec PyProof.Rows

def MtM (X : Cx) (id : String) (r : V → List V → Hp → VK → Prop) : Prop :=
  ∀ (pins : List (Addr × Obj)) (s : Shared) (σ : St) (H : Hp) (x : V) (xs : List V) (v : Value) (us : List Value) (Q : VK), Inv X pins σ H s → RelV x v → Vals xs us → r x xs H Q →
    wpAny (model X.prog X.w) X.A (call (.builtin id) (v :: us)) (EP X pins σ Q) X.xe s

/-! ### lists of values -/
theorem Vals.one : ∀ {x : V} {us : List Value}, Vals [x] us → ∃ u, us = [u] ∧ RelV x u
  | _, _, .cons r .nil => ⟨_, rfl, r⟩
theorem Vals.two : ∀ {x y : V} {us : List Value}, Vals [x, y] us → ∃ u v, us = [u, v] ∧ RelV x u ∧ RelV y v
  | _, _, _, .cons r (.cons q .nil) => ⟨_, _, rfl, r, q⟩
theorem Vals.zero : ∀ {us : List Value}, Vals [] us → us = []
  | _, .nil => rfl
theorem Vals.dropLast {xs : List V} {us : List Value} (h : Vals xs us) : Vals xs.dropLast us.dropLast := by
  induction h with
  | nil => exact .nil
  | cons r t ih =>
    cases t with
    | nil => exact .nil
    | cons q t' => exact .cons r ih
theorem Vals.eraseIdx : ∀ {xs : List V} {us : List Value} (i : Nat), Vals xs us → Vals (xs.eraseIdx i) (us.eraseIdx i)
  | _, _, _, .nil => .nil
  | _, _, 0, .cons _ t => t
  | _, _, i + 1, .cons r t => .cons r (Vals.eraseIdx i t)
theorem Vals.reverse {xs : List V} {us : List Value} (h : Vals xs us) : Vals xs.reverse us.reverse := by
  induction h with
  | nil => exact .nil
  | cons r t ih => rw [List.reverse_cons, List.reverse_cons]; exact Vals.append ih (.cons r .nil)
theorem Vals.rep {xs : List V} {us : List Value} (h : Vals xs us) : ∀ k : Nat, Vals (List.replicate k xs).flatten (List.replicate k us).flatten
  | 0 => .nil
  | k + 1 => by
    rw [List.replicate_succ, List.replicate_succ, List.flatten_cons, List.flatten_cons]
    exact Vals.append h (Vals.rep h k)
theorem erase_last {α : Type} (l : List α) : l.eraseIdx (l.length - 1) = l.dropLast := by
  induction l with
  | nil => rfl
  | cons a r ih =>
    cases r with
    | nil => rfl
    | cons b r =>
      have e : (a :: b :: r).length - 1 = ((b :: r).length - 1) + 1 := by
        have h1 : (a :: b :: r).length = r.length + 2 := rfl
        have h2 : (b :: r).length = r.length + 1 := rfl
        omega
      rw [e, List.eraseIdx_cons_succ, ih]
      all_goals rfl
theorem len_erase {α : Type} : ∀ (l : List α) (i : Nat), (l.eraseIdx i).length ≤ l.length
  | [], _ => Nat.le_refl _
  | _ :: _, 0 => Nat.le_succ _
  | _ :: r, i + 1 => Nat.succ_le_succ (len_erase r i)
theorem foldl_rep (its : List Value) : ∀ (k : Nat) (acc : List Value),
    List.foldl (fun x1 x2 => x1 ++ x2) acc.toArray (List.replicate k its.toArray) = (acc ++ (List.replicate k its).flatten).toArray
  | 0, acc => by simp
  | k + 1, acc => by
    have e : acc.toArray ++ its.toArray = (acc ++ its).toArray := by simp
    have e2 : (acc ++ its) ++ (List.replicate k its).flatten = acc ++ (List.replicate (k + 1) its).flatten := by
      rw [List.replicate_succ, List.flatten_cons, List.append_assoc]
    rw [← e2, ← foldl_rep its k (acc ++ its), ← e, List.replicate_succ, List.foldl_cons]

section
variable {X : Cx} {pins : List (Addr × Obj)} {σ : St} {H : Hp} {s : Shared} {l b : Addr} {xs ys zs : List V}

/-! ### the two steps: a tracked list is rewritten, a new list is laid -/
theorem Inv.lset {its its' : List Value} {n : Nat} {f : Array Value → Array Value} {t' : Nat} (I : Inv X pins σ H s) (hH : H l = some (.lst xs))
    (e : s.heap.get? l = some { cls := .type "list", data := .seq its.toArray n }) (hf : f its.toArray = its'.toArray) (hv : Vals ys its') (hz : ys.length ≤ sizeLine) :
    Inv X pins σ (upd H l (.lst ys)) { s with heap := s.heap.update l (Obj.mapSeq f), toks := t' } := by
  have q := PySem.IsL.update e f
  rw [hf] at q
  refine I.write (x := l) (e := l) (by rw [hH]; exact trivial) (.inl rfl) (fun b' u hb hu => (Heap.get?_update_other s.heap (Obj.mapSeq f) (Ne.symm hb)).trans hu) ⟨_, q⟩ ?_
  exact ⟨hz, its', _, hv, q⟩
theorem Inv.lnew {its : List Value} {t' : Nat} (I : Inv X pins σ H s) (hv : Vals ys its) (hz : ys.length ≤ sizeLine) :
    Inv X pins σ (upd H s.heap.objs.size (.lst ys)) { s with heap := s.heap.push { cls := .type "list", data := .seq its.toArray }, toks := t' } :=
  I.laid (fun _ _ q => Heap.get?_push_of_some _ q) (Nat.le_refl _) ⟨hz, its, 0, hv, Heap.get?_push_size _ rfl⟩
theorem Inv.fresh (I : Inv X pins σ H s) : H s.heap.objs.size = none := I.hok.fresh (Nat.le_refl _)
theorem Inv.lstM (I : Inv X pins σ H s) (hH : H l = some (.lst xs)) : xs.length ≤ sizeLine ∧ ∃ (its : List Value) (n : Nat), Vals xs its ∧ xs.length = its.length ∧ s.heap.get? l = some { cls := .type "list", data := .seq its.toArray n } := by
  obtain ⟨z, its, n, r, e⟩ := I.hok l _ hH
  exact ⟨z, its, n, r, r.length, e⟩

theorem notLongL {n : Nat} (h : n ≤ sizeLine) : Builtin.List.listTooLong n = false := by
  unfold Builtin.List.listTooLong
  exact decide_eq_false (by omega)
end

section
variable {X : Cx}

/-! ### methods -/
def rAppend : V → List V → Hp → VK → Prop := fun x vs H Q => ∃ l xs y, x = .ref l ∧ vs = [y] ∧ H l = some (.lst xs) ∧ xs.length < sizeLine ∧ Q .non (upd H l (.lst (xs ++ [y])))
theorem mt_append : MtM X "list.append" rAppend := by
  intro pins s σ H x vs v us Q I rx rv h
  obtain ⟨l, xs, y, rfl, rfl, hH, hz, q⟩ := h
  cases rx
  obtain ⟨u, rfl, ru⟩ := rv.one
  obtain ⟨z, its, n, r, hl, e⟩ := I.lstM hH
  refine call_meets F.slot_list_append ⟨_, e, rfl⟩ F.entry_list_append (F.args_list_append_2 _ _) (PySem.list_append l its.toArray n u (by rw [List.size_toArray]; omega)) ⟨e, ?_⟩
  refine ⟨.non, _, I.lset (its' := its ++ [u]) hH e (by simp) (r.append (.cons ru .nil)) ?_, rfl, q⟩
  rw [List.length_append, List.length_singleton]
  omega

def rExtend : V → List V → Hp → VK → Prop := fun x vs H Q => ∃ l b xs zs, x = .ref l ∧ vs = [.ref b] ∧ H l = some (.lst xs) ∧ H b = some (.lst zs) ∧ xs.length + zs.length ≤ sizeLine ∧ Q .non (upd H l (.lst (xs ++ zs)))
theorem mt_extend : MtM X "list.extend" rExtend := by
  intro pins s σ H x vs v us Q I rx rv h
  obtain ⟨l, b, xs, zs, rfl, rfl, hH, hB, hz, q⟩ := h
  cases rx
  obtain ⟨u, rfl, ru⟩ := rv.one
  cases ru
  obtain ⟨z, its, n, r, hl, e⟩ := I.lstM hH
  obtain ⟨z2, its2, n2, r2, hl2, e2⟩ := I.lstM hB
  have hsz : its.toArray.size + its2.toArray.size ≤ sizeLine := by rw [List.size_toArray, List.size_toArray]; omega
  have hlong : ¬ (!its.toArray.isEmpty && Builtin.List.listTooLong (its.toArray.size + its2.toArray.size)) = true := by
    rw [notLongL hsz, Bool.and_false]
    exact Bool.false_ne_true
  refine call_meets F.slot_list_extend ⟨_, e, rfl⟩ F.entry_list_extend (F.args_list_extend_2 _ _)
    (AutoSeq1.list_extend_list_list_0 l its.toArray n b its2.toArray n2 hlong (by rw [List.size_toArray]; omega) (by omega)) ⟨e, e2, ?_⟩
  refine ⟨.non, _, I.lset (its' := its ++ its2) hH e (by simp) (r.append r2) ?_, rfl, q⟩
  rw [List.length_append]
  omega

def rPop : V → List V → Hp → VK → Prop := fun x vs H Q => ∃ l xs y, x = .ref l ∧ vs = [] ∧ H l = some (.lst xs) ∧ xs[xs.length - 1]? = some y ∧ Q y (upd H l (.lst xs.dropLast))
theorem mt_pop : MtM X "list.pop" rPop := by
  intro pins s σ H x vs v us Q I rx rv h
  obtain ⟨l, xs, y, rfl, rfl, hH, hy, q⟩ := h
  cases rx
  have hus := rv.zero
  subst hus
  obtain ⟨z, its, n, r, hl, e⟩ := I.lstM hH
  obtain ⟨u, hu, ru⟩ := r.get hy
  have hy' : its.toArray[its.toArray.size - 1]? = some u := by
    show its.toArray[its.length - 1]? = some u
    rw [← Array.getElem?_toList, ← hl]
    exact hu
  refine call_meets F.slot_list_pop ⟨_, e, rfl⟩ F.entry_list_pop (F.args_list_pop_1 _) (MeetsSeq.list_pop_last l its.toArray n u hy' (by rw [List.size_toArray]; omega)) ⟨e, ?_⟩
  refine ⟨y, _, I.lset (its' := its.dropLast) hH e ?_ r.dropLast ?_, ru, q⟩
  · show its.toArray.eraseIdxIfInBounds (its.toArray.size - 1) = its.dropLast.toArray
    rw [List.size_toArray, List.eraseIdxIfInBounds_toArray, erase_last]
  · rw [List.length_dropLast]
    omega

def rPopAt : V → List V → Hp → VK → Prop := fun x vs H Q => ∃ l xs i k y, x = .ref l ∧ vs = [.int i] ∧ H l = some (.lst xs) ∧ -(2 ^ 63) ≤ i ∧ i < 2 ^ 63 ∧ seqIndex? i xs.length = some k ∧ xs[k]? = some y ∧ Q y (upd H l (.lst (xs.eraseIdx k)))
theorem mt_popAt : MtM X "list.pop" rPopAt := by
  intro pins s σ H x vs v us Q I rx rv h
  obtain ⟨l, xs, i, k, y, rfl, rfl, hH, h1, h2, hk, hy, q⟩ := h
  cases rx
  obtain ⟨u, rfl, ru⟩ := rv.one
  obtain ⟨t, rfl⟩ := ru
  obtain ⟨z, its, n, r, hl, e⟩ := I.lstM hH
  obtain ⟨w, hw, rw'⟩ := r.get hy
  refine call_meets F.slot_list_pop ⟨_, e, rfl⟩ F.entry_list_pop (F.args_list_pop_2 _ _)
    (MeetsSeq.list_pop_at l its.toArray n i t k w (fitsIndex_both h1 h2) (by rw [List.size_toArray, ← hl]; exact hk) (by rw [← Array.getElem?_toList]; exact hw) (by rw [List.size_toArray]; omega)) ⟨e, ?_⟩
  refine ⟨y, _, I.lset (its' := its.eraseIdx k) hH e ?_ (r.eraseIdx k) ?_, rw', q⟩
  · show its.toArray.eraseIdxIfInBounds k = (its.eraseIdx k).toArray
    rw [List.eraseIdxIfInBounds_toArray]
  · have := len_erase xs k
    omega

def rReverse : V → List V → Hp → VK → Prop := fun x vs H Q => ∃ l xs, x = .ref l ∧ vs = [] ∧ H l = some (.lst xs) ∧ Q .non (upd H l (.lst xs.reverse))
theorem mt_reverse : MtM X "list.reverse" rReverse := by
  intro pins s σ H x vs v us Q I rx rv h
  obtain ⟨l, xs, rfl, rfl, hH, q⟩ := h
  cases rx
  have hus := rv.zero
  subst hus
  obtain ⟨z, its, n, r, hl, e⟩ := I.lstM hH
  refine call_meets F.slot_list_reverse ⟨_, e, rfl⟩ F.entry_list_reverse (F.args_list_reverse_1 _) (AutoSeq1.list_reverse_list_0 l its.toArray n (by rw [List.size_toArray]; omega)) ⟨e, ?_⟩
  refine ⟨.non, _, I.lset (its' := its.reverse) hH e (by simp) r.reverse ?_, rfl, q⟩
  rw [List.length_reverse]
  omega

def rClear : V → List V → Hp → VK → Prop := fun x vs H Q => ∃ l xs, x = .ref l ∧ vs = [] ∧ H l = some (.lst xs) ∧ Q .non (upd H l (.lst []))
theorem mt_clear : MtM X "list.clear" rClear := by
  intro pins s σ H x vs v us Q I rx rv h
  obtain ⟨l, xs, rfl, rfl, hH, q⟩ := h
  cases rx
  have hus := rv.zero
  subst hus
  obtain ⟨z, its, n, r, hl, e⟩ := I.lstM hH
  refine call_meets F.slot_list_clear ⟨_, e, rfl⟩ F.entry_list_clear (F.args_list_clear_1 _) (AutoSeq1.list_clear_list_0 l its.toArray n (by rw [List.size_toArray]; omega)) ⟨e, ?_⟩
  exact ⟨.non, _, I.lset (its' := []) (ys := []) hH e rfl .nil (Nat.zero_le _), rfl, q⟩

/-! ### list + list, list += list, list * int -/
def rCat : R2 := fun x y H Q => ∃ l b xs zs, x = .ref l ∧ y = .ref b ∧ H l = some (.lst xs) ∧ H b = some (.lst zs) ∧ xs.length + zs.length ≤ sizeLine ∧ ∀ p, H p = none → Q (.ref p) (upd H p (.lst (xs ++ zs)))
theorem op_cat : OpR X (binaryOp .Add) rCat := by
  intro pins s σ H x y v u Q I rx ry h
  obtain ⟨l, b, xs, zs, rfl, rfl, hH, hB, hz, q⟩ := h
  cases rx
  cases ry
  obtain ⟨z, its, n, r, hl, e⟩ := I.lstM hH
  obtain ⟨z2, its2, n2, r2, hl2, e2⟩ := I.lstM hB
  refine PySem.P.add_list e e2 ?_ (by rw [List.size_toArray, List.size_toArray]; omega)
  have ea : its.toArray ++ its2.toArray = (its ++ its2).toArray := by simp
  rw [ea]
  exact ⟨.ref _, _, I.lnew (t' := s.toks) (r.append r2) (by rw [List.length_append]; omega), rfl, q _ I.fresh⟩
/-- a list times an int (a negative one is nothing) -/
def rRep : R2 := fun x y H Q => ∃ l k xs, x = .ref l ∧ y = .int k ∧ H l = some (.lst xs) ∧ -(2 ^ 63) ≤ k ∧ k < 2 ^ 63 ∧ xs.length * k.toNat ≤ sizeLine ∧
  ∀ p, H p = none → Q (.ref p) (upd H p (.lst (List.replicate k.toNat xs).flatten))
theorem len_rep {α : Type} (xs : List α) (k : Nat) : (List.replicate k xs).flatten.length = k * xs.length := by
  induction k with
  | zero => simp
  | succ k ih => rw [List.replicate_succ, List.flatten_cons, List.length_append, ih, Nat.succ_mul, Nat.add_comm]
theorem op_rep : OpR X (binaryOp .Mult) rRep := by
  intro pins s σ H x y v u Q I rx ry h
  obtain ⟨l, k, xs, rfl, rfl, hH, h1, h2, hz, q⟩ := h
  cases rx
  obtain ⟨t, rfl⟩ := ry
  obtain ⟨z, its, n, r, hl, e⟩ := I.lstM hH
  have hlen : its.toArray.size * k.toNat ≤ sizeLine := by rw [List.size_toArray, ← hl]; exact hz
  have hcap : ¬ its.toArray.size * k.toNat > (2 ^ 63 - 1) / 8 := by
    have : (sizeLine : Nat) ≤ (2 ^ 63 - 1) / 8 := by decide
    omega
  have hfit : ¬ (!Builtin.List.listFitsIndex k) = true := by
    rw [fitsIndex_both h1 h2]
    exact Bool.false_ne_true
  have hlong : ¬ Builtin.List.listTooLong (its.toArray.size * k.toNat) = true := by
    rw [notLongL hlen]
    exact Bool.false_ne_true
  have hnew : List.foldl (fun x1 x2 => x1 ++ x2) #[] (List.replicate (if its.toArray.isEmpty = true then 0 else k.toNat) its.toArray) = (List.replicate k.toNat its).flatten.toArray := by
    have f0 : ∀ m : Nat, List.foldl (fun x1 x2 => x1 ++ x2) #[] (List.replicate m its.toArray) = (List.replicate m its).flatten.toArray := fun m => by
      have := foldl_rep its m []
      rw [List.nil_append] at this
      exact this
    rw [f0]
    cases its with
    | nil => simp
    | cons a r' => rw [if_neg (by simp)]
  refine wpAny_binaryOp_repeat_ref (T := "list") (U := "int") (by decide) ⟨_, e, rfl⟩ (fun s' => typeIs_int s' k t) noFill_list_mul F.fills_int_mul F.slot_int_rmul repeat_list F.slot_int_index.lookup
    (call_meets F.slot_int_rmul (typeIs_int s k t) F.entry_int_rmul (F.args_int_rmul_2 _ _) (int___rmul___int_list k t l its.toArray n)
      ⟨e, rfl, ⟨_, e, rfl⟩, call_meets F.slot_list_mul ⟨_, e, rfl⟩ F.entry_list_mul (F.args_list_mul_2 _ _) (AutoListH.list___mul___list_int_3 l its.toArray n k t hfit hcap hlong) ⟨e, ?_⟩⟩)
  rw [hnew]
  exact ⟨.ref _, _, I.lnew (t' := s.toks) (r.rep k.toNat) (by rw [len_rep, Nat.mul_comm]; exact hz), rfl, q _ I.fresh⟩

/-! ### del xs[i] -/
theorem del_list {pins : List (Addr × Obj)} {s : Shared} {σ : St} {H : Hp} {l : Addr} {xs : List V} {i : Int} {t : Tok} {k : Nat} {Q : Unit → Shared → Prop} (I : Inv X pins σ H s) (hH : H l = some (.lst xs))
    (h1 : -(2 ^ 63) ≤ i) (h2 : i < 2 ^ 63) (hk : seqIndex? i xs.length = some k) (h : ∀ s', Inv X pins σ (upd H l (.lst (xs.eraseIdx k))) s' → Q () s') :
    wpAny (model X.prog X.w) X.A (delItem (.ref l) (.int i t)) Q X.xe s := by
  obtain ⟨z, its, n, r, hl, e⟩ := I.lstM hH
  refine PySem.P.delItem_list (k := k) e (fitsIndex_both h1 h2) (by rw [List.size_toArray, ← hl]; exact hk) (h _ ?_) (by rw [List.size_toArray]; omega)
  refine I.lset (its' := its.eraseIdx k) (t' := s.toks) hH e ?_ (r.eraseIdx k) ?_
  · show its.toArray.eraseIdxIfInBounds k = (its.eraseIdx k).toArray
    rw [List.eraseIdxIfInBounds_toArray]
  · have := len_erase xs k
    omega
end

/-! ### xs[a:b] = ys -/
section
variable {prog : Program} {w : World} {A : Around} {E : Value → Shared → Prop} {s : Shared}
theorem splice_eq (its its2 : List Value) (a c : Nat) : its.toArray.extract 0 a ++ its2.toArray ++ its.toArray.extract c its.toArray.size = (its.take a ++ its2 ++ its.drop c).toArray := by
  apply Array.toList_inj.mp
  first
    | (simp
       exact List.take_of_length_le (by simp))
    | simp [List.take_of_length_le]
    | simp
theorem bounds_run {a c n : Nat} (hac : a ≤ c) (hc : c ≤ n) : sliceBounds (some (a : Int)) (some (c : Int)) none n = ((a : Int), (c : Int), 1) := by
  simp only [sliceBounds, Option.getD_none]
  have h1 : ¬ ((a : Int) < 0) := by omega
  have h2 : ¬ ((c : Int) < 0) := by omega
  simp only [h1, h2, if_false, show (1 : Int) > 0 by decide, if_true]
  congr 1
  · omega
  · congr 1; omega
set_option maxRecDepth 100000 in
/-- list.__setitem__ with a slice of step one and another list -/
theorem setItem_slice {l b sl : Addr} {items new : Array Value} {n n2 : Nat} {vl vu : Value} {a c : Nat} {Q : Unit → Shared → Prop}
    (e : s.heap.get? l = some { cls := .type "list", data := .seq items n }) (e2 : s.heap.get? b = some { cls := .type "list", data := .seq new n2 }) (hne : l ≠ b)
    (hs : s.heap.IsSliceOf sl vl vu .none) (pl : IsPart vl (some (a : Int))) (pu : IsPart vu (some (c : Int))) (hac : a ≤ c) (hc : c ≤ items.size)
    (hsz : items.size + new.size ≤ sizeLine) (h : Q () { s with heap := s.heap.update l (Obj.mapSeq fun xs => xs.extract 0 a ++ new ++ xs.extract c xs.size) }) :
    wpAny (model prog w) A (setItem (.ref l) (.ref sl) (.ref b)) Q E s := by
  have hl : s.heap.IsList l items := PySem.IsL.isList e
  have hb : s.heap.IsList b new := PySem.IsL.isList e2
  obtain ⟨os, hos, hcs, hds⟩ := id hs
  have hTs : s.TypeIs (.ref sl) "slice" := ⟨os, hos, hcs⟩
  have hstep : ¬ ((rawPart none == rawInt 0) = true) := Bool.false_ne_true
  have hsame : Builtin.List.listSameRef (.ref l) (.ref b) = false := by
    unfold Builtin.List.listSameRef
    exact beq_eq_false_iff_ne.mpr hne
  have hmax : (max (a : Int) (c : Int)).toNat = c := by omega
  have hz' : ((fun xs : Array Value => xs.extract 0 a ++ new ++ xs.extract c xs.size) items).size ≤ sizeLine + 1 := by
    simp only [Array.size_append, Array.size_extract]
    omega
  unfold setItem
  try with_reducible refine wpAny_holding ?_
  first | refine wpAny_bind (wpAny_pure ?_) | skip
  refine wpAny_bind (wpAny_sequenceKey hl.typeIs (by decide) ?_)
  refine wpAny_bind (wpAny_callSpecial?_slot (name := Str.ofString "__setitem__") hl.typeIs slot_list_setitem
    (wpAny_call_entry slot_list_setitem hl.typeIs entry_list_setitem ?_ (args_list_setitem _ _ _)))
  show wpAny _ _ (Builtin.List.listSubscript? (.ref sl) >>= _) _ _ s
  refine wpAny_bind ?_
  unfold Builtin.List.listSubscript?
  refine wpAny_bind (wpAny_specialOf hTs slice_no_index ?_)
  simp only [Option.isNone_none, if_true]
  refine wpAny_pure ?_
  show wpAny _ _ (typeOf (.ref sl) >>= _) _ _ s
  refine wpAny_bind (wpAny_typeOf hTs ?_)
  first
    | rw [if_neg (by decide)]
    | refine PySem.W.KFB.if_not (by decide) ?_
  rw [listSliceParts_eq]
  refine wpAny_bind (wpAny_bind (wpAny_field hos hds (x := .none) rfl (wpAny_bind (wpAny_listPart .none ?_))))
  rw [if_neg hstep]
  refine wpAny_bind (wpAny_field hos hds (x := vl) rfl (wpAny_bind (wpAny_listPart pl ?_)))
  refine wpAny_bind (wpAny_field hos hds (x := vu) rfl (wpAny_bind (wpAny_listPart pu (wpAny_pure ?_))))
  first
    | simp only [hsame, Bool.false_eq_true, if_false]
    | refine PySem.W.KFB.if_not hsame ?_
    | (dsimp only
       rw [if_neg (by rw [hsame]; exact Bool.false_ne_true)])
  refine wpAny_bind (m := Builtin.List.listAllItems (.ref b) "must assign iterable to extended slice") ?_
  unfold Builtin.List.listAllItems
  refine wpAny_bind (wpAny_typeOf hb.typeIs ?_)
  first
    | refine PySem.W.KFB.if_so (by decide) ?_
    | rw [if_pos (by decide)]
    | simp only [beq_self_eq_true, Bool.true_or, if_true]
  unfold Builtin.List.listItems
  refine wpAny_bind (wpAny_seqItems e2 rfl (wpAny_pure ?_))
  refine wpAny_bind (wpAny_bind (wpAny_seqItems e rfl (wpAny_pure ?_)))
  refine wpAny_bind (wpAny_of_eq ((sliceIndices_raw (some (a : Int)) (some (c : Int)) none items.size (by simp)).trans (congrArg (pure : Int × Int × Int → Sem (Int × Int × Int)) (bounds_run hac hc))) ?_)
  show wpAny _ _ (if ((1 : Int) == 1) = true then _ else _) _ _ s
  rw [if_pos (by decide)]
  refine wpAny_bind (wpAny_rule ?_)
  first
    | simp only [notLongL hsz, Bool.false_eq_true, if_false]
    | refine PySem.W.KFB.if_not (notLongL hsz) ?_
  first | refine wpAny_bind (wpAny_pure ?_) | skip
  show wpAny _ _ (updateSeq l (fun xs => xs.extract 0 ((a : Int)).toNat ++ new ++ xs.extract (max (a : Int) (c : Int)).toNat xs.size) >>= _) _ _ s
  rw [hmax, Int.toNat_natCast]
  refine wpAny_bind (wpAny_updateSeq (hz := Nat.le_trans (Nat.le_add_right _ _) hsz) (_hz' := hz') e rfl ?_)
  refine wpAny_bind (wpAny_letGo ?_)
  first
    | exact wpAny_bind (wpAny_pure (wpAny_pure ⟨.none, rfl, wpAny_pure h⟩))
    | exact wpAny_pure ⟨.none, rfl, wpAny_pure h⟩
end

section
variable {X : Cx}
/-- xs[a:c] = ys of another list, at the value level: sl is the slice object that was just made -/
theorem set_slice {pins : List (Addr × Obj)} {s : Shared} {σ : St} {H : Hp} {l b sl : Addr} {xs ys : List V} {a c : Int} {vl vu : Value} {Q : Unit → Shared → Prop} (I : Inv X pins σ H s)
    (hH : H l = some (.lst xs)) (hB : H b = some (.lst ys)) (hne : l ≠ b) (hs : s.heap.IsSliceOf sl vl vu .none) (ra : RelV (.int a) vl) (rc : RelV (.int c) vu) (h0 : 0 ≤ a) (hac : a ≤ c) (hc : c ≤ xs.length)
    (hz : xs.length + ys.length ≤ sizeLine) (h : ∀ s', Inv X pins σ (upd H l (.lst (xs.take a.toNat ++ ys ++ xs.drop c.toNat))) s' → Q () s') :
    wpAny (model X.prog X.w) X.A (setItem (.ref l) (.ref sl) (.ref b)) Q X.xe s := by
  obtain ⟨ta, rfl⟩ := ra
  obtain ⟨tc, rfl⟩ := rc
  obtain ⟨z, its, n, r, hl, e⟩ := I.lstM hH
  obtain ⟨z2, its2, n2, r2, hl2, e2⟩ := I.lstM hB
  obtain ⟨a', rfl⟩ := Int.eq_ofNat_of_zero_le h0
  obtain ⟨c', rfl⟩ := Int.eq_ofNat_of_zero_le (Int.le_trans h0 hac)
  simp only [Int.toNat_natCast] at h
  refine setItem_slice (a := a') (c := c') e e2 hne hs (.int _ _) (.int _ _) (by omega) (by rw [List.size_toArray]; omega) (by rw [List.size_toArray, List.size_toArray]; omega) (h _ ?_)
  refine I.lset (its' := its.take a' ++ its2 ++ its.drop c') (t' := s.toks) hH e ?_ (Vals.append (Vals.append (r.take _) r2) (r.drop _)) ?_
  · exact splice_eq its its2 a' c'
  · rw [List.length_append, List.length_append, List.length_take, List.length_drop]
    omega
end
end L2

namespace Att
open PySem PySem.W PySem.Calls PyProof.Rows

/-! ### the script -/
theorem ints_of_wellAll {P : Params} {h : Heap} : ∀ (ns : List Int) (vs : List Value), WellAll P h vs (ns.map WData.int) → IntsAre vs ns := by
  intro ns
  induction ns with
  | nil =>
    intro vs w
    rw [List.map_nil] at w
    cases w
    exact .nil
  | cons n ns ih =>
    intro vs w
    rw [List.map_cons] at w
    cases w with
    | cons a b =>
      cases a
      exact .cons _ _ (ih _ b)

theorem script_of {l : OpenLaw} {n : Nat} (hn : l.most = some n) {P : Params} {h : Heap} {args : List WData} {vals : List Value}
    (hpre : l.row.toRowW.claim.pre args = true) (hwl : WellAll P h vals args) :
    ∃ a vs ns, vals = [Value.ref a] ∧ args = [WData.list (ns.map WData.int)] ∧ h.get? a = some { cls := .type "list", data := .seq vs.toArray } ∧ IntsAre vs ns ∧ ns.length ≤ n := by
  have hsh : WShape.hasAll [] args [.list .int] = true := (pre_splitW hpre).1
  have hc : l.pre.holds [] { args := args } = true := (pre_splitW hpre).2
  obtain ⟨d, r, rfl, h1, h2⟩ := hasAllW_cons hsh
  obtain rfl := hasAllW_nil h2
  obtain ⟨xs, rfl, h3⟩ := hasW_list h1
  obtain ⟨ns, rfl⟩ := items_int h3
  have hlen : ns.length ≤ n := by
    unfold OpenLaw.pre at hc
    have h4 : (WTm.not (.lt (.lit (.int (n : Int))) (.len (.arg 0)))).holds [] { args := [.list (ns.map .int)] } = true := by
      have h4 := (holds_andW hc).1
      rw [hn] at h4
      exact h4
    have h5 := condW_of h4 (w_not (w_lt w_lit (w_len_list (w_arg rfl))))
    rw [List.length_map] at h5
    refine Nat.le_of_not_lt fun q => ?_
    have q' : (n : Int) < ((ns.length : Nat) : Int) := by omega
    first
      | (rw [decide_eq_true q'] at h5; exact absurd h5 (by decide))
      | (simp at h5; omega)
  cases hwl with
  | cons w1 w2 =>
    cases w2
    cases w1 with
    | list ho hall => exact ⟨_, _, ns, rfl, rfl, ho, ints_of_wellAll ns _ hall, hlen⟩

theorem post_true (l : OpenLaw) (args : List WData) : l.row.toRowW.claim.post args (.bool true) args = true :=
  postW_of (r := l.row.toRowW) (X := (true == true))
    (show WShape.has [] (.bool true) .bool = true by first | rfl | decide | simp [WShape.has, WShape.arms, WShape.armsAll])
    (show (WTm.eq .res (.lit (.bool true))).value [] { args := args, res := some (.bool true), after := args } = some (.bool (true == true)) from w_eq_bool (w_res rfl) w_lit) rfl

/-! ### the attachment: holds_open's last premise (the goal 'hc' behind k_head) from a wpAny of the law's body -/
theorem attach {l : OpenLaw} {n : Nat} {q : Program} {loose : List Str} {XP : (Str → Option Value) → Heap → Prop} {YP : World → Heap → Prop} {d : DefRec} {x : Str}
    (hn : l.most = some n) (hdf : d.params.defaults = [])
    (hbind : ∀ pm cd doc v : Value, bindArgs (docDef d.name d.params d.body d.scope pm cd doc) ⟨[v], []⟩ = pure [(x, v)])
    (hx : d.scope.names.lookup x = some .local ∨ d.scope.names.lookup x = some .cell)
    (hk : d.scope.kind = .function) (hco : d.scope.isCoroutine = false) (hgen : d.scope.isGenerator = false)
    (body : ∀ (w : World) (s₀ s₁ s : Shared) (mg mb : Str → Option Value) (fa : Addr) (o : Obj) (pm cd doc : Value) (a : Addr) (vs : List Value) (ns : List Int),
      Ground q loose [] XP w s₀ mg mb s₁.heap → YP w s₁.heap →
      s₁.heap.get? fa = some o → o.data = .func (docDef d.name d.params d.body d.scope pm cd doc) → s₁.heap.CodeRec cd d.name → mg d.name = some (.ref fa) →
      s₁.heap.get? a = some { cls := .type "list", data := .seq vs.toArray } → IntsAre vs ns → ns.length ≤ n →
      s.gens = #[] → s.os = s₁.os →
      Fr s₁.heap s₁.heap.objs.size s.heap (bindL (envOfC d.name d.scope s₁.heap.objs.size fa cd).kindOf [(x, .ref a)] fun _ => none) →
      Cl s₁.heap.objs.size (cellsFrom (s₁.heap.objs.size + 1) d.scope.names []) s.heap (bindC (envOfC d.name d.scope s₁.heap.objs.size fa cd).kindOf [(x, .ref a)] fun _ => none) →
      wpAny (model l.prog w) (callerA.deeper (envOfC d.name d.scope s₁.heap.objs.size fa cd)) (execs d.body (envOfC d.name d.scope s₁.heap.objs.size fa cd))
        (fun f s' => f = .ret (.bool true) ∧ OldK s₁.heap s'.heap ∧ s'.os = s₁.os ∧ AllBare s'.gens) (fun _ _ => False) s) :
    WalkO q loose XP YP l.row.toRowW d [] (fun f vs => PySem.call f vs) := by
  intro w s₀ s₁ mg mb G Y fa o pm cd doc dV kV ho hd hcd hD hmg hg args vals as hpre hlay hrd hwl hlo
  obtain rfl : dV = .none := Dflts.none hD hdf
  obtain rfl : kV = .none := Dflts.noKw hD
  obtain ⟨a, vs, ns, rfl, rfl, hobj, hints, hlen⟩ := script_of hn hpre hwl
  refine enter_call ?_
  refine call_cells_ret (o := o) (by rw [depth_caller]; decide) ho (fd_plain hd) G.T.nolimit hcd (hbind pm cd doc (.ref a)) (fun y hy => ?_) (fun h₁ tk F X => ?_) hco hgen hk
  · obtain rfl : y = (x, Value.ref a) := List.mem_singleton.mp hy
    rcases hx with e | e
    · exact .inl e
    · exact .inr ⟨e, cellsFrom_some _ _ _ (.inl e)⟩
  · refine wpAny_mono (body w s₀ s₁ { s₁ with heap := h₁, toks := tk } mg mb fa o pm cd doc a vs ns G Y ho (fd_plain hd) hcd hmg hobj hints hlen hg rfl F X) (fun f s' hq => ?_) (fun _ _ hq => hq)
    obtain ⟨rfl, h2, h3, h4⟩ := hq
    exact ⟨.inl ⟨.bool true, .bool true, [], rfl, fun _ => rfl, .bool true, post_true l _, fun _ => ⟨List.Pairwise.nil, fun _ hm => (nomatch hm)⟩⟩, h2, h3, h4⟩

/-- the same from a codeAny of the CALL (for a layer whose function contracts speak of calls) -/
theorem attach_call {l : OpenLaw} {n : Nat} {q : Program} {loose : List Str} {XP : (Str → Option Value) → Heap → Prop} {YP : World → Heap → Prop} {d : DefRec}
    (hn : l.most = some n) (hdf : d.params.defaults = [])
    (call : ∀ (w : World) (s₀ s₁ : Shared) (mg mb : Str → Option Value) (fa : Addr) (o : Obj) (pm cd doc : Value) (a : Addr) (vs : List Value) (ns : List Int),
      Ground q loose [] XP w s₀ mg mb s₁.heap → YP w s₁.heap →
      s₁.heap.get? fa = some o → o.data = .func (docDef d.name d.params d.body d.scope pm cd doc) → s₁.heap.CodeRec cd d.name → mg d.name = some (.ref fa) →
      s₁.heap.get? a = some { cls := .type "list", data := .seq vs.toArray } → IntsAre vs ns → ns.length ≤ n → s₁.gens = #[] →
      codeAny (model l.prog w) callerA (.call (.ref fa) ⟨[.ref a], []⟩) (fun r s' => r = .ok (.ret (.bool true)) ∧ OldK s₁.heap s'.heap ∧ s'.os = s₁.os ∧ AllBare s'.gens) s₁) :
    WalkO q loose XP YP l.row.toRowW d [] (fun f vs => PySem.call f vs) := by
  intro w s₀ s₁ mg mb G Y fa o pm cd doc dV kV ho hd hcd hD hmg hg args vals as hpre hlay hrd hwl hlo
  obtain rfl : dV = .none := Dflts.none hD hdf
  obtain rfl : kV = .none := Dflts.noKw hD
  obtain ⟨a, vs, ns, rfl, rfl, hobj, hints, hlen⟩ := script_of hn hpre hwl
  refine enter_call (codeAny_mono (call w s₀ s₁ mg mb fa o pm cd doc a vs ns G Y ho (fd_plain hd) hcd hmg hobj hints hlen hg) fun r s' hq => ?_)
  obtain ⟨rfl, h2, h3, h4⟩ := hq
  exact ⟨.inl ⟨.bool true, .bool true, [], rfl, fun _ => rfl, .bool true, post_true l _, fun _ => ⟨List.Pairwise.nil, fun _ hm => (nomatch hm)⟩⟩, h2, h3, h4⟩

/-- the same where the top left finished generators (o_head chose holds_openN): nothing may have changed at all and no generator may be left -/
theorem attachN {l : OpenLaw} {n : Nat} {q : Program} {loose : List Str} {XP : (Str → Option Value) → Heap → Prop} {YP : World → Heap → Prop} {d : DefRec} {x : Str}
    (hn : l.most = some n) (hdf : d.params.defaults = [])
    (hbind : ∀ pm cd doc v : Value, bindArgs (docDef d.name d.params d.body d.scope pm cd doc) ⟨[v], []⟩ = pure [(x, v)])
    (hx : d.scope.names.lookup x = some .local ∨ d.scope.names.lookup x = some .cell)
    (hk : d.scope.kind = .function) (hco : d.scope.isCoroutine = false) (hgen : d.scope.isGenerator = false)
    (body : ∀ (w : World) (s₀ s₁ s : Shared) (mg mb : Str → Option Value) (fa : Addr) (o : Obj) (pm cd doc : Value) (a : Addr) (vs : List Value) (ns : List Int),
      Ground q loose [] XP w s₀ mg mb s₁.heap → YP w s₁.heap →
      s₁.heap.get? fa = some o → o.data = .func (docDef d.name d.params d.body d.scope pm cd doc) → s₁.heap.CodeRec cd d.name → mg d.name = some (.ref fa) →
      s₁.heap.get? a = some { cls := .type "list", data := .seq vs.toArray } → IntsAre vs ns → ns.length ≤ n →
      s.gens = #[] → s.os = s₁.os →
      Fr s₁.heap s₁.heap.objs.size s.heap (bindL (envOfC d.name d.scope s₁.heap.objs.size fa cd).kindOf [(x, .ref a)] fun _ => none) →
      Cl s₁.heap.objs.size (cellsFrom (s₁.heap.objs.size + 1) d.scope.names []) s.heap (bindC (envOfC d.name d.scope s₁.heap.objs.size fa cd).kindOf [(x, .ref a)] fun _ => none) →
      wpAny (model l.prog w) (callerA.deeper (envOfC d.name d.scope s₁.heap.objs.size fa cd)) (execs d.body (envOfC d.name d.scope s₁.heap.objs.size fa cd))
        (fun f s' => f = .ret (.bool true) ∧ (∀ b o, s₁.heap.get? b = some o → s'.heap.get? b = some o) ∧ s'.os = s₁.os ∧ s'.gens = #[]) (fun _ _ => False) s) :
    WalkN q loose XP YP l.row.toRowW d [] (fun f vs => PySem.call f vs) := by
  intro w s₀ s₁ mg mb G Y fa o pm cd doc dV kV ho hd hcd hD hmg hg args vals as hpre hlay hrd hwl hlo
  obtain rfl : dV = .none := Dflts.none hD hdf
  obtain rfl : kV = .none := Dflts.noKw hD
  obtain ⟨a, vs, ns, rfl, rfl, hobj, hints, hlen⟩ := script_of hn hpre hwl
  refine enter_callW ?_
  refine call_cells_ret (o := o) (by rw [depth_caller]; decide) ho (fd_plain hd) G.T.nolimit hcd (hbind pm cd doc (.ref a)) (fun y hy => ?_) (fun h₁ tk F X => ?_) hco hgen hk
  · obtain rfl : y = (x, Value.ref a) := List.mem_singleton.mp hy
    rcases hx with e | e
    · exact .inl e
    · exact .inr ⟨e, cellsFrom_some _ _ _ (.inl e)⟩
  · refine wpAny_mono (body w s₀ s₁ { s₁ with heap := h₁, toks := tk } mg mb fa o pm cd doc a vs ns G Y ho (fd_plain hd) hcd hmg hobj hints hlen hg rfl F X) (fun f s' hq => ?_) (fun _ _ hq => hq)
    obtain ⟨rfl, h2, h3, h4⟩ := hq
    exact ⟨.inl ⟨.bool true, .bool true, [], rfl, fun _ => rfl, .bool true, post_true l _, fun _ => ⟨List.Pairwise.nil, fun _ hm => (nomatch hm)⟩⟩, h2, h3, h4⟩

/-! ### rules over ANY heap (no ledger) from facts about the written part K: the library's own take a ledger (News) for what they write -/
section
variable {prog : Program} {w : World} {A : Around} {E : Value → Shared → Prop} {s : Shared} {K : Frag}

/-- a def of the module, or a method (qual 'C.m'), entered: the frame is the next address; cells behind it -/
theorem call_fn {R : Result → Shared → Prop} {name qual : Str} {params : Arguments} {body : List Stmt} {scope : Scope} {dV kV doc pm cdv ct oc : Value} {an od : Option Addr} {osl : Array (Option Value)} {f : Addr} {args : Args} {binds : List (Str × Value)}
    (X : K.In s.heap) (hlim : s.heap.NoLimit) (ho : K.lookup f = some ⟨oc, od, .func (fnOf name qual params body scope dV kV doc pm an cdv ct), osl⟩) (hcd : codeIn K cdv qual = true) (hroom : A.depth < recursionLimit)
    (hbind : BindsTo s (fnOf name qual params body scope dV kV doc pm an cdv ct) args binds)
    (hkind : (binds.all fun y => scope.names.lookup y.1 == some .local || scope.names.lookup y.1 == some .cell) = true)
    (h : ∀ s₁, InCallC s s.heap.objs.size (bindL (envOfC qual scope s.heap.objs.size f cdv).kindOf binds fun _ => none) (cellsFrom (s.heap.objs.size + 1) scope.names [])
        (bindC (envOfC qual scope s.heap.objs.size f cdv).kindOf binds fun _ => none) s₁ →
      wpAny (model prog w) (A.deeper (envOfC qual scope s.heap.objs.size f cdv)) (execs body (envOfC qual scope s.heap.objs.size f cdv))
        (fun fl s' => R (.ok (.ret (match fl with | .ret v => v | _ => .none))) s')
        (fun e s' => wpAny (model prog w) (A.deeper (envOfC qual scope s.heap.objs.size f cdv)) (leaving (envOfC qual scope s.heap.objs.size f cdv) e) (fun _ s'' => R (.error e) s'') (fun e' s'' => R (.error e') s'') s') s₁)
    (hco : scope.isCoroutine = false) (hgen : scope.isGenerator = false) (hk : scope.kind = .function) : codeAny (model prog w) A (.call (.ref f) args) R s := by
  refine codeAny_call_function hroom (X _ _ ho) rfl hco hgen rfl (codeRec_of X hcd) (hbind _ _ _ _ ?_)
  refine wpAny_newFunctionEnv_cells hk (kindsX hkind _) fun env he s₁ x => ?_
  subst he
  exact ⟨hlim.keeps x.toInCall.keep, codeAny_func (h s₁ x)⟩

/-- C(..): dict at size, instance at size + 1, then __init__ -/
theorem make_obj {R : Result → Shared → Prop} {C fI : Addr} {rest : List Value} {kw : List (Str × Value)}
    (X : K.In s.heap) (hm : makesIn K C = true) (hi : findIn K (.ref C) "__init__" = some (some (.ref fI))) (hf : isFn K (.ref fI) = true)
    (h : codeAny (model prog w) (A.under (.builtin "type.__call__" ⟨.ref C :: rest, kw⟩)) (.call (.ref fI) ⟨.ref (s.heap.objs.size + 1) :: rest, kw⟩) (InitBack (s.heap.objs.size + 1) R)
      { s with heap := (s.heap.push emptyDict).push (instObj C s.heap.objs.size) }) : codeAny (model prog w) A (.call (.ref C) ⟨rest, kw⟩) R s := by
  obtain ⟨hh, g, d, t, os⟩ := s
  exact make_core (makes_of X hm) (looks_findIn X hi) (fun self => bind_fn X self (beq_iff_eq.mp hf)) (.inl rfl) h

/-- x.name where the instance's dict holds the name and the class does not -/
theorem get_field {x C : Addr} {ox : Obj} {es : List DictEntry} {n : Nat} {name : Str} {expr : Bool} {v : Value} {Q : Value → Shared → Prop}
    (X : K.In s.heap) (I : PySem.W.InstAt s.heap x ox C (some (dictOf es n))) (hg : plainGet K C name = true) (hh : hasDictIn K C = true) (ha : findIn K (.ref C) name = some none)
    (hl : getL name es = some (some v)) (hv : handedIn v = true) (h : Q v { s with toks := s.toks + 1 }) : wpAny (model prog w) A (getAttr (.ref x) name expr) Q E s :=
  get_value X I (plainGet_of hg).1 (findObj_own hh ha rfl hl) hv h

/-- x.m(..): the method found in the class -/
theorem get_method {x C f : Addr} {ox : Obj} {es : List DictEntry} {n : Nat} {name : Str} {pl : Sem Bool} {Q : Value × List Value → Shared → Prop}
    (X : K.In s.heap) (I : PySem.W.InstAt s.heap x ox C (some (dictOf es n))) (hg : plainGet K C name = true) (hf : findIn K (.ref C) name = some (some (.ref f))) (ht : isFn K (.ref f) = true)
    (hl : getL name es = some none) (h : Q (.ref f, [.ref x]) s) : wpAny (model prog w) A (getMethod (.ref x) name pl) Q E s :=
  method_fn X I (plainGet_of hg).1 (plainGet_of hg).2 hf (beq_iff_eq.mp ht) (by show (lookIn name (dictOf es n)).map _ = _; rw [lookIn_dict, hl]; rfl) h

/-! the whole heap as the ledger: makes every rule that writes through a ledger a rule over any heap -/
def noObjs (h : Heap) : Heap := { h with objs := #[] }
theorem noObjs_get (h : Heap) (b : Addr) : (noObjs h).get? b = none := by
  cases e : (noObjs h).get? b with
  | none => rfl
  | some o => exact absurd (Heap.lt_size e) (Nat.not_lt_zero _)
def ledger (h : Heap) (L d : Addr) : List (Addr × Obj) := (List.range h.objs.size).filterMap fun a => if a = L ∨ a = d then none else (h.get? a).map fun o => (a, o)
theorem mem_ledger {h : Heap} {L d a : Addr} {o : Obj} : (a, o) ∈ ledger h L d ↔ a ≠ L ∧ a ≠ d ∧ h.get? a = some o := by
  unfold ledger
  rw [List.mem_filterMap]
  constructor
  · rintro ⟨b, _, e⟩
    split at e
    · cases e
    · rename_i hb
      obtain ⟨o', ho, e'⟩ := Option.map_eq_some_iff.mp e
      cases e'
      exact ⟨fun q => hb (.inl q), fun q => hb (.inr q), ho⟩
  · rintro ⟨n1, n2, ho⟩
    refine ⟨a, List.mem_range.mpr (Heap.lt_size ho), ?_⟩
    rw [if_neg (show ¬ (a = L ∨ a = d) from fun q => q.elim n1 n2), ho] <;> rfl
theorem news_ledger {h : Heap} {L d : Addr} {od : Obj} (hne : d ≠ L) (ho : h.get? d = some od) : News (noObjs h) L h ([] ++ (d, od) :: ledger h L d) := by
  rintro ⟨a, o⟩ hp
  rcases List.mem_cons.mp hp with e | hp
  · cases e
    exact ⟨ho, hne, noObjs_get _ _⟩
  · obtain ⟨n1, n2, e⟩ := mem_ledger.mp hp
    exact ⟨e, n1, noObjs_get _ _⟩
theorem fr_all {h : Heap} {L : Addr} {m : Str → Option Value} (n : h.Ns L m) : Fr (noObjs h) L h m :=
  ⟨n, fun b o e => (by rw [noObjs_get] at e; cases e), Nat.zero_le _⟩
/-- Upd of the head entry (for append_K, setItem_K ..) -/
theorem upd_ledger {h : Heap} {L d : Addr} {o o' : Obj} : Upd d o o' ((d, o) :: ledger h L d) ((d, o') :: ledger h L d) :=
  .head fun ⟨_, _⟩ hp => (mem_ledger.mp hp).2.1

/-- x.name = v over any heap: L is any namespace of the heap (the frame's, say): its map stays, its object is not told; all else but the dict stays -/
theorem set_field {x C dx L : Addr} {ox : Obj} {m : Str → Option Value} {es es' : List DictEntry} {n n' : Nat} {name : Str} {v : Value} {Q : Unit → Shared → Prop}
    (X : K.In s.heap) (I : PySem.W.InstAt s.heap x ox C (some (dictOf es n))) (hd : ox.dict = some dx) (hL : s.heap.Ns L m) (hne : dx ≠ L)
    (hs : findIn K (.ref C) "__setattr__" = some (some (.builtin "object.__setattr__"))) (hp : plainOver K C = true) (ht : takerIn K C name = some none) (hh : hasDictIn K C = true) (hl : (getL name es).isSome = true)
    (e : (putL name (PyData.keyHash w.params name) (.str name (s.toks + 1)) v es, putN name es n) = (es', n')) (hz : es'.length ≤ 1000)
    (h : ∀ h' : Heap, h'.Ns L m → h'.get? dx = some (dictOf es' n') → (∀ b o, b ≠ dx → b ≠ L → s.heap.get? b = some o → h'.get? b = some o) → Q () { s with heap := h', toks := s.toks + 2 }) :
    wpAny (model prog w) A (setAttr (.ref x) name v) Q E s := by
  obtain ⟨e1, e2⟩ := Prod.mk.inj e
  have hdx : s.heap.get? dx = some (dictOf es n) := by
    have := I.dict
    rw [hd] at this
    exact this
  refine set_plain X I hs (osa_dict (s := { s with toks := s.toks + 1 }) (h₀ := noObjs s.heap) (L := L) (m := m) (od := dictOf es n) (od' := dictOf es' n') (es := es') (n := n') (pre := []) (post := ledger s.heap L dx)
    (fr_all hL) (news_ledger hne hdx) X I hd hp ht hh hl (fun _ q => nomatch q) (fun ⟨_, _⟩ q => (mem_ledger.mp q).2.1) (by rw [putName_dict, e1, e2]) rfl hz fun h' F' N' => ?_)
  exact h h' F'.ns (N'.get (List.Mem.head _)) fun b o n1 n2 ho => N'.get (List.Mem.tail _ (mem_ledger.mpr ⟨n2, n1, ho⟩))
end
end Att

namespace L2
open PySem PySem.Spec PyProof.Rows

theorem vals_ints : ∀ {vs : List Value} {ns : List Int}, IntsAre vs ns → Vals (ns.map V.int) vs
  | _, _, .nil => .nil
  | _, _, .cons n t h => .cons ⟨t, rfl⟩ (vals_ints h)

/-- nothing is tracked but the script, known to the object (or it is an object of the module) -/
def Only (H : Hp) : Prop := ∀ b, H b = none ∨ ∃ o xs, H b = some (.frz o (.lst xs))

/-- THE HEAD: the law's promise, at the heap behind the top. F, the promise of the law's def, may use that base is part of the heap (so K.In base, base.Ns mainGlobals mg stand in Mod) -/
theorem law_call {P : Program} {w : World} {K : PySem.W.Frag} {mg mb : Str → Option Value} {CX : CXT} {k : Nat} {fa a : Addr} {fd : FuncData} {x : Str} {sp : Sp} {s₁ : Shared} {vs : List Value} {ns : List Int}
    (KX : K.In s₁.heap) (hns : s₁.heap.Ns mainGlobals mg) (hb : s₁.heap.Ns builtinsNs mb) (hbb : ∀ x : Str, x ≠ "__name__" → mb x = bootBuiltins x) (hlim : s₁.heap.NoLimit) (hg : s₁.gens = #[])
    (ha : s₁.heap.get? a = some { cls := .type "list", data := .seq vs.toArray }) (hi : IntsAre vs ns) (hl : ns.length ≤ sizeLine) (hr : Room k callerA)
    (F : ∀ base : Heap, K.In base → base.Ns mainGlobals mg → FnOk P w K mg base CX k fa fd [x] sp) (hbind : ∀ (s : Shared) (u : Value), BindsTo s fd ⟨[u], []⟩ [(x, u)])
    (hsp : ∀ H : Hp, Only H → SqL K H a (ns.map V.int) → sp [.ref a] H (fun v _ => v = .bl true) fun _ _ _ => False)
    (hCX : ∀ H e s', CX [] H s₁ (fun _ _ _ => False) e s' → False) :
    codeAny (model P w) callerA (.call (.ref fa) ⟨[.ref a], []⟩) (fun r s' => r = .ok (.ret (.bool true)) ∧ OldK s₁.heap s'.heap ∧ s'.os = s₁.os ∧ AllBare s'.gens) s₁ := by
  have rv := vals_ints hi
  have lenV := hi.length
  -- from an abstract heap in which nothing but the script may be tracked
  have core : ∀ H : Hp, Only H → SqL K H a (ns.map V.int) → HOk P w H s₁.heap → (∀ b, H b ≠ none → b = a) → (H a ≠ none → K.lookup a = none) →
      codeAny (model P w) callerA (.call (.ref fa) ⟨[.ref a], []⟩) (fun r s' => r = .ok (.ret (.bool true)) ∧ OldK s₁.heap s'.heap ∧ s'.os = s₁.os ∧ AllBare s'.gens) s₁ := by
    intro H hO hS hok hA hK
    have base_of : ∀ {b : Addr} {o : Obj}, s₁.heap.get? b = some o → H b = none → (hidT s₁.heap H).get? b = some o := fun e n => hidT_get e n
    have noA : ∀ {b : Addr} {o : Obj} {es : Array DictEntry} {ep : Nat}, s₁.heap.get? b = some o → o.data = .dict es ep → H b = none := fun {b o es ep} e d => by
      cases q : H b with
      | none => rfl
      | some u =>
        have e' : b = a := hA b (by rw [q]; simp)
        subst e'
        rw [ha] at e; cases e
        have d' : Data.seq vs.toArray _ = Data.dict es ep := d
        cases d'
    have nsK : ∀ {b : Addr} {m : Str → Option Value}, s₁.heap.Ns b m → (hidT s₁.heap H).Ns b m := fun {b m} ⟨o, es, ep, e, d, r⟩ => ⟨o, es, ep, base_of e (noA e d), d, r⟩
    have hKb : K.In (hidT s₁.heap H) := fun b o e => base_of (KX b o e) (by
      cases q : H b with
      | none => rfl
      | some u =>
        have e' : b = a := hA b (by rw [q]; simp)
        subst e'
        rw [hK (by rw [q]; simp)] at e; cases e)
    have hM : Mod K mg (hidT s₁.heap H) := ⟨hKb, nsK hns, ⟨mb, nsK hb, hbb⟩, let ⟨mc, h1, h2⟩ := hlim; ⟨mc, nsK h1, h2⟩⟩
    have e0 : Env0 P w K mg (hidT s₁.heap H) callerA [] s₁ H := ⟨rfl, hM, fun b o e => of_hidT e, Nat.le_of_eq (hidT_size _ _), trivial, fun b hb => absurd (show b ∈ ([] : List Addr) from hb) (by simp), hok, .of_eq hg⟩
    refine codeAny_mono ((F _ hKb (nsK hns)).run callerA [] s₁ H ⟨[.ref a], []⟩ [.ref a] [.ref a] _ _ hr e0 (hbind s₁ (.ref a)) (.cons rfl .nil) (hsp H hO hS)) fun r s' h => ?_
    cases r with
    | error e => exact (hCX H e s' h).elim
    | ok fl =>
      cases fl with
      | next => exact False.elim h
      | brk => exact False.elim h
      | cont => exact False.elim h
      | ret u =>
        obtain ⟨v, H', os, bare, un, hok', r', q⟩ := h
        have q' : v = .bl true := q
        subst q'
        obtain rfl : u = Value.bool true := r'
        refine ⟨rfl, OldK.of_keep fun b o e => ?_, os, bare⟩
        cases q : H b with
        | none => exact un.keep b o e q (by intro z; exact absurd (show b ∈ ([] : List Addr) from z) (by simp)) (by simp)
        | some u =>
          rcases hO b with z | ⟨ob, xs, z⟩
          · rw [q] at z; cases z
          · have z2 := un.frzs b ob _ z
            obtain ⟨e1, _⟩ := hok b _ z
            obtain ⟨e2, _⟩ := hok' b _ z2
            rw [e] at e1; cases e1
            exact e2
  cases hk : K.lookup a with
  | some o =>
    -- the script is one of the module's own objects
    have e := KX a o hk
    rw [ha] at e
    cases e
    refine core (fun _ => none) (fun _ => .inl rfl) (.inr ⟨_, vs.toArray, _, hk, rfl, rfl, rfl, by rw [List.size_toArray, lenV]; exact hl, by simpa using rv⟩) (fun b u z => by have z' : (none : Option HO) = some u := z; cases z') (fun b z => absurd rfl z) fun z => absurd rfl z
  | none =>
    refine core (fun b => if b = a then some (.frz { cls := .type "list", data := .seq vs.toArray } (.lst (ns.map V.int))) else none) (fun b => ?_) (.inl (.inr ⟨{ cls := .type "list", data := .seq vs.toArray }, if_pos rfl⟩)) (fun b u z => ?_) (fun b z => ?_) fun _ => hk
    · by_cases hb : b = a
      · exact .inr ⟨_, _, if_pos hb⟩
      · exact .inl (if_neg hb)
    · by_cases hb : b = a
      · have z' := (if_pos hb).symm.trans z
        cases z'
        subst hb
        exact ⟨ha, by rw [List.length_map]; exact hl, vs, _, rv, ha⟩
      · have z' := (if_neg hb).symm.trans z
        cases z'
    · by_cases hb : b = a
      · exact hb
      · exact absurd (if_neg hb) z
end L2

namespace L2
open PySem PySem.Spec PyProof.Rows

abbrev KOf {K : PySem.W.Frag} {h : Heap} (_ : K.In h) : PySem.W.Frag := K

/-- the goal that k_head leaves (case hc), from the law's promise. F gives the function object fd (K's own) once, then the promise over every base -/
theorem walk_of {l : PySem.W.OpenLaw} {n k : Nat} {q : Program} {loose : List Str} {XP : (Str → Option Value) → Heap → Prop} {YP : World → Heap → Prop} {d : DefRec} {K : Params → PySem.W.Frag} {CX : World → CXT} {sp : World → Sp} {x : Str}
    (hn : l.most = some n) (hn2 : n ≤ sizeLine) (hdf : d.params.defaults = []) (hr : Room k callerA)
    (hY : ∀ (w : World) (h : Heap), YP w h → (K w.params).In h)
    (F : ∀ (w : World) (mg : Str → Option Value) (fa : Addr) (h : Heap), (K w.params).In h → h.Ns mainGlobals mg → mg d.name = some (.ref fa) →
      ∃ fd : FuncData, (∀ (s : Shared) (u : Value), BindsTo s fd ⟨[u], []⟩ [(x, u)]) ∧
        ∀ base : Heap, (K w.params).In base → base.Ns mainGlobals mg → FnOk l.prog w (K w.params) mg base (CX w) k fa fd [x] (sp w))
    (hsp : ∀ (w : World) (H : Hp) (a : Addr) (ns : List Int), ns.length ≤ n → Only H → SqL (K w.params) H a (ns.map V.int) → sp w [.ref a] H (fun v _ => v = .bl true) fun _ _ _ => False)
    (hCX : ∀ (w : World) (H : Hp) (s : Shared) (e : Value) (s' : Shared), CX w [] H s (fun _ _ _ => False) e s' → False) :
    PySem.W.WalkO q loose XP YP l.row.toRowW d [] (fun f vs => PySem.call f vs) := by
  refine Att.attach_call hn hdf fun w s₀ s₁ mg mb fa o pm cd doc a vs ns G Y ho hd hcd hmg hobj hints hlen hg => ?_
  have KX := hY w _ Y
  obtain ⟨fd, hb, hF⟩ := F w mg fa _ KX G.T.g hmg
  exact law_call KX G.T.g G.T.b G.T.builtins G.T.nolimit hg hobj hints (Nat.le_trans hlen hn2) hr hF hb (fun H hO hS => hsp w H a ns hlen hO hS) fun H e s' => hCX w H s₁ e s'
/-- the same where the promise hangs on the written part alone: (sp := My.sp_law), no hole under a binder -/
theorem walk_ofK {l : PySem.W.OpenLaw} {n k : Nat} {q : Program} {loose : List Str} {XP : (Str → Option Value) → Heap → Prop} {YP : World → Heap → Prop} {d : DefRec} {K : Params → PySem.W.Frag} {CX : CXT} {sp : PySem.W.Frag → Sp} {x : Str}
    (hn : l.most = some n) (hn2 : n ≤ sizeLine) (hdf : d.params.defaults = []) (hr : Room k callerA)
    (hY : ∀ (w : World) (h : Heap), YP w h → (K w.params).In h)
    (F : ∀ (w : World) (mg : Str → Option Value) (fa : Addr) (h : Heap), (K w.params).In h → h.Ns mainGlobals mg → mg d.name = some (.ref fa) →
      ∃ fd : FuncData, (∀ (s : Shared) (u : Value), BindsTo s fd ⟨[u], []⟩ [(x, u)]) ∧
        ∀ base : Heap, (K w.params).In base → base.Ns mainGlobals mg → FnOk l.prog w (K w.params) mg base CX k fa fd [x] (sp (K w.params)))
    (hsp : ∀ (K : PySem.W.Frag) (H : Hp) (a : Addr) (ns : List Int), ns.length ≤ n → Only H → SqL K H a (ns.map V.int) → sp K [.ref a] H (fun v _ => v = .bl true) fun _ _ _ => False)
    (hCX : ∀ (H : Hp) (s : Shared) (e : Value) (s' : Shared), CX [] H s (fun _ _ _ => False) e s' → False) :
    PySem.W.WalkO q loose XP YP l.row.toRowW d [] (fun f vs => PySem.call f vs) :=
  walk_of (K := K) (CX := fun _ => CX) (sp := fun w => sp (K w.params)) hn hn2 hdf hr hY F (fun w H a ns h1 h2 h3 => hsp (K w.params) H a ns h1 h2 h3) fun _ H s e s' => hCX H s e s'
end L2

/- THE LAST THEOREM (shape; LID, My.* are yours):
   My.Adr: a structure of the addresses that your layer names (classes, functions); My.Txt K t: a structure (Prop) of the equations over K;
   My.txt_mk : {K} {implicit addresses ..} (e1 : nsIn K mainGlobals "law" = some (some (.ref f))) (e2 : K.lookup f = some ⟨oc, od, .func (fnOf "law" "law" params body scope dV kV doc pm an cdv ct), sl⟩) (e3 : codeIn K cdv "law" = true) .. : ∃ t, My.Txt K t

set_option maxRecDepth 100000 in
set_option maxHeartbeats 0 in
theorem PySem.Challenge.cw_LID_holds : PySem.Challenge.rw_LID.Holds := by
  w_on; o_law; k_head; (case hw => w_witness2)
  k_fill
  refine L2.walk_of (l := PySem.Challenge.rw_LID) (n := 63) (k := 40) (x := "script") (CX := fun w => ..) (sp := fun _ => My.sp_law) rfl (by decide) rfl ⟨rfl, by decide, by decide⟩ (fun w h Y => PySem.W.kIn_of Y) ?F ?S ?C
  case F =>
    intro w mg fa h KX G hmg
    have T : ∃ t, My.Txt (L2.KOf KX) t := by
      dsimp only [L2.KOf]                          -- K must stand as «<heap const> w.params» for k_is
      refine' My.txt_mk ?e1 ?e2 ?e3 ..
      (case e1 => PySem.W.k_is)                    -- in the order: a name -> its address -> its object -> its parts
      (case e2 => PySem.W.k_is)
      ..
    obtain ⟨t, T⟩ := T
    have e0 := hmg.symm.trans (PySem.W.mg_of KX G T.law)
    cases e0                                       -- fa is the law's own address
    exact ⟨_, fun s u => .of_eq rfl, fun base kb nb => My.law_fn T kb nb⟩     -- if «.of_eq rfl» comes too early: refine' ⟨_, ?b, fun base kb nb => My.law_fn T kb nb⟩; exact fun s u => .of_eq rfl
  case S => exact fun w H a ns hl hO hS => ..
  case C => exact ..
(the tactic k_is has no namespace: write k_is) -/

/-! SHORT WORDS over the layer: a def of the text, its body, what a loop and a test want. -/
namespace L2
open PySem PySem.Spec PyProof.Rows

/-! ### the text by places -/
/-- the j-th statement of a class's body -/
def inClass (s : Stmt) (j : Nat) : Stmt := match s with
  | .ClassDef _ _ _ body _ _ _ _ _ _ _ => body.getD j (.Pass ⟨0, 0, 0, 0⟩)
  | _ => .Pass ⟨0, 0, 0, 0⟩
def defArgs (s : Stmt) : Arguments := match s with
  | .FunctionDef _ a _ _ _ _ _ _ _ _ => a
  | _ => { posonlyargs := [], args := [], vararg := none, kwonlyargs := [], kw_defaults := [], kwarg := none, defaults := [] }
def defBody (s : Stmt) : List Stmt := match s with
  | .FunctionDef _ _ b _ _ _ _ _ _ _ => b
  | _ => []
def defScope (s : Stmt) : Scope := match s with
  | .FunctionDef _ _ _ _ _ _ sc _ _ _ => sc
  | _ => { kind := .function, names := [], isGenerator := false, isCoroutine := false }

/-! ### no exception leaves a def -/
abbrev CX0 : CXT := fun _ _ _ _ _ _ => False
abbrev E0 : XK := fun _ _ _ => False
theorem pass0 {X : Cx} : Passes CX0 X E0 := fun _ _ _ _ _ _ _ h => h.elim

/-! ### a def (or method) of the text as it stands behind the top -/
structure Fun (K : PySem.W.Frag) (x qual : Str) (st : Stmt) (f : Addr) (fd : FuncData) : Prop where
  ex : ∃ (oc : Value) (od : Option Addr) (kV doc pm : Value) (an : Option Addr) (cdv ct : Value) (osl : Array (Option Value)),
    fd = PySem.W.fnOf x qual (defArgs st) (defBody st) (defScope st) .none kV doc pm an cdv ct ∧ K.lookup f = some ⟨oc, od, .func fd, osl⟩ ∧ PySem.W.codeIn K cdv qual = true
  kp : PySem.W.keepIn K (.ref f) = true
section
variable {P : Program} {w : World} {K : PySem.W.Frag} {mg : Str → Option Value} {base : Heap}
/-- THE RULE for a def: its body as a term of rules, and the reading of that term -/
theorem Fun.ok {x qual : Str} {st : Stmt} {f : Addr} {fd : FuncData} {N ps : List Str} {k : Nat} {sp : Sp} (F : Fun K x qual st f fd) (S : FnScope N ps (defScope st)) (len : ∀ vs H Q E, sp vs H Q E → vs.length = ps.length)
    (hbody : ∀ (cdv : Value) (A : Around) (outer : List Env) (s : Shared) (H : Hp) (vs : List V) (Q : VK) (E : XK), Room k (A.deeper (envOfC qual (defScope st) s.heap.objs.size f cdv)) → sp vs H Q E →
      ∃ t, PSs (cxOf CX0 P w K mg base N qual (defScope st) f cdv A outer s H E).nox (defBody st) t ∧ t { nx := fun _ H' => Q .non H', rt := Q } (start N vs) H) : FnOk P w K mg base CX0 (k + 1) f fd ps sp := by
  obtain ⟨oc, od, kV, doc, pm, an, cdv, ct, osl, rfl, lk, hcd⟩ := F.ex
  refine fn_of lk hcd S len fun A outer s H vs Q E hr hsp => ?_
  obtain ⟨t, h, q⟩ := hbody cdv A outer s H vs Q E hr hsp
  exact ⟨t, h.nox, q⟩
/-- how its arguments bind (no defaults): h is «fun _ _ _ _ _ _ us hl => match us, hl with | [_, _], _ => rfl», one _ a parameter -/
theorem Fun.binds {x qual : Str} {st : Stmt} {f : Addr} {fd : FuncData} {ps : List Str} (F : Fun K x qual st f fd)
    (h : ∀ (kV doc pm : Value) (an : Option Addr) (cdv ct : Value) (us : List Value), us.length = ps.length → bindArgs (PySem.W.fnOf x qual (defArgs st) (defBody st) (defScope st) .none kV doc pm an cdv ct) ⟨us, []⟩ = pure (ps.zip us)) : Binds K fd ps [] := by
  obtain ⟨oc, od, kV, doc, pm, an, cdv, ct, osl, rfl, lk, hcd⟩ := F.ex
  exact .all (h kV doc pm an cdv ct)
theorem fun_mk {x qual : Str} {st : Stmt} {f : Addr} {oc : Value} {od an : Option Addr} {osl : Array (Option Value)} {kV doc pm cdv ct : Value} (l : K.lookup f = some ⟨oc, od, .func (PySem.W.fnOf x qual (defArgs st) (defBody st) (defScope st) .none kV doc pm an cdv ct), osl⟩)
    (c : PySem.W.codeIn K cdv qual = true) (k : PySem.W.keepIn K (.ref f) = true) : Fun K x qual st f (PySem.W.fnOf x qual (defArgs st) (defBody st) (defScope st) .none kV doc pm an cdv ct) := ⟨⟨oc, od, kV, doc, pm, an, cdv, ct, osl, rfl, l, c⟩, k⟩
end
theorem hu_of {A : Around} {k : Nat} (hr : Room k A) : A.units + 1 < cLine := Nat.lt_of_le_of_lt (Nat.add_le_add_left (by decide : 1 ≤ 64) _) hr.units
theorem small1000 {n : Nat} (h : n ≤ 1000) : n < sizeLine := Nat.lt_of_le_of_lt h (by decide)

/-! ### expressions in short: the name that stands in the i-th slot -/
section
variable {X : Cx}
theorem pv (i : Nat) {x : Str} {pos : Pos} (hN : X.N[i]? = some x := by rfl) (hv : Vis X.env.scope x := by first | exact Or.inl rfl | exact Or.inr (Or.inl rfl) | exact Or.inr (Or.inr rfl)) (hd : (x == ("__debug__" : Str)) = false := by decide)
    (hcd : (x == ("__classdict__" : Str)) = false := by decide) : PE X (.Name x pos) (tVar i) := pe_var hN hv hd hcd
end

/-! ### tests -/
theorem iteF {A B : Prop} (h : B) : if false = true then A else B := by
  rw [if_neg Bool.false_ne_true]
  exact h
theorem iteT {A B : Prop} (h : A) : if true = true then A else B := by
  rw [if_pos rfl]
  exact h
theorem ite2 {c A B : Prop} [Decidable c] (h1 : c → A) (h2 : ¬ c → B) : if c then A else B := by
  by_cases h : c
  · rw [if_pos h]
    exact h1 h
  · rw [if_neg h]
    exact h2 h
theorem iteNS {c A B : Prop} [Decidable c] (hc : c) (h : B) : if (!decide c) = true then A else B := by
  rw [decide_eq_true hc]
  exact iteF h

/-! ### heaps -/
/-- all that was tracked is as it was -/
def Same (H H' : Hp) : Prop := ∀ b o, H b = some o → H' b = some o
theorem Same.refl (H : Hp) : Same H H := fun _ _ h => h
theorem Same.trans {H H1 H2 : Hp} (a : Same H H1) (b : Same H1 H2) : Same H H2 := fun c o h => b c o (a c o h)
theorem Same.free {H H' : Hp} (e : Same H H') {l : Addr} (h : H' l = Option.none) : H l = Option.none := by
  cases q : H l with
  | none => rfl
  | some o =>
    rw [e l o q] at h
    cases h
theorem Same.seq {K : PySem.W.Frag} {H H' : Hp} {a : Addr} {xs : List V} (e : Same H H') (h : SqL K H a xs) : SqL K H' a xs := by
  rcases h with (h | ⟨o, h⟩) | h
  · exact .inl (.inl (e _ _ h))
  · exact .inl (.inr ⟨o, e _ _ h⟩)
  · exact .inr h

end L2

/-! ## More rules over the hand layer (own text). -/
namespace L2
open PySem PySem.Spec PyProof.Rows

section
variable {X : Cx}
/-! ### either of two readings -/
theorem PE.or {e : Expr} {t u : TE} (h : PE X e t) (h' : PE X e u) : PE X e (fun σ H Q => t σ H Q ∨ u σ H Q) :=
  fun pins s σ H Q I q => q.elim (h pins s σ H Q I) (h' pins s σ H Q I)
theorem PT.or {e : Expr} {t u : TT} (h : PT X e t) (h' : PT X e u) : PT X e (fun σ H Q => t σ H Q ∨ u σ H Q) :=
  fun pins s σ H Q I q => q.elim (h pins s σ H Q I) (h' pins s σ H Q I)
theorem PS.or {e : Stmt} {t u : TS} (h : PS X e t) (h' : PS X e u) : PS X e (fun D σ H => t D σ H ∨ u D σ H) :=
  fun pins s σ H D I q => q.elim (h pins s σ H D I) (h' pins s σ H D I)
end

/-! ### a text's signs, walked -/
def Its (z : Str) : It := ⟨fun i _ => i < z.length, fun i H x H' => H' = H ∧ ∃ c, z.cps[i]? = some c ∧ x = .str ⟨#[c]⟩, fun i _ => i = z.length⟩
theorem walks_str {prog : Program} {w : World} {A : Around} (hh : A.handled = none) (I : Addr) (x : Str) (t : Tok) :
    Walks prog w A I [I] [I] x.cps.size (SignAt x) (fun i h => h.IsStrIter I (strIterType x) x t i) := by
  unfold strIterType
  split
  · exact Walks.strAscii hh I x t
  · exact Walks.strWide hh I x t
theorem strIter_plain (z : Str) : ["enumerate", "zip", "dict_itemiterator", "dict_reverseitemiterator", "odict_iterator", "itertools.zip_longest", "itertools.pairwise"].contains (strIterType z) = false := by
  unfold strIterType
  split <;> decide
theorem turn_str {P : Program} {w : World} {K : PySem.W.Frag} {tg : Expr} (z : Str) (t : Tok) (it : Addr) : Turn P w K tg (Its z) [it] it (fun i h => h.IsStrIter it (strIterType z) z t i) where
  mem := by simp
  obj := fun i h st b hb => by
    have e : b = it := by simpa using hb
    subst e
    obtain ⟨o, e, c, d⟩ := st
    exact ⟨o, e, fun v q => by rw [d] at q; cases q⟩
  keep := fun i h h' st k => by
    obtain ⟨o, e, r⟩ := st
    exact ⟨o, k it (by simp) o e, r⟩
  item := by
    intro X hP hw hK hc i pins s σ H E I hf st hg
    subst hP hw hK
    obtain ⟨f0, f1, f2, f3, f4, f5⟩ := hf it (by simp)
    have W := walks_str (prog := X.prog) (w := X.w) (I.ok.hd hc) it z t
    refine W.item i s _ _ (show i < z.cps.size from hg) st fun v h' tk hv st' kk => ?_
    obtain ⟨c, u, hcx, rfl⟩ := hv
    have I1 : Inv X pins σ H { s with heap := h', toks := tk } := I.turned (fun b o hb e => kk b o (by simpa using hb) e) f0 f1 f3 f4 f5
    obtain ⟨o, e, hcl, d⟩ := id st'
    exact ⟨_, rfl, go_of (s := { s with heap := h', toks := tk }) e hcl d (strIter_plain z) ⟨.str ⟨#[c]⟩, H, I1, ⟨u, rfl⟩, ⟨rfl, c, hcx, rfl⟩, st', fun b hb => (hf b hb).1⟩⟩
  done := by
    intro X hP hw hK hc i pins s σ H E I hf st hg
    subst hP hw hK
    obtain ⟨f0, f1, f2, f3, f4, f5⟩ := hf it (by simp)
    have hi : i = z.length := hg
    subst hi
    have W := walks_str (prog := X.prog) (w := X.w) (I.ok.hd hc) it z t
    exact W.done s _ _ st fun h' tk kk => ⟨rfl, I.turned (fun b o hb e => kk b o (by simpa using hb) e) f0 f1 f3 f4 f5⟩
  self := fun A i s Q E st h => by
    revert st
    unfold strIterType
    split
    · intro st
      exact wpAny_pyIter_striter_ascii st h
    · intro st
      exact wpAny_pyIter_striter_wide st h
section
variable {X : Cx} {tg : Expr}
def iStr (tl : TE) : TI := fun σ H R => tl σ H fun x H1 => ∃ z, x = .str z ∧ R (Its z) H1
theorem pi_str {l : Expr} {tl : TE} (hl : PE X l tl) : PI X tg l (iStr tl) := by
  intro pins s σ H R I h
  refine thn (hl pins s σ H _ I h) fun v s1 ⟨x, H1, I1, r1, q1⟩ => ?_
  obtain ⟨z, e, q⟩ := q1
  subst e
  obtain ⟨t, rfl⟩ := r1
  refine wpAny_pyIter_strU ?_
  refine ⟨s1.heap.objs.size, [s1.heap.objs.size], _, _, H1, rfl, I1.kept (t' := s1.toks) fun b o e => Heap.get?_push_of_some _ e, turn_str z t _, ⟨_, Heap.get?_push_size _ rfl, rfl, rfl⟩, fun b hb => ?_, q⟩
  have e : b = s1.heap.objs.size := by simpa using hb
  subst e
  exact I1.fpOk (Nat.le_refl _) (I1.hok.fresh (Nat.le_refl _))
end
theorem for_str {z : Str} {g : TG} {tb : TS} {D : Ends} {σ : St} {H : Hp} (Pv : Nat → St → Hp → Prop) (h0 : Pv 0 σ H)
    (hs : ∀ i c σ H, z.cps[i]? = some c → Pv i σ H → g (.str ⟨#[c]⟩) σ H fun σ2 H2 => tb { D with nx := Pv (i + 1), ct := Pv (i + 1), bk := D.nx } σ2 H2) (hd : ∀ σ H, Pv z.length σ H → D.nx σ H) :
    ∃ W : Nat → Nat → St → Hp → Prop, (∃ m, W 0 m σ H) ∧ ∀ i m σ H, W i m σ H →
      ((Its z).stop i H ∧ D.nx σ H) ∨ ((Its z).go i H ∧ ∃ N : St → Hp → Prop, (∀ σ' H', N σ' H' → ∃ m', m' < m ∧ W (i + 1) m' σ' H') ∧ ∀ x H', (Its z).yld i H x H' → g x σ H' fun σ2 H2 => tb { D with nx := N, ct := N, bk := D.nx } σ2 H2) := by
  refine ⟨fun i m σ H => m = z.length - i ∧ i ≤ z.length ∧ Pv i σ H, ⟨z.length, by simp, Nat.zero_le _, h0⟩, ?_⟩
  rintro i m σ H ⟨rfl, hi, p⟩
  by_cases hlt : i < z.length
  · refine .inr ⟨hlt, Pv (i + 1), fun σ' H' p' => ⟨z.length - (i + 1), by omega, rfl, hlt, p'⟩, fun x H' y => ?_⟩
    obtain ⟨e, c, hc, y⟩ := y
    subst e y
    exact hs i c σ _ hc p
  · have e : i = z.length := by omega
    subst e
    exact .inl ⟨rfl, hd σ H p⟩

/-! ### texts: slices, join, *, find -/
def rSlS : V → Option Int → Option Int → Hp → VK → Prop := fun x lo hi H Q => ∃ z, x = .str z ∧ z.length ≤ sizeLine ∧ Q (.str (Txt.slice z lo hi)) H
section
variable {X : Cx}
theorem sl_str : SlR X rSlS := by
  intro pins s σ H x v vl vu lo hi sl Q I rx hs pl pu h
  obtain ⟨z, rfl, hz, q⟩ := h
  obtain ⟨t, rfl⟩ := rx
  refine ⟨"str", _, PySem.F.slot_str_getitem.lookup, typeIs_str _ _ _, ?_⟩
  obtain ⟨o, ho, hc, hd⟩ := hs
  have fin : ∀ t' k, EP X pins σ Q (.str (Txt.slice z lo hi) t') { s with toks := k } := fun t' k => ⟨.str (Txt.slice z lo hi), H, I.tok _, ⟨t', rfl⟩, q⟩
  cases pl with
  | none =>
    cases pu with
    | none => exact wpAny_getItem_str_slice (l := none) (u := none) (st := none) ⟨o, ho, hc, hd⟩ rfl (post_val_or_str ⟨Nat.le_trans (Txt.slice_le z _ _) hz, fin⟩)
    | int j uj => exact wpAny_getItem_str_slice (l := none) (u := some (j, uj)) (st := none) ⟨o, ho, hc, hd⟩ rfl (post_val_or_str ⟨Nat.le_trans (Txt.slice_le z _ _) hz, fin⟩)
  | int i ui =>
    cases pu with
    | none => exact wpAny_getItem_str_slice (l := some (i, ui)) (u := none) (st := none) ⟨o, ho, hc, hd⟩ rfl (post_val_or_str ⟨Nat.le_trans (Txt.slice_le z _ _) hz, fin⟩)
    | int j uj => exact wpAny_getItem_str_slice (l := some (i, ui)) (u := some (j, uj)) (st := none) ⟨o, ho, hc, hd⟩ rfl (post_val_or_str ⟨Nat.le_trans (Txt.slice_le z _ _) hz, fin⟩)

theorem strsAre_of {ns : List Str} : ∀ {us : List Value}, Vals (ns.map V.str) us → StrsAre us ns := by
  induction ns with
  | nil => intro us h; cases h; exact .nil
  | cons n ns ih =>
    intro us h
    cases h with
    | cons r t =>
      obtain ⟨tk, rfl⟩ := r
      exact .cons n tk (ih t)
/-- sep.join(a list of texts) -/
def rJoin (K : PySem.W.Frag) : V → List V → Hp → VK → Prop := fun x vs H Q => ∃ z p ys, x = .str z ∧ vs = [.ref p] ∧ SqL K H p (ys.map V.str) ∧ (ys.map (·.length)).sum + ys.length * z.length ≤ 16777216 ∧ Q (.str (Txt.join z ys)) H
theorem mt_join : MtR X "str.join" (rJoin X.K) := by
  intro pins s σ H x vs v us Q I rx rv h
  obtain ⟨z, p, ys, rfl, rfl, hq, hz, q⟩ := h
  obtain ⟨t, rfl⟩ := rx
  obtain ⟨u, rfl, ru⟩ := rv.one
  cases ru
  obtain ⟨its, r, pl, _⟩ := I.list hq
  exact join_list pl.isList (strsAre_of (by simpa using r)) hz fun t' k => ⟨.str (Txt.join z ys), H, I.tok _, ⟨t', rfl⟩, q⟩
/-- x * n of a text -/
def rMulS : R2 := fun x y H Q => ∃ z n, x = .str z ∧ y = .int n ∧ MulOk z n ∧ Q (.str (Txt.mul z n)) H
theorem op_mul_str : OpR X (binaryOp .Mult) rMulS := by
  intro pins s σ H x y v u Q I rx ry h
  obtain ⟨z, n, rfl, rfl, hm, q⟩ := h
  obtain ⟨t, rfl⟩ := rx
  obtain ⟨t', rfl⟩ := ry
  exact SB.mul hm fun t' k => ⟨.str (Txt.mul z n), H, I.tok _, ⟨t', rfl⟩, q⟩
def rFind : V → List V → Hp → VK → Prop := fun x vs H Q => ∃ z y, x = .str z ∧ vs = [.str y] ∧ Q (.int (Txt.find z y)) H
theorem mt_find : MtR X "str.find" rFind := by
  intro pins s σ H x vs v us Q I rx rv h
  obtain ⟨z, y, rfl, rfl, q⟩ := h
  obtain ⟨t, rfl⟩ := rx
  obtain ⟨u, rfl, ru⟩ := rv.one
  obtain ⟨t', rfl⟩ := ru
  exact SC.find ⟨.int _, H, I.tok _, ⟨_, rfl⟩, q⟩

/-! ### int(text) -/
theorem call_int_text : CallR X (.type "int") (fun xs H Q => ∃ z n, xs = [.str z] ∧ PySem.intText? z = some n ∧ z.length ≤ 640 ∧ Q (.int n) H) := by
  intro pins s σ H xs us Q I r h
  obtain ⟨z, n, rfl, hn, hl, q⟩ := h
  obtain ⟨u, rfl, t, rfl⟩ := vals1 r
  exact PySem.W.KIN.call_text hn hl ⟨.int n, H, I.tok _, ⟨_, rfl⟩, q⟩

/-! ### is True, is False -/
theorem op_isB : OpR X (compareOp .Is) (fun x y H Q => ∃ b, y = .bl b ∧ Q (.bl (decide (x = .bl b))) H) := by
  intro pins s σ H x y v u Q I rx ry h
  obtain ⟨b, rfl, q⟩ := h
  cases ry
  cases x with
  | non => cases rx; exact wpAny_is_plain rfl (fin_bl I q (by cases b <;> rfl))
  | bl c => cases rx; exact is_bool (fin_bl I q (by cases b <;> cases c <;> rfl))
  | int i => obtain ⟨t, rfl⟩ := rx; exact wpAny_is_plain rfl (fin_bl I q (by cases b <;> rfl))
  | str i => obtain ⟨t, rfl⟩ := rx; exact wpAny_is_plain rfl (fin_bl I q (by cases b <;> rfl))
  | byt i => obtain ⟨t, rfl⟩ := rx; exact wpAny_is_plain rfl (fin_bl I q (by cases b <;> rfl))
  | flt i => obtain ⟨t, rfl⟩ := rx; exact wpAny_is_plain rfl (fin_bl I q (by cases b <;> rfl))
  | ref a => cases rx; exact wpAny_is_plain rfl (fin_bl I q (by cases b <;> rfl))
  | ty n => cases rx; exact wpAny_is_plain rfl (fin_bl I q (by cases b <;> rfl))
theorem op_notB : OpR X (compareOp .IsNot) (fun x y H Q => ∃ b, y = .bl b ∧ Q (.bl (!decide (x = .bl b))) H) := by
  intro pins s σ H x y v u Q I rx ry h
  obtain ⟨b, rfl, q⟩ := h
  cases ry
  cases x with
  | non => cases rx; exact wpAny_isNot_plain rfl (fin_bl I q (by cases b <;> rfl))
  | bl c => cases rx; exact isnot_bool (fin_bl I q (by cases b <;> cases c <;> rfl))
  | int i => obtain ⟨t, rfl⟩ := rx; exact wpAny_isNot_plain rfl (fin_bl I q (by cases b <;> rfl))
  | str i => obtain ⟨t, rfl⟩ := rx; exact wpAny_isNot_plain rfl (fin_bl I q (by cases b <;> rfl))
  | byt i => obtain ⟨t, rfl⟩ := rx; exact wpAny_isNot_plain rfl (fin_bl I q (by cases b <;> rfl))
  | flt i => obtain ⟨t, rfl⟩ := rx; exact wpAny_isNot_plain rfl (fin_bl I q (by cases b <;> rfl))
  | ref a => cases rx; exact wpAny_isNot_plain rfl (fin_bl I q (by cases b <;> rfl))
  | ty n => cases rx; exact wpAny_isNot_plain rfl (fin_bl I q (by cases b <;> rfl))

/-! ### isinstance -/
def clsV : V → Value
  | .ty n => .type n
  | .ref a => .ref a
  | _ => .none
theorem call_isinst : CallR X (.builtin "isinstance") (fun xs H Q => ∃ x c t b, xs = [x, c] ∧ ((∃ n, c = .ty n) ∨ ∃ a, c = .ref a) ∧ TyOf X.K H x t ∧ PySem.W.kitOne X.K t (clsV c) = some b ∧ Q (.bl b) H) := by
  intro pins s σ H xs us Q I r h
  obtain ⟨x, c, t, b, rfl, hc, ty, hk, q⟩ := h
  obtain ⟨u, u', rfl, rx, rc⟩ := vals2 r
  have e : u' = clsV c := by
    rcases hc with ⟨n, rfl⟩ | ⟨a, rfl⟩
    · exact rc
    · exact rc
  subst e
  exact isinst_ok I rx ty hk fun tk => ⟨.bl b, H, I.tok _, rfl, q⟩

/-! ### all(a list of truths) -/
theorem range_all (bs : List Bool) : (List.range bs.length).all (fun i => bs.getD i true) = bs.all id := by
  rw [Bool.eq_iff_iff, List.all_eq_true, List.all_eq_true]
  constructor
  · intro h x hx
    obtain ⟨i, hi, e⟩ := List.getElem_of_mem hx
    have := h i (List.mem_range.mpr hi)
    rw [List.getD_eq_getElem?_getD, List.getElem?_eq_getElem hi] at this
    rw [← e]
    exact this
  · intro h i hi
    have hi' := List.mem_range.mp hi
    rw [List.getD_eq_getElem?_getD, List.getElem?_eq_getElem hi']
    exact h _ (List.getElem_mem hi')
theorem call_all_list (hc : X.calm = true) : CallR X (.builtin "all") (fun xs H Q => ∃ (p : Addr) (bs : List Bool), xs = [.ref p] ∧ SqL X.K H p (bs.map V.bl) ∧ Q (.bl (bs.all id)) H) := by
  intro pins s σ H xs us Q I r h
  obtain ⟨p, bs, rfl, hq, q⟩ := h
  obtain ⟨u, rfl, ru⟩ := vals1 r
  cases ru
  obtain ⟨its, rv, pl, _⟩ := I.list hq
  have hl := rv.length
  rw [List.length_map] at hl
  refine call_all_walk (wpAny_pyIter_list pl.isList ?_)
  have hne : p ≠ s.heap.objs.size := Nat.ne_of_lt (by obtain ⟨o, n, e, _⟩ := pl; exact Heap.lt_size e)
  refine ⟨s.heap.objs.size, _, _, _, _, _, fun i => bs.getD i true, rfl, Walks.list (show X.A.in1.handled = none from I.ok.hd hc) s.heap.objs.size p hne its.toArray, ⟨⟨_, Heap.get?_push_size _ rfl, rfl, rfl⟩, ?_⟩, ?_, ?_⟩
  · obtain ⟨o, e, rest⟩ := pl.isList
    exact ⟨o, Heap.get?_push_of_some _ e, rest⟩
  · intro i v s' Q' E' hv hQ'
    have hv' : its[i]? = some v := by simpa using hv
    have hi : i < bs.length := by rw [hl]; exact (List.getElem?_eq_some_iff.mp hv').1
    obtain ⟨u, e1, e2⟩ := rv.get (i := i) (x := V.bl bs[i]) (by rw [List.getElem?_map, List.getElem?_eq_getElem hi]; rfl)
    rw [hv'] at e1
    cases e1
    cases e2
    dsimp only at hQ'
    rw [List.getD_eq_getElem?_getD, List.getElem?_eq_getElem hi] at hQ'
    exact wpAny_truthy_bool hQ'
  · intro h' tk kk
    have I1 : Inv X pins σ H { s with heap := h', toks := tk } := I.kept fun b o e => kk b o (by
      intro z
      have z' : b = s.heap.objs.size := by simpa using z
      exact absurd (Heap.lt_size e) (by rw [z']; exact Nat.lt_irrefl _)) (Heap.get?_push_of_some _ e)
    refine ⟨.bl _, H, I1, ?_, q⟩
    show Value.bool _ = Value.bool _
    rw [List.size_toArray, ← hl, range_all]

/-! ### data compared at any depth -/
mutual
/-- what a value is, read through the heap -/
inductive RdD (K : PySem.W.Frag) (H : Hp) : V → PyData → Prop where
  | non : RdD K H .non .none
  | bl (b : Bool) : RdD K H (.bl b) (.bool b)
  | int (i : Int) : RdD K H (.int i) (.int i)
  | str (x : Str) : RdD K H (.str x) (.str x)
  | lst {a : Addr} {xs : List V} {ds : List PyData} : SqL K H a xs → RdDs K H xs ds → RdD K H (.ref a) (.list ds)
  | tup {a : Addr} {xs : List V} {ds : List PyData} : SqT K H a xs → RdDs K H xs ds → RdD K H (.ref a) (.tuple ds)
inductive RdDs (K : PySem.W.Frag) (H : Hp) : List V → List PyData → Prop where
  | nil : RdDs K H [] []
  | cons {x : V} {xs : List V} {d : PyData} {ds : List PyData} : RdD K H x d → RdDs K H xs ds → RdDs K H (x :: xs) (d :: ds)
end
mutual
theorem RdD.reads {pins : List (Addr × Obj)} {σ : St} {H : Hp} {s : Shared} (I : Inv X pins σ H s) : ∀ {x : V} {d : PyData} {v : Value}, RdD X.K H x d → RelV x v → ∃ as, Reads s.heap v d as
  | _, _, _, .non, r => by cases r; exact ⟨_, .none⟩
  | _, _, _, .bl b, r => by cases r; exact ⟨_, .bool b⟩
  | _, _, _, .int i, r => by obtain ⟨t, rfl⟩ := r; exact ⟨_, .int i t⟩
  | _, _, _, .str x, r => by obtain ⟨t, rfl⟩ := r; exact ⟨_, .str x t⟩
  | _, _, _, .lst hq rs, r => by
    cases r
    obtain ⟨its, rv, pl, _⟩ := I.list hq
    obtain ⟨as, ra⟩ := RdDs.reads I rs rv
    obtain ⟨o, n, e, c, _, d⟩ := pl
    exact ⟨_, .list e c d (by simpa using ra)⟩
  | _, _, _, .tup hq rs, r => by
    cases r
    obtain ⟨its, rv, pl, _⟩ := I.tuple hq
    obtain ⟨as, ra⟩ := RdDs.reads I rs rv
    obtain ⟨o, e, c, n, d⟩ := pl
    exact ⟨_, .tuple e c d (by simpa using ra)⟩
theorem RdDs.reads {pins : List (Addr × Obj)} {σ : St} {H : Hp} {s : Shared} (I : Inv X pins σ H s) : ∀ {xs : List V} {ds : List PyData} {vs : List Value}, RdDs X.K H xs ds → Vals xs vs → ∃ as, ReadsAll s.heap vs ds as
  | _, _, _, .nil, r => by cases r; exact ⟨_, .nil⟩
  | _, _, _, .cons q qs, r => by
    cases r with
    | cons r rs =>
      obtain ⟨as, ra⟩ := RdD.reads I q r
      obtain ⟨bs, rb⟩ := RdDs.reads I qs rs
      exact ⟨_, .cons ra rb⟩
end
def rEqD (K : PySem.W.Frag) (neg : Bool) : R2 := fun x y H Q => ∃ d e, RdD K H x d ∧ RdD K H y e ∧ SeqAt.shaped d = true ∧ SeqAt.shaped e = true ∧ Q (.bl (if neg then !PyData.eqv d e else PyData.eqv d e)) H
theorem op_eqD (hu : X.A.units + 64 < cLine) : OpR X (compareOp .Eq) (rEqD X.K false) := by
  intro pins s σ H x y v u Q I rx ry h
  obtain ⟨d, e, h1, h2, h3, h4, q⟩ := h
  obtain ⟨as, ra⟩ := h1.reads I rx
  obtain ⟨bs, rb⟩ := h2.reads I ry
  exact eq_dataH ra rb h3 h4 hu ⟨.bl _, H, I, rfl, q⟩
theorem op_neD (hu : X.A.units + 64 < cLine) : OpR X (compareOp .NotEq) (rEqD X.K true) := by
  intro pins s σ H x y v u Q I rx ry h
  obtain ⟨d, e, h1, h2, h3, h4, q⟩ := h
  obtain ⟨as, ra⟩ := h1.reads I rx
  obtain ⟨bs, rb⟩ := h2.reads I ry
  exact ne_dataH ra rb h3 h4 hu ⟨.bl _, H, I, rfl, q⟩
/-- texts alone -/
theorem RdDs.strs {K : PySem.W.Frag} {H : Hp} : ∀ xs : List Str, RdDs K H (xs.map V.str) (xs.map PyData.str)
  | [] => .nil
  | x :: r => .cons (.str x) (RdDs.strs r)
theorem RdDs.bls {K : PySem.W.Frag} {H : Hp} : ∀ xs : List Bool, RdDs K H (xs.map V.bl) (xs.map PyData.bool)
  | [] => .nil
  | x :: r => .cons (.bl x) (RdDs.bls r)
theorem eqvAll_map {α : Type} [DecidableEq α] {f : α → PyData} (hf : ∀ x y, PyData.eqv (f x) (f y) = decide (x = y)) (xs : List α) : ∀ ys : List α, PyData.eqvAll (xs.map f) (ys.map f) = decide (xs = ys) := by
  induction xs with
  | nil => intro ys; cases ys <;> simp [PyData.eqvAll]
  | cons x r ih =>
    intro ys
    cases ys
    · simp [PyData.eqvAll]
    · simp [PyData.eqvAll, hf, ih]
theorem eqvAll_strs (xs ys : List Str) : PyData.eqvAll (xs.map PyData.str) (ys.map PyData.str) = decide (xs = ys) := eqvAll_map (fun x y => by rw [PyData.eqv]; by_cases h : x = y <;> simp [h]) xs ys
theorem eqvAll_bls (xs ys : List Bool) : PyData.eqvAll (xs.map PyData.bool) (ys.map PyData.bool) = decide (xs = ys) := eqvAll_map (fun x y => by cases x <;> cases y <;> rfl) xs ys
theorem canLay_strs : ∀ xs : List Str, (∀ x ∈ xs, PyData.strOk x = true) → PyData.canLayAll0 (xs.map PyData.str) = true ∧ PyData.depthAll (xs.map PyData.str) = 0
  | [], _ => ⟨rfl, rfl⟩
  | x :: r, h => by
    have q := canLay_strs r fun y hy => h y (List.mem_cons_of_mem _ hy)
    simp [PyData.canLayAll0, PyData.canLay0, PyData.depthAll, PyData.depth, q.1, q.2, h x List.mem_cons_self]
theorem shaped_strs {xs : List Str} (h : ∀ x ∈ xs, PyData.strOk x = true) : SeqAt.shaped (.list (xs.map PyData.str)) = true := by
  have q := canLay_strs xs h
  simp [SeqAt.shaped, PyData.canLay0, PyData.depth, q.1, q.2]
theorem canLay_bls : ∀ xs : List Bool, PyData.canLayAll0 (xs.map PyData.bool) = true ∧ PyData.depthAll (xs.map PyData.bool) = 0
  | [] => ⟨rfl, rfl⟩
  | x :: r => by
    have q := canLay_bls r
    simp [PyData.canLayAll0, PyData.canLay0, PyData.depthAll, PyData.depth, q.1, q.2]
theorem shaped_bls (xs : List Bool) : SeqAt.shaped (.list (xs.map PyData.bool)) = true := by
  have q := canLay_bls xs
  simp [SeqAt.shaped, PyData.canLay0, PyData.depth, q.1, q.2]
end

/-! ### C.f(self, ..): a def of a class, by the class's name -/
section
variable {X : Cx} {CX : CXT} {k : Nat} {f C : Addr} {fd : FuncData} {ps : List Str} {sp : Sp} {dvs : List V} {ds : List Value} {E : XK} {x m : Str} {p pos apos : Pos} {e : Expr} {es : List Expr} {t : TA}
structure CMeth (K : PySem.W.Frag) (C : Addr) (m : Str) (f : Addr) : Prop where
  ga : PySem.W.specialIn K (.ref C) "__getattribute__" = some (some (.builtin "type.__getattribute__"))
  rd : PySem.W.readsIn K C (.type "type") = true
  at_ : PySem.W.findCls K (.ref C) (.type "type") m = some (.val (.ref f))
  kp : PySem.W.keepIn K (.ref f) = true
theorem pe_cmeth {pl : Sem Bool} (hg : Gl X x) (hm : X.mg x = some (.ref C)) (c : CMeth X.K C m f) (F : FnOk X.prog X.w X.K X.mg X.base CX k f fd ps sp) (hr : Room k X.A) (hb : Binds X.K fd ps ds) (hd : Vals dvs ds) (hx : Passes CX X E) (ha : PA X (e :: es) t)
    (hst : starEach (e :: es) X.env = (false, eval e X.env) :: starEach es X.env := by rfl) (hpl : (backTo pos (starEach es X.env)).any (·.1) = false := by rfl) (hdb : (x == ("__debug__" : Str)) = false := by decide)
    (ht : eval (.Call (.Attribute (.Name x p) m apos) (e :: es) [] pos) X.env = (do
      let ov ← eval (.Name x p) X.env
      standAt apos.atName
      let (f, first) ← holding [ov] (getMethod ov m pl)
      callWith pos f first (backTo pos (starEach (e :: es) X.env)) (backToKw pos (keywordEach [] X.env))) := by rfl) :
    PE X (.Call (.Attribute (.Name x p) m apos) (e :: es) [] pos) (tCall sp dvs E t) := by
  intro pins s σ H Q I h
  refine PySem.W.methodCall_KW (pl := pl) (ld_glob I hg hm ?_ hdb) ht
  refine PySem.W.method_cls I.kIn c.ga (PySem.W.cls_value I.kIn c.rd c.at_ rfl ?_)
  refine PySem.W.callWith_K (first := []) (h₀ := X.base) I.ok.mod.kin c.kp (thn (ha pos pins _ σ H _ (I.tok _) h) fun us s1 ⟨vs, H1, I1, r, q⟩ => ⟨I1.kIn, ?_⟩) hst hpl
  exact run_fn F hr hb hd hx I1 r q
end
end L2

/-! ## A list comprehension over the hand layer (own text): one clause, no test, a name as its target. -/
namespace L2
open PySem PySem.Spec PyProof.Rows

/-! ### the block's closure -/
def closOf (env : Env) : List (Str × NameKind) → List (Str × Addr) → List (Str × Addr)
  | [], acc => acc
  | (n, k) :: r, acc => closOf env r (if k == .free then (n, (env.cells.lookup n).getD 0) :: acc else acc)
theorem closureFor_of {sc : Scope} {env : Env} (h : ∀ y ∈ sc.names, y.2 = .free → ∃ c, env.cells.lookup y.1 = some c) : closureFor sc env = pure (closOf env sc.names []) := by
  simp only [closureFor]
  have key : ∀ (l : List (Str × NameKind)) (acc : List (Str × Addr)), (∀ y ∈ l, y.2 = .free → ∃ c, env.cells.lookup y.1 = some c) →
      (forIn l acc (fun (x : Str × NameKind) (r : List (Str × Addr)) => if (x.2 == NameKind.free) = true then do let a ← cellOf env x.1; pure (ForInStep.yield ((x.1, a) :: r)) else pure (ForInStep.yield r)) : Sem (List (Str × Addr))) = pure (closOf env l acc) := by
    intro l
    induction l with
    | nil => intro acc _; rfl
    | cons y r ih =>
      intro acc hl
      obtain ⟨n, k⟩ := y
      rw [List.forIn_cons]
      have ih' := fun acc => ih acc fun z hz => hl z (List.mem_cons_of_mem _ hz)
      by_cases hk : (k == NameKind.free) = true
      · obtain ⟨c, hc⟩ := hl (n, k) List.mem_cons_self (by simpa using hk)
        have hc' : env.cells.lookup n = some c := hc
        have e1 : cellOf env n = pure c := by unfold cellOf; rw [hc']
        simp only [hk, if_true, e1, closOf, hc', Option.getD_some]
        exact ih' _
      · simp only [hk, closOf]
        exact ih' _
  rw [key sc.names [] h]
  rfl
theorem closOf_spec {env : Env} : ∀ (l : List (Str × NameKind)) (acc : List (Str × Addr)), (∀ z c, acc.lookup z = some c → c = (env.cells.lookup z).getD 0) →
    (∀ z c, (closOf env l acc).lookup z = some c → c = (env.cells.lookup z).getD 0) ∧ (∀ z, (closOf env l acc).lookup z = none ↔ (acc.lookup z = none ∧ (z, NameKind.free) ∉ l))
  | [], acc, h => ⟨h, fun z => by simp [closOf]⟩
  | (n, k) :: r, acc, h => by
    by_cases hk : (k == NameKind.free) = true
    · have hk' : k = .free := by simpa using hk
      subst hk'
      have h' : ∀ z c, ((n, (env.cells.lookup n).getD 0) :: acc).lookup z = some c → c = (env.cells.lookup z).getD 0 := by
        intro z c e
        rw [List.lookup_cons] at e
        cases hz : z == n with
        | true =>
          rw [hz] at e
          have e' : (env.cells.lookup n).getD 0 = c := by simpa using e
          rw [beq_iff_eq.mp hz, e']
        | false =>
          rw [hz] at e
          exact h z c (by simpa using e)
      obtain ⟨a, b⟩ := closOf_spec r _ h'
      refine ⟨by simpa [closOf] using a, fun z => ?_⟩
      have b' := b z
      show (closOf env r (if (NameKind.free == NameKind.free) = true then _ else acc)).lookup z = none ↔ _
      rw [if_pos hk, b', List.lookup_cons]
      cases hz : z == n with
      | true =>
        have : z = n := beq_iff_eq.mp hz
        subst this
        simp
      | false =>
        have hne : z ≠ n := by intro q; subst q; simp at hz
        simp [hne]
    · obtain ⟨a, b⟩ := closOf_spec r acc h
      have e0 : closOf env ((n, k) :: r) acc = closOf env r acc := by
        show closOf env r (if (k == NameKind.free) = true then _ else acc) = _
        rw [if_neg hk]
      rw [e0]
      refine ⟨a, fun z => ?_⟩
      rw [b z]
      have hne : ¬ (NameKind.free = k) := by intro q; subst q; exact hk rfl
      simp [hne]

/-! ### the block's names -/
/-- a map that leaves the keys alone changes what stands behind a key, and nothing else -/
theorem lookup_vals {α β : Type} {f : Str × α → Str × β} (hf : ∀ p, (f p).1 = p.1) (x : Str) (l : List (Str × α)) : (l.map f).lookup x = (l.lookup x).map fun k => (f (x, k)).2 := by
  induction l with
  | nil => rfl
  | cons p r ih =>
    obtain ⟨n, k⟩ := p
    have e : f (n, k) = (n, (f (n, k)).2) := Prod.ext (hf _) rfl
    rw [List.map_cons, e]
    by_cases q : x = n
    · subst q
      simp [List.lookup_cons]
    · simp [List.lookup_cons, beq_false_of_ne q, ih]
theorem lookup_relabel {env : Env} {sc : Scope} {x : Str} : (relabel sc env).names.lookup x = (sc.names.lookup x).map fun k => if k == .free && env.scope.kind == .function && env.kindOf x == some .cell then .cell else k := by
  show (List.map _ sc.names).lookup x = _
  rw [lookup_vals (fun p => by dsimp only; split <;> rfl)]
  congr 1
  funext k
  dsimp only
  split <;> rfl
/-- what of a comprehension's scope is read off the text: osc, N the def's own scope and slots; x the target; names the captured ones, at the slots caps -/
structure CompScope (osc : Scope) (N : List Str) (sc : Scope) (x : Str) (names : List Str) (caps : List Nat) : Prop where
  kind : sc.kind = .function
  nocell : ∀ y ∈ sc.names, y.2 ≠ .cell
  locs : ∀ y ∈ sc.names, y.2 = .local → sc.names.lookup y.1 = some .local
  frees : ∀ y ∈ sc.names, y.2 = .free → osc.names.lookup y.1 = some .cell
  own : sc.names.lookup x = some .local
  caps : names.map some = caps.map fun i => N[i]?
  isfree : ∀ y ∈ names, sc.names.lookup y = some .free
  nd : (x :: names).Nodup

/-- the block's context; s₀: behind the new list, ahead of the block's own dict -/
def cxComp (X : Cx) (sc : Scope) (x : Str) (names : List Str) (fp : List Addr) (s₀ : Shared) (H₀ : Hp) : Cx where
  prog := X.prog
  w := X.w
  K := X.K
  mg := X.mg
  base := X.base
  A := X.A
  N := x :: names
  s₀ := s₀
  H₀ := H₀
  env := compEnvC sc (closOf X.env sc.names []) s₀.heap.objs.size X.env
  outer := X.stack
  stack := X.stack
  ex := fp
  fn := fun _ => false
  calm := X.calm
  pn := []
  xe := fun _ _ => False

def capV (σ : St) (caps : List Nat) : St := caps.map fun i => (σ[i]?).join

/-- [elt for x in iter]: the list grows at D -/
def CompW (J : It) (caps : List Nat) (te : TE) (σ : St) (Q : VK) (H1 : Hp) : Prop := ∀ D, H1 D = none → ∃ W : Nat → Nat → Hp → Prop, (∃ m, W 0 m (upd H1 D (.lst []))) ∧ ∀ i m H2, W i m H2 →
  (J.stop i H2 ∧ Q (.ref D) H2) ∨ (J.go i H2 ∧ ∀ y H3, J.yld i H2 y H3 → te (some y :: capV σ caps) H3 fun v H4 => ∃ ys, H4 D = some (.lst ys) ∧ ys.length < sizeLine ∧ ∃ m', m' < m ∧ W (i + 1) m' (upd H4 D (.lst (ys ++ [v]))))
def tComp (caps : List Nat) (wi : TI) (te : TE) : TE := fun σ H Q => wi σ H fun J H1 => CompW J caps te σ Q H1

/-- what comes behind what is known of a first step -/
theorem sq2 {M : Model} {A : Around} {E : Value → Shared → Prop} {s : Shared} {α β : Type} {x : Sem α} {f : α → Sem β} {Q1 : α → Shared → Prop} {Q : β → Shared → Prop} (h : wpAny M A x Q1 E s) (k : ∀ a s1, Q1 a s1 → wpAny M A (f a) Q E s1) : wpAny M A (x >>= f) Q E s := wpAny_bind (thn h k)
/-- a step of a comprehension's turn: what it raises is noted in the comprehension's own frame -/
abbrev Noted (prog : Program) (w : World) (A : Around) (env : Env) (R : Result → Shared → Prop) {α : Type} (x : Sem α) (Q : α → Shared → Prop) (s : Shared) : Prop := wpAny (model prog w) A x Q (notedBy (model prog w) A env fun e => R (.error e)) s
abbrev testB (env : Env) (c : Expr) (r : Bool) : Sem (ForInStep Bool) := if r = true then isTrue c env (eval c env) >>= fun ok => pure (.yield ok) else pure (.yield r)
section
variable {prog : Program} {w : World} {A : Around} {R : Result → Shared → Prop} {s : Shared}
/-- the loop of a comprehension, with the step ahead of the store -/
theorem compLoop_go {el tg src : Expr} {scope : Scope} {pos : Pos} {it acc : Value} {env : Env} (I : Nat → Shared → Prop)
    (turn : ∀ n s, I n s → Noted prog w A env R (pyNext it) (fun r s1 => match r with
      | none => R (.ok .next) s1
      | some v => Noted prog w A env R (letOwnedTupleGo tg it v) (fun _ => Noted prog w A env R (assign tg env v) fun _ => Noted prog w A env R (eval el env) fun x => Noted prog w A env R (call (.builtin "list.append") [acc, x]) fun _ s5 => ∃ m, m < n ∧ I m s5) s1) s) (n : Nat) (h : I n s) :
    codeAny (model prog w) A (.compLoop (.ListComp el [⟨tg, src, [], 0⟩] scope pos) 0 it acc env) R s := by
  refine codeAny_loop rfl I (fun k s1 hI => (?_ : wpAny _ _ (Sem.onRaise _ _) _ _ _)) n h
  refine wpAny_noted (compTurn_list .. ▸ wpAny_bind (wpAny_standAt (sq2 (turn k s1 hI) fun r s2 hr => ?_)))
  cases r
  · exact wpAny_pure hr
  · exact sq2 hr fun _ _ a => sq2 a fun _ _ b => wpAny_bind (wpAny_tests_nil (sq2 (sq2 b fun _ _ c => sq2 c fun _ _ d => wpAny_pure d) fun _ _ e => wpAny_pure ⟨rfl, e⟩))
end

section
variable {X : Cx}
theorem compOk {pins : List (Addr × Obj)} {σ : St} {H : Hp} {s : Shared} {osc : Scope} {N : List Str} {sc : Scope} {x : Str} {names : List Str} {caps : List Nat} {fp : List Addr}
    (hos : X.env.scope = osc) (cs : CompScope osc N sc x names caps) (I : Inv X pins σ H s) (hf : ∀ b ∈ fp, FpOk X pins H b) (hlt : ∀ b ∈ fp, b < s.heap.objs.size) : (cxComp X sc x names fp s H).Ok := by
  subst hos
  have cl := closOf_spec (env := X.env) sc.names [] (fun z c e => by simp at e)
  have hcl : ∀ y c, (closOf X.env sc.names []).lookup y = some c → X.env.cells.lookup y = some c := fun y c e => by
    have e1 := cl.1 y c e
    have hm : (y, NameKind.free) ∈ sc.names := by
      by_cases q : (y, NameKind.free) ∈ sc.names
      · exact q
      · have := (cl.2 y).mpr ⟨rfl, q⟩
        rw [this] at e; cases e
    obtain ⟨c', hc'⟩ := I.ok.has y (.inl (cs.frees _ hm rfl))
    rw [hc'] at e1 ⊢
    rw [e1]; rfl
  refine ⟨I.ok.mod, ?_, I.ok.glob, I.ok.blt, Nat.le_refl _, fun y z c h1 h2 => I.ok.inj y z c (hcl y c h1) (hcl z c h2), fun y hy => ?_, fun y c h => ?_, I.ok.hd, I.ok.frames, .inl rfl, fun b hb => ⟨?_, fun y c h => ?_⟩,
    I.bs, Nat.le_trans I.ok.bsz I.sz, fun b o e hb => ?_, fun b hb z => ?_, I.stack, I.stkFree⟩
  · exact cs.kind
  · have hy' : (relabel sc X.env).names.lookup y = some .cell ∨ (relabel sc X.env).names.lookup y = some .free := hy
    have key : sc.names.lookup y = some .free := by
      rw [lookup_relabel] at hy'
      cases q : sc.names.lookup y with
      | none => rw [q] at hy'; simp at hy'
      | some k =>
        rw [q] at hy'
        have hm := PySem.mem_of_lookup q
        have hnc := cs.nocell _ hm
        by_cases hk : k = .free
        · rw [hk]
        · have e : (if (k == NameKind.free && X.env.scope.kind == .function && X.env.kindOf y == some .cell) = true then NameKind.cell else k) = k := if_neg (by simp [hk])
          rw [Option.map_some, e] at hy'
          rcases hy' with z | z
          · exact absurd (Option.some.inj z) hnc
          · exact absurd (Option.some.inj z) hk
    have hm := PySem.mem_of_lookup key
    cases q : (closOf X.env sc.names []).lookup y with
    | some c => exact ⟨c, q⟩
    | none => exact absurd hm ((cl.2 y).mp q).2
  · exact absurd (show false = true from h) (by simp)
  · exact Nat.ne_of_lt (hlt b hb)
  · exact (hf b hb).2.2.2.2.1 y c (hcl y c h)
  · rcases (hf b hb).2.2.2.1 with z | z
    · exact I.ok.noex b o e z
    · exact absurd (Nat.lt_of_lt_of_le (Heap.lt_size e) (Nat.le_trans I.ok.bsz z)) (Nat.lt_irrefl _)
  · rcases List.mem_cons.mp (I.stkSub b z) with q | q
    · exact (hf b hb).2.1 q
    · exact (hf b hb).2.2.1 q

/-- the block runs: what is wanted at its end is asked of every state at which the list has grown to its end -/
theorem comp_run {pins : List (Addr × Obj)} {σ : St} {s₂ : Shared} {osc : Scope} {N : List Str} {sc : Scope} {x : Str} {px pos : Pos} {elt iter : Expr} {names : List Str} {caps : List Nat} {te : TE} {E : Value → Shared → Prop}
    {RR : Value → Addr → Result → Shared → Prop} {H2 : Hp} {it : Addr} {fp : List Addr} {tn : Nat → Heap → Prop} {J : It} {Qd : V → Hp → Prop}
    (hc : X.calm = true) (hos : X.env.scope = osc) (hN : X.N = N) (cs : CompScope osc N sc x names caps) (he : ∀ fp s₀ H₀, PE (cxComp X sc x names fp s₀ H₀) elt te)
    (I2 : Inv X pins σ H2 s₂) (T : Turn X.prog X.w X.K (.Name x px) J fp it tn) (st2 : tn 0 s₂.heap) (f2 : ∀ b ∈ fp, FpOk X pins H2 b)
    (hW : CompW J caps te σ Qd H2)
    (cont : ∀ D C H5 s6 m, Inv X pins σ H5 s6 → s6.heap.Ns C m → FpOk X pins H5 C → Qd (.ref D) H5 → RR (.ref D) C (.ok .next) s6) :
    wpAny (model X.prog X.w) X.A (newList []) (fun acc s₃ => wpAny (model X.prog X.w) X.A (newFunctionEnv sc X.env.globals (closOf X.env sc.names []) [] X.env.qual none .none (some X.env)) (fun cenv s₄ =>
      codeAny (model X.prog X.w) X.A (.compStart (.ListComp elt [⟨.Name x px, iter, [], 0⟩] sc pos) 0 (.ref it) acc { cenv with scope := relabel sc X.env }) (RR acc cenv.locals) s₄) E s₃) E s₂ := by
  subst hN
  refine wpAny_newObj_type (wpAny_newFunctionEnv cs.nocell (by intro y hy; simp at hy) (fun h₁ hns₁ hsb₁ => ?_) cs.kind)
  dsimp only at hns₁ hsb₁ ⊢
  have fp2 : ∀ b ∈ fp, b < s₂.heap.objs.size := fun b hb => by
    obtain ⟨o, e, _⟩ := T.obj _ _ st2 b hb
    exact Heap.lt_size e
  have I3 : Inv X pins σ (upd H2 s₂.heap.objs.size (.lst [])) { s₂ with heap := s₂.heap.push { cls := .type "list", dict := none, data := .seq ([] : List Value).toArray } } := I2.lnew (t' := s₂.toks) (its := []) .nil (Nat.zero_le _)
  obtain ⟨W, ⟨m0, w0⟩, turn⟩ := hW s₂.heap.objs.size I2.fresh
  have f3 : ∀ b ∈ fp, FpOk X pins (upd H2 s₂.heap.objs.size (.lst [])) b := fun b hb => ⟨by rw [upd_ne (Nat.ne_of_lt (fp2 b hb))]; exact (f2 b hb).1, (f2 b hb).2⟩
  have hD : ∀ b o, s₂.heap.get? b = some o → (s₂.heap.push { cls := .type "list", dict := none, data := .seq ([] : List Value).toArray }).get? b = some o := fun b o e => Heap.get?_push_of_some _ e
  generalize hs3 : ({ s₂ with heap := s₂.heap.push { cls := .type "list", dict := none, data := .seq ([] : List Value).toArray } } : Shared) = s₃ at *
  have hs3h : s₃.heap = s₂.heap.push { cls := .type "list", dict := none, data := .seq ([] : List Value).toArray } := by rw [← hs3]
  rw [← hs3h] at hns₁ hsb₁ hD ⊢
  have fp3 : ∀ b ∈ fp, b < s₃.heap.objs.size := fun b hb => by
    rw [hs3h, Heap.size_push]; exact Nat.lt_succ_of_lt (fp2 b hb)
  have k3 : ∀ b o, s₃.heap.get? b = some o → h₁.get? b = some o := fun b o e => hsb₁.extBut b o (Nat.ne_of_lt (Heap.lt_size e)) (Heap.get?_push_of_some _ e)
  have ok := compOk hos cs I3 f3 fp3
  have cl := closOf_spec (env := X.env) sc.names [] (fun z c e => by simp at e)
  have hcl : ∀ y c, (closOf X.env sc.names []).lookup y = some c → X.env.cells.lookup y = some c := fun y c e => by
    have e1 := cl.1 y c e
    have hm : (y, NameKind.free) ∈ sc.names := by
      by_cases q : (y, NameKind.free) ∈ sc.names
      · exact q
      · have := (cl.2 y).mpr ⟨rfl, q⟩
        rw [this] at e; cases e
    obtain ⟨c', hc'⟩ := I3.ok.has y (.inl (by show X.env.scope.names.lookup y = _; rw [hos]; exact cs.frees _ hm rfl))
    rw [hc'] at e1 ⊢
    rw [e1]; rfl
  have cell4 : ∀ y c, (closOf X.env sc.names []).lookup y = some c → ∀ v, s₃.heap.IsCell c v → h₁.IsCell c v := fun y c e v ⟨o, ho, hd⟩ => ⟨o, k3 _ _ ho, hd⟩
  have lenC : caps.length = names.length := by have := congrArg List.length cs.caps; simpa using this.symm
  have I4 : ∀ tk, Inv (cxComp X sc x names fp s₃ (upd H2 s₂.heap.objs.size (.lst []))) [] (none :: capV σ caps) (upd H2 s₂.heap.objs.size (.lst [])) { s₃ with heap := h₁, toks := tk } := fun tk => by
    refine ⟨ok, rfl, I3.bare, Un.kept k3, ⟨_, hns₁, fun i y v e1 e2 e3 => ?_⟩, fun y c e => ?_, I3.fresh, fun y c e => I3.freeC y c (hcl y c e), fun p hp => absurd (show p ∈ ([] : List (Addr × Obj)) from hp) (by simp), I3.hok.kept k3, ?_⟩
    · cases i with
      | zero => simp at e2
      | succ j =>
        have e1' : names[j]? = some y := by simpa [cxComp] using e1
        have e2' : (capV σ caps)[j]? = some (some v) := by simpa using e2
        unfold capV at e2'
        rw [List.getElem?_map] at e2'
        cases qc : caps[j]? with
        | none => rw [qc] at e2'; cases e2'
        | some i0 =>
          rw [qc] at e2'
          have e2'' : (σ[i0]?).join = some v := by simpa using e2'
          have e3' : σ[i0]? = some (some v) := by
            cases qs : σ[i0]? with
            | none => rw [qs] at e2''; cases e2''
            | some o => rw [qs] at e2''; rw [show o = some v from by simpa using e2'']
          have eN : X.N[i0]? = some y := by
            have q1 : (names.map some)[j]? = (caps.map fun i => X.N[i]?)[j]? := by rw [cs.caps]
            rw [List.getElem?_map, List.getElem?_map, e1', qc] at q1
            have q2 : some y = X.N[i0]? := by simpa using q1
            exact q2.symm
          have hfree := cs.isfree y (List.mem_of_getElem? e1')
          have hm := PySem.mem_of_lookup hfree
          have hcell : X.env.scope.names.lookup y = some .cell := by rw [hos]; exact cs.frees _ hm rfl
          obtain ⟨m, hn, hl⟩ := I3.loc
          obtain ⟨u, ru, lk⟩ := hl i0 y v eN e3' (.inr (.inl hcell))
          refine ⟨u, ru, ?_⟩
          rcases lk with ⟨kk, _⟩ | ⟨kk, c, ec, hcl'⟩
          · have kk' : X.env.scope.names.lookup y = some .local := kk
            rw [hcell] at kk'; cases kk'
          · refine .inr ⟨?_, c, ?_, ?_⟩
            · left
              show (relabel sc X.env).names.lookup y = some .cell
              rw [lookup_relabel, hfree]
              have ef : (X.env.scope.kind == ScopeKind.function) = true := by rw [I3.ok.kind]; rfl
              have ek : (X.env.kindOf y == some NameKind.cell) = true := by
                show (X.env.scope.names.lookup y == some NameKind.cell) = true
                rw [hcell]; rfl
              simp [ef, ek]
            · show (closOf X.env sc.names []).lookup y = some c
              cases q : (closOf X.env sc.names []).lookup y with
              | none => exact absurd hm ((cl.2 y).mp q).2
              | some c' =>
                have := hcl y c' q
                rw [ec] at this
                exact this.symm
            · obtain ⟨o, ho, hd⟩ := hcl'
              exact ⟨o, k3 _ _ ho, hd⟩
    · obtain ⟨v, hv⟩ := I3.cell y c (hcl y c e)
      exact ⟨v, cell4 y c e v hv⟩
    · show (none :: capV σ caps).length = (x :: names).length
      unfold capV
      simp [lenC]
  have st4 : tn 0 h₁ := T.keep _ _ _ st2 fun b hb o e => k3 b o (by rw [hs3h]; exact Heap.get?_push_of_some _ e)
  have fpok : ∀ {H' : Hp}, (∀ b ∈ fp, H' b = none) → ∀ b ∈ fp, FpOk (cxComp X sc x names fp s₃ (upd H2 s₂.heap.objs.size (.lst []))) [] H' b := fun hn b hb =>
    ⟨hn b hb, (ok.exf b hb).1, ok.exfs b hb, .inl hb, (ok.exf b hb).2, fun p hp => absurd (show p ∈ ([] : List (Addr × Obj)) from hp) (by simp)⟩
  have loop : ∀ s₄ : Shared, s₄ = { s₃ with heap := h₁, toks := s₃.toks + ([] : List (Str × Value)).length } →
      codeAny (model X.prog X.w) X.A (.compLoop (.ListComp elt [⟨.Name x px, iter, [], 0⟩] sc pos) 0 (.ref it) (.ref s₂.heap.objs.size) (compEnvC sc (closOf X.env sc.names []) s₃.heap.objs.size X.env))
        (RR (.ref s₂.heap.objs.size) s₃.heap.objs.size) s₄ := by
    rintro s₄ rfl
    refine compLoop_go (fun n s' => ∃ i H', Inv (cxComp X sc x names fp s₃ (upd H2 s₂.heap.objs.size (.lst []))) [] (none :: capV σ caps) H' s' ∧ tn i s'.heap ∧ (∀ b ∈ fp, H' b = none) ∧ W i n H') ?_ m0
      ⟨0, _, I4 _, st4, fun b hb => (f3 b hb).1, w0⟩
    rintro n s5 ⟨i, H5, I5, st5, fr5, w5⟩
    rcases turn i n H5 w5 with ⟨stop, q⟩ | ⟨go, step⟩
    · refine thn (T.done (cxComp X sc x names fp s₃ (upd H2 s₂.heap.objs.size (.lst []))) rfl rfl rfl hc i [] s5 _ H5 _ I5 (fpok fr5) st5 stop) fun r s6 ⟨hr, I6⟩ => ?_
      subst hr
      obtain ⟨m, hn, _⟩ := I6.loc
      have J6 : Inv X pins σ H5 s6 := I3.call' (ch := fp) I6.os I6.base I6.hok I6.bare fun b hb => ⟨(f3 b hb).2.2.2.1, (f3 b hb).2.1, (f3 b hb).2.2.2.2.1, (f3 b hb).2.2.2.2.2⟩
      exact cont _ _ H5 s6 m J6 hn (I3.fpOk (H' := H5) (Nat.le_refl _) I6.free) q
    · refine thn (T.item (cxComp X sc x names fp s₃ (upd H2 s₂.heap.objs.size (.lst []))) rfl rfl rfl hc i [] s5 _ H5 _ I5 (fpok fr5) st5 go) fun r s6 ⟨u, hr, h6⟩ => ?_
      subst hr
      refine thn h6 fun _ s6' ⟨y, H6, I6, r6, y6, st6, fr6⟩ => ?_
      have I6' := I6.pinned (fpok fr6) (T.obj _ _ st6)
      have own' : (relabel sc X.env).names.lookup x = some .local := lookup_relabel_local cs.own
      refine wpAny_mono (pg_name (X := cxComp X sc x names fp s₃ (upd H2 s₂.heap.objs.size (.lst []))) (i := 0) (x := x) (pos := px) cs.nd rfl (.inl own') (.inr own') _ s6' _ H6 y u (fun σ' H' => σ' = (none :: capV σ caps).set 0 (some y) ∧ H' = H6) I6' r6 ⟨rfl, rfl⟩)
        (fun _ s7 ⟨σ7, H7, I7, e7, e7'⟩ => ?_) fun _ _ z => False.elim z
      subst e7 e7'
      refine wpAny_mono (he fp s₃ _ _ s7 _ H7 _ I7 (step y H7 y6)) (fun v s8 ⟨vv, H8, I8, r8, ys, hD8, hz8, m', hm', w8⟩ => ?_) fun _ _ z => False.elim z
      refine wpAny_mono (mt_append (X := cxComp X sc x names fp s₃ (upd H2 s₂.heap.objs.size (.lst []))) _ s8 _ H8 (.ref s₂.heap.objs.size) [vv] (.ref s₂.heap.objs.size) [v] (fun _ H' => H' = upd H8 s₂.heap.objs.size (.lst (ys ++ [vv]))) I8 rfl (.cons r8 .nil)
        ⟨_, ys, vv, rfl, rfl, hD8, hz8, rfl⟩) (fun _ s9 ⟨_, H9, I9, _, e9⟩ => ?_) fun _ _ z => False.elim z
      subst e9
      refine ⟨m', hm', i + 1, _, (I9.unpinned).weak ?_ ?_, T.keep _ _ _ st6 fun b hb o e => (I9.pin (b, o) (List.mem_append_right _ (List.mem_append_right _ (mem_pinsAt hb e)))).1, fun b hb => ?_, w8⟩
      · simp
      · intro j v' ej
        cases j with
        | zero => simp at ej
        | succ j => simpa using ej
      · obtain ⟨o, e, d⟩ := T.obj _ _ st6 b hb
        exact (I9.pin (b, o) (List.mem_append_right _ (List.mem_append_right _ (mem_pinsAt hb e)))).2.1
  exact codeAny_compStart_list (loop _ (by rw [← hs3])) (T.self _ 0 _ _ _ st4 (loop _ (by rw [← hs3])))

theorem comp_clos {pins : List (Addr × Obj)} {σ : St} {H : Hp} {s : Shared} {osc : Scope} {N : List Str} {sc : Scope} {x : Str} {names : List Str} {caps : List Nat} (hos : X.env.scope = osc) (cs : CompScope osc N sc x names caps) (I : Inv X pins σ H s) :
    closureFor sc X.env = pure (closOf X.env sc.names []) :=
  closureFor_of fun y hy hk => I.ok.has y.1 (.inl (by show X.env.scope.names.lookup y.1 = _; rw [hos]; exact cs.frees y hy hk))

/-- [elt for x in iter] -/
theorem pe_lcomp {osc : Scope} {N : List Str} {sc : Scope} {x : Str} {px pos : Pos} {elt iter : Expr} {names : List Str} {caps : List Nat} {wi : TI} {te : TE}
    (hc : X.calm = true) (hos : X.env.scope = osc) (hN : X.N = N) (cs : CompScope osc N sc x names caps) (hi : PI X (.Name x px) iter wi) (he : ∀ fp s₀ H₀, PE (cxComp X sc x names fp s₀ H₀) elt te)
    (hs : ∀ v, foldedSetIterable iter X.env v = pure v := by intro _; rfl) : PE X (.ListComp elt [⟨.Name x px, iter, [], 0⟩] sc pos) (tComp caps wi te) := by
  intro pins s σ H Q I h
  rw [eval_ListComp]
  refine wpAny_comprehension_free (use := none) rfl hs (comp_clos hos cs I) cs.kind cs.locs (thn (hi pins s σ H _ I h) fun xv s1 h1 => thn h1 fun itv s2 h2 => ?_)
  obtain ⟨it, fp, tn, J, H2, rfl, I2, T, st2, f2, hW⟩ := h2
  refine comp_run (Qd := Q) (RR := fun acc C => compPost (model X.prog X.w) X.A X.xe none (EP X pins σ Q) acc C) hc hos hN cs he I2 T st2 f2 hW fun D C H5 s6 m I6 hn fC q => ?_
  refine ⟨m, hn, fun h' sb => ?_⟩
  obtain ⟨g0, g1, g2, g3, g4, g5⟩ := fC
  exact ⟨.ref D, H5, I6.turned (t' := s6.toks) (it := C) (fun b o hb e => sb.extBut b o hb e) g0 g1 g3 g4 g5, rfl, q⟩

/-- y = [elt for x in iter], y a plain local on the comprehension's own line -/
theorem ps_set_lcomp {osc : Scope} {N : List Str} {sc : Scope} {x y : Str} {px py pos spos : Pos} {elt iter : Expr} {names : List Str} {caps : List Nat} {wi : TI} {te : TE} {i : Nat}
    (hc : X.calm = true) (hos : X.env.scope = osc) (hN : X.N = N) (nd : X.N.Nodup) (cs : CompScope osc N sc x names caps) (hi' : X.N[i]? = some y) (hy : X.env.scope.names.lookup y = some .local) (hi : PI X (.Name x px) iter wi)
    (he : ∀ fp s₀ H₀, PE (cxComp X sc x names fp s₀ H₀) elt te) (hsw : swapsWith (.ListComp elt [⟨.Name x px, iter, [], 0⟩] sc pos) (some (.Name y py)) spos.line X.env = pure true := by rfl)
    (hs : ∀ v, foldedSetIterable iter X.env v = pure v := by intro _; rfl) : PS X (.Assign [.Name y py] (.ListComp elt [⟨.Name x px, iter, [], 0⟩] sc pos) spos) (tAsg (tComp caps wi te) (gName i)) := by
  intro pins s σ H D I h
  rw [exec_Assign_Name_used _ _ _ _ hsw]
  refine wpAny_bind (wpAny_standAt (wpAny_bind ?_))
  show wpAny _ X.A (do let _ ← comprehension (.ListComp elt [⟨.Name x px, iter, [], 0⟩] sc pos) sc X.env _ (newList []) false (eval iter X.env) (some (assign (.Name y py) X.env))) _ _ s
  refine wpAny_bind (wpAny_mono (wpAny_comprehension_free (use := some (assign (.Name y py) X.env)) (Q := fun _ s' => SP X pins D .next s') rfl hs (comp_clos hos cs I) cs.kind cs.locs
    (thn (hi pins s σ H _ I h) fun xv s1 h1 => thn h1 fun itv s2 h2 => ?_)) (fun _ s' hq => wpAny_pure (wpAny_pure hq)) fun _ _ e => e)
  obtain ⟨it, fp, tn, J, H2, rfl, I2, T, st2, f2, hW⟩ := h2
  refine comp_run (Qd := fun x H1 => gName i x σ H1 D.nx) (RR := fun acc C => compPost (model X.prog X.w) X.A X.xe (some (assign (.Name y py) X.env)) (fun _ s' => SP X pins D .next s') acc C) hc hos hN cs he I2 T st2 f2 hW fun D' C H5 s6 m I6 hn fC q => ?_
  show wpAny _ X.A (assign (.Name y py) X.env (.ref D')) _ _ _
  obtain ⟨oC, es, ep, eC, dC, rC⟩ := id hn
  obtain ⟨g0, g1, g2, g3, g4, g5⟩ := id fC
  have I6p : Inv X (pins ++ [(C, oC)]) σ H5 s6 := I6.pins_of fun p hp => (List.mem_append.mp hp).elim (fun z => I6.pin p (List.mem_append_right _ z)) fun z => by
    have e : p = (C, oC) := by simpa using z
    subst e
    exact ⟨eC, g0, g1, g2, fun v z => by rw [dC] at z; cases z⟩
  refine wpAny_assign_Name (store_ok I6p nd hi' (.inl hy) (v := .ref D') rfl (fun s7 I7 => ?_) (.inr hy))
  have e7 := (I7.pin (C, oC) (List.mem_append_right _ (List.mem_append_right _ (by simp)))).1
  refine ⟨m, ⟨oC, es, ep, e7, dC, rC⟩, fun h' sb => ?_⟩
  exact ⟨_, H5, (I7.unpinned).turned (t' := s7.toks) (it := C) (fun b o hb e => sb.extBut b o hb e) g0 g1 g3 g4 g5, q⟩
end

/-! ### the forms one uses -/
/-- what J yields, turn by turn, is xs, whatever was laid meanwhile -/
def SeqJ (J : It) (H : Hp) (xs : List V) : Prop := ∀ (i : Nat) (H' : Hp), Same H H' →
  (i < xs.length → J.go i H') ∧ (∀ y H3, J.yld i H' y H3 → H3 = H' ∧ (i < xs.length → xs[i]? = some y)) ∧ (i = xs.length → J.stop i H')
theorem seqj_list {K : PySem.W.Frag} {a : Addr} {xs : List V} {H : Hp} (h : SqL K H a xs) : SeqJ (Itl K a) H xs := fun i H' s =>
  ⟨fun hi => ⟨xs, xs[i], s.seq h, by simp [hi]⟩, fun y H3 q => ⟨q.1, fun _ => q.2 xs (s.seq h)⟩, fun e => ⟨xs, s.seq h, Nat.le_of_eq e.symm⟩⟩
theorem Same.seqT {K : PySem.W.Frag} {H H' : Hp} {a : Addr} {xs : List V} (e : Same H H') (h : SqT K H a xs) : SqT K H' a xs := by
  rcases h with (h | ⟨o, h⟩) | h
  · exact .inl (.inl (e _ _ h))
  · exact .inl (.inr ⟨o, e _ _ h⟩)
  · exact .inr h
theorem seqj_tup {K : PySem.W.Frag} {a : Addr} {xs : List V} {H : Hp} (h : SqT K H a xs) : SeqJ (Itt K a) H xs := fun i H' s =>
  ⟨fun hi => ⟨xs, xs[i], s.seqT h, by simp [hi]⟩, fun y H3 q => ⟨q.1, fun _ => q.2 xs (s.seqT h)⟩, fun e => ⟨xs, s.seqT h, Nat.le_of_eq e.symm⟩⟩
theorem seqj_range {lo : Int} {n : Nat} {H : Hp} : SeqJ (Itr lo n) H ((List.range n).map fun (i : Nat) => V.int (lo + (i : Int))) := fun i H' s =>
  ⟨fun hi => by show i < n; simpa using hi, fun y H3 q => ⟨q.1, fun hi => by
    have hi' : i < n := by simpa using hi
    rw [q.2, List.getElem?_map, List.getElem?_range hi']; rfl⟩, fun e => by
    have : i = n := by simpa using e
    exact Nat.le_of_eq this.symm⟩
theorem seqj_str {z : Str} {H : Hp} : SeqJ (Its z) H (z.cps.toList.map fun c => V.str ⟨#[c]⟩) := fun i H' s =>
  ⟨fun hi => by simpa [Its, Str.length] using hi, fun y H3 q => ⟨q.1, fun hi => by
    obtain ⟨_, c, hc, e⟩ := q
    rw [e, List.getElem?_map]
    have : z.cps.toList[i]? = some c := by simpa using hc
    rw [this]; rfl⟩, fun e => by
    have : i = z.length := by simpa [Str.length] using e
    exact this⟩

theorem comp_seq {J : It} {H : Hp} {xs : List V} {caps : List Nat} {te : TE} {σ : St} {Q : VK} (hJ : SeqJ J H xs) (Pr : Nat → V → V → Prop) (hsz : xs.length ≤ sizeLine)
    (hs : ∀ (i : Nat) (y : V) (H' : Hp) (Q' : VK), xs[i]? = some y → Same H H' → (∀ v H4, Same H' H4 → Pr i y v → Q' v H4) → te (some y :: capV σ caps) H' Q')
    (hd : ∀ (D : Addr) (H' : Hp) (ys : List V), Same H H' → H D = none → H' D = some (.lst ys) → ys.length = xs.length → (∀ (i : Nat) (y v : V), xs[i]? = some y → ys[i]? = some v → Pr i y v) → Q (.ref D) H') :
    CompW J caps te σ Q H := by
  intro D hD
  refine ⟨fun i m H2 => m = xs.length - i ∧ i ≤ xs.length ∧ Same H H2 ∧ ∃ ys, H2 D = some (.lst ys) ∧ ys.length = i ∧ ∀ (j : Nat) (y v : V), xs[j]? = some y → ys[j]? = some v → Pr j y v,
    ⟨xs.length, by simp, Nat.zero_le _, fun b o e => by rw [upd_ne (ne_of_none e hD)]; exact e, [], upd_same, rfl, fun j y v _ e => by simp at e⟩, ?_⟩
  rintro i m H2 ⟨rfl, hi, s2, ys, hy, hl, hp⟩
  obtain ⟨j1, j2, j3⟩ := hJ i H2 s2
  by_cases hlt : i < xs.length
  · refine .inr ⟨j1 hlt, fun y H3 q => ?_⟩
    obtain ⟨e3, ey⟩ := j2 y H3 q
    subst e3
    refine hs i y _ _ (ey hlt) s2 fun v H4 s4 pr => ⟨ys, s4 D _ hy, by omega, xs.length - (i + 1), by omega, rfl, hlt, fun b o e => ?_, ys ++ [v], upd_same, by simp [hl], fun j y' v' e1 e2 => ?_⟩
    · rw [upd_ne (ne_of_none e hD)]
      exact s4 b o (s2 b o e)
    · by_cases hj : j < ys.length
      · rw [List.getElem?_append_left hj] at e2
        exact hp j y' v' e1 e2
      · have hje : j = i := by
          have := (List.getElem?_eq_some_iff.mp e2).1
          simp at this; omega
        subst hje
        rw [List.getElem?_append_right (by omega), hl, Nat.sub_self] at e2
        rw [ey hlt] at e1
        cases e1
        have : v = v' := by simpa using e2
        subst this
        exact pr
  · have e : i = xs.length := by omega
    subst e
    exact .inl ⟨j3 rfl, hd D H2 ys s2 hD hy hl hp⟩
end L2

/-! ## Small words for readings (own text). -/
namespace L2
open PySem PySem.Spec PyProof.Rows

theorem Same.new {H H' : Hp} {l : Addr} {o : HO} (e : Same H H') (hl : H' l = none) : Same H (upd H' l o) := fun b u q => by
  have q' := e b u q
  rw [upd_ne (ne_of_none q' hl)]
  exact q'
theorem Same.put {H H' : Hp} {l : Addr} {o : HO} (e : Same H H') (hl : H l = none) : Same H (upd H' l o) := fun b u q => by
  rw [upd_ne (ne_of_none q hl)]
  exact e b u q
theorem Same.new1 {H : Hp} {l : Addr} {o : HO} (hl : H l = none) : Same H (upd H l o) := (Same.refl H).new hl

/-- an item at a remainder -/
theorem atI_mod {α : Type} {xs : List α} {m : Int} (n : Int) (hm : m = xs.length) (h : 0 < xs.length) : ∃ c, c ∈ xs ∧ atI xs (n % m) = some c := by
  subst hm
  have h0 : 0 ≤ n % (xs.length : Int) := Int.emod_nonneg _ (by omega)
  have h1 : n % (xs.length : Int) < xs.length := Int.emod_lt_of_pos _ (by omega)
  have hj : (n % (xs.length : Int)).toNat < xs.length := by omega
  refine ⟨xs[(n % (xs.length : Int)).toNat], List.getElem_mem hj, ?_⟩
  have e := atI_nat (xs := xs) (j := (n % (xs.length : Int)).toNat) (v := xs[(n % (xs.length : Int)).toNat]) (by simp [hj])
  rw [Int.toNat_of_nonneg h0] at e
  exact e
theorem atI_in {α : Type} {xs : List α} {i : Int} (h0 : 0 ≤ i) (h1 : i < xs.length) : ∃ c, c ∈ xs ∧ atI xs i = some c := by
  have hj : i.toNat < xs.length := by omega
  refine ⟨xs[i.toNat], List.getElem_mem hj, ?_⟩
  have e := atI_nat (xs := xs) (j := i.toNat) (v := xs[i.toNat]) (by simp [hj])
  rw [Int.toNat_of_nonneg h0] at e
  exact e
/-- an int of a list of ints -/
theorem atI_int {xs : List Int} {i : Int} (h0 : 0 ≤ i) (h1 : i < xs.length) : ∃ c, c ∈ xs ∧ atI (xs.map V.int) i = some (V.int c) := by
  obtain ⟨v, hv, e⟩ := atI_in (xs := xs.map V.int) (i := i) h0 (by simpa using h1)
  obtain ⟨c, hc, rfl⟩ := List.mem_map.mp hv
  exact ⟨c, hc, e⟩
/-- texts out of values -/
theorem strs_of (P : Str → Prop) : ∀ (ys : List V), (∀ v ∈ ys, ∃ z, v = V.str z ∧ P z) → ∃ zs : List Str, ys = zs.map V.str ∧ ∀ z ∈ zs, P z
  | [], _ => ⟨[], rfl, fun _ h => by cases h⟩
  | v :: r, h => by
    obtain ⟨z, rfl, p⟩ := h v List.mem_cons_self
    obtain ⟨zs, rfl, q⟩ := strs_of P r fun u hu => h u (List.mem_cons_of_mem _ hu)
    exact ⟨z :: zs, rfl, fun y hy => by
      rcases List.mem_cons.mp hy with rfl | hy
      · exact p
      · exact q y hy⟩
theorem bls_of : ∀ (ys : List V), (∀ v ∈ ys, ∃ b, v = V.bl b) → ∃ bs : List Bool, ys = bs.map V.bl
  | [], _ => ⟨[], rfl⟩
  | v :: r, h => by
    obtain ⟨b, rfl⟩ := h v List.mem_cons_self
    obtain ⟨bs, rfl⟩ := bls_of r fun u hu => h u (List.mem_cons_of_mem _ hu)
    exact ⟨b :: bs, rfl⟩
theorem cutV_map {α : Type} (f : α → V) (xs : List α) (lo hi : Option Int) : ∃ ys : List α, cutV (xs.map f) lo hi = ys.map f ∧ ys.length ≤ xs.length ∧ (∀ y ∈ ys, y ∈ xs) ∧
    ys = (xs.drop (HT.sIx xs.length 0 lo)).take (HT.sIx xs.length xs.length hi - HT.sIx xs.length 0 lo) := by
  refine ⟨(xs.drop (HT.sIx xs.length 0 lo)).take (HT.sIx xs.length xs.length hi - HT.sIx xs.length 0 lo), ?_, ?_, fun y hy => List.mem_of_mem_drop (List.mem_of_mem_take hy), rfl⟩
  · unfold cutV
    rw [List.length_map, List.map_take, List.map_drop]
  · rw [List.length_take, List.length_drop]
    omega
theorem join_len (sep : Str) (l : List Str) : (Txt.join sep l).length ≤ (l.map (·.length)).sum + l.length * sep.length := by
  have e : Txt.join sep l = Str.join sep l := beq_iff_eq.mp (join_plain_closes sep l)
  rw [e]
  exact StrLaws.join_length_le sep l
theorem sum_ones : ∀ (l : List Str), (∀ z ∈ l, z.length = 1) → (l.map (·.length)).sum = l.length
  | [], _ => rfl
  | z :: r, h => by
    rw [List.map_cons, List.sum_cons, h z List.mem_cons_self, sum_ones r fun y hy => h y (List.mem_cons_of_mem _ hy), List.length_cons]
    omega
theorem str_len_append (a b : Str) : (a ++ b).length = a.length + b.length := by
  show (a.cps ++ b.cps).size = _
  rw [Array.size_append]
  rfl

/-- a display of texts -/
def isStrs : List Expr → Bool
  | [] => true
  | .Constant (.str _) _ _ :: r => isStrs r
  | _ => false
def strVs : List Expr → List V
  | [] => []
  | .Constant (.str x) _ _ :: r => V.str x :: strVs r
  | _ => []
def tStrs (es : List Expr) : TA := fun _ H Q => Q (strVs es) H
theorem pa_strsB {X : Cx} : ∀ {es : List Expr}, isStrs es = true → PA X es (tStrs es)
  | [], _ => pa_nil
  | .Constant (.str x) j p :: r, h => pa_cons pe_str (pa_strsB (es := r) h)
theorem sw_list {es : List Expr} {p : Pos} {t : Option Expr} {l : Nat} {env : Env} : swapsWith (.List es p) t l env = pure false := rfl
/-- two numbers' texts apart -/
theorem line_small {n : Nat} (h : n ≤ 1000) : n ≤ sizeLine := Nat.le_of_lt (small1000 h)
end L2

/-! ## Methods of any class, joins, texts' signs (own text). -/
namespace L2
open PySem PySem.Spec PyProof.Rows
section
variable {X : Cx} {CX : CXT} {k : Nat} {f : Addr} {fd : FuncData} {ps : List Str} {sp : Sp} {dvs : List V} {ds : List Value} {E : XK} {m : Str} {pos apos : Pos} {e o : Expr} {es : List Expr} {ta : TE} {t : TA}
/-- what follows is asked of what the statement is wanted to reach -/
theorem PS.join {st : Stmt} {t : TS} (h : PS X st t) : PS X st (fun D σ H => ∃ M : St → Hp → Prop, t { D with nx := M } σ H ∧ ∀ σ' H', M σ' H' → D.nx σ' H') := by
  intro pins s σ H D I ⟨M, q, hM⟩
  refine thn (h pins s σ H _ I q) fun fl s' r => ?_
  cases fl with
  | next => obtain ⟨σ', H', I', r⟩ := r; exact ⟨σ', H', I', hM _ _ r⟩
  | brk => exact r
  | cont => exact r
  | ret u => exact r
theorem PE.cut {e : Expr} {t : TE} (h : PE X e t) : PE X e (fun σ H Q => ∃ M : VK, t σ H M ∧ ∀ v H', M v H' → Q v H') := by
  intro pins s σ H Q I ⟨M, q, hM⟩
  exact thn (h pins s σ H _ I q) fun u s' ⟨v, H', I', r, z⟩ => ⟨v, H', I', r, hM v H' z⟩
/-- o.m(..): the class is told by the object, the def is one -/
def tMethP (K : PySem.W.Frag) (f : Addr) (m : Str) (sp : Sp) (dvs : List V) (E : XK) (ta : TE) (t : TA) : TE := fun σ H Q => ta σ H fun x H1 => ∃ a C dx fs, x = .ref a ∧ H1 a = some (.ins C dx fs) ∧ Cls K C ∧ Meth K C m f ∧ fs.lookup m = none ∧
  t σ H1 fun vs H2 => sp (x :: (vs ++ dvs)) H2 Q E
theorem pe_methP {pl : Sem Bool} (he : PE X o ta) (F : FnOk X.prog X.w X.K X.mg X.base CX k f fd ps sp) (hr : Room k X.A) (hb : Binds X.K fd ps ds) (hd : Vals dvs ds) (hx : Passes CX X E) (ha : PA X (e :: es) t)
    (hst : starEach (e :: es) X.env = (false, eval e X.env) :: starEach es X.env := by rfl) (hpl : (backTo pos (starEach es X.env)).any (·.1) = false := by rfl)
    (ht : eval (.Call (.Attribute o m apos) (e :: es) [] pos) X.env = (do
      let ov ← eval o X.env
      standAt apos.atName
      let (f, first) ← holding [ov] (getMethod ov m pl)
      callWith pos f first (backTo pos (starEach (e :: es) X.env)) (backToKw pos (keywordEach [] X.env))) := by rfl) :
    PE X (.Call (.Attribute o m apos) (e :: es) [] pos) (tMethP X.K f m sp dvs E ta t) := by
  intro pins s σ H Q I h
  refine PySem.W.methodCall_KW (pl := pl) (thn (he pins s σ H _ I h) fun u s1 ⟨x, H1, I1, rx, a, C, dx, fs, ex, ea, c, hm, l, q⟩ => ?_) ht
  subst ex
  obtain rfl : u = Value.ref a := rx
  refine getmeth_ok I1 ea c hm l ?_
  refine PySem.W.callWith_K (first := [.ref a]) (h₀ := X.base) I.ok.mod.kin hm.kp (thn (ha pos pins s1 σ H1 _ I1 q) fun us s2 ⟨vs, H2, I2, r, q2⟩ => ⟨I2.kIn, ?_⟩) hst hpl
  exact run_fn (us := .ref a :: us) (vs := .ref a :: vs) F hr hb hd hx I2 (.cons rfl r) q2
theorem pe_methP0 {pl : Sem Bool} (he : PE X o ta) (F : FnOk X.prog X.w X.K X.mg X.base CX k f fd ps sp) (hr : Room k X.A) (hb : Binds X.K fd ps ds) (hd : Vals dvs ds) (hx : Passes CX X E)
    (ht : eval (.Call (.Attribute o m apos) [] [] pos) X.env = (do
      let ov ← eval o X.env
      standAt apos.atName
      let (f, first) ← holding [ov] (getMethod ov m pl)
      callWith pos f first (backTo pos (starEach [] X.env)) (backToKw pos (keywordEach [] X.env))) := by rfl) :
    PE X (.Call (.Attribute o m apos) [] [] pos) (tMethP X.K f m sp dvs E ta tNil) := by
  intro pins s σ H Q I h
  refine PySem.W.methodCall_KW (pl := pl) (thn (he pins s σ H _ I h) fun u s1 ⟨x, H1, I1, rx, a, C, dx, fs, ex, ea, c, hm, l, q⟩ => ?_) ht
  subst ex
  obtain rfl : u = Value.ref a := rx
  refine getmeth_ok I1 ea c hm l ?_
  exact PySem.W.callWith_K0 (first := [.ref a]) I1.kIn hm.kp (run_fn (us := [.ref a]) (vs := [.ref a]) F hr hb hd hx I1 (.cons rfl .nil) q)
end

/-! ### signs -/
def asc (x : Str) : Prop := ∀ c ∈ x.cps.toList, c < 128
theorem asc.ok {x : Str} (h : asc x) : PyData.strOk x = true := by
  unfold PyData.strOk
  rw [Array.all_eq_true]
  intro i hi
  have := h x.cps[i] (by simp)
  exact decide_eq_true (by omega)
theorem cps_append (a b : Str) : (a ++ b).cps.toList = a.cps.toList ++ b.cps.toList := by
  show (a.cps ++ b.cps).toList = _
  simp
theorem asc.append {a b : Str} (ha : asc a) (hb : asc b) : asc (a ++ b) := fun c hc => by
  rw [cps_append] at hc
  rcases List.mem_append.mp hc with h | h
  · exact ha c h
  · exact hb c h
theorem strOk_append {a b : Str} (ha : PyData.strOk a = true) (hb : PyData.strOk b = true) : PyData.strOk (a ++ b) = true := by
  show (a.cps ++ b.cps).all _ = true
  rw [Array.all_append]
  unfold PyData.strOk at ha hb
  rw [ha, hb]
  rfl
theorem slice_mem {x : Str} {lo hi : Option Int} {c : Nat} (h : c ∈ (Txt.slice x lo hi).cps.toList) : c ∈ x.cps.toList := by
  unfold Txt.slice at h
  split at h
  · exact h
  · have h' : c ∈ (Builtin.Str.strSliceIndices lo hi 1 x.length).filterMap (x.cps[·]?) := by simpa using h
    obtain ⟨i, _, e⟩ := List.mem_filterMap.mp h'
    exact List.mem_of_getElem? (l := x.cps.toList) (i := i) (by simpa using e)
theorem asc.slice {x : Str} (h : asc x) (lo hi : Option Int) : asc (Txt.slice x lo hi) := fun c hc => h c (slice_mem hc)
theorem join_mem {c : Nat} : ∀ {zs : List Str}, c ∈ (Str.join ("" : Str) zs).cps.toList → ∃ z ∈ zs, c ∈ z.cps.toList
  | [], h => by simp [Str.join, Str.empty] at h
  | [x], h => ⟨x, by simp, by simpa [Str.join] using h⟩
  | x :: y :: r, h => by
    have e : Str.join ("" : Str) (x :: y :: r) = x ++ ("" : Str) ++ Str.join ("" : Str) (y :: r) := rfl
    rw [e, cps_append, cps_append] at h
    have e0 : ("" : Str).cps.toList = [] := by decide +kernel
    rw [e0, List.append_nil] at h
    rcases List.mem_append.mp h with h | h
    · exact ⟨x, by simp, h⟩
    · obtain ⟨z, hz, hc⟩ := join_mem h
      exact ⟨z, List.mem_cons_of_mem _ hz, hc⟩
theorem join_eq (sep : Str) (l : List Str) : Txt.join sep l = Str.join sep l := beq_iff_eq.mp (join_plain_closes sep l)
theorem join_ones_len : ∀ (l : List Str), (∀ a ∈ l, a.length = 1) → (Str.join ("" : Str) l).length = l.length
  | [], _ => rfl
  | [x], h => by simpa [Str.join] using h x (by simp)
  | x :: y :: r, h => by
    have e : Str.join ("" : Str) (x :: y :: r) = x ++ ("" : Str) ++ Str.join ("" : Str) (y :: r) := rfl
    have e0 : ("" : Str).length = 0 := by decide +kernel
    rw [e, str_len_append, str_len_append, e0, h x (by simp), join_ones_len (y :: r) fun a ha => h a (List.mem_cons_of_mem _ ha), List.length_cons, List.length_cons]
    simp; omega
/-- texts of one sign each out of a text's signs, joined -/
theorem joined_of {L : List Nat} {ys : List V} (h : ∀ v ∈ ys, ∃ c ∈ L, v = V.str ⟨#[c]⟩) : ∃ zs : List Str, ys = zs.map V.str ∧ (zs.map (·.length)).sum + zs.length * ("" : Str).length = ys.length ∧ (Txt.join ("" : Str) zs).length = ys.length ∧
    ∀ c ∈ (Txt.join ("" : Str) zs).cps.toList, c ∈ L := by
  obtain ⟨zs, rfl, hz⟩ := strs_of (fun z => ∃ c ∈ L, z = ⟨#[c]⟩) ys fun v hv => by
    obtain ⟨c, hc, rfl⟩ := h v hv
    exact ⟨_, rfl, c, hc, rfl⟩
  have h1 : ∀ z ∈ zs, z.length = 1 := fun z hz' => by obtain ⟨c, _, rfl⟩ := hz z hz'; rfl
  have e0 : ("" : Str).length = 0 := by decide +kernel
  refine ⟨zs, rfl, ?_, ?_, fun c hc => ?_⟩
  · rw [e0, Nat.mul_zero, sum_ones zs h1, List.length_map]; rfl
  · rw [join_eq, join_ones_len zs h1, List.length_map]
  · rw [join_eq] at hc
    obtain ⟨z, hz', hcz⟩ := join_mem hc
    obtain ⟨d, hd, rfl⟩ := hz z hz'
    have : c = d := by simpa using hcz
    rw [this]; exact hd
theorem in_strs {x : Str} {xs : List Str} : inV (.str x) (xs.map V.str) = decide (x ∈ xs) := by
  induction xs with
  | nil => rfl
  | cons y r ih =>
    unfold inV at ih ⊢
    rw [List.map_cons, List.any_cons, ih]
    have : eqV (.str y) (.str x) = decide (x = y) := by
      show (y == x) = _
      by_cases h : x = y
      · subst h; simp
      · rw [decide_eq_false h]; exact beq_eq_false_iff_ne.mpr fun q => h q.symm
    rw [this]
    by_cases h : x = y <;> by_cases h' : x ∈ r <;> simp [h, h']
end L2

/-! ## The rules once more, with the heap behind them as a letter; methods found by the object (own text). -/
namespace L2
open PySem PySem.Spec PyProof.Rows
/-- something new stands, the rest as it was -/
def Nw (H : Hp) (o : HO) (Q : VK) : Prop := ∀ p H', Same H H' → H p = none → H' p = some o → Q (.ref p) H'
theorem Nw.el {H : Hp} {o : HO} {Q : VK} (h : Nw H o Q) (p : Addr) (hp : H p = none) : Q (.ref p) (upd H p o) := h p _ (Same.new1 hp) hp upd_same
/-- all but l is as it was -/
def Keeps (l : Addr) (H H' : Hp) : Prop := ∀ b, b ≠ l → H' b = H b
theorem Keeps.upd {H : Hp} {l : Addr} {o : HO} : Keeps l H (upd H l o) := fun _ h => upd_ne h
/-- what stands at l is another thing now -/
def Ch (H : Hp) (l : Addr) (o : HO) (Q : Hp → Prop) : Prop := ∀ H', Keeps l H H' → H' l = some o → Q H'
theorem Ch.el {H : Hp} {l : Addr} {o : HO} {Q : Hp → Prop} (h : Ch H l o Q) : Q (L2.upd H l o) := h _ Keeps.upd upd_same
theorem Keeps.put {H H1 H2 : Hp} {l : Addr} (k : Keeps l H1 H2) (s : Same H H1) (n : H l = none) : Same H H2 := fun b o e => by
  rw [k b (ne_of_none e n)]
  exact s b o e
theorem Keeps.look {H1 H2 : Hp} {l b : Addr} {o : HO} (k : Keeps l H1 H2) (e : H1 b = some o) (n : b ≠ l) : H2 b = some o := by rw [k b n]; exact e
theorem Same.look {H H' : Hp} {b : Addr} {o : HO} (s : Same H H') (e : H b = some o) : H' b = some o := s b o e
/-- tuples and instances stay -/
def Fx (H H' : Hp) : Prop := (∀ b xs, H b = some (.tup xs) → H' b = some (.tup xs)) ∧ ∀ b C dx fs, H b = some (.ins C dx fs) → H' b = some (.ins C dx fs)
theorem Same.fx {H H' : Hp} (s : Same H H') : Fx H H' := ⟨fun b xs e => s b _ e, fun b C dx fs e => s b _ e⟩
theorem Fx.refl (H : Hp) : Fx H H := (Same.refl H).fx
theorem Fx.trans {H H1 H2 : Hp} (a : Fx H H1) (b : Fx H1 H2) : Fx H H2 := ⟨fun c xs e => b.1 c xs (a.1 c xs e), fun c C dx fs e => b.2 c C dx fs (a.2 c C dx fs e)⟩
theorem Keeps.fxL {H H' : Hp} {l : Addr} {xs : List V} (k : Keeps l H H') (e : H l = some (.lst xs)) : Fx H H' :=
  ⟨fun b ys q => k.look q (ne_of q e (by intro z; cases z)), fun b C dx fs q => k.look q (ne_of q e (by intro z; cases z))⟩
section
variable {X : Cx}
theorem PE.mono {e : Expr} {t t' : TE} (h : PE X e t) (m : ∀ σ H Q, t' σ H Q → t σ H Q) : PE X e t' := fun pins s σ H Q I q => h pins s σ H Q I (m σ H Q q)
theorem CallR.mono {f : Value} {r r' : List V → Hp → VK → Prop} (h : CallR X f r) (m : ∀ xs H Q, r' xs H Q → r xs H Q) : CallR X f r' := fun pins s σ H xs us Q I rv q => h pins s σ H xs us Q I rv (m xs H Q q)
theorem MtR.mono {id : String} {r r' : V → List V → Hp → VK → Prop} (h : MtR X id r) (m : ∀ x xs H Q, r' x xs H Q → r x xs H Q) : MtR X id r' := fun pins s σ H x vs v us Q I rx rv q => h pins s σ H x vs v us Q I rx rv (m x vs H Q q)
theorem OpR.mono {f : Value → Value → Sem Value} {r r' : R2} (h : OpR X f r) (m : ∀ x y H Q, r' x y H Q → r x y H Q) : OpR X f r' := fun pins s σ H x y v u Q I rx ry q => h pins s σ H x y v u Q I rx ry (m x y H Q q)
theorem SlR.mono {r r' : V → Option Int → Option Int → Hp → VK → Prop} (h : SlR X r) (m : ∀ x l u H Q, r' x l u H Q → r x l u H Q) : SlR X r' := fun pins s σ H x v vl vu lo hi sl Q I rx hs pl pu q => h pins s σ H x v vl vu lo hi sl Q I rx hs pl pu (m x lo hi H Q q)
/-! displays -/
def nTup (t : TA) : TE := fun σ H Q => t σ H fun xs H1 => xs.length ≤ sizeLine ∧ Nw H1 (.tup xs) Q
def nLst (t : TA) : TE := fun σ H Q => t σ H fun xs H1 => xs.length ≤ sizeLine ∧ Nw H1 (.lst xs) Q
theorem PA.cut {es : List Expr} {t : TA} (h : PA X es t) : PA X es (fun σ H Q => ∃ M : List V → Hp → Prop, t σ H M ∧ ∀ vs H', M vs H' → Q vs H') := by
  intro pos pins s σ H Q I ⟨M, q, hM⟩
  exact thn (h pos pins s σ H _ I q) fun u s' ⟨v, H', I', r, z⟩ => ⟨v, H', I', r, hM v H' z⟩
theorem ne_tup {es : List Expr} {t : TA} {pos : Pos} {x1} (h : PA X es t) : PE X (.Tuple es x1 pos) (nTup t) := (pe_tup h.cut).mono fun _ _ _ q => ⟨_, q, fun _ _ q => ⟨q.1, q.2.el⟩⟩
theorem ne_lst {es : List Expr} {t : TA} {pos : Pos} (h : PA X es t) : PE X (.List es pos) (nLst t) := (pe_lst h.cut).mono fun _ _ _ q => ⟨_, q, fun _ _ q => ⟨q.1, q.2.el⟩⟩
/-! calls, slices, operators that lay something -/
theorem nc_list_of : CallR X (.type "list") (fun xs H Q => ∃ p ys, xs = [.ref p] ∧ (SqL X.K H p ys ∨ SqT X.K H p ys) ∧ Nw H (.lst ys) Q) :=
  call_list_of.mono fun _ _ _ ⟨p, ys, a, b, c⟩ => ⟨p, ys, a, b, c.el⟩
theorem nc_tuple_list : CallR X (.type "tuple") (fun xs H Q => ∃ p ys, xs = [.ref p] ∧ SqL X.K H p ys ∧ Nw H (.tup ys) Q) :=
  call_tuple_of.mono fun _ _ _ ⟨p, ys, a, b, c⟩ => ⟨p, ys, a, .inl ⟨b, c.el⟩⟩
theorem ns_list : SlR X (fun x lo hi H Q => ∃ a xs, x = .ref a ∧ SqL X.K H a xs ∧ Nw H (.lst (cutV xs lo hi)) Q) :=
  sl_list.mono fun _ _ _ _ _ ⟨a, xs, e, b, c⟩ => ⟨a, xs, e, b, c.el⟩
theorem no_cat : OpR X (binaryOp .Add) (fun x y H Q => ∃ l b xs zs, x = .ref l ∧ y = .ref b ∧ H l = some (.lst xs) ∧ H b = some (.lst zs) ∧ xs.length + zs.length ≤ sizeLine ∧ Nw H (.lst (xs ++ zs)) Q) :=
  op_cat.mono fun _ _ _ _ ⟨l, b, xs, zs, a, c, d, e, f, g⟩ => ⟨l, b, xs, zs, a, c, d, e, f, g.el⟩
theorem nm_append : MtR X "list.append" (fun x vs H Q => ∃ l xs y, x = .ref l ∧ vs = [y] ∧ H l = some (.lst xs) ∧ xs.length < sizeLine ∧ Ch H l (.lst (xs ++ [y])) (Q .non)) :=
  MtR.mono mt_append fun _ _ _ _ ⟨l, xs, y, a, b, c, d, e⟩ => ⟨l, xs, y, a, b, c, d, e.el⟩
theorem nm_clear : MtR X "list.clear" (fun x vs H Q => ∃ l xs, x = .ref l ∧ vs = [] ∧ H l = some (.lst xs) ∧ Ch H l (.lst []) (Q .non)) :=
  MtR.mono mt_clear fun _ _ _ _ ⟨l, xs, a, b, c, e⟩ => ⟨l, xs, a, b, c, e.el⟩
theorem nm_pop : MtR X "list.pop" (fun x vs H Q => ∃ l xs y, x = .ref l ∧ vs = [] ∧ H l = some (.lst xs) ∧ xs[xs.length - 1]? = some y ∧ Ch H l (.lst xs.dropLast) (Q y)) :=
  MtR.mono mt_pop fun _ _ _ _ ⟨l, xs, y, a, b, c, d, e⟩ => ⟨l, xs, y, a, b, c, d, e.el⟩
theorem nm_extend : MtR X "list.extend" (fun x vs H Q => ∃ l b xs zs, x = .ref l ∧ vs = [.ref b] ∧ H l = some (.lst xs) ∧ H b = some (.lst zs) ∧ xs.length + zs.length ≤ sizeLine ∧ Ch H l (.lst (xs ++ zs)) (Q .non)) :=
  MtR.mono mt_extend fun _ _ _ _ ⟨l, b, xs, zs, a, a', c, d, e, f⟩ => ⟨l, b, xs, zs, a, a', c, d, e, f.el⟩
theorem nset_list : PSet X (fun o i v H Q => ∃ p xs k j, o = .ref p ∧ i = .int k ∧ H p = some (.lst xs) ∧ ixN xs.length k = some j ∧ Ch H p (.lst (xs.set j v)) Q) := by
  intro pins s σ H o i v
  have h := @set_list X pins s σ H o i v
  intros
  rename_i q
  exact h _ _ _ _ ‹_› ‹_› ‹_› ‹_› (by obtain ⟨p, xs, k, j, a, b, c, d, e⟩ := q; exact ⟨p, xs, k, j, a, b, c, d, e.el⟩)
end
/-! ### o.m(..), the def found by the object's class -/
structure MethOk (P : Program) (w : World) (K : PySem.W.Frag) (mg : Str → Option Value) (base : Heap) (CX : CXT) (k : Nat) (C : Addr) (m : Str) (sp : Sp) : Prop where
  ex : ∃ f fd ps, Meth K C m f ∧ FnOk P w K mg base CX k f fd ps sp ∧ Binds K fd ps []
theorem MethOk.mk' {P : Program} {w : World} {K : PySem.W.Frag} {mg : Str → Option Value} {base : Heap} {CX : CXT} {j k : Nat} {C f : Addr} {m : Str} {sp : Sp} {fd : FuncData} {ps : List Str} (h1 : Meth K C m f) (h2 : FnOk P w K mg base CX j f fd ps sp) (h3 : Binds K fd ps []) (h : j ≤ k) :
    MethOk P w K mg base CX k C m sp := ⟨f, fd, ps, h1, h2.mono h, h3⟩
def tMethD (X : Cx) (CX : CXT) (k : Nat) (m : Str) (E : XK) (ta : TE) (t : TA) : TE := fun σ H Q => ta σ H fun x H1 => ∃ a C dx fs, x = .ref a ∧ H1 a = some (.ins C dx fs) ∧ Cls X.K C ∧ fs.lookup m = none ∧
  ∃ sp, MethOk X.prog X.w X.K X.mg X.base CX k C m sp ∧ t σ H1 fun vs H2 => sp (x :: vs) H2 Q E
section
variable {X : Cx} {k : Nat} {m : Str} {pos apos : Pos} {e o : Expr} {es : List Expr} {ta : TE} {t : TA}
theorem pe_methD {pl : Sem Bool} (hr : Room k X.A) (he : PE X o ta) (ha : PA X (e :: es) t)
    (hst : starEach (e :: es) X.env = (false, eval e X.env) :: starEach es X.env := by rfl) (hpl : (backTo pos (starEach es X.env)).any (·.1) = false := by rfl)
    (ht : eval (.Call (.Attribute o m apos) (e :: es) [] pos) X.env = (do
      let ov ← eval o X.env
      standAt apos.atName
      let (f, first) ← holding [ov] (getMethod ov m pl)
      callWith pos f first (backTo pos (starEach (e :: es) X.env)) (backToKw pos (keywordEach [] X.env))) := by rfl) :
    PE X (.Call (.Attribute o m apos) (e :: es) [] pos) (tMethD X CX0 k m E0 ta t) := by
  intro pins s σ H Q I h
  refine PySem.W.methodCall_KW (pl := pl) (thn (he pins s σ H _ I h) fun u s1 ⟨x, H1, I1, rx, a, C, dx, fs, ex, ea, c, l, sp, M, q⟩ => ?_) ht
  subst ex
  obtain ⟨f, fd, ps, hm, F, hb⟩ := M.ex
  obtain rfl : u = Value.ref a := rx
  refine getmeth_ok I1 ea c hm l ?_
  refine PySem.W.callWith_K (first := [.ref a]) (h₀ := X.base) I.ok.mod.kin hm.kp (thn (ha pos pins s1 σ H1 _ I1 q) fun us s2 ⟨vs, H2, I2, r, q2⟩ => ⟨I2.kIn, ?_⟩) hst hpl
  exact run_fn (us := .ref a :: us) (vs := .ref a :: vs) F hr hb .nil pass0 I2 (.cons rfl r) (by rw [List.append_nil]; exact q2)
theorem pe_methD0 {pl : Sem Bool} (hr : Room k X.A) (he : PE X o ta)
    (ht : eval (.Call (.Attribute o m apos) [] [] pos) X.env = (do
      let ov ← eval o X.env
      standAt apos.atName
      let (f, first) ← holding [ov] (getMethod ov m pl)
      callWith pos f first (backTo pos (starEach [] X.env)) (backToKw pos (keywordEach [] X.env))) := by rfl) :
    PE X (.Call (.Attribute o m apos) [] [] pos) (tMethD X CX0 k m E0 ta tNil) := by
  intro pins s σ H Q I h
  refine PySem.W.methodCall_KW (pl := pl) (thn (he pins s σ H _ I h) fun u s1 ⟨x, H1, I1, rx, a, C, dx, fs, ex, ea, c, l, sp, M, q⟩ => ?_) ht
  subst ex
  obtain ⟨f, fd, ps, hm, F, hb⟩ := M.ex
  obtain rfl : u = Value.ref a := rx
  refine getmeth_ok I1 ea c hm l ?_
  exact PySem.W.callWith_K0 (first := [.ref a]) I1.kIn hm.kp (run_fn (us := [.ref a]) (vs := [.ref a]) F hr hb .nil pass0 I1 (.cons rfl .nil) q)
end
/-! ### items -/
theorem atI_ix {α : Type} [Inhabited α] {xs : List α} {i : Int} (h0 : 0 ≤ i) (h1 : i < xs.length) : atI xs i = some (xs.getD i.toNat default) := by
  have hj : i.toNat < xs.length := by omega
  have e := atI_nat (xs := xs) (j := i.toNat) (v := xs[i.toNat]) (by simp [hj])
  rw [Int.toNat_of_nonneg h0] at e
  rw [e, List.getD_eq_getElem?_getD, List.getElem?_eq_getElem hj]
  rfl
theorem atI_map {α : Type} {f : α → V} {xs : List α} {i : Int} (d : α) (h0 : 0 ≤ i) (h1 : i < xs.length) : atI (xs.map f) i = some (f (xs.getD i.toNat d)) := by
  have hj : i.toNat < (xs.map f).length := by rw [List.length_map]; omega
  have e := atI_nat (xs := xs.map f) (j := i.toNat) (v := (xs.map f)[i.toNat]) (List.getElem?_eq_getElem hj)
  rw [Int.toNat_of_nonneg h0] at e
  rw [e, List.getElem_map, List.getD_eq_getElem?_getD, List.getElem?_eq_getElem (by omega)]
  rfl
theorem atI_int' {xs : List Int} {i : Int} (h0 : 0 ≤ i) (h1 : i < xs.length) : atI (xs.map V.int) i = some (.int (xs.getD i.toNat 0)) := atI_map 0 h0 h1
theorem atI_str' {xs : List Str} {i : Int} (h0 : 0 ≤ i) (h1 : i < xs.length) : atI (xs.map V.str) i = some (.str (xs.getD i.toNat "")) := atI_map (f := V.str) ("" : Str) h0 h1
theorem ixN_ok {n : Nat} {i : Int} (h0 : 0 ≤ i) (h1 : i < n) : ixN n i = some i.toNat := by
  unfold ixN; rw [if_pos h0, if_pos h1]
theorem getD_p {α : Type} {P : α → Prop} {xs : List α} {j : Nat} (d : α) (h : ∀ x ∈ xs, P x) (hj : j < xs.length) : P (xs.getD j d) := by
  rw [List.getD_eq_getElem?_getD, List.getElem?_eq_getElem hj]
  exact h _ (List.getElem_mem hj)
theorem atI_sign {z : Str} {i : Int} (h0 : 0 ≤ i) (h1 : i < z.length) : atI z.cps.toList i = some (z.cps.toList.getD i.toNat 0) := atI_ix h0 (by simpa [Str.length] using h1)
/-! ### texts joined in any order -/
theorem str_ext {a b : Str} (h : a.cps.toList = b.cps.toList) : a = b := by
  cases a; cases b
  simp only at h
  rw [Array.toList_inj.mp h]
theorem str_assoc (a b c : Str) : a ++ b ++ c = a ++ (b ++ c) := str_ext (by simp only [cps_append, List.append_assoc])
theorem join_two (s x y : Str) (r : List Str) : Str.join s (x :: y :: r) = x ++ s ++ Str.join s (y :: r) := rfl
theorem join_one (s x : Str) : Str.join s [x] = x := rfl
end L2

namespace L2
open PySem PySem.Spec PyProof.Rows
/-- two texts of known size -/
theorem cat_ok {x y : Str} {n m : Nat} (hx : x.length ≤ n) (hy : y.length ≤ m) (h : n + m ≤ 1000) : x.length + y.length ≤ sizeLine := line_small (by omega)
theorem cat_len {x y : Str} {n m : Nat} (hx : x.length ≤ n) (hy : y.length ≤ m) : (x ++ y).length ≤ n + m := by rw [str_len_append]; omega
theorem len_self (x : Str) : x.length ≤ x.length := Nat.le_refl _
theorem slice_len {x : Str} {n : Nat} {lo hi : Option Int} (hx : x.length ≤ n) : (Txt.slice x lo hi).length ≤ n := Nat.le_trans (Txt.slice_le x lo hi) hx
theorem one_len {c : Nat} : (⟨#[c]⟩ : Str).length ≤ 1 := Nat.le_refl _
theorem small_of {n m : Nat} (h : n ≤ m) (h' : m ≤ 1000) : n ≤ sizeLine := line_small (Nat.le_trans h h')
end L2

namespace L2
open PySem PySem.Spec PyProof.Rows
/-! ### a field, read -/
def Fld (K : PySem.W.Frag) (H : Hp) (x : V) (f : Str) (v : V) : Prop := ∃ a C dx fs, x = .ref a ∧ H a = some (.ins C dx fs) ∧ Cls K C ∧ NoAttr K C f ∧ fs.lookup f = some v
def nFld (K : PySem.W.Frag) (ta : TE) (f : Str) : TE := fun σ H Q => ta σ H fun x H1 => ∃ v, Fld K H1 x f v ∧ Q v H1
theorem PE.cutE {X : Cx} {e : Expr} {t : TE} (h : PE X e t) : PE X e (fun σ H Q => ∃ M : VK, t σ H M ∧ ∀ v H', M v H' → Q v H') := h.cut
theorem ne_fld {X : Cx} {K : PySem.W.Frag} (hK : X.K = K) {e : Expr} {ta : TE} {f : Str} {pos : Pos} (he : PE X e ta) (hb : attributeBase e f X.env (eval e X.env) = eval e X.env) : PE X (.Attribute e f pos) (nFld K ta f) := by
  subst hK
  refine (pe_fld he.cut hb).mono fun σ H Q q => ⟨_, q, fun x H1 z => ?_⟩
  obtain ⟨v, ⟨a, C, dx, fs, h1, h2, h3, h4, h5⟩, q⟩ := z
  exact ⟨a, C, dx, fs, v, h1, h2, h3, h4, h5, q⟩
theorem kit_same (K : PySem.W.Frag) (t : Value) : PySem.W.kitOne K t t = some true := by
  unfold PySem.W.kitOne
  rw [if_pos (by simp)]
end L2

/-! ## A class without an __init__ (own text). -/
namespace L2
open PySem PySem.Spec PyProof.Rows
structure Mk0 (K : PySem.W.Frag) (C : Addr) : Prop where
  makes : PySem.W.makesIn K C = true
  init : PySem.W.findIn K (.ref C) "__init__" = some (some (.builtin "object.__init__"))
  kp : PySem.W.keepIn K (.ref C) = true
section
variable {X : Cx} {C : Addr} {x : Str} {p pos : Pos}
theorem pe_bare (M : Mk0 X.K C) (hg : Gl X x) (hm : X.mg x = some (.ref C)) (hdb : (x == ("__debug__" : Str)) = false := by decide) :
    PE X (.Call (.Name x p) [] [] pos) (fun σ H Q => ∀ y dx H', Same H H' → H y = none → H' y = some (.ins C dx []) → Q (.ref y) H') := by
  intro pins s σ H Q I h
  refine wpAny_Call_Name_kw (ld_glob I hg hm ?_ hdb)
  refine PySem.W.callWith_K0 I.kIn M.kp ?_
  have fx : H (s.heap.objs.size + 1) = none := I.hok.fresh (Nat.le_succ _)
  have fd : H s.heap.objs.size = none := I.hok.fresh (Nat.le_refl _)
  have ne : s.heap.objs.size ≠ s.heap.objs.size + 1 := Nat.ne_of_lt (Nat.lt_succ_self _)
  have I2 := Inv.made (C := C) I
  refine wpAny_call (make_map0 I.kIn M.makes M.init (fun self => PySem.W.Looks.of_pure (PySem.W.oi_bind self)) ?_)
  have hx : ((s.heap.push PySem.W.emptyDict).push (PySem.W.instObj C s.heap.objs.size)).get? (s.heap.objs.size + 1) = some (PySem.W.instObj C s.heap.objs.size) := by
    have := Heap.get?_push_size (s.heap.push PySem.W.emptyDict) (o := PySem.W.instObj C s.heap.objs.size) rfl
    rwa [Heap.size_push] at this
  have Y := PySem.W.makes_of (M := model X.prog X.w) I.kIn M.makes
  have t1 : PySem.W.Looks (model X.prog X.w) ((s.heap.push PySem.W.emptyDict).push (PySem.W.instObj C s.heap.objs.size)) (typeOf (.ref (s.heap.objs.size + 1))) (.ref C) := (PySem.W.Looks.ld hx).andThen .now
  have t2 : PySem.W.Looks (model X.prog X.w) ((s.heap.push PySem.W.emptyDict).push (PySem.W.instObj C s.heap.objs.size)) (isInstance (.ref (s.heap.objs.size + 1)) (.type "object")) true := t1.andThen (Y.top.keeps fun b o e => Heap.get?_push_of_some _ (Heap.get?_push_of_some _ e))
  refine codeAny_call_builtin PySem.W.oi_plain PySem.W.entry_oi (@PySem.W.check_slot (model X.prog X.w) _ _ _ "object.__init__" "object" "__init__" (.ref (s.heap.objs.size + 1)) [] [] _ PySem.W.oi_kind PySem.W.oi_split t2 (PySem.W.oi_args (.ref (s.heap.objs.size + 1))) ?_)
  rw [PySem.W.oi_run]
  refine wpAny_pure (And.intro rfl ?_)
  refine ⟨V.ref (s.heap.objs.size + 1), _, I2, rfl, h _ _ _ ?_ fx upd_same⟩
  exact (Same.new1 fd).new (by rw [upd_ne (Ne.symm ne)]; exact fx)
end
end L2
namespace L2
open PySem PySem.Spec PyProof.Rows
/-! ### a number's text -/
theorem num_good {n : Int} (h0 : 0 ≤ n) (h1 : n ≤ 10 ^ 20) : (Str.ofString (toString n)).length ≤ 21 ∧ 1 ≤ (Str.ofString (toString n)).length ∧ asc (Str.ofString (toString n)) := by
  obtain ⟨m, rfl⟩ := Int.eq_ofNat_of_zero_le h0
  have e := PySem.W.KIN.signs_num m
  have hl : (Str.ofString (toString ((m : Nat) : Int))).length = (Nat.toDigits 10 m).length := by
    have := congrArg List.length e
    rw [List.length_map] at this
    rw [← this]
    simp [Str.length]
  refine ⟨?_, ?_, fun c hc => ?_⟩
  · rw [hl]
    refine digits10_le (by decide) ?_
    have : (m : Int) < 10 ^ 21 := by omega
    exact_mod_cast this
  · rw [hl]; exact toDigits_len_ge 10 m
  · rw [e] at hc
    obtain ⟨ch, hch, rfl⟩ := List.mem_map.mp hc
    have r := PyProof.Rows.digit_range (Nat.isDigit_of_mem_toDigits (by decide) (by decide) hch)
    omega
theorem log_small {n : Int} (h0 : 0 ≤ n) (h1 : n ≤ 10 ^ 20) : n.natAbs.log2 < 1920 := by
  have : n.natAbs < 2 ^ 67 := by omega
  by_cases h : n.natAbs = 0
  · rw [h]; decide
  · exact Nat.lt_trans ((Nat.log2_lt h).mpr this) (by decide)
/-! ### lists of texts, compared -/
theorem eqv_strs (xs ys : List Str) : PyData.eqv (.list (xs.map PyData.str)) (.list (ys.map PyData.str)) = decide (xs = ys) := by
  simp only [PyData.eqv, eqvAll_strs]
end L2

namespace L2
open PySem PySem.Spec PyProof.Rows
theorem lookS {H H' : Hp} {b : Addr} {o : HO} (e : H b = some o) (s : Same H H') : H' b = some o := s b o e
theorem seqS {K : PySem.W.Frag} {H H' : Hp} {a : Addr} {xs : List V} (h : SqL K H a xs) (s : Same H H') : SqL K H' a xs := s.seq h
theorem seqTS {K : PySem.W.Frag} {H H' : Hp} {a : Addr} {xs : List V} (h : SqT K H a xs) (s : Same H H') : SqT K H' a xs := s.seqT h
end L2
namespace L2
open PySem PySem.Spec PyProof.Rows
theorem ns_tup {X : Cx} : SlR X (fun x lo hi H Q => ∃ a xs, x = .ref a ∧ SqT X.K H a xs ∧ ¬ (HT.sIx xs.length 0 lo = 0 ∧ HT.sIx xs.length xs.length hi = xs.length) ∧ Nw H (.tup (cutV xs lo hi)) Q) :=
  sl_tup.mono fun _ _ _ _ _ ⟨a, xs, e, b, c, d⟩ => ⟨a, xs, e, b, c, d.el⟩
end L2

namespace L2
open PySem PySem.Spec PyProof.Rows
section
variable {X : Cx} {K : PySem.W.Frag}
theorem pg_tupK {es : List Expr} {k : Nat} {t : TGs} {n : Nat} {pos : Pos} (hK : X.K = K) (hc : X.calm = true) (h : PGs X es t)
    (hn : (assignEach es X.env).length = n := by rfl) (hst : (assignEach es X.env).findIdx? (·.1) = none := by rfl) : PG X (.Tuple es k pos) (gTup K n t) := hK ▸ pg_tup hc h hn hst
theorem ixK_list (hK : X.K = K) : IxR X (rIxL K) := hK ▸ ix_list
theorem ixK_tup (hK : X.K = K) : IxR X (rIxT K) := hK ▸ ix_tup
theorem nsK_list (hK : X.K = K) : SlR X (fun x lo hi H Q => ∃ a xs, x = .ref a ∧ SqL K H a xs ∧ Nw H (.lst (cutV xs lo hi)) Q) := hK ▸ ns_list
theorem nsK_tup (hK : X.K = K) : SlR X (fun x lo hi H Q => ∃ a xs, x = .ref a ∧ SqT K H a xs ∧ ¬ (HT.sIx xs.length 0 lo = 0 ∧ HT.sIx xs.length xs.length hi = xs.length) ∧ Nw H (.tup (cutV xs lo hi)) Q) := hK ▸ ns_tup
theorem opK_in (hK : X.K = K) : OpR X (compareOp .In) (rIn K false) := hK ▸ op_in_seq
theorem opK_notIn (hK : X.K = K) : OpR X (compareOp .NotIn) (rIn K true) := hK ▸ op_notIn_seq
theorem opK_eqD (hK : X.K = K) (hu : X.A.units + 64 < cLine) : OpR X (compareOp .Eq) (rEqD K false) := hK ▸ op_eqD hu
theorem opK_neD (hK : X.K = K) (hu : X.A.units + 64 < cLine) : OpR X (compareOp .NotEq) (rEqD K true) := hK ▸ op_neD hu
theorem callK_len (hK : X.K = K) : CallR X (.builtin "len") (fun xs H Q => ∃ p ys, xs = [.ref p] ∧ (SqL K H p ys ∨ SqT K H p ys) ∧ Q (.int ys.length) H) := hK ▸ call_len_seq
theorem ncK_list (hK : X.K = K) : CallR X (.type "list") (fun xs H Q => ∃ p ys, xs = [.ref p] ∧ (SqL K H p ys ∨ SqT K H p ys) ∧ Nw H (.lst ys) Q) := hK ▸ nc_list_of
theorem ncK_tuple (hK : X.K = K) : CallR X (.type "tuple") (fun xs H Q => ∃ p ys, xs = [.ref p] ∧ SqL K H p ys ∧ Nw H (.tup ys) Q) := hK ▸ nc_tuple_list
theorem callK_isinst (hK : X.K = K) : CallR X (.builtin "isinstance") (fun xs H Q => ∃ x c t b, xs = [x, c] ∧ ((∃ n, c = .ty n) ∨ ∃ a, c = .ref a) ∧ TyOf K H x t ∧ PySem.W.kitOne K t (clsV c) = some b ∧ Q (.bl b) H) := hK ▸ call_isinst
theorem mtK_join (hK : X.K = K) : MtR X "str.join" (rJoin K) := hK ▸ mt_join
theorem piK_list {tg l : Expr} {tl : TE} (hK : X.K = K) (hl : PE X l tl) : PI X tg l (iList K tl) := hK ▸ pi_list hl
theorem piK_tup {tg l : Expr} {tl : TE} (hK : X.K = K) (hl : PE X l tl) : PI X tg l (iTup K tl) := hK ▸ pi_tup hl
end
end L2

/-! ## A list comprehension with any target and at most one test (own text). -/
namespace L2
open PySem PySem.Spec PyProof.Rows
structure CompScopeG (osc : Scope) (N : List Str) (sc : Scope) (xs names : List Str) (caps : List Nat) : Prop where
  kind : sc.kind = .function
  nocell : ∀ y ∈ sc.names, y.2 ≠ .cell
  locs : ∀ y ∈ sc.names, y.2 = .local → sc.names.lookup y.1 = some .local
  frees : ∀ y ∈ sc.names, y.2 = .free → osc.names.lookup y.1 = some .cell
  own : ∀ x ∈ xs, sc.names.lookup x = some .local
  caps : names.map some = caps.map fun i => N[i]?
  isfree : ∀ y ∈ names, sc.names.lookup y = some .free
  nd : (xs ++ names).Nodup
def cxCompG (X : Cx) (sc : Scope) (xs names : List Str) (fp : List Addr) (s₀ : Shared) (H₀ : Hp) : Cx where
  prog := X.prog
  w := X.w
  K := X.K
  mg := X.mg
  base := X.base
  A := X.A
  N := xs ++ names
  s₀ := s₀
  H₀ := H₀
  env := compEnvC sc (closOf X.env sc.names []) s₀.heap.objs.size X.env
  outer := X.stack
  stack := X.stack
  ex := fp
  fn := fun _ => false
  calm := X.calm
  pn := []
  xe := fun _ _ => False
theorem locG {X : Cx} {sc : Scope} {xs names : List Str} {fp : List Addr} {s₀ : Shared} {H₀ : Hp} {x : Str} (h : sc.names.lookup x = some .local) : (cxCompG X sc xs names fp s₀ H₀).env.scope.names.lookup x = some .local := lookup_relabel_local h
/-- the tests of a clause -/
def PTs (X : Cx) (ifs : List Expr) (t : TT) : Prop :=
  ∀ (pins : List (Addr × Obj)) (s : Shared) (σ : St) (H : Hp) (Q : Bool → Hp → Prop), Inv X pins σ H s → t σ H Q →
    wpAny (model X.prog X.w) X.A (forIn ifs true fun c r => if r = true then do let ok ← isTrue c X.env (eval c X.env); pure (ForInStep.yield ok) else pure (ForInStep.yield r)) (TP X pins σ Q) X.xe s
def tYes : TT := fun _ H Q => Q true H
theorem pts_nil {X : Cx} : PTs X [] tYes := fun _ _ _ H _ I q => wpAny_tests_nil ⟨H, I, q⟩
theorem pts_one {X : Cx} {c : Expr} {t : TT} (h : PT X c t) : PTs X [c] t := fun pins s σ H Q I q => wpAny_tests_one (h pins s σ H Q I q)
def CompG (J : It) (n : Nat) (caps : List Nat) (g : TG) (tt : TT) (te : TE) (σ : St) (Q : VK) (H1 : Hp) : Prop := ∀ D, H1 D = none → ∃ W : Nat → Nat → St → Hp → Prop, (∃ m, W 0 m (List.replicate n none ++ capV σ caps) (upd H1 D (.lst []))) ∧ ∀ i m σ1 H2, W i m σ1 H2 →
  (J.stop i H2 ∧ Q (.ref D) H2) ∨ (J.go i H2 ∧ ∀ y H3, J.yld i H2 y H3 → g y σ1 H3 fun σ2 H4 => tt σ2 H4 fun b H5 => if b = true then te σ2 H5 fun v H6 => ∃ ys, H6 D = some (.lst ys) ∧ ys.length < sizeLine ∧ ∃ m', m' < m ∧ W (i + 1) m' σ2 (upd H6 D (.lst (ys ++ [v])))
    else ∃ m', m' < m ∧ W (i + 1) m' σ2 H5)
def tCompG (n : Nat) (caps : List Nat) (wi : TI) (g : TG) (tt : TT) (te : TE) : TE := fun σ H Q => wi σ H fun J H1 => CompG J n caps g tt te σ Q H1
section
variable {prog : Program} {w : World} {A : Around} {R : Result → Shared → Prop} {s : Shared}
theorem compLoop_goG {el tg src : Expr} {ifs : List Expr} {scope : Scope} {pos : Pos} {it acc : Value} {env : Env} (I : Nat → Shared → Prop)
    (turn : ∀ n s, I n s → Noted prog w A env R (pyNext it) (fun r s1 => match r with
      | none => R (.ok .next) s1
      | some v => Noted prog w A env R (letOwnedTupleGo tg it v) (fun _ => Noted prog w A env R (assign tg env v) fun _ => Noted prog w A env R (forIn ifs true (testB env)) fun ok s4 =>
        if ok = true then Noted prog w A env R (eval el env) (fun x => Noted prog w A env R (call (.builtin "list.append") [acc, x]) fun _ s6 => ∃ m, m < n ∧ I m s6) s4 else ∃ m, m < n ∧ I m s4) s1) s) (n : Nat) (h : I n s) :
    codeAny (model prog w) A (.compLoop (.ListComp el [⟨tg, src, ifs, 0⟩] scope pos) 0 it acc env) R s := by
  refine codeAny_loop rfl I (fun k s1 hI => (?_ : wpAny _ _ (Sem.onRaise _ _) _ _ _)) n h
  refine wpAny_noted (compTurn_list .. ▸ wpAny_bind (wpAny_standAt (sq2 (turn k s1 hI) fun r s2 hr => ?_)))
  cases r
  · exact wpAny_pure hr
  · exact sq2 hr fun _ _ a => sq2 a fun _ _ b => sq2 b fun ok _ c => by
      cases ok
      · exact wpAny_pure ⟨rfl, c⟩
      · exact sq2 (sq2 c fun _ _ d => sq2 d fun _ _ e => wpAny_pure e) fun _ _ e => wpAny_pure ⟨rfl, e⟩
end
section
variable {X : Cx}
theorem compOkG {pins : List (Addr × Obj)} {σ : St} {H : Hp} {s : Shared} {osc : Scope} {N : List Str} {sc : Scope} {xs names : List Str} {caps : List Nat} {fp : List Addr}
    (hos : X.env.scope = osc) (cs : CompScopeG osc N sc xs names caps) (I : Inv X pins σ H s) (hf : ∀ b ∈ fp, FpOk X pins H b) (hlt : ∀ b ∈ fp, b < s.heap.objs.size) : (cxCompG X sc xs names fp s H).Ok := by
  subst hos
  have cl := closOf_spec (env := X.env) sc.names [] (fun z c e => by simp at e)
  have hcl : ∀ y c, (closOf X.env sc.names []).lookup y = some c → X.env.cells.lookup y = some c := fun y c e => by
    have e1 := cl.1 y c e
    have hm : (y, NameKind.free) ∈ sc.names := by
      by_cases q : (y, NameKind.free) ∈ sc.names
      · exact q
      · have := (cl.2 y).mpr ⟨rfl, q⟩
        rw [this] at e; cases e
    obtain ⟨c', hc'⟩ := I.ok.has y (.inl (cs.frees _ hm rfl))
    rw [hc'] at e1 ⊢
    rw [e1]; rfl
  refine ⟨I.ok.mod, ?_, I.ok.glob, I.ok.blt, Nat.le_refl _, fun y z c h1 h2 => I.ok.inj y z c (hcl y c h1) (hcl z c h2), fun y hy => ?_, fun y c h => ?_, I.ok.hd, I.ok.frames, .inl rfl, fun b hb => ⟨?_, fun y c h => ?_⟩,
    I.bs, Nat.le_trans I.ok.bsz I.sz, fun b o e hb => ?_, fun b hb z => ?_, I.stack, I.stkFree⟩
  · exact cs.kind
  · have hy' : (relabel sc X.env).names.lookup y = some .cell ∨ (relabel sc X.env).names.lookup y = some .free := hy
    have key : sc.names.lookup y = some .free := by
      rw [lookup_relabel] at hy'
      cases q : sc.names.lookup y with
      | none => rw [q] at hy'; simp at hy'
      | some k =>
        rw [q] at hy'
        have hm := PySem.mem_of_lookup q
        have hnc := cs.nocell _ hm
        by_cases hk : k = .free
        · rw [hk]
        · have e : (if (k == NameKind.free && X.env.scope.kind == .function && X.env.kindOf y == some .cell) = true then NameKind.cell else k) = k := if_neg (by simp [hk])
          rw [Option.map_some, e] at hy'
          rcases hy' with z | z
          · exact absurd (Option.some.inj z) hnc
          · exact absurd (Option.some.inj z) hk
    have hm := PySem.mem_of_lookup key
    cases q : (closOf X.env sc.names []).lookup y with
    | some c => exact ⟨c, q⟩
    | none => exact absurd hm ((cl.2 y).mp q).2
  · exact absurd (show false = true from h) (by simp)
  · exact Nat.ne_of_lt (hlt b hb)
  · exact (hf b hb).2.2.2.2.1 y c (hcl y c h)
  · rcases (hf b hb).2.2.2.1 with z | z
    · exact I.ok.noex b o e z
    · exact absurd (Nat.lt_of_lt_of_le (Heap.lt_size e) (Nat.le_trans I.ok.bsz z)) (Nat.lt_irrefl _)
  · rcases List.mem_cons.mp (I.stkSub b z) with q | q
    · exact (hf b hb).2.1 q
    · exact (hf b hb).2.2.1 q

/-- the block runs: what is wanted at its end is asked of every state at which the list has grown to its end -/
theorem comp_runG {pins : List (Addr × Obj)} {σ : St} {s₂ : Shared} {osc : Scope} {N : List Str} {sc : Scope} {pos : Pos} {elt iter tg : Expr} {ifs : List Expr} {xs names : List Str} {caps : List Nat} {g : TG} {tt : TT} {te : TE} {E : Value → Shared → Prop}
    {RR : Value → Addr → Result → Shared → Prop} {H2 : Hp} {it : Addr} {fp : List Addr} {tn : Nat → Heap → Prop} {J : It} {Qd : V → Hp → Prop}
    (hc : X.calm = true) (hos : X.env.scope = osc) (hN : X.N = N) (cs : CompScopeG osc N sc xs names caps) (hg : ∀ fp s₀ H₀, PG (cxCompG X sc xs names fp s₀ H₀) tg g) (ht : ∀ fp s₀ H₀, PTs (cxCompG X sc xs names fp s₀ H₀) ifs tt) (he : ∀ fp s₀ H₀, PE (cxCompG X sc xs names fp s₀ H₀) elt te)
    (I2 : Inv X pins σ H2 s₂) (T : Turn X.prog X.w X.K tg J fp it tn) (st2 : tn 0 s₂.heap) (f2 : ∀ b ∈ fp, FpOk X pins H2 b)
    (hW : CompG J xs.length caps g tt te σ Qd H2)
    (cont : ∀ D C H5 s6 m, Inv X pins σ H5 s6 → s6.heap.Ns C m → FpOk X pins H5 C → Qd (.ref D) H5 → RR (.ref D) C (.ok .next) s6) :
    wpAny (model X.prog X.w) X.A (newList []) (fun acc s₃ => wpAny (model X.prog X.w) X.A (newFunctionEnv sc X.env.globals (closOf X.env sc.names []) [] X.env.qual none .none (some X.env)) (fun cenv s₄ =>
      codeAny (model X.prog X.w) X.A (.compStart (.ListComp elt [⟨tg, iter, ifs, 0⟩] sc pos) 0 (.ref it) acc { cenv with scope := relabel sc X.env }) (RR acc cenv.locals) s₄) E s₃) E s₂ := by
  subst hN
  refine wpAny_newObj_type (wpAny_newFunctionEnv cs.nocell (by intro y hy; simp at hy) (fun h₁ hns₁ hsb₁ => ?_) cs.kind)
  dsimp only at hns₁ hsb₁ ⊢
  have fp2 : ∀ b ∈ fp, b < s₂.heap.objs.size := fun b hb => by
    obtain ⟨o, e, _⟩ := T.obj _ _ st2 b hb
    exact Heap.lt_size e
  have I3 : Inv X pins σ (upd H2 s₂.heap.objs.size (.lst [])) { s₂ with heap := s₂.heap.push { cls := .type "list", dict := none, data := .seq ([] : List Value).toArray } } := I2.lnew (t' := s₂.toks) (its := []) .nil (Nat.zero_le _)
  obtain ⟨W, ⟨m0, w0⟩, turn⟩ := hW s₂.heap.objs.size I2.fresh
  have f3 : ∀ b ∈ fp, FpOk X pins (upd H2 s₂.heap.objs.size (.lst [])) b := fun b hb => ⟨by rw [upd_ne (Nat.ne_of_lt (fp2 b hb))]; exact (f2 b hb).1, (f2 b hb).2⟩
  have hD : ∀ b o, s₂.heap.get? b = some o → (s₂.heap.push { cls := .type "list", dict := none, data := .seq ([] : List Value).toArray }).get? b = some o := fun b o e => Heap.get?_push_of_some _ e
  generalize hs3 : ({ s₂ with heap := s₂.heap.push { cls := .type "list", dict := none, data := .seq ([] : List Value).toArray } } : Shared) = s₃ at *
  have hs3h : s₃.heap = s₂.heap.push { cls := .type "list", dict := none, data := .seq ([] : List Value).toArray } := by rw [← hs3]
  rw [← hs3h] at hns₁ hsb₁ hD ⊢
  have fp3 : ∀ b ∈ fp, b < s₃.heap.objs.size := fun b hb => by
    rw [hs3h, Heap.size_push]; exact Nat.lt_succ_of_lt (fp2 b hb)
  have k3 : ∀ b o, s₃.heap.get? b = some o → h₁.get? b = some o := fun b o e => hsb₁.extBut b o (Nat.ne_of_lt (Heap.lt_size e)) (Heap.get?_push_of_some _ e)
  have ok := compOkG hos cs I3 f3 fp3
  have cl := closOf_spec (env := X.env) sc.names [] (fun z c e => by simp at e)
  have hcl : ∀ y c, (closOf X.env sc.names []).lookup y = some c → X.env.cells.lookup y = some c := fun y c e => by
    have e1 := cl.1 y c e
    have hm : (y, NameKind.free) ∈ sc.names := by
      by_cases q : (y, NameKind.free) ∈ sc.names
      · exact q
      · have := (cl.2 y).mpr ⟨rfl, q⟩
        rw [this] at e; cases e
    obtain ⟨c', hc'⟩ := I3.ok.has y (.inl (by show X.env.scope.names.lookup y = _; rw [hos]; exact cs.frees _ hm rfl))
    rw [hc'] at e1 ⊢
    rw [e1]; rfl
  have cell4 : ∀ y c, (closOf X.env sc.names []).lookup y = some c → ∀ v, s₃.heap.IsCell c v → h₁.IsCell c v := fun y c e v ⟨o, ho, hd⟩ => ⟨o, k3 _ _ ho, hd⟩
  have lenC : caps.length = names.length := by have := congrArg List.length cs.caps; simpa using this.symm
  have I4 : ∀ tk, Inv (cxCompG X sc xs names fp s₃ (upd H2 s₂.heap.objs.size (.lst []))) [] (List.replicate xs.length none ++ capV σ caps) (upd H2 s₂.heap.objs.size (.lst [])) { s₃ with heap := h₁, toks := tk } := fun tk => by
    refine ⟨ok, rfl, I3.bare, Un.kept k3, ⟨_, hns₁, fun i y v e1 e2 e3 => ?_⟩, fun y c e => ?_, I3.fresh, fun y c e => I3.freeC y c (hcl y c e), fun p hp => absurd (show p ∈ ([] : List (Addr × Obj)) from hp) (by simp), I3.hok.kept k3, ?_⟩
    · have hle : xs.length ≤ i := by
        by_cases q : i < xs.length
        · rw [List.getElem?_append_left (by rw [List.length_replicate]; exact q), List.getElem?_replicate, if_pos q] at e2
          cases e2
        · omega
      obtain ⟨j, rfl⟩ : ∃ j, i = xs.length + j := ⟨i - xs.length, by omega⟩
      · have e1' : names[j]? = some y := by
          have e1z : (xs ++ names)[xs.length + j]? = some y := e1
          rw [List.getElem?_append_right (Nat.le_add_right _ _), Nat.add_sub_cancel_left] at e1z
          exact e1z
        have e2' : (capV σ caps)[j]? = some (some v) := by
          rw [List.getElem?_append_right (by rw [List.length_replicate]; exact Nat.le_add_right _ _), List.length_replicate, Nat.add_sub_cancel_left] at e2
          exact e2
        unfold capV at e2'
        rw [List.getElem?_map] at e2'
        cases qc : caps[j]? with
        | none => rw [qc] at e2'; cases e2'
        | some i0 =>
          rw [qc] at e2'
          have e2'' : (σ[i0]?).join = some v := by simpa using e2'
          have e3' : σ[i0]? = some (some v) := by
            cases qs : σ[i0]? with
            | none => rw [qs] at e2''; cases e2''
            | some o => rw [qs] at e2''; rw [show o = some v from by simpa using e2'']
          have eN : X.N[i0]? = some y := by
            have q1 : (names.map some)[j]? = (caps.map fun i => X.N[i]?)[j]? := by rw [cs.caps]
            rw [List.getElem?_map, List.getElem?_map, e1', qc] at q1
            have q2 : some y = X.N[i0]? := by simpa using q1
            exact q2.symm
          have hfree := cs.isfree y (List.mem_of_getElem? e1')
          have hm := PySem.mem_of_lookup hfree
          have hcell : X.env.scope.names.lookup y = some .cell := by rw [hos]; exact cs.frees _ hm rfl
          obtain ⟨m, hn, hl⟩ := I3.loc
          obtain ⟨u, ru, lk⟩ := hl i0 y v eN e3' (.inr (.inl hcell))
          refine ⟨u, ru, ?_⟩
          rcases lk with ⟨kk, _⟩ | ⟨kk, c, ec, hcl'⟩
          · have kk' : X.env.scope.names.lookup y = some .local := kk
            rw [hcell] at kk'; cases kk'
          · refine .inr ⟨?_, c, ?_, ?_⟩
            · left
              show (relabel sc X.env).names.lookup y = some .cell
              rw [lookup_relabel, hfree]
              have ef : (X.env.scope.kind == ScopeKind.function) = true := by rw [I3.ok.kind]; rfl
              have ek : (X.env.kindOf y == some NameKind.cell) = true := by
                show (X.env.scope.names.lookup y == some NameKind.cell) = true
                rw [hcell]; rfl
              simp [ef, ek]
            · show (closOf X.env sc.names []).lookup y = some c
              cases q : (closOf X.env sc.names []).lookup y with
              | none => exact absurd hm ((cl.2 y).mp q).2
              | some c' =>
                have := hcl y c' q
                rw [ec] at this
                exact this.symm
            · obtain ⟨o, ho, hd⟩ := hcl'
              exact ⟨o, k3 _ _ ho, hd⟩
    · obtain ⟨v, hv⟩ := I3.cell y c (hcl y c e)
      exact ⟨v, cell4 y c e v hv⟩
    · show (List.replicate xs.length none ++ capV σ caps).length = (xs ++ names).length
      unfold capV
      simp [lenC]
  have st4 : tn 0 h₁ := T.keep _ _ _ st2 fun b hb o e => k3 b o (by rw [hs3h]; exact Heap.get?_push_of_some _ e)
  have fpok : ∀ {H' : Hp}, (∀ b ∈ fp, H' b = none) → ∀ b ∈ fp, FpOk (cxCompG X sc xs names fp s₃ (upd H2 s₂.heap.objs.size (.lst []))) [] H' b := fun hn b hb =>
    ⟨hn b hb, (ok.exf b hb).1, ok.exfs b hb, .inl hb, (ok.exf b hb).2, fun p hp => absurd (show p ∈ ([] : List (Addr × Obj)) from hp) (by simp)⟩
  have loop : ∀ s₄ : Shared, s₄ = { s₃ with heap := h₁, toks := s₃.toks + ([] : List (Str × Value)).length } →
      codeAny (model X.prog X.w) X.A (.compLoop (.ListComp elt [⟨tg, iter, ifs, 0⟩] sc pos) 0 (.ref it) (.ref s₂.heap.objs.size) (compEnvC sc (closOf X.env sc.names []) s₃.heap.objs.size X.env))
        (RR (.ref s₂.heap.objs.size) s₃.heap.objs.size) s₄ := by
    rintro s₄ rfl
    refine compLoop_goG (fun n s' => ∃ i σ' H', Inv (cxCompG X sc xs names fp s₃ (upd H2 s₂.heap.objs.size (.lst []))) [] σ' H' s' ∧ tn i s'.heap ∧ (∀ b ∈ fp, H' b = none) ∧ W i n σ' H') ?_ m0
      ⟨0, _, _, I4 _, st4, fun b hb => (f3 b hb).1, w0⟩
    rintro n s5 ⟨i, σ5, H5, I5, st5, fr5, w5⟩
    rcases turn i n σ5 H5 w5 with ⟨stop, q⟩ | ⟨go, step⟩
    · refine thn (T.done (cxCompG X sc xs names fp s₃ (upd H2 s₂.heap.objs.size (.lst []))) rfl rfl rfl hc i [] s5 _ H5 _ I5 (fpok fr5) st5 stop) fun r s6 ⟨hr, I6⟩ => ?_
      subst hr
      obtain ⟨m, hn, _⟩ := I6.loc
      have J6 : Inv X pins σ H5 s6 := I3.call' (ch := fp) I6.os I6.base I6.hok I6.bare fun b hb => ⟨(f3 b hb).2.2.2.1, (f3 b hb).2.1, (f3 b hb).2.2.2.2.1, (f3 b hb).2.2.2.2.2⟩
      exact cont _ _ H5 s6 m J6 hn (I3.fpOk (H' := H5) (Nat.le_refl _) I6.free) q
    · refine thn (T.item (cxCompG X sc xs names fp s₃ (upd H2 s₂.heap.objs.size (.lst []))) rfl rfl rfl hc i [] s5 _ H5 _ I5 (fpok fr5) st5 go) fun r s6 ⟨u, hr, h6⟩ => ?_
      subst hr
      refine thn h6 fun _ s6' ⟨y, H6, I6, r6, y6, st6, fr6⟩ => ?_
      have I6' := I6.pinned (fpok fr6) (T.obj _ _ st6)
      have back : ∀ {σ' : St} {H' : Hp} {s' : Shared}, Inv (cxCompG X sc xs names fp s₃ (upd H2 s₂.heap.objs.size (.lst []))) ([] ++ pinsAt fp s6'.heap) σ' H' s' → tn (i + 1) s'.heap ∧ ∀ b ∈ fp, H' b = none := fun I9 =>
        ⟨T.keep _ _ _ st6 fun b hb o e => (I9.pin (b, o) (List.mem_append_right _ (List.mem_append_right _ (mem_pinsAt hb e)))).1, fun b hb => by
          obtain ⟨o, e, d⟩ := T.obj _ _ st6 b hb
          exact (I9.pin (b, o) (List.mem_append_right _ (List.mem_append_right _ (mem_pinsAt hb e)))).2.1⟩
      refine wpAny_mono (hg fp s₃ _ _ s6' _ H6 y u _ I6' r6 (step y H6 y6)) (fun _ s7 ⟨σ7, H7, I7, q7⟩ => ?_) fun _ _ z => False.elim z
      refine wpAny_mono (ht fp s₃ _ _ s7 _ H7 _ I7 q7) (fun b s8 ⟨H8, I8, q8⟩ => ?_) fun _ _ z => False.elim z
      cases b with
      | false =>
        rw [if_neg Bool.false_ne_true] at q8 ⊢
        obtain ⟨m', hm', w8⟩ := q8
        exact ⟨m', hm', i + 1, σ7, H8, I8.unpinned, (back I8).1, (back I8).2, w8⟩
      | true =>
        rw [if_pos rfl] at q8 ⊢
        refine wpAny_mono (he fp s₃ _ _ s8 _ H8 _ I8 q8) (fun v s9 ⟨vv, H9, I9, r9, ys, hD9, hz9, m', hm', w9⟩ => ?_) fun _ _ z => False.elim z
        refine wpAny_mono (mt_append (X := cxCompG X sc xs names fp s₃ (upd H2 s₂.heap.objs.size (.lst []))) _ s9 _ H9 (.ref s₂.heap.objs.size) [vv] (.ref s₂.heap.objs.size) [v] (fun _ H' => H' = upd H9 s₂.heap.objs.size (.lst (ys ++ [vv]))) I9 rfl (.cons r9 .nil)
          ⟨_, ys, vv, rfl, rfl, hD9, hz9, rfl⟩) (fun _ s10 ⟨_, H10, I10, _, e10⟩ => ?_) fun _ _ z => False.elim z
        subst e10
        exact ⟨m', hm', i + 1, σ7, _, I10.unpinned, (back I10).1, (back I10).2, w9⟩
  exact codeAny_compStart_list (loop _ (by rw [← hs3])) (T.self _ 0 _ _ _ st4 (loop _ (by rw [← hs3])))

theorem comp_closG {pins : List (Addr × Obj)} {σ : St} {H : Hp} {s : Shared} {osc : Scope} {N : List Str} {sc : Scope} {xs names : List Str} {caps : List Nat} (hos : X.env.scope = osc) (cs : CompScopeG osc N sc xs names caps) (I : Inv X pins σ H s) :
    closureFor sc X.env = pure (closOf X.env sc.names []) :=
  closureFor_of fun y hy hk => I.ok.has y.1 (.inl (by show X.env.scope.names.lookup y.1 = _; rw [hos]; exact cs.frees y hy hk))

/-- [elt for x in iter] -/
theorem pe_lcompG {osc : Scope} {N : List Str} {sc : Scope} {pos : Pos} {elt iter tg : Expr} {ifs : List Expr} {g : TG} {tt : TT} {xs names : List Str} {caps : List Nat} {wi : TI} {te : TE}
    (hc : X.calm = true) (hos : X.env.scope = osc) (hN : X.N = N) (cs : CompScopeG osc N sc xs names caps) (hi : PI X tg iter wi) (hg : ∀ fp s₀ H₀, PG (cxCompG X sc xs names fp s₀ H₀) tg g) (ht : ∀ fp s₀ H₀, PTs (cxCompG X sc xs names fp s₀ H₀) ifs tt) (he : ∀ fp s₀ H₀, PE (cxCompG X sc xs names fp s₀ H₀) elt te)
    (hs : ∀ v, foldedSetIterable iter X.env v = pure v := by intro _; rfl) : PE X (.ListComp elt [⟨tg, iter, ifs, 0⟩] sc pos) (tCompG xs.length caps wi g tt te) := by
  intro pins s σ H Q I h
  rw [eval_ListComp]
  refine wpAny_comprehension_free (use := none) rfl hs (comp_closG hos cs I) cs.kind cs.locs (thn (hi pins s σ H _ I h) fun xv s1 h1 => thn h1 fun itv s2 h2 => ?_)
  obtain ⟨it, fp, tn, J, H2, rfl, I2, T, st2, f2, hW⟩ := h2
  refine comp_runG (Qd := Q) (RR := fun acc C => compPost (model X.prog X.w) X.A X.xe none (EP X pins σ Q) acc C) hc hos hN cs hg ht he I2 T st2 f2 hW fun D C H5 s6 m I6 hn fC q => ?_
  refine ⟨m, hn, fun h' sb => ?_⟩
  obtain ⟨g0, g1, g2, g3, g4, g5⟩ := fC
  exact ⟨.ref D, H5, I6.turned (t' := s6.toks) (it := C) (fun b o hb e => sb.extBut b o hb e) g0 g1 g3 g4 g5, rfl, q⟩

/-- y = [elt for x in iter], y a plain local on the comprehension's own line -/
theorem ps_set_lcompG {osc : Scope} {N : List Str} {sc : Scope} {y : Str} {py pos spos : Pos} {elt iter tg : Expr} {ifs : List Expr} {g : TG} {tt : TT} {xs names : List Str} {caps : List Nat} {wi : TI} {te : TE} {i : Nat}
    (hc : X.calm = true) (hos : X.env.scope = osc) (hN : X.N = N) (nd : X.N.Nodup) (cs : CompScopeG osc N sc xs names caps) (hi' : X.N[i]? = some y) (hy : X.env.scope.names.lookup y = some .local) (hi : PI X tg iter wi)
    (hg : ∀ fp s₀ H₀, PG (cxCompG X sc xs names fp s₀ H₀) tg g) (ht : ∀ fp s₀ H₀, PTs (cxCompG X sc xs names fp s₀ H₀) ifs tt) (he : ∀ fp s₀ H₀, PE (cxCompG X sc xs names fp s₀ H₀) elt te) (hsw : swapsWith (.ListComp elt [⟨tg, iter, ifs, 0⟩] sc pos) (some (.Name y py)) spos.line X.env = pure true := by rfl)
    (hs : ∀ v, foldedSetIterable iter X.env v = pure v := by intro _; rfl) : PS X (.Assign [.Name y py] (.ListComp elt [⟨tg, iter, ifs, 0⟩] sc pos) spos) (tAsg (tCompG xs.length caps wi g tt te) (gName i)) := by
  intro pins s σ H D I h
  rw [exec_Assign_Name_used _ _ _ _ hsw]
  refine wpAny_bind (wpAny_standAt (wpAny_bind ?_))
  show wpAny _ X.A (do let _ ← comprehension (.ListComp elt [⟨tg, iter, ifs, 0⟩] sc pos) sc X.env _ (newList []) false (eval iter X.env) (some (assign (.Name y py) X.env))) _ _ s
  refine wpAny_bind (wpAny_mono (wpAny_comprehension_free (use := some (assign (.Name y py) X.env)) (Q := fun _ s' => SP X pins D .next s') rfl hs (comp_closG hos cs I) cs.kind cs.locs
    (thn (hi pins s σ H _ I h) fun xv s1 h1 => thn h1 fun itv s2 h2 => ?_)) (fun _ s' hq => wpAny_pure (wpAny_pure hq)) fun _ _ e => e)
  obtain ⟨it, fp, tn, J, H2, rfl, I2, T, st2, f2, hW⟩ := h2
  refine comp_runG (Qd := fun x H1 => gName i x σ H1 D.nx) (RR := fun acc C => compPost (model X.prog X.w) X.A X.xe (some (assign (.Name y py) X.env)) (fun _ s' => SP X pins D .next s') acc C) hc hos hN cs hg ht he I2 T st2 f2 hW fun D' C H5 s6 m I6 hn fC q => ?_
  show wpAny _ X.A (assign (.Name y py) X.env (.ref D')) _ _ _
  obtain ⟨oC, es, ep, eC, dC, rC⟩ := id hn
  obtain ⟨g0, g1, g2, g3, g4, g5⟩ := id fC
  have I6p : Inv X (pins ++ [(C, oC)]) σ H5 s6 := I6.pins_of fun p hp => (List.mem_append.mp hp).elim (fun z => I6.pin p (List.mem_append_right _ z)) fun z => by
    have e : p = (C, oC) := by simpa using z
    subst e
    exact ⟨eC, g0, g1, g2, fun v z => by rw [dC] at z; cases z⟩
  refine wpAny_assign_Name (store_ok I6p nd hi' (.inl hy) (v := .ref D') rfl (fun s7 I7 => ?_) (.inr hy))
  have e7 := (I7.pin (C, oC) (List.mem_append_right _ (List.mem_append_right _ (by simp)))).1
  refine ⟨m, ⟨oC, es, ep, e7, dC, rC⟩, fun h' sb => ?_⟩
  exact ⟨_, H5, (I7.unpinned).turned (t' := s7.toks) (it := C) (fun b o hb e => sb.extBut b o hb e) g0 g1 g3 g4 g5, q⟩
end



/-! ### the form one uses: a filter, then a map -/
theorem comp_ifG {J : It} {H : Hp} {xs : List V} {n : Nat} {caps : List Nat} {g : TG} {tt : TT} {te : TE} {σ : St} {Q : VK} (hJ : SeqJ J H xs) (tv : V → List (Option V)) (hn : ∀ y, (tv y).length = n) (p : V → Bool) (Pr : V → V → Prop) (hsz : xs.length ≤ sizeLine)
    (hg : ∀ (i : Nat) (y : V) (ts : List (Option V)) (H' : Hp) (K' : St → Hp → Prop), xs[i]? = some y → ts.length = n → Same H H' → K' (tv y ++ capV σ caps) H' → g y (ts ++ capV σ caps) H' K')
    (ht : ∀ (i : Nat) (y : V) (H' : Hp) (Q' : Bool → Hp → Prop), xs[i]? = some y → Same H H' → (∀ H4, Same H' H4 → Q' (p y) H4) → tt (tv y ++ capV σ caps) H' Q')
    (he : ∀ (i : Nat) (y : V) (H' : Hp) (Q' : VK), xs[i]? = some y → p y = true → Same H H' → (∀ v H4, Same H' H4 → Pr y v → Q' v H4) → te (tv y ++ capV σ caps) H' Q')
    (hd : ∀ (D : Addr) (H' : Hp) (ys : List V), Same H H' → H D = none → H' D = some (.lst ys) → Paired Pr (xs.filter p) ys → Q (.ref D) H') :
    CompG J n caps g tt te σ Q H := by
  intro D hD
  refine ⟨fun i m σ1 H2 => m = xs.length - i ∧ i ≤ xs.length ∧ (∃ ts : List (Option V), ts.length = n ∧ σ1 = ts ++ capV σ caps) ∧ Same H H2 ∧ ∃ ys, H2 D = some (.lst ys) ∧ Paired Pr ((xs.take i).filter p) ys,
    ⟨xs.length, by simp, Nat.zero_le _, ⟨_, List.length_replicate, rfl⟩, Same.new1 hD, [], upd_same, by simpa using Paired.nil⟩, ?_⟩
  rintro i m σ1 H2 ⟨rfl, hi, ⟨ts, htl, rfl⟩, s2, ys, hy, hp⟩
  obtain ⟨j1, j2, j3⟩ := hJ i H2 s2
  by_cases hlt : i < xs.length
  · refine .inr ⟨j1 hlt, fun y H3 q => ?_⟩
    obtain ⟨e3, ey⟩ := j2 y H3 q
    subst e3
    have hyi := ey hlt
    have htake : xs.take (i + 1) = xs.take i ++ [y] := by
      rw [List.take_add_one, hyi]; rfl
    have hlen : ys.length ≤ i := by
      rw [← hp.length]
      exact Nat.le_trans (List.length_filter_le _ _) (by rw [List.length_take]; omega)
    refine hg i y ts _ _ hyi htl s2 ?_
    refine ht i y _ _ hyi s2 fun H5 s5 => ?_
    cases hpy : p y with
    | false =>
      rw [if_neg Bool.false_ne_true]
      refine ⟨xs.length - (i + 1), by omega, rfl, hlt, ⟨tv y, hn y, rfl⟩, s2.trans s5, ys, s5 _ _ hy, ?_⟩
      rw [htake, List.filter_append, show [y].filter p = [] by simp [hpy], List.append_nil]
      exact hp
    | true =>
      rw [if_pos rfl]
      refine he i y _ _ hyi hpy (s2.trans s5) fun v H6 s6 pr => ⟨ys, s6 _ _ (s5 _ _ hy), by omega, xs.length - (i + 1), by omega, rfl, hlt, ⟨tv y, hn y, rfl⟩, ((s2.trans s5).trans s6).put hD, ys ++ [v], upd_same, ?_⟩
      rw [htake, List.filter_append, show [y].filter p = [y] by simp [hpy]]
      exact hp.snoc pr
  · have e : i = xs.length := by omega
    subst e
    refine .inl ⟨j3 rfl, hd D H2 ys s2 hD hy ?_⟩
    rw [List.take_length] at hp
    exact hp
/-- one name as the target -/
theorem comp_if {J : It} {H : Hp} {xs : List V} {caps : List Nat} {tt : TT} {te : TE} {σ : St} {Q : VK} (hJ : SeqJ J H xs) (p : V → Bool) (Pr : V → V → Prop) (hsz : xs.length ≤ sizeLine)
    (ht : ∀ (i : Nat) (y : V) (H' : Hp) (Q' : Bool → Hp → Prop), xs[i]? = some y → Same H H' → (∀ H4, Same H' H4 → Q' (p y) H4) → tt (some y :: capV σ caps) H' Q')
    (he : ∀ (i : Nat) (y : V) (H' : Hp) (Q' : VK), xs[i]? = some y → p y = true → Same H H' → (∀ v H4, Same H' H4 → Pr y v → Q' v H4) → te (some y :: capV σ caps) H' Q')
    (hd : ∀ (D : Addr) (H' : Hp) (ys : List V), Same H H' → H D = none → H' D = some (.lst ys) → Paired Pr (xs.filter p) ys → Q (.ref D) H') :
    CompG J 1 caps (gName 0) tt te σ Q H :=
  comp_ifG hJ (fun y => [some y]) (fun _ => rfl) p Pr hsz (fun i y ts H' K' _ htl _ q => by
    match ts, htl with
    | [_], _ => exact q) ht he hd
/-- no test -/
theorem comp_allG {J : It} {H : Hp} {xs : List V} {n : Nat} {caps : List Nat} {g : TG} {te : TE} {σ : St} {Q : VK} (hJ : SeqJ J H xs) (tv : V → List (Option V)) (hn : ∀ y, (tv y).length = n) (Pr : V → V → Prop) (hsz : xs.length ≤ sizeLine)
    (hg : ∀ (i : Nat) (y : V) (ts : List (Option V)) (H' : Hp) (K' : St → Hp → Prop), xs[i]? = some y → ts.length = n → Same H H' → K' (tv y ++ capV σ caps) H' → g y (ts ++ capV σ caps) H' K')
    (he : ∀ (i : Nat) (y : V) (H' : Hp) (Q' : VK), xs[i]? = some y → Same H H' → (∀ v H4, Same H' H4 → Pr y v → Q' v H4) → te (tv y ++ capV σ caps) H' Q')
    (hd : ∀ (D : Addr) (H' : Hp) (ys : List V), Same H H' → H D = none → H' D = some (.lst ys) → Paired Pr xs ys → Q (.ref D) H') :
    CompG J n caps g tYes te σ Q H :=
  comp_ifG hJ tv hn (fun _ => true) Pr hsz hg (fun i y H' Q' _ s' k => k H' (Same.refl _)) (fun i y H' Q' hy _ s' k => he i y H' Q' hy s' k) (fun D H' ys s' hD e q => hd D H' ys s' hD e (by rw [List.filter_eq_self.mpr (fun _ _ => rfl)] at q; exact q))
end L2

/-! ## zip of two lists, split by a text, insert (own text). -/
namespace L2
open PySem PySem.Spec PyProof.Rows
section
variable {X : Cx} {pins : List (Addr × Obj)} {σ : St} {H : Hp} {s : Shared} {h' : Heap}
/-- some records of ours have turned, and a new thing stands -/
theorem Inv.fed {ch : List Addr} {a : Addr} {o : HO} {t' : Nat} (I : Inv X pins σ H s) (hf : ∀ b ∈ ch, FpOk X pins H b) (k : ∀ b u, b ∉ ch → s.heap.get? b = some u → h'.get? b = some u)
    (hp : s.heap.objs.size ≤ a) (new : ObjOk X.prog X.w (upd H a o) h' a o) : Inv X pins σ (upd H a o) { s with heap := h', toks := t' } := by
  have hn := I.hok.fresh hp
  have nit : ∀ b u, H b = some u → b ∉ ch := fun b u e z => by rw [(hf b z).1] at e; cases e
  have ne : ∀ b u, s.heap.get? b = some u → b ≠ a := fun b u e z => absurd (Nat.lt_of_lt_of_le (Heap.lt_size (z ▸ e)) hp) (Nat.lt_irrefl _)
  refine I.step (g' := s.gens) (d' := s.drawn) (ch := ch) (fun b hb => ?_) (fun b o _ _ hc e _ => k b o hc e) (fun b o _ _ hc e _ => ⟨o.slots, k b o hc e⟩) (fun b o hc e n => ?_) (fun b o hc e => ⟨o, k b o hc e⟩) (fun b xs e => ?_) (fun b o u e => ?_) (fun b ps e => ⟨#[], ?_⟩) (fun m hm => ?_) (fun b u e => ?_) I.bare
  · obtain ⟨_, f1, _, f3, f4, f5⟩ := hf b hb
    exact ⟨f3, f1, f4, f5⟩
  · rw [upd_ne (ne b o e)]; exact n
  · rw [upd_ne (ne_of_none e hn)]; exact e
  · rw [upd_ne (ne_of_none e hn)]; exact e
  · rw [upd_ne (ne_of_none e hn), e]; simp
  · obtain ⟨o, es, ep, ho, r⟩ := hm
    exact ⟨o, es, ep, k _ o (fun z => (hf _ z).2.1 rfl) ho, r⟩
  · by_cases hb : b = a
    · subst hb; rw [upd_same] at e; cases e; exact new
    · rw [upd_ne hb] at e
      refine (I.hok b u e).stay (fun c v hc q => k c v ?_ q) (fun c q => by rw [upd_ne (ne_of_none q hn)]; exact q) fun c xs q => by rw [upd_ne (ne_of_none q hn)]; exact q
      rcases hc with z | z
      · rw [z]; exact nit b u e
      · exact nit c _ z
/-- .. and nothing new -/
theorem Inv.fed0 {ch : List Addr} {t' : Nat} (I : Inv X pins σ H s) (hf : ∀ b ∈ ch, FpOk X pins H b) (k : ∀ b u, b ∉ ch → s.heap.get? b = some u → h'.get? b = some u) : Inv X pins σ H { s with heap := h', toks := t' } := by
  have nit : ∀ b u, H b = some u → b ∉ ch := fun b u e z => by rw [(hf b z).1] at e; cases e
  refine I.step (g' := s.gens) (d' := s.drawn) (ch := ch) (fun b hb => ?_) (fun b o _ _ hc e _ => k b o hc e) (fun b o _ _ hc e _ => ⟨o.slots, k b o hc e⟩) (fun b o hc e n => n) (fun b o hc e => ⟨o, k b o hc e⟩) (fun b xs e => e) (fun b o u e => e) (fun b ps e => ⟨#[], by rw [e]; simp⟩) (fun m hm => ?_) (fun b u e => ?_) I.bare
  · obtain ⟨_, f1, _, f3, f4, f5⟩ := hf b hb
    exact ⟨f3, f1, f4, f5⟩
  · obtain ⟨o, es, ep, ho, r⟩ := hm
    exact ⟨o, es, ep, k _ o (fun z => (hf _ z).2.1 rfl) ho, r⟩
  · refine (I.hok b u e).stay (fun c v hc q => k c v ?_ q) (fun c q => q) fun c xs q => q
    rcases hc with z | z
    · rw [z]; exact nit b u e
    · exact nit c _ z
end
/-- two lists side by side: a new pair each turn -/
def Itz (K : PySem.W.Frag) (a b : Addr) : It :=
  ⟨fun i H => ∃ xs ys x y, SqL K H a xs ∧ SqL K H b ys ∧ xs[i]? = some x ∧ ys[i]? = some y,
   fun i H v H' => ∃ t x y, H t = none ∧ v = .ref t ∧ H' = upd H t (.tup [x, y]) ∧ (∀ xs, SqL K H a xs → xs[i]? = some x) ∧ ∀ ys, SqL K H b ys → ys[i]? = some y,
   fun i H => ∃ xs ys, SqL K H a xs ∧ SqL K H b ys ∧ (xs.length ≤ i ∨ ys.length ≤ i)⟩
def ZipAt (z TI TO i1 i2 l1 l2 : Addr) (i : Nat) (h : Heap) : Prop :=
  IsZip h z TI TO .none ∧ IsPair h TI (.ref i1) (.ref i2) ∧ (∃ a b, IsPair h TO a b) ∧ h.IsListIter i1 l1 i ∧ h.IsListIter i2 l2 i
theorem turn_zip {P : Program} {w : World} {K : PySem.W.Frag} {es : List Expr} {k1 : Nat} {pos : Pos} {z TI TO i1 i2 l1 l2 : Addr} (D : ZipApart z TI TO i1 i2 l1 l2) :
    Turn P w K (.Tuple es k1 pos) (Itz K l1 l2) [z, TI, TO, i1, i2] z (ZipAt z TI TO i1 i2 l1 l2) where
  mem := by simp
  obj := fun i h st b hb => by
    obtain ⟨a1, a2, ⟨x, y, a3⟩, ⟨o4, e4, _, d4⟩, o5, e5, _, d5⟩ := st
    simp only [List.mem_cons, List.not_mem_nil, or_false] at hb
    rcases hb with rfl | rfl | rfl | rfl | rfl
    · exact ⟨_, a1, fun v q => by cases q⟩
    · exact ⟨_, a2, fun v q => by cases q⟩
    · exact ⟨_, a3, fun v q => by cases q⟩
    · exact ⟨_, e4, fun v q => by rw [d4] at q; cases q⟩
    · exact ⟨_, e5, fun v q => by rw [d5] at q; cases q⟩
  keep := fun i h h' st k => by
    obtain ⟨a1, a2, ⟨x, y, a3⟩, a4, a5⟩ := st
    exact ⟨k z (by simp) _ a1, k TI (by simp) _ a2, ⟨x, y, k TO (by simp) _ a3⟩, a4.at fun o e => k i1 (by simp) o e, a5.at fun o e => k i2 (by simp) o e⟩
  item := by
    intro X hP hw hK hc i pins s σ H E I hf st hg
    subst hP hw hK
    obtain ⟨xs, ys, x, y, hq1, hq2, hx, hy⟩ := hg
    obtain ⟨its1, rv1, p1, _⟩ := I.list hq1
    obtain ⟨its2, rv2, p2, _⟩ := I.list hq2
    obtain ⟨u1, hu1, ru1⟩ := rv1.get hx
    obtain ⟨u2, hu2, ru2⟩ := rv2.get hy
    obtain ⟨a1, a2, ⟨a, b, a3⟩, a4, a5⟩ := st
    refine wpAny_pyNext_zip_item D a1 a2 a3 a4 a5 p1.isList p2.isList (x := u1) (y := u2) (by simpa using hu1) (by simpa using hu2) fun h' b1 b2 b3 b4 b5 b6 bk => ?_
    refine ⟨_, rfl, wpAny_letOwnedTupleGo_zip b1 fun h2 c1 c2 => ?_⟩
    have lt : ∀ {c o}, s.heap.get? c = some o → s.heap.objs.size ≠ c := fun e => Nat.ne_of_gt (Heap.lt_size e)
    have keepA : ∀ c o, c ∉ [z, TI, TO, i1, i2] → s.heap.get? c = some o → h2.get? c = some o := fun c o hc e => by
      simp only [List.mem_cons, List.not_mem_nil, or_false, not_or] at hc
      exact c2.extBut _ _ hc.1 (bk c o hc.1 hc.2.2.1 hc.2.2.2.1 hc.2.2.2.2 e)
    have T2 : IsPair h2 s.heap.objs.size u1 u2 := c2.extBut _ _ (lt a1) b5
    refine ⟨.ref s.heap.objs.size, upd H s.heap.objs.size (.tup [x, y]), I.fed (t' := s.toks) hf keepA (Nat.le_refl _) ?_, rfl, ⟨_, x, y, I.fresh, rfl, rfl, fun zs hz => by rw [I.list_inj hz hq1]; exact hx, fun zs hz => by rw [I.list_inj hz hq2]; exact hy⟩, ?_, fun b hb => ?_⟩
    · exact ⟨by show 2 ≤ sizeLine; decide, [u1, u2], .cons ru1 (.cons ru2 .nil), _, T2, rfl, 0, rfl⟩
    · exact ⟨c1, c2.extBut _ _ D.TIz (bk TI _ D.TIz D.TITO D.TIi1 D.TIi2 a2), ⟨_, _, c2.extBut _ _ D.TOz b2⟩, b3.extBut c2.extBut D.i1z, b4.extBut c2.extBut D.i2z⟩
    · have hb' : ∃ o, s.heap.get? b = some o := by
        obtain ⟨o4, e4, _⟩ := a4
        obtain ⟨o5, e5, _⟩ := a5
        simp only [List.mem_cons, List.not_mem_nil, or_false] at hb
        rcases hb with rfl | rfl | rfl | rfl | rfl
        · exact ⟨_, a1⟩
        · exact ⟨_, a2⟩
        · exact ⟨_, a3⟩
        · exact ⟨_, e4⟩
        · exact ⟨_, e5⟩
      obtain ⟨o, e⟩ := hb'
      rw [upd_ne (Ne.symm (lt e))]
      exact (hf b hb).1
  done := by
    intro X hP hw hK hc i pins s σ H E I hf st hg
    subst hP hw hK
    obtain ⟨xs, ys, hq1, hq2, he⟩ := hg
    obtain ⟨its1, rv1, p1, _⟩ := I.list hq1
    obtain ⟨its2, rv2, p2, _⟩ := I.list hq2
    have l1' := rv1.length
    have l2' := rv2.length
    obtain ⟨a1, a2, ⟨a, b, a3⟩, a4, a5⟩ := st
    refine wpAny_pyNext_zip_end (I.ok.hd hc) D a1 a2 a3 a4 a5 p1.isList p2.isList ?_ fun h' bk => ⟨rfl, I.fed0 (t' := s.toks) hf fun c o hc e => ?_⟩
    · rcases he with he | he
      · exact .inl (by simp; omega)
      · exact .inr (by simp; omega)
    · simp only [List.mem_cons, List.not_mem_nil, or_false, not_or] at hc
      exact bk c o hc.1 hc.2.2.1 hc.2.2.2.1 hc.2.2.2.2 e
  self := fun _ _ _ _ _ st h => wpAny_pyIter_zip st.1 h
def iZip (K : PySem.W.Frag) (ta : TA) : TI := fun σ H R => ta σ H fun vs H1 => ∃ a b xs ys, vs = [.ref a, .ref b] ∧ SqL K H1 a xs ∧ SqL K H1 b ys ∧ R (Itz K a b) H1
section
variable {X : Cx}
theorem pi_zip {es : List Expr} {k1 : Nat} {tpos : Pos} {a b : Expr} {ta : TA} {p pos : Pos} (hg : Gl X "zip") (hm : X.mg "zip" = none) (ha : PA X [a, b] ta) (hv : bootBuiltins "zip" = some (.type "zip"))
    (he : starEach [a, b] X.env = (false, eval a X.env) :: starEach [b] X.env := by rfl) (hpl : (backTo pos (starEach [b] X.env)).any (·.1) = false := by rfl) :
    PI X (.Tuple es k1 tpos) (.Call (.Name "zip" p) [a, b] [] pos) (iZip X.K ta) := by
  intro pins s σ H R I h
  refine wpAny_Call_Name_kw (ld_blt I hg hm hv ?_)
  refine PyProof.Rows.callWith_type1 (thn (ha pos pins s σ H _ I h) fun us s1 ⟨vs, H1, I1, r1, q1⟩ => ?_) he hpl
  obtain ⟨l1, l2, xs, ys, rfl, hq1, hq2, q⟩ := q1
  obtain ⟨its1, rv1, p1, _⟩ := I1.list hq1
  obtain ⟨its2, rv2, p2, _⟩ := I1.list hq2
  cases r1 with
  | cons r rr =>
    cases rr with
    | cons r' rr =>
      cases rr
      cases r
      cases r'
      have b1 : l1 < s1.heap.objs.size := by obtain ⟨_, _, e, _⟩ := p1; exact Heap.lt_size e
      have b2 : l2 < s1.heap.objs.size := by obtain ⟨_, _, e, _⟩ := p2; exact Heap.lt_size e
      refine call_zip_2 p1.isList p2.isList fun h' c1 c2 c3 c4 c5 c6 ck => ?_
      refine wpAny_pyIter_zip (s := { s1 with heap := h' }) c1 ?_
      refine ⟨_, _, _, _, H1, rfl, I1.kept (t' := s1.toks) ck, turn_zip (zipApart_new b1 b2), ⟨c1, c2, ⟨_, _, c3⟩, c4, c5⟩, fun c hc => ?_, q⟩
      have : s1.heap.objs.size ≤ c := by
        simp only [List.mem_cons, List.not_mem_nil, or_false] at hc
        rcases hc with rfl | rfl | rfl | rfl | rfl <;> omega
      exact I1.fpOk this (I1.hok.fresh this)
/-- x.split(y) -/
theorem vals_strs : ∀ (tk : Nat) (xs : List Str), Vals (xs.map V.str) (strsFrom tk xs)
  | _, [] => .nil
  | tk, x :: r => .cons ⟨tk, rfl⟩ (vals_strs (tk + 1) r)
def rSplit : V → List V → Hp → VK → Prop := fun x vs H Q => ∃ z y, x = .str z ∧ vs = [.str y] ∧ (y.length == 0) = false ∧ z.length + 2 ≤ sizeLine ∧ Nw H (.lst ((Txt.split z y).map V.str)) Q
theorem nm_split : MtR X "str.split" rSplit := by
  intro pins s σ H x vs v us Q I rx rv h
  obtain ⟨z, y, rfl, rfl, hy, hz, q⟩ := h
  obtain ⟨t, rfl⟩ := rx
  obtain ⟨u, rfl, ru⟩ := rv.one
  obtain ⟨t', rfl⟩ := ru
  have hsz : z.length ≤ sizeLine := by omega
  have hle := PyProof.Rows.split_le z y
  have fin : ∀ (l : List Value) (tk : Nat), Vals ((Txt.split z y).map V.str) l → EP X pins σ Q (.ref s.heap.objs.size) { s with heap := s.heap.push { cls := .type "list", data := .seq l.toArray }, toks := tk } := fun l tk r =>
    ⟨.ref s.heap.objs.size, _, I.lnew (t' := tk) r (by rw [List.length_map]; omega), rfl, q.el _ I.fresh⟩
  cases h1 : (decide (z.length < y.length) || decide (Builtin.Str.strKind z < Builtin.Str.strKind y)) with
  | true =>
    refine call_meets F.slot_str_split (typeIs_str _ _ _) F.entry_str_split (F.args_str_split_2 _ _) (meets_str_split_cannot_occur z y t t' h1) ?_
    refine fin [.str z t] s.toks ?_
    have e : Txt.split z y = [z] := if_pos h1
    rw [e]; exact .cons ⟨t, rfl⟩ .nil
  | false =>
    cases hf : (Builtin.Str.occurrences z y 0 z.length (z.length + 1)).isEmpty with
    | true =>
      refine call_meets F.slot_str_split (typeIs_str _ _ _) F.entry_str_split (F.args_str_split_2 _ _) (meets_str_split_not_found z y t t' h1 hy hf) ?_
      refine fin [.str z t] s.toks ?_
      have e : Txt.split z y = [z] := (if_neg (ne_true_of_eq_false h1)).trans (if_pos hf)
      rw [e]; exact .cons ⟨t, rfl⟩ .nil
    | false =>
      have e : Txt.split z y = Builtin.Str.partsBetween z (Builtin.Str.occurrences z y 0 z.length (z.length + 1)) y.length := (if_neg (ne_true_of_eq_false h1)).trans (if_neg (ne_true_of_eq_false hf))
      rw [e] at hle
      refine call_meets F.slot_str_split (typeIs_str _ _ _) F.entry_str_split (F.args_str_split_2 _ _) (meets_str_split_sep z y t t' h1 hy hf hsz (by omega)) ?_
      refine fin _ _ ?_
      rw [e]; exact vals_strs _ _
/-- xs.insert(i, x), within the list -/
theorem nm_insert : MtR X "list.insert" (fun x vs H Q => ∃ l xs i y, x = .ref l ∧ vs = [.int i, y] ∧ H l = some (.lst xs) ∧ 0 ≤ i ∧ i ≤ xs.length ∧ xs.length < sizeLine ∧ Ch H l (.lst (xs.take i.toNat ++ y :: xs.drop i.toNat)) (Q .non)) := by
  intro pins s σ H x vs v us Q I rx rv h
  obtain ⟨l, xs, i, y, rfl, rfl, hH, h0, h1, hz, q⟩ := h
  cases rx
  cases rv with
  | cons r1 rr =>
    obtain ⟨u2, rfl, ru⟩ := Vals.one rr
    obtain ⟨t, rfl⟩ := r1
    obtain ⟨z, its, n, r, hl, e⟩ := I.lstM hH
    have hfit : Builtin.List.listFitsIndex i = true := by
      have : (sizeLine : Int) < 2 ^ 62 := by decide
      have hz' : (xs.length : Int) < sizeLine := by exact_mod_cast hz
      unfold Builtin.List.listFitsIndex
      simp
      omega
    refine call_meets F.slot_list_insert ⟨_, e, rfl⟩ F.entry_list_insert (F.args_list_insert_3 _ _ _) (PySem.AutoSeq1.list_insert_list_int_val_1 l its.toArray n i t u2 (by simp [hfit]) (by rw [List.size_toArray]; omega)) ⟨e, ?_⟩
    refine ⟨.non, _, I.lset (its' := its.take i.toNat ++ u2 :: its.drop i.toNat) hH e ?_ ((r.take _).append (.cons ru (r.drop _))) ?_, rfl, q.el⟩
    · have hi : ¬ i < 0 := by omega
      have hm : min i.toNat its.toArray.size = i.toNat := by rw [List.size_toArray]; omega
      simp only [hi, if_false, hm]
      rw [List.append_cons]
      simp
      rw [List.take_of_length_le (by rw [List.length_drop]; omega)]
    · rw [List.length_append, List.length_cons, List.length_take, List.length_drop]; omega
theorem piK_zip {K : PySem.W.Frag} {es : List Expr} {k1 : Nat} {tpos : Pos} {a b : Expr} {ta : TA} {p pos : Pos} (hK : X.K = K) (hg : Gl X "zip") (hm : X.mg "zip" = none) (ha : PA X [a, b] ta) (hv : bootBuiltins "zip" = some (.type "zip"))
    (he : starEach [a, b] X.env = (false, eval a X.env) :: starEach [b] X.env := by rfl) (hpl : (backTo pos (starEach [b] X.env)).any (·.1) = false := by rfl) :
    PI X (.Tuple es k1 tpos) (.Call (.Name "zip" p) [a, b] [] pos) (iZip K ta) := hK ▸ pi_zip hg hm ha hv he hpl
end
/-- [.. for x, y in zip(xs, ys)] -/
theorem comp_zip {K : PySem.W.Frag} {a b : Addr} {H : Hp} {xs ys : List V} {caps : List Nat} {te : TE} {σ : St} {Q : VK} (hx : SqL K H a xs) (hy : SqL K H b ys) (Pr : V → V → V → Prop) (hsz : xs.length ≤ sizeLine)
    (he : ∀ (i : Nat) (x y : V) (H' : Hp) (Q' : VK), xs[i]? = some x → ys[i]? = some y → Same H H' → (∀ v H4, Same H' H4 → Pr x y v → Q' v H4) → te ([some x, some y] ++ capV σ caps) H' Q')
    (hd : ∀ (D : Addr) (H' : Hp) (vs : List V), Same H H' → H D = none → H' D = some (.lst vs) → vs.length = min xs.length ys.length → (∀ (i : Nat) x y v, xs[i]? = some x → ys[i]? = some y → vs[i]? = some v → Pr x y v) → Q (.ref D) H') :
    CompG (Itz K a b) 2 caps (gTup K 2 (gCons (gName 0) (gCons (gName 1) gNil))) tYes te σ Q H := by
  intro D hD
  refine ⟨fun i m σ1 H2 => m = min xs.length ys.length - i ∧ i ≤ min xs.length ys.length ∧ (∃ ts : List (Option V), ts.length = 2 ∧ σ1 = ts ++ capV σ caps) ∧ Same H H2 ∧ ∃ vs, H2 D = some (.lst vs) ∧ vs.length = i ∧ ∀ (j : Nat) x y v, xs[j]? = some x → ys[j]? = some y → vs[j]? = some v → Pr x y v,
    ⟨min xs.length ys.length, by omega, Nat.zero_le _, ⟨_, List.length_replicate, rfl⟩, Same.new1 hD, [], upd_same, rfl, fun j x y v _ _ e => by simp at e⟩, ?_⟩
  rintro i m σ1 H2 ⟨rfl, hi, ⟨ts, htl, rfl⟩, s2, vs, hv, hvl, hp⟩
  have hx2 : SqL K H2 a xs := seqS hx s2
  have hy2 : SqL K H2 b ys := seqS hy s2
  by_cases hlt : i < min xs.length ys.length
  · have h1 : i < xs.length := by omega
    have h2 : i < ys.length := by omega
    refine .inr ⟨⟨xs, ys, _, _, hx2, hy2, List.getElem?_eq_getElem h1, List.getElem?_eq_getElem h2⟩, fun u H3 q => ?_⟩
    obtain ⟨tp, x, y, htn, rfl, rfl, ex, ey⟩ := q
    have ex := ex xs hx2
    have ey := ey ys hy2
    have s3 : Same H2 (upd H2 tp (.tup [x, y])) := Same.new1 htn
    match ts, htl with
    | [_, _], _ =>
      refine ⟨tp, [x, y], rfl, SqT.of upd_same, rfl, x, [y], rfl, y, [], rfl, rfl, ?_⟩
      unfold tYes
      dsimp only
      rw [if_pos rfl]
      refine he i x y _ _ ex ey (s2.trans s3) fun v H6 s6 pr => ⟨vs, s6 _ _ (s3 _ _ hv), by omega, min xs.length ys.length - (i + 1), by omega, rfl, hlt, ⟨[some x, some y], rfl, rfl⟩, ((s2.trans s3).trans s6).put hD, vs ++ [v], upd_same, by rw [List.length_append, hvl]; rfl, fun j x' y' v' e1 e2 e3 => ?_⟩
      by_cases hj : j < vs.length
      · rw [List.getElem?_append_left hj] at e3
        exact hp j x' y' v' e1 e2 e3
      · have hji : j = i := by
          have := (List.getElem?_eq_some_iff.mp e3).1
          rw [List.length_append, List.length_singleton] at this
          omega
        subst hji
        rw [List.getElem?_append_right (by omega), hvl, Nat.sub_self] at e3
        rw [ex] at e1
        rw [ey] at e2
        cases e1
        cases e2
        cases e3
        exact pr
  · have e : i = min xs.length ys.length := by omega
    refine .inl ⟨⟨xs, ys, hx2, hy2, by omega⟩, hd D H2 vs s2 hD hv (by omega) hp⟩
end L2

set_option maxRecDepth 100000
namespace My
open PySem PySem.Spec PyProof.Rows L2
seal PE PT PW PA PS PSs PI PG PGs PO PC
local macro_rules | `(tactic| walk_at "lk") => `(tactic| first | assumption | exact upd_same | exact lookS (by assumption) (by walk_at "sm") | (refine Same.look (by assumption) ?_; walk_at "lk"))
local macro_rules | `(tactic| walk_at "sq") => `(tactic| first | assumption | exact SqL.of (by walk_at "lk") | exact seqS (by assumption) (by walk_at "sm"))
local macro_rules | `(tactic| walk_at "sqT") => `(tactic| first | assumption | exact SqT.of (by walk_at "lk") | exact seqTS (by assumption) (by walk_at "sm"))
local macro_rules | `(tactic| walk_at "sm") => `(tactic| first | assumption | exact Same.refl _ | (refine Same.trans ?_ (by assumption); walk_at "sm"))
local macro_rules | `(tactic| walk_at "sz") => `(tactic| first | with_reducible assumption | with_reducible exact one_len | ((with_reducible apply cat_len) <;> walk_at "sz") | ((with_reducible apply slice_len); walk_at "sz") | with_reducible exact len_self _)
local macro_rules | `(tactic| walk_at "num") => `(tactic| first | decide +kernel | omega | (simp only [List.length_cons, List.length_nil]; omega))
local macro_rules | `(tactic| walk_at "lsz") => `(tactic| first
  | ((with_reducible apply cat_ok); (focus walk_at "sz"); (focus walk_at "sz"); walk_at "num")
  | ((with_reducible apply line_small); first | decide +kernel | (simp only [List.length_cons, List.length_nil, List.length_map, List.length_append]; omega))
  | ((with_reducible apply small_of); (focus walk_at "sz"); walk_at "num"))
local macro_rules | `(tactic| walk_at "ar") => `(tactic| first
  | walk_at "lsz"
  | omega
  | (refine And.intro ?_ ?_ <;> omega)
  | (refine Or.inl (And.intro ?_ ?_) <;> omega)
  | (refine Or.inr (And.intro ?_ ?_) <;> omega)
  | decide +kernel
  | (show (0 : Int) < _; decide +kernel)
  | (show (0 : Int) < _; omega)
  | (refine And.intro ?_ (And.intro ?_ ?_) <;> decide +kernel))
local macro_rules | `(tactic| walk_at "lsl") => `(tactic| first
  | exact small1000 (by simp only [List.length_cons, List.length_nil, List.length_map, List.length_append]; omega)
  | exact small1000 (by omega))
local macro_rules | `(tactic| walk_at "own") => `(tactic| fail)
local macro_rules | `(tactic| walk_at "fld") => `(tactic| fail)
local macro_rules | `(tactic| walk_at "r1") => `(tactic| (fail_if_success (refine Exists.intro (α := Nat → Nat → L2.St → Hp → Prop) ?_ ?_)); first
  | refine ⟨_, rfl, ?_⟩
  | refine ⟨_, (by walk_at "fld" : Fld _ _ _ _ _), ?_⟩
  | refine ⟨_, _, rfl, rfl, ?_⟩
  | refine ⟨_, _, _, _, rfl, rfl, by walk_at "sq", atI_int' (by walk_at "num") (by walk_at "num"), ?_⟩
  | refine ⟨_, _, _, _, rfl, rfl, by walk_at "sq", atI_str' (by walk_at "num") (by walk_at "num"), ?_⟩
  | refine ⟨_, _, _, _, rfl, rfl, by walk_at "sqT", rfl, ?_⟩
  | refine ⟨_, _, rfl, .inr (by walk_at "sqT"), rfl, rfl, ?_⟩
  | refine ⟨_, _, rfl, .inl (by walk_at "sq"), rfl, rfl, ?_⟩
  | refine ⟨_, _, _, rfl, rfl, by walk_at "lsz", atI_sign (by omega) (by omega), ?_⟩
  | refine ⟨_, _, _, rfl, rfl, by walk_at "lk", by walk_at "lsl", ?_⟩
  | refine ⟨_, _, rfl, by walk_at "sq", ?_⟩
  | refine ⟨_, _, rfl, by walk_at "sqT", rfl, ?_⟩
  | (refine And.intro ?_ ?_; · (apply Exists.intro; walk_at "sq"))
  | (refine And.intro (Or.inl (And.intro rfl ?_)) ?_; · (apply Exists.intro; walk_at "sq"))
  | refine ⟨_, _, rfl, ?_⟩
  | refine ⟨_, _, _, rfl, ?_⟩
  | refine And.intro rfl ?_
  | (refine And.intro ?_ ?_; · assumption)
  | refine ⟨_, _, .type "bool", true, rfl, .inl ⟨_, rfl⟩, TyOf.bl _, kit_same _ _, ?_⟩
  | refine ⟨_, _, .type "str", true, rfl, .inl ⟨_, rfl⟩, TyOf.str _, kit_same _ _, ?_⟩
  | refine ⟨_, _, .type "int", true, rfl, .inl ⟨_, rfl⟩, TyOf.int _, kit_same _ _, ?_⟩
  | refine ⟨_, _, .type "list", true, rfl, .inl ⟨_, rfl⟩, TyOf.lst (by walk_at "lk"), kit_same _ _, ?_⟩
  | (refine And.intro ?_ ?_; · walk_at "ar")
  | refine iteF ?_
  | refine iteT ?_
  | refine iteNS rfl ?_)
local macro_rules | `(tactic| walk_at "rd") => `(tactic| repeat (first | walk_at "own" | walk_at "r1"))
local macro_rules | `(tactic| walk_at "rdi") => `(tactic| repeat (first | walk_at "own" | walk_at "r1" | ((show Nw _ _ _); intro _ _ _ _ _)))
set_option genInjectivity false
set_option genSizeOf false
def top (i : Nat) : Stmt := PySem.Challenge.pw_pactway_k21_rows_of_a_text.main.body.getD i (.Pass ⟨0, 0, 0, 0⟩)
abbrev s_Clause_init : Stmt := inClass (top 3) 0
abbrev s_Duty_init : Stmt := inClass (top 4) 0
abbrev s_Ban_init : Stmt := inClass (top 6) 0
abbrev s_Power_init : Stmt := inClass (top 7) 0
abbrev s_Let_init : Stmt := inClass (top 9) 0
abbrev s_Part_init : Stmt := inClass (top 10) 0
abbrev s_v_is_name : Stmt := top 17
abbrev s_v_number_of : Stmt := top 18
abbrev s_v_written_with : Stmt := top 19
abbrev s_v_names_of : Stmt := top 23
abbrev s_v_are_names : Stmt := top 24
abbrev s_v_room_of : Stmt := top 25
abbrev s_v_let_of : Stmt := top 26
abbrev s_v_part_of : Stmt := top 27
abbrev s_v_clause_of : Stmt := top 28
abbrev s_v_fits_form : Stmt := top 29
abbrev s_v_fits_place : Stmt := top 30
abbrev s_w_cell_at : Stmt := top 32
abbrev s_w_mix : Stmt := top 33
abbrev s_w_name : Stmt := top 34
abbrev s_w_kept : Stmt := top 35
abbrev s_w_good : Stmt := top 36
abbrev s_w_spoilt : Stmt := top 37
abbrev s_w_clause : Stmt := top 38
abbrev s_w_told : Stmt := top 39
abbrev s_w_names_right : Stmt := top 40
abbrev s_v_law : Stmt := top 41
/-- a def of the text, its arguments, its place in the module -/
structure Def (K : PySem.W.Frag) (mg : Str → Option Value) (x : Str) (st : Stmt) (ps : List Str) (f : Addr) (fd : FuncData) : Prop where
  fn : Fun K x x st f fd
  bd : Binds K fd ps []
  mg : mg x = some (.ref f)
/-- a def of a class -/
structure MDef (K : PySem.W.Frag) (x q : Str) (st : Stmt) (ps : List Str) (f : Addr) (fd : FuncData) : Prop where
  fn : Fun K x q st f fd
  bd : Binds K fd ps []
structure Adr where
  f_Clause_init : Addr
  d_Clause_init : FuncData
  f_Duty_init : Addr
  d_Duty_init : FuncData
  f_Ban_init : Addr
  d_Ban_init : FuncData
  f_Power_init : Addr
  d_Power_init : FuncData
  f_Let_init : Addr
  d_Let_init : FuncData
  f_Part_init : Addr
  d_Part_init : FuncData
  f_v_is_name : Addr
  d_v_is_name : FuncData
  f_v_number_of : Addr
  d_v_number_of : FuncData
  f_v_written_with : Addr
  d_v_written_with : FuncData
  f_v_names_of : Addr
  d_v_names_of : FuncData
  f_v_are_names : Addr
  d_v_are_names : FuncData
  f_v_room_of : Addr
  d_v_room_of : FuncData
  f_v_let_of : Addr
  d_v_let_of : FuncData
  f_v_part_of : Addr
  d_v_part_of : FuncData
  f_v_clause_of : Addr
  d_v_clause_of : FuncData
  f_v_fits_form : Addr
  d_v_fits_form : FuncData
  f_v_fits_place : Addr
  d_v_fits_place : FuncData
  f_w_cell_at : Addr
  d_w_cell_at : FuncData
  f_w_mix : Addr
  d_w_mix : FuncData
  f_w_name : Addr
  d_w_name : FuncData
  f_w_kept : Addr
  d_w_kept : FuncData
  f_w_good : Addr
  d_w_good : FuncData
  f_w_spoilt : Addr
  d_w_spoilt : FuncData
  f_w_clause : Addr
  d_w_clause : FuncData
  f_w_told : Addr
  d_w_told : FuncData
  f_w_names_right : Addr
  d_w_names_right : FuncData
  f_v_law : Addr
  d_v_law : FuncData
  c_Row : Addr
  c_Clause : Addr
  c_Duty : Addr
  c_Leave : Addr
  c_Ban : Addr
  c_Power : Addr
  c_Let : Addr
  c_Part : Addr
  k_KEPT : Addr
  k_MARKS : Addr
def ks_KEPT : List Str := ["acts", "any", "be", "by", "calm", "done", "else", "end", "in", "let", "may", "must", "not", "part", "parties", "rest", "sore", "to", "whole"]
def ks_MARKS : List Str := ["calm", "sore", "end"]
abbrev k_LETTERS : Str := "abcdefghijklmnopqrstuvwxyz"
abbrev k_FIGURES : Str := "0123456789"
structure Txt (K : PySem.W.Frag) (mg : Str → Option Value) (t : Adr) : Prop where
  Clause_init : MDef K "__init__" "Clause.__init__" s_Clause_init ["self", "label", "who", "act"] t.f_Clause_init t.d_Clause_init
  Duty_init : MDef K "__init__" "Duty.__init__" s_Duty_init ["self", "label", "who", "act", "turns", "room"] t.f_Duty_init t.d_Duty_init
  Ban_init : MDef K "__init__" "Ban.__init__" s_Ban_init ["self", "label", "who", "act", "room"] t.f_Ban_init t.d_Ban_init
  Power_init : MDef K "__init__" "Power.__init__" s_Power_init ["self", "label", "who", "act", "room"] t.f_Power_init t.d_Power_init
  Let_init : MDef K "__init__" "Let.__init__" s_Let_init ["self", "name", "value"] t.f_Let_init t.d_Let_init
  Part_init : MDef K "__init__" "Part.__init__" s_Part_init ["self", "name", "rooms", "rows"] t.f_Part_init t.d_Part_init
  v_is_name : Def K mg "is_name" s_v_is_name ["word"] t.f_v_is_name t.d_v_is_name
  v_number_of : Def K mg "number_of" s_v_number_of ["word"] t.f_v_number_of t.d_v_number_of
  v_written_with : Def K mg "written_with" s_v_written_with ["word", "signs", "most"] t.f_v_written_with t.d_v_written_with
  v_names_of : Def K mg "names_of" s_v_names_of ["row", "word", "most"] t.f_v_names_of t.d_v_names_of
  v_are_names : Def K mg "are_names" s_v_are_names ["words", "most"] t.f_v_are_names t.d_v_are_names
  v_room_of : Def K mg "room_of" s_v_room_of ["row"] t.f_v_room_of t.d_v_room_of
  v_let_of : Def K mg "let_of" s_v_let_of ["row"] t.f_v_let_of t.d_v_let_of
  v_part_of : Def K mg "part_of" s_v_part_of ["row"] t.f_v_part_of t.d_v_part_of
  v_clause_of : Def K mg "clause_of" s_v_clause_of ["row"] t.f_v_clause_of t.d_v_clause_of
  v_fits_form : Def K mg "fits_form" s_v_fits_form ["words", "form"] t.f_v_fits_form t.d_v_fits_form
  v_fits_place : Def K mg "fits_place" s_v_fits_place ["word", "place"] t.f_v_fits_place t.d_v_fits_place
  w_cell_at : Def K mg "_law_cell_at" s_w_cell_at ["_law_script", "_law_k"] t.f_w_cell_at t.d_w_cell_at
  w_mix : Def K mg "_law_mix" s_w_mix ["_law_cell", "_law_k"] t.f_w_mix t.d_w_mix
  w_name : Def K mg "_law_name" s_w_name ["_law_cell", "_law_k"] t.f_w_name t.d_w_name
  w_kept : Def K mg "_law_kept" s_w_kept ["_law_cell"] t.f_w_kept t.d_w_kept
  w_good : Def K mg "_law_good" s_w_good ["_law_names", "_law_cell"] t.f_w_good t.d_w_good
  w_spoilt : Def K mg "_law_spoilt" s_w_spoilt ["_law_names", "_law_words", "_law_cell"] t.f_w_spoilt t.d_w_spoilt
  w_clause : Def K mg "_law_clause" s_w_clause ["_law_row"] t.f_w_clause t.d_w_clause
  w_told : Def K mg "_law_told" s_w_told ["_law_row"] t.f_w_told t.d_w_told
  w_names_right : Def K mg "_law_names_right" s_w_names_right ["_law_names", "_law_cell"] t.f_w_names_right t.d_w_names_right
  v_law : Def K mg "law" s_v_law ["_law_script"] t.f_v_law t.d_v_law
  b_list : mg "list" = none
  b_len : mg "len" = none
  b_range : mg "range" = none
  b_all : mg "all" = none
  b_int : mg "int" = none
  b_str : mg "str" = none
  b_isinstance : mg "isinstance" = none
  b_bool : mg "bool" = none
  b_tuple : mg "tuple" = none
  b_zip : mg "zip" = none
  g_KEPT : mg "KEPT" = some (.ref t.k_KEPT)
  g_LETTERS : ∃ tk, mg "LETTERS" = some (.str "abcdefghijklmnopqrstuvwxyz" tk)
  g_FIGURES : ∃ tk, mg "FIGURES" = some (.str "0123456789" tk)
  g_MOST_LETTERS : ∃ tk, mg "MOST_LETTERS" = some (.int 8 tk)
  g_MOST_FIGURES : ∃ tk, mg "MOST_FIGURES" = some (.int 20 tk)
  g_MARKS : mg "MARKS" = some (.ref t.k_MARKS)
  g_MOST_ROOMS : ∃ tk, mg "MOST_ROOMS" = some (.int 12 tk)
  m_Row : mg "Row" = some (.ref t.c_Row)
  m_Clause : mg "Clause" = some (.ref t.c_Clause)
  m_Duty : mg "Duty" = some (.ref t.c_Duty)
  m_Leave : mg "Leave" = some (.ref t.c_Leave)
  m_Ban : mg "Ban" = some (.ref t.c_Ban)
  m_Power : mg "Power" = some (.ref t.c_Power)
  m_Let : mg "Let" = some (.ref t.c_Let)
  m_Part : mg "Part" = some (.ref t.c_Part)
  o_KEPT : ∃ (o : Obj) (its : Array Value) (n : Nat), K.lookup t.k_KEPT = some o ∧ o.cls = .type "tuple" ∧ o.data = .seq its n ∧ its.size ≤ sizeLine ∧ Vals (ks_KEPT.map V.str) its.toList
  o_MARKS : ∃ (o : Obj) (its : Array Value) (n : Nat), K.lookup t.k_MARKS = some o ∧ o.cls = .type "tuple" ∧ o.data = .seq its n ∧ its.size ≤ sizeLine ∧ Vals (ks_MARKS.map V.str) its.toList
  cl_Row : Cls K t.c_Row
  na_Row_act : NoAttr K t.c_Row "act"
  na_Row_label : NoAttr K t.c_Row "label"
  na_Row_name : NoAttr K t.c_Row "name"
  na_Row_room : NoAttr K t.c_Row "room"
  na_Row_rooms : NoAttr K t.c_Row "rooms"
  na_Row_rows : NoAttr K t.c_Row "rows"
  na_Row_turns : NoAttr K t.c_Row "turns"
  na_Row_value : NoAttr K t.c_Row "value"
  na_Row_who : NoAttr K t.c_Row "who"
  mk0_Row : Mk0 K t.c_Row
  cl_Clause : Cls K t.c_Clause
  na_Clause_act : NoAttr K t.c_Clause "act"
  na_Clause_label : NoAttr K t.c_Clause "label"
  na_Clause_name : NoAttr K t.c_Clause "name"
  na_Clause_room : NoAttr K t.c_Clause "room"
  na_Clause_rooms : NoAttr K t.c_Clause "rooms"
  na_Clause_rows : NoAttr K t.c_Clause "rows"
  na_Clause_turns : NoAttr K t.c_Clause "turns"
  na_Clause_value : NoAttr K t.c_Clause "value"
  na_Clause_who : NoAttr K t.c_Clause "who"
  mk_Clause : Mk K t.c_Clause t.f_Clause_init
  cl_Duty : Cls K t.c_Duty
  na_Duty_act : NoAttr K t.c_Duty "act"
  na_Duty_label : NoAttr K t.c_Duty "label"
  na_Duty_name : NoAttr K t.c_Duty "name"
  na_Duty_room : NoAttr K t.c_Duty "room"
  na_Duty_rooms : NoAttr K t.c_Duty "rooms"
  na_Duty_rows : NoAttr K t.c_Duty "rows"
  na_Duty_turns : NoAttr K t.c_Duty "turns"
  na_Duty_value : NoAttr K t.c_Duty "value"
  na_Duty_who : NoAttr K t.c_Duty "who"
  mk_Duty : Mk K t.c_Duty t.f_Duty_init
  cl_Leave : Cls K t.c_Leave
  na_Leave_act : NoAttr K t.c_Leave "act"
  na_Leave_label : NoAttr K t.c_Leave "label"
  na_Leave_name : NoAttr K t.c_Leave "name"
  na_Leave_room : NoAttr K t.c_Leave "room"
  na_Leave_rooms : NoAttr K t.c_Leave "rooms"
  na_Leave_rows : NoAttr K t.c_Leave "rows"
  na_Leave_turns : NoAttr K t.c_Leave "turns"
  na_Leave_value : NoAttr K t.c_Leave "value"
  na_Leave_who : NoAttr K t.c_Leave "who"
  mk_Leave : Mk K t.c_Leave t.f_Clause_init
  cl_Ban : Cls K t.c_Ban
  na_Ban_act : NoAttr K t.c_Ban "act"
  na_Ban_label : NoAttr K t.c_Ban "label"
  na_Ban_name : NoAttr K t.c_Ban "name"
  na_Ban_room : NoAttr K t.c_Ban "room"
  na_Ban_rooms : NoAttr K t.c_Ban "rooms"
  na_Ban_rows : NoAttr K t.c_Ban "rows"
  na_Ban_turns : NoAttr K t.c_Ban "turns"
  na_Ban_value : NoAttr K t.c_Ban "value"
  na_Ban_who : NoAttr K t.c_Ban "who"
  mk_Ban : Mk K t.c_Ban t.f_Ban_init
  cl_Power : Cls K t.c_Power
  na_Power_act : NoAttr K t.c_Power "act"
  na_Power_label : NoAttr K t.c_Power "label"
  na_Power_name : NoAttr K t.c_Power "name"
  na_Power_room : NoAttr K t.c_Power "room"
  na_Power_rooms : NoAttr K t.c_Power "rooms"
  na_Power_rows : NoAttr K t.c_Power "rows"
  na_Power_turns : NoAttr K t.c_Power "turns"
  na_Power_value : NoAttr K t.c_Power "value"
  na_Power_who : NoAttr K t.c_Power "who"
  mk_Power : Mk K t.c_Power t.f_Power_init
  cl_Let : Cls K t.c_Let
  na_Let_act : NoAttr K t.c_Let "act"
  na_Let_label : NoAttr K t.c_Let "label"
  na_Let_name : NoAttr K t.c_Let "name"
  na_Let_room : NoAttr K t.c_Let "room"
  na_Let_rooms : NoAttr K t.c_Let "rooms"
  na_Let_rows : NoAttr K t.c_Let "rows"
  na_Let_turns : NoAttr K t.c_Let "turns"
  na_Let_value : NoAttr K t.c_Let "value"
  na_Let_who : NoAttr K t.c_Let "who"
  mk_Let : Mk K t.c_Let t.f_Let_init
  cl_Part : Cls K t.c_Part
  na_Part_act : NoAttr K t.c_Part "act"
  na_Part_label : NoAttr K t.c_Part "label"
  na_Part_name : NoAttr K t.c_Part "name"
  na_Part_room : NoAttr K t.c_Part "room"
  na_Part_rooms : NoAttr K t.c_Part "rooms"
  na_Part_rows : NoAttr K t.c_Part "rows"
  na_Part_turns : NoAttr K t.c_Part "turns"
  na_Part_value : NoAttr K t.c_Part "value"
  na_Part_who : NoAttr K t.c_Part "who"
  mk_Part : Mk K t.c_Part t.f_Part_init
  cm_Clause : CMeth K t.c_Clause "__init__" t.f_Clause_init
  cm_Leave : CMeth K t.c_Leave "__init__" t.f_Clause_init
  ki_Duty_Duty : PySem.W.kitOne K (.ref t.c_Duty) (.ref t.c_Duty) = some true
  ki_Duty_Leave : PySem.W.kitOne K (.ref t.c_Duty) (.ref t.c_Leave) = some false
  ki_Duty_Ban : PySem.W.kitOne K (.ref t.c_Duty) (.ref t.c_Ban) = some false
  ki_Duty_Power : PySem.W.kitOne K (.ref t.c_Duty) (.ref t.c_Power) = some false
  ki_Leave_Duty : PySem.W.kitOne K (.ref t.c_Leave) (.ref t.c_Duty) = some false
  ki_Leave_Leave : PySem.W.kitOne K (.ref t.c_Leave) (.ref t.c_Leave) = some true
  ki_Leave_Ban : PySem.W.kitOne K (.ref t.c_Leave) (.ref t.c_Ban) = some false
  ki_Leave_Power : PySem.W.kitOne K (.ref t.c_Leave) (.ref t.c_Power) = some false
  ki_Ban_Duty : PySem.W.kitOne K (.ref t.c_Ban) (.ref t.c_Duty) = some false
  ki_Ban_Leave : PySem.W.kitOne K (.ref t.c_Ban) (.ref t.c_Leave) = some false
  ki_Ban_Ban : PySem.W.kitOne K (.ref t.c_Ban) (.ref t.c_Ban) = some true
  ki_Ban_Power : PySem.W.kitOne K (.ref t.c_Ban) (.ref t.c_Power) = some false
  ki_Power_Duty : PySem.W.kitOne K (.ref t.c_Power) (.ref t.c_Duty) = some false
  ki_Power_Leave : PySem.W.kitOne K (.ref t.c_Power) (.ref t.c_Leave) = some true
  ki_Power_Ban : PySem.W.kitOne K (.ref t.c_Power) (.ref t.c_Ban) = some false
  ki_Power_Power : PySem.W.kitOne K (.ref t.c_Power) (.ref t.c_Power) = some true
  ki_Let_Let : PySem.W.kitOne K (.ref t.c_Let) (.ref t.c_Let) = some true
  ki_Let_Row : PySem.W.kitOne K (.ref t.c_Let) (.ref t.c_Row) = some true
  ki_Part_Row : PySem.W.kitOne K (.ref t.c_Part) (.ref t.c_Row) = some true
  ki_Part_Part : PySem.W.kitOne K (.ref t.c_Part) (.ref t.c_Part) = some true
  ki_int_bool : PySem.W.kitOne K (.type "int") (.type "bool") = some false
  oc_get : PySem.W.specialIn K (.builtin "object.__class__") "__get__" = some (some (.builtin "getset_descriptor.__get__"))
  oc_tk : PySem.W.takesIn K (.builtin "object.__class__") = some true
  tc_Row : PySem.W.findIn K (.ref t.c_Row) "__class__" = some (some (.builtin "object.__class__")) ∧ PySem.W.mroIn K t.c_Row (.type "object") = some true
  tc_Clause : PySem.W.findIn K (.ref t.c_Clause) "__class__" = some (some (.builtin "object.__class__")) ∧ PySem.W.mroIn K t.c_Clause (.type "object") = some true
  tc_Duty : PySem.W.findIn K (.ref t.c_Duty) "__class__" = some (some (.builtin "object.__class__")) ∧ PySem.W.mroIn K t.c_Duty (.type "object") = some true
  tc_Leave : PySem.W.findIn K (.ref t.c_Leave) "__class__" = some (some (.builtin "object.__class__")) ∧ PySem.W.mroIn K t.c_Leave (.type "object") = some true
  tc_Ban : PySem.W.findIn K (.ref t.c_Ban) "__class__" = some (some (.builtin "object.__class__")) ∧ PySem.W.mroIn K t.c_Ban (.type "object") = some true
  tc_Power : PySem.W.findIn K (.ref t.c_Power) "__class__" = some (some (.builtin "object.__class__")) ∧ PySem.W.mroIn K t.c_Power (.type "object") = some true
  tc_Let : PySem.W.findIn K (.ref t.c_Let) "__class__" = some (some (.builtin "object.__class__")) ∧ PySem.W.mroIn K t.c_Let (.type "object") = some true
  tc_Part : PySem.W.findIn K (.ref t.c_Part) "__class__" = some (some (.builtin "object.__class__")) ∧ PySem.W.mroIn K t.c_Part (.type "object") = some true
section
variable {P : Program} {w : World} {K : PySem.W.Frag} {mg : Str → Option Value} {base : Heap} {t : Adr}
/-! ### clauses: data -/
end
structure Good (N : Nat) (x : Str) : Prop where
  lo : 1 ≤ x.length
  hi : x.length ≤ N
  as : asc x
theorem Good.mono {N M : Nat} {x : Str} (h : Good N x) (l : N ≤ M) : Good M x := ⟨h.lo, Nat.le_trans h.hi l, h.as⟩
/-! ### clauses as objects -/
structure CF (K : PySem.W.Frag) (C fI : Addr) : Prop where
  cl : Cls K C
  nl : NoAttr K C "label"
  nw : NoAttr K C "who"
  na : NoAttr K C "act"
  nt : NoAttr K C "turns"
  nr : NoAttr K C "room"
  mkk : Mk K C fI
def f3 (l w a : Str) : List (Str × V) := [("label", .str l), ("who", .str w), ("act", .str a)]
def f4 (l w a r : Str) : List (Str × V) := [("label", .str l), ("who", .str w), ("act", .str a), ("room", .str r)]
def f5 (l w a : Str) (n : Int) (r : Str) : List (Str × V) := [("label", .str l), ("who", .str w), ("act", .str a), ("turns", .int n), ("room", .str r)]
theorem n1 : ¬ (("label" : Str) = "who") := by decide +kernel
theorem n2 : ¬ (("label" : Str) = "act") := by decide +kernel
theorem n3 : ¬ (("who" : Str) = "act") := by decide +kernel
theorem n4 : ¬ (("label" : Str) = "room") := by decide +kernel
theorem n5 : ¬ (("who" : Str) = "room") := by decide +kernel
theorem n6 : ¬ (("act" : Str) = "room") := by decide +kernel
theorem n7 : ¬ (("label" : Str) = "turns") := by decide +kernel
theorem n8 : ¬ (("who" : Str) = "turns") := by decide +kernel
theorem n9 : ¬ (("act" : Str) = "turns") := by decide +kernel
theorem n10 : ¬ (("turns" : Str) = "room") := by decide +kernel
theorem put3 (l w a : Str) : putF "act" (.str a) (putF "who" (.str w) (putF "label" (.str l) [])) = f3 l w a := by
  simp only [putF, f3, if_neg n1, if_neg n2, if_neg n3]
theorem put4 (l w a r : Str) : putF "room" (.str r) (f3 l w a) = f4 l w a r := by
  simp only [putF, f3, f4, if_neg n4, if_neg n5, if_neg n6]
theorem put5 (l w a : Str) (n : Int) (r : Str) : putF "room" (.str r) (putF "turns" (.int n) (f3 l w a)) = f5 l w a n r := by
  simp only [putF, f3, f5, if_neg n7, if_neg n8, if_neg n9, if_neg n4, if_neg n5, if_neg n6, if_neg n10]
def flds (k : Int) (l w a : Str) (n : Int) (r : Str) : List (Str × V) := if k = 0 then f5 l w a n r else if k = 2 ∨ k = 3 then f4 l w a r else f3 l w a
theorem look_nil (x : Str) : (List.lookup x ([] : List (Str × V))) = none := rfl
theorem look_hit {x : Str} {v : V} {r : List (Str × V)} : List.lookup x ((x, v) :: r) = some v := by simp [List.lookup]
theorem look_miss {x y : Str} {v : V} {r : List (Str × V)} (h : ¬ (x = y)) : List.lookup x ((y, v) :: r) = List.lookup x r := by
  have : (x == y) = false := beq_eq_false_iff_ne.mpr h
  simp [List.lookup, this]
theorem flds_label (k : Int) (l w a : Str) (n : Int) (r : Str) : (flds k l w a n r).lookup ("label" : Str) = some (.str l) := by
  unfold flds; split
  · exact look_hit
  · split <;> exact look_hit
theorem flds_who (k : Int) (l w a : Str) (n : Int) (r : Str) : (flds k l w a n r).lookup ("who" : Str) = some (.str w) := by
  have h := fun q => n1 (Eq.symm q)
  unfold flds; split
  · exact (look_miss h).trans look_hit
  · split <;> exact (look_miss h).trans look_hit
theorem flds_act (k : Int) (l w a : Str) (n : Int) (r : Str) : (flds k l w a n r).lookup ("act" : Str) = some (.str a) := by
  have h1 := fun q => n2 (Eq.symm q)
  have h2 := fun q => n3 (Eq.symm q)
  unfold flds; split
  · exact (look_miss h1).trans ((look_miss h2).trans look_hit)
  · split <;> exact (look_miss h1).trans ((look_miss h2).trans look_hit)
theorem flds_turns (l w a : Str) (n : Int) (r : Str) : (flds 0 l w a n r).lookup ("turns" : Str) = some (.int n) :=
  (look_miss fun q => n7 (Eq.symm q)).trans ((look_miss fun q => n8 (Eq.symm q)).trans ((look_miss fun q => n9 (Eq.symm q)).trans look_hit))
theorem flds_room {k : Int} (hk : k = 0 ∨ k = 2 ∨ k = 3) (l w a : Str) (n : Int) (r : Str) : (flds k l w a n r).lookup ("room" : Str) = some (.str r) := by
  have h1 := fun q => n4 (Eq.symm q)
  have h2 := fun q => n5 (Eq.symm q)
  have h3 := fun q => n6 (Eq.symm q)
  have h4 := fun q => n10 (Eq.symm q)
  unfold flds
  by_cases h0 : k = 0
  · rw [if_pos h0]
    exact (look_miss h1).trans ((look_miss h2).trans ((look_miss h3).trans ((look_miss h4).trans look_hit)))
  · rw [if_neg h0, if_pos (hk.resolve_left h0)]
    exact (look_miss h1).trans ((look_miss h2).trans ((look_miss h3).trans look_hit))
theorem flds_no {m : Str} (k : Int) (l w a : Str) (n : Int) (r : Str) (h : m ∉ (["label", "who", "act", "turns", "room"] : List Str)) : (flds k l w a n r).lookup m = none := by
  simp only [List.mem_cons, not_or] at h
  obtain ⟨h1, h2, h3, h4, h5, _⟩ := h
  unfold flds; split
  · exact (look_miss h1).trans ((look_miss h2).trans ((look_miss h3).trans ((look_miss h4).trans ((look_miss h5).trans rfl))))
  · split
    · exact (look_miss h1).trans ((look_miss h2).trans ((look_miss h3).trans ((look_miss h5).trans rfl)))
    · exact (look_miss h1).trans ((look_miss h2).trans ((look_miss h3).trans rfl))
def clsOf (t : Adr) (k : Int) : Addr := if k = 0 then t.c_Duty else if k = 1 then t.c_Leave else if k = 2 then t.c_Ban else if k = 3 then t.c_Power else t.c_Clause
/-- a clause stands at p -/
def At (t : Adr) (H : Hp) (p : Addr) (k : Int) (l w a : Str) (n : Int) (r : Str) : Prop := ∃ dx, H p = some (.ins (clsOf t k) dx (flds k l w a n r))
theorem At.same {t : Adr} {H H' : Hp} {p : Addr} {k : Int} {l w a : Str} {n : Int} {r : Str} (h : At t H p k l w a n r) (s : Same H H') : At t H' p k l w a n r := by
  obtain ⟨dx, e⟩ := h
  exact ⟨dx, s _ _ e⟩
def spI3 (K : PySem.W.Frag) : Sp := fun vs H Q _ => ∃ (p C dx fI : Addr) (l w a : Str), vs = [.ref p, .str l, .str w, .str a] ∧ CF K C fI ∧ H p = some (.ins C dx []) ∧ Q .non (upd H p (.ins C dx (f3 l w a)))
def spI4 (K : PySem.W.Frag) : Sp := fun vs H Q _ => ∃ (p C dx fI : Addr) (l w a r : Str), vs = [.ref p, .str l, .str w, .str a, .str r] ∧ CF K C fI ∧ H p = some (.ins C dx []) ∧ Q .non (upd H p (.ins C dx (f4 l w a r)))
def spI5 (K : PySem.W.Frag) : Sp := fun vs H Q _ => ∃ (p C dx fI : Addr) (l w a : Str) (n : Int) (r : Str), vs = [.ref p, .str l, .str w, .str a, .int n, .str r] ∧ CF K C fI ∧ H p = some (.ins C dx []) ∧ Q .non (upd H p (.ins C dx (f5 l w a n r)))
theorem cf_Duty {K : PySem.W.Frag} {mg : Str → Option Value} {t : Adr} (T : Txt K mg t) : CF K t.c_Duty t.f_Duty_init := ⟨T.cl_Duty, T.na_Duty_label, T.na_Duty_who, T.na_Duty_act, T.na_Duty_turns, T.na_Duty_room, T.mk_Duty⟩
theorem cf_Leave {K : PySem.W.Frag} {mg : Str → Option Value} {t : Adr} (T : Txt K mg t) : CF K t.c_Leave t.f_Clause_init := ⟨T.cl_Leave, T.na_Leave_label, T.na_Leave_who, T.na_Leave_act, T.na_Leave_turns, T.na_Leave_room, T.mk_Leave⟩
theorem cf_Ban {K : PySem.W.Frag} {mg : Str → Option Value} {t : Adr} (T : Txt K mg t) : CF K t.c_Ban t.f_Ban_init := ⟨T.cl_Ban, T.na_Ban_label, T.na_Ban_who, T.na_Ban_act, T.na_Ban_turns, T.na_Ban_room, T.mk_Ban⟩
theorem cf_Power {K : PySem.W.Frag} {mg : Str → Option Value} {t : Adr} (T : Txt K mg t) : CF K t.c_Power t.f_Power_init := ⟨T.cl_Power, T.na_Power_label, T.na_Power_who, T.na_Power_act, T.na_Power_turns, T.na_Power_room, T.mk_Power⟩
theorem cf_Clause {K : PySem.W.Frag} {mg : Str → Option Value} {t : Adr} (T : Txt K mg t) : CF K t.c_Clause t.f_Clause_init := ⟨T.cl_Clause, T.na_Clause_label, T.na_Clause_who, T.na_Clause_act, T.na_Clause_turns, T.na_Clause_room, T.mk_Clause⟩
theorem cf_of {K : PySem.W.Frag} {mg : Str → Option Value} {t : Adr} (T : Txt K mg t) (k : Int) : ∃ fI, CF K (clsOf t k) fI := by
  unfold clsOf
  split
  · exact ⟨_, cf_Duty T⟩
  split
  · exact ⟨_, cf_Leave T⟩
  split
  · exact ⟨_, cf_Ban T⟩
  split
  · exact ⟨_, cf_Power T⟩
  · exact ⟨_, cf_Clause T⟩
/-! fields read -/
section
variable {K : PySem.W.Frag} {mg : Str → Option Value} {t : Adr} {H : Hp} {p : Addr} {k : Int} {l w a : Str} {n : Int} {r : Str} {Q : VK}
theorem At.fl (T : Txt K mg t) (h : At t H p k l w a n r) : Fld K H (.ref p) "label" (.str l) := by
  obtain ⟨dx, e⟩ := h
  obtain ⟨fI, F⟩ := cf_of T k
  exact ⟨p, _, dx, _, rfl, e, F.cl, F.nl, flds_label _ _ _ _ _ _⟩
theorem At.fw (T : Txt K mg t) (h : At t H p k l w a n r) : Fld K H (.ref p) "who" (.str w) := by
  obtain ⟨dx, e⟩ := h
  obtain ⟨fI, F⟩ := cf_of T k
  exact ⟨p, _, dx, _, rfl, e, F.cl, F.nw, flds_who _ _ _ _ _ _⟩
theorem At.fa (T : Txt K mg t) (h : At t H p k l w a n r) : Fld K H (.ref p) "act" (.str a) := by
  obtain ⟨dx, e⟩ := h
  obtain ⟨fI, F⟩ := cf_of T k
  exact ⟨p, _, dx, _, rfl, e, F.cl, F.na, flds_act _ _ _ _ _ _⟩
theorem At.ft (T : Txt K mg t) (h : At t H p 0 l w a n r) : Fld K H (.ref p) "turns" (.int n) := by
  obtain ⟨dx, e⟩ := h
  obtain ⟨fI, F⟩ := cf_of T 0
  exact ⟨p, _, dx, _, rfl, e, F.cl, F.nt, flds_turns _ _ _ _ _⟩
theorem At.fr (T : Txt K mg t) (h : At t H p k l w a n r) (hk : k = 0 ∨ k = 2 ∨ k = 3) : Fld K H (.ref p) "room" (.str r) := by
  obtain ⟨dx, e⟩ := h
  obtain ⟨fI, F⟩ := cf_of T k
  exact ⟨p, _, dx, _, rfl, e, F.cl, F.nr, flds_room hk _ _ _ _ _⟩
theorem At.me (T : Txt K mg t) (h : At t H p k l w a n r) {m : Str} (hm : m ∉ (["label", "who", "act", "turns", "room"] : List Str)) : ∃ dx fs, H p = some (.ins (clsOf t k) dx fs) ∧ Cls K (clsOf t k) ∧ fs.lookup m = none := by
  obtain ⟨dx, e⟩ := h
  obtain ⟨fI, F⟩ := cf_of T k
  exact ⟨dx, _, e, F.cl, flds_no _ _ _ _ _ _ hm⟩
theorem meth_at {P : Program} {W : World} {base : Heap} {j : Nat} {m : Str} {sp : Sp} {R : Sp → Prop} (T : Txt K mg t) (h : At t H p k l w a n r) (hm : m ∉ (["label", "who", "act", "turns", "room"] : List Str)) (M : MethOk P W K mg base CX0 j (clsOf t k) m sp) (q : R sp) :
    ∃ b C dx fs, V.ref p = V.ref b ∧ H b = some (.ins C dx fs) ∧ Cls K C ∧ fs.lookup m = none ∧ ∃ sp, MethOk P W K mg base CX0 j C m sp ∧ R sp := by
  obtain ⟨dx, fs, m1, m2, m3⟩ := At.me T h hm
  exact ⟨p, _, dx, fs, rfl, m1, m2, m3, sp, M, q⟩
theorem At.fx {H' : Hp} (h : At t H p k l w a n r) (s : Fx H H') : At t H' p k l w a n r := by
  obtain ⟨dx, e⟩ := h
  exact ⟨dx, s.2 _ _ _ _ e⟩
end
section
variable {P : Program} {w : World} {K : PySem.W.Frag} {mg : Str → Option Value} {base : Heap} {t : Adr}
/-! ### the makings -/
theorem sc_Clause_init : FnScope ["self", "label", "who", "act"] ["self", "label", "who", "act"] (defScope s_Clause_init) := ⟨rfl, rfl, rfl, by decide +kernel, rfl, by decide +kernel, by decide +kernel⟩
set_option maxHeartbeats 400000 in
theorem ok_Clause_init (T : Txt K mg t) : FnOk P w K mg base CX0 1 t.f_Clause_init t.d_Clause_init ["self", "label", "who", "act"] (spI3 K) := by
  refine T.Clause_init.fn.ok sc_Clause_init (fun vs H Q E h => (by first | (obtain ⟨rfl, _⟩ := h; rfl) | (obtain ⟨_, rfl, _⟩ := h; rfl) | (obtain ⟨_, _, rfl, _⟩ := h; rfl) | (obtain ⟨_, _, _, rfl, _⟩ := h; rfl) | (obtain ⟨_, _, _, _, rfl, _⟩ := h; rfl) | (obtain ⟨_, _, _, _, _, rfl, _⟩ := h; rfl) | (obtain ⟨_, _, _, _, _, _, rfl, _⟩ := h; rfl) | (obtain ⟨_, _, _, _, _, _, _, rfl, _⟩ := h; rfl) | (obtain ⟨_, _, _, _, _, _, _, _, rfl, _⟩ := h; rfl) | (obtain ⟨_, _, _, _, _, _, _, _, _, rfl, _⟩ := h; rfl) | (obtain ⟨_, _, _, _, _, _, _, _, _, _, rfl, _⟩ := h; rfl) | (obtain ⟨_, _, _, _, _, _, _, _, _, _, _, rfl, _⟩ := h; rfl) | (obtain ⟨_, _, _, _, _, _, _, _, _, _, _, _, rfl, _⟩ := h; rfl) | (obtain ⟨_, _, _, _, _, _, _, _, _, _, _, _, _, rfl, _⟩ := h; rfl) | (obtain ⟨_, _, _, _, _, _, _, _, _, _, _, _, _, _, rfl, _⟩ := h; rfl) | (obtain ⟨_, _, _, _, _, _, _, _, _, _, _, _, _, _, _, rfl, _⟩ := h; rfl) | (obtain ⟨_, _, _, _, _, _, _, _, _, _, _, _, _, _, _, _, rfl, _⟩ := h; rfl) | (obtain ⟨_, _, _, _, _, _, _, _, _, _, _, _, _, _, _, _, _, rfl, _⟩ := h; rfl) | (obtain ⟨_, _, _, _, _, _, _, _, _, _, _, _, _, _, _, _, _, _, rfl, _⟩ := h; rfl) | (obtain ⟨_, _, _, _, _, _, _, _, _, _, _, _, _, _, _, _, _, _, _, rfl, _⟩ := h; rfl) | (obtain ⟨_, _, _, _, _, _, _, _, _, _, _, _, _, _, _, _, _, _, _, _, rfl, _⟩ := h; rfl) | (obtain ⟨_, _, _, _, _, _, _, _, _, _, _, _, _, _, _, _, _, _, _, _, _, rfl, _⟩ := h; rfl) | (obtain ⟨_, _, _, _, _, _, _, _, _, _, _, _, _, _, _, _, _, _, _, _, _, _, rfl, _⟩ := h; rfl) | (obtain ⟨_, _, _, _, _, _, _, _, _, _, _, _, _, _, _, _, _, _, _, _, _, _, _, rfl, _⟩ := h; rfl))) (fun cdv A outer s H vs Q E hr h => ?_)
  obtain ⟨p, C, dx, fI, l, w, a, rfl, F, hp, k⟩ := h
  refine ⟨_, (pss_cons (ps_fld (pv 0) (pv 1) rfl)
      (pss_cons (ps_fld (pv 0) (pv 2) rfl)
      (pss_one (ps_fld (pv 0) (pv 3) rfl)))), ?_⟩
  refine ⟨_, rfl, _, rfl, p, C, dx, [], rfl, hp, F.cl, F.nl, (by show 0 < 1000; decide), ?_⟩
  refine ⟨_, rfl, _, rfl, p, C, dx, _, rfl, upd_same, F.cl, F.nw, (by show 1 < 1000; decide), ?_⟩
  refine ⟨_, rfl, _, rfl, p, C, dx, _, rfl, upd_same, F.cl, F.na, ?_, ?_⟩
  · have := length_putF ("who" : Str) (.str w) (putF "label" (.str l) [])
    have e : (putF ("label" : Str) (.str l) []).length = 1 := rfl
    omega
  · rw [upd_upd, upd_upd, put3]
    exact k
theorem sc_Duty_init : FnScope ["self", "label", "who", "act", "turns", "room"] ["self", "label", "who", "act", "turns", "room"] (defScope s_Duty_init) := ⟨rfl, rfl, rfl, by decide +kernel, rfl, by decide +kernel, by decide +kernel⟩
set_option maxHeartbeats 400000 in
theorem ok_Duty_init (T : Txt K mg t) : FnOk P w K mg base CX0 2 t.f_Duty_init t.d_Duty_init ["self", "label", "who", "act", "turns", "room"] (spI5 K) := by
  have G_Clause_init : FnOk P w K mg base CX0 1 t.f_Clause_init t.d_Clause_init ["self", "label", "who", "act"] (spI3 K) := (ok_Clause_init T).mono (by decide)
  refine T.Duty_init.fn.ok sc_Duty_init (fun vs H Q E h => (by first | (obtain ⟨rfl, _⟩ := h; rfl) | (obtain ⟨_, rfl, _⟩ := h; rfl) | (obtain ⟨_, _, rfl, _⟩ := h; rfl) | (obtain ⟨_, _, _, rfl, _⟩ := h; rfl) | (obtain ⟨_, _, _, _, rfl, _⟩ := h; rfl) | (obtain ⟨_, _, _, _, _, rfl, _⟩ := h; rfl) | (obtain ⟨_, _, _, _, _, _, rfl, _⟩ := h; rfl) | (obtain ⟨_, _, _, _, _, _, _, rfl, _⟩ := h; rfl) | (obtain ⟨_, _, _, _, _, _, _, _, rfl, _⟩ := h; rfl) | (obtain ⟨_, _, _, _, _, _, _, _, _, rfl, _⟩ := h; rfl) | (obtain ⟨_, _, _, _, _, _, _, _, _, _, rfl, _⟩ := h; rfl) | (obtain ⟨_, _, _, _, _, _, _, _, _, _, _, rfl, _⟩ := h; rfl) | (obtain ⟨_, _, _, _, _, _, _, _, _, _, _, _, rfl, _⟩ := h; rfl) | (obtain ⟨_, _, _, _, _, _, _, _, _, _, _, _, _, rfl, _⟩ := h; rfl) | (obtain ⟨_, _, _, _, _, _, _, _, _, _, _, _, _, _, rfl, _⟩ := h; rfl) | (obtain ⟨_, _, _, _, _, _, _, _, _, _, _, _, _, _, _, rfl, _⟩ := h; rfl) | (obtain ⟨_, _, _, _, _, _, _, _, _, _, _, _, _, _, _, _, rfl, _⟩ := h; rfl) | (obtain ⟨_, _, _, _, _, _, _, _, _, _, _, _, _, _, _, _, _, rfl, _⟩ := h; rfl) | (obtain ⟨_, _, _, _, _, _, _, _, _, _, _, _, _, _, _, _, _, _, rfl, _⟩ := h; rfl) | (obtain ⟨_, _, _, _, _, _, _, _, _, _, _, _, _, _, _, _, _, _, _, rfl, _⟩ := h; rfl) | (obtain ⟨_, _, _, _, _, _, _, _, _, _, _, _, _, _, _, _, _, _, _, _, rfl, _⟩ := h; rfl) | (obtain ⟨_, _, _, _, _, _, _, _, _, _, _, _, _, _, _, _, _, _, _, _, _, rfl, _⟩ := h; rfl) | (obtain ⟨_, _, _, _, _, _, _, _, _, _, _, _, _, _, _, _, _, _, _, _, _, _, rfl, _⟩ := h; rfl) | (obtain ⟨_, _, _, _, _, _, _, _, _, _, _, _, _, _, _, _, _, _, _, _, _, _, _, rfl, _⟩ := h; rfl))) (fun cdv A outer s H vs Q E hr h => ?_)
  obtain ⟨p, C, dx, fI, l, w, a, n, r, rfl, F, hp, k⟩ := h
  refine ⟨_, (pss_cons (ps_expr (pe_cmeth rfl T.m_Clause T.cm_Clause G_Clause_init hr T.Clause_init.bd .nil pass0 (pa_cons (pv 0) (pa_cons (pv 1) (pa_cons (pv 2) (pa_cons (pv 3) pa_nil))))))
      (pss_cons (ps_fld (pv 0) (pv 4) rfl)
      (pss_one (ps_fld (pv 0) (pv 5) rfl)))), ?_⟩
  refine ⟨_, rfl, _, rfl, _, rfl, _, rfl, p, C, dx, fI, l, w, a, rfl, F, hp, ?_⟩
  refine ⟨_, rfl, _, rfl, p, C, dx, _, rfl, upd_same, F.cl, F.nt, (by show 3 < 1000; decide), ?_⟩
  refine ⟨_, rfl, _, rfl, p, C, dx, _, rfl, upd_same, F.cl, F.nr, ?_, ?_⟩
  · have := length_putF ("turns" : Str) (.int n) (f3 l w a)
    have e : (f3 l w a).length = 3 := rfl
    omega
  · rw [upd_upd, upd_upd, put5]
    exact k
theorem sc_Ban_init : FnScope ["self", "label", "who", "act", "room"] ["self", "label", "who", "act", "room"] (defScope s_Ban_init) := ⟨rfl, rfl, rfl, by decide +kernel, rfl, by decide +kernel, by decide +kernel⟩
set_option maxHeartbeats 400000 in
theorem ok_Ban_init (T : Txt K mg t) : FnOk P w K mg base CX0 2 t.f_Ban_init t.d_Ban_init ["self", "label", "who", "act", "room"] (spI4 K) := by
  have G_Clause_init : FnOk P w K mg base CX0 1 t.f_Clause_init t.d_Clause_init ["self", "label", "who", "act"] (spI3 K) := (ok_Clause_init T).mono (by decide)
  refine T.Ban_init.fn.ok sc_Ban_init (fun vs H Q E h => (by first | (obtain ⟨rfl, _⟩ := h; rfl) | (obtain ⟨_, rfl, _⟩ := h; rfl) | (obtain ⟨_, _, rfl, _⟩ := h; rfl) | (obtain ⟨_, _, _, rfl, _⟩ := h; rfl) | (obtain ⟨_, _, _, _, rfl, _⟩ := h; rfl) | (obtain ⟨_, _, _, _, _, rfl, _⟩ := h; rfl) | (obtain ⟨_, _, _, _, _, _, rfl, _⟩ := h; rfl) | (obtain ⟨_, _, _, _, _, _, _, rfl, _⟩ := h; rfl) | (obtain ⟨_, _, _, _, _, _, _, _, rfl, _⟩ := h; rfl) | (obtain ⟨_, _, _, _, _, _, _, _, _, rfl, _⟩ := h; rfl) | (obtain ⟨_, _, _, _, _, _, _, _, _, _, rfl, _⟩ := h; rfl) | (obtain ⟨_, _, _, _, _, _, _, _, _, _, _, rfl, _⟩ := h; rfl) | (obtain ⟨_, _, _, _, _, _, _, _, _, _, _, _, rfl, _⟩ := h; rfl) | (obtain ⟨_, _, _, _, _, _, _, _, _, _, _, _, _, rfl, _⟩ := h; rfl) | (obtain ⟨_, _, _, _, _, _, _, _, _, _, _, _, _, _, rfl, _⟩ := h; rfl) | (obtain ⟨_, _, _, _, _, _, _, _, _, _, _, _, _, _, _, rfl, _⟩ := h; rfl) | (obtain ⟨_, _, _, _, _, _, _, _, _, _, _, _, _, _, _, _, rfl, _⟩ := h; rfl) | (obtain ⟨_, _, _, _, _, _, _, _, _, _, _, _, _, _, _, _, _, rfl, _⟩ := h; rfl) | (obtain ⟨_, _, _, _, _, _, _, _, _, _, _, _, _, _, _, _, _, _, rfl, _⟩ := h; rfl) | (obtain ⟨_, _, _, _, _, _, _, _, _, _, _, _, _, _, _, _, _, _, _, rfl, _⟩ := h; rfl) | (obtain ⟨_, _, _, _, _, _, _, _, _, _, _, _, _, _, _, _, _, _, _, _, rfl, _⟩ := h; rfl) | (obtain ⟨_, _, _, _, _, _, _, _, _, _, _, _, _, _, _, _, _, _, _, _, _, rfl, _⟩ := h; rfl) | (obtain ⟨_, _, _, _, _, _, _, _, _, _, _, _, _, _, _, _, _, _, _, _, _, _, rfl, _⟩ := h; rfl) | (obtain ⟨_, _, _, _, _, _, _, _, _, _, _, _, _, _, _, _, _, _, _, _, _, _, _, rfl, _⟩ := h; rfl))) (fun cdv A outer s H vs Q E hr h => ?_)
  obtain ⟨p, C, dx, fI, l, w, a, r, rfl, F, hp, k⟩ := h
  refine ⟨_, (pss_cons (ps_expr (pe_cmeth rfl T.m_Clause T.cm_Clause G_Clause_init hr T.Clause_init.bd .nil pass0 (pa_cons (pv 0) (pa_cons (pv 1) (pa_cons (pv 2) (pa_cons (pv 3) pa_nil))))))
      (pss_one (ps_fld (pv 0) (pv 4) rfl))), ?_⟩
  refine ⟨_, rfl, _, rfl, _, rfl, _, rfl, p, C, dx, fI, l, w, a, rfl, F, hp, ?_⟩
  refine ⟨_, rfl, _, rfl, p, C, dx, _, rfl, upd_same, F.cl, F.nr, (by show 3 < 1000; decide), ?_⟩
  rw [upd_upd, put4]
  exact k
theorem sc_Power_init : FnScope ["self", "label", "who", "act", "room"] ["self", "label", "who", "act", "room"] (defScope s_Power_init) := ⟨rfl, rfl, rfl, by decide +kernel, rfl, by decide +kernel, by decide +kernel⟩
set_option maxHeartbeats 400000 in
theorem ok_Power_init (T : Txt K mg t) : FnOk P w K mg base CX0 2 t.f_Power_init t.d_Power_init ["self", "label", "who", "act", "room"] (spI4 K) := by
  have G_Clause_init : FnOk P w K mg base CX0 1 t.f_Clause_init t.d_Clause_init ["self", "label", "who", "act"] (spI3 K) := (ok_Clause_init T).mono (by decide)
  refine T.Power_init.fn.ok sc_Power_init (fun vs H Q E h => (by first | (obtain ⟨rfl, _⟩ := h; rfl) | (obtain ⟨_, rfl, _⟩ := h; rfl) | (obtain ⟨_, _, rfl, _⟩ := h; rfl) | (obtain ⟨_, _, _, rfl, _⟩ := h; rfl) | (obtain ⟨_, _, _, _, rfl, _⟩ := h; rfl) | (obtain ⟨_, _, _, _, _, rfl, _⟩ := h; rfl) | (obtain ⟨_, _, _, _, _, _, rfl, _⟩ := h; rfl) | (obtain ⟨_, _, _, _, _, _, _, rfl, _⟩ := h; rfl) | (obtain ⟨_, _, _, _, _, _, _, _, rfl, _⟩ := h; rfl) | (obtain ⟨_, _, _, _, _, _, _, _, _, rfl, _⟩ := h; rfl) | (obtain ⟨_, _, _, _, _, _, _, _, _, _, rfl, _⟩ := h; rfl) | (obtain ⟨_, _, _, _, _, _, _, _, _, _, _, rfl, _⟩ := h; rfl) | (obtain ⟨_, _, _, _, _, _, _, _, _, _, _, _, rfl, _⟩ := h; rfl) | (obtain ⟨_, _, _, _, _, _, _, _, _, _, _, _, _, rfl, _⟩ := h; rfl) | (obtain ⟨_, _, _, _, _, _, _, _, _, _, _, _, _, _, rfl, _⟩ := h; rfl) | (obtain ⟨_, _, _, _, _, _, _, _, _, _, _, _, _, _, _, rfl, _⟩ := h; rfl) | (obtain ⟨_, _, _, _, _, _, _, _, _, _, _, _, _, _, _, _, rfl, _⟩ := h; rfl) | (obtain ⟨_, _, _, _, _, _, _, _, _, _, _, _, _, _, _, _, _, rfl, _⟩ := h; rfl) | (obtain ⟨_, _, _, _, _, _, _, _, _, _, _, _, _, _, _, _, _, _, rfl, _⟩ := h; rfl) | (obtain ⟨_, _, _, _, _, _, _, _, _, _, _, _, _, _, _, _, _, _, _, rfl, _⟩ := h; rfl) | (obtain ⟨_, _, _, _, _, _, _, _, _, _, _, _, _, _, _, _, _, _, _, _, rfl, _⟩ := h; rfl) | (obtain ⟨_, _, _, _, _, _, _, _, _, _, _, _, _, _, _, _, _, _, _, _, _, rfl, _⟩ := h; rfl) | (obtain ⟨_, _, _, _, _, _, _, _, _, _, _, _, _, _, _, _, _, _, _, _, _, _, rfl, _⟩ := h; rfl) | (obtain ⟨_, _, _, _, _, _, _, _, _, _, _, _, _, _, _, _, _, _, _, _, _, _, _, rfl, _⟩ := h; rfl))) (fun cdv A outer s H vs Q E hr h => ?_)
  obtain ⟨p, C, dx, fI, l, w, a, r, rfl, F, hp, k⟩ := h
  refine ⟨_, (pss_cons (ps_expr (pe_cmeth rfl T.m_Leave T.cm_Leave G_Clause_init hr T.Clause_init.bd .nil pass0 (pa_cons (pv 0) (pa_cons (pv 1) (pa_cons (pv 2) (pa_cons (pv 3) pa_nil))))))
      (pss_one (ps_fld (pv 0) (pv 4) rfl))), ?_⟩
  refine ⟨_, rfl, _, rfl, _, rfl, _, rfl, p, C, dx, fI, l, w, a, rfl, F, hp, ?_⟩
  refine ⟨_, rfl, _, rfl, p, C, dx, _, rfl, upd_same, F.cl, F.nr, (by show 3 < 1000; decide), ?_⟩
  rw [upd_upd, put4]
  exact k
/-! ### _law_made -/
theorem made_same {H : Hp} {x dx : Addr} {o o' : HO} (hx : H x = none) (hdx : H dx = none) (hne : dx ≠ x) : Same H (upd (upd (upd H dx (.own x)) x o) x o') := by
  rw [upd_upd]
  exact (Same.new1 hdx).new (by rw [upd_ne (Ne.symm hne)]; exact hx)

/-! ### words: data -/
end
theorem digs_ok : k_FIGURES.length = 10 ∧ k_FIGURES.cps.toList = [48, 49, 50, 51, 52, 53, 54, 55, 56, 57] := by decide +kernel
theorem lets_ok : k_LETTERS.length = 26 ∧ k_LETTERS.cps.toList.length = 26 ∧ ∀ c ∈ k_LETTERS.cps.toList, c < 128 := by decide +kernel
def has (z : Str) (c : Nat) : Bool := !(Builtin.Str.occurrences z ⟨#[c]⟩ 0 z.length 1).isEmpty
def writ (x z : Str) (m : Int) : Bool := decide (1 ≤ x.length) && decide ((x.length : Int) ≤ m) && x.cps.toList.all (has z)
def nameB (x : Str) : Bool := writ x k_LETTERS 8 && !inV (.str x) (ks_KEPT.map V.str)
theorem kept_flat : (ks_KEPT.map V.str).all flatV = true := by decide +kernel
theorem has_digs (c : Nat) : has k_FIGURES c = decide (48 ≤ c ∧ c ≤ 57) := by
  unfold has
  rw [StrLaws.found_one, digs_ok.2]
  by_cases h : 48 ≤ c ∧ c ≤ 57
  · rw [decide_eq_true h]
    simp
    omega
  · rw [decide_eq_false h]
    simp
    omega
def numV (x : Str) : Int := if writ x k_FIGURES 20 = true ∧ x.cps.toList.head? ≠ some 48 then ((PySem.NumText.digitsVal x.cps.toList : Nat) : Int) else 0
def spWrit : Sp := fun vs H Q _ => ∃ (x z : Str) (m : Int), vs = [.str x, .str z, .int m] ∧ x.length ≤ 400 ∧ z.length ≤ 100 ∧ ∀ H', Same H H' → Q (.bl (writ x z m)) H'
def spName : Sp := fun vs H Q _ => ∃ (x : Str), vs = [.str x] ∧ x.length ≤ 400 ∧ ∀ H', Same H H' → Q (.bl (nameB x)) H'
def spNum : Sp := fun vs H Q _ => ∃ (x : Str), vs = [.str x] ∧ x.length ≤ 400 ∧ ∀ H', Same H H' → Q (.int (numV x)) H'
theorem all_comp {x z : Str} {bs : List Bool} (hl : bs.length = x.length) (h : ∀ (i : Nat) (c : Nat) (b : Bool), x.cps.toList[i]? = some c → bs[i]? = some b → b = has z c) : bs.all id = x.cps.toList.all (has z) := by
  have e : bs = x.cps.toList.map (has z) := by
    apply List.ext_getElem?
    intro i
    rw [List.getElem?_map]
    cases q : x.cps.toList[i]? with
    | none =>
      have : x.cps.toList.length ≤ i := List.getElem?_eq_none_iff.mp q
      exact List.getElem?_eq_none_iff.mpr (by rw [hl]; simpa [Str.length] using this)
    | some c =>
      have hi : i < bs.length := by
        rw [hl]
        have := (List.getElem?_eq_some_iff.mp q).1
        simpa [Str.length] using this
      rw [List.getElem?_eq_getElem hi, Option.map_some, h i c _ q (List.getElem?_eq_getElem hi)]
  rw [e, List.all_map]
  rfl
theorem writ_digits {x : Str} {m : Int} (h : writ x k_FIGURES m = true) : 1 ≤ x.length ∧ (x.length : Int) ≤ m ∧ PySem.NumText.AllDigits x.cps.toList := by
  unfold writ at h
  rw [Bool.and_eq_true, Bool.and_eq_true] at h
  obtain ⟨⟨h1, h2⟩, h3⟩ := h
  refine ⟨of_decide_eq_true h1, of_decide_eq_true h2, fun c hc => ?_⟩
  have := List.all_eq_true.mp h3 c hc
  rw [has_digs] at this
  exact of_decide_eq_true this
theorem first_at {x : Str} (h : 1 ≤ x.length) : ∃ c, x.cps.toList.head? = some c ∧ atI x.cps.toList 0 = some c := by
  have hl : 0 < x.cps.toList.length := by have h' : 1 ≤ x.cps.size := h; rw [Array.length_toList]; omega
  cases e : x.cps.toList with
  | nil => rw [e] at hl; simp at hl
  | cons c r => exact ⟨c, rfl, atI_nat (xs := c :: r) (j := 0) (v := c) rfl⟩
theorem one_eq (c d : Nat) : decide (V.str ⟨#[c]⟩ = V.str ⟨#[d]⟩) = decide (c = d) := by
  by_cases h : c = d
  · subst h; simp
  · have : ¬ (V.str ⟨#[c]⟩ = V.str ⟨#[d]⟩) := fun q => h (by injection q with q; injection q with q; simpa using q)
    rw [decide_eq_false this, decide_eq_false h]
theorem zero_str : ("0" : Str) = ⟨#[48]⟩ := by decide +kernel
section
variable {P : Program} {w : World} {K : PySem.W.Frag} {mg : Str → Option Value} {base : Heap} {t : Adr}
theorem keptSeq (T : Txt K mg t) (H : Hp) : SqT K H t.k_KEPT (ks_KEPT.map V.str) := .inr T.o_KEPT
/-! ### written_with -/
theorem sc_v_written_with : FnScope ["word", "signs", "most"] ["word", "signs", "most"] (defScope s_v_written_with) := ⟨rfl, rfl, rfl, by decide +kernel, rfl, by decide +kernel, by decide +kernel⟩
set_option maxHeartbeats 400000 in
theorem ok_v_written_with (T : Txt K mg t) : FnOk P w K mg base CX0 1 t.f_v_written_with t.d_v_written_with ["word", "signs", "most"] spWrit := by
  refine T.v_written_with.fn.ok sc_v_written_with (fun vs H Q E h => (by first | (obtain ⟨rfl, _⟩ := h; rfl) | (obtain ⟨_, rfl, _⟩ := h; rfl) | (obtain ⟨_, _, rfl, _⟩ := h; rfl) | (obtain ⟨_, _, _, rfl, _⟩ := h; rfl) | (obtain ⟨_, _, _, _, rfl, _⟩ := h; rfl) | (obtain ⟨_, _, _, _, _, rfl, _⟩ := h; rfl) | (obtain ⟨_, _, _, _, _, _, rfl, _⟩ := h; rfl) | (obtain ⟨_, _, _, _, _, _, _, rfl, _⟩ := h; rfl) | (obtain ⟨_, _, _, _, _, _, _, _, rfl, _⟩ := h; rfl) | (obtain ⟨_, _, _, _, _, _, _, _, _, rfl, _⟩ := h; rfl) | (obtain ⟨_, _, _, _, _, _, _, _, _, _, rfl, _⟩ := h; rfl) | (obtain ⟨_, _, _, _, _, _, _, _, _, _, _, rfl, _⟩ := h; rfl) | (obtain ⟨_, _, _, _, _, _, _, _, _, _, _, _, rfl, _⟩ := h; rfl) | (obtain ⟨_, _, _, _, _, _, _, _, _, _, _, _, _, rfl, _⟩ := h; rfl) | (obtain ⟨_, _, _, _, _, _, _, _, _, _, _, _, _, _, rfl, _⟩ := h; rfl) | (obtain ⟨_, _, _, _, _, _, _, _, _, _, _, _, _, _, _, rfl, _⟩ := h; rfl) | (obtain ⟨_, _, _, _, _, _, _, _, _, _, _, _, _, _, _, _, rfl, _⟩ := h; rfl) | (obtain ⟨_, _, _, _, _, _, _, _, _, _, _, _, _, _, _, _, _, rfl, _⟩ := h; rfl) | (obtain ⟨_, _, _, _, _, _, _, _, _, _, _, _, _, _, _, _, _, _, rfl, _⟩ := h; rfl) | (obtain ⟨_, _, _, _, _, _, _, _, _, _, _, _, _, _, _, _, _, _, _, rfl, _⟩ := h; rfl) | (obtain ⟨_, _, _, _, _, _, _, _, _, _, _, _, _, _, _, _, _, _, _, _, rfl, _⟩ := h; rfl) | (obtain ⟨_, _, _, _, _, _, _, _, _, _, _, _, _, _, _, _, _, _, _, _, _, rfl, _⟩ := h; rfl) | (obtain ⟨_, _, _, _, _, _, _, _, _, _, _, _, _, _, _, _, _, _, _, _, _, _, rfl, _⟩ := h; rfl) | (obtain ⟨_, _, _, _, _, _, _, _, _, _, _, _, _, _, _, _, _, _, _, _, _, _, _, rfl, _⟩ := h; rfl))) (fun cdv A outer s H vs Q E hr h => ?_)
  obtain ⟨x, z, m, rfl, hx, hz, k⟩ := h
  refine ⟨_, (pss_cons (ps_if (PW.pt (pw_or (pt_cmpR op_lt (pe_callB call_len_str rfl T.b_len PySem.boot_len (pa_cons (pv 0) pa_nil)) pe_int (nomark _)) (pw_or1 (pt_cmpR op_gt (pe_callB call_len_str rfl T.b_len PySem.boot_len (pa_cons (pv 0) pa_nil)) (pv 2) (nomark _)))))
        (pss_one (ps_ret pe_bl)) pss_nil)
      (pss_one (ps_ret (pe_callB (call_all_list rfl) rfl T.b_all PyProof.Rows.boot_all (pa_cons (pe_lcomp (osc := defScope s_v_written_with) (N := ["word", "signs", "most"]) (names := ["signs"]) (caps := [1]) rfl rfl rfl ⟨rfl, by decide +kernel, by decide +kernel, by decide +kernel, rfl, rfl, by decide +kernel, by decide +kernel⟩ (pi_str (pv 0)) (fun _ _ _ => (pe_cmpR op_in_str (pv 0) (pv 1) rfl))) pa_nil))))), ?_⟩
  refine ⟨_, rfl, x, rfl, line_small (by omega), _, _, rfl, rfl, _, rfl, ?_⟩
  refine ite2 (fun h1 => iteT ?_) (fun h1 => ?_)
  · have e : writ x z m = false := by
      have : ¬ (1 ≤ x.length) := by have := of_decide_eq_true h1; omega
      simp [writ, this]
    have := k H (Same.refl H)
    rw [e] at this
    exact this
  refine ⟨_, rfl, x, rfl, line_small (by omega), _, rfl, _, _, rfl, rfl, _, rfl, ?_⟩
  refine ite2 (fun h2 => ?_) (fun h2 => ?_)
  · have e : writ x z m = false := by
      have : ¬ ((x.length : Int) ≤ m) := by have := of_decide_eq_true h2; omega
      simp [writ, this]
    have := k H (Same.refl H)
    rw [e] at this
    exact this
  have e1 : 1 ≤ x.length := by have : ¬ ((x.length : Int) < 1) := fun q => h1 (decide_eq_true q); omega
  have e2 : (x.length : Int) ≤ m := by have : ¬ (m < (x.length : Int)) := fun q => h2 (decide_eq_true q); omega
  refine ⟨_, rfl, x, rfl, comp_seq (seqj_str (z := x)) (fun _ y v => ∀ c, y = .str ⟨#[c]⟩ → v = .bl (has z c)) (line_small (by simp [Str.length] at hx ⊢; omega)) ?_ ?_⟩
  · intro i y H' Q' hy s' kk
    rw [List.getElem?_map] at hy
    cases q : x.cps.toList[i]? with
    | none => rw [q] at hy; cases hy
    | some c =>
      rw [q] at hy
      cases hy
      refine ⟨_, rfl, _, rfl, _, _, rfl, rfl, kk _ _ (Same.refl _) fun c' e => ?_⟩
      have : c = c' := by simpa using e
      subst this
      rfl
  · intro D H' ys s' hD hy hlen hp
    have hlen' : ys.length = x.length := by simpa [Str.length] using hlen
    obtain ⟨bs, rfl⟩ := bls_of ys fun v hv => by
      obtain ⟨i, hi, e⟩ := List.getElem_of_mem hv
      have hix : i < x.cps.toList.length := by rw [hlen'] at hi; simpa [Str.length] using hi
      exact ⟨_, hp i _ v (by rw [List.getElem?_map, List.getElem?_eq_getElem hix]; rfl) (by rw [List.getElem?_eq_getElem hi, e]) _ rfl⟩
    refine ⟨D, bs, rfl, SqL.of hy, ?_⟩
    have e3 : bs.all id = x.cps.toList.all (has z) := all_comp (by simpa using hlen') fun i c b q1 q2 => by
      have := hp i (.str ⟨#[c]⟩) (.bl b) (by rw [List.getElem?_map, q1]; rfl) (by rw [List.getElem?_map, q2]; rfl) c rfl
      simpa using this
    have := k H' s'
    rw [show writ x z m = bs.all id by rw [e3]; simp [writ, e1, e2]] at this
    exact this
/-! ### is_name -/
theorem sc_v_is_name : FnScope ["word"] ["word"] (defScope s_v_is_name) := ⟨rfl, rfl, rfl, by decide +kernel, rfl, by decide +kernel, by decide +kernel⟩
set_option maxHeartbeats 400000 in
theorem ok_v_is_name (T : Txt K mg t) : FnOk P w K mg base CX0 2 t.f_v_is_name t.d_v_is_name ["word"] spName := by
  have G_v_written_with : FnOk P w K mg base CX0 1 t.f_v_written_with t.d_v_written_with ["word", "signs", "most"] spWrit := (ok_v_written_with T).mono (by decide)
  refine T.v_is_name.fn.ok sc_v_is_name (fun vs H Q E h => (by first | (obtain ⟨rfl, _⟩ := h; rfl) | (obtain ⟨_, rfl, _⟩ := h; rfl) | (obtain ⟨_, _, rfl, _⟩ := h; rfl) | (obtain ⟨_, _, _, rfl, _⟩ := h; rfl) | (obtain ⟨_, _, _, _, rfl, _⟩ := h; rfl) | (obtain ⟨_, _, _, _, _, rfl, _⟩ := h; rfl) | (obtain ⟨_, _, _, _, _, _, rfl, _⟩ := h; rfl) | (obtain ⟨_, _, _, _, _, _, _, rfl, _⟩ := h; rfl) | (obtain ⟨_, _, _, _, _, _, _, _, rfl, _⟩ := h; rfl) | (obtain ⟨_, _, _, _, _, _, _, _, _, rfl, _⟩ := h; rfl) | (obtain ⟨_, _, _, _, _, _, _, _, _, _, rfl, _⟩ := h; rfl) | (obtain ⟨_, _, _, _, _, _, _, _, _, _, _, rfl, _⟩ := h; rfl) | (obtain ⟨_, _, _, _, _, _, _, _, _, _, _, _, rfl, _⟩ := h; rfl) | (obtain ⟨_, _, _, _, _, _, _, _, _, _, _, _, _, rfl, _⟩ := h; rfl) | (obtain ⟨_, _, _, _, _, _, _, _, _, _, _, _, _, _, rfl, _⟩ := h; rfl) | (obtain ⟨_, _, _, _, _, _, _, _, _, _, _, _, _, _, _, rfl, _⟩ := h; rfl) | (obtain ⟨_, _, _, _, _, _, _, _, _, _, _, _, _, _, _, _, rfl, _⟩ := h; rfl) | (obtain ⟨_, _, _, _, _, _, _, _, _, _, _, _, _, _, _, _, _, rfl, _⟩ := h; rfl) | (obtain ⟨_, _, _, _, _, _, _, _, _, _, _, _, _, _, _, _, _, _, rfl, _⟩ := h; rfl) | (obtain ⟨_, _, _, _, _, _, _, _, _, _, _, _, _, _, _, _, _, _, _, rfl, _⟩ := h; rfl) | (obtain ⟨_, _, _, _, _, _, _, _, _, _, _, _, _, _, _, _, _, _, _, _, rfl, _⟩ := h; rfl) | (obtain ⟨_, _, _, _, _, _, _, _, _, _, _, _, _, _, _, _, _, _, _, _, _, rfl, _⟩ := h; rfl) | (obtain ⟨_, _, _, _, _, _, _, _, _, _, _, _, _, _, _, _, _, _, _, _, _, _, rfl, _⟩ := h; rfl) | (obtain ⟨_, _, _, _, _, _, _, _, _, _, _, _, _, _, _, _, _, _, _, _, _, _, _, rfl, _⟩ := h; rfl))) (fun cdv A outer s H vs Q E hr h => ?_)
  obtain ⟨x, rfl, hx, k⟩ := h
  refine ⟨_, (pss_one (ps_ret (pe_and (pe_call G_v_written_with hr rfl T.v_written_with.mg T.v_written_with.fn.kp T.v_written_with.bd .nil pass0 (pa_cons (pv 0) (pa_cons (pe_glob rfl (T.g_LETTERS).choose_spec (v := .str k_LETTERS) ⟨_, rfl⟩) (pa_cons (pe_glob rfl (T.g_MOST_LETTERS).choose_spec (v := .int 8) ⟨_, rfl⟩) pa_nil)))) (pe_one (pe_cmpR (opK_notIn (K := K) rfl) (pv 0) (pe_glob rfl T.g_KEPT (v := .ref t.k_KEPT) rfl) rfl))))), ?_⟩
  refine ⟨_, rfl, x, k_LETTERS, 8, rfl, hx, by decide +kernel, fun H' s' => ⟨_, rfl, ?_⟩⟩
  refine ite2 (fun h1 => ?_) (fun h1 => ?_)
  · refine ⟨_, rfl, _, _, rfl, .inr (keptSeq T H'), rfl, kept_flat, ?_⟩
    have := k H' s'
    rw [show nameB x = !inV (.str x) (ks_KEPT.map V.str) by simp [nameB, h1]] at this
    exact this
  · have := k H' s'
    rw [show nameB x = false by simp [nameB, h1]] at this
    exact this
/-! ### number_of -/
theorem sc_v_number_of : FnScope ["word"] ["word"] (defScope s_v_number_of) := ⟨rfl, rfl, rfl, by decide +kernel, rfl, by decide +kernel, by decide +kernel⟩
set_option maxHeartbeats 400000 in
theorem ok_v_number_of (T : Txt K mg t) : FnOk P w K mg base CX0 2 t.f_v_number_of t.d_v_number_of ["word"] spNum := by
  have G_v_written_with : FnOk P w K mg base CX0 1 t.f_v_written_with t.d_v_written_with ["word", "signs", "most"] spWrit := (ok_v_written_with T).mono (by decide)
  refine T.v_number_of.fn.ok sc_v_number_of (fun vs H Q E h => (by first | (obtain ⟨rfl, _⟩ := h; rfl) | (obtain ⟨_, rfl, _⟩ := h; rfl) | (obtain ⟨_, _, rfl, _⟩ := h; rfl) | (obtain ⟨_, _, _, rfl, _⟩ := h; rfl) | (obtain ⟨_, _, _, _, rfl, _⟩ := h; rfl) | (obtain ⟨_, _, _, _, _, rfl, _⟩ := h; rfl) | (obtain ⟨_, _, _, _, _, _, rfl, _⟩ := h; rfl) | (obtain ⟨_, _, _, _, _, _, _, rfl, _⟩ := h; rfl) | (obtain ⟨_, _, _, _, _, _, _, _, rfl, _⟩ := h; rfl) | (obtain ⟨_, _, _, _, _, _, _, _, _, rfl, _⟩ := h; rfl) | (obtain ⟨_, _, _, _, _, _, _, _, _, _, rfl, _⟩ := h; rfl) | (obtain ⟨_, _, _, _, _, _, _, _, _, _, _, rfl, _⟩ := h; rfl) | (obtain ⟨_, _, _, _, _, _, _, _, _, _, _, _, rfl, _⟩ := h; rfl) | (obtain ⟨_, _, _, _, _, _, _, _, _, _, _, _, _, rfl, _⟩ := h; rfl) | (obtain ⟨_, _, _, _, _, _, _, _, _, _, _, _, _, _, rfl, _⟩ := h; rfl) | (obtain ⟨_, _, _, _, _, _, _, _, _, _, _, _, _, _, _, rfl, _⟩ := h; rfl) | (obtain ⟨_, _, _, _, _, _, _, _, _, _, _, _, _, _, _, _, rfl, _⟩ := h; rfl) | (obtain ⟨_, _, _, _, _, _, _, _, _, _, _, _, _, _, _, _, _, rfl, _⟩ := h; rfl) | (obtain ⟨_, _, _, _, _, _, _, _, _, _, _, _, _, _, _, _, _, _, rfl, _⟩ := h; rfl) | (obtain ⟨_, _, _, _, _, _, _, _, _, _, _, _, _, _, _, _, _, _, _, rfl, _⟩ := h; rfl) | (obtain ⟨_, _, _, _, _, _, _, _, _, _, _, _, _, _, _, _, _, _, _, _, rfl, _⟩ := h; rfl) | (obtain ⟨_, _, _, _, _, _, _, _, _, _, _, _, _, _, _, _, _, _, _, _, _, rfl, _⟩ := h; rfl) | (obtain ⟨_, _, _, _, _, _, _, _, _, _, _, _, _, _, _, _, _, _, _, _, _, _, rfl, _⟩ := h; rfl) | (obtain ⟨_, _, _, _, _, _, _, _, _, _, _, _, _, _, _, _, _, _, _, _, _, _, _, rfl, _⟩ := h; rfl))) (fun cdv A outer s H vs Q E hr h => ?_)
  obtain ⟨x, rfl, hx, k⟩ := h
  refine ⟨_, (pss_cons (ps_if (PW.pt (pw_or (pt_not (pt_val (pe_call G_v_written_with hr rfl T.v_written_with.mg T.v_written_with.fn.kp T.v_written_with.bd .nil pass0 (pa_cons (pv 0) (pa_cons (pe_glob rfl (T.g_FIGURES).choose_spec (v := .str k_FIGURES) ⟨_, rfl⟩) (pa_cons (pe_glob rfl (T.g_MOST_FIGURES).choose_spec (v := .int 20) ⟨_, rfl⟩) pa_nil)))))) (pw_or1 (pt_cmpR op_eq (pe_ix ix_str (pv 0) pe_int (fun _ _ => rfl)) pe_str (nomark _)))))
        (pss_one (ps_ret pe_int)) pss_nil)
      (pss_one (ps_ret (pe_callTy call_int_text rfl T.b_int PyProof.Rows.boot_int (pa_cons (pv 0) pa_nil))))), ?_⟩
  refine ⟨_, rfl, x, k_FIGURES, 20, rfl, hx, by rw [digs_ok.1]; decide, fun H' s' => ⟨_, rfl, ?_⟩⟩
  cases hw : writ x k_FIGURES 20 with
  | false =>
    refine iteT (iteT ?_)
    have := k H' s'
    rw [show numV x = 0 by unfold numV; rw [if_neg (by rw [hw]; simp)]] at this
    exact this
  | true =>
    refine iteF ?_
    obtain ⟨h1, h2, h3⟩ := writ_digits hw
    obtain ⟨c, e1, e2⟩ := first_at h1
    refine ⟨_, rfl, x, _, c, rfl, rfl, line_small (by omega), e2, rfl, _, rfl, ?_⟩
    have hz := one_eq c 48
    rw [← zero_str] at hz
    refine ite2 (fun h4 => ?_) (fun h4 => ?_)
    · have h4' : decide (V.str ⟨#[c]⟩ = V.str ("0" : Str)) = true := h4
      rw [hz] at h4'
      have hc : c = 48 := of_decide_eq_true h4'
      have := k H' s'
      rw [show numV x = 0 by unfold numV; rw [if_neg (by rw [e1, hc]; simp)]] at this
      exact this
    · have hc : c ≠ 48 := fun q => h4 (by show decide (V.str ⟨#[c]⟩ = V.str ("0" : Str)) = true; rw [hz]; exact decide_eq_true q)
      have hne : x.cps.toList ≠ [] := fun q => by rw [q] at e1; cases e1
      refine ⟨_, rfl, x, _, rfl, PySem.intText_digits h3 hne (by omega), by omega, ?_⟩
      have := k H' s'
      rw [show numV x = ((PySem.NumText.digitsVal x.cps.toList : Nat) : Int) by unfold numV; rw [if_pos ⟨hw, by rw [e1]; simpa using hc⟩]] at this
      exact this


end
local macro_rules | `(tactic| walk_at "at") => `(tactic| first | assumption | exact At.same (by assumption) (by walk_at "sm"))
local macro_rules | `(tactic| walk_at "fld") => `(tactic| first
  | with_reducible exact At.fl (by assumption) (by walk_at "at") | with_reducible exact At.fw (by assumption) (by walk_at "at") | with_reducible exact At.fa (by assumption) (by walk_at "at")
  | with_reducible exact At.ft (by assumption) (by walk_at "at") | with_reducible exact At.fr (by assumption) (by walk_at "at") (by first | assumption | omega))
section
variable {P : Program} {w : World} {K : PySem.W.Frag} {mg : Str → Option Value} {base : Heap} {t : Adr}
/-! ### rows: data -/
end
def fitsP (x p : Str) : Bool := if p = "NAME" then nameB x else if p = "WHO" then nameB x || decide (x = "any") else if p = "NUMBER" then decide (numV x > 0) else decide (x = p)
def fitsF (ws fs : List Str) : Bool := decide (ws.length = fs.length) && (ws.zip fs).all fun p => fitsP p.1 p.2
def areN (ws : List Str) (m : Int) : Bool := decide (1 ≤ ws.length) && decide ((ws.length : Int) ≤ m) && ws.all nameB
structure Sh (ws : List Str) : Prop where
  few : ws.length ≤ 200
  short : ∀ x ∈ ws, x.length ≤ 400
theorem Sh.drop {ws : List Str} (h : Sh ws) (n : Nat) : Sh (ws.drop n) := ⟨by have := h.few; rw [List.length_drop]; omega, fun x hx => h.short x (List.mem_of_mem_drop hx)⟩
theorem Sh.take {ws : List Str} (h : Sh ws) (n : Nat) : Sh (ws.take n) := ⟨by have := h.few; rw [List.length_take]; omega, fun x hx => h.short x (List.mem_of_mem_take hx)⟩
theorem str_dec (a b : Str) : decide (V.str a = V.str b) = decide (a = b) := by
  by_cases h : a = b
  · subst h; simp
  · have : ¬ (V.str a = V.str b) := fun q => h (by injection q)
    rw [decide_eq_false this, decide_eq_false h]
theorem str_iff {a b : Str} (h : decide (V.str a = V.str b) = true) : a = b := by rw [str_dec] at h; exact of_decide_eq_true h
theorem str_nif {a b : Str} (h : ¬ decide (V.str a = V.str b) = true) : a ≠ b := fun q => h (by rw [str_dec]; exact decide_eq_true q)
theorem str_ne1 {a b : Str} (h : (!decide (V.str a = V.str b)) = true) : a ≠ b := fun q => by subst q; simp at h
theorem str_ne0 {a b : Str} (h : ¬ (!decide (V.str a = V.str b)) = true) : a = b := by
  rw [str_dec] at h
  by_cases q : a = b
  · exact q
  · exact absurd (by rw [decide_eq_false q]; rfl) h
theorem not_t {b : Bool} (h : (!b) = true) : b = false := by cases b; rfl; cases h
theorem not_f {b : Bool} (h : ¬ (!b) = true) : b = true := by cases b; exact absurd rfl h; rfl
theorem wd_mem {ws : List Str} {i : Nat} (h : i < ws.length) : ws.getD i "" ∈ ws := by
  rw [List.getD_eq_getElem?_getD, List.getElem?_eq_getElem h]
  exact List.getElem_mem h
def spPlace : Sp := fun vs H Q _ => ∃ (x p : Str), vs = [.str x, .str p] ∧ x.length ≤ 400 ∧ ∀ H', Same H H' → Q (.bl (fitsP x p)) H'
def spForm (K : PySem.W.Frag) : Sp := fun vs H Q _ => ∃ (a b : Addr) (ws fs : List Str), vs = [.ref a, .ref b] ∧ SqL K H a (ws.map V.str) ∧ SqL K H b (fs.map V.str) ∧ Sh ws ∧ ∀ H', Same H H' → Q (.bl (fitsF ws fs)) H'
def spAre (K : PySem.W.Frag) : Sp := fun vs H Q _ => ∃ (a : Addr) (m : Int) (ws : List Str), vs = [.ref a, .int m] ∧ SqL K H a (ws.map V.str) ∧ Sh ws ∧ ∀ H', Same H H' → Q (.bl (areN ws m)) H'
theorem all_map {α : Type} {xs : List α} {bs : List Bool} {f : α → Bool} (hl : bs.length = xs.length) (h : ∀ (i : Nat) x b, xs[i]? = some x → bs[i]? = some b → b = f x) : bs.all id = xs.all f := by
  have e : bs = xs.map f := by
    apply List.ext_getElem?
    intro i
    rw [List.getElem?_map]
    cases q : xs[i]? with
    | none => exact List.getElem?_eq_none_iff.mpr (by rw [hl]; exact List.getElem?_eq_none_iff.mp q)
    | some c =>
      have hi : i < bs.length := by rw [hl]; exact (List.getElem?_eq_some_iff.mp q).1
      rw [List.getElem?_eq_getElem hi, Option.map_some, h i c _ q (List.getElem?_eq_getElem hi)]
  rw [e, List.all_map]
  rfl
section
variable {P : Program} {w : World} {K : PySem.W.Frag} {mg : Str → Option Value} {base : Heap} {t : Adr}
/-! ### fits_place -/
theorem sc_v_fits_place : FnScope ["word", "place"] ["word", "place"] (defScope s_v_fits_place) := ⟨rfl, rfl, rfl, by decide +kernel, rfl, by decide +kernel, by decide +kernel⟩
set_option maxHeartbeats 400000 in
theorem ok_v_fits_place (T : Txt K mg t) : FnOk P w K mg base CX0 3 t.f_v_fits_place t.d_v_fits_place ["word", "place"] spPlace := by
  have G_v_is_name : FnOk P w K mg base CX0 2 t.f_v_is_name t.d_v_is_name ["word"] spName := (ok_v_is_name T).mono (by decide)
  have G_v_number_of : FnOk P w K mg base CX0 2 t.f_v_number_of t.d_v_number_of ["word"] spNum := (ok_v_number_of T).mono (by decide)
  refine T.v_fits_place.fn.ok sc_v_fits_place (fun vs H Q E h => (by first | (obtain ⟨rfl, _⟩ := h; rfl) | (obtain ⟨_, rfl, _⟩ := h; rfl) | (obtain ⟨_, _, rfl, _⟩ := h; rfl) | (obtain ⟨_, _, _, rfl, _⟩ := h; rfl) | (obtain ⟨_, _, _, _, rfl, _⟩ := h; rfl) | (obtain ⟨_, _, _, _, _, rfl, _⟩ := h; rfl) | (obtain ⟨_, _, _, _, _, _, rfl, _⟩ := h; rfl) | (obtain ⟨_, _, _, _, _, _, _, rfl, _⟩ := h; rfl) | (obtain ⟨_, _, _, _, _, _, _, _, rfl, _⟩ := h; rfl) | (obtain ⟨_, _, _, _, _, _, _, _, _, rfl, _⟩ := h; rfl) | (obtain ⟨_, _, _, _, _, _, _, _, _, _, rfl, _⟩ := h; rfl) | (obtain ⟨_, _, _, _, _, _, _, _, _, _, _, rfl, _⟩ := h; rfl) | (obtain ⟨_, _, _, _, _, _, _, _, _, _, _, _, rfl, _⟩ := h; rfl) | (obtain ⟨_, _, _, _, _, _, _, _, _, _, _, _, _, rfl, _⟩ := h; rfl) | (obtain ⟨_, _, _, _, _, _, _, _, _, _, _, _, _, _, rfl, _⟩ := h; rfl) | (obtain ⟨_, _, _, _, _, _, _, _, _, _, _, _, _, _, _, rfl, _⟩ := h; rfl) | (obtain ⟨_, _, _, _, _, _, _, _, _, _, _, _, _, _, _, _, rfl, _⟩ := h; rfl) | (obtain ⟨_, _, _, _, _, _, _, _, _, _, _, _, _, _, _, _, _, rfl, _⟩ := h; rfl) | (obtain ⟨_, _, _, _, _, _, _, _, _, _, _, _, _, _, _, _, _, _, rfl, _⟩ := h; rfl) | (obtain ⟨_, _, _, _, _, _, _, _, _, _, _, _, _, _, _, _, _, _, _, rfl, _⟩ := h; rfl) | (obtain ⟨_, _, _, _, _, _, _, _, _, _, _, _, _, _, _, _, _, _, _, _, rfl, _⟩ := h; rfl) | (obtain ⟨_, _, _, _, _, _, _, _, _, _, _, _, _, _, _, _, _, _, _, _, _, rfl, _⟩ := h; rfl) | (obtain ⟨_, _, _, _, _, _, _, _, _, _, _, _, _, _, _, _, _, _, _, _, _, _, rfl, _⟩ := h; rfl) | (obtain ⟨_, _, _, _, _, _, _, _, _, _, _, _, _, _, _, _, _, _, _, _, _, _, _, rfl, _⟩ := h; rfl))) (fun cdv A outer s H vs Q E hr h => ?_)
  obtain ⟨x, p, rfl, hx, k⟩ := h
  refine ⟨_, (pss_cons (ps_if (pt_cmpR op_eq (pv 1) pe_str (nomark _))
        (pss_one (ps_ret (pe_call G_v_is_name hr rfl T.v_is_name.mg T.v_is_name.fn.kp T.v_is_name.bd .nil pass0 (pa_cons (pv 0) pa_nil)))) pss_nil)
      (pss_cons (ps_if (pt_cmpR op_eq (pv 1) pe_str (nomark _))
        (pss_one (ps_ret (pe_or (pe_call G_v_is_name hr rfl T.v_is_name.mg T.v_is_name.fn.kp T.v_is_name.bd .nil pass0 (pa_cons (pv 0) pa_nil)) (pe_one (pe_cmpR op_eq (pv 0) pe_str (nomark _)))))) pss_nil)
      (pss_cons (ps_if (pt_cmpR op_eq (pv 1) pe_str (nomark _))
        (pss_one (ps_ret (pe_cmpR op_gt (pe_call G_v_number_of hr rfl T.v_number_of.mg T.v_number_of.fn.kp T.v_number_of.bd .nil pass0 (pa_cons (pv 0) pa_nil)) pe_int (nomark _)))) pss_nil)
      (pss_one (ps_ret (pe_cmpR op_eq (pv 0) (pv 1) (nomark _))))))), ?_⟩
  walk_at "rd"
  refine ite2 (fun h1 => ?_) (fun h1 => ?_)
  · have e := str_iff h1
    subst e
    walk_at "rd"
    intro H' s'
    have := k H' s'
    unfold fitsP at this
    rw [if_pos rfl] at this
    exact this
  have n1 := str_nif h1
  walk_at "rd"
  refine ite2 (fun h2 => ?_) (fun h2 => ?_)
  · have e := str_iff h2
    subst e
    walk_at "rd"
    intro H' s'
    have := k H' s'
    unfold fitsP at this
    rw [if_neg n1, if_pos rfl] at this
    refine ⟨_, rfl, ?_⟩
    refine ite2 (fun h3 => ?_) (fun h3 => ?_)
    · rw [h3] at this; exact this
    · walk_at "rd"
      rw [str_dec]
      rw [Bool.eq_false_iff.mpr h3] at this
      exact this
  have n2 := str_nif h2
  walk_at "rd"
  refine ite2 (fun h3 => ?_) (fun h3 => ?_)
  · have e := str_iff h3
    subst e
    walk_at "rd"
    intro H' s'
    walk_at "rd"
    have := k H' s'
    unfold fitsP at this
    rw [if_neg n1, if_neg n2, if_pos rfl] at this
    exact this
  have n3 := str_nif h3
  walk_at "rd"
  have := k H (Same.refl H)
  unfold fitsP at this
  rw [if_neg n1, if_neg n2, if_neg n3] at this
  rw [str_dec]
  exact this
/-! ### fits_form -/
theorem sc_v_fits_form : FnScope ["words", "form"] ["words", "form"] (defScope s_v_fits_form) := ⟨rfl, rfl, rfl, by decide +kernel, rfl, by decide +kernel, by decide +kernel⟩
set_option maxHeartbeats 400000 in
theorem ok_v_fits_form (T : Txt K mg t) : FnOk P w K mg base CX0 4 t.f_v_fits_form t.d_v_fits_form ["words", "form"] (spForm K) := by
  have G_v_fits_place : FnOk P w K mg base CX0 3 t.f_v_fits_place t.d_v_fits_place ["word", "place"] spPlace := (ok_v_fits_place T).mono (by decide)
  refine T.v_fits_form.fn.ok sc_v_fits_form (fun vs H Q E h => (by first | (obtain ⟨rfl, _⟩ := h; rfl) | (obtain ⟨_, rfl, _⟩ := h; rfl) | (obtain ⟨_, _, rfl, _⟩ := h; rfl) | (obtain ⟨_, _, _, rfl, _⟩ := h; rfl) | (obtain ⟨_, _, _, _, rfl, _⟩ := h; rfl) | (obtain ⟨_, _, _, _, _, rfl, _⟩ := h; rfl) | (obtain ⟨_, _, _, _, _, _, rfl, _⟩ := h; rfl) | (obtain ⟨_, _, _, _, _, _, _, rfl, _⟩ := h; rfl) | (obtain ⟨_, _, _, _, _, _, _, _, rfl, _⟩ := h; rfl) | (obtain ⟨_, _, _, _, _, _, _, _, _, rfl, _⟩ := h; rfl) | (obtain ⟨_, _, _, _, _, _, _, _, _, _, rfl, _⟩ := h; rfl) | (obtain ⟨_, _, _, _, _, _, _, _, _, _, _, rfl, _⟩ := h; rfl) | (obtain ⟨_, _, _, _, _, _, _, _, _, _, _, _, rfl, _⟩ := h; rfl) | (obtain ⟨_, _, _, _, _, _, _, _, _, _, _, _, _, rfl, _⟩ := h; rfl) | (obtain ⟨_, _, _, _, _, _, _, _, _, _, _, _, _, _, rfl, _⟩ := h; rfl) | (obtain ⟨_, _, _, _, _, _, _, _, _, _, _, _, _, _, _, rfl, _⟩ := h; rfl) | (obtain ⟨_, _, _, _, _, _, _, _, _, _, _, _, _, _, _, _, rfl, _⟩ := h; rfl) | (obtain ⟨_, _, _, _, _, _, _, _, _, _, _, _, _, _, _, _, _, rfl, _⟩ := h; rfl) | (obtain ⟨_, _, _, _, _, _, _, _, _, _, _, _, _, _, _, _, _, _, rfl, _⟩ := h; rfl) | (obtain ⟨_, _, _, _, _, _, _, _, _, _, _, _, _, _, _, _, _, _, _, rfl, _⟩ := h; rfl) | (obtain ⟨_, _, _, _, _, _, _, _, _, _, _, _, _, _, _, _, _, _, _, _, rfl, _⟩ := h; rfl) | (obtain ⟨_, _, _, _, _, _, _, _, _, _, _, _, _, _, _, _, _, _, _, _, _, rfl, _⟩ := h; rfl) | (obtain ⟨_, _, _, _, _, _, _, _, _, _, _, _, _, _, _, _, _, _, _, _, _, _, rfl, _⟩ := h; rfl) | (obtain ⟨_, _, _, _, _, _, _, _, _, _, _, _, _, _, _, _, _, _, _, _, _, _, _, rfl, _⟩ := h; rfl))) (fun cdv A outer s H vs Q E hr h => ?_)
  obtain ⟨a, b, ws, fs, rfl, hA, hB, hS, k⟩ := h
  refine ⟨_, (pss_cons (ps_if (pt_cmpR op_ne (pe_callB (callK_len (K := K) rfl) rfl T.b_len PySem.boot_len (pa_cons (pv 0) pa_nil)) (pe_callB (callK_len (K := K) rfl) rfl T.b_len PySem.boot_len (pa_cons (pv 1) pa_nil)) (nomark _))
        (pss_one (ps_ret pe_bl)) pss_nil)
      (pss_one (ps_ret (pe_callB (call_all_list rfl) rfl T.b_all PyProof.Rows.boot_all (pa_cons (pe_lcompG (osc := defScope s_v_fits_form) (N := ["words", "form"]) (xs := ["word", "place"]) (names := []) (caps := []) rfl rfl rfl ⟨rfl, by decide +kernel, by decide +kernel, by decide +kernel, by decide +kernel, rfl, by decide +kernel, by decide +kernel⟩ (piK_zip (K := K) rfl rfl T.b_zip (pa_cons (pv 0) (pa_cons (pv 1) pa_nil)) PyProof.Rows.boot_zip) (fun _ _ _ => (pg_tupK (K := K) (n := 2) rfl rfl (pgs_cons (pg_name (i := 0) (show (["word", "place"] : List Str).Nodup from by decide +kernel) rfl (.inl (locG rfl)) (.inr (locG rfl))) (pgs_cons (pg_name (i := 1) (show (["word", "place"] : List Str).Nodup from by decide +kernel) rfl (.inl (locG rfl)) (.inr (locG rfl))) pgs_nil)) rfl rfl)) (fun _ _ _ => pts_nil) (fun _ _ _ => (pe_call G_v_fits_place hr rfl T.v_fits_place.mg T.v_fits_place.fn.kp T.v_fits_place.bd .nil pass0 (pa_cons (pv 0) (pa_cons (pv 1) pa_nil))))) pa_nil))))), ?_⟩
  refine ⟨_, rfl, a, _, rfl, .inl hA, _, rfl, b, _, rfl, .inl hB, rfl, _, rfl, ?_⟩
  rw [List.length_map, List.length_map]
  refine ite2 (fun h1 => ?_) (fun h1 => ?_)
  · have := k H (Same.refl H)
    have e : ¬ ws.length = fs.length := by
      intro q; rw [q] at h1; simp at h1
    unfold fitsF at this
    rw [decide_eq_false e] at this
    exact this
  have hl : ws.length = fs.length := by
    by_cases q : ws.length = fs.length
    · exact q
    · exact absurd (by simp; omega) h1
  refine ⟨_, rfl, _, rfl, a, b, _, _, rfl, hA, hB, ?_⟩
  refine comp_zip hA hB (fun x y v => ∀ x' y', x = .str x' → y = .str y' → v = .bl (fitsP x' y')) (line_small (by have := hS.few; rw [List.length_map]; omega)) ?_ ?_
  · intro i x y H' Q' e1 e2 s' kk
    rw [List.getElem?_map] at e1 e2
    cases q1 : ws[i]? with
    | none => rw [q1] at e1; cases e1
    | some x' =>
      cases q2 : fs[i]? with
      | none => rw [q2] at e2; cases e2
      | some y' =>
        rw [q1] at e1
        rw [q2] at e2
        cases e1
        cases e2
        refine ⟨_, rfl, _, rfl, x', y', rfl, hS.short x' (List.mem_of_getElem? q1), fun H4 s4 => kk _ _ s4 fun a b ea eb => ?_⟩
        cases ea
        cases eb
        rfl
  · intro D H' vs s' hD hv hvl hp
    rw [List.length_map, List.length_map, hl, Nat.min_self] at hvl
    obtain ⟨bs, rfl⟩ := bls_of vs fun v hv' => by
      obtain ⟨i, hi, e⟩ := List.getElem_of_mem hv'
      have h1 : i < ws.length := by omega
      have h2 : i < fs.length := by omega
      exact ⟨_, hp i _ _ v (by rw [List.getElem?_map, List.getElem?_eq_getElem h1]; rfl) (by rw [List.getElem?_map, List.getElem?_eq_getElem h2]; rfl) (by rw [List.getElem?_eq_getElem hi, e]) _ _ rfl rfl⟩
    refine ⟨D, bs, rfl, SqL.of hv, ?_⟩
    have e : bs.all id = (ws.zip fs).all fun p => fitsP p.1 p.2 := all_map (by rw [List.length_zip, hl, Nat.min_self]; simpa using hvl) fun i p b q1 q2 => by
      rw [List.getElem?_zip_eq_some] at q1
      have := hp i _ _ (.bl b) (by rw [List.getElem?_map, q1.1]; rfl) (by rw [List.getElem?_map, q1.2]; rfl) (by rw [List.getElem?_map, q2]; rfl) _ _ rfl rfl
      simpa using this
    have := k H' s'
    unfold fitsF at this
    rw [decide_eq_true hl, ← e] at this
    exact this
/-! ### are_names -/
theorem sc_v_are_names : FnScope ["words", "most"] ["words", "most"] (defScope s_v_are_names) := ⟨rfl, rfl, rfl, by decide +kernel, rfl, by decide +kernel, by decide +kernel⟩
set_option maxHeartbeats 400000 in
theorem ok_v_are_names (T : Txt K mg t) : FnOk P w K mg base CX0 3 t.f_v_are_names t.d_v_are_names ["words", "most"] (spAre K) := by
  have G_v_is_name : FnOk P w K mg base CX0 2 t.f_v_is_name t.d_v_is_name ["word"] spName := (ok_v_is_name T).mono (by decide)
  refine T.v_are_names.fn.ok sc_v_are_names (fun vs H Q E h => (by first | (obtain ⟨rfl, _⟩ := h; rfl) | (obtain ⟨_, rfl, _⟩ := h; rfl) | (obtain ⟨_, _, rfl, _⟩ := h; rfl) | (obtain ⟨_, _, _, rfl, _⟩ := h; rfl) | (obtain ⟨_, _, _, _, rfl, _⟩ := h; rfl) | (obtain ⟨_, _, _, _, _, rfl, _⟩ := h; rfl) | (obtain ⟨_, _, _, _, _, _, rfl, _⟩ := h; rfl) | (obtain ⟨_, _, _, _, _, _, _, rfl, _⟩ := h; rfl) | (obtain ⟨_, _, _, _, _, _, _, _, rfl, _⟩ := h; rfl) | (obtain ⟨_, _, _, _, _, _, _, _, _, rfl, _⟩ := h; rfl) | (obtain ⟨_, _, _, _, _, _, _, _, _, _, rfl, _⟩ := h; rfl) | (obtain ⟨_, _, _, _, _, _, _, _, _, _, _, rfl, _⟩ := h; rfl) | (obtain ⟨_, _, _, _, _, _, _, _, _, _, _, _, rfl, _⟩ := h; rfl) | (obtain ⟨_, _, _, _, _, _, _, _, _, _, _, _, _, rfl, _⟩ := h; rfl) | (obtain ⟨_, _, _, _, _, _, _, _, _, _, _, _, _, _, rfl, _⟩ := h; rfl) | (obtain ⟨_, _, _, _, _, _, _, _, _, _, _, _, _, _, _, rfl, _⟩ := h; rfl) | (obtain ⟨_, _, _, _, _, _, _, _, _, _, _, _, _, _, _, _, rfl, _⟩ := h; rfl) | (obtain ⟨_, _, _, _, _, _, _, _, _, _, _, _, _, _, _, _, _, rfl, _⟩ := h; rfl) | (obtain ⟨_, _, _, _, _, _, _, _, _, _, _, _, _, _, _, _, _, _, rfl, _⟩ := h; rfl) | (obtain ⟨_, _, _, _, _, _, _, _, _, _, _, _, _, _, _, _, _, _, _, rfl, _⟩ := h; rfl) | (obtain ⟨_, _, _, _, _, _, _, _, _, _, _, _, _, _, _, _, _, _, _, _, rfl, _⟩ := h; rfl) | (obtain ⟨_, _, _, _, _, _, _, _, _, _, _, _, _, _, _, _, _, _, _, _, _, rfl, _⟩ := h; rfl) | (obtain ⟨_, _, _, _, _, _, _, _, _, _, _, _, _, _, _, _, _, _, _, _, _, _, rfl, _⟩ := h; rfl) | (obtain ⟨_, _, _, _, _, _, _, _, _, _, _, _, _, _, _, _, _, _, _, _, _, _, _, rfl, _⟩ := h; rfl))) (fun cdv A outer s H vs Q E hr h => ?_)
  obtain ⟨a, m, ws, rfl, hA, hS, k⟩ := h
  refine ⟨_, (pss_one (ps_ret (pe_and (pe_chain op_le op_le pe_int (pe_callB (callK_len (K := K) rfl) rfl T.b_len PySem.boot_len (pa_cons (pv 0) pa_nil)) (pv 1)) (pe_one (pe_callB (call_all_list rfl) rfl T.b_all PyProof.Rows.boot_all (pa_cons (pe_lcomp (osc := defScope s_v_are_names) (N := ["words", "most"]) (names := []) (caps := []) rfl rfl rfl ⟨rfl, by decide +kernel, by decide +kernel, by decide +kernel, rfl, rfl, by decide +kernel, by decide +kernel⟩ (piK_list (K := K) rfl (pv 0)) (fun _ _ _ => (pe_call G_v_is_name hr rfl T.v_is_name.mg T.v_is_name.fn.kp T.v_is_name.bd .nil pass0 (pa_cons (pv 0) pa_nil)))) pa_nil)))))), ?_⟩
  walk_at "rd"
  refine ⟨a, _, rfl, .inl hA, _, _, rfl, rfl, _, rfl, ?_⟩
  rw [List.length_map]
  have no : ∀ H', Same H H' → areN ws m = false → Q (.bl false) H' := fun H' s' e => by have := k H' s'; rw [e] at this; exact this
  refine ite2 (fun h1 => ?_) (fun h1 => ?_)
  · have h1' : 1 ≤ ws.length := by have := of_decide_eq_true h1; omega
    refine ⟨_, rfl, _, _, rfl, rfl, _, rfl, ?_⟩
    refine ite2 (fun h2 => ?_) (fun h2 => ?_)
    · have h2' : (ws.length : Int) ≤ m := of_decide_eq_true h2
      refine ⟨_, rfl, a, rfl, ⟨_, hA⟩, comp_seq (seqj_list hA) (fun _ y v => ∀ x, y = .str x → v = .bl (nameB x)) (line_small (by have := hS.few; rw [List.length_map]; omega)) ?_ ?_⟩
      · intro i y H' Q' e1 s' kk
        rw [List.getElem?_map] at e1
        cases q1 : ws[i]? with
        | none => rw [q1] at e1; cases e1
        | some x' =>
          rw [q1] at e1
          cases e1
          exact ⟨_, rfl, x', rfl, hS.short x' (List.mem_of_getElem? q1), fun H4 s4 => kk _ _ s4 fun a ea => by cases ea; rfl⟩
      · intro D H' vs s' hD hv hvl hp
        rw [List.length_map] at hvl
        obtain ⟨bs, rfl⟩ := bls_of vs fun v hv' => by
          obtain ⟨i, hi, e⟩ := List.getElem_of_mem hv'
          have h1 : i < ws.length := by omega
          exact ⟨_, hp i _ v (by rw [List.getElem?_map, List.getElem?_eq_getElem h1]; rfl) (by rw [List.getElem?_eq_getElem hi, e]) _ rfl⟩
        refine ⟨D, bs, rfl, SqL.of hv, ?_⟩
        have e : bs.all id = ws.all nameB := all_map (by simpa using hvl) fun i p b q1 q2 => by
          have := hp i _ (.bl b) (by rw [List.getElem?_map, q1]; rfl) (by rw [List.getElem?_map, q2]; rfl) _ rfl
          simpa using this
        have := k H' s'
        unfold areN at this
        rw [decide_eq_true h1', decide_eq_true h2', ← e] at this
        exact this
    · refine no H (Same.refl H) ?_
      have : ¬ (ws.length : Int) ≤ m := fun q => h2 (decide_eq_true q)
      simp [areN, this]
  · refine ⟨false, rfl, iteF ?_⟩
    refine no H (Same.refl H) ?_
    have : ¬ 1 ≤ ws.length := fun q => h1 (decide_eq_true (by omega))
    simp only [areN, decide_eq_false this, Bool.false_and]


/-! ### rows read: data -/
end
def spl (x : Str) : List Str := Txt.split x " "
theorem blank_ne : ((" " : Str).length == 0) = false := by decide +kernel
theorem spl_len (x : Str) : 1 ≤ (spl x).length ∧ (spl x).length ≤ x.length + 2 := ⟨PyProof.Rows.split_pos x " ", PyProof.Rows.split_le x " "⟩
theorem spl_sh {x : Str} (h : x.length ≤ 190) : Sh (spl x) := ⟨by have := (spl_len x).2; omega, fun y hy => by have := PyProof.Rows.part_short (x := x) (y := " ") hy; omega⟩
theorem cut_drop {α : Type} (f : α → V) (xs : List α) (n : Nat) : cutV (xs.map f) (some (n : Int)) none = (xs.drop n).map f := by
  unfold cutV
  rw [HT.sIx_nat, HT.sIx_none, List.length_map, ← List.map_drop, ← List.map_take]
  by_cases h : n ≤ xs.length
  · rw [Nat.min_eq_left h, List.take_of_length_le (by rw [List.length_drop]; omega)]
  · rw [Nat.min_eq_right (by omega), Nat.sub_self, List.drop_eq_nil_of_le (Nat.le_refl _), List.drop_eq_nil_of_le (by omega)]
    rfl
theorem cut_take {α : Type} (f : α → V) (xs : List α) (n : Nat) : cutV (xs.map f) none (some (n : Int)) = (xs.take n).map f := by
  unfold cutV
  rw [HT.sIx_nat, HT.sIx_none, List.length_map, List.drop_zero, Nat.sub_zero, ← List.map_take]
  by_cases h : n ≤ xs.length
  · rw [Nat.min_eq_left h]
  · rw [Nat.min_eq_right (by omega), List.take_length, List.take_of_length_le (by omega)]
def wd (ws : List Str) (i : Nat) : Str := ws.getD i ""
def fLet : List Str := ["let", "NAME", "be", "NAME"]
def fPart : List Str := ["part", "NAME"]
def fDuty : List Str := ["NAME", "NAME", "must", "NAME", "by", "NUMBER", "else", "NAME"]
def fLeave : List Str := ["NAME", "WHO", "may", "NAME"]
def fBan : List Str := ["NAME", "WHO", "may", "not", "NAME", "else", "NAME"]
def fPower : List Str := ["NAME", "WHO", "by", "NAME", "to", "NAME"]
def namesO (ws : List Str) (x : Str) (m : Int) : List Str := if wd ws 0 ≠ x ∨ areN (ws.drop 1) m = false then [] else ws.drop 1
def roomO (ws : List Str) : Option (Str × Str) := if ws.length = 2 ∧ inV (.str (wd ws 0)) (ks_MARKS.map V.str) = true ∧ nameB (wd ws 1) = true then some (wd ws 0, wd ws 1) else none
def letO (ws : List Str) : Option (Str × Str) := if fitsF ws fLet = true then some (wd ws 1, wd ws 3) else none
def partO (ws : List Str) : Option (Str × List Str) := if fitsF (ws.take 2) fPart = true then (if ws.length = 2 then some (wd ws 1, []) else if wd ws 2 ≠ "in" ∨ areN (ws.drop 3) 12 = false then none else some (wd ws 1, ws.drop 3)) else none
def clauseO (ws : List Str) : Option (Int × Str × Str × Str × Int × Str) :=
  if fitsF ws fDuty = true then some (0, wd ws 0, wd ws 1, wd ws 3, numV (wd ws 5), wd ws 7)
  else if fitsF ws fLeave = true then some (1, wd ws 0, wd ws 1, wd ws 3, 0, "")
  else if fitsF ws fBan = true then some (2, wd ws 0, wd ws 1, wd ws 4, 0, wd ws 6)
  else if fitsF ws fPower = true then some (3, wd ws 0, wd ws 1, wd ws 3, 0, wd ws 5)
  else none
theorem fits_len {ws fs : List Str} (h : fitsF ws fs = true) : ws.length = fs.length := by
  unfold fitsF at h
  rw [Bool.and_eq_true] at h
  exact of_decide_eq_true h.1
/-! lets and parts as objects -/
def fl2 (n v : Str) : List (Str × V) := [("name", .str n), ("value", .str v)]
def fp3 (n : Str) (a b : Addr) : List (Str × V) := [("name", .str n), ("rooms", .ref a), ("rows", .ref b)]
theorem m1 : ¬ (("name" : Str) = "value") := by decide +kernel
theorem m2 : ¬ (("name" : Str) = "rooms") := by decide +kernel
theorem m3 : ¬ (("name" : Str) = "rows") := by decide +kernel
theorem m4 : ¬ (("rooms" : Str) = "rows") := by decide +kernel
theorem putL2 (n v : Str) : putF "value" (.str v) (putF "name" (.str n) []) = fl2 n v := by
  simp only [putF, fl2, if_neg m1]
theorem putP3 (n : Str) (a b : Addr) : putF "rows" (.ref b) (putF "rooms" (.ref a) (putF "name" (.str n) [])) = fp3 n a b := by
  simp only [putF, fp3, if_neg m2, if_neg m3, if_neg m4]
def AtL (t : Adr) (H : Hp) (p : Addr) (n v : Str) : Prop := ∃ dx, H p = some (.ins t.c_Let dx (fl2 n v))
def AtP (t : Adr) (H0 H : Hp) (p : Addr) (n : Str) (rs : List Str) : Prop := ∃ dx a b, H p = some (.ins t.c_Part dx (fp3 n a b)) ∧ H a = some (.lst (rs.map V.str)) ∧ H b = some (.lst []) ∧ H0 a = none ∧ H0 b = none
theorem AtL.same {t : Adr} {H H' : Hp} {p : Addr} {n v : Str} (h : AtL t H p n v) (s : Same H H') : AtL t H' p n v := by
  obtain ⟨dx, e⟩ := h
  exact ⟨dx, s _ _ e⟩
theorem AtP.back {t : Adr} {H0 H1 H : Hp} {p : Addr} {n : Str} {rs : List Str} (h : AtP t H1 H p n rs) (s : Same H0 H1) : AtP t H0 H p n rs := by
  obtain ⟨dx, a, b, e1, e2, e3, f1, f2⟩ := h
  exact ⟨dx, a, b, e1, e2, e3, s.free f1, s.free f2⟩
/-- all but p is as it was -/
def Off (p : Addr) (H H' : Hp) : Prop := ∀ b o, b ≠ p → H b = some o → H' b = some o
def spIL (t : Adr) : Sp := fun vs H Q _ => ∃ (p dx : Addr) (n v : Str), vs = [.ref p, .str n, .str v] ∧ H p = some (.ins t.c_Let dx []) ∧ Q .non (upd H p (.ins t.c_Let dx (fl2 n v)))
def spIP (K : PySem.W.Frag) (t : Adr) : Sp := fun vs H Q _ => ∃ (p dx a b : Addr) (n : Str) (xs : List Str), vs = [.ref p, .str n, .ref a, .ref b] ∧ H p = some (.ins t.c_Part dx []) ∧ H a = some (.lst (xs.map V.str)) ∧ H b = some (.lst []) ∧
  ∀ H', Off p H H' → AtP t H H' p n xs → Q .non H'
def spNof : Sp := fun vs H Q _ => ∃ (x y : Str) (m : Int), vs = [.str x, .str y, .int m] ∧ x.length ≤ 190 ∧ ∀ l H', Same H H' → H l = none → H' l = some (.lst ((namesO (spl x) y m).map V.str)) → Q (.ref l) H'
def spRoom : Sp := fun vs H Q _ => ∃ (x : Str), vs = [.str x] ∧ x.length ≤ 190 ∧ ∀ H', Same H H' → (roomO (spl x) = none → Q .non H') ∧ ∀ p m n, roomO (spl x) = some (m, n) → H p = none → H' p = some (.tup [.str m, .str n]) → Q (.ref p) H'
def spLet (t : Adr) : Sp := fun vs H Q _ => ∃ (x : Str), vs = [.str x] ∧ x.length ≤ 190 ∧ ∀ H', Same H H' → (letO (spl x) = none → Q .non H') ∧ ∀ p n v, letO (spl x) = some (n, v) → H p = none → AtL t H' p n v → Q (.ref p) H'
def spPart (t : Adr) : Sp := fun vs H Q _ => ∃ (x : Str), vs = [.str x] ∧ x.length ≤ 190 ∧ ∀ H', Same H H' → (partO (spl x) = none → Q .non H') ∧ ∀ p n rs, partO (spl x) = some (n, rs) → H p = none → AtP t H H' p n rs → Q (.ref p) H'
def spClause (t : Adr) : Sp := fun vs H Q _ => ∃ (x : Str), vs = [.str x] ∧ x.length ≤ 190 ∧ ∀ H', Same H H' → (clauseO (spl x) = none → Q .non H') ∧ ∀ p k l u a n r, clauseO (spl x) = some (k, l, u, a, n, r) → H p = none → At t H' p k l u a n r → Q (.ref p) H'
theorem made_in {H : Hp} {p dx : Addr} {o o2 : HO} (hp : H p = none) (hdx : H dx = none) : Same H (upd (upd H dx o) p o2) := fun b u e => by rw [upd_ne (ne_of_none e hp), upd_ne (ne_of_none e hdx)]; exact e
theorem made_off {H H' : Hp} {p dx : Addr} {o o2 : HO} (hp : H p = none) (hdx : H dx = none) (f : Off p (upd (upd H dx o) p o2) H') : Same H H' := fun b u e => f b u (ne_of_none e hp) (made_in hp hdx b u e)
section
variable {P : Program} {w : World} {K : PySem.W.Frag} {mg : Str → Option Value} {base : Heap} {t : Adr}
theorem marksSeq (T : Txt K mg t) (H : Hp) : SqT K H t.k_MARKS (ks_MARKS.map V.str) := .inr T.o_MARKS
theorem marks_flat : (ks_MARKS.map V.str).all flatV = true := by decide +kernel
/-! ### the makings of lets and parts -/
theorem sc_Let_init : FnScope ["self", "name", "value"] ["self", "name", "value"] (defScope s_Let_init) := ⟨rfl, rfl, rfl, by decide +kernel, rfl, by decide +kernel, by decide +kernel⟩
set_option maxHeartbeats 400000 in
theorem ok_Let_init (T : Txt K mg t) : FnOk P w K mg base CX0 1 t.f_Let_init t.d_Let_init ["self", "name", "value"] (spIL t) := by
  refine T.Let_init.fn.ok sc_Let_init (fun vs H Q E h => (by first | (obtain ⟨rfl, _⟩ := h; rfl) | (obtain ⟨_, rfl, _⟩ := h; rfl) | (obtain ⟨_, _, rfl, _⟩ := h; rfl) | (obtain ⟨_, _, _, rfl, _⟩ := h; rfl) | (obtain ⟨_, _, _, _, rfl, _⟩ := h; rfl) | (obtain ⟨_, _, _, _, _, rfl, _⟩ := h; rfl) | (obtain ⟨_, _, _, _, _, _, rfl, _⟩ := h; rfl) | (obtain ⟨_, _, _, _, _, _, _, rfl, _⟩ := h; rfl) | (obtain ⟨_, _, _, _, _, _, _, _, rfl, _⟩ := h; rfl) | (obtain ⟨_, _, _, _, _, _, _, _, _, rfl, _⟩ := h; rfl) | (obtain ⟨_, _, _, _, _, _, _, _, _, _, rfl, _⟩ := h; rfl) | (obtain ⟨_, _, _, _, _, _, _, _, _, _, _, rfl, _⟩ := h; rfl) | (obtain ⟨_, _, _, _, _, _, _, _, _, _, _, _, rfl, _⟩ := h; rfl) | (obtain ⟨_, _, _, _, _, _, _, _, _, _, _, _, _, rfl, _⟩ := h; rfl) | (obtain ⟨_, _, _, _, _, _, _, _, _, _, _, _, _, _, rfl, _⟩ := h; rfl) | (obtain ⟨_, _, _, _, _, _, _, _, _, _, _, _, _, _, _, rfl, _⟩ := h; rfl) | (obtain ⟨_, _, _, _, _, _, _, _, _, _, _, _, _, _, _, _, rfl, _⟩ := h; rfl) | (obtain ⟨_, _, _, _, _, _, _, _, _, _, _, _, _, _, _, _, _, rfl, _⟩ := h; rfl) | (obtain ⟨_, _, _, _, _, _, _, _, _, _, _, _, _, _, _, _, _, _, rfl, _⟩ := h; rfl) | (obtain ⟨_, _, _, _, _, _, _, _, _, _, _, _, _, _, _, _, _, _, _, rfl, _⟩ := h; rfl) | (obtain ⟨_, _, _, _, _, _, _, _, _, _, _, _, _, _, _, _, _, _, _, _, rfl, _⟩ := h; rfl) | (obtain ⟨_, _, _, _, _, _, _, _, _, _, _, _, _, _, _, _, _, _, _, _, _, rfl, _⟩ := h; rfl) | (obtain ⟨_, _, _, _, _, _, _, _, _, _, _, _, _, _, _, _, _, _, _, _, _, _, rfl, _⟩ := h; rfl) | (obtain ⟨_, _, _, _, _, _, _, _, _, _, _, _, _, _, _, _, _, _, _, _, _, _, _, rfl, _⟩ := h; rfl))) (fun cdv A outer s H vs Q E hr h => ?_)
  obtain ⟨p, dx, n, v, rfl, hp, k⟩ := h
  refine ⟨_, (pss_cons (ps_fld (pv 0) (pv 1) rfl)
      (pss_one (ps_fld (pv 0) (pv 2) rfl))), ?_⟩
  refine ⟨_, rfl, _, rfl, p, _, dx, [], rfl, hp, T.cl_Let, T.na_Let_name, (by show 0 < 1000; decide), ?_⟩
  refine ⟨_, rfl, _, rfl, p, _, dx, _, rfl, upd_same, T.cl_Let, T.na_Let_value, (by show 1 < 1000; decide), ?_⟩
  rw [upd_upd, putL2]
  exact k
theorem sc_Part_init : FnScope ["self", "name", "rooms", "rows"] ["self", "name", "rooms", "rows"] (defScope s_Part_init) := ⟨rfl, rfl, rfl, by decide +kernel, rfl, by decide +kernel, by decide +kernel⟩
set_option maxHeartbeats 400000 in
theorem ok_Part_init (T : Txt K mg t) : FnOk P w K mg base CX0 1 t.f_Part_init t.d_Part_init ["self", "name", "rooms", "rows"] (spIP K t) := by
  refine T.Part_init.fn.ok sc_Part_init (fun vs H Q E h => (by first | (obtain ⟨rfl, _⟩ := h; rfl) | (obtain ⟨_, rfl, _⟩ := h; rfl) | (obtain ⟨_, _, rfl, _⟩ := h; rfl) | (obtain ⟨_, _, _, rfl, _⟩ := h; rfl) | (obtain ⟨_, _, _, _, rfl, _⟩ := h; rfl) | (obtain ⟨_, _, _, _, _, rfl, _⟩ := h; rfl) | (obtain ⟨_, _, _, _, _, _, rfl, _⟩ := h; rfl) | (obtain ⟨_, _, _, _, _, _, _, rfl, _⟩ := h; rfl) | (obtain ⟨_, _, _, _, _, _, _, _, rfl, _⟩ := h; rfl) | (obtain ⟨_, _, _, _, _, _, _, _, _, rfl, _⟩ := h; rfl) | (obtain ⟨_, _, _, _, _, _, _, _, _, _, rfl, _⟩ := h; rfl) | (obtain ⟨_, _, _, _, _, _, _, _, _, _, _, rfl, _⟩ := h; rfl) | (obtain ⟨_, _, _, _, _, _, _, _, _, _, _, _, rfl, _⟩ := h; rfl) | (obtain ⟨_, _, _, _, _, _, _, _, _, _, _, _, _, rfl, _⟩ := h; rfl) | (obtain ⟨_, _, _, _, _, _, _, _, _, _, _, _, _, _, rfl, _⟩ := h; rfl) | (obtain ⟨_, _, _, _, _, _, _, _, _, _, _, _, _, _, _, rfl, _⟩ := h; rfl) | (obtain ⟨_, _, _, _, _, _, _, _, _, _, _, _, _, _, _, _, rfl, _⟩ := h; rfl) | (obtain ⟨_, _, _, _, _, _, _, _, _, _, _, _, _, _, _, _, _, rfl, _⟩ := h; rfl) | (obtain ⟨_, _, _, _, _, _, _, _, _, _, _, _, _, _, _, _, _, _, rfl, _⟩ := h; rfl) | (obtain ⟨_, _, _, _, _, _, _, _, _, _, _, _, _, _, _, _, _, _, _, rfl, _⟩ := h; rfl) | (obtain ⟨_, _, _, _, _, _, _, _, _, _, _, _, _, _, _, _, _, _, _, _, rfl, _⟩ := h; rfl) | (obtain ⟨_, _, _, _, _, _, _, _, _, _, _, _, _, _, _, _, _, _, _, _, _, rfl, _⟩ := h; rfl) | (obtain ⟨_, _, _, _, _, _, _, _, _, _, _, _, _, _, _, _, _, _, _, _, _, _, rfl, _⟩ := h; rfl) | (obtain ⟨_, _, _, _, _, _, _, _, _, _, _, _, _, _, _, _, _, _, _, _, _, _, _, rfl, _⟩ := h; rfl))) (fun cdv A outer s H vs Q E hr h => ?_)
  obtain ⟨p, dx, a, b, n, xs, rfl, hp, hA, hB, k⟩ := h
  refine ⟨_, (pss_cons (ps_fld (pv 0) (pv 1) rfl)
      (pss_cons (ps_fld (pv 0) (pe_callTy (ncK_list (K := K) rfl) rfl T.b_list PyProof.Rows.boot_list (pa_cons (pv 2) pa_nil)) rfl)
      (pss_one (ps_fld (pv 0) (pe_callTy (ncK_list (K := K) rfl) rfl T.b_list PyProof.Rows.boot_list (pa_cons (pv 3) pa_nil)) rfl)))), ?_⟩
  have na : a ≠ p := ne_of hA hp (by intro z; cases z)
  have nb : b ≠ p := ne_of hB hp (by intro z; cases z)
  refine ⟨_, rfl, _, rfl, p, _, dx, [], rfl, hp, T.cl_Part, T.na_Part_name, (by show 0 < 1000; decide), ?_⟩
  have o1 : Off p H (upd H p (.ins t.c_Part dx (putF "name" (.str n) []))) := fun c o hc e => by rw [upd_ne hc]; exact e
  generalize hH1 : upd H p (.ins t.c_Part dx (putF "name" (.str n) [])) = H1 at o1 ⊢
  have e1 : H1 p = some (.ins t.c_Part dx (putF "name" (.str n) [])) := by rw [← hH1]; exact upd_same
  refine ⟨_, rfl, a, _, rfl, .inl (SqL.of (o1 _ _ na hA)), ?_⟩
  intro q1 H2 s2 hq1 e2
  refine ⟨_, rfl, p, _, dx, _, rfl, s2 _ _ e1, T.cl_Part, T.na_Part_rooms, (by show 1 < 1000; decide), ?_⟩
  have nq1 : q1 ≠ p := Ne.symm (ne_of_none e1 hq1)
  have o2 : Off p H2 (upd H2 p (.ins t.c_Part dx (putF "rooms" (.ref q1) (putF "name" (.str n) [])))) := fun c o hc e => by rw [upd_ne hc]; exact e
  generalize hH3 : upd H2 p (.ins t.c_Part dx (putF "rooms" (.ref q1) (putF "name" (.str n) []))) = H3 at o2 ⊢
  have e3 : H3 p = some (.ins t.c_Part dx (putF "rooms" (.ref q1) (putF "name" (.str n) []))) := by rw [← hH3]; exact upd_same
  refine ⟨_, rfl, b, _, rfl, .inl (SqL.of (o2 _ _ nb (s2 _ _ (o1 _ _ nb hB)))), ?_⟩
  intro q2 H4 s4 hq2 e4
  refine ⟨_, rfl, p, _, dx, _, rfl, s4 _ _ e3, T.cl_Part, T.na_Part_rows, ?_, ?_⟩
  · have := length_putF ("rooms" : Str) (.ref q1) (putF "name" (.str n) [])
    have e : (putF ("name" : Str) (.str n) []).length = 1 := rfl
    omega
  have nq2 : q2 ≠ p := Ne.symm (ne_of_none e3 hq2)
  rw [putP3]
  refine k _ (fun c o hc e => by rw [upd_ne hc]; exact s4 _ _ (o2 _ _ hc (s2 _ _ (o1 _ _ hc e)))) ⟨dx, q1, q2, upd_same, ?_, ?_, ?_, ?_⟩
  · rw [upd_ne nq1]; exact s4 _ _ (o2 _ _ nq1 e2)
  · rw [upd_ne nq2]; exact e4
  · rw [← hH1, upd_ne nq1] at hq1; exact hq1
  · have z : H2 q2 = none := by rw [← hH3, upd_ne nq2] at hq2; exact hq2
    have z1 := s2.free z
    rw [← hH1, upd_ne nq2] at z1; exact z1
/-! ### names_of -/
theorem sc_v_names_of : FnScope ["row", "word", "most", "words"] ["row", "word", "most"] (defScope s_v_names_of) := ⟨rfl, rfl, rfl, by decide +kernel, rfl, by decide +kernel, by decide +kernel⟩
set_option maxHeartbeats 400000 in
theorem ok_v_names_of (T : Txt K mg t) : FnOk P w K mg base CX0 4 t.f_v_names_of t.d_v_names_of ["row", "word", "most"] spNof := by
  have G_v_are_names : FnOk P w K mg base CX0 3 t.f_v_are_names t.d_v_are_names ["words", "most"] (spAre K) := (ok_v_are_names T).mono (by decide)
  refine T.v_names_of.fn.ok sc_v_names_of (fun vs H Q E h => (by first | (obtain ⟨rfl, _⟩ := h; rfl) | (obtain ⟨_, rfl, _⟩ := h; rfl) | (obtain ⟨_, _, rfl, _⟩ := h; rfl) | (obtain ⟨_, _, _, rfl, _⟩ := h; rfl) | (obtain ⟨_, _, _, _, rfl, _⟩ := h; rfl) | (obtain ⟨_, _, _, _, _, rfl, _⟩ := h; rfl) | (obtain ⟨_, _, _, _, _, _, rfl, _⟩ := h; rfl) | (obtain ⟨_, _, _, _, _, _, _, rfl, _⟩ := h; rfl) | (obtain ⟨_, _, _, _, _, _, _, _, rfl, _⟩ := h; rfl) | (obtain ⟨_, _, _, _, _, _, _, _, _, rfl, _⟩ := h; rfl) | (obtain ⟨_, _, _, _, _, _, _, _, _, _, rfl, _⟩ := h; rfl) | (obtain ⟨_, _, _, _, _, _, _, _, _, _, _, rfl, _⟩ := h; rfl) | (obtain ⟨_, _, _, _, _, _, _, _, _, _, _, _, rfl, _⟩ := h; rfl) | (obtain ⟨_, _, _, _, _, _, _, _, _, _, _, _, _, rfl, _⟩ := h; rfl) | (obtain ⟨_, _, _, _, _, _, _, _, _, _, _, _, _, _, rfl, _⟩ := h; rfl) | (obtain ⟨_, _, _, _, _, _, _, _, _, _, _, _, _, _, _, rfl, _⟩ := h; rfl) | (obtain ⟨_, _, _, _, _, _, _, _, _, _, _, _, _, _, _, _, rfl, _⟩ := h; rfl) | (obtain ⟨_, _, _, _, _, _, _, _, _, _, _, _, _, _, _, _, _, rfl, _⟩ := h; rfl) | (obtain ⟨_, _, _, _, _, _, _, _, _, _, _, _, _, _, _, _, _, _, rfl, _⟩ := h; rfl) | (obtain ⟨_, _, _, _, _, _, _, _, _, _, _, _, _, _, _, _, _, _, _, rfl, _⟩ := h; rfl) | (obtain ⟨_, _, _, _, _, _, _, _, _, _, _, _, _, _, _, _, _, _, _, _, rfl, _⟩ := h; rfl) | (obtain ⟨_, _, _, _, _, _, _, _, _, _, _, _, _, _, _, _, _, _, _, _, _, rfl, _⟩ := h; rfl) | (obtain ⟨_, _, _, _, _, _, _, _, _, _, _, _, _, _, _, _, _, _, _, _, _, _, rfl, _⟩ := h; rfl) | (obtain ⟨_, _, _, _, _, _, _, _, _, _, _, _, _, _, _, _, _, _, _, _, _, _, _, rfl, _⟩ := h; rfl))) (fun cdv A outer s H vs Q E hr h => ?_)
  obtain ⟨x, y, m, rfl, hx, k⟩ := h
  refine ⟨_, (pss_cons (ps_set (i := 3) sc_v_names_of.nd rfl (Or.inl rfl) (pe_bm PySem.F.plainAttrs_str PySem.F.slot_str_split PySem.F.type_str_split nm_split (pv 0) (pa_cons pe_str pa_nil)))
      (pss_cons (ps_if (PW.pt (pw_or (pt_cmpR op_ne (pe_ix (ixK_list (K := K) rfl) (pv 3) pe_int (fun _ _ => rfl)) (pv 1) (nomark _)) (pw_or1 (pt_not (pt_val (pe_call G_v_are_names hr rfl T.v_are_names.mg T.v_are_names.fn.kp T.v_are_names.bd .nil pass0 (pa_cons (pe_slice (nsK_list (K := K) rfl) (pv 3) (po_some pe_int) po_none) (pa_cons (pv 2) pa_nil))))))))
        (pss_one (ps_ret (ne_lst pa_nil))) pss_nil)
      (pss_one (ps_ret (pe_slice (nsK_list (K := K) rfl) (pv 3) (po_some pe_int) po_none))))), ?_⟩
  walk_at "rd"
  refine ⟨line_small (by omega), ?_⟩
  intro lw H1 s1 hlw e1
  have hS := spl_sh hx
  have hl := (spl_len x).1
  have e1' : H1 lw = some (.lst ((spl x).map V.str)) := e1
  clear e1
  generalize spl x = ws at *
  walk_at "rd"
  refine ite2 (fun h1 => ?_) (fun h1 => ?_)
  · have n : namesO ws y m = [] := if_pos (.inl (str_ne1 h1))
    walk_at "rd"
    intro l H2 s2 hl2 e2
    exact k l H2 (s1.trans s2) (s1.free hl2) (by rw [n]; exact e2)
  have w0 := str_ne0 h1
  walk_at "rd"
  intro lc H2 s2 hlc e2
  replace e2 : H2 lc = some (.lst ((ws.drop 1).map V.str)) := by rw [← cut_drop V.str ws 1]; exact e2
  refine ⟨_, rfl, lc, m, _, rfl, SqL.of e2, hS.drop 1, fun H3 s3 => ?_⟩
  walk_at "rd"
  cases hN : areN (ws.drop 1) m with
  | false =>
    refine iteT ?_
    have n : namesO ws y m = [] := if_pos (.inr hN)
    walk_at "rd"
    intro l H4 s4 hl4 e4
    exact k l H4 (((s1.trans s2).trans s3).trans s4) (((s1.trans s2).trans s3).free hl4) (by rw [n]; exact e4)
  | true =>
    refine iteF ?_
    have n : namesO ws y m = ws.drop 1 := if_neg (fun q => q.elim (fun q => q w0) (fun q => by rw [hN] at q; cases q))
    walk_at "rd"
    intro l H4 s4 hl4 e4
    replace e4 : H4 l = some (.lst ((ws.drop 1).map V.str)) := by rw [← cut_drop V.str ws 1]; exact e4
    exact k l H4 (((s1.trans s2).trans s3).trans s4) (((s1.trans s2).trans s3).free hl4) (by rw [n]; exact e4)
/-! ### room_of -/
theorem sc_v_room_of : FnScope ["row", "words"] ["row"] (defScope s_v_room_of) := ⟨rfl, rfl, rfl, by decide +kernel, rfl, by decide +kernel, by decide +kernel⟩
set_option maxHeartbeats 400000 in
theorem ok_v_room_of (T : Txt K mg t) : FnOk P w K mg base CX0 3 t.f_v_room_of t.d_v_room_of ["row"] spRoom := by
  have G_v_is_name : FnOk P w K mg base CX0 2 t.f_v_is_name t.d_v_is_name ["word"] spName := (ok_v_is_name T).mono (by decide)
  refine T.v_room_of.fn.ok sc_v_room_of (fun vs H Q E h => (by first | (obtain ⟨rfl, _⟩ := h; rfl) | (obtain ⟨_, rfl, _⟩ := h; rfl) | (obtain ⟨_, _, rfl, _⟩ := h; rfl) | (obtain ⟨_, _, _, rfl, _⟩ := h; rfl) | (obtain ⟨_, _, _, _, rfl, _⟩ := h; rfl) | (obtain ⟨_, _, _, _, _, rfl, _⟩ := h; rfl) | (obtain ⟨_, _, _, _, _, _, rfl, _⟩ := h; rfl) | (obtain ⟨_, _, _, _, _, _, _, rfl, _⟩ := h; rfl) | (obtain ⟨_, _, _, _, _, _, _, _, rfl, _⟩ := h; rfl) | (obtain ⟨_, _, _, _, _, _, _, _, _, rfl, _⟩ := h; rfl) | (obtain ⟨_, _, _, _, _, _, _, _, _, _, rfl, _⟩ := h; rfl) | (obtain ⟨_, _, _, _, _, _, _, _, _, _, _, rfl, _⟩ := h; rfl) | (obtain ⟨_, _, _, _, _, _, _, _, _, _, _, _, rfl, _⟩ := h; rfl) | (obtain ⟨_, _, _, _, _, _, _, _, _, _, _, _, _, rfl, _⟩ := h; rfl) | (obtain ⟨_, _, _, _, _, _, _, _, _, _, _, _, _, _, rfl, _⟩ := h; rfl) | (obtain ⟨_, _, _, _, _, _, _, _, _, _, _, _, _, _, _, rfl, _⟩ := h; rfl) | (obtain ⟨_, _, _, _, _, _, _, _, _, _, _, _, _, _, _, _, rfl, _⟩ := h; rfl) | (obtain ⟨_, _, _, _, _, _, _, _, _, _, _, _, _, _, _, _, _, rfl, _⟩ := h; rfl) | (obtain ⟨_, _, _, _, _, _, _, _, _, _, _, _, _, _, _, _, _, _, rfl, _⟩ := h; rfl) | (obtain ⟨_, _, _, _, _, _, _, _, _, _, _, _, _, _, _, _, _, _, _, rfl, _⟩ := h; rfl) | (obtain ⟨_, _, _, _, _, _, _, _, _, _, _, _, _, _, _, _, _, _, _, _, rfl, _⟩ := h; rfl) | (obtain ⟨_, _, _, _, _, _, _, _, _, _, _, _, _, _, _, _, _, _, _, _, _, rfl, _⟩ := h; rfl) | (obtain ⟨_, _, _, _, _, _, _, _, _, _, _, _, _, _, _, _, _, _, _, _, _, _, rfl, _⟩ := h; rfl) | (obtain ⟨_, _, _, _, _, _, _, _, _, _, _, _, _, _, _, _, _, _, _, _, _, _, _, rfl, _⟩ := h; rfl))) (fun cdv A outer s H vs Q E hr h => ?_)
  obtain ⟨x, rfl, hx, k⟩ := h
  refine ⟨_, (pss_cons (ps_set (i := 1) sc_v_room_of.nd rfl (Or.inl rfl) (pe_bm PySem.F.plainAttrs_str PySem.F.slot_str_split PySem.F.type_str_split nm_split (pv 0) (pa_cons pe_str pa_nil)))
      (pss_cons (ps_if (PW.pt (pw_or (pt_cmpR op_ne (pe_callB (callK_len (K := K) rfl) rfl T.b_len PySem.boot_len (pa_cons (pv 1) pa_nil)) pe_int (nomark _)) (pw_or (pt_cmpR (opK_notIn (K := K) rfl) (pe_ix (ixK_list (K := K) rfl) (pv 1) pe_int (fun _ _ => rfl)) (pe_glob rfl T.g_MARKS (v := .ref t.k_MARKS) rfl) rfl) (pw_or1 (pt_not (pt_val (pe_call G_v_is_name hr rfl T.v_is_name.mg T.v_is_name.fn.kp T.v_is_name.bd .nil pass0 (pa_cons (pe_ix (ixK_list (K := K) rfl) (pv 1) pe_int (fun _ _ => rfl)) pa_nil))))))))
        (pss_one (ps_ret pe_non)) pss_nil)
      (pss_one (ps_ret (ne_tup (pa_cons (pe_ix (ixK_list (K := K) rfl) (pv 1) pe_int (fun _ _ => rfl)) (pa_cons (pe_ix (ixK_list (K := K) rfl) (pv 1) pe_int (fun _ _ => rfl)) pa_nil))))))), ?_⟩
  walk_at "rd"
  refine ⟨line_small (by omega), ?_⟩
  intro lw H1 s1 hlw e1
  have hS := spl_sh hx
  have e1' : H1 lw = some (.lst ((spl x).map V.str)) := e1
  clear e1
  generalize spl x = ws at *
  refine ⟨_, rfl, lw, _, rfl, .inl (SqL.of e1'), rfl, _, rfl, ?_⟩
  rw [List.length_map]
  have no : ∀ H', Same H H' → roomO ws = none → Q .non H' := fun H' s' e => (k H' s').1 e
  refine ite2 (fun h1 => iteT (no _ s1 (if_neg fun q => ?_))) (fun h1 => ?_)
  · rw [q.1] at h1; simp at h1
  have hl : ws.length = 2 := by
    by_cases q : ws.length = 2
    · exact q
    · exact absurd (by simp; omega) h1
  walk_at "rd"
  refine ⟨_, _, rfl, .inr (marksSeq T _), rfl, marks_flat, _, rfl, ?_⟩
  refine ite2 (fun h2 => iteT (no _ s1 (if_neg fun q => ?_))) (fun h2 => ?_)
  · have z : inV (.str (wd ws 0)) (ks_MARKS.map V.str) = false := not_t h2
    rw [z] at q
    cases q.2.1
  have hM : inV (.str (wd ws 0)) (ks_MARKS.map V.str) = true := not_f h2
  walk_at "rd"
  refine ⟨hS.short _ (wd_mem (by omega)), fun H2 s2 => ?_⟩
  walk_at "rd"
  refine ite2 (fun h3 => no _ (s1.trans s2) (if_neg fun q => ?_)) (fun h3 => ?_)
  · have z : nameB (wd ws 1) = false := not_t h3
    rw [z] at q
    cases q.2.2
  have hN : nameB (wd ws 1) = true := not_f h3
  walk_at "rd"
  intro p H3 s3 hp e3
  exact (k H3 ((s1.trans s2).trans s3)).2 p (wd ws 0) (wd ws 1) (if_pos ⟨hl, hM, hN⟩) ((s1.trans s2).free hp) e3
/-! ### let_of -/
theorem sc_v_let_of : FnScope ["row", "words"] ["row"] (defScope s_v_let_of) := ⟨rfl, rfl, rfl, by decide +kernel, rfl, by decide +kernel, by decide +kernel⟩
set_option maxHeartbeats 400000 in
theorem ok_v_let_of (T : Txt K mg t) : FnOk P w K mg base CX0 5 t.f_v_let_of t.d_v_let_of ["row"] (spLet t) := by
  have G_v_fits_form : FnOk P w K mg base CX0 4 t.f_v_fits_form t.d_v_fits_form ["words", "form"] (spForm K) := (ok_v_fits_form T).mono (by decide)
  have M_Let_init : FnOk P w K mg base CX0 3 t.f_Let_init t.d_Let_init ["self", "name", "value"] (spIL t) := (ok_Let_init T).mono (by decide)
  refine T.v_let_of.fn.ok sc_v_let_of (fun vs H Q E h => (by first | (obtain ⟨rfl, _⟩ := h; rfl) | (obtain ⟨_, rfl, _⟩ := h; rfl) | (obtain ⟨_, _, rfl, _⟩ := h; rfl) | (obtain ⟨_, _, _, rfl, _⟩ := h; rfl) | (obtain ⟨_, _, _, _, rfl, _⟩ := h; rfl) | (obtain ⟨_, _, _, _, _, rfl, _⟩ := h; rfl) | (obtain ⟨_, _, _, _, _, _, rfl, _⟩ := h; rfl) | (obtain ⟨_, _, _, _, _, _, _, rfl, _⟩ := h; rfl) | (obtain ⟨_, _, _, _, _, _, _, _, rfl, _⟩ := h; rfl) | (obtain ⟨_, _, _, _, _, _, _, _, _, rfl, _⟩ := h; rfl) | (obtain ⟨_, _, _, _, _, _, _, _, _, _, rfl, _⟩ := h; rfl) | (obtain ⟨_, _, _, _, _, _, _, _, _, _, _, rfl, _⟩ := h; rfl) | (obtain ⟨_, _, _, _, _, _, _, _, _, _, _, _, rfl, _⟩ := h; rfl) | (obtain ⟨_, _, _, _, _, _, _, _, _, _, _, _, _, rfl, _⟩ := h; rfl) | (obtain ⟨_, _, _, _, _, _, _, _, _, _, _, _, _, _, rfl, _⟩ := h; rfl) | (obtain ⟨_, _, _, _, _, _, _, _, _, _, _, _, _, _, _, rfl, _⟩ := h; rfl) | (obtain ⟨_, _, _, _, _, _, _, _, _, _, _, _, _, _, _, _, rfl, _⟩ := h; rfl) | (obtain ⟨_, _, _, _, _, _, _, _, _, _, _, _, _, _, _, _, _, rfl, _⟩ := h; rfl) | (obtain ⟨_, _, _, _, _, _, _, _, _, _, _, _, _, _, _, _, _, _, rfl, _⟩ := h; rfl) | (obtain ⟨_, _, _, _, _, _, _, _, _, _, _, _, _, _, _, _, _, _, _, rfl, _⟩ := h; rfl) | (obtain ⟨_, _, _, _, _, _, _, _, _, _, _, _, _, _, _, _, _, _, _, _, rfl, _⟩ := h; rfl) | (obtain ⟨_, _, _, _, _, _, _, _, _, _, _, _, _, _, _, _, _, _, _, _, _, rfl, _⟩ := h; rfl) | (obtain ⟨_, _, _, _, _, _, _, _, _, _, _, _, _, _, _, _, _, _, _, _, _, _, rfl, _⟩ := h; rfl) | (obtain ⟨_, _, _, _, _, _, _, _, _, _, _, _, _, _, _, _, _, _, _, _, _, _, _, rfl, _⟩ := h; rfl))) (fun cdv A outer s H vs Q E hr h => ?_)
  obtain ⟨x, rfl, hx, k⟩ := h
  refine ⟨_, (pss_cons (ps_set (i := 1) sc_v_let_of.nd rfl (Or.inl rfl) (pe_bm PySem.F.plainAttrs_str PySem.F.slot_str_split PySem.F.type_str_split nm_split (pv 0) (pa_cons pe_str pa_nil)))
      (pss_cons (ps_if (pt_not (pt_val (pe_call G_v_fits_form hr rfl T.v_fits_form.mg T.v_fits_form.fn.kp T.v_fits_form.bd .nil pass0 (pa_cons (pv 1) (pa_cons (ne_lst (pa_cons pe_str (pa_cons pe_str (pa_cons pe_str (pa_cons pe_str pa_nil))))) pa_nil)))))
        (pss_one (ps_ret pe_non)) pss_nil)
      (pss_one (ps_ret (pe_make T.mk_Let M_Let_init hr rfl T.m_Let T.Let_init.bd .nil pass0 (pa_cons (pe_ix (ixK_list (K := K) rfl) (pv 1) pe_int (fun _ _ => rfl)) (pa_cons (pe_ix (ixK_list (K := K) rfl) (pv 1) pe_int (fun _ _ => rfl)) pa_nil))))))), ?_⟩
  walk_at "rd"
  refine ⟨line_small (by omega), ?_⟩
  intro lw H1 s1 hlw e1
  have hS := spl_sh hx
  have e1' : H1 lw = some (.lst ((spl x).map V.str)) := e1
  clear e1
  generalize spl x = ws at *
  walk_at "rd"
  intro lf H2 s2 hlf e2
  refine ⟨lw, lf, ws, fLet, rfl, SqL.of (s2 _ _ e1'), SqL.of e2, hS, fun H3 s3 => ?_⟩
  walk_at "rd"
  refine ite2 (fun h3 => (k _ ((s1.trans s2).trans s3)).1 (if_neg fun q => ?_)) (fun h3 => ?_)
  · have z : fitsF ws fLet = false := not_t h3
    rw [z] at q
    cases q
  have hF : fitsF ws fLet = true := not_f h3
  have hl : ws.length = 4 := fits_len hF
  walk_at "rd"
  intro p dx hp hdx hne
  refine ⟨p, dx, _, _, rfl, upd_same, rfl, ?_⟩
  exact (k _ (((s1.trans s2).trans s3).trans (made_same hp hdx hne))).2 p _ _ (if_pos hF) (((s1.trans s2).trans s3).free hp) ⟨dx, upd_same⟩
/-! ### part_of -/
theorem sc_v_part_of : FnScope ["row", "words"] ["row"] (defScope s_v_part_of) := ⟨rfl, rfl, rfl, by decide +kernel, rfl, by decide +kernel, by decide +kernel⟩
set_option maxHeartbeats 400000 in
theorem ok_v_part_of (T : Txt K mg t) : FnOk P w K mg base CX0 5 t.f_v_part_of t.d_v_part_of ["row"] (spPart t) := by
  have G_v_are_names : FnOk P w K mg base CX0 4 t.f_v_are_names t.d_v_are_names ["words", "most"] (spAre K) := (ok_v_are_names T).mono (by decide)
  have G_v_fits_form : FnOk P w K mg base CX0 4 t.f_v_fits_form t.d_v_fits_form ["words", "form"] (spForm K) := (ok_v_fits_form T).mono (by decide)
  have M_Part_init : FnOk P w K mg base CX0 3 t.f_Part_init t.d_Part_init ["self", "name", "rooms", "rows"] (spIP K t) := (ok_Part_init T).mono (by decide)
  refine T.v_part_of.fn.ok sc_v_part_of (fun vs H Q E h => (by first | (obtain ⟨rfl, _⟩ := h; rfl) | (obtain ⟨_, rfl, _⟩ := h; rfl) | (obtain ⟨_, _, rfl, _⟩ := h; rfl) | (obtain ⟨_, _, _, rfl, _⟩ := h; rfl) | (obtain ⟨_, _, _, _, rfl, _⟩ := h; rfl) | (obtain ⟨_, _, _, _, _, rfl, _⟩ := h; rfl) | (obtain ⟨_, _, _, _, _, _, rfl, _⟩ := h; rfl) | (obtain ⟨_, _, _, _, _, _, _, rfl, _⟩ := h; rfl) | (obtain ⟨_, _, _, _, _, _, _, _, rfl, _⟩ := h; rfl) | (obtain ⟨_, _, _, _, _, _, _, _, _, rfl, _⟩ := h; rfl) | (obtain ⟨_, _, _, _, _, _, _, _, _, _, rfl, _⟩ := h; rfl) | (obtain ⟨_, _, _, _, _, _, _, _, _, _, _, rfl, _⟩ := h; rfl) | (obtain ⟨_, _, _, _, _, _, _, _, _, _, _, _, rfl, _⟩ := h; rfl) | (obtain ⟨_, _, _, _, _, _, _, _, _, _, _, _, _, rfl, _⟩ := h; rfl) | (obtain ⟨_, _, _, _, _, _, _, _, _, _, _, _, _, _, rfl, _⟩ := h; rfl) | (obtain ⟨_, _, _, _, _, _, _, _, _, _, _, _, _, _, _, rfl, _⟩ := h; rfl) | (obtain ⟨_, _, _, _, _, _, _, _, _, _, _, _, _, _, _, _, rfl, _⟩ := h; rfl) | (obtain ⟨_, _, _, _, _, _, _, _, _, _, _, _, _, _, _, _, _, rfl, _⟩ := h; rfl) | (obtain ⟨_, _, _, _, _, _, _, _, _, _, _, _, _, _, _, _, _, _, rfl, _⟩ := h; rfl) | (obtain ⟨_, _, _, _, _, _, _, _, _, _, _, _, _, _, _, _, _, _, _, rfl, _⟩ := h; rfl) | (obtain ⟨_, _, _, _, _, _, _, _, _, _, _, _, _, _, _, _, _, _, _, _, rfl, _⟩ := h; rfl) | (obtain ⟨_, _, _, _, _, _, _, _, _, _, _, _, _, _, _, _, _, _, _, _, _, rfl, _⟩ := h; rfl) | (obtain ⟨_, _, _, _, _, _, _, _, _, _, _, _, _, _, _, _, _, _, _, _, _, _, rfl, _⟩ := h; rfl) | (obtain ⟨_, _, _, _, _, _, _, _, _, _, _, _, _, _, _, _, _, _, _, _, _, _, _, rfl, _⟩ := h; rfl))) (fun cdv A outer s H vs Q E hr h => ?_)
  obtain ⟨x, rfl, hx, k⟩ := h
  refine ⟨_, (pss_cons (ps_set (i := 1) sc_v_part_of.nd rfl (Or.inl rfl) (pe_bm PySem.F.plainAttrs_str PySem.F.slot_str_split PySem.F.type_str_split nm_split (pv 0) (pa_cons pe_str pa_nil)))
      (pss_cons (ps_if (pt_not (pt_val (pe_call G_v_fits_form hr rfl T.v_fits_form.mg T.v_fits_form.fn.kp T.v_fits_form.bd .nil pass0 (pa_cons (pe_slice (nsK_list (K := K) rfl) (pv 1) po_none (po_some pe_int)) (pa_cons (ne_lst (pa_cons pe_str (pa_cons pe_str pa_nil))) pa_nil)))))
        (pss_one (ps_ret pe_non)) pss_nil)
      (pss_cons (ps_if (pt_cmpR op_eq (pe_callB (callK_len (K := K) rfl) rfl T.b_len PySem.boot_len (pa_cons (pv 1) pa_nil)) pe_int (nomark _))
        (pss_one (ps_ret (pe_make T.mk_Part M_Part_init hr rfl T.m_Part T.Part_init.bd .nil pass0 (pa_cons (pe_ix (ixK_list (K := K) rfl) (pv 1) pe_int (fun _ _ => rfl)) (pa_cons (ne_lst pa_nil) (pa_cons (ne_lst pa_nil) pa_nil)))))) pss_nil)
      (pss_cons (ps_if (PW.pt (pw_or (pt_cmpR op_ne (pe_ix (ixK_list (K := K) rfl) (pv 1) pe_int (fun _ _ => rfl)) pe_str (nomark _)) (pw_or1 (pt_not (pt_val (pe_call G_v_are_names hr rfl T.v_are_names.mg T.v_are_names.fn.kp T.v_are_names.bd .nil pass0 (pa_cons (pe_slice (nsK_list (K := K) rfl) (pv 1) (po_some pe_int) po_none) (pa_cons (pe_glob rfl (T.g_MOST_ROOMS).choose_spec (v := .int 12) ⟨_, rfl⟩) pa_nil))))))))
        (pss_one (ps_ret pe_non)) pss_nil)
      (pss_one (ps_ret (pe_make T.mk_Part M_Part_init hr rfl T.m_Part T.Part_init.bd .nil pass0 (pa_cons (pe_ix (ixK_list (K := K) rfl) (pv 1) pe_int (fun _ _ => rfl)) (pa_cons (pe_slice (nsK_list (K := K) rfl) (pv 1) (po_some pe_int) po_none) (pa_cons (ne_lst pa_nil) pa_nil)))))))))), ?_⟩
  walk_at "rd"
  refine ⟨line_small (by omega), ?_⟩
  intro lw H1 s1 hlw e1
  have hS := spl_sh hx
  have e1' : H1 lw = some (.lst ((spl x).map V.str)) := e1
  clear e1
  generalize spl x = ws at *
  walk_at "rd"
  intro lc H2 s2 hlc e2
  replace e2 : H2 lc = some (.lst ((ws.take 2).map V.str)) := by rw [← cut_take V.str ws 2]; exact e2
  walk_at "rd"
  intro lf H3 s3 hlf e3
  refine ⟨lc, lf, ws.take 2, fPart, rfl, SqL.of (s3 _ _ e2), SqL.of e3, hS.take 2, fun H4 s4 => ?_⟩
  have sA : Same H H4 := ((s1.trans s2).trans s3).trans s4
  walk_at "rd"
  refine ite2 (fun h3 => (k _ sA).1 (if_neg fun q => ?_)) (fun h3 => ?_)
  · have z : fitsF (ws.take 2) fPart = false := not_t h3
    rw [z] at q
    cases q
  have hF : fitsF (ws.take 2) fPart = true := not_f h3
  have hl : 2 ≤ ws.length := by have : (ws.take 2).length = 2 := fits_len hF; rw [List.length_take] at this; omega
  have e4 : H4 lw = some (.lst (ws.map V.str)) := s4 _ _ (s3 _ _ (s2 _ _ e1'))
  clear e1' e2 e3 s1 s2 s3 s4
  refine ⟨_, rfl, lw, _, rfl, .inl (SqL.of e4), rfl, _, rfl, ?_⟩
  rw [List.length_map]
  refine ite2 (fun h4 => ?_) (fun h4 => ?_)
  · have hl2 : ws.length = 2 := by have := of_decide_eq_true h4; injection this with this; omega
    walk_at "rd"
    intro a1 H5 s5 ha1 e5
    walk_at "rd"
    intro a2 H6 s6 ha2 e6
    walk_at "rd"
    intro p dx hp hdx hne
    have sM := made_in (o := HO.own p) (o2 := HO.ins t.c_Part dx []) hp hdx
    refine ⟨p, dx, a1, a2, _, [], rfl, upd_same, sM _ _ (s6 _ _ e5), sM _ _ e6, fun H7 o7 h7 => ⟨rfl, ?_⟩⟩
    exact (k H7 (((sA.trans s5).trans s6).trans (made_off hp hdx o7))).2 p _ _ (by unfold partO; rw [if_pos hF, if_pos hl2]; rfl) (((sA.trans s5).trans s6).free hp) (h7.back (((sA.trans s5).trans s6).trans sM))
  have hl3 : ¬ ws.length = 2 := fun q => h4 (decide_eq_true (by rw [q]; rfl))
  walk_at "rd"
  refine ite2 (fun h5 => iteT ((k _ sA).1 ?_)) (fun h5 => ?_)
  · unfold partO
    rw [if_pos hF, if_neg hl3, if_pos (.inl (str_ne1 h5))]
  have hin : wd ws 2 = "in" := str_ne0 h5
  walk_at "rd"
  intro lc H5 s5 hlc e5
  replace e5 : H5 lc = some (.lst ((ws.drop 3).map V.str)) := by rw [← cut_drop V.str ws 3]; exact e5
  refine ⟨lc, _, _, rfl, SqL.of e5, hS.drop 3, fun H6 s6 => ?_⟩
  walk_at "rd"
  refine ite2 (fun h6 => (k _ ((sA.trans s5).trans s6)).1 ?_) (fun h6 => ?_)
  · unfold partO
    rw [if_pos hF, if_neg hl3, if_pos (.inr (not_t h6))]
  have hN : areN (ws.drop 3) 12 = true := not_f h6
  have e6 : H6 lw = some (.lst (ws.map V.str)) := s6 _ _ (s5 _ _ e4)
  clear e4 e5
  walk_at "rd"
  intro a1 H7 s7 ha1 e7
  replace e7 : H7 a1 = some (.lst ((ws.drop 3).map V.str)) := by rw [← cut_drop V.str ws 3]; exact e7
  walk_at "rd"
  intro a2 H8 s8 ha2 e8
  walk_at "rd"
  intro p dx hp hdx hne
  have sM := made_in (o := HO.own p) (o2 := HO.ins t.c_Part dx []) hp hdx
  refine ⟨p, dx, a1, a2, _, _, rfl, upd_same, sM _ _ (s8 _ _ e7), sM _ _ e8, fun H9 o9 h9 => ⟨rfl, ?_⟩⟩
  exact (k H9 (((((sA.trans s5).trans s6).trans s7).trans s8).trans (made_off hp hdx o9))).2 p _ _ (by unfold partO; rw [if_pos hF, if_neg hl3, if_neg (fun q => q.elim (fun q => q hin) (fun q => by rw [hN] at q; cases q))]; rfl) (((((sA.trans s5).trans s6).trans s7).trans s8).free hp) (h9.back (((((sA.trans s5).trans s6).trans s7).trans s8).trans sM))
/-! ### clause_of -/
theorem sc_v_clause_of : FnScope ["row", "words"] ["row"] (defScope s_v_clause_of) := ⟨rfl, rfl, rfl, by decide +kernel, rfl, by decide +kernel, by decide +kernel⟩
set_option maxHeartbeats 400000 in
theorem ok_v_clause_of (T : Txt K mg t) : FnOk P w K mg base CX0 5 t.f_v_clause_of t.d_v_clause_of ["row"] (spClause t) := by
  have G_v_fits_form : FnOk P w K mg base CX0 4 t.f_v_fits_form t.d_v_fits_form ["words", "form"] (spForm K) := (ok_v_fits_form T).mono (by decide)
  have G_v_number_of : FnOk P w K mg base CX0 4 t.f_v_number_of t.d_v_number_of ["word"] spNum := (ok_v_number_of T).mono (by decide)
  have M_Ban_init : FnOk P w K mg base CX0 3 t.f_Ban_init t.d_Ban_init ["self", "label", "who", "act", "room"] (spI4 K) := (ok_Ban_init T).mono (by decide)
  have M_Clause_init : FnOk P w K mg base CX0 3 t.f_Clause_init t.d_Clause_init ["self", "label", "who", "act"] (spI3 K) := (ok_Clause_init T).mono (by decide)
  have M_Duty_init : FnOk P w K mg base CX0 3 t.f_Duty_init t.d_Duty_init ["self", "label", "who", "act", "turns", "room"] (spI5 K) := (ok_Duty_init T).mono (by decide)
  have M_Power_init : FnOk P w K mg base CX0 3 t.f_Power_init t.d_Power_init ["self", "label", "who", "act", "room"] (spI4 K) := (ok_Power_init T).mono (by decide)
  refine T.v_clause_of.fn.ok sc_v_clause_of (fun vs H Q E h => (by first | (obtain ⟨rfl, _⟩ := h; rfl) | (obtain ⟨_, rfl, _⟩ := h; rfl) | (obtain ⟨_, _, rfl, _⟩ := h; rfl) | (obtain ⟨_, _, _, rfl, _⟩ := h; rfl) | (obtain ⟨_, _, _, _, rfl, _⟩ := h; rfl) | (obtain ⟨_, _, _, _, _, rfl, _⟩ := h; rfl) | (obtain ⟨_, _, _, _, _, _, rfl, _⟩ := h; rfl) | (obtain ⟨_, _, _, _, _, _, _, rfl, _⟩ := h; rfl) | (obtain ⟨_, _, _, _, _, _, _, _, rfl, _⟩ := h; rfl) | (obtain ⟨_, _, _, _, _, _, _, _, _, rfl, _⟩ := h; rfl) | (obtain ⟨_, _, _, _, _, _, _, _, _, _, rfl, _⟩ := h; rfl) | (obtain ⟨_, _, _, _, _, _, _, _, _, _, _, rfl, _⟩ := h; rfl) | (obtain ⟨_, _, _, _, _, _, _, _, _, _, _, _, rfl, _⟩ := h; rfl) | (obtain ⟨_, _, _, _, _, _, _, _, _, _, _, _, _, rfl, _⟩ := h; rfl) | (obtain ⟨_, _, _, _, _, _, _, _, _, _, _, _, _, _, rfl, _⟩ := h; rfl) | (obtain ⟨_, _, _, _, _, _, _, _, _, _, _, _, _, _, _, rfl, _⟩ := h; rfl) | (obtain ⟨_, _, _, _, _, _, _, _, _, _, _, _, _, _, _, _, rfl, _⟩ := h; rfl) | (obtain ⟨_, _, _, _, _, _, _, _, _, _, _, _, _, _, _, _, _, rfl, _⟩ := h; rfl) | (obtain ⟨_, _, _, _, _, _, _, _, _, _, _, _, _, _, _, _, _, _, rfl, _⟩ := h; rfl) | (obtain ⟨_, _, _, _, _, _, _, _, _, _, _, _, _, _, _, _, _, _, _, rfl, _⟩ := h; rfl) | (obtain ⟨_, _, _, _, _, _, _, _, _, _, _, _, _, _, _, _, _, _, _, _, rfl, _⟩ := h; rfl) | (obtain ⟨_, _, _, _, _, _, _, _, _, _, _, _, _, _, _, _, _, _, _, _, _, rfl, _⟩ := h; rfl) | (obtain ⟨_, _, _, _, _, _, _, _, _, _, _, _, _, _, _, _, _, _, _, _, _, _, rfl, _⟩ := h; rfl) | (obtain ⟨_, _, _, _, _, _, _, _, _, _, _, _, _, _, _, _, _, _, _, _, _, _, _, rfl, _⟩ := h; rfl))) (fun cdv A outer s H vs Q E hr h => ?_)
  obtain ⟨x, rfl, hx, k⟩ := h
  refine ⟨_, (pss_cons (ps_set (i := 1) sc_v_clause_of.nd rfl (Or.inl rfl) (pe_bm PySem.F.plainAttrs_str PySem.F.slot_str_split PySem.F.type_str_split nm_split (pv 0) (pa_cons pe_str pa_nil)))
      (pss_cons (ps_if (pt_val (pe_call G_v_fits_form hr rfl T.v_fits_form.mg T.v_fits_form.fn.kp T.v_fits_form.bd .nil pass0 (pa_cons (pv 1) (pa_cons (ne_lst (pa_cons pe_str (pa_cons pe_str (pa_cons pe_str (pa_cons pe_str (pa_cons pe_str (pa_cons pe_str (pa_cons pe_str (pa_cons pe_str pa_nil))))))))) pa_nil))))
        (pss_one (ps_ret (pe_make T.mk_Duty M_Duty_init hr rfl T.m_Duty T.Duty_init.bd .nil pass0 (pa_cons (pe_ix (ixK_list (K := K) rfl) (pv 1) pe_int (fun _ _ => rfl)) (pa_cons (pe_ix (ixK_list (K := K) rfl) (pv 1) pe_int (fun _ _ => rfl)) (pa_cons (pe_ix (ixK_list (K := K) rfl) (pv 1) pe_int (fun _ _ => rfl)) (pa_cons (pe_call G_v_number_of hr rfl T.v_number_of.mg T.v_number_of.fn.kp T.v_number_of.bd .nil pass0 (pa_cons (pe_ix (ixK_list (K := K) rfl) (pv 1) pe_int (fun _ _ => rfl)) pa_nil)) (pa_cons (pe_ix (ixK_list (K := K) rfl) (pv 1) pe_int (fun _ _ => rfl)) pa_nil)))))))) pss_nil)
      (pss_cons (ps_if (pt_val (pe_call G_v_fits_form hr rfl T.v_fits_form.mg T.v_fits_form.fn.kp T.v_fits_form.bd .nil pass0 (pa_cons (pv 1) (pa_cons (ne_lst (pa_cons pe_str (pa_cons pe_str (pa_cons pe_str (pa_cons pe_str pa_nil))))) pa_nil))))
        (pss_one (ps_ret (pe_make T.mk_Leave M_Clause_init hr rfl T.m_Leave T.Clause_init.bd .nil pass0 (pa_cons (pe_ix (ixK_list (K := K) rfl) (pv 1) pe_int (fun _ _ => rfl)) (pa_cons (pe_ix (ixK_list (K := K) rfl) (pv 1) pe_int (fun _ _ => rfl)) (pa_cons (pe_ix (ixK_list (K := K) rfl) (pv 1) pe_int (fun _ _ => rfl)) pa_nil)))))) pss_nil)
      (pss_cons (ps_if (pt_val (pe_call G_v_fits_form hr rfl T.v_fits_form.mg T.v_fits_form.fn.kp T.v_fits_form.bd .nil pass0 (pa_cons (pv 1) (pa_cons (ne_lst (pa_cons pe_str (pa_cons pe_str (pa_cons pe_str (pa_cons pe_str (pa_cons pe_str (pa_cons pe_str (pa_cons pe_str pa_nil)))))))) pa_nil))))
        (pss_one (ps_ret (pe_make T.mk_Ban M_Ban_init hr rfl T.m_Ban T.Ban_init.bd .nil pass0 (pa_cons (pe_ix (ixK_list (K := K) rfl) (pv 1) pe_int (fun _ _ => rfl)) (pa_cons (pe_ix (ixK_list (K := K) rfl) (pv 1) pe_int (fun _ _ => rfl)) (pa_cons (pe_ix (ixK_list (K := K) rfl) (pv 1) pe_int (fun _ _ => rfl)) (pa_cons (pe_ix (ixK_list (K := K) rfl) (pv 1) pe_int (fun _ _ => rfl)) pa_nil))))))) pss_nil)
      (pss_cons (ps_if (pt_val (pe_call G_v_fits_form hr rfl T.v_fits_form.mg T.v_fits_form.fn.kp T.v_fits_form.bd .nil pass0 (pa_cons (pv 1) (pa_cons (ne_lst (pa_cons pe_str (pa_cons pe_str (pa_cons pe_str (pa_cons pe_str (pa_cons pe_str (pa_cons pe_str pa_nil))))))) pa_nil))))
        (pss_one (ps_ret (pe_make T.mk_Power M_Power_init hr rfl T.m_Power T.Power_init.bd .nil pass0 (pa_cons (pe_ix (ixK_list (K := K) rfl) (pv 1) pe_int (fun _ _ => rfl)) (pa_cons (pe_ix (ixK_list (K := K) rfl) (pv 1) pe_int (fun _ _ => rfl)) (pa_cons (pe_ix (ixK_list (K := K) rfl) (pv 1) pe_int (fun _ _ => rfl)) (pa_cons (pe_ix (ixK_list (K := K) rfl) (pv 1) pe_int (fun _ _ => rfl)) pa_nil))))))) pss_nil)
      (pss_one (ps_ret pe_non))))))), ?_⟩
  walk_at "rd"
  refine ⟨line_small (by omega), ?_⟩
  intro lw H1 s1 hlw e1
  have hS := spl_sh hx
  have e1' : H1 lw = some (.lst ((spl x).map V.str)) := e1
  clear e1
  generalize spl x = ws at *
  walk_at "rd"
  intro lf H2 s2 hlf e2
  refine ⟨lw, lf, ws, fDuty, rfl, SqL.of (s2 _ _ e1'), SqL.of e2, hS, fun H3 s3 => ?_⟩
  have e3 : H3 lw = some (.lst (ws.map V.str)) := s3 _ _ (s2 _ _ e1')
  have sA : Same H H3 := (s1.trans s2).trans s3
  clear e1' e2 s1 s2 s3
  walk_at "rd"
  refine ite2 (fun h1 => ?_) (fun h1 => ?_)
  · have hl : ws.length = 8 := fits_len h1
    walk_at "rd"
    refine ⟨hS.short _ (wd_mem (by omega)), fun H4 s4 => ?_⟩
    have e4 : H4 lw = some (.lst (ws.map V.str)) := s4 _ _ e3
    clear e3
    walk_at "rd"
    intro p dx hp hdx hne
    refine ⟨p, _, dx, _, _, _, _, _, _, rfl, cf_Duty T, upd_same, rfl, ?_⟩
    exact (k _ ((sA.trans s4).trans (made_same hp hdx hne))).2 p 0 _ _ _ _ _ (by unfold clauseO; rw [if_pos h1]; rfl) ((sA.trans s4).free hp) ⟨dx, upd_same⟩
  have f1 : ¬ fitsF ws fDuty = true := h1
  walk_at "rd"
  intro lf2 H4 s4 hlf2 e4
  refine ⟨lw, lf2, ws, fLeave, rfl, SqL.of (s4 _ _ e3), SqL.of e4, hS, fun H5 s5 => ?_⟩
  have e5 : H5 lw = some (.lst (ws.map V.str)) := s5 _ _ (s4 _ _ e3)
  have sB : Same H H5 := (sA.trans s4).trans s5
  clear e3 e4 s4 s5 sA
  walk_at "rd"
  refine ite2 (fun h2 => ?_) (fun h2 => ?_)
  · have hl : ws.length = 4 := fits_len h2
    walk_at "rd"
    intro p dx hp hdx hne
    refine ⟨p, _, dx, _, _, _, _, rfl, cf_Leave T, upd_same, rfl, ?_⟩
    exact (k _ (sB.trans (made_same hp hdx hne))).2 p 1 _ _ _ 0 "" (by unfold clauseO; rw [if_neg f1, if_pos h2]; rfl) (sB.free hp) ⟨dx, upd_same⟩
  have f2 : ¬ fitsF ws fLeave = true := h2
  walk_at "rd"
  intro lf3 H6 s6 hlf3 e6
  refine ⟨lw, lf3, ws, fBan, rfl, SqL.of (s6 _ _ e5), SqL.of e6, hS, fun H7 s7 => ?_⟩
  have e7 : H7 lw = some (.lst (ws.map V.str)) := s7 _ _ (s6 _ _ e5)
  have sC : Same H H7 := (sB.trans s6).trans s7
  clear e5 e6 s6 s7 sB
  walk_at "rd"
  refine ite2 (fun h3 => ?_) (fun h3 => ?_)
  · have hl : ws.length = 7 := fits_len h3
    walk_at "rd"
    intro p dx hp hdx hne
    refine ⟨p, _, dx, _, _, _, _, _, rfl, cf_Ban T, upd_same, rfl, ?_⟩
    exact (k _ (sC.trans (made_same hp hdx hne))).2 p 2 _ _ _ 0 _ (by unfold clauseO; rw [if_neg f1, if_neg f2, if_pos h3]; rfl) (sC.free hp) ⟨dx, upd_same⟩
  have f3 : ¬ fitsF ws fBan = true := h3
  walk_at "rd"
  intro lf4 H8 s8 hlf4 e8
  refine ⟨lw, lf4, ws, fPower, rfl, SqL.of (s8 _ _ e7), SqL.of e8, hS, fun H9 s9 => ?_⟩
  have e9 : H9 lw = some (.lst (ws.map V.str)) := s9 _ _ (s8 _ _ e7)
  have sD : Same H H9 := (sC.trans s8).trans s9
  clear e7 e8 s8 s9 sC
  walk_at "rd"
  refine ite2 (fun h4 => ?_) (fun h4 => ?_)
  · have hl : ws.length = 6 := fits_len h4
    walk_at "rd"
    intro p dx hp hdx hne
    refine ⟨p, _, dx, _, _, _, _, _, rfl, cf_Power T, upd_same, rfl, ?_⟩
    exact (k _ (sD.trans (made_same hp hdx hne))).2 p 3 _ _ _ 0 _ (by unfold clauseO; rw [if_neg f1, if_neg f2, if_neg f3, if_pos h4]; rfl) (sD.free hp) ⟨dx, upd_same⟩
  exact (k _ sD).1 (by unfold clauseO; rw [if_neg f1, if_neg f2, if_neg f3, if_neg h4])


/-! ### words by their kinds: 0 a name, 1 a number, 2 any other, from 3 on the words of the forms -/
end
def lits : List Str := ["any", "must", "may", "not", "by", "else", "to", "let", "be", "part", "in", "calm", "sore", "end"]
def Rt (k : Nat) (x : Str) : Prop := (k = 0 ∧ nameB x = true) ∨ (k = 1 ∧ nameB x = false ∧ 0 < numV x ∧ x ∉ lits) ∨ (k = 2 ∧ nameB x = false ∧ numV x = 0 ∧ x ∉ lits) ∨ (3 ≤ k ∧ lits[k - 3]? = some x)
def fits1 (k p : Nat) : Bool := if p = 100 then k == 0 else if p = 101 then k == 0 || k == 3 else if p = 102 then k == 1 else k == p
def fitsT (ks ps : List Nat) : Bool := decide (ks.length = ps.length) && (ks.zip ps).all fun q => fits1 q.1 q.2
def plc (p : Nat) : Str := if p = 100 then "NAME" else if p = 101 then "WHO" else if p = 102 then "NUMBER" else lits.getD (p - 3) ""
def pDuty : List Nat := [100, 100, 4, 100, 7, 102, 8, 100]
def pLeave : List Nat := [100, 101, 5, 100]
def pBan : List Nat := [100, 101, 5, 6, 100, 8, 100]
def pPower : List Nat := [100, 101, 7, 100, 9, 100]
def pLet : List Nat := [10, 100, 11, 100]
def pPart : List Nat := [12, 100]
def okP (p : Nat) : Bool := p == 100 || p == 101 || p == 102 || (decide (3 ≤ p) && decide (p ≤ 16))
theorem forms_ok : fDuty = pDuty.map plc ∧ fLeave = pLeave.map plc ∧ fBan = pBan.map plc ∧ fPower = pPower.map plc ∧ fLet = pLet.map plc ∧ fPart = pPart.map plc := by decide +kernel
theorem lits_no : ∀ x ∈ lits, nameB x = false ∧ numV x = 0 := by decide +kernel
theorem lits_nd : lits.Nodup := by decide +kernel
theorem lits_len : lits.length = 14 := rfl
theorem has_digit_no : ∀ c ∈ k_LETTERS.cps.toList, ¬ (48 ≤ c ∧ c ≤ 57) := by decide +kernel
theorem has_mem (z : Str) (c : Nat) : has z c = decide (c ∈ z.cps.toList) := StrLaws.found_one z c
theorem writ_mem {x z : Str} {m : Int} (h : writ x z m = true) : 1 ≤ x.length ∧ (x.length : Int) ≤ m ∧ ∀ c ∈ x.cps.toList, c ∈ z.cps.toList := by
  unfold writ at h
  rw [Bool.and_eq_true, Bool.and_eq_true] at h
  obtain ⟨⟨h1, h2⟩, h3⟩ := h
  refine ⟨of_decide_eq_true h1, of_decide_eq_true h2, fun c hc => ?_⟩
  have := List.all_eq_true.mp h3 c hc
  rw [has_mem] at this
  exact of_decide_eq_true this
theorem name_num {x : Str} (h : nameB x = true) : numV x = 0 := by
  unfold nameB at h
  rw [Bool.and_eq_true] at h
  obtain ⟨h1, _, h3⟩ := writ_mem h.1
  unfold numV
  refine if_neg fun q => ?_
  obtain ⟨_, _, d3⟩ := writ_digits q.1
  obtain ⟨c, e, _⟩ := first_at h1
  have hc : c ∈ x.cps.toList := List.mem_of_mem_head? e
  exact has_digit_no c (h3 c hc) (d3 c hc)
theorem name_lit {x : Str} (h : nameB x = true) : x ∉ lits := fun q => by rw [(lits_no x q).1] at h; cases h
theorem lit_at {k j : Nat} {x : Str} (hk : lits[k]? = some x) (hj : lits[j]? = some x) : k = j := nodup_ix lits_nd hk hj
theorem Rt.num {k : Nat} {x : Str} (h : Rt k x) : decide (numV x > 0) = (k == 1) := by
  rcases h with ⟨rfl, h⟩ | ⟨rfl, h1, h2, h3⟩ | ⟨rfl, h1, h2, h3⟩ | ⟨h1, h2⟩
  · rw [name_num h]; rfl
  · rw [decide_eq_true h2]; rfl
  · rw [h2]; rfl
  · have hm := List.mem_of_getElem? h2
    rw [(lits_no x hm).2]
    have : (k == 1) = false := beq_eq_false_iff_ne.mpr (by omega)
    rw [this]; rfl
theorem Rt.name {k : Nat} {x : Str} (h : Rt k x) : nameB x = (k == 0) := by
  rcases h with ⟨rfl, h⟩ | ⟨rfl, h1, h2, h3⟩ | ⟨rfl, h1, h2, h3⟩ | ⟨h1, h2⟩
  · rw [h]; rfl
  · rw [h1]; rfl
  · rw [h1]; rfl
  · have hm := List.mem_of_getElem? h2
    rw [(lits_no x hm).1]
    exact (beq_eq_false_iff_ne.mpr (by omega)).symm
theorem Rt.lit {k j : Nat} {x y : Str} (h : Rt k x) (hj : lits[j]? = some y) : decide (x = y) = (k == j + 3) := by
  have nm : x ∉ lits → k < 3 → decide (x = y) = (k == j + 3) := fun h h3 => by
    have : ¬ x = y := fun q => h (by rw [q]; exact List.mem_of_getElem? hj)
    rw [decide_eq_false this]
    exact (beq_eq_false_iff_ne.mpr (by omega)).symm
  rcases h with ⟨rfl, h⟩ | ⟨rfl, h1, h2, h3⟩ | ⟨rfl, h1, h2, h3⟩ | ⟨h1, h2⟩
  · exact nm (name_lit h) (by omega)
  · exact nm h3 (by omega)
  · exact nm h3 (by omega)
  · by_cases q : k = j + 3
    · subst q
      rw [Nat.add_sub_cancel] at h2
      rw [hj] at h2
      cases h2
      simp
    · have : ¬ x = y := fun e => q (by subst e; have := lit_at h2 hj; omega)
      rw [decide_eq_false this]
      exact (beq_eq_false_iff_ne.mpr q).symm
theorem plc_ne : ∀ p < 17, 3 ≤ p → plc p ≠ "NAME" ∧ plc p ≠ "WHO" ∧ plc p ≠ "NUMBER" ∧ lits[p - 3]? = some (plc p) := by decide +kernel
theorem fitsP_name (x : Str) : fitsP x "NAME" = nameB x := if_pos rfl
theorem who_ne : ("WHO" : Str) ≠ "NAME" ∧ ("NUMBER" : Str) ≠ "NAME" ∧ ("NUMBER" : Str) ≠ "WHO" := by decide +kernel
theorem Rt.fits {k p : Nat} {x : Str} (h : Rt k x) (hp : okP p = true) : fitsP x (plc p) = fits1 k p := by
  unfold fits1
  by_cases h1 : p = 100
  · subst h1
    rw [if_pos rfl]
    show fitsP x "NAME" = _
    rw [fitsP_name, h.name]
  rw [if_neg h1]
  by_cases h2 : p = 101
  · subst h2
    rw [if_pos rfl]
    show fitsP x "WHO" = _
    unfold fitsP
    rw [if_neg who_ne.1, if_pos rfl, h.name, h.lit (j := 0) rfl]
  rw [if_neg h2]
  by_cases h3 : p = 102
  · subst h3
    rw [if_pos rfl]
    show fitsP x "NUMBER" = _
    unfold fitsP
    rw [if_neg who_ne.2.1, if_neg who_ne.2.2, if_pos rfl, h.num]
  rw [if_neg h3]
  have hp' : 3 ≤ p ∧ p ≤ 16 := by
    unfold okP at hp
    simp [h1, h2, h3] at hp
    exact hp
  obtain ⟨a, b, c, d⟩ := plc_ne p (by omega) hp'.1
  unfold fitsP
  rw [if_neg a, if_neg b, if_neg c, h.lit d, Nat.sub_add_cancel hp'.1]
abbrev Rts : List Nat → List Str → Prop := Paired Rt
theorem Rts.fits : ∀ {ks : List Nat} {ws : List Str}, Rts ks ws → ∀ {ps : List Nat}, ps.all okP = true → fitsF ws (ps.map plc) = fitsT ks ps := by
  intro ks ws r ps hp
  unfold fitsF fitsT
  rw [List.length_map, ← r.length]
  congr 1
  induction r generalizing ps with
  | nil => rfl
  | cons h t ih =>
    cases ps with
    | nil => rfl
    | cons p ps =>
      rw [List.all_cons, Bool.and_eq_true] at hp
      rw [List.map_cons, List.zip_cons_cons, List.zip_cons_cons, List.all_cons, List.all_cons, ih hp.2]
      rw [show fitsP _ (plc p) = fits1 _ p from h.fits hp.1]
def partT (ks : List Nat) : Bool := fitsT (ks.take 2) pPart && (ks.length == 2 || (ks.getD 2 99 == 13 && (decide (1 ≤ (ks.drop 3).length) && decide ((ks.drop 3).length ≤ 12) && (ks.drop 3).all (· == 0))))
def roomT (ks : List Nat) : Bool := ks.length == 2 && (decide (14 ≤ ks.getD 0 99) && decide (ks.getD 0 99 ≤ 16)) && ks.getD 1 99 == 0
def noneT (ks : List Nat) : Bool := !fitsT ks pDuty && !fitsT ks pLeave && !fitsT ks pBan && !fitsT ks pPower && !fitsT ks pLet && !partT ks && !roomT ks
def emptyO (ws : List Str) : Prop := clauseO ws = none ∧ letO ws = none ∧ partO ws = none ∧ roomO ws = none
theorem Rts.take : ∀ {ks : List Nat} {ws : List Str} (n : Nat), Rts ks ws → Rts (ks.take n) (ws.take n)
  | _, _, 0, _ => .nil
  | _, _, _ + 1, .nil => .nil
  | _, _, n + 1, .cons r t => .cons r (Rts.take n t)
theorem Rts.drop : ∀ {ks : List Nat} {ws : List Str} (n : Nat), Rts ks ws → Rts (ks.drop n) (ws.drop n)
  | _, _, 0, r => r
  | _, _, _ + 1, .nil => .nil
  | _, _, n + 1, .cons _ t => Rts.drop n t
theorem Rts.append : ∀ {ks js : List Nat} {ws zs : List Str}, Rts ks ws → Rts js zs → Rts (ks ++ js) (ws ++ zs)
  | _, _, _, _, .nil, s => s
  | _, _, _, _, .cons r t, s => .cons r (Rts.append t s)
theorem Rts.pick : ∀ {ks : List Nat} {ws : List Str} {i : Nat}, Rts ks ws → i < ks.length → Rt (ks.getD i 99) (My.wd ws i)
  | _, _, _, .nil, h => by simp at h
  | _, _, 0, .cons r _, _ => r
  | _, _, i + 1, .cons _ t, h => Rts.pick (i := i) t (by simpa using h)
theorem Rts.names : ∀ {ks : List Nat} {ws : List Str}, Rts ks ws → ws.all nameB = ks.all (· == 0)
  | _, _, .nil => rfl
  | _, _, .cons r t => by rw [List.all_cons, List.all_cons, Rts.names t, r.name]
theorem pok : pDuty.all okP = true ∧ pLeave.all okP = true ∧ pBan.all okP = true ∧ pPower.all okP = true ∧ pLet.all okP = true ∧ pPart.all okP = true := by decide
theorem no_fit {ks ps : List Nat} {ws fs : List Str} (r : Rts ks ws) (hp : ps.all okP = true) (e : fs = ps.map plc) (h : fitsT ks ps = false) : ¬ fitsF ws fs = true := by
  rw [e, r.fits hp, h]
  simp
theorem yes_fit {ks ps : List Nat} {ws fs : List Str} (r : Rts ks ws) (hp : ps.all okP = true) (e : fs = ps.map plc) (h : fitsT ks ps = true) : fitsF ws fs = true := by
  rw [e, r.fits hp, h]
theorem fitsT_len {ks ps : List Nat} (h : fitsT ks ps = true) : ks.length = ps.length := by
  unfold fitsT at h
  rw [Bool.and_eq_true] at h
  exact of_decide_eq_true h.1
theorem Rts.part {ks : List Nat} {ws : List Str} (r : Rts ks ws) (h : partT ks = false) : partO ws = none := by
  have hl := r.length
  unfold partO
  by_cases hf : fitsF (ws.take 2) fPart = true
  · rw [if_pos hf]
    have hT : fitsT (ks.take 2) pPart = true := by
      have := (r.take 2).fits pok.2.2.2.2.2
      rw [← forms_ok.2.2.2.2.2, hf] at this
      exact this.symm
    have h2 : 2 ≤ ks.length := by have : (ks.take 2).length = 2 := fitsT_len hT; rw [List.length_take] at this; omega
    unfold partT at h
    rw [hT, Bool.true_and, Bool.or_eq_false_iff] at h
    have hn : ¬ ws.length = 2 := fun q => by
      have : ks.length = 2 := by omega
      rw [this] at h
      simp at h
    rw [if_neg hn]
    refine if_pos ?_
    by_cases hin : wd ws 2 = "in"
    · refine .inr ?_
      have r2 := Rts.pick (i := 2) r (by omega)
      have e13 : (ks.getD 2 99 == 13) = true := by rw [← r2.lit (j := 10) (y := "in") rfl]; exact decide_eq_true hin
      have h3 := h.2
      rw [e13, Bool.true_and] at h3
      unfold areN
      rw [(r.drop 3).names, ← (r.drop 3).length]
      have hc : decide (((ks.drop 3).length : Int) ≤ 12) = decide ((ks.drop 3).length ≤ 12) := by
        by_cases q : (ks.drop 3).length ≤ 12
        · rw [decide_eq_true q, decide_eq_true (by omega)]
        · rw [decide_eq_false q, decide_eq_false (by omega)]
      rw [hc]
      exact h3
    · exact .inl hin
  · exact if_neg hf
theorem marks_lit : ∀ x ∈ ks_MARKS, lits[11]? = some x ∨ lits[12]? = some x ∨ lits[13]? = some x := by decide +kernel
theorem Rts.room {ks : List Nat} {ws : List Str} (r : Rts ks ws) (h : roomT ks = false) : roomO ws = none := by
  have hl := r.length
  unfold roomO
  refine if_neg fun q => ?_
  obtain ⟨q1, q2, q3⟩ := q
  have r0 := Rts.pick (i := 0) r (by omega)
  have r1 := Rts.pick (i := 1) r (by omega)
  have hm : wd ws 0 ∈ ks_MARKS := by
    rw [in_strs] at q2
    exact of_decide_eq_true q2
  rw [r1.name] at q3
  have hk : 14 ≤ ks.getD 0 99 ∧ ks.getD 0 99 ≤ 16 := by
    rcases marks_lit _ hm with e | e | e
    · have := (r0.lit e).symm.trans (decide_eq_true rfl)
      have := beq_iff_eq.mp this
      omega
    · have := (r0.lit e).symm.trans (decide_eq_true rfl)
      have := beq_iff_eq.mp this
      omega
    · have := (r0.lit e).symm.trans (decide_eq_true rfl)
      have := beq_iff_eq.mp this
      omega
  unfold roomT at h
  rw [decide_eq_true hk.1, decide_eq_true hk.2, q3, show (ks.length == 2) = true from beq_iff_eq.mpr (by omega)] at h
  cases h
theorem Rts.empty {ks : List Nat} {ws : List Str} (r : Rts ks ws) (h : noneT ks = true) : emptyO ws := by
  unfold noneT at h
  simp only [Bool.and_eq_true, Bool.not_eq_true'] at h
  obtain ⟨⟨⟨⟨⟨⟨h1, h2⟩, h3⟩, h4⟩, h5⟩, h6⟩, h7⟩ := h
  obtain ⟨f1, f2, f3, f4, f5, f6⟩ := forms_ok
  obtain ⟨o1, o2, o3, o4, o5, o6⟩ := pok
  refine ⟨?_, ?_, r.part h6, r.room h7⟩
  · unfold clauseO
    rw [if_neg (no_fit r o1 f1 h1), if_neg (no_fit r o2 f2 h2), if_neg (no_fit r o3 f3 h3), if_neg (no_fit r o4 f4 h4)]
  · unfold letO
    rw [if_neg (no_fit r o5 f5 h5)]
section
variable {P : Program} {w : World} {K : PySem.W.Frag} {mg : Str → Option Value} {base : Heap} {t : Adr}


/-! ### the rows that are drawn, good and spoilt -/
end
def patt : List (Nat × List Nat) := [(0, [0, 0, 4, 0, 7, 1, 8, 0]), (1, [0, 0, 5, 0]), (1, [0, 3, 5, 0]), (2, [0, 0, 5, 6, 0, 8, 0]), (2, [0, 3, 5, 6, 0, 8, 0]), (3, [0, 0, 7, 0, 9, 0]), (3, [0, 3, 7, 0, 9, 0]), (4, [10, 0, 11, 0]), (5, [12, 0])] ++
  (List.range 12).map (fun m => (6, [12, 0, 13] ++ List.replicate (m + 1) 0)) ++ [(7, [14, 0]), (7, [15, 0]), (7, [16, 0])]
def ok5 (s i b : Nat) : Bool := if s = 0 then (if i = 1 then b == 3 else i == 4 || i == 5 || i == 6 || i == 7) else if s < 4 then (if i = 1 then b == 2 else true) else if s = 5 ∨ s = 7 then (if i = 0 then b == 2 else true) else true
theorem way3 : ∀ p ∈ patt, ∀ i < p.2.length, (p.1 = 6 → i < 3) → noneT (p.2.take i ++ p.2.drop (i + 1)) = true := by decide +kernel
theorem way4 : ∀ p ∈ patt, ∀ i < p.2.length + 1, ∀ b ∈ [2, 5, 3, 0], (p.1 = 6 → b ≠ 0) → noneT (p.2.take i ++ [b] ++ p.2.drop i) = true := by decide +kernel
theorem way5 : ∀ p ∈ patt, ∀ i < p.2.length, ∀ b ∈ [2, 3, 4, 5, 6, 7, 8, 9, 10, 11, 12, 13, 14, 15, 16], ok5 p.1 i b = true → noneT (p.2.take i ++ [b] ++ p.2.drop (i + 1)) = true ∨ (p.2.getD i 99 = b ∧ b ≠ 2) := by decide +kernel
section
variable {P : Program} {w : World} {K : PySem.W.Frag} {mg : Str → Option Value} {base : Heap} {t : Adr}


/-! ### words joined and split again -/
end
theorem sep_inj {c : Nat} : ∀ {xs ys X Y : List Nat}, c ∉ xs → c ∉ ys → xs ++ c :: X = ys ++ c :: Y → xs = ys ∧ X = Y
  | [], [], _, _, _, _, h => by simpa using h
  | [], y :: ys, _, _, _, hy, h => by
    simp only [List.nil_append, List.cons_append, List.cons.injEq] at h
    exact absurd (by rw [h.1]; simp) hy
  | x :: xs, [], _, _, hx, _, h => by
    simp only [List.nil_append, List.cons_append, List.cons.injEq] at h
    exact absurd (by rw [← h.1]; simp) hx
  | x :: xs, y :: ys, X, Y, hx, hy, h => by
    simp only [List.cons_append, List.cons.injEq] at h
    obtain ⟨e1, e2⟩ := sep_inj (c := c) (fun q => hx (List.mem_cons_of_mem _ q)) (fun q => hy (List.mem_cons_of_mem _ q)) h.2
    exact ⟨by rw [h.1, e1], e2⟩
theorem blank_cps : (" " : Str).cps.toList = [32] := by decide +kernel
theorem blank_is : (" " : Str) = ⟨#[32]⟩ := by decide +kernel
theorem join_cons2 (x y : Str) (r : List Str) : (Str.join " " (x :: y :: r)).cps.toList = x.cps.toList ++ 32 :: (Str.join " " (y :: r)).cps.toList := by
  rw [join_two, cps_append, cps_append, blank_cps]
  simp
theorem join_inj : ∀ {as bs : List Str}, as ≠ [] → bs ≠ [] → (∀ x ∈ as, 32 ∉ x.cps.toList) → (∀ x ∈ bs, 32 ∉ x.cps.toList) → Str.join " " as = Str.join " " bs → as = bs
  | [], _, h, _, _, _, _ => absurd rfl h
  | _ :: _, [], _, h, _, _, _ => absurd rfl h
  | [a], [b], _, _, _, _, e => by rw [show a = b from e]
  | [a], b :: b' :: r, _, _, ha, _, e => by
    have e' := congrArg (fun z => z.cps.toList) e
    simp only [join_cons2, L2.join_one] at e'
    exact absurd (by rw [e']; simp) (ha a (by simp))
  | a :: a' :: r, [b], _, _, _, hb, e => by
    have e' := congrArg (fun z => z.cps.toList) e
    simp only [join_cons2, L2.join_one] at e'
    exact absurd (by rw [← e']; simp) (hb b (by simp))
  | a :: a' :: r, b :: b' :: r', _, _, ha, hb, e => by
    have e' := congrArg (fun z => z.cps.toList) e
    simp only [join_cons2] at e'
    obtain ⟨e1, e2⟩ := sep_inj (ha a (by simp)) (hb b (by simp)) e'
    have := join_inj (as := a' :: r) (bs := b' :: r') (by simp) (by simp) (fun x hx => ha x (List.mem_cons_of_mem _ hx)) (fun x hx => hb x (List.mem_cons_of_mem _ hx)) (str_ext e2)
    rw [str_ext e1, this]
theorem spl_join {ws : List Str} (h : ws ≠ []) (hb : ∀ x ∈ ws, 32 ∉ x.cps.toList) : spl (Txt.join " " ws) = ws := by
  unfold spl
  rw [join_eq]
  refine (join_inj h ?_ hb ?_ ?_).symm
  · intro q
    have := PyProof.Rows.split_pos (Str.join " " ws) " "
    rw [q] at this
    simp at this
  · intro x hx
    rw [blank_is] at hx
    exact StrLaws.split_free _ 32 x hx
  · exact (StrLaws.join_split _ _).symm
/-- words that can stand in a row -/
structure Wk (x : Str) : Prop where
  as : asc x
  nb : 32 ∉ x.cps.toList
def tot (ws : List Str) : Nat := (ws.map (·.length)).sum + ws.length
theorem tot_app (as bs : List Str) : tot (as ++ bs) = tot as + tot bs := by
  unfold tot
  rw [List.map_append, List.sum_append, List.length_append]
  omega
theorem tot_take (ws : List Str) (i : Nat) : tot (ws.take i) + tot (ws.drop i) = tot ws := by rw [← tot_app, List.take_append_drop]
theorem tot_drop1 (ws : List Str) (i : Nat) : tot (ws.drop (i + 1)) ≤ tot (ws.drop i) := by
  have := tot_take (ws.drop i) 1
  rw [List.drop_drop] at this
  omega
theorem tot_one (x : Str) : tot [x] = x.length + 1 := by simp [tot]
theorem tot_le {n : Nat} : ∀ {ws : List Str}, (∀ x ∈ ws, x.length ≤ n) → tot ws ≤ (n + 1) * ws.length
  | [], _ => by simp [tot]
  | x :: r, h => by
    have h1 := h x (by simp)
    have h2 := tot_le (n := n) (ws := r) fun y hy => h y (List.mem_cons_of_mem _ hy)
    have e : tot (x :: r) = tot [x] + tot r := tot_app [x] r
    rw [e, tot_one, List.length_cons, Nat.mul_add]
    omega
theorem row_len (ws : List Str) : (Txt.join " " ws).length ≤ tot ws := by
  have := join_len " " ws
  have e : (" " : Str).length = 1 := by decide +kernel
  rw [e] at this
  unfold tot
  omega
theorem row_sum (ws : List Str) : (ws.map (·.length)).sum + ws.length * (" " : Str).length = tot ws := by
  have e : (" " : Str).length = 1 := by decide +kernel
  rw [e]; unfold tot; omega
section
variable {P : Program} {w : World} {K : PySem.W.Frag} {mg : Str → Option Value} {base : Heap} {t : Adr}


/-! ### the law's own: cells, numbers, names -/
end
def mixF (c k : Int) : Int := (c % 2147483629 + 104729 * (k + 1)) % 2147483629 * ((c % 2147483629 + 104729 * (k + 1)) % 2147483629) % 2147483647 * 48271 % 2147483647 / 7
theorem mix_lt (c k : Int) : 0 ≤ mixF c k ∧ mixF c k < 306783379 := by
  unfold mixF
  generalize (c % 2147483629 + 104729 * (k + 1)) % 2147483629 * ((c % 2147483629 + 104729 * (k + 1)) % 2147483629) % 2147483647 * 48271 = z
  omega
def cellF (ns : List Int) (k : Int) : Int := if k < (ns.length : Int) then ns.getD k.toNat 0 % 1000000000000000000000007 else 0
theorem cell_lt (ns : List Int) (k : Int) : 0 ≤ cellF ns k ∧ cellF ns k < 1000000000000000000000007 := by
  unfold cellF
  split
  · exact ⟨Int.emod_nonneg _ (by decide), Int.emod_lt_of_pos _ (by decide)⟩
  · decide
def spCell (K : PySem.W.Frag) : Sp := fun vs H Q _ => ∃ (a : Addr) (k : Int) (ns : List Int), vs = [.ref a, .int k] ∧ SqL K H a (ns.map V.int) ∧ 0 ≤ k ∧ Q (.int (cellF ns k)) H
def spMix : Sp := fun vs H Q _ => ∃ (c k : Int), vs = [.int c, .int k] ∧ 0 ≤ k ∧ k ≤ 1000 ∧ Q (.int (mixF c k)) H
abbrev sS : Str := "fgjkqvxz"
def spL : List Nat := [102, 103, 106, 107, 113, 118, 120, 122]
theorem sS_ok : sS.length = 8 ∧ sS.cps.toList = spL := by decide +kernel
theorem letL_ok : k_LETTERS.length = 26 ∧ k_LETTERS.cps.toList.length = 26 := by decide +kernel
theorem sp_let : ∀ c ∈ spL, c ∈ k_LETTERS.cps.toList := by decide +kernel
theorem kept_nosp : ∀ x ∈ ks_KEPT, ∀ c ∈ x.cps.toList, c ∉ spL := by decide +kernel
def spc (j : Int) : Nat := spL.getD j.toNat 0
theorem name_of {x : Str} (h1 : 1 ≤ x.length) (h2 : x.length ≤ 8) (h3 : ∀ c ∈ x.cps.toList, c ∈ k_LETTERS.cps.toList) (h4 : ∃ c ∈ x.cps.toList, c ∈ spL) : nameB x = true := by
  unfold nameB writ
  rw [decide_eq_true h1, decide_eq_true (show (x.length : Int) ≤ 8 by omega)]
  have e : x.cps.toList.all (has k_LETTERS) = true := List.all_eq_true.mpr fun c hc => by rw [has_mem]; exact decide_eq_true (h3 c hc)
  rw [e, in_strs]
  obtain ⟨c, hc, hs⟩ := h4
  rw [decide_eq_false (fun q => kept_nosp x q c hc hs)]
  rfl
theorem name_good {x : Str} (h : nameB x = true) : 1 ≤ x.length ∧ x.length ≤ 8 ∧ Wk x := by
  unfold nameB at h
  rw [Bool.and_eq_true] at h
  obtain ⟨h1, h2, h3⟩ := writ_mem h.1
  refine ⟨h1, by omega, fun c hc => lets_ok.2.2 c (h3 c hc), fun hc => ?_⟩
  have : ¬ 32 ∈ k_LETTERS.cps.toList := by decide +kernel
  exact this (h3 32 hc)
def headsS : List Str := ["part", "done", "let", "calm", "sore", "end", "acts", "any", "in", "else", "may", "not"]
theorem heads_ok : ∀ x ∈ headsS, 1 ≤ x.length ∧ x.length ≤ 4 ∧ ∀ c ∈ x.cps.toList, c ∈ k_LETTERS.cps.toList := by decide +kernel
def szF (c : Int) : Int := 2 + c / 81 % (7 - (if c % 3 = 1 then 1 else 0))
def atF (c : Int) : Int := c / 500 % szF c
def hlF (c : Int) : Nat := (headsS.getD (c / 12 % 12).toNat "").length
theorem sz_ok (c : Int) : 2 ≤ szF c ∧ szF c ≤ 8 ∧ (c % 3 = 1 → szF c ≤ 7) := by
  unfold szF
  by_cases h : c % 3 = 1
  · rw [if_pos h]
    omega
  · rw [if_neg h]
    omega
def otF (c : Int) : Int := (atF c + 1 + c / 3600 % (szF c - 1)) % szF c
theorem at_ok (c : Int) : 0 ≤ atF c ∧ atF c < szF c := by
  have h := (sz_ok c).1
  exact ⟨Int.emod_nonneg _ (by omega), Int.emod_lt_of_pos _ (by omega)⟩
theorem ot_ok (c : Int) : 0 ≤ otF c ∧ otF c < szF c ∧ otF c ≠ atF c := by
  have h := (sz_ok c).1
  have ha := at_ok c
  have r0 : 0 ≤ c / 3600 % (szF c - 1) := Int.emod_nonneg _ (by omega)
  have r1 : c / 3600 % (szF c - 1) < szF c - 1 := Int.emod_lt_of_pos _ (by omega)
  refine ⟨Int.emod_nonneg _ (by omega), Int.emod_lt_of_pos _ (by omega), ?_⟩
  unfold otF
  generalize c / 3600 % (szF c - 1) = r at *
  generalize szF c = z at *
  generalize atF c = a at *
  by_cases q : a + 1 + r < z
  · rw [Int.emod_eq_of_lt (by omega) q]
    omega
  · have e : a + 1 + r = (a + 1 + r - z) + z := by omega
    rw [e, Int.add_emod_right, Int.emod_eq_of_lt (by omega) (by omega)]
    omega
theorem seven_pos (b : Bool) : (0 : Int) < 7 - (if b = true then 1 else 0) := by cases b <;> decide
theorem sz_is (c : Int) : (2 + c / 81 % (7 - (if decide (V.int (c % 3) = V.int 1) = true then (1 : Int) else 0))) = szF c := by
  unfold szF
  by_cases q : c % 3 = 1
  · rw [if_pos q, if_pos (by rw [q]; exact decide_eq_true rfl)]
  · rw [if_neg q, if_neg (fun h => q (by have := of_decide_eq_true h; injection this))]
def markQ (c k : Int) (x : Str) : Prop := if c % 12 = 7 then x.cps.toList[hlF c]? = some (spc (k % 8)) else if c % 3 = 1 then (x.length : Int) = szF c + k % 2 else x.cps.toList[(atF c).toNat]? = some (spc (k % 8))
def spNameL : Sp := fun vs H Q _ => ∃ (c k : Int), vs = [.int c, .int k] ∧ 0 ≤ c ∧ c < 1000000000 ∧ 0 ≤ k ∧ k < 16 ∧ ∀ x H', nameB x = true → (8 ≤ k → markQ c k x) → Same H H' → Q (.str x) H'
def spKept1 : Sp := fun vs H Q _ => ∃ (c : Int), vs = [.int c] ∧ ∀ x H', x ∈ ks_KEPT → Same H H' → Q (.str x) H'
theorem spc_mem (k : Int) : spc (k % 8) ∈ spL := by
  unfold spc
  have h0 : 0 ≤ k % 8 := Int.emod_nonneg _ (by omega)
  have h1 : k % 8 < 8 := Int.emod_lt_of_pos _ (by omega)
  have hj : (k % 8).toNat < spL.length := by show (k % 8).toNat < 8; omega
  rw [List.getD_eq_getElem?_getD, List.getElem?_eq_getElem hj]
  exact List.getElem_mem hj
theorem let_mem (k : Int) : k_LETTERS.cps.toList.getD (k % 26).toNat 0 ∈ k_LETTERS.cps.toList := by
  have h0 : 0 ≤ k % 26 := Int.emod_nonneg _ (by omega)
  have h1 : k % 26 < 26 := Int.emod_lt_of_pos _ (by omega)
  have hj : (k % 26).toNat < k_LETTERS.cps.toList.length := by rw [letL_ok.2]; omega
  rw [List.getD_eq_getElem?_getD, List.getElem?_eq_getElem hj]
  exact List.getElem_mem hj
def LS (x : Str) : Prop := ∀ c ∈ x.cps.toList, c ∈ k_LETTERS.cps.toList
theorem ls_nil : LS "" := by unfold LS; decide +kernel
theorem ls_one {c : Nat} (h : c ∈ k_LETTERS.cps.toList) : LS ⟨#[c]⟩ := fun d hd => by rw [show d = c by simpa using hd]; exact h
theorem ls_app {a b : Str} (ha : LS a) (hb : LS b) : LS (a ++ b) := fun c hc => by
  rw [cps_append] at hc
  exact (List.mem_append.mp hc).elim (ha c) (hb c)
def tailQ (c k k' : Int) (tl : Str) : Prop := (c % 3 = 1 ∧ k % 2 = 1 ∧ k' = k - 1 ∧ tl.length = 1 ∧ LS tl) ∨ (¬ (c % 3 = 1 ∧ k % 2 = 1) ∧ k' = k ∧ tl = "")
theorem int_x {a b : Int} (h : decide (V.int a = V.int b) = true) : a = b := by have := of_decide_eq_true h; injection this
theorem int_y {a b : Int} (h : a = b) : decide (V.int a = V.int b) = true := by subst h; exact decide_eq_true rfl
section
variable {P : Program} {w : World} {K : PySem.W.Frag} {mg : Str → Option Value} {base : Heap} {t : Adr}
theorem sc_w_cell_at : FnScope ["_law_script", "_law_k"] ["_law_script", "_law_k"] (defScope s_w_cell_at) := ⟨rfl, rfl, rfl, by decide +kernel, rfl, by decide +kernel, by decide +kernel⟩
set_option maxHeartbeats 400000 in
theorem ok_w_cell_at (T : Txt K mg t) : FnOk P w K mg base CX0 1 t.f_w_cell_at t.d_w_cell_at ["_law_script", "_law_k"] (spCell K) := by
  refine T.w_cell_at.fn.ok sc_w_cell_at (fun vs H Q E h => (by first | (obtain ⟨rfl, _⟩ := h; rfl) | (obtain ⟨_, rfl, _⟩ := h; rfl) | (obtain ⟨_, _, rfl, _⟩ := h; rfl) | (obtain ⟨_, _, _, rfl, _⟩ := h; rfl) | (obtain ⟨_, _, _, _, rfl, _⟩ := h; rfl) | (obtain ⟨_, _, _, _, _, rfl, _⟩ := h; rfl) | (obtain ⟨_, _, _, _, _, _, rfl, _⟩ := h; rfl) | (obtain ⟨_, _, _, _, _, _, _, rfl, _⟩ := h; rfl) | (obtain ⟨_, _, _, _, _, _, _, _, rfl, _⟩ := h; rfl) | (obtain ⟨_, _, _, _, _, _, _, _, _, rfl, _⟩ := h; rfl) | (obtain ⟨_, _, _, _, _, _, _, _, _, _, rfl, _⟩ := h; rfl) | (obtain ⟨_, _, _, _, _, _, _, _, _, _, _, rfl, _⟩ := h; rfl) | (obtain ⟨_, _, _, _, _, _, _, _, _, _, _, _, rfl, _⟩ := h; rfl) | (obtain ⟨_, _, _, _, _, _, _, _, _, _, _, _, _, rfl, _⟩ := h; rfl) | (obtain ⟨_, _, _, _, _, _, _, _, _, _, _, _, _, _, rfl, _⟩ := h; rfl) | (obtain ⟨_, _, _, _, _, _, _, _, _, _, _, _, _, _, _, rfl, _⟩ := h; rfl) | (obtain ⟨_, _, _, _, _, _, _, _, _, _, _, _, _, _, _, _, rfl, _⟩ := h; rfl) | (obtain ⟨_, _, _, _, _, _, _, _, _, _, _, _, _, _, _, _, _, rfl, _⟩ := h; rfl) | (obtain ⟨_, _, _, _, _, _, _, _, _, _, _, _, _, _, _, _, _, _, rfl, _⟩ := h; rfl) | (obtain ⟨_, _, _, _, _, _, _, _, _, _, _, _, _, _, _, _, _, _, _, rfl, _⟩ := h; rfl) | (obtain ⟨_, _, _, _, _, _, _, _, _, _, _, _, _, _, _, _, _, _, _, _, rfl, _⟩ := h; rfl) | (obtain ⟨_, _, _, _, _, _, _, _, _, _, _, _, _, _, _, _, _, _, _, _, _, rfl, _⟩ := h; rfl) | (obtain ⟨_, _, _, _, _, _, _, _, _, _, _, _, _, _, _, _, _, _, _, _, _, _, rfl, _⟩ := h; rfl) | (obtain ⟨_, _, _, _, _, _, _, _, _, _, _, _, _, _, _, _, _, _, _, _, _, _, _, rfl, _⟩ := h; rfl))) (fun cdv A outer s H vs Q E hr h => ?_)
  obtain ⟨a, k, ns, rfl, hA, k0, kk⟩ := h
  refine ⟨_, (pss_cons (ps_if (pt_cmpR op_lt (pv 1) (pe_callB (callK_len (K := K) rfl) rfl T.b_len PySem.boot_len (pa_cons (pv 0) pa_nil)) (nomark _))
        (pss_one (ps_ret (pe_op op_mod (pe_ix (ixK_list (K := K) rfl) (pv 0) (pv 1) (fun _ _ => rfl)) pe_int))) pss_nil)
      (pss_one (ps_ret pe_int))), ?_⟩
  refine ⟨_, rfl, _, rfl, a, _, rfl, .inl hA, _, _, rfl, rfl, _, rfl, ?_⟩
  rw [List.length_map]
  refine ite2 (fun h1 => ?_) (fun h1 => ?_)
  · have h1' := of_decide_eq_true h1
    rw [show cellF ns k = ns.getD k.toNat 0 % 1000000000000000000000007 from if_pos h1'] at kk
    walk_at "rd"
    exact kk
  · have h1' : ¬ k < (ns.length : Int) := fun q => h1 (decide_eq_true q)
    rw [show cellF ns k = 0 from if_neg h1'] at kk
    walk_at "rd"
    exact kk
theorem sc_w_mix : FnScope ["_law_cell", "_law_k", "_law_number"] ["_law_cell", "_law_k"] (defScope s_w_mix) := ⟨rfl, rfl, rfl, by decide +kernel, rfl, by decide +kernel, by decide +kernel⟩
set_option maxHeartbeats 400000 in
theorem ok_w_mix (T : Txt K mg t) : FnOk P w K mg base CX0 1 t.f_w_mix t.d_w_mix ["_law_cell", "_law_k"] spMix := by
  refine T.w_mix.fn.ok sc_w_mix (fun vs H Q E h => (by first | (obtain ⟨rfl, _⟩ := h; rfl) | (obtain ⟨_, rfl, _⟩ := h; rfl) | (obtain ⟨_, _, rfl, _⟩ := h; rfl) | (obtain ⟨_, _, _, rfl, _⟩ := h; rfl) | (obtain ⟨_, _, _, _, rfl, _⟩ := h; rfl) | (obtain ⟨_, _, _, _, _, rfl, _⟩ := h; rfl) | (obtain ⟨_, _, _, _, _, _, rfl, _⟩ := h; rfl) | (obtain ⟨_, _, _, _, _, _, _, rfl, _⟩ := h; rfl) | (obtain ⟨_, _, _, _, _, _, _, _, rfl, _⟩ := h; rfl) | (obtain ⟨_, _, _, _, _, _, _, _, _, rfl, _⟩ := h; rfl) | (obtain ⟨_, _, _, _, _, _, _, _, _, _, rfl, _⟩ := h; rfl) | (obtain ⟨_, _, _, _, _, _, _, _, _, _, _, rfl, _⟩ := h; rfl) | (obtain ⟨_, _, _, _, _, _, _, _, _, _, _, _, rfl, _⟩ := h; rfl) | (obtain ⟨_, _, _, _, _, _, _, _, _, _, _, _, _, rfl, _⟩ := h; rfl) | (obtain ⟨_, _, _, _, _, _, _, _, _, _, _, _, _, _, rfl, _⟩ := h; rfl) | (obtain ⟨_, _, _, _, _, _, _, _, _, _, _, _, _, _, _, rfl, _⟩ := h; rfl) | (obtain ⟨_, _, _, _, _, _, _, _, _, _, _, _, _, _, _, _, rfl, _⟩ := h; rfl) | (obtain ⟨_, _, _, _, _, _, _, _, _, _, _, _, _, _, _, _, _, rfl, _⟩ := h; rfl) | (obtain ⟨_, _, _, _, _, _, _, _, _, _, _, _, _, _, _, _, _, _, rfl, _⟩ := h; rfl) | (obtain ⟨_, _, _, _, _, _, _, _, _, _, _, _, _, _, _, _, _, _, _, rfl, _⟩ := h; rfl) | (obtain ⟨_, _, _, _, _, _, _, _, _, _, _, _, _, _, _, _, _, _, _, _, rfl, _⟩ := h; rfl) | (obtain ⟨_, _, _, _, _, _, _, _, _, _, _, _, _, _, _, _, _, _, _, _, _, rfl, _⟩ := h; rfl) | (obtain ⟨_, _, _, _, _, _, _, _, _, _, _, _, _, _, _, _, _, _, _, _, _, _, rfl, _⟩ := h; rfl) | (obtain ⟨_, _, _, _, _, _, _, _, _, _, _, _, _, _, _, _, _, _, _, _, _, _, _, rfl, _⟩ := h; rfl))) (fun cdv A outer s H vs Q E hr h => ?_)
  obtain ⟨c, k, rfl, k0, k1, kk⟩ := h
  refine ⟨_, (pss_cons (ps_set (i := 2) sc_w_mix.nd rfl (Or.inl rfl) (pe_op op_mod (pe_op op_add (pe_op op_mod (pv 0) pe_int) (pe_op op_mul pe_int (pe_op op_add (pv 1) pe_int))) pe_int))
      (pss_one (ps_ret (pe_op op_fdiv (pe_op op_mod (pe_op op_mul (pe_op op_mod (pe_op op_mul (pv 2) (pv 2)) pe_int) pe_int) pe_int) pe_int)))), ?_⟩
  walk_at "rd"
  exact kk
theorem sc_w_kept : FnScope ["_law_cell", "_law_kept_here"] ["_law_cell"] (defScope s_w_kept) := ⟨rfl, rfl, rfl, by decide +kernel, rfl, by decide +kernel, by decide +kernel⟩
set_option maxHeartbeats 400000 in
theorem ok_w_kept (T : Txt K mg t) : FnOk P w K mg base CX0 1 t.f_w_kept t.d_w_kept ["_law_cell"] spKept1 := by
  refine T.w_kept.fn.ok sc_w_kept (fun vs H Q E h => (by first | (obtain ⟨rfl, _⟩ := h; rfl) | (obtain ⟨_, rfl, _⟩ := h; rfl) | (obtain ⟨_, _, rfl, _⟩ := h; rfl) | (obtain ⟨_, _, _, rfl, _⟩ := h; rfl) | (obtain ⟨_, _, _, _, rfl, _⟩ := h; rfl) | (obtain ⟨_, _, _, _, _, rfl, _⟩ := h; rfl) | (obtain ⟨_, _, _, _, _, _, rfl, _⟩ := h; rfl) | (obtain ⟨_, _, _, _, _, _, _, rfl, _⟩ := h; rfl) | (obtain ⟨_, _, _, _, _, _, _, _, rfl, _⟩ := h; rfl) | (obtain ⟨_, _, _, _, _, _, _, _, _, rfl, _⟩ := h; rfl) | (obtain ⟨_, _, _, _, _, _, _, _, _, _, rfl, _⟩ := h; rfl) | (obtain ⟨_, _, _, _, _, _, _, _, _, _, _, rfl, _⟩ := h; rfl) | (obtain ⟨_, _, _, _, _, _, _, _, _, _, _, _, rfl, _⟩ := h; rfl) | (obtain ⟨_, _, _, _, _, _, _, _, _, _, _, _, _, rfl, _⟩ := h; rfl) | (obtain ⟨_, _, _, _, _, _, _, _, _, _, _, _, _, _, rfl, _⟩ := h; rfl) | (obtain ⟨_, _, _, _, _, _, _, _, _, _, _, _, _, _, _, rfl, _⟩ := h; rfl) | (obtain ⟨_, _, _, _, _, _, _, _, _, _, _, _, _, _, _, _, rfl, _⟩ := h; rfl) | (obtain ⟨_, _, _, _, _, _, _, _, _, _, _, _, _, _, _, _, _, rfl, _⟩ := h; rfl) | (obtain ⟨_, _, _, _, _, _, _, _, _, _, _, _, _, _, _, _, _, _, rfl, _⟩ := h; rfl) | (obtain ⟨_, _, _, _, _, _, _, _, _, _, _, _, _, _, _, _, _, _, _, rfl, _⟩ := h; rfl) | (obtain ⟨_, _, _, _, _, _, _, _, _, _, _, _, _, _, _, _, _, _, _, _, rfl, _⟩ := h; rfl) | (obtain ⟨_, _, _, _, _, _, _, _, _, _, _, _, _, _, _, _, _, _, _, _, _, rfl, _⟩ := h; rfl) | (obtain ⟨_, _, _, _, _, _, _, _, _, _, _, _, _, _, _, _, _, _, _, _, _, _, rfl, _⟩ := h; rfl) | (obtain ⟨_, _, _, _, _, _, _, _, _, _, _, _, _, _, _, _, _, _, _, _, _, _, _, rfl, _⟩ := h; rfl))) (fun cdv A outer s H vs Q E hr h => ?_)
  obtain ⟨c, rfl, kk⟩ := h
  refine ⟨_, (pss_cons (ps_set (i := 1) sc_w_kept.nd rfl (Or.inl rfl) (ne_lst (pa_cons pe_str (pa_cons pe_str (pa_cons pe_str (pa_cons pe_str (pa_cons pe_str (pa_cons pe_str (pa_cons pe_str (pa_cons pe_str (pa_cons pe_str (pa_cons pe_str (pa_cons pe_str (pa_cons pe_str (pa_cons pe_str (pa_cons pe_str pa_nil))))))))))))))) sw_list)
      (pss_cons (ps_set (i := 1) sc_w_kept.nd rfl (Or.inl rfl) (pe_op no_cat (pv 1) (ne_lst (pa_cons pe_str (pa_cons pe_str (pa_cons pe_str (pa_cons pe_str (pa_cons pe_str pa_nil))))))))
      (pss_one (ps_ret (pe_ix (ixK_list (K := K) rfl) (pv 1) (pe_op op_mod (pv 0) pe_int) (fun _ _ => rfl)))))), ?_⟩
  walk_at "rd"
  intro l1 H1 s1 h1 e1
  walk_at "rd"
  intro l2 H2 s2 h2 e2
  refine ⟨l1, l2, _, _, rfl, rfl, s2 _ _ e1, e2, line_small (by decide), ?_⟩
  intro l3 H3 s3 h3 e3
  have e4 : H3 l3 = some (.lst (ks_KEPT.map V.str)) := e3
  clear e1 e2 e3
  have hk : ks_KEPT.length = 19 := rfl
  have b0 : 0 ≤ c % 19 := Int.emod_nonneg _ (by decide)
  have b1 : c % 19 < 19 := Int.emod_lt_of_pos _ (by decide)
  walk_at "rd"
  exact kk _ _ (wd_mem (by omega)) (by walk_at "sm")
set_option maxRecDepth 1000000 in
theorem sc_w_name : FnScope ["_law_cell", "_law_k", "_law_letters", "_law_heads", "_law_tail", "_law_size", "_law_at", "_law_other", "_law_name_here", "_law_j", "_law_letter"] ["_law_cell", "_law_k"] (defScope s_w_name) := ⟨rfl, rfl, rfl, by decide +kernel, rfl, by decide +kernel, by decide +kernel⟩
set_option maxHeartbeats 400000 in
theorem ok_w_name (T : Txt K mg t) : FnOk P w K mg base CX0 2 t.f_w_name t.d_w_name ["_law_cell", "_law_k"] spNameL := by
  have G_w_mix : FnOk P w K mg base CX0 1 t.f_w_mix t.d_w_mix ["_law_cell", "_law_k"] spMix := (ok_w_mix T).mono (by decide)
  refine T.w_name.fn.ok sc_w_name (fun vs H Q E h => (by first | (obtain ⟨rfl, _⟩ := h; rfl) | (obtain ⟨_, rfl, _⟩ := h; rfl) | (obtain ⟨_, _, rfl, _⟩ := h; rfl) | (obtain ⟨_, _, _, rfl, _⟩ := h; rfl) | (obtain ⟨_, _, _, _, rfl, _⟩ := h; rfl) | (obtain ⟨_, _, _, _, _, rfl, _⟩ := h; rfl) | (obtain ⟨_, _, _, _, _, _, rfl, _⟩ := h; rfl) | (obtain ⟨_, _, _, _, _, _, _, rfl, _⟩ := h; rfl) | (obtain ⟨_, _, _, _, _, _, _, _, rfl, _⟩ := h; rfl) | (obtain ⟨_, _, _, _, _, _, _, _, _, rfl, _⟩ := h; rfl) | (obtain ⟨_, _, _, _, _, _, _, _, _, _, rfl, _⟩ := h; rfl) | (obtain ⟨_, _, _, _, _, _, _, _, _, _, _, rfl, _⟩ := h; rfl) | (obtain ⟨_, _, _, _, _, _, _, _, _, _, _, _, rfl, _⟩ := h; rfl) | (obtain ⟨_, _, _, _, _, _, _, _, _, _, _, _, _, rfl, _⟩ := h; rfl) | (obtain ⟨_, _, _, _, _, _, _, _, _, _, _, _, _, _, rfl, _⟩ := h; rfl) | (obtain ⟨_, _, _, _, _, _, _, _, _, _, _, _, _, _, _, rfl, _⟩ := h; rfl) | (obtain ⟨_, _, _, _, _, _, _, _, _, _, _, _, _, _, _, _, rfl, _⟩ := h; rfl) | (obtain ⟨_, _, _, _, _, _, _, _, _, _, _, _, _, _, _, _, _, rfl, _⟩ := h; rfl) | (obtain ⟨_, _, _, _, _, _, _, _, _, _, _, _, _, _, _, _, _, _, rfl, _⟩ := h; rfl) | (obtain ⟨_, _, _, _, _, _, _, _, _, _, _, _, _, _, _, _, _, _, _, rfl, _⟩ := h; rfl) | (obtain ⟨_, _, _, _, _, _, _, _, _, _, _, _, _, _, _, _, _, _, _, _, rfl, _⟩ := h; rfl) | (obtain ⟨_, _, _, _, _, _, _, _, _, _, _, _, _, _, _, _, _, _, _, _, _, rfl, _⟩ := h; rfl) | (obtain ⟨_, _, _, _, _, _, _, _, _, _, _, _, _, _, _, _, _, _, _, _, _, _, rfl, _⟩ := h; rfl) | (obtain ⟨_, _, _, _, _, _, _, _, _, _, _, _, _, _, _, _, _, _, _, _, _, _, _, rfl, _⟩ := h; rfl))) (fun cdv A outer s H vs Q E hr h => ?_)
  obtain ⟨c, k, rfl, c0, c1, k0, k1, kk⟩ := h
  refine ⟨_, (pss_cons (ps_set (i := 2) sc_w_name.nd rfl (Or.inl rfl) pe_str)
      (pss_cons (PS.join (ps_if (PW.pt (pw_and (pt_cmpR op_eq (pe_op op_mod (pv 0) pe_int) pe_int (nomark _)) (pw_and1 (pt_cmpR op_lt (pv 1) pe_int (nomark _)))))
        (pss_one (ps_ret (pe_ix ix_str pe_str (pv 1) (fun _ _ => rfl)))) pss_nil))
      (pss_cons (ps_if (pt_cmpR op_eq (pe_op op_mod (pv 0) pe_int) pe_int (nomark _))
        (pss_cons (ps_set (i := 3) sc_w_name.nd rfl (Or.inl rfl) (ne_lst (pa_cons pe_str (pa_cons pe_str (pa_cons pe_str (pa_cons pe_str (pa_cons pe_str (pa_cons pe_str (pa_cons pe_str (pa_cons pe_str (pa_cons pe_str (pa_cons pe_str (pa_cons pe_str (pa_cons pe_str pa_nil))))))))))))) sw_list)
      (pss_one (ps_ret (pe_op op_add_str (pe_op op_add_str (pe_ix (ixK_list (K := K) rfl) (pv 3) (pe_op op_mod (pe_op op_fdiv (pv 0) pe_int) pe_int) (fun _ _ => rfl)) (pe_ix ix_str pe_str (pe_op op_mod (pv 1) pe_int) (fun _ _ => rfl))) (pe_ix ix_str (pv 2) (pe_op op_mod (pe_op op_fdiv (pv 1) pe_int) pe_int) (fun _ _ => rfl)))))) pss_nil)
      (pss_cons (ps_set (i := 4) sc_w_name.nd rfl (Or.inl rfl) pe_str)
      (pss_cons (PS.join (ps_if (PW.pt (pw_and (pt_cmpR op_eq (pe_op op_mod (pv 0) pe_int) pe_int (nomark _)) (pw_and1 (pt_cmpR op_eq (pe_op op_mod (pv 1) pe_int) pe_int (nomark _)))))
        (pss_cons (ps_set (i := 4) sc_w_name.nd rfl (Or.inl rfl) (pe_ix ix_str (pv 2) (pe_op op_mod (pe_op op_fdiv (pv 0) pe_int) pe_int) (fun _ _ => rfl)))
      (pss_one (ps_set (i := 1) sc_w_name.nd rfl (Or.inl rfl) (pe_op op_sub (pv 1) pe_int)))) pss_nil))
      (pss_cons (ps_set (i := 5) sc_w_name.nd rfl (Or.inl rfl) (pe_op op_add pe_int (pe_op op_mod (pe_op op_fdiv (pv 0) pe_int) (pe_op op_sub pe_int (pe_callTy call_int1 rfl T.b_int PyProof.Rows.boot_int (pa_cons (pe_cmpR op_eq (pe_op op_mod (pv 0) pe_int) pe_int (nomark _)) pa_nil))))))
      (pss_cons (ps_set (i := 6) sc_w_name.nd rfl (Or.inl rfl) (pe_op op_mod (pe_op op_fdiv (pv 0) pe_int) (pv 5)))
      (pss_cons (ps_set (i := 7) sc_w_name.nd rfl (Or.inl rfl) (pe_op op_mod (pe_op op_add (pe_op op_add (pv 6) pe_int) (pe_op op_mod (pe_op op_fdiv (pv 0) pe_int) (pe_op op_sub (pv 5) pe_int))) (pv 5)))
      (pss_cons (ps_set (i := 8) sc_w_name.nd rfl (Or.inl rfl) pe_str)
      (pss_cons (ps_for PassesOwn.never rfl (pi_range1 rfl T.b_range (pa_cons (pv 5) pa_nil)) (pg_name (i := 9) sc_w_name.nd rfl (Or.inl rfl))
        (pss_cons (ps_set (i := 10) sc_w_name.nd rfl (Or.inl rfl) (pe_ix ix_str (pv 2) (pe_op op_mod (pe_call G_w_mix hr rfl T.w_mix.mg T.w_mix.fn.kp T.w_mix.bd .nil pass0 (pa_cons (pv 0) (pa_cons (pv 9) pa_nil))) pe_int) (fun _ _ => rfl)))
      (pss_cons (PS.join (ps_if (pt_cmpR op_eq (pv 9) (pv 6) (nomark _))
        (pss_one (ps_set (i := 10) sc_w_name.nd rfl (Or.inl rfl) (pe_ix ix_str pe_str (pe_op op_mod (pv 1) pe_int) (fun _ _ => rfl)))) pss_nil))
      (pss_cons (PS.join (ps_if (pt_cmpR op_eq (pv 9) (pv 7) (nomark _))
        (pss_one (ps_set (i := 10) sc_w_name.nd rfl (Or.inl rfl) (pe_ix ix_str (pv 2) (pe_op op_mod (pe_op op_add (pe_op op_fdiv (pv 1) pe_int) (pe_op op_fdiv (pv 0) pe_int)) pe_int) (fun _ _ => rfl)))) pss_nil))
      (pss_one (ps_set (i := 8) sc_w_name.nd rfl (Or.inl rfl) (pe_op op_add_str (pv 8) (pv 10))))))))
      (pss_one (ps_ret (pe_op op_add_str (pv 8) (pv 4)))))))))))))), ?_⟩
  have hs : (Str.ofString "fgjkqvxz").length = 8 := sS_ok.1
  have hl : (Str.ofString "abcdefghijklmnopqrstuvwxyz").length = 26 := letL_ok.1
  have k8 : 0 ≤ k % 8 := Int.emod_nonneg _ (by decide)
  have k8' : k % 8 < 8 := Int.emod_lt_of_pos _ (by decide)
  walk_at "rd"
  refine ⟨fun σ' H' => (σ' = [some (.int c), some (.int k), some (.str (Str.ofString "abcdefghijklmnopqrstuvwxyz")), none, none, none, none, none, none, none, none] ∧ H' = H ∧ ¬ (c % 12 = 5 ∧ k < 8)) ∨ False, ?_, ?_⟩
  · walk_at "rd"
    refine ite2 (fun h1 => ?_) (fun h1 => .inl ⟨rfl, rfl, fun q => h1 (int_y q.1)⟩)
    walk_at "rd"
    refine ite2 (fun h2 => ?_) (fun h2 => .inl ⟨rfl, rfl, fun q => h2 (decide_eq_true q.2)⟩)
    have h2' : k < 8 := of_decide_eq_true h2
    walk_at "rd"
    have em : (Str.ofString "fgjkqvxz").cps.toList.getD k.toNat 0 = spc (k % 8) := by
      rw [show (Str.ofString "fgjkqvxz").cps.toList = spL from sS_ok.2, show k % 8 = k by omega]; rfl
    refine kk _ _ ?_ (fun q => by omega) (Same.refl _)
    rw [em]
    exact name_of (Nat.le_refl 1) (by show 1 ≤ 8; decide) (ls_one (sp_let _ (spc_mem k))) ⟨_, List.mem_singleton.mpr rfl, spc_mem k⟩
  intro σ' H' q
  obtain ⟨rfl, rfl, hA⟩ := q.resolve_right fun z => z
  walk_at "rd"
  refine ite2 (fun h1 => ?_) (fun h1 => ?_)
  · have e7 : c % 12 = 7 := int_x h1
    walk_at "rd"
    intro lh H1 s1 hlh e1
    have e2 : H1 lh = some (.lst (headsS.map V.str)) := e1
    clear e1
    have hk : headsS.length = 12 := rfl
    have b0 : 0 ≤ c / 12 % 12 := Int.emod_nonneg _ (by decide)
    have b1 : c / 12 % 12 < 12 := Int.emod_lt_of_pos _ (by decide)
    have b2 : 0 ≤ k / 8 % 26 := Int.emod_nonneg _ (by decide)
    have b3 : k / 8 % 26 < 26 := Int.emod_lt_of_pos _ (by decide)
    obtain ⟨g1, g2, g3⟩ := heads_ok _ (wd_mem (ws := headsS) (i := (c / 12 % 12).toNat) (by omega))
    walk_at "rd"
    have em : (Str.ofString "fgjkqvxz").cps.toList.getD (k % 8).toNat 0 = spc (k % 8) := by
      rw [show (Str.ofString "fgjkqvxz").cps.toList = spL from sS_ok.2]; rfl
    have el := let_mem (k / 8)
    refine kk _ _ ?_ (fun q => ?_) (by walk_at "sm")
    · rw [em]
      refine name_of ?_ ?_ (ls_app (ls_app g3 (ls_one (sp_let _ (spc_mem k)))) (ls_one el)) ⟨spc (k % 8), ?_, spc_mem k⟩
      · rw [str_len_append, str_len_append]; omega
      · rw [str_len_append, str_len_append]
        have : (⟨#[spc (k % 8)]⟩ : Str).length = 1 := rfl
        have : ∀ d : Nat, (⟨#[d]⟩ : Str).length = 1 := fun _ => rfl
        rw [this, this]
        omega
      · rw [cps_append, cps_append]
        simp
    · unfold markQ
      rw [if_pos e7, em, cps_append, cps_append]
      have hh : hlF c = (headsS.getD (c / 12 % 12).toNat "").cps.toList.length := by unfold hlF; simp [Str.length]
      rw [hh, List.append_assoc, List.getElem?_append_right (Nat.le_refl _), Nat.sub_self]
      rfl
  have n7 : ¬ c % 12 = 7 := fun q => h1 (int_y q)
  walk_at "rd"
  refine ⟨fun σ' H2 => (∃ (tl : Str) (k' : Int), σ' = [some (.int c), some (.int k'), some (.str (Str.ofString "abcdefghijklmnopqrstuvwxyz")), none, some (.str tl), none, none, none, none, none, none] ∧ H2 = H' ∧ tailQ c k k' tl) ∨ False, ?_, ?_⟩
  · walk_at "rd"
    refine ite2 (fun h2 => ?_) (fun h2 => .inl ⟨_, _, rfl, rfl, .inr ⟨fun q => h2 (int_y q.1), rfl, rfl⟩⟩)
    walk_at "rd"
    refine ite2 (fun h3 => ?_) (fun h3 => .inl ⟨_, _, rfl, rfl, .inr ⟨fun q => h3 (int_y q.2), rfl, rfl⟩⟩)
    have b2 : 0 ≤ c / 3 % 26 := Int.emod_nonneg _ (by decide)
    have b3 : c / 3 % 26 < 26 := Int.emod_lt_of_pos _ (by decide)
    walk_at "rd"
    exact .inl ⟨_, _, rfl, rfl, .inl ⟨int_x h2, int_x h3, rfl, rfl, ls_one (let_mem (c / 3))⟩⟩
  intro σ' H2 q
  obtain ⟨tl, k', rfl, rfl, hT⟩ := q.resolve_right fun z => z
  clear q
  have z1 := sz_ok c
  have a1 := at_ok c
  have o1 := ot_ok c
  have k'0 : 0 ≤ k' ∧ k' < 16 := by rcases hT with ⟨_, _, e, _⟩ | ⟨_, e, _⟩ <;> omega
  walk_at "rd"
  refine .inr ⟨_, rfl, _, _, rfl, rfl, _, _, rfl, rfl, seven_pos _, _, _, rfl, rfl, ?_⟩
  show gName 5 (V.int (2 + c / 81 % (7 - (if decide (V.int (c % 3) = V.int 1) = true then (1 : Int) else 0)))) _ _ _
  rw [sz_is c]
  walk_at "rd"
  refine for_range (lo := 0) (n := (szF c).toNat) (fun i σ H3 => ∃ (x : Str) (v9 v10 : Option V), σ = [some (.int c), some (.int k'), some (.str (Str.ofString "abcdefghijklmnopqrstuvwxyz")), none, some (.str tl), some (.int (szF c)), some (.int (atF c)), some (.int (otF c)), some (.str x), v9, v10] ∧ H3 = H2 ∧ x.length = i ∧ LS x ∧ ((atF c).toNat < i → x.cps.toList[(atF c).toNat]? = some (spc (k' % 8))))
    ⟨"", none, none, rfl, rfl, by decide +kernel, ls_nil, fun q => by omega⟩ ?_ ?_
  · rintro i σ H3 hi ⟨x, v9, v10, rfl, rfl, hx, lx, hm⟩
    have k'8 : 0 ≤ k' % 8 := Int.emod_nonneg _ (by decide)
    have k'8' : k' % 8 < 8 := Int.emod_lt_of_pos _ (by decide)
    have em : (Str.ofString "fgjkqvxz").cps.toList.getD (k' % 8).toNat 0 = spc (k' % 8) := by
      rw [show (Str.ofString "fgjkqvxz").cps.toList = spL from sS_ok.2]; rfl
    have b0 : 0 ≤ (k' / 8 + c / 7) % 26 := Int.emod_nonneg _ (by decide)
    have b1 : (k' / 8 + c / 7) % 26 < 26 := Int.emod_lt_of_pos _ (by decide)
    walk_at "rd"
    refine ⟨fun σ' H' => (∃ ch : Nat, σ' = [some (.int c), some (.int k'), some (.str (Str.ofString "abcdefghijklmnopqrstuvwxyz")), none, some (.str tl), some (.int (szF c)), some (.int (atF c)), some (.int (otF c)), some (.str x), some (.int (0 + (i : Int))), some (.str ⟨#[ch]⟩)] ∧ H' = H3 ∧ ch ∈ k_LETTERS.cps.toList ∧ ((i : Int) = atF c → ch = spc (k' % 8))) ∨ False, ?_, ?_⟩
    · walk_at "rd"
      refine ite2 (fun h2 => ?_) (fun h2 => .inl ⟨_, rfl, rfl, let_mem _, fun q => absurd (int_y (by omega)) h2⟩)
      walk_at "rd"
      exact .inl ⟨_, rfl, rfl, by rw [em]; exact sp_let _ (spc_mem k'), fun _ => em⟩
    intro σ' H' q
    obtain ⟨ch, rfl, rfl, m1, m2⟩ := q.resolve_right fun z => z
    clear q
    refine ⟨fun σ' H3 => (∃ ch : Nat, σ' = [some (.int c), some (.int k'), some (.str (Str.ofString "abcdefghijklmnopqrstuvwxyz")), none, some (.str tl), some (.int (szF c)), some (.int (atF c)), some (.int (otF c)), some (.str x), some (.int (0 + (i : Int))), some (.str ⟨#[ch]⟩)] ∧ H3 = H' ∧ ch ∈ k_LETTERS.cps.toList ∧ ((i : Int) = atF c → ch = spc (k' % 8))) ∨ False, ?_, ?_⟩
    · walk_at "rd"
      refine ite2 (fun h2 => ?_) (fun h2 => .inl ⟨_, rfl, rfl, m1, m2⟩)
      have h2' := int_x h2
      walk_at "rd"
      exact .inl ⟨_, rfl, rfl, let_mem _, fun q => absurd (by omega) o1.2.2⟩
    intro σ' H3 q
    obtain ⟨ch, rfl, rfl, m1, m2⟩ := q.resolve_right fun z => z
    clear q
    have hx9 : x.length ≤ 8 := by omega
    walk_at "rd"
    refine ⟨by rw [str_len_append, hx]; rfl, ls_app lx (ls_one m1), fun q => ?_⟩
    have hxl : x.cps.toList.length = i := by rw [← hx]; simp [Str.length]
    rw [cps_append]
    by_cases qi : (atF c).toNat < i
    · rw [List.getElem?_append_left (by omega)]
      exact hm qi
    · rw [List.getElem?_append_right (by omega), show (atF c).toNat - x.cps.toList.length = 0 by omega, m2 (by omega)]
      rfl
  · rintro σ H3 ⟨x, v9, v10, rfl, rfl, hx, lx, hm⟩
    have hm := hm (by omega)
    have hx9 : x.length ≤ 8 := by omega
    have e0 : ("" : Str).length = 0 := by decide +kernel
    have hT9 : tl.length ≤ 1 := by
      rcases hT with ⟨_, _, _, e, _⟩ | ⟨_, _, e⟩
      · omega
      · rw [e, e0]; omega
    walk_at "rd"
    refine kk _ _ (name_of ?_ ?_ ?_ ⟨_, ?_, spc_mem k'⟩) (fun q => ?_) (Same.refl _)
    · rw [str_len_append]; omega
    · rw [str_len_append]
      rcases hT with ⟨e1, _, _, e, _⟩ | ⟨_, _, e⟩
      · have := z1.2.2 e1; omega
      · rw [e, e0]; omega
    · refine ls_app lx ?_
      rcases hT with ⟨_, _, _, _, e⟩ | ⟨_, _, e⟩
      · exact e
      · rw [e]; exact ls_nil
    · rw [cps_append]
      exact List.mem_append_left _ (List.mem_of_getElem? hm)
    · unfold markQ
      rw [if_neg n7]
      by_cases c3 : c % 3 = 1
      · rw [if_pos c3, str_len_append]
        rcases hT with ⟨_, e2, _, e, _⟩ | ⟨e2, _, e⟩
        · omega
        · rw [e, e0]
          have : ¬ k % 2 = 1 := fun z => e2 ⟨c3, z⟩
          omega
      · rw [if_neg c3]
        rcases hT with ⟨e2, _⟩ | ⟨_, ek, e⟩
        · exact absurd e2 c3
        · subst ek
          rw [cps_append, List.getElem?_append_left (List.getElem?_eq_some_iff.mp hm).1]
          exact hm


/-! ### classes asked -/
theorem tyc (T : Txt K mg t) {H : Hp} {p : Addr} {k : Int} {l w a : Str} {n : Int} {r : Str} (h : At t H p k l w a n r) : TyOf K H (.ref p) (.ref (clsOf t k)) := by
  obtain ⟨dx, e⟩ := h
  obtain ⟨fI, F⟩ := cf_of T k
  have key : PySem.W.findIn K (.ref (clsOf t k)) "__class__" = some (some (.builtin "object.__class__")) ∧ PySem.W.mroIn K (clsOf t k) (.type "object") = some true := by
    unfold clsOf
    split
    · exact T.tc_Duty
    split
    · exact T.tc_Leave
    split
    · exact T.tc_Ban
    split
    · exact T.tc_Power
    · exact T.tc_Clause
  exact TyOf.ins e F.cl key.1 T.oc_get T.oc_tk key.2

/-! ### events -/
end
abbrev E2 := Sum (List V) (Str × List Str)
def flatD : V → Bool
  | .str _ => true
  | .int _ => true
  | _ => false
def dV : V → PyData
  | .str x => .str x
  | .int i => .int i
  | _ => .none
def itemE (H : Hp) (l : Addr) (v : V) : E2 → Prop
  | .inl xs => ∃ tp, v = .ref tp ∧ H tp = some (.tup xs) ∧ xs.all flatD = true
  | .inr q => ∃ tp a, v = .ref tp ∧ H tp = some (.tup [.str "part", .str q.1, .ref a]) ∧ H a = some (.lst (q.2.map V.str)) ∧ a ≠ l
def dataE : E2 → PyData
  | .inl xs => .tuple (xs.map dV)
  | .inr q => .tuple [.str "part", .str q.1, .list (q.2.map PyData.str)]
theorem flat_rd {K : PySem.W.Frag} {H : Hp} : ∀ {xs : List V}, xs.all flatD = true → RdDs K H xs (xs.map dV)
  | [], _ => .nil
  | x :: r, h => by
    rw [List.all_cons, Bool.and_eq_true] at h
    refine .cons ?_ (flat_rd h.2)
    have h1 := h.1
    cases x with
    | str s => exact .str s
    | int i => exact .int i
    | _ => cases h1
theorem itemE.rd {K : PySem.W.Frag} {H : Hp} {l : Addr} {v : V} {e : E2} (h : itemE H l v e) : RdD K H v (dataE e) := by
  cases e with
  | inl xs =>
    obtain ⟨tp, rfl, h1, h2⟩ := h
    exact .tup (SqT.of h1) (flat_rd h2)
  | inr q =>
    obtain ⟨tp, a, rfl, h1, h2, _⟩ := h
    exact .tup (SqT.of h1) (.cons (.str _) (.cons (.str _) (.cons (.lst (SqL.of h2) (RdDs.strs _)) .nil)))
theorem itemE.same {H H' : Hp} {l : Addr} {v : V} {e : E2} (h : itemE H l v e) (s : Same H H') : itemE H' l v e := by
  cases e with
  | inl xs =>
    obtain ⟨tp, rfl, h1, h2⟩ := h
    exact ⟨tp, rfl, s _ _ h1, h2⟩
  | inr q =>
    obtain ⟨tp, a, rfl, h1, h2, h3⟩ := h
    exact ⟨tp, a, rfl, s _ _ h1, s _ _ h2, h3⟩
theorem itemE.keeps {H H' : Hp} {l : Addr} {vs : List V} {v : V} {e : E2} (h : itemE H l v e) (k : Keeps l H H') (hl : H l = some (.lst vs)) : itemE H' l v e := by
  cases e with
  | inl xs =>
    obtain ⟨tp, rfl, h1, h2⟩ := h
    exact ⟨tp, rfl, k.look h1 (ne_of h1 hl (by intro z; cases z)), h2⟩
  | inr q =>
    obtain ⟨tp, a, rfl, h1, h2, h3⟩ := h
    exact ⟨tp, a, rfl, k.look h1 (ne_of h1 hl (by intro z; cases z)), k.look h2 h3, h3⟩
abbrev Items (H : Hp) (l : Addr) : List V → List E2 → Prop := Paired (itemE H l)
theorem Items.rd {K : PySem.W.Frag} {H : Hp} {l : Addr} : ∀ {vs : List V} {es : List E2}, Items H l vs es → RdDs K H vs (es.map dataE)
  | _, _, .nil => .nil
  | _, _, .cons r t => .cons r.rd (Items.rd t)
theorem Items.same {H H' : Hp} {l : Addr} {vs : List V} {es : List E2} (h : Items H l vs es) (s : Same H H') : Items H' l vs es := Paired.mapP h fun _ _ q => q.same s
theorem Items.keeps {H H' : Hp} {l : Addr} {vs ws : List V} {es : List E2} (h : Items H l vs es) (k : Keeps l H H') (hl : H l = some (.lst ws)) : Items H' l vs es := Paired.mapP h fun _ _ q => q.keeps k hl
theorem Items.snoc : ∀ {H : Hp} {l : Addr} {vs : List V} {es : List E2} {v : V} {e : E2}, Items H l vs es → itemE H l v e → Items H l (vs ++ [v]) (es ++ [e])
  | _, _, _, _, _, _, .nil, q => .cons q .nil
  | _, _, _, _, _, _, .cons r t, q => .cons r (Items.snoc t q)
def clV (k : Int) (l u a : Str) (n : Int) (r : Str) : List V := if k = 0 then [.str "must", .str l, .str u, .str a, .int n, .str r] else if k = 1 then [.str "may", .str l, .str u, .str a] else if k = 2 then [.str "ban", .str l, .str u, .str a, .str r] else [.str "power", .str l, .str u, .str a, .str r]
theorem clV_flat (k : Int) (l u a : Str) (n : Int) (r : Str) : (clV k l u a n r).all flatD = true := by
  unfold clV
  split
  · rfl
  split
  · rfl
  split <;> rfl
def clE : Option (Int × Str × Str × Str × Int × Str) → List E2
  | some (k, l, u, a, n, r) => [.inl (clV k l u a n r)]
  | none => []
def letE : Option (Str × Str) → List E2
  | some (n, v) => [.inl [.str "let", .str n, .str v]]
  | none => []
def partE : Option (Str × List Str) → List E2
  | some q => [.inr q]
  | none => []
def roomE : Option (Str × Str) → List E2
  | some (m, n) => [.inl [.str "room", .str m, .str n]]
  | none => []
def toldE (ws : List Str) : List E2 := clE (clauseO ws) ++ letE (letO ws) ++ partE (partO ws) ++ roomE (roomO ws)
theorem toldE_few (ws : List Str) : (toldE ws).length ≤ 4 := by
  unfold toldE
  have h1 : (clE (clauseO ws)).length ≤ 1 := by cases clauseO ws <;> simp [clE]
  have h2 : (letE (letO ws)).length ≤ 1 := by cases letO ws <;> simp [letE]
  have h3 : (partE (partO ws)).length ≤ 1 := by cases partO ws <;> simp [partE]
  have h4 : (roomE (roomO ws)).length ≤ 1 := by cases roomO ws <;> simp [roomE]
  simp only [List.length_append]
  omega
theorem clause_k {ws : List Str} {k : Int} {l u a : Str} {n : Int} {r : Str} (h : clauseO ws = some (k, l, u, a, n, r)) : k = 0 ∨ k = 1 ∨ k = 2 ∨ k = 3 := by
  unfold clauseO at h
  split at h
  · cases h; exact .inl rfl
  split at h
  · cases h; exact .inr (.inl rfl)
  split at h
  · cases h; exact .inr (.inr (.inl rfl))
  split at h
  · cases h; exact .inr (.inr (.inr rfl))
  · cases h
theorem iteNT {c A B : Prop} [Decidable c] (hc : ¬ c) (h : A) : if (!decide c) = true then A else B := by
  rw [decide_eq_false hc]
  exact iteT h
def spClauseL (t : Adr) : Sp := fun vs H Q _ => ∃ (p : Addr) (k : Int) (l u a : Str) (n : Int) (r : Str), vs = [.ref p] ∧ At t H p k l u a n r ∧ (k = 0 ∨ k = 1 ∨ k = 2 ∨ k = 3) ∧ ∀ tp H', Same H H' → H tp = none → H' tp = some (.tup (clV k l u a n r)) → Q (.ref tp) H'
def spTold (K : PySem.W.Frag) : Sp := fun vs H Q _ => ∃ (x : Str), vs = [.str x] ∧ x.length ≤ 190 ∧ ∀ l vs' H', Same H H' → H l = none → H' l = some (.lst vs') → Items H' l vs' (toldE (spl x)) → Q (.ref l) H'
section
variable {P : Program} {w : World} {K : PySem.W.Frag} {mg : Str → Option Value} {base : Heap} {t : Adr}
theorem tyL (T : Txt K mg t) {H : Hp} {p : Addr} {n m : Str} (h : AtL t H p n m) : TyOf K H (.ref p) (.ref t.c_Let) := by
  obtain ⟨dx, e⟩ := h
  exact TyOf.ins e T.cl_Let T.tc_Let.1 T.oc_get T.oc_tk T.tc_Let.2
theorem tyP (T : Txt K mg t) {H0 H : Hp} {p : Addr} {n : Str} {rs : List Str} (h : AtP t H0 H p n rs) : TyOf K H (.ref p) (.ref t.c_Part) := by
  obtain ⟨dx, a, b, e, _⟩ := h
  exact TyOf.ins e T.cl_Part T.tc_Part.1 T.oc_get T.oc_tk T.tc_Part.2
theorem AtL.fn (T : Txt K mg t) {H : Hp} {p : Addr} {n m : Str} (h : AtL t H p n m) : Fld K H (.ref p) "name" (.str n) := by
  obtain ⟨dx, e⟩ := h
  exact ⟨p, _, dx, _, rfl, e, T.cl_Let, T.na_Let_name, look_hit⟩
theorem AtL.fv (T : Txt K mg t) {H : Hp} {p : Addr} {n m : Str} (h : AtL t H p n m) : Fld K H (.ref p) "value" (.str m) := by
  obtain ⟨dx, e⟩ := h
  exact ⟨p, _, dx, _, rfl, e, T.cl_Let, T.na_Let_value, (look_miss fun q => m1 (Eq.symm q)).trans look_hit⟩
section
variable {H : Hp} {p dx a b : Addr} {n : Str}
theorem fldP1 (T : Txt K mg t) (e : H p = some (.ins t.c_Part dx (fp3 n a b))) : Fld K H (.ref p) "name" (.str n) := ⟨p, _, dx, _, rfl, e, T.cl_Part, T.na_Part_name, look_hit⟩
theorem fldP2 (T : Txt K mg t) (e : H p = some (.ins t.c_Part dx (fp3 n a b))) : Fld K H (.ref p) "rooms" (.ref a) := ⟨p, _, dx, _, rfl, e, T.cl_Part, T.na_Part_rooms, (look_miss fun q => m2 (Eq.symm q)).trans look_hit⟩
theorem fldP3 (T : Txt K mg t) (e : H p = some (.ins t.c_Part dx (fp3 n a b))) : Fld K H (.ref p) "rows" (.ref b) := ⟨p, _, dx, _, rfl, e, T.cl_Part, T.na_Part_rows, (look_miss fun q => m3 (Eq.symm q)).trans ((look_miss fun q => m4 (Eq.symm q)).trans look_hit)⟩
end
theorem nil_shaped : SeqAt.shaped (.list []) = true := by decide +kernel
theorem sc_w_clause : FnScope ["_law_row"] ["_law_row"] (defScope s_w_clause) := ⟨rfl, rfl, rfl, by decide +kernel, rfl, by decide +kernel, by decide +kernel⟩
set_option maxHeartbeats 400000 in
theorem ok_w_clause (T : Txt K mg t) : FnOk P w K mg base CX0 1 t.f_w_clause t.d_w_clause ["_law_row"] (spClauseL t) := by
  refine T.w_clause.fn.ok sc_w_clause (fun vs H Q E h => (by first | (obtain ⟨rfl, _⟩ := h; rfl) | (obtain ⟨_, rfl, _⟩ := h; rfl) | (obtain ⟨_, _, rfl, _⟩ := h; rfl) | (obtain ⟨_, _, _, rfl, _⟩ := h; rfl) | (obtain ⟨_, _, _, _, rfl, _⟩ := h; rfl) | (obtain ⟨_, _, _, _, _, rfl, _⟩ := h; rfl) | (obtain ⟨_, _, _, _, _, _, rfl, _⟩ := h; rfl) | (obtain ⟨_, _, _, _, _, _, _, rfl, _⟩ := h; rfl) | (obtain ⟨_, _, _, _, _, _, _, _, rfl, _⟩ := h; rfl) | (obtain ⟨_, _, _, _, _, _, _, _, _, rfl, _⟩ := h; rfl) | (obtain ⟨_, _, _, _, _, _, _, _, _, _, rfl, _⟩ := h; rfl) | (obtain ⟨_, _, _, _, _, _, _, _, _, _, _, rfl, _⟩ := h; rfl) | (obtain ⟨_, _, _, _, _, _, _, _, _, _, _, _, rfl, _⟩ := h; rfl) | (obtain ⟨_, _, _, _, _, _, _, _, _, _, _, _, _, rfl, _⟩ := h; rfl) | (obtain ⟨_, _, _, _, _, _, _, _, _, _, _, _, _, _, rfl, _⟩ := h; rfl) | (obtain ⟨_, _, _, _, _, _, _, _, _, _, _, _, _, _, _, rfl, _⟩ := h; rfl) | (obtain ⟨_, _, _, _, _, _, _, _, _, _, _, _, _, _, _, _, rfl, _⟩ := h; rfl) | (obtain ⟨_, _, _, _, _, _, _, _, _, _, _, _, _, _, _, _, _, rfl, _⟩ := h; rfl) | (obtain ⟨_, _, _, _, _, _, _, _, _, _, _, _, _, _, _, _, _, _, rfl, _⟩ := h; rfl) | (obtain ⟨_, _, _, _, _, _, _, _, _, _, _, _, _, _, _, _, _, _, _, rfl, _⟩ := h; rfl) | (obtain ⟨_, _, _, _, _, _, _, _, _, _, _, _, _, _, _, _, _, _, _, _, rfl, _⟩ := h; rfl) | (obtain ⟨_, _, _, _, _, _, _, _, _, _, _, _, _, _, _, _, _, _, _, _, _, rfl, _⟩ := h; rfl) | (obtain ⟨_, _, _, _, _, _, _, _, _, _, _, _, _, _, _, _, _, _, _, _, _, _, rfl, _⟩ := h; rfl) | (obtain ⟨_, _, _, _, _, _, _, _, _, _, _, _, _, _, _, _, _, _, _, _, _, _, _, rfl, _⟩ := h; rfl))) (fun cdv A outer s H vs Q E hr h => ?_)
  obtain ⟨p, k, l, u, a, n, r, rfl, hA, hk, kk⟩ := h
  refine ⟨_, (pss_cons (ps_if (pt_val (pe_callB (callK_isinst (K := K) rfl) rfl T.b_isinstance PyProof.Rows.boot_isinstance (pa_cons (pv 0) (pa_cons (pe_glob rfl T.m_Duty (v := .ref t.c_Duty) rfl) pa_nil))))
        (pss_cons (ps_if (PW.pt (pw_or (pt_not (pt_val (pe_callB (callK_isinst (K := K) rfl) rfl T.b_isinstance PyProof.Rows.boot_isinstance (pa_cons (ne_fld (K := K) rfl (pv 0) rfl) (pa_cons (pe_bltn rfl T.b_int PyProof.Rows.boot_int (v := .ty "int") rfl) pa_nil))))) (pw_or1 (pt_val (pe_callB (callK_isinst (K := K) rfl) rfl T.b_isinstance PyProof.Rows.boot_isinstance (pa_cons (ne_fld (K := K) rfl (pv 0) rfl) (pa_cons (pe_bltn rfl T.b_bool PyProof.Rows.boot_bool (v := .ty "bool") rfl) pa_nil)))))))
        (pss_one (ps_ret (ne_tup pa_nil))) pss_nil)
      (pss_one (ps_ret (ne_tup (pa_cons pe_str (pa_cons (ne_fld (K := K) rfl (pv 0) rfl) (pa_cons (ne_fld (K := K) rfl (pv 0) rfl) (pa_cons (ne_fld (K := K) rfl (pv 0) rfl) (pa_cons (ne_fld (K := K) rfl (pv 0) rfl) (pa_cons (ne_fld (K := K) rfl (pv 0) rfl) pa_nil)))))))))) pss_nil)
      (pss_cons (ps_if (pt_val (pe_callB (callK_isinst (K := K) rfl) rfl T.b_isinstance PyProof.Rows.boot_isinstance (pa_cons (pv 0) (pa_cons (pe_glob rfl T.m_Ban (v := .ref t.c_Ban) rfl) pa_nil))))
        (pss_one (ps_ret (ne_tup (pa_cons pe_str (pa_cons (ne_fld (K := K) rfl (pv 0) rfl) (pa_cons (ne_fld (K := K) rfl (pv 0) rfl) (pa_cons (ne_fld (K := K) rfl (pv 0) rfl) (pa_cons (ne_fld (K := K) rfl (pv 0) rfl) pa_nil)))))))) pss_nil)
      (pss_cons (ps_if (pt_val (pe_callB (callK_isinst (K := K) rfl) rfl T.b_isinstance PyProof.Rows.boot_isinstance (pa_cons (pv 0) (pa_cons (pe_glob rfl T.m_Power (v := .ref t.c_Power) rfl) pa_nil))))
        (pss_one (ps_ret (ne_tup (pa_cons pe_str (pa_cons (ne_fld (K := K) rfl (pv 0) rfl) (pa_cons (ne_fld (K := K) rfl (pv 0) rfl) (pa_cons (ne_fld (K := K) rfl (pv 0) rfl) (pa_cons (ne_fld (K := K) rfl (pv 0) rfl) pa_nil)))))))) pss_nil)
      (pss_cons (ps_if (pt_val (pe_callB (callK_isinst (K := K) rfl) rfl T.b_isinstance PyProof.Rows.boot_isinstance (pa_cons (pv 0) (pa_cons (pe_glob rfl T.m_Leave (v := .ref t.c_Leave) rfl) pa_nil))))
        (pss_one (ps_ret (ne_tup (pa_cons pe_str (pa_cons (ne_fld (K := K) rfl (pv 0) rfl) (pa_cons (ne_fld (K := K) rfl (pv 0) rfl) (pa_cons (ne_fld (K := K) rfl (pv 0) rfl) pa_nil))))))) pss_nil)
      (pss_one (ps_ret (ne_tup pa_nil))))))), ?_⟩
  have ty : TyOf K H (.ref p) (.ref (clsOf t k)) := tyc T hA
  rcases hk with rfl | rfl | rfl | rfl
  · refine ⟨_, rfl, _, _, _, _, rfl, .inr ⟨_, rfl⟩, ty, T.ki_Duty_Duty, _, rfl, iteT ?_⟩
    walk_at "rd"
    refine ⟨_, _, .type "int", false, rfl, .inl ⟨_, rfl⟩, TyOf.int _, T.ki_int_bool, _, rfl, iteF ?_⟩
    walk_at "rd"
    intro tp H1 s1 h1 e1
    exact kk tp H1 s1 h1 e1
  · refine ⟨_, rfl, _, _, _, _, rfl, .inr ⟨_, rfl⟩, ty, T.ki_Leave_Duty, _, rfl, iteF ?_⟩
    refine ⟨_, rfl, _, _, _, _, rfl, .inr ⟨_, rfl⟩, ty, T.ki_Leave_Ban, _, rfl, iteF ?_⟩
    refine ⟨_, rfl, _, _, _, _, rfl, .inr ⟨_, rfl⟩, ty, T.ki_Leave_Power, _, rfl, iteF ?_⟩
    refine ⟨_, rfl, _, _, _, _, rfl, .inr ⟨_, rfl⟩, ty, T.ki_Leave_Leave, _, rfl, iteT ?_⟩
    walk_at "rd"
    intro tp H1 s1 h1 e1
    exact kk tp H1 s1 h1 e1
  · refine ⟨_, rfl, _, _, _, _, rfl, .inr ⟨_, rfl⟩, ty, T.ki_Ban_Duty, _, rfl, iteF ?_⟩
    refine ⟨_, rfl, _, _, _, _, rfl, .inr ⟨_, rfl⟩, ty, T.ki_Ban_Ban, _, rfl, iteT ?_⟩
    walk_at "rd"
    intro tp H1 s1 h1 e1
    exact kk tp H1 s1 h1 e1
  · refine ⟨_, rfl, _, _, _, _, rfl, .inr ⟨_, rfl⟩, ty, T.ki_Power_Duty, _, rfl, iteF ?_⟩
    refine ⟨_, rfl, _, _, _, _, rfl, .inr ⟨_, rfl⟩, ty, T.ki_Power_Ban, _, rfl, iteF ?_⟩
    refine ⟨_, rfl, _, _, _, _, rfl, .inr ⟨_, rfl⟩, ty, T.ki_Power_Power, _, rfl, iteT ?_⟩
    walk_at "rd"
    intro tp H1 s1 h1 e1
    exact kk tp H1 s1 h1 e1
/-! ### _law_told -/
set_option maxRecDepth 1000000 in
theorem sc_w_told : FnScope ["_law_row", "_law_found", "_law_clause_here", "_law_told_here", "_law_part", "_law_room"] ["_law_row"] (defScope s_w_told) := ⟨rfl, rfl, rfl, by decide +kernel, rfl, by decide +kernel, by decide +kernel⟩
set_option maxHeartbeats 400000 in
theorem ok_w_told (T : Txt K mg t) : FnOk P w K mg base CX0 6 t.f_w_told t.d_w_told ["_law_row"] (spTold K) := by
  have G_w_clause : FnOk P w K mg base CX0 5 t.f_w_clause t.d_w_clause ["_law_row"] (spClauseL t) := (ok_w_clause T).mono (by decide)
  have G_v_clause_of : FnOk P w K mg base CX0 5 t.f_v_clause_of t.d_v_clause_of ["row"] (spClause t) := (ok_v_clause_of T).mono (by decide)
  have G_v_let_of : FnOk P w K mg base CX0 5 t.f_v_let_of t.d_v_let_of ["row"] (spLet t) := (ok_v_let_of T).mono (by decide)
  have G_v_part_of : FnOk P w K mg base CX0 5 t.f_v_part_of t.d_v_part_of ["row"] (spPart t) := (ok_v_part_of T).mono (by decide)
  have G_v_room_of : FnOk P w K mg base CX0 5 t.f_v_room_of t.d_v_room_of ["row"] spRoom := (ok_v_room_of T).mono (by decide)
  refine T.w_told.fn.ok sc_w_told (fun vs H Q E h => (by first | (obtain ⟨rfl, _⟩ := h; rfl) | (obtain ⟨_, rfl, _⟩ := h; rfl) | (obtain ⟨_, _, rfl, _⟩ := h; rfl) | (obtain ⟨_, _, _, rfl, _⟩ := h; rfl) | (obtain ⟨_, _, _, _, rfl, _⟩ := h; rfl) | (obtain ⟨_, _, _, _, _, rfl, _⟩ := h; rfl) | (obtain ⟨_, _, _, _, _, _, rfl, _⟩ := h; rfl) | (obtain ⟨_, _, _, _, _, _, _, rfl, _⟩ := h; rfl) | (obtain ⟨_, _, _, _, _, _, _, _, rfl, _⟩ := h; rfl) | (obtain ⟨_, _, _, _, _, _, _, _, _, rfl, _⟩ := h; rfl) | (obtain ⟨_, _, _, _, _, _, _, _, _, _, rfl, _⟩ := h; rfl) | (obtain ⟨_, _, _, _, _, _, _, _, _, _, _, rfl, _⟩ := h; rfl) | (obtain ⟨_, _, _, _, _, _, _, _, _, _, _, _, rfl, _⟩ := h; rfl) | (obtain ⟨_, _, _, _, _, _, _, _, _, _, _, _, _, rfl, _⟩ := h; rfl) | (obtain ⟨_, _, _, _, _, _, _, _, _, _, _, _, _, _, rfl, _⟩ := h; rfl) | (obtain ⟨_, _, _, _, _, _, _, _, _, _, _, _, _, _, _, rfl, _⟩ := h; rfl) | (obtain ⟨_, _, _, _, _, _, _, _, _, _, _, _, _, _, _, _, rfl, _⟩ := h; rfl) | (obtain ⟨_, _, _, _, _, _, _, _, _, _, _, _, _, _, _, _, _, rfl, _⟩ := h; rfl) | (obtain ⟨_, _, _, _, _, _, _, _, _, _, _, _, _, _, _, _, _, _, rfl, _⟩ := h; rfl) | (obtain ⟨_, _, _, _, _, _, _, _, _, _, _, _, _, _, _, _, _, _, _, rfl, _⟩ := h; rfl) | (obtain ⟨_, _, _, _, _, _, _, _, _, _, _, _, _, _, _, _, _, _, _, _, rfl, _⟩ := h; rfl) | (obtain ⟨_, _, _, _, _, _, _, _, _, _, _, _, _, _, _, _, _, _, _, _, _, rfl, _⟩ := h; rfl) | (obtain ⟨_, _, _, _, _, _, _, _, _, _, _, _, _, _, _, _, _, _, _, _, _, _, rfl, _⟩ := h; rfl) | (obtain ⟨_, _, _, _, _, _, _, _, _, _, _, _, _, _, _, _, _, _, _, _, _, _, _, rfl, _⟩ := h; rfl))) (fun cdv A outer s H vs Q E hr h => ?_)
  obtain ⟨x, rfl, hx, kk⟩ := h
  refine ⟨_, (pss_cons (ps_set (i := 1) sc_w_told.nd rfl (Or.inl rfl) (ne_lst pa_nil) sw_list)
      (pss_cons (ps_set (i := 2) sc_w_told.nd rfl (Or.inl rfl) (PE.cut (pe_call G_v_clause_of hr rfl T.v_clause_of.mg T.v_clause_of.fn.kp T.v_clause_of.bd .nil pass0 (pa_cons (pv 0) pa_nil))))
      (pss_cons (PS.join (ps_if (pt_cmpR op_notN (pv 2) pe_non (nomark _))
        (pss_one (ps_expr (pe_bm PySem.F.plainAttrs_list PySem.F.slot_list_append PySem.F.type_list_append nm_append (pv 1) (pa_cons (pe_call G_w_clause hr rfl T.w_clause.mg T.w_clause.fn.kp T.w_clause.bd .nil pass0 (pa_cons (pv 2) pa_nil)) pa_nil)))) pss_nil))
      (pss_cons (ps_set (i := 3) sc_w_told.nd rfl (Or.inl rfl) (PE.cut (pe_call G_v_let_of hr rfl T.v_let_of.mg T.v_let_of.fn.kp T.v_let_of.bd .nil pass0 (pa_cons (pv 0) pa_nil))))
      (pss_cons (PS.join (ps_if (pt_cmpR op_notN (pv 3) pe_non (nomark _))
        (pss_one (ps_expr (pe_bm PySem.F.plainAttrs_list PySem.F.slot_list_append PySem.F.type_list_append nm_append (pv 1) (pa_cons (pe_ifExp (PW.pt (pw_and (pt_val (pe_callB (callK_isinst (K := K) rfl) rfl T.b_isinstance PyProof.Rows.boot_isinstance (pa_cons (pv 3) (pa_cons (pe_glob rfl T.m_Let (v := .ref t.c_Let) rfl) pa_nil)))) (pw_and1 (pt_val (pe_callB (callK_isinst (K := K) rfl) rfl T.b_isinstance PyProof.Rows.boot_isinstance (pa_cons (pv 3) (pa_cons (pe_glob rfl T.m_Row (v := .ref t.c_Row) rfl) pa_nil))))))) (ne_tup (pa_cons pe_str (pa_cons (ne_fld (K := K) rfl (pv 3) rfl) (pa_cons (ne_fld (K := K) rfl (pv 3) rfl) pa_nil)))) (ne_tup pa_nil)) pa_nil)))) pss_nil))
      (pss_cons (ps_set (i := 4) sc_w_told.nd rfl (Or.inl rfl) (PE.cut (pe_call G_v_part_of hr rfl T.v_part_of.mg T.v_part_of.fn.kp T.v_part_of.bd .nil pass0 (pa_cons (pv 0) pa_nil))))
      (pss_cons (PS.join (ps_if (PW.pt (pw_and (pt_cmpR op_notN (pv 4) pe_non (nomark _)) (pw_and1 (pt_val (pe_callB (callK_isinst (K := K) rfl) rfl T.b_isinstance PyProof.Rows.boot_isinstance (pa_cons (pv 4) (pa_cons (pe_glob rfl T.m_Row (v := .ref t.c_Row) rfl) pa_nil)))))))
        (pss_one (ps_expr (pe_bm PySem.F.plainAttrs_list PySem.F.slot_list_append PySem.F.type_list_append nm_append (pv 1) (pa_cons (pe_ifExp (PW.pt (pw_and (pt_val (pe_callB (callK_isinst (K := K) rfl) rfl T.b_isinstance PyProof.Rows.boot_isinstance (pa_cons (pv 4) (pa_cons (pe_glob rfl T.m_Part (v := .ref t.c_Part) rfl) pa_nil)))) (pw_and1 (pt_cmpR (opK_eqD (K := K) rfl hr.units) (ne_fld (K := K) rfl (pv 4) rfl) (ne_lst pa_nil) (nomark _))))) (ne_tup (pa_cons pe_str (pa_cons (ne_fld (K := K) rfl (pv 4) rfl) (pa_cons (ne_fld (K := K) rfl (pv 4) rfl) pa_nil)))) (ne_tup pa_nil)) pa_nil)))) pss_nil))
      (pss_cons (ps_set (i := 5) sc_w_told.nd rfl (Or.inl rfl) (PE.cut (pe_call G_v_room_of hr rfl T.v_room_of.mg T.v_room_of.fn.kp T.v_room_of.bd .nil pass0 (pa_cons (pv 0) pa_nil))))
      (pss_cons (PS.join (ps_if (pt_cmpR op_notN (pv 5) pe_non (nomark _))
        (pss_one (ps_expr (pe_bm PySem.F.plainAttrs_list PySem.F.slot_list_append PySem.F.type_list_append nm_append (pv 1) (pa_cons (pe_ifExp (PW.pt (pw_and (pt_val (pe_callB (callK_isinst (K := K) rfl) rfl T.b_isinstance PyProof.Rows.boot_isinstance (pa_cons (pv 5) (pa_cons (pe_bltn rfl T.b_tuple PyProof.Rows.boot_tuple (v := .ty "tuple") rfl) pa_nil)))) (pw_and1 (pt_cmpR op_eq (pe_callB (callK_len (K := K) rfl) rfl T.b_len PySem.boot_len (pa_cons (pv 5) pa_nil)) pe_int (nomark _))))) (ne_tup (pa_cons pe_str (pa_cons (pe_ix (ixK_tup (K := K) rfl) (pv 5) pe_int (fun _ _ => rfl)) (pa_cons (pe_ix (ixK_tup (K := K) rfl) (pv 5) pe_int (fun _ _ => rfl)) pa_nil)))) (ne_tup pa_nil)) pa_nil)))) pss_nil))
      (pss_one (ps_ret (pv 1)))))))))))), ?_⟩
  walk_at "rd"
  intro l H1 s1 hl e1
  generalize hws : spl x = ws at kk
  refine ⟨fun v H2 => (Same H1 H2 ∧ ((v = .non ∧ clauseO ws = none) ∨ ∃ p k l' u a n r, v = .ref p ∧ clauseO ws = some (k, l', u, a, n, r) ∧ At t H2 p k l' u a n r)) ∨ False, ?_, ?_⟩
  · refine ⟨_, rfl, x, rfl, hx, fun H2 s2 => ⟨fun e => .inl ⟨s2, .inl ⟨rfl, by rw [← hws]; exact e⟩⟩, fun p k l' u a n r e hp hA => .inl ⟨s2, .inr ⟨p, k, l', u, a, n, r, rfl, by rw [← hws]; exact e, hA⟩⟩⟩⟩
  intro v2 H2 q
  obtain ⟨s2, hv⟩ := q.resolve_right fun z => z
  clear q
  refine ⟨fun σ' H3 => (∃ vs, σ' = [some (.str x), some (.ref l), some v2, none, none, none] ∧ Same H H3 ∧ H3 l = some (.lst vs) ∧ Items H3 l vs (clE (clauseO ws)) ∧ vs.length ≤ 1) ∨ False, ?_, ?_⟩
  · rcases hv with ⟨rfl, e⟩ | ⟨p, k, l', u, a, n, r, rfl, e, hA⟩
    · walk_at "rd"
      exact .inl ⟨[], rfl, s1.trans s2, s2 _ _ e1, by rw [e]; exact .nil, Nat.zero_le _⟩
    · refine ⟨_, rfl, rfl, _, rfl, iteNT (by intro z; cases z) ?_⟩
      have e2 := s2 _ _ e1
      refine ⟨_, rfl, .inl ⟨rfl, _, SqL.of e2⟩, _, rfl, p, k, l', u, a, n, r, rfl, hA, clause_k e, fun tp H3 s3 h3 e3 => ?_⟩
      refine ⟨l, _, _, rfl, rfl, s3 _ _ e2, small1000 (by decide), ?_⟩
      intro H4 k4 e4
      have n4 : tp ≠ l := Ne.symm (ne_of_none e2 h3)
      refine .inl ⟨[.ref tp], rfl, k4.put ((s1.trans s2).trans s3) hl, e4, ?_, Nat.le_refl _⟩
      rw [e]
      exact .cons ⟨tp, rfl, k4.look e3 n4, clV_flat _ _ _ _ _ _⟩ .nil
  intro σ' H3 q
  obtain ⟨vs, rfl, s3, e3, i3, z3⟩ := q.resolve_right fun z => z
  clear q hv s1 s2 e1
  refine ⟨fun v H4 => (Same H3 H4 ∧ ((v = .non ∧ letO ws = none) ∨ ∃ p n m, v = .ref p ∧ letO ws = some (n, m) ∧ AtL t H4 p n m)) ∨ False, ?_, ?_⟩
  · refine ⟨_, rfl, x, rfl, hx, fun H2 s2 => ⟨fun e => .inl ⟨s2, .inl ⟨rfl, by rw [← hws]; exact e⟩⟩, fun p n m e hp hA => .inl ⟨s2, .inr ⟨p, n, m, rfl, by rw [← hws]; exact e, hA⟩⟩⟩⟩
  intro v3 H4 q
  obtain ⟨s4, hv⟩ := q.resolve_right fun z => z
  clear q
  have e4 := s4 _ _ e3
  have i4 := i3.same s4
  have sA := s3.trans s4
  clear e3 i3 s3
  refine ⟨fun σ' H5 => (∃ vs, σ' = [some (.str x), some (.ref l), some v2, some v3, none, none] ∧ Same H H5 ∧ H5 l = some (.lst vs) ∧ Items H5 l vs (clE (clauseO ws) ++ letE (letO ws)) ∧ vs.length ≤ 2) ∨ False, ?_, ?_⟩
  · rcases hv with ⟨rfl, e⟩ | ⟨p, n, m, rfl, e, hA⟩
    · walk_at "rd"
      exact .inl ⟨vs, rfl, sA, e4, by rw [e]; simpa [letE] using i4, by omega⟩
    · have ty := tyL T hA
      refine ⟨_, rfl, rfl, _, rfl, iteNT (by intro z; cases z) ?_⟩
      refine ⟨_, rfl, .inl ⟨rfl, _, SqL.of e4⟩, ?_⟩
      refine ⟨_, rfl, _, _, _, _, rfl, .inr ⟨_, rfl⟩, ty, T.ki_Let_Let, _, rfl, iteT ?_⟩
      refine ⟨_, rfl, _, _, _, _, rfl, .inr ⟨_, rfl⟩, ty, T.ki_Let_Row, _, rfl, iteT ?_⟩
      refine ⟨_, rfl, _, hA.fn T, _, rfl, _, hA.fv T, line_small (by show 3 ≤ 1000; decide), ?_⟩
      intro tp H5 s5 h5 e5
      refine ⟨l, _, _, rfl, rfl, s5 _ _ e4, small1000 (by omega), ?_⟩
      intro H6 k6 e6
      have n6 : tp ≠ l := Ne.symm (ne_of_none e4 h5)
      refine .inl ⟨_, rfl, k6.put (sA.trans s5) hl, e6, ?_, by rw [List.length_append]; show vs.length + 1 ≤ 2; omega⟩
      rw [e]
      exact ((i4.same s5).keeps k6 (s5 _ _ e4)).snoc ⟨tp, rfl, k6.look e5 n6, rfl⟩
  intro σ' H5 q
  obtain ⟨vs, rfl, s5, e5, i5, z5⟩ := q.resolve_right fun z => z
  clear q hv sA s4 e4 i4
  refine ⟨fun v H6 => (Same H5 H6 ∧ ((v = .non ∧ partO ws = none) ∨ ∃ p n rs, v = .ref p ∧ partO ws = some (n, rs) ∧ AtP t H5 H6 p n rs)) ∨ False, ?_, ?_⟩
  · refine ⟨_, rfl, x, rfl, hx, fun H2 s2 => ⟨fun e => .inl ⟨s2, .inl ⟨rfl, by rw [← hws]; exact e⟩⟩, fun p n m e hp hA => .inl ⟨s2, .inr ⟨p, n, m, rfl, by rw [← hws]; exact e, hA⟩⟩⟩⟩
  intro v4 H6 q
  obtain ⟨s6, hv⟩ := q.resolve_right fun z => z
  clear q
  have e6 := s6 _ _ e5
  have i6 := i5.same s6
  have sA := s5.trans s6
  refine ⟨fun σ' H7 => (∃ vs, σ' = [some (.str x), some (.ref l), some v2, some v3, some v4, none] ∧ Same H H7 ∧ H7 l = some (.lst vs) ∧ Items H7 l vs (clE (clauseO ws) ++ letE (letO ws) ++ partE (partO ws)) ∧ vs.length ≤ 3) ∨ False, ?_, ?_⟩
  · rcases hv with ⟨rfl, e⟩ | ⟨p, n, rs, rfl, e, hA⟩
    · refine ⟨_, rfl, rfl, _, rfl, iteNS rfl ?_⟩
      exact .inl ⟨vs, rfl, sA, e6, by rw [e]; simpa [partE] using i6, by omega⟩
    · have ty := tyP T hA
      obtain ⟨dx, a, b, hp, ha, hb, fa, fb⟩ := hA
      have na : a ≠ l := Ne.symm (ne_of_none e5 fa)
      refine ⟨_, rfl, rfl, _, rfl, iteNT (by intro z; cases z) ?_⟩
      refine ⟨_, rfl, _, _, _, _, rfl, .inr ⟨_, rfl⟩, ty, T.ki_Part_Row, _, rfl, iteT ?_⟩
      refine ⟨_, rfl, .inl ⟨rfl, _, SqL.of e6⟩, ?_⟩
      refine ⟨_, rfl, _, _, _, _, rfl, .inr ⟨_, rfl⟩, ty, T.ki_Part_Part, _, rfl, iteT ?_⟩
      refine ⟨_, rfl, _, fldP3 T hp, line_small (by decide), ?_⟩
      intro q H7 s7 h7 e7
      have hp7 := s7 _ _ hp
      have e6' := s7 _ _ e6
      refine ⟨_, _, RdD.lst (SqL.of (s7 _ _ hb)) .nil, RdD.lst (SqL.of e7) .nil, nil_shaped, nil_shaped, _, rfl, iteT ?_⟩
      refine ⟨_, rfl, _, fldP1 T hp7, _, rfl, _, fldP2 T hp7, line_small (by show 3 ≤ 1000; decide), ?_⟩
      intro tp H8 s8 h8 e8
      refine ⟨l, _, _, rfl, rfl, s8 _ _ e6', small1000 (by omega), ?_⟩
      intro H9 k9 e9
      have n9 : tp ≠ l := Ne.symm (ne_of_none e6' h8)
      refine .inl ⟨_, rfl, k9.put ((sA.trans s7).trans s8) hl, e9, ?_, by rw [List.length_append]; show vs.length + 1 ≤ 3; omega⟩
      rw [e]
      exact (((i6.same s7).same s8).keeps k9 (s8 _ _ e6')).snoc ⟨tp, a, rfl, k9.look e8 n9, k9.look (s8 _ _ (s7 _ _ ha)) na, na⟩
  intro σ' H7 q
  obtain ⟨vs, rfl, s7, e7, i7, z7⟩ := q.resolve_right fun z => z
  clear q hv sA s6 e6 i6 i5 e5 s5
  refine ⟨fun v H8 => (Same H7 H8 ∧ ((v = .non ∧ roomO ws = none) ∨ ∃ p m n, v = .ref p ∧ roomO ws = some (m, n) ∧ H8 p = some (.tup [.str m, .str n]))) ∨ False, ?_, ?_⟩
  · refine ⟨_, rfl, x, rfl, hx, fun H2 s2 => ⟨fun e => .inl ⟨s2, .inl ⟨rfl, by rw [← hws]; exact e⟩⟩, fun p n m e hp hA => .inl ⟨s2, .inr ⟨p, n, m, rfl, by rw [← hws]; exact e, hA⟩⟩⟩⟩
  intro v5 H8 q
  obtain ⟨s8, hv⟩ := q.resolve_right fun z => z
  clear q
  have e8 := s8 _ _ e7
  have i8 := i7.same s8
  have sA := s7.trans s8
  refine ⟨fun σ' H9 => (∃ vs, σ' = [some (.str x), some (.ref l), some v2, some v3, some v4, some v5] ∧ Same H H9 ∧ H9 l = some (.lst vs) ∧ Items H9 l vs (toldE ws)) ∨ False, ?_, ?_⟩
  · rcases hv with ⟨rfl, e⟩ | ⟨p, m, n, rfl, e, hA⟩
    · walk_at "rd"
      refine .inl ⟨vs, rfl, sA, e8, ?_⟩
      unfold toldE
      rw [e]
      simpa [roomE] using i8
    · refine ⟨_, rfl, rfl, _, rfl, iteNT (by intro z; cases z) ?_⟩
      refine ⟨_, rfl, .inl ⟨rfl, _, SqL.of e8⟩, ?_⟩
      refine ⟨_, rfl, _, _, .type "tuple", true, rfl, .inl ⟨_, rfl⟩, TyOf.tup hA, kit_same _ _, _, rfl, iteT ?_⟩
      refine ⟨_, rfl, p, _, rfl, .inr (SqT.of hA), rfl, _, rfl, ite2 (fun _ => ?_) (fun h => absurd (int_y rfl) h)⟩
      walk_at "rd"
      intro tp H9 s9 h9 e9
      refine ⟨l, _, _, rfl, rfl, s9 _ _ e8, small1000 (by omega), ?_⟩
      intro H10 k10 e10
      have n10 : tp ≠ l := Ne.symm (ne_of_none e8 h9)
      refine .inl ⟨_, rfl, k10.put (sA.trans s9) hl, e10, ?_⟩
      unfold toldE
      rw [e]
      exact ((i8.same s9).keeps k10 (s9 _ _ e8)).snoc ⟨tp, rfl, k10.look e9 n10, rfl⟩
  intro σ' H9 q
  obtain ⟨vs', rfl, s9, e9, i9⟩ := q.resolve_right fun z => z
  exact ⟨_, rfl, kk l vs' H9 s9 hl e9 i9⟩


/-! ### rows drawn -/
end
theorem num_tok {n : Int} (h1 : 1 ≤ n) (h2 : n < 10 ^ 20) : Rt 1 (Str.ofString (toString n)) ∧ numV (Str.ofString (toString n)) = n ∧ Wk (Str.ofString (toString n)) ∧ (Str.ofString (toString n)).length ≤ 20 := by
  obtain ⟨m, rfl⟩ := Int.eq_ofNat_of_zero_le (show 0 ≤ n by omega)
  have e := PySem.W.KIN.signs_num m
  have hg := num_good (n := (m : Int)) (by omega) (by omega)
  generalize hs : Str.ofString (toString ((m : Nat) : Int)) = s at *
  have hl : s.length = (Nat.toDigits 10 m).length := by
    have := congrArg List.length e
    rw [List.length_map] at this
    rw [← this]
    simp [Str.length]
  have hdig : PySem.NumText.AllDigits s.cps.toList := by
    rw [e]
    intro c hc
    obtain ⟨ch, hch, rfl⟩ := List.mem_map.mp hc
    have := Nat.isDigit_of_mem_toDigits (b := 10) (by decide) (by decide) hch
    simp [Char.isDigit] at this
    exact ⟨by have := this.1; exact this, by have := this.2; exact this⟩
  have hv : PySem.NumText.digitsVal s.cps.toList = m := by rw [e]; exact PySem.W.KIN.val_back m
  have hhead : s.cps.toList.head? ≠ some 48 := by
    intro q
    have ta := PySem.NumText.toDigits_all s.cps.toList hdig
    rw [hv] at ta
    cases qc : s.cps.toList with
    | nil => rw [qc] at q; cases q
    | cons c r =>
      rw [qc] at q ta hv
      have hc : c = 48 := by simpa using q
      subst hc
      rw [List.dropWhile_cons] at ta
      have hlen : (Nat.toDigits 10 m).length = r.length + 1 := by
        rw [← hl]
        have : s.length = s.cps.toList.length := by simp [Str.length]
        rw [this, qc]; rfl
      have hd : (r.dropWhile (· == 48)).length ≤ r.length := (List.dropWhile_sublist _).length_le
      cases qd : r.dropWhile (· == 48) with
      | nil =>
        simp only [show ((48 : Nat) == 48) = true from rfl, if_true, qd] at ta
        rw [ta] at hlen
        have : r = [] := by cases r; rfl; simp at hlen
        subst this
        have : PySem.NumText.digitsVal [48] = 0 := rfl
        omega
      | cons d r' =>
        simp only [show ((48 : Nat) == 48) = true from rfl, if_true, qd] at ta
        rw [ta, List.length_map] at hlen
        rw [qd] at hd
        omega
  have hlen20 : s.length ≤ 20 := by
    rw [hl]
    refine digits10_le (by decide) ?_
    exact_mod_cast h2
  have hw : writ s k_FIGURES 20 = true := by
    unfold writ
    rw [decide_eq_true hg.2.1, decide_eq_true (show (s.length : Int) ≤ 20 by omega)]
    simp only [Bool.true_and]
    exact List.all_eq_true.mpr fun c hc => by rw [has_digs]; exact decide_eq_true (hdig c hc)
  have hn : numV s = (m : Int) := by
    unfold numV
    rw [if_pos ⟨hw, hhead⟩, hv]
  have nl : nameB s = false := by
    cases q : nameB s with
    | false => rfl
    | true => rw [name_num q] at hn; omega
  refine ⟨.inr (.inl ⟨rfl, nl, by rw [hn]; omega, fun q => ?_⟩), hn, ⟨hg.2.2, fun hc => ?_⟩, hlen20⟩
  · rw [(lits_no s q).2] at hn; omega
  · have := hdig 32 hc; omega
def ascV : V → Prop
  | .str x => asc x
  | _ => True
def okE : E2 → Prop
  | .inl xs => ∀ v ∈ xs, ascV v
  | .inr q => asc q.1 ∧ ∀ r ∈ q.2, asc r
theorem canLay_flat : ∀ (xs : List V), (∀ v ∈ xs, ascV v) → PyData.canLayAll0 (xs.map dV) = true ∧ PyData.depthAll (xs.map dV) = 0
  | [], _ => ⟨rfl, rfl⟩
  | v :: r, h => by
    have q := canLay_flat r fun y hy => h y (List.mem_cons_of_mem _ hy)
    have hv := h v List.mem_cons_self
    cases v with
    | str x => simp [PyData.canLayAll0, PyData.canLay0, PyData.depthAll, PyData.depth, dV, q.1, q.2, asc.ok (show asc x from hv)]
    | _ => simp [PyData.canLayAll0, PyData.canLay0, PyData.depthAll, PyData.depth, dV, q.1, q.2]
theorem part_asc : asc ("part" : Str) := by unfold asc; decide +kernel
theorem shE {e : E2} (h : okE e) : SeqAt.shaped (.list [dataE e]) = true := by
  cases e with
  | inl xs =>
    have q := canLay_flat xs h
    simp [SeqAt.shaped, PyData.canLay0, PyData.canLayAll0, PyData.depth, PyData.depthAll, dataE, q.1, q.2]
  | inr p =>
    have q := canLay_strs p.2 fun x hx => asc.ok (h.2 x hx)
    simp [SeqAt.shaped, PyData.canLay0, PyData.canLayAll0, PyData.depth, PyData.depthAll, dataE, q.1, q.2, asc.ok h.1, asc.ok part_asc]
theorem eqv_flat : ∀ xs : List V, PyData.eqvAll (xs.map dV) (xs.map dV) = true
  | [] => by simp [PyData.eqvAll]
  | v :: r => by
    have q := eqv_flat r
    cases v <;> simp [PyData.eqvAll, PyData.eqv, dV, q]
theorem eqvE (e : E2) : PyData.eqv (.list [dataE e]) (.list [dataE e]) = true := by
  cases e with
  | inl xs => simp [PyData.eqv, PyData.eqvAll, dataE, eqv_flat xs]
  | inr p =>
    have q := eqvAll_strs p.2 p.2
    simp [PyData.eqv, PyData.eqvAll, dataE, q]
def GoodRow (c : Int) (ws : List Str) (e : E2) : Prop := ∃ ks, ((c % 8).toNat, ks) ∈ patt ∧ Rts ks ws ∧ (∀ x ∈ ws, Wk x) ∧ tot ws ≤ 168 ∧ toldE ws = [e] ∧ okE e
theorem lits_wk : ∀ x ∈ lits, (∀ c ∈ x.cps.toList, c < 128) ∧ 32 ∉ x.cps.toList ∧ x.length ≤ 4 := by decide +kernel
theorem rn {x : Str} (h : nameB x = true) : Rt 0 x := .inl ⟨rfl, h⟩
theorem rl {x : Str} {k : Nat} (h : lits[k]? = some x) : Rt (k + 3) x := .inr (.inr (.inr ⟨by omega, by rw [Nat.add_sub_cancel]; exact h⟩))
/-- a word with its kind -/
structure Wt (k : Nat) (x : Str) : Prop where
  rt : Rt k x
  wk : Wk x
  len : x.length ≤ 20
theorem wn {x : Str} (h : nameB x = true) : Wt 0 x := ⟨rn h, (name_good h).2.2, by have := (name_good h).2.1; omega⟩
theorem wl {x : Str} {k : Nat} (h : lits[k]? = some x) : Wt (k + 3) x := by
  obtain ⟨h1, h2, h3⟩ := lits_wk x (List.mem_of_getElem? h)
  exact ⟨rl h, ⟨h1, h2⟩, by omega⟩
abbrev Wts : List Nat → List Str → Prop := Paired Wt
theorem Wts.rts {ks : List Nat} {ws : List Str} (h : Wts ks ws) : Rts ks ws := Paired.mapP h fun _ _ q => q.rt
theorem Wts.wk : ∀ {ks : List Nat} {ws : List Str}, Wts ks ws → ∀ x ∈ ws, Wk x ∧ x.length ≤ 20
  | _, _, .nil, x, hx => by cases hx
  | _, _, .cons r t, x, hx => by
    rcases List.mem_cons.mp hx with rfl | hx
    · exact ⟨r.wk, r.len⟩
    · exact Wts.wk t x hx
theorem good_of {c : Int} {ks : List Nat} {ws : List Str} {e : E2} (hp : ((c % 8).toNat, ks) ∈ patt) (h : Wts ks ws) (hl : ks.length ≤ 8) (ht : toldE ws = [e]) (he : okE e) : GoodRow c ws e :=
  ⟨ks, hp, h.rts, fun x hx => (h.wk x hx).1, by have := tot_le (n := 20) fun x hx => (h.wk x hx).2; have := h.length; omega, ht, he⟩
theorem told_cl {ks : List Nat} {ws : List Str} {q} (r : Rts ks ws) (hc : clauseO ws = some q) (h5 : fitsT ks pLet = false) (h6 : partT ks = false) (h7 : roomT ks = false) : toldE ws = clE (some q) := by
  have hlet : letO ws = none := if_neg (no_fit r pok.2.2.2.2.1 forms_ok.2.2.2.2.1 h5)
  unfold toldE
  rw [hc, hlet, r.part h6, r.room h7]
  simp [letE, partE, roomE]
theorem cl_none {ks : List Nat} {ws : List Str} (r : Rts ks ws) (h1 : fitsT ks pDuty = false) (h2 : fitsT ks pLeave = false) (h3 : fitsT ks pBan = false) (h4 : fitsT ks pPower = false) : clauseO ws = none := by
  obtain ⟨f1, f2, f3, f4, f5, f6⟩ := forms_ok
  obtain ⟨o1, o2, o3, o4, o5, o6⟩ := pok
  unfold clauseO
  rw [if_neg (no_fit r o1 f1 h1), if_neg (no_fit r o2 f2 h2), if_neg (no_fit r o3 f3 h3), if_neg (no_fit r o4 f4 h4)]
theorem good0 {c : Int} {x y z v : Str} {n : Int} (hc : c % 8 = 0) (hx : nameB x = true) (hy : nameB y = true) (hz : nameB z = true) (hv : nameB v = true) (n1 : 1 ≤ n) (n2 : n < 10 ^ 20) :
    GoodRow c [x, y, "must", z, "by", Str.ofString (toString n), "else", v] (.inl [.str "must", .str x, .str y, .str z, .int n, .str v]) := by
  obtain ⟨t1, t2, t3, t4⟩ := num_tok n1 n2
  generalize Str.ofString (toString n) = s at *
  have h : Wts [0, 0, 4, 0, 7, 1, 8, 0] [x, y, "must", z, "by", s, "else", v] := .cons (wn hx) (.cons (wn hy) (.cons (wl (k := 1) rfl) (.cons (wn hz) (.cons (wl (k := 4) rfl) (.cons ⟨t1, t3, t4⟩ (.cons (wl (k := 5) rfl) (.cons (wn hv) .nil)))))))
  have r := h.rts
  refine good_of (by rw [hc]; decide) h (by decide) ((told_cl r (q := (0, x, y, z, n, v)) ?_ (by decide) (by decide) (by decide)).trans rfl) ?_
  · unfold clauseO
    rw [if_pos (yes_fit r pok.1 forms_ok.1 (by decide))]
    show some ((0 : Int), x, y, z, numV s, v) = _
    rw [t2]
  · intro q hq
    simp only [List.mem_cons, List.not_mem_nil, or_false] at hq
    rcases hq with rfl | rfl | rfl | rfl | rfl | rfl
    · exact (wl (x := "must") (k := 1) rfl).wk.as
    · exact (wn hx).wk.as
    · exact (wn hy).wk.as
    · exact (wn hz).wk.as
    · trivial
    · exact (wn hv).wk.as
/-- who: a name, or any -/
def whoB (u : Str) : Prop := nameB u = true ∨ u = "any"
theorem wu {u : Str} (h : whoB u) : ∃ k, (k = 0 ∨ k = 3) ∧ Wt k u := by
  rcases h with h | rfl
  · exact ⟨0, .inl rfl, wn h⟩
  · exact ⟨3, .inr rfl, wl (k := 0) rfl⟩
theorem mustw : asc ("may" : Str) ∧ asc ("ban" : Str) ∧ asc ("power" : Str) ∧ asc ("let" : Str) ∧ asc ("room" : Str) := by unfold asc; decide +kernel
theorem good1 {c : Int} {x u z : Str} (hc : c % 8 = 1) (hx : nameB x = true) (hu : whoB u) (hz : nameB z = true) : GoodRow c [x, u, "may", z] (.inl [.str "may", .str x, .str u, .str z]) := by
  obtain ⟨k, hk, hw⟩ := wu hu
  have h : Wts [0, k, 5, 0] [x, u, "may", z] := .cons (wn hx) (.cons hw (.cons (wl (k := 2) rfl) (.cons (wn hz) .nil)))
  have r := h.rts
  have okk : okE (.inl [.str "may", .str x, .str u, .str z]) := by
    intro q hq
    simp only [List.mem_cons, List.not_mem_nil, or_false] at hq
    rcases hq with rfl | rfl | rfl | rfl
    · exact mustw.1
    · exact (wn hx).wk.as
    · exact hw.wk.as
    · exact (wn hz).wk.as
  have hd : ∀ j, j = 0 ∨ j = 3 → (fitsT [0, j, 5, 0] pDuty = false ∧ fitsT [0, j, 5, 0] pLeave = true ∧ fitsT [0, j, 5, 0] pLet = false ∧ partT [0, j, 5, 0] = false ∧ roomT [0, j, 5, 0] = false ∧ (1, [0, j, 5, 0]) ∈ patt) := by
    rintro j (rfl | rfl) <;> decide
  obtain ⟨d1, d2, d3, d4, d5, d6⟩ := hd k hk
  refine good_of (by rw [hc]; exact d6) h (by show 4 ≤ 8; decide) ((told_cl r (q := (1, x, u, z, 0, "")) ?_ d3 d4 d5).trans rfl) okk
  unfold clauseO
  rw [if_neg (no_fit r pok.1 forms_ok.1 d1), if_pos (yes_fit r pok.2.1 forms_ok.2.1 d2)]
  rfl
theorem good2 {c : Int} {x u z v : Str} (hc : c % 8 = 2) (hx : nameB x = true) (hu : whoB u) (hz : nameB z = true) (hv : nameB v = true) : GoodRow c [x, u, "may", "not", z, "else", v] (.inl [.str "ban", .str x, .str u, .str z, .str v]) := by
  obtain ⟨k, hk, hw⟩ := wu hu
  have h : Wts [0, k, 5, 6, 0, 8, 0] [x, u, "may", "not", z, "else", v] := .cons (wn hx) (.cons hw (.cons (wl (k := 2) rfl) (.cons (wl (k := 3) rfl) (.cons (wn hz) (.cons (wl (k := 5) rfl) (.cons (wn hv) .nil))))))
  have r := h.rts
  have okk : okE (.inl [.str "ban", .str x, .str u, .str z, .str v]) := by
    intro q hq
    simp only [List.mem_cons, List.not_mem_nil, or_false] at hq
    rcases hq with rfl | rfl | rfl | rfl | rfl
    · exact mustw.2.1
    · exact (wn hx).wk.as
    · exact hw.wk.as
    · exact (wn hz).wk.as
    · exact (wn hv).wk.as
  have hd : ∀ j, j = 0 ∨ j = 3 → (fitsT [0, j, 5, 6, 0, 8, 0] pDuty = false ∧ fitsT [0, j, 5, 6, 0, 8, 0] pLeave = false ∧ fitsT [0, j, 5, 6, 0, 8, 0] pBan = true ∧ fitsT [0, j, 5, 6, 0, 8, 0] pLet = false ∧ partT [0, j, 5, 6, 0, 8, 0] = false ∧ roomT [0, j, 5, 6, 0, 8, 0] = false ∧ (2, [0, j, 5, 6, 0, 8, 0]) ∈ patt) := by
    rintro j (rfl | rfl) <;> decide
  obtain ⟨d1, d2, d2', d3, d4, d5, d6⟩ := hd k hk
  refine good_of (by rw [hc]; exact d6) h (by show 7 ≤ 8; decide) ((told_cl r (q := (2, x, u, z, 0, v)) ?_ d3 d4 d5).trans rfl) okk
  unfold clauseO
  rw [if_neg (no_fit r pok.1 forms_ok.1 d1), if_neg (no_fit r pok.2.1 forms_ok.2.1 d2), if_pos (yes_fit r pok.2.2.1 forms_ok.2.2.1 d2')]
  rfl
theorem good3 {c : Int} {x u z v : Str} (hc : c % 8 = 3) (hx : nameB x = true) (hu : whoB u) (hz : nameB z = true) (hv : nameB v = true) : GoodRow c [x, u, "by", z, "to", v] (.inl [.str "power", .str x, .str u, .str z, .str v]) := by
  obtain ⟨k, hk, hw⟩ := wu hu
  have h : Wts [0, k, 7, 0, 9, 0] [x, u, "by", z, "to", v] := .cons (wn hx) (.cons hw (.cons (wl (k := 4) rfl) (.cons (wn hz) (.cons (wl (k := 6) rfl) (.cons (wn hv) .nil)))))
  have r := h.rts
  have okk : okE (.inl [.str "power", .str x, .str u, .str z, .str v]) := by
    intro q hq
    simp only [List.mem_cons, List.not_mem_nil, or_false] at hq
    rcases hq with rfl | rfl | rfl | rfl | rfl
    · exact mustw.2.2.1
    · exact (wn hx).wk.as
    · exact hw.wk.as
    · exact (wn hz).wk.as
    · exact (wn hv).wk.as
  have hd : ∀ j, j = 0 ∨ j = 3 → (fitsT [0, j, 7, 0, 9, 0] pDuty = false ∧ fitsT [0, j, 7, 0, 9, 0] pLeave = false ∧ fitsT [0, j, 7, 0, 9, 0] pBan = false ∧ fitsT [0, j, 7, 0, 9, 0] pPower = true ∧ fitsT [0, j, 7, 0, 9, 0] pLet = false ∧ partT [0, j, 7, 0, 9, 0] = false ∧ roomT [0, j, 7, 0, 9, 0] = false ∧ (3, [0, j, 7, 0, 9, 0]) ∈ patt) := by
    rintro j (rfl | rfl) <;> decide
  obtain ⟨d1, d2, d2', d2'', d3, d4, d5, d6⟩ := hd k hk
  refine good_of (by rw [hc]; exact d6) h (by show 6 ≤ 8; decide) ((told_cl r (q := (3, x, u, z, 0, v)) ?_ d3 d4 d5).trans rfl) okk
  unfold clauseO
  rw [if_neg (no_fit r pok.1 forms_ok.1 d1), if_neg (no_fit r pok.2.1 forms_ok.2.1 d2), if_neg (no_fit r pok.2.2.1 forms_ok.2.2.1 d2'), if_pos (yes_fit r pok.2.2.2.1 forms_ok.2.2.2.1 d2'')]
  rfl
theorem good4 {c : Int} {x y : Str} (hc : c % 8 = 4) (hx : nameB x = true) (hy : nameB y = true) : GoodRow c ["let", x, "be", y] (.inl [.str "let", .str x, .str y]) := by
  have h : Wts [10, 0, 11, 0] ["let", x, "be", y] := .cons (wl (k := 7) rfl) (.cons (wn hx) (.cons (wl (k := 8) rfl) (.cons (wn hy) .nil)))
  have r := h.rts
  refine good_of (by rw [hc]; decide) h (by decide) ?_ ?_
  · unfold toldE
    rw [cl_none r (by decide) (by decide) (by decide) (by decide), r.part (by decide), r.room (by decide)]
    have : letO ["let", x, "be", y] = some (x, y) := if_pos (yes_fit r pok.2.2.2.2.1 forms_ok.2.2.2.2.1 (by decide))
    rw [this]
    rfl
  · intro q hq
    simp only [List.mem_cons, List.not_mem_nil, or_false] at hq
    rcases hq with rfl | rfl | rfl
    · exact mustw.2.2.2.1
    · exact (wn hx).wk.as
    · exact (wn hy).wk.as
theorem part_yes {ks : List Nat} {ws : List Str} (r : Rts ks ws) (h : fitsT (ks.take 2) pPart = true) : fitsF (ws.take 2) fPart = true := yes_fit (r.take 2) pok.2.2.2.2.2 forms_ok.2.2.2.2.2 h
theorem good5 {c : Int} {x : Str} (hc : c % 8 = 5) (hx : nameB x = true) : GoodRow c ["part", x] (.inr (x, [])) := by
  have h : Wts [12, 0] ["part", x] := .cons (wl (k := 9) rfl) (.cons (wn hx) .nil)
  have r := h.rts
  refine good_of (by rw [hc]; decide) h (by decide) ?_ ⟨(wn hx).wk.as, fun q hq => by cases hq⟩
  unfold toldE
  have hlet : letO ["part", x] = none := if_neg (no_fit r pok.2.2.2.2.1 forms_ok.2.2.2.2.1 (by decide))
  have hp : partO ["part", x] = some (x, []) := by
    unfold partO
    rw [if_pos (part_yes r (by decide)), if_pos (show (["part", x] : List Str).length = 2 from rfl)]
    rfl
  rw [cl_none r (by decide) (by decide) (by decide) (by decide), hlet, hp, r.room (by decide)]
  rfl
theorem good7 {c : Int} {m x : Str} (hc : c % 8 = 7) (hm : m = "calm" ∨ m = "sore" ∨ m = "end") (hx : nameB x = true) : GoodRow c [m, x] (.inl [.str "room", .str m, .str x]) := by
  obtain ⟨k, hk, hw⟩ : ∃ k, (k = 14 ∨ k = 15 ∨ k = 16) ∧ Wt k m := by
    rcases hm with rfl | rfl | rfl
    · exact ⟨14, .inl rfl, wl (k := 11) rfl⟩
    · exact ⟨15, .inr (.inl rfl), wl (k := 12) rfl⟩
    · exact ⟨16, .inr (.inr rfl), wl (k := 13) rfl⟩
  have h : Wts [k, 0] [m, x] := .cons hw (.cons (wn hx) .nil)
  have r := h.rts
  have hd : ∀ j, j = 14 ∨ j = 15 ∨ j = 16 → (fitsT [j, 0] pDuty = false ∧ fitsT [j, 0] pLeave = false ∧ fitsT [j, 0] pBan = false ∧ fitsT [j, 0] pPower = false ∧ fitsT [j, 0] pLet = false ∧ partT [j, 0] = false ∧ (7, [j, 0]) ∈ patt) := by
    rintro j (rfl | rfl | rfl) <;> decide
  obtain ⟨d1, d2, d3, d4, d5, d6, d7⟩ := hd k hk
  refine good_of (by rw [hc]; exact d7) h (by show 2 ≤ 8; decide) ?_ ?_
  · unfold toldE
    have hlet : letO [m, x] = none := if_neg (no_fit r pok.2.2.2.2.1 forms_ok.2.2.2.2.1 d5)
    have hr : roomO [m, x] = some (m, x) := by
      refine if_pos ⟨rfl, ?_, hx⟩
      rw [in_strs]
      refine decide_eq_true ?_
      show m ∈ ks_MARKS
      rcases hm with rfl | rfl | rfl <;> decide +kernel
    rw [cl_none r d1 d2 d3 d4, hlet, r.part d6, hr]
    rfl
  · intro q hq
    simp only [List.mem_cons, List.not_mem_nil, or_false] at hq
    rcases hq with rfl | rfl | rfl
    · exact mustw.2.2.2.2
    · exact hw.wk.as
    · exact (wn hx).wk.as
theorem wts_names : ∀ {rs : List Str}, (∀ x ∈ rs, nameB x = true) → Wts (List.replicate rs.length 0) rs
  | [], _ => .nil
  | x :: r, h => .cons (wn (h x (by simp))) (wts_names fun y hy => h y (List.mem_cons_of_mem _ hy))
def p6 (m : Nat) : List Nat := [12, 0, 13] ++ List.replicate m 0
def pat6B (m : Nat) : Bool := decide ((6, p6 m) ∈ patt) && !fitsT (p6 m) pDuty && !fitsT (p6 m) pLeave && !fitsT (p6 m) pBan && !fitsT (p6 m) pPower && !fitsT (p6 m) pLet && !roomT (p6 m) && fitsT ((p6 m).take 2) pPart
theorem pat6 : ∀ m < 13, 1 ≤ m → pat6B m = true := by decide +kernel
theorem good6 {c : Int} {x : Str} {rs : List Str} (hc : c % 8 = 6) (hx : nameB x = true) (hr : ∀ y ∈ rs, nameB y = true) (h1 : 1 ≤ rs.length) (h2 : rs.length ≤ 12) : GoodRow c ((["part", x, "in"] : List Str) ++ rs) (.inr (x, rs)) := by
  have h3 : Wts [12, 0, 13] ["part", x, "in"] := .cons (wl (k := 9) rfl) (.cons (wn hx) (.cons (wl (k := 10) rfl) .nil))
  have r : Rts (p6 rs.length) ((["part", x, "in"] : List Str) ++ rs) := h3.rts.append (wts_names hr).rts
  have hpat := pat6 rs.length (by omega) h1
  unfold pat6B at hpat
  simp only [Bool.and_eq_true, Bool.not_eq_true', decide_eq_true_eq] at hpat
  obtain ⟨⟨⟨⟨⟨⟨⟨d0, d1⟩, d2⟩, d3⟩, d4⟩, d5⟩, d7⟩, d8⟩ := hpat
  refine ⟨_, by rw [hc]; exact d0, r, fun y hy => ?_, ?_, ?_, ⟨(wn hx).wk.as, fun q hq => (wn (hr q hq)).wk.as⟩⟩
  · rcases List.mem_append.mp hy with hy | hy
    · exact (h3.wk y hy).1
    · exact (wn (hr y hy)).wk
  · have a1 := tot_le (n := 8) (ws := rs) fun y hy => (name_good (hr y hy)).2.1
    have a2 := tot_le (n := 8) (ws := ["part", x, "in"]) fun y hy => by
      simp only [List.mem_cons, List.not_mem_nil, or_false] at hy
      rcases hy with rfl | rfl | rfl
      · decide +kernel
      · exact (name_good hx).2.1
      · decide +kernel
    rw [tot_app]
    have : (["part", x, "in"] : List Str).length = 3 := rfl
    omega
  · unfold toldE
    have hlet : letO ((["part", x, "in"] : List Str) ++ rs) = none := if_neg (no_fit r pok.2.2.2.2.1 forms_ok.2.2.2.2.1 d5)
    have hp : partO ((["part", x, "in"] : List Str) ++ rs) = some (x, rs) := by
      unfold partO
      have hl : ¬ ((["part", x, "in"] : List Str) ++ rs).length = 2 := by rw [List.length_append]; show ¬ 3 + rs.length = 2; omega
      have hd : ((["part", x, "in"] : List Str) ++ rs).drop 3 = rs := rfl
      have ha : areN rs 12 = true := by
        unfold areN
        rw [decide_eq_true h1, decide_eq_true (show (rs.length : Int) ≤ 12 by omega)]
        exact List.all_eq_true.mpr hr
      rw [if_pos (part_yes r d8), if_neg hl, hd, if_neg (fun q => q.elim (fun q => q rfl) (fun q => by rw [ha] at q; cases q))]
      rfl
    rw [cl_none r d1 d2 d3 d4, hlet, hp, r.room d7]
    rfl
section
variable {P : Program} {w : World} {K : PySem.W.Frag} {mg : Str → Option Value} {base : Heap} {t : Adr}


/-! ### _law_good -/
end
structure Ns (ns : List Str) : Prop where
  len : ns.length = 16
  ok : ∀ x ∈ ns, nameB x = true
theorem Ns.get {ns : List Str} (h : Ns ns) {i : Int} (h0 : 0 ≤ i) (h1 : i < 16) : nameB (ns.getD i.toNat "") = true := h.ok _ (wd_mem (by have := h.len; omega))
theorem rng_of {lo : Int} {n i : Nat} {y : V} (h : ((List.range n).map fun (i : Nat) => V.int (lo + (i : Int)))[i]? = some y) : i < n ∧ y = V.int (lo + (i : Int)) := by
  rw [List.getElem?_map] at h
  by_cases q : i < n
  · rw [List.getElem?_range q] at h
    exact ⟨q, (Option.some.inj h).symm⟩
  · rw [List.getElem?_eq_none_iff.mpr (by rw [List.length_range]; omega)] at h
    cases h
theorem small1000' {n : Nat} (h : n ≤ 1000) : n ≤ sizeLine := line_small h
def spGood (K : PySem.W.Frag) : Sp := fun vs H Q _ => ∃ (a : Addr) (c : Int) (ns : List Str), vs = [.ref a, .int c] ∧ SqL K H a (ns.map V.str) ∧ Ns ns ∧ 0 ≤ c ∧
  ∀ tp lw ve H' ws e, Same H H' → H tp = none → H' tp = some (.tup [.ref lw, ve]) → H lw = none → H' lw = some (.lst (ws.map V.str)) → itemE H' lw ve e → GoodRow c ws e → Q (.ref tp) H'
theorem four_of {ss : List Str} (h : ss.length = 4) : ∃ a b c d, ss = [a, b, c, d] := by
  match ss, h with
  | [a, b, c, d], _ => exact ⟨a, b, c, d, rfl⟩
section
variable {P : Program} {w : World} {K : PySem.W.Frag} {mg : Str → Option Value} {base : Heap} {t : Adr}
set_option maxRecDepth 1000000 in
theorem sc_w_good : FnScope ["_law_names", "_law_cell", "_law_sort", "_law_some", "_law_who", "_law_number", "_law_words", "_law_rooms", "_law_mark"] ["_law_names", "_law_cell"] (defScope s_w_good) := ⟨rfl, rfl, rfl, by decide +kernel, rfl, by decide +kernel, by decide +kernel⟩
set_option maxHeartbeats 400000 in
theorem ok_w_good (T : Txt K mg t) : FnOk P w K mg base CX0 2 t.f_w_good t.d_w_good ["_law_names", "_law_cell"] (spGood K) := by
  have G_w_mix : FnOk P w K mg base CX0 1 t.f_w_mix t.d_w_mix ["_law_cell", "_law_k"] spMix := (ok_w_mix T).mono (by decide)
  refine T.w_good.fn.ok sc_w_good (fun vs H Q E h => (by first | (obtain ⟨rfl, _⟩ := h; rfl) | (obtain ⟨_, rfl, _⟩ := h; rfl) | (obtain ⟨_, _, rfl, _⟩ := h; rfl) | (obtain ⟨_, _, _, rfl, _⟩ := h; rfl) | (obtain ⟨_, _, _, _, rfl, _⟩ := h; rfl) | (obtain ⟨_, _, _, _, _, rfl, _⟩ := h; rfl) | (obtain ⟨_, _, _, _, _, _, rfl, _⟩ := h; rfl) | (obtain ⟨_, _, _, _, _, _, _, rfl, _⟩ := h; rfl) | (obtain ⟨_, _, _, _, _, _, _, _, rfl, _⟩ := h; rfl) | (obtain ⟨_, _, _, _, _, _, _, _, _, rfl, _⟩ := h; rfl) | (obtain ⟨_, _, _, _, _, _, _, _, _, _, rfl, _⟩ := h; rfl) | (obtain ⟨_, _, _, _, _, _, _, _, _, _, _, rfl, _⟩ := h; rfl) | (obtain ⟨_, _, _, _, _, _, _, _, _, _, _, _, rfl, _⟩ := h; rfl) | (obtain ⟨_, _, _, _, _, _, _, _, _, _, _, _, _, rfl, _⟩ := h; rfl) | (obtain ⟨_, _, _, _, _, _, _, _, _, _, _, _, _, _, rfl, _⟩ := h; rfl) | (obtain ⟨_, _, _, _, _, _, _, _, _, _, _, _, _, _, _, rfl, _⟩ := h; rfl) | (obtain ⟨_, _, _, _, _, _, _, _, _, _, _, _, _, _, _, _, rfl, _⟩ := h; rfl) | (obtain ⟨_, _, _, _, _, _, _, _, _, _, _, _, _, _, _, _, _, rfl, _⟩ := h; rfl) | (obtain ⟨_, _, _, _, _, _, _, _, _, _, _, _, _, _, _, _, _, _, rfl, _⟩ := h; rfl) | (obtain ⟨_, _, _, _, _, _, _, _, _, _, _, _, _, _, _, _, _, _, _, rfl, _⟩ := h; rfl) | (obtain ⟨_, _, _, _, _, _, _, _, _, _, _, _, _, _, _, _, _, _, _, _, rfl, _⟩ := h; rfl) | (obtain ⟨_, _, _, _, _, _, _, _, _, _, _, _, _, _, _, _, _, _, _, _, _, rfl, _⟩ := h; rfl) | (obtain ⟨_, _, _, _, _, _, _, _, _, _, _, _, _, _, _, _, _, _, _, _, _, _, rfl, _⟩ := h; rfl) | (obtain ⟨_, _, _, _, _, _, _, _, _, _, _, _, _, _, _, _, _, _, _, _, _, _, _, rfl, _⟩ := h; rfl))) (fun cdv A outer s H vs Q E hr h => ?_)
  obtain ⟨a, c, ns, rfl, hA, hN, c0, kk⟩ := h
  refine ⟨_, (pss_cons (ps_set (i := 2) sc_w_good.nd rfl (Or.inl rfl) (pe_op op_mod (pv 1) pe_int))
      (pss_cons (ps_set_lcomp (i := 3) (osc := defScope s_w_good) (N := ["_law_names", "_law_cell", "_law_sort", "_law_some", "_law_who", "_law_number", "_law_words", "_law_rooms", "_law_mark"]) (names := ["_law_names", "_law_cell"]) (caps := [0, 1]) rfl rfl rfl sc_w_good.nd ⟨rfl, by decide +kernel, by decide +kernel, by decide +kernel, rfl, rfl, by decide +kernel, by decide +kernel⟩ rfl rfl (pi_range1 rfl T.b_range (pa_cons pe_int pa_nil)) (fun _ _ _ => (pe_ix (ixK_list (K := K) rfl) (pv 1) (pe_op op_mod (pe_call G_w_mix hr rfl T.w_mix.mg T.w_mix.fn.kp T.w_mix.bd .nil pass0 (pa_cons (pv 2) (pa_cons (pv 0) pa_nil))) pe_int) (fun _ _ => rfl))))
      (pss_cons (ps_set (i := 4) sc_w_good.nd rfl (Or.inl rfl) (pe_ix (ixK_list (K := K) rfl) (pv 3) pe_int (fun _ _ => rfl)))
      (pss_cons (PS.join (ps_if (pt_cmpR op_eq (pe_op op_mod (pe_call G_w_mix hr rfl T.w_mix.mg T.w_mix.fn.kp T.w_mix.bd .nil pass0 (pa_cons (pv 1) (pa_cons pe_int pa_nil))) pe_int) pe_int (nomark _))
        (pss_one (ps_set (i := 4) sc_w_good.nd rfl (Or.inl rfl) pe_str)) pss_nil))
      (pss_cons (ps_set (i := 5) sc_w_good.nd rfl (Or.inl rfl) (pe_op op_add pe_int (pe_op op_mod (pe_call G_w_mix hr rfl T.w_mix.mg T.w_mix.fn.kp T.w_mix.bd .nil pass0 (pa_cons (pv 1) (pa_cons pe_int pa_nil))) pe_int)))
      (pss_cons (PS.join (ps_if (pt_cmpR op_eq (pe_op op_mod (pe_call G_w_mix hr rfl T.w_mix.mg T.w_mix.fn.kp T.w_mix.bd .nil pass0 (pa_cons (pv 1) (pa_cons pe_int pa_nil))) pe_int) pe_int (nomark _))
        (pss_one (ps_set (i := 5) sc_w_good.nd rfl (Or.inl rfl) (pe_op op_add pe_int (pe_op op_mod (pe_op op_mul (pv 1) pe_int) (pe_op op_sub (pe_op op_pow pe_int pe_int) pe_int))))) pss_nil))
      (pss_cons (ps_if (pt_cmpR op_eq (pv 2) pe_int (nomark _))
        (pss_cons (ps_set (i := 6) sc_w_good.nd rfl (Or.inl rfl) (ne_lst (pa_cons (pe_ix (ixK_list (K := K) rfl) (pv 3) pe_int (fun _ _ => rfl)) (pa_cons (pe_ix (ixK_list (K := K) rfl) (pv 3) pe_int (fun _ _ => rfl)) (pa_cons pe_str (pa_cons (pe_ix (ixK_list (K := K) rfl) (pv 3) pe_int (fun _ _ => rfl)) (pa_cons pe_str (pa_cons (pe_callTy call_str_int rfl T.b_str PyProof.Rows.boot_str (pa_cons (pv 5) pa_nil)) (pa_cons pe_str (pa_cons (pe_ix (ixK_list (K := K) rfl) (pv 3) pe_int (fun _ _ => rfl)) pa_nil))))))))) sw_list)
      (pss_one (ps_ret (ne_tup (pa_cons (pv 6) (pa_cons (ne_tup (pa_cons pe_str (pa_cons (pe_ix (ixK_list (K := K) rfl) (pv 3) pe_int (fun _ _ => rfl)) (pa_cons (pe_ix (ixK_list (K := K) rfl) (pv 3) pe_int (fun _ _ => rfl)) (pa_cons (pe_ix (ixK_list (K := K) rfl) (pv 3) pe_int (fun _ _ => rfl)) (pa_cons (pv 5) (pa_cons (pe_ix (ixK_list (K := K) rfl) (pv 3) pe_int (fun _ _ => rfl)) pa_nil))))))) pa_nil)))))) pss_nil)
      (pss_cons (ps_if (pt_cmpR op_eq (pv 2) pe_int (nomark _))
        (pss_one (ps_ret (ne_tup (pa_cons (ne_lst (pa_cons (pe_ix (ixK_list (K := K) rfl) (pv 3) pe_int (fun _ _ => rfl)) (pa_cons (pv 4) (pa_cons pe_str (pa_cons (pe_ix (ixK_list (K := K) rfl) (pv 3) pe_int (fun _ _ => rfl)) pa_nil))))) (pa_cons (ne_tup (pa_cons pe_str (pa_cons (pe_ix (ixK_list (K := K) rfl) (pv 3) pe_int (fun _ _ => rfl)) (pa_cons (pv 4) (pa_cons (pe_ix (ixK_list (K := K) rfl) (pv 3) pe_int (fun _ _ => rfl)) pa_nil))))) pa_nil))))) pss_nil)
      (pss_cons (ps_if (pt_cmpR op_eq (pv 2) pe_int (nomark _))
        (pss_one (ps_ret (ne_tup (pa_cons (ne_lst (pa_cons (pe_ix (ixK_list (K := K) rfl) (pv 3) pe_int (fun _ _ => rfl)) (pa_cons (pv 4) (pa_cons pe_str (pa_cons pe_str (pa_cons (pe_ix (ixK_list (K := K) rfl) (pv 3) pe_int (fun _ _ => rfl)) (pa_cons pe_str (pa_cons (pe_ix (ixK_list (K := K) rfl) (pv 3) pe_int (fun _ _ => rfl)) pa_nil)))))))) (pa_cons (ne_tup (pa_cons pe_str (pa_cons (pe_ix (ixK_list (K := K) rfl) (pv 3) pe_int (fun _ _ => rfl)) (pa_cons (pv 4) (pa_cons (pe_ix (ixK_list (K := K) rfl) (pv 3) pe_int (fun _ _ => rfl)) (pa_cons (pe_ix (ixK_list (K := K) rfl) (pv 3) pe_int (fun _ _ => rfl)) pa_nil)))))) pa_nil))))) pss_nil)
      (pss_cons (ps_if (pt_cmpR op_eq (pv 2) pe_int (nomark _))
        (pss_one (ps_ret (ne_tup (pa_cons (ne_lst (pa_cons (pe_ix (ixK_list (K := K) rfl) (pv 3) pe_int (fun _ _ => rfl)) (pa_cons (pv 4) (pa_cons pe_str (pa_cons (pe_ix (ixK_list (K := K) rfl) (pv 3) pe_int (fun _ _ => rfl)) (pa_cons pe_str (pa_cons (pe_ix (ixK_list (K := K) rfl) (pv 3) pe_int (fun _ _ => rfl)) pa_nil))))))) (pa_cons (ne_tup (pa_cons pe_str (pa_cons (pe_ix (ixK_list (K := K) rfl) (pv 3) pe_int (fun _ _ => rfl)) (pa_cons (pv 4) (pa_cons (pe_ix (ixK_list (K := K) rfl) (pv 3) pe_int (fun _ _ => rfl)) (pa_cons (pe_ix (ixK_list (K := K) rfl) (pv 3) pe_int (fun _ _ => rfl)) pa_nil)))))) pa_nil))))) pss_nil)
      (pss_cons (ps_if (pt_cmpR op_eq (pv 2) pe_int (nomark _))
        (pss_one (ps_ret (ne_tup (pa_cons (ne_lst (pa_cons pe_str (pa_cons (pe_ix (ixK_list (K := K) rfl) (pv 3) pe_int (fun _ _ => rfl)) (pa_cons pe_str (pa_cons (pe_ix (ixK_list (K := K) rfl) (pv 3) pe_int (fun _ _ => rfl)) pa_nil))))) (pa_cons (ne_tup (pa_cons pe_str (pa_cons (pe_ix (ixK_list (K := K) rfl) (pv 3) pe_int (fun _ _ => rfl)) (pa_cons (pe_ix (ixK_list (K := K) rfl) (pv 3) pe_int (fun _ _ => rfl)) pa_nil)))) pa_nil))))) pss_nil)
      (pss_cons (ps_if (pt_cmpR op_eq (pv 2) pe_int (nomark _))
        (pss_one (ps_ret (ne_tup (pa_cons (ne_lst (pa_cons pe_str (pa_cons (pe_ix (ixK_list (K := K) rfl) (pv 3) pe_int (fun _ _ => rfl)) pa_nil))) (pa_cons (ne_tup (pa_cons pe_str (pa_cons (pe_ix (ixK_list (K := K) rfl) (pv 3) pe_int (fun _ _ => rfl)) (pa_cons (ne_lst pa_nil) pa_nil)))) pa_nil))))) pss_nil)
      (pss_cons (ps_if (pt_cmpR op_eq (pv 2) pe_int (nomark _))
        (pss_cons (ps_set_lcomp (i := 7) (osc := defScope s_w_good) (N := ["_law_names", "_law_cell", "_law_sort", "_law_some", "_law_who", "_law_number", "_law_words", "_law_rooms", "_law_mark"]) (names := ["_law_names", "_law_cell"]) (caps := [0, 1]) rfl rfl rfl sc_w_good.nd ⟨rfl, by decide +kernel, by decide +kernel, by decide +kernel, rfl, rfl, by decide +kernel, by decide +kernel⟩ rfl rfl (pi_range1 rfl T.b_range (pa_cons (pe_op op_add pe_int (pe_op op_mod (pe_call G_w_mix hr rfl T.w_mix.mg T.w_mix.fn.kp T.w_mix.bd .nil pass0 (pa_cons (pv 1) (pa_cons pe_int pa_nil))) pe_int)) pa_nil)) (fun _ _ _ => (pe_ix (ixK_list (K := K) rfl) (pv 1) (pe_op op_mod (pe_call G_w_mix hr rfl T.w_mix.mg T.w_mix.fn.kp T.w_mix.bd .nil pass0 (pa_cons (pv 2) (pa_cons (pe_op op_add pe_int (pv 0)) pa_nil))) pe_int) (fun _ _ => rfl))))
      (pss_one (ps_ret (ne_tup (pa_cons (pe_op no_cat (ne_lst (pa_cons pe_str (pa_cons (pe_ix (ixK_list (K := K) rfl) (pv 3) pe_int (fun _ _ => rfl)) (pa_cons pe_str pa_nil)))) (pv 7)) (pa_cons (ne_tup (pa_cons pe_str (pa_cons (pe_ix (ixK_list (K := K) rfl) (pv 3) pe_int (fun _ _ => rfl)) (pa_cons (pv 7) pa_nil)))) pa_nil)))))) pss_nil)
      (pss_cons (ps_set (i := 8) sc_w_good.nd rfl (Or.inl rfl) (pe_ix (ixK_list (K := K) rfl) (ne_lst (pa_cons pe_str (pa_cons pe_str (pa_cons pe_str pa_nil)))) (pe_op op_mod (pe_call G_w_mix hr rfl T.w_mix.mg T.w_mix.fn.kp T.w_mix.bd .nil pass0 (pa_cons (pv 1) (pa_cons pe_int pa_nil))) pe_int) (fun _ _ => rfl)))
      (pss_one (ps_ret (ne_tup (pa_cons (ne_lst (pa_cons (pv 8) (pa_cons (pe_ix (ixK_list (K := K) rfl) (pv 3) pe_int (fun _ _ => rfl)) pa_nil))) (pa_cons (ne_tup (pa_cons pe_str (pa_cons (pv 8) (pa_cons (pe_ix (ixK_list (K := K) rfl) (pv 3) pe_int (fun _ _ => rfl)) pa_nil)))) pa_nil))))))))))))))))))), ?_⟩
  have nl := hN.len
  walk_at "rd"
  refine comp_seq (seqj_range (lo := 0) (n := 4)) (fun _ _ v => ∃ x, v = V.str x ∧ nameB x = true) (line_small (by decide)) ?_ ?_
  · intro i y H' Q' hy s' k2
    obtain ⟨hi, rfl⟩ := rng_of hy
    have hA' := seqS hA s'
    have b0 : 0 ≤ mixF c (0 + (i : Int)) % 16 := Int.emod_nonneg _ (by decide)
    have b1 : mixF c (0 + (i : Int)) % 16 < 16 := Int.emod_lt_of_pos _ (by decide)
    walk_at "rd"
    exact k2 _ _ (Same.refl _) ⟨_, rfl, hN.get b0 b1⟩
  intro ls H1 ys s1 hls hy hlen hp
  obtain ⟨ss, rfl, hss⟩ := strs_of (fun z => nameB z = true) ys fun v hv => by
    obtain ⟨i, hi, e⟩ := List.getElem_of_mem hv
    have hi4 : i < 4 := by rw [hlen] at hi; simpa using hi
    exact hp i (V.int (0 + (i : Int))) v (by rw [List.getElem?_map, List.getElem?_range hi4]; rfl) (by rw [List.getElem?_eq_getElem hi, e])
  obtain ⟨x0, x1, x2, x3, rfl⟩ := four_of (by simpa using hlen)
  have g0 := hss x0 (by simp)
  have g1 := hss x1 (by simp)
  have g2 := hss x2 (by simp)
  have g3 := hss x3 (by simp)
  have hA1 := seqS hA s1
  clear hp hss hlen
  walk_at "rd"
  refine ⟨fun σ' H2 => (∃ u, σ' = [some (.ref a), some (.int c), some (.int (c % 8)), some (.ref ls), some (.str u), none, none, none, none] ∧ H2 = H1 ∧ whoB u) ∨ False, ?_, ?_⟩
  · walk_at "rd"
    exact ite2 (fun _ => .inl ⟨_, rfl, rfl, .inr rfl⟩) (fun _ => .inl ⟨x1, rfl, rfl, .inl g1⟩)
  intro σ' H2 q
  obtain ⟨u, rfl, rfl, hu⟩ := q.resolve_right fun z => z
  clear q
  walk_at "rd"
  refine ⟨fun σ' H3 => (∃ n, σ' = [some (.ref a), some (.int c), some (.int (c % 8)), some (.ref ls), some (.str u), some (.int n), none, none, none] ∧ H3 = H2 ∧ 1 ≤ n ∧ n < 10 ^ 20) ∨ False, ?_, ?_⟩
  · walk_at "rd"
    refine ite2 (fun _ => ?_) (fun _ => .inl ⟨_, rfl, rfl, ?_, ?_⟩)
    · walk_at "rd"
      have m1 := Int.emod_nonneg (c * 48271) (show ((10 : Int) ^ 20 - 1) ≠ 0 by decide)
      have m2 := Int.emod_lt_of_pos (c * 48271) (show (0 : Int) < 10 ^ 20 - 1 by decide)
      refine .inl ⟨_, rfl, rfl, ?_, ?_⟩
      · show 1 ≤ 1 + c * 48271 % (10 ^ 20 - 1)
        omega
      · show 1 + c * 48271 % (10 ^ 20 - 1) < 10 ^ 20
        omega
    · have := Int.emod_nonneg (mixF c 5) (show (12 : Int) ≠ 0 by decide); omega
    · have := Int.emod_lt_of_pos (mixF c 5) (show (0 : Int) < 12 by decide); omega
  intro σ' H3 q
  obtain ⟨n, rfl, rfl, n1, n2⟩ := q.resolve_right fun z => z
  clear q
  walk_at "rd"
  refine ite2 (fun h => ?_) (fun h0 => ?_)
  · have hc := int_x h
    walk_at "rd"
    refine ⟨log_small (by omega) (by omega), ?_⟩
    walk_at "rd"
    intro lw H4 s4 h4 e4
    walk_at "rd"
    intro tv H5 s5 h5 e5
    walk_at "rd"
    intro tp H6 s6 h6 e6
    exact kk tp lw (.ref tv) H6 [x0, x1, "must", x2, "by", Str.ofString (toString n), "else", x3] (.inl [.str "must", .str x0, .str x1, .str x2, .int n, .str x3]) (((s1.trans s4).trans s5).trans s6) (((s1.trans s4).trans s5).free h6) e6 (s1.free h4) (s6 _ _ (s5 _ _ e4)) ⟨tv, rfl, s6 _ _ e5, rfl⟩ (good0 hc g0 g1 g2 g3 n1 n2)
  walk_at "rd"
  refine ite2 (fun h => ?_) (fun h1 => ?_)
  · have hc := int_x h
    walk_at "rd"
    intro lw H4 s4 h4 e4
    walk_at "rd"
    intro tv H5 s5 h5 e5
    walk_at "rd"
    intro tp H6 s6 h6 e6
    exact kk tp lw (.ref tv) H6 [x0, u, "may", x2] (.inl [.str "may", .str x0, .str u, .str x2]) (((s1.trans s4).trans s5).trans s6) (((s1.trans s4).trans s5).free h6) e6 (s1.free h4) (s6 _ _ (s5 _ _ e4)) ⟨tv, rfl, s6 _ _ e5, rfl⟩ (good1 hc g0 hu g2)
  walk_at "rd"
  refine ite2 (fun h => ?_) (fun h2 => ?_)
  · have hc := int_x h
    walk_at "rd"
    intro lw H4 s4 h4 e4
    walk_at "rd"
    intro tv H5 s5 h5 e5
    walk_at "rd"
    intro tp H6 s6 h6 e6
    exact kk tp lw (.ref tv) H6 [x0, u, "may", "not", x2, "else", x3] (.inl [.str "ban", .str x0, .str u, .str x2, .str x3]) (((s1.trans s4).trans s5).trans s6) (((s1.trans s4).trans s5).free h6) e6 (s1.free h4) (s6 _ _ (s5 _ _ e4)) ⟨tv, rfl, s6 _ _ e5, rfl⟩ (good2 hc g0 hu g2 g3)
  walk_at "rd"
  refine ite2 (fun h => ?_) (fun h3 => ?_)
  · have hc := int_x h
    walk_at "rd"
    intro lw H4 s4 h4 e4
    walk_at "rd"
    intro tv H5 s5 h5 e5
    walk_at "rd"
    intro tp H6 s6 h6 e6
    exact kk tp lw (.ref tv) H6 [x0, u, "by", x2, "to", x3] (.inl [.str "power", .str x0, .str u, .str x2, .str x3]) (((s1.trans s4).trans s5).trans s6) (((s1.trans s4).trans s5).free h6) e6 (s1.free h4) (s6 _ _ (s5 _ _ e4)) ⟨tv, rfl, s6 _ _ e5, rfl⟩ (good3 hc g0 hu g2 g3)
  walk_at "rd"
  refine ite2 (fun h => ?_) (fun h4 => ?_)
  · have hc := int_x h
    walk_at "rd"
    intro lw H4 s4 h4 e4
    walk_at "rd"
    intro tv H5 s5 h5 e5
    walk_at "rd"
    intro tp H6 s6 h6 e6
    exact kk tp lw (.ref tv) H6 ["let", x0, "be", x1] (.inl [.str "let", .str x0, .str x1]) (((s1.trans s4).trans s5).trans s6) (((s1.trans s4).trans s5).free h6) e6 (s1.free h4) (s6 _ _ (s5 _ _ e4)) ⟨tv, rfl, s6 _ _ e5, rfl⟩ (good4 hc g0 g1)
  walk_at "rd"
  refine ite2 (fun h => ?_) (fun h5 => ?_)
  · have hc := int_x h
    walk_at "rd"
    intro lw H4 s4 h4 e4
    walk_at "rd"
    intro le H5 s5 h5 e5
    walk_at "rd"
    intro tv H6 s6 h6 e6
    walk_at "rd"
    intro tp H7 s7 h7 e7
    exact kk tp lw (.ref tv) H7 ["part", x0] (.inr (x0, [])) ((((s1.trans s4).trans s5).trans s6).trans s7) ((((s1.trans s4).trans s5).trans s6).free h7) e7 (s1.free h4) (s7 _ _ (s6 _ _ (s5 _ _ e4))) ⟨tv, le, rfl, s7 _ _ e6, s7 _ _ (s6 _ _ e5), Ne.symm (ne_of_none e4 h5)⟩ (good5 hc g0)
  walk_at "rd"
  refine ite2 (fun h => ?_) (fun h6 => ?_)
  · have hc := int_x h
    have b0 : 0 ≤ mixF c 7 % 12 := Int.emod_nonneg _ (by decide)
    have b1 : mixF c 7 % 12 < 12 := Int.emod_lt_of_pos _ (by decide)
    walk_at "rd"
    refine comp_seq (seqj_range (lo := 0) (n := (1 + mixF c 7 % 12).toNat)) (fun _ _ v => ∃ x, v = V.str x ∧ nameB x = true) (line_small (by rw [List.length_map, List.length_range]; omega)) ?_ ?_
    · intro i y H' Q' hy' s' k2
      obtain ⟨hi, rfl⟩ := rng_of hy'
      have hA' := seqS hA1 s'
      have b2 : 0 ≤ mixF c (8 + (0 + (i : Int))) % 16 := Int.emod_nonneg _ (by decide)
      have b3 : mixF c (8 + (0 + (i : Int))) % 16 < 16 := Int.emod_lt_of_pos _ (by decide)
      walk_at "rd"
      exact k2 _ _ (Same.refl _) ⟨_, rfl, hN.get b2 b3⟩
    intro lr H4 ys s4 h4 e4 hlen hp
    rw [List.length_map, List.length_range] at hlen
    obtain ⟨rs, rfl, hrs⟩ := strs_of (fun z => nameB z = true) ys fun v hv => by
      obtain ⟨i, hi, e⟩ := List.getElem_of_mem hv
      exact hp i (V.int (0 + (i : Int))) v (by rw [List.getElem?_map, List.getElem?_range (by omega)]; rfl) (by rw [List.getElem?_eq_getElem hi, e])
    rw [List.length_map] at hlen
    clear hp
    walk_at "rd"
    intro l1 H5 s5 h5 e5
    refine ⟨_, rfl, l1, lr, _, _, rfl, rfl, e5, s5 _ _ e4, small1000' (by rw [List.length_map]; show 3 + rs.length ≤ 1000; omega), ?_⟩
    intro lw H6 s6 h6 e6
    have e6' : H6 lw = some (.lst ((([("part" : Str), x0, "in"] : List Str) ++ rs).map V.str)) := by rw [List.map_append]; exact e6
    clear e6
    walk_at "rd"
    intro tv H7 s7 h7 e7
    walk_at "rd"
    intro tp H8 s8 h8 e8
    have sA := ((((s1.trans s4).trans s5).trans s6).trans s7)
    have nlw : lr ≠ lw := ne_of_none (s5 _ _ e4) h6
    exact kk tp lw (.ref tv) H8 _ (.inr (x0, rs)) (sA.trans s8) (sA.free h8) e8 (((s1.trans s4).trans s5).free h6) (s8 _ _ (s7 _ _ e6')) ⟨tv, lr, rfl, s8 _ _ e7, s8 _ _ (s7 _ _ (s6 _ _ (s5 _ _ e4))), nlw⟩ (good6 hc g0 hrs (by omega) (by omega))
  have hc7 : c % 8 = 7 := by
    have e : ∀ {m : Int}, ¬ decide (V.int (c % 8) = V.int m) = true → c % 8 ≠ m := fun h q => h (int_y q)
    have a0 := e h0
    have a1 := e h1
    have a2 := e h2
    have a3 := e h3
    have a4 := e h4
    have a5 := e h5
    have a6 := e h6
    omega
  walk_at "rd"
  intro lm H4 s4 h4 e4
  have b0 : 0 ≤ mixF c 7 % 3 := Int.emod_nonneg _ (by decide)
  have b1 : mixF c 7 % 3 < 3 := Int.emod_lt_of_pos _ (by decide)
  have e4' : H4 lm = some (.lst ((["calm", "sore", "end"] : List Str).map V.str)) := e4
  clear e4
  have hl3 : (["calm", "sore", "end"] : List Str).length = 3 := rfl
  have hm : ((["calm", "sore", "end"] : List Str).getD (mixF c 7 % 3).toNat "") = "calm" ∨ ((["calm", "sore", "end"] : List Str).getD (mixF c 7 % 3).toNat "") = "sore" ∨ ((["calm", "sore", "end"] : List Str).getD (mixF c 7 % 3).toNat "") = "end" := by
    have : (mixF c 7 % 3).toNat = 0 ∨ (mixF c 7 % 3).toNat = 1 ∨ (mixF c 7 % 3).toNat = 2 := by omega
    rcases this with q | q | q <;> rw [q]
    · exact .inl rfl
    · exact .inr (.inl rfl)
    · exact .inr (.inr rfl)
  refine ⟨_, rfl, c, 7, rfl, by decide, by decide, _, _, rfl, rfl, (by show (0 : Int) < 3; decide), lm, _, _, _, rfl, rfl, SqL.of e4', atI_str' b0 (by rw [hl3]; omega), ?_⟩
  generalize ((["calm", "sore", "end"] : List Str).getD (mixF c 7 % 3).toNat "") = mk at hm ⊢
  clear e4'
  have hy4 := s4 _ _ hy
  clear hy
  walk_at "rd"
  intro lw H5 s5 h5 e5
  walk_at "rd"
  intro tv H6 s6 h6 e6
  walk_at "rd"
  intro tp H7 s7 h7 e7
  have sA := ((s1.trans s4).trans s5).trans s6
  exact kk tp lw (.ref tv) H7 [mk, x0] (.inl [.str "room", .str mk, .str x0]) (sA.trans s7) (sA.free h7) e7 ((s1.trans s4).free h5) (s7 _ _ (s6 _ _ e5)) ⟨tv, rfl, s7 _ _ e6, rfl⟩ (good7 hc7 hm g0)


/-! ### rows spoilt -/
end
theorem patt_len : ∀ p ∈ patt, 2 ≤ p.2.length ∧ p.2.length ≤ 15 ∧ (p.1 = 0 → p.2.length = 8) := by decide +kernel
theorem empty_told {ws : List Str} (h : emptyO ws) : toldE ws = [] := by
  obtain ⟨h1, h2, h3, h4⟩ := h
  unfold toldE
  rw [h1, h2, h3, h4]
  rfl
structure SpOk (ws zs : List Str) : Prop where
  or : zs = ws ∨ toldE zs = []
  ne : zs ≠ []
  wk : ∀ x ∈ zs, Wk x
  tot : tot zs ≤ 190
theorem GoodRow.len {c : Int} {ws : List Str} {e : E2} (g : GoodRow c ws e) : 2 ≤ ws.length ∧ ws.length ≤ 15 ∧ (c % 8 = 0 → ws.length = 8) := by
  obtain ⟨ks, hp, r, _⟩ := g
  have h0 : 2 ≤ ks.length ∧ ks.length ≤ 15 ∧ ((c % 8).toNat = 0 → ks.length = 8) := patt_len _ hp
  have hl := r.length
  refine ⟨by omega, by omega, fun q => ?_⟩
  have h8 := h0.2.2 (by omega)
  omega
theorem GoodRow.self {c : Int} {ws : List Str} {e : E2} (g : GoodRow c ws e) : SpOk ws ws := by
  have hl := g.len
  obtain ⟨ks, hp, r, hw, ht, _⟩ := g
  exact ⟨.inl rfl, fun q => by rw [q] at hl; simp at hl, hw, by omega⟩
theorem mem_cut {ws : List Str} {i j : Nat} {x : Str} (h : x ∈ ws.take i ++ ws.drop j) : x ∈ ws := (List.mem_append.mp h).elim List.mem_of_mem_take List.mem_of_mem_drop
theorem sp3 {c : Int} {ws : List Str} {e : E2} (g : GoodRow c ws e) {i : Nat} (hi : i < ws.length) (h6 : c % 8 = 6 → i < 3) : SpOk ws (ws.take i ++ ws.drop (i + 1)) := by
  have hl := g.len
  obtain ⟨ks, hp, r, hw, ht, _⟩ := g
  have hk := r.length
  refine ⟨.inr (empty_told (((r.take i).append (r.drop (i + 1))).empty (way3 _ hp i (by show i < ks.length; omega) fun q => h6 ?_))), fun q => ?_, fun x hx => hw x (mem_cut hx), ?_⟩
  · have q' : (c % 8).toNat = 6 := q
    omega
  · have z : (ws.take i ++ ws.drop (i + 1)).length = 0 := by rw [q]; rfl
    rw [List.length_append, List.length_take, List.length_drop] at z
    omega
  · rw [tot_app]
    have a := tot_take ws i
    have b := tot_drop1 ws i
    omega
theorem sp_mid {c : Int} {ws : List Str} {e : E2} (g : GoodRow c ws e) {i j : Nat} {b : Str} (hb : Wk b) (hbl : b.length ≤ 21) (hij : i ≤ j) (o : ws.take i ++ [b] ++ ws.drop j = ws ∨ toldE (ws.take i ++ [b] ++ ws.drop j) = []) : SpOk ws (ws.take i ++ [b] ++ ws.drop j) := by
  obtain ⟨ks, hp, r, hw, ht, _⟩ := g
  refine ⟨o, by simp, fun x hx => ?_, ?_⟩
  · rcases List.mem_append.mp hx with h | h
    · rcases List.mem_append.mp h with h | h
      · exact hw x (List.mem_of_mem_take h)
      · rw [List.mem_singleton.mp h]; exact hb
    · exact hw x (List.mem_of_mem_drop h)
  · rw [tot_app, tot_app, tot_one]
    have a := tot_take ws i
    have d : tot (ws.drop j) ≤ tot (ws.drop i) := by
      obtain ⟨k, rfl⟩ := Nat.exists_eq_add_of_le hij
      have := tot_take (ws.drop i) k
      rw [List.drop_drop] at this
      omega
    omega
theorem sp4 {c : Int} {ws : List Str} {e : E2} (g : GoodRow c ws e) {i k : Nat} {b : Str} (hi : i < ws.length + 1) (hr : Rt k b) (hk : k ∈ [2, 5, 3, 0]) (h6 : c % 8 = 6 → k ≠ 0) (hb : Wk b) (hbl : b.length ≤ 21) : SpOk ws (ws.take i ++ [b] ++ ws.drop i) := by
  refine sp_mid g hb hbl (Nat.le_refl _) (.inr ?_)
  obtain ⟨ks, hp, r, hw, ht, _⟩ := g
  have hl := r.length
  refine empty_told (Rts.empty (ks := ks.take i ++ [k] ++ ks.drop i) (((r.take i).append (.cons hr .nil)).append (r.drop i)) (way4 _ hp i (by show i < ks.length + 1; omega) k hk fun q => h6 ?_))
  have q' : (c % 8).toNat = 6 := q
  omega
theorem put_same {ws : List Str} {i : Nat} (hi : i < ws.length) : ws.take i ++ [wd ws i] ++ ws.drop (i + 1) = ws := by
  unfold wd
  rw [List.getD_eq_getElem?_getD, List.getElem?_eq_getElem hi, Option.getD_some, List.append_assoc]
  show ws.take i ++ (ws[i] :: ws.drop (i + 1)) = ws
  rw [List.getElem_cons_drop, List.take_append_drop]
theorem rt_same {k : Nat} {x y : Str} (h1 : Rt k x) (h2 : Rt k y) (h : 3 ≤ k) : x = y := by
  rcases h1 with ⟨rfl, _⟩ | ⟨rfl, _⟩ | ⟨rfl, _⟩ | ⟨_, e1⟩ <;> try omega
  rcases h2 with ⟨rfl, _⟩ | ⟨rfl, _⟩ | ⟨rfl, _⟩ | ⟨_, e2⟩ <;> try omega
  rw [e1] at e2
  exact Option.some.inj e2
theorem sp5 {c : Int} {ws : List Str} {e : E2} (g : GoodRow c ws e) {i k : Nat} {b : Str} (hi : i < ws.length) (hr : Rt k b) (hk : k ∈ [2, 3, 4, 5, 6, 7, 8, 9, 10, 11, 12, 13, 14, 15, 16]) (h5 : ok5 (c % 8).toNat i k = true) (hb : Wk b) (hbl : b.length ≤ 21) : SpOk ws (ws.take i ++ [b] ++ ws.drop (i + 1)) := by
  refine sp_mid g hb hbl (Nat.le_succ _) ?_
  obtain ⟨ks, hp, r, hw, ht, _⟩ := g
  have hl := r.length
  rcases way5 _ hp i (by show i < ks.length; omega) k hk h5 with q | ⟨q, q2⟩
  · exact .inr (empty_told (Rts.empty (ks := ks.take i ++ [k] ++ ks.drop (i + 1)) (((r.take i).append (.cons hr .nil)).append (r.drop (i + 1))) q))
  · refine .inl ?_
    have r1 := Rts.pick (i := i) r (by omega)
    have q' : ks.getD i 99 = k := q
    rw [q'] at r1
    have k3 : 3 ≤ k := by
      simp only [List.mem_cons, List.not_mem_nil, or_false] at hk
      omega
    rw [rt_same hr r1 k3]
    exact put_same hi
/-- a word that may be put in, with its kind -/
structure Bad (b : Str) : Prop where
  kind : ∃ k, k ∈ [2, 3, 4, 5, 6, 7, 8, 9, 10, 11, 12, 13, 14, 15, 16] ∧ Rt k b
  wk : Wk b
  len : b.length ≤ 21
theorem odd_ok : ∀ x ∈ (["", "aB", "a1", "-", "whole", "0", "01", "+3", "3.", Txt.mul "1" 21, "in", "a-"] : List Str), x ≠ "in" → nameB x = false ∧ numV x = 0 ∧ x ∉ lits ∧ (∀ c ∈ x.cps.toList, c < 128) ∧ 32 ∉ x.cps.toList ∧ x.length ≤ 21 := by decide +kernel
theorem odd_bad {x : Str} (h : x ∈ (["", "aB", "a1", "-", "whole", "0", "01", "+3", "3.", Txt.mul "1" 21, "in", "a-"] : List Str)) (h' : x ≠ "in") : Rt 2 x ∧ Wk x ∧ x.length ≤ 21 := by
  obtain ⟨h1, h2, h3, h4, h5, h6⟩ := odd_ok x h h'
  exact ⟨.inr (.inr (.inl ⟨rfl, h1, h2, h3⟩)), ⟨h4, h5⟩, h6⟩
theorem kept_tok : ∀ x ∈ ks_KEPT, ((∃ j < 14, lits[j]? = some x) ∨ (nameB x = false ∧ numV x = 0 ∧ x ∉ lits)) ∧ (∀ c ∈ x.cps.toList, c < 128) ∧ 32 ∉ x.cps.toList ∧ x.length ≤ 21 := by decide +kernel
theorem kept_bad {x : Str} (h : x ∈ ks_KEPT) : Bad x := by
  obtain ⟨h1, h2, h3, h4⟩ := kept_tok x h
  refine ⟨?_, ⟨h2, h3⟩, h4⟩
  rcases h1 with ⟨j, hj, e⟩ | ⟨a, b, c⟩
  · refine ⟨j + 3, ?_, rl e⟩
    simp only [List.mem_cons, List.not_mem_nil, or_false]
    omega
  · exact ⟨2, by simp, .inr (.inr (.inl ⟨rfl, a, b, c⟩))⟩
theorem odd_bad' {x : Str} (h : x ∈ (["", "aB", "a1", "-", "whole", "0", "01", "+3", "3.", Txt.mul "1" 21, "in", "a-"] : List Str)) (h' : x ≠ "in") : Bad x := by
  obtain ⟨h1, h2, h3⟩ := odd_bad h h'
  exact ⟨⟨2, by simp, h1⟩, h2, h3⟩
theorem eight : ("abcdefgh" : Str).length = 8 ∧ ∀ c ∈ ("abcdefgh" : Str).cps.toList, c ∈ k_LETTERS.cps.toList := by decide +kernel
theorem lits_short : ∀ x ∈ lits, x.length ≤ 4 := fun x hx => (lits_wk x hx).2.2
theorem long_bad {n : Str} (h : nameB n = true) : Rt 2 (Txt.slice (n ++ "abcdefgh") none (some 9)) ∧ Wk (Txt.slice (n ++ "abcdefgh") none (some 9)) ∧ (Txt.slice (n ++ "abcdefgh") none (some 9)).length = 9 := by
  have hn := name_good h
  have hln : LS (n ++ "abcdefgh") := by
    refine ls_app ?_ eight.2
    unfold nameB at h
    rw [Bool.and_eq_true] at h
    exact (writ_mem h.1).2.2
  have hlen : (n ++ ("abcdefgh" : Str)).cps.toList.length = n.length + 8 := by
    have : (n ++ ("abcdefgh" : Str)).cps.toList.length = (n ++ ("abcdefgh" : Str)).length := by simp [Str.length]
    rw [this, str_len_append, eight.1]
  have e := beq_iff_eq.mp (PyProof.Rows.slice_closes_to (x := n ++ "abcdefgh") (j := 9) ⟨by decide, by omega⟩)
  have hs : LS (Txt.slice (n ++ "abcdefgh") none (some 9)) := fun c hc => hln c (slice_mem hc)
  have h9 : (Txt.slice (n ++ "abcdefgh") none (some 9)).length = 9 := by
    rw [e]
    show (((n ++ ("abcdefgh" : Str)).cps.toList.drop (0 : Int).toNat).take ((9 : Int) - 0).toNat).toArray.size = 9
    rw [List.size_toArray, List.length_take, show (0 : Int).toNat = 0 from rfl, List.drop_zero, hlen]
    show min 9 _ = 9
    omega
  generalize Txt.slice (n ++ "abcdefgh") none (some 9) = x at *
  refine ⟨.inr (.inr (.inl ⟨rfl, ?_, ?_, fun q => by have := lits_short x q; omega⟩)), ⟨fun c hc => lets_ok.2.2 c (hs c hc), fun hc => ?_⟩, h9⟩
  · cases q : nameB x with
    | false => rfl
    | true => have := (name_good q).2.1; omega
  · unfold numV
    refine if_neg fun q => ?_
    obtain ⟨_, _, d3⟩ := writ_digits q.1
    obtain ⟨c, e, _⟩ := first_at (x := x) (by omega)
    have hc : c ∈ x.cps.toList := List.mem_of_mem_head? e
    exact has_digit_no c (hs c hc) (d3 c hc)
  · have : ¬ 32 ∈ k_LETTERS.cps.toList := by decide +kernel
    exact this (hs 32 hc)
section
variable {P : Program} {w : World} {K : PySem.W.Frag} {mg : Str → Option Value} {base : Heap} {t : Adr}
def spSpoilt (K : PySem.W.Frag) : Sp := fun vs H Q _ => ∃ (a lw : Addr) (c : Int) (ns ws : List Str) (e : E2), vs = [.ref a, .ref lw, .int c] ∧ SqL K H a (ns.map V.str) ∧ Ns ns ∧ H lw = some (.lst (ws.map V.str)) ∧ GoodRow c ws e ∧ 0 ≤ c ∧
  ∀ l zs H', Same H H' → H l = none → H' l = some (.lst (zs.map V.str)) → SpOk ws zs → Q (.ref l) H'
theorem cut_takeI {α : Type} (f : α → V) (xs : List α) {i : Int} (h : 0 ≤ i) : cutV (xs.map f) none (some i) = (xs.take i.toNat).map f := by
  have := cut_take f xs i.toNat
  rwa [Int.toNat_of_nonneg h] at this
theorem cut_dropI {α : Type} (f : α → V) (xs : List α) {i : Int} (h : 0 ≤ i) : cutV (xs.map f) (some i) none = (xs.drop i.toNat).map f := by
  have := cut_drop f xs i.toNat
  rwa [Int.toNat_of_nonneg h] at this
theorem four_pos (b : Bool) : (0 : Int) < 4 - (if b = true then 1 else 0) := by cases b <;> decide
theorem four_ix (c : Int) (b : Bool) : 0 ≤ mixF c 22 % (4 - (if b = true then (1 : Int) else 0)) ∧ mixF c 22 % (4 - (if b = true then (1 : Int) else 0)) < 4 ∧ (b = true → mixF c 22 % (4 - (if b = true then (1 : Int) else 0)) < 3) := by
  have h0 := Int.emod_nonneg (mixF c 22) (show (4 - (if b = true then (1 : Int) else 0)) ≠ 0 by cases b <;> decide)
  have h1 := Int.emod_lt_of_pos (mixF c 22) (four_pos b)
  cases b
  · simp at h0 h1 ⊢; omega
  · simp at h0 h1 ⊢; omega
theorem more_ok {n : Str} (hn : nameB n = true) {j : Nat} (hj : j < 4) : ∃ k, Rt k ((["", "may", "any", n] : List Str).getD j "") ∧ k ∈ [2, 5, 3, 0] ∧ (j < 3 → k ≠ 0) ∧ Wk ((["", "may", "any", n] : List Str).getD j "") ∧ ((["", "may", "any", n] : List Str).getD j "").length ≤ 21 := by
  have hj' : j = 0 ∨ j = 1 ∨ j = 2 ∨ j = 3 := by omega
  rcases hj' with rfl | rfl | rfl | rfl
  · obtain ⟨a, b, c⟩ := odd_bad (x := "") (by decide +kernel) (by decide +kernel)
    exact ⟨2, a, by simp, fun _ => by decide, b, c⟩
  · have h := wl (x := "may") (k := 2) rfl
    exact ⟨5, h.rt, by simp, fun _ => by decide, h.wk, by have := h.len; show ("may" : Str).length ≤ 21; omega⟩
  · have h := wl (x := "any") (k := 0) rfl
    exact ⟨3, h.rt, by simp, fun _ => by decide, h.wk, by have := h.len; show ("any" : Str).length ≤ 21; omega⟩
  · have h := wn hn
    exact ⟨0, h.rt, by simp, fun q => by omega, h.wk, by have := h.len; show n.length ≤ 21; omega⟩
theorem getD_in {xs : List Str} {j : Nat} (h : j < xs.length) : xs.getD j "" ∈ xs := wd_mem h
theorem bads_all {n x : Str} (hn : nameB n = true) (hx : x ∈ ks_KEPT) : ∀ y ∈ (["", x, "aB", "a1", Txt.slice (n ++ "abcdefgh") none (some 9), "-"] : List Str), Bad y := by
  have hlong : Bad (Txt.slice (n ++ "abcdefgh") none (some 9)) := by
    obtain ⟨a, b, c⟩ := long_bad hn
    exact ⟨⟨2, by simp, a⟩, b, by omega⟩
  generalize Txt.slice (n ++ "abcdefgh") none (some 9) = z at *
  intro y hy
  simp only [List.mem_cons, List.not_mem_nil, or_false] at hy
  rcases hy with rfl | rfl | rfl | rfl | rfl | rfl
  · exact odd_bad' (x := "") (by decide +kernel) (by decide +kernel)
  · exact kept_bad hx
  · exact odd_bad' (x := "aB") (by decide +kernel) (by decide +kernel)
  · exact odd_bad' (x := "a1") (by decide +kernel) (by decide +kernel)
  · exact hlong
  · exact odd_bad' (x := "-") (by decide +kernel) (by decide +kernel)
theorem bads_ok {n x : Str} (hn : nameB n = true) (hx : x ∈ ks_KEPT) {j : Nat} (hj : j < 6) : Bad ((["", x, "aB", "a1", Txt.slice (n ++ "abcdefgh") none (some 9), "-"] : List Str).getD j "") := by
  refine bads_all hn hx _ (getD_in ?_)
  exact hj
def nums5 : List Str := ["0", "01", "+3", "3.", Txt.mul "1" 21]
theorem nums_len : nums5.length = 5 := rfl
theorem nums_in : ∀ y ∈ nums5, y ∈ (["", "aB", "a1", "-", "whole", "0", "01", "+3", "3.", Txt.mul "1" 21, "in", "a-"] : List Str) ∧ y ≠ "in" := by decide +kernel
theorem nums_bad {j : Nat} (hj : j < 5) : Bad (nums5.getD j "") ∧ Rt 2 (nums5.getD j "") := by
  obtain ⟨h1, h2⟩ := nums_in _ (getD_in (xs := nums5) (j := j) (by rw [nums_len]; exact hj))
  exact ⟨odd_bad' h1 h2, (odd_bad h1 h2).1⟩
theorem choose5 {c i : Int} {b : Str} (i0 : 0 ≤ i) (i8 : c % 8 = 0 → i < 8) (hb : Bad b) (h1 : (i = 0 ∧ (c % 8 = 5 ∨ c % 8 = 7)) ∨ (i = 1 ∧ 0 < c % 8 ∧ c % 8 < 4) → Rt 2 b) (h2 : c % 8 = 0 ∧ i = 1 → Rt 3 b) (h3 : ¬ (c % 8 = 0 ∧ (i = 0 ∨ i = 2 ∨ i = 3))) :
    ∃ k, k ∈ [2, 3, 4, 5, 6, 7, 8, 9, 10, 11, 12, 13, 14, 15, 16] ∧ Rt k b ∧ ok5 (c % 8).toNat i.toNat k = true := by
  have hs : 0 ≤ c % 8 ∧ c % 8 < 8 := ⟨Int.emod_nonneg _ (by decide), Int.emod_lt_of_pos _ (by decide)⟩
  generalize c % 8 = s at *
  by_cases q1 : s = 0 ∧ i = 1
  · refine ⟨3, by simp, h2 q1, ?_⟩
    obtain ⟨rfl, rfl⟩ := q1
    rfl
  by_cases q2 : (i = 0 ∧ (s = 5 ∨ s = 7)) ∨ (i = 1 ∧ 0 < s ∧ s < 4)
  · refine ⟨2, by simp, h1 q2, ?_⟩
    rcases q2 with ⟨rfl, rfl | rfl⟩ | ⟨rfl, a, b⟩
    · rfl
    · rfl
    · have : s = 1 ∨ s = 2 ∨ s = 3 := by omega
      rcases this with rfl | rfl | rfl <;> rfl
  obtain ⟨k, hk, hr⟩ := hb.kind
  refine ⟨k, hk, hr, ?_⟩
  have : s = 0 ∨ s = 1 ∨ s = 2 ∨ s = 3 ∨ s = 4 ∨ s = 5 ∨ s = 6 ∨ s = 7 := by omega
  rcases this with rfl | rfl | rfl | rfl | rfl | rfl | rfl | rfl
  · have i8 := i8 rfl
    have : i = 4 ∨ i = 5 ∨ i = 6 ∨ i = 7 := by omega
    rcases this with rfl | rfl | rfl | rfl <;> rfl
  all_goals
    unfold ok5
    simp
    try omega
/-! ### _law_spoilt -/
set_option maxRecDepth 1000000 in
theorem sc_w_spoilt : FnScope ["_law_names", "_law_words", "_law_cell", "_law_way", "_law_sort", "_law_size", "_law_at", "_law_more", "_law_bad"] ["_law_names", "_law_words", "_law_cell"] (defScope s_w_spoilt) := ⟨rfl, rfl, rfl, by decide +kernel, rfl, by decide +kernel, by decide +kernel⟩
set_option maxHeartbeats 400000 in
theorem ok_w_spoilt (T : Txt K mg t) : FnOk P w K mg base CX0 2 t.f_w_spoilt t.d_w_spoilt ["_law_names", "_law_words", "_law_cell"] (spSpoilt K) := by
  have G_w_kept : FnOk P w K mg base CX0 1 t.f_w_kept t.d_w_kept ["_law_cell"] spKept1 := (ok_w_kept T).mono (by decide)
  have G_w_mix : FnOk P w K mg base CX0 1 t.f_w_mix t.d_w_mix ["_law_cell", "_law_k"] spMix := (ok_w_mix T).mono (by decide)
  refine T.w_spoilt.fn.ok sc_w_spoilt (fun vs H Q E h => (by first | (obtain ⟨rfl, _⟩ := h; rfl) | (obtain ⟨_, rfl, _⟩ := h; rfl) | (obtain ⟨_, _, rfl, _⟩ := h; rfl) | (obtain ⟨_, _, _, rfl, _⟩ := h; rfl) | (obtain ⟨_, _, _, _, rfl, _⟩ := h; rfl) | (obtain ⟨_, _, _, _, _, rfl, _⟩ := h; rfl) | (obtain ⟨_, _, _, _, _, _, rfl, _⟩ := h; rfl) | (obtain ⟨_, _, _, _, _, _, _, rfl, _⟩ := h; rfl) | (obtain ⟨_, _, _, _, _, _, _, _, rfl, _⟩ := h; rfl) | (obtain ⟨_, _, _, _, _, _, _, _, _, rfl, _⟩ := h; rfl) | (obtain ⟨_, _, _, _, _, _, _, _, _, _, rfl, _⟩ := h; rfl) | (obtain ⟨_, _, _, _, _, _, _, _, _, _, _, rfl, _⟩ := h; rfl) | (obtain ⟨_, _, _, _, _, _, _, _, _, _, _, _, rfl, _⟩ := h; rfl) | (obtain ⟨_, _, _, _, _, _, _, _, _, _, _, _, _, rfl, _⟩ := h; rfl) | (obtain ⟨_, _, _, _, _, _, _, _, _, _, _, _, _, _, rfl, _⟩ := h; rfl) | (obtain ⟨_, _, _, _, _, _, _, _, _, _, _, _, _, _, _, rfl, _⟩ := h; rfl) | (obtain ⟨_, _, _, _, _, _, _, _, _, _, _, _, _, _, _, _, rfl, _⟩ := h; rfl) | (obtain ⟨_, _, _, _, _, _, _, _, _, _, _, _, _, _, _, _, _, rfl, _⟩ := h; rfl) | (obtain ⟨_, _, _, _, _, _, _, _, _, _, _, _, _, _, _, _, _, _, rfl, _⟩ := h; rfl) | (obtain ⟨_, _, _, _, _, _, _, _, _, _, _, _, _, _, _, _, _, _, _, rfl, _⟩ := h; rfl) | (obtain ⟨_, _, _, _, _, _, _, _, _, _, _, _, _, _, _, _, _, _, _, _, rfl, _⟩ := h; rfl) | (obtain ⟨_, _, _, _, _, _, _, _, _, _, _, _, _, _, _, _, _, _, _, _, _, rfl, _⟩ := h; rfl) | (obtain ⟨_, _, _, _, _, _, _, _, _, _, _, _, _, _, _, _, _, _, _, _, _, _, rfl, _⟩ := h; rfl) | (obtain ⟨_, _, _, _, _, _, _, _, _, _, _, _, _, _, _, _, _, _, _, _, _, _, _, rfl, _⟩ := h; rfl))) (fun cdv A outer s H vs Q E hr h => ?_)
  obtain ⟨a, lw, c, ns, ws, e, rfl, hA, hN, hW, g, c0, kk⟩ := h
  refine ⟨_, (pss_cons (ps_set (i := 3) sc_w_spoilt.nd rfl (Or.inl rfl) (pe_op op_mod (pe_op op_fdiv (pv 2) pe_int) pe_int))
      (pss_cons (ps_if (pt_cmpR op_lt (pv 3) pe_int (nomark _))
        (pss_one (ps_ret (pe_callTy (ncK_list (K := K) rfl) rfl T.b_list PyProof.Rows.boot_list (pa_cons (pv 1) pa_nil)))) pss_nil)
      (pss_cons (ps_set (i := 4) sc_w_spoilt.nd rfl (Or.inl rfl) (pe_op op_mod (pv 2) pe_int))
      (pss_cons (ps_set (i := 5) sc_w_spoilt.nd rfl (Or.inl rfl) (pe_callB (callK_len (K := K) rfl) rfl T.b_len PySem.boot_len (pa_cons (pv 1) pa_nil)))
      (pss_cons (ps_set (i := 6) sc_w_spoilt.nd rfl (Or.inl rfl) (pe_op op_mod (pe_call G_w_mix hr rfl T.w_mix.mg T.w_mix.fn.kp T.w_mix.bd .nil pass0 (pa_cons (pv 2) (pa_cons pe_int pa_nil))) (pv 5)))
      (pss_cons (ps_if (pt_cmpR op_eq (pv 3) pe_int (nomark _))
        (pss_cons (PS.join (ps_if (pt_cmpR op_eq (pv 4) pe_int (nomark _))
        (pss_one (ps_set (i := 6) sc_w_spoilt.nd rfl (Or.inl rfl) (pe_op op_mod (pv 6) pe_int))) pss_nil))
      (pss_one (ps_ret (pe_op no_cat (pe_slice (nsK_list (K := K) rfl) (pv 1) po_none (po_some (pv 6))) (pe_slice (nsK_list (K := K) rfl) (pv 1) (po_some (pe_op op_add (pv 6) pe_int)) po_none))))) pss_nil)
      (pss_cons (ps_if (pt_cmpR op_eq (pv 3) pe_int (nomark _))
        (pss_cons (ps_set (i := 6) sc_w_spoilt.nd rfl (Or.inl rfl) (pe_op op_mod (pe_call G_w_mix hr rfl T.w_mix.mg T.w_mix.fn.kp T.w_mix.bd .nil pass0 (pa_cons (pv 2) (pa_cons pe_int pa_nil))) (pe_op op_add (pv 5) pe_int)))
      (pss_cons (ps_set (i := 7) sc_w_spoilt.nd rfl (Or.inl rfl) (pe_ix (ixK_list (K := K) rfl) (ne_lst (pa_cons pe_str (pa_cons pe_str (pa_cons pe_str (pa_cons (pe_ix (ixK_list (K := K) rfl) (pv 0) pe_int (fun _ _ => rfl)) pa_nil))))) (pe_op op_mod (pe_call G_w_mix hr rfl T.w_mix.mg T.w_mix.fn.kp T.w_mix.bd .nil pass0 (pa_cons (pv 2) (pa_cons pe_int pa_nil))) (pe_op op_sub pe_int (pe_callTy call_int1 rfl T.b_int PyProof.Rows.boot_int (pa_cons (pe_cmpR op_eq (pv 4) pe_int (nomark _)) pa_nil)))) (fun _ _ => rfl)))
      (pss_one (ps_ret (pe_op no_cat (pe_op no_cat (pe_slice (nsK_list (K := K) rfl) (pv 1) po_none (po_some (pv 6))) (ne_lst (pa_cons (pv 7) pa_nil))) (pe_slice (nsK_list (K := K) rfl) (pv 1) (po_some (pv 6)) po_none)))))) pss_nil)
      (pss_cons (ps_set (i := 8) sc_w_spoilt.nd rfl (Or.inl rfl) (pe_ix (ixK_list (K := K) rfl) (ne_lst (pa_cons pe_str (pa_cons (pe_call G_w_kept hr rfl T.w_kept.mg T.w_kept.fn.kp T.w_kept.bd .nil pass0 (pa_cons (pe_call G_w_mix hr rfl T.w_mix.mg T.w_mix.fn.kp T.w_mix.bd .nil pass0 (pa_cons (pv 2) (pa_cons pe_int pa_nil))) pa_nil)) (pa_cons pe_str (pa_cons pe_str (pa_cons (pe_slice sl_str (pe_op op_add_str (pe_ix (ixK_list (K := K) rfl) (pv 0) pe_int (fun _ _ => rfl)) pe_str) po_none (po_some pe_int)) (pa_cons pe_str pa_nil))))))) (pe_op op_mod (pe_call G_w_mix hr rfl T.w_mix.mg T.w_mix.fn.kp T.w_mix.bd .nil pass0 (pa_cons (pv 2) (pa_cons pe_int pa_nil))) pe_int) (fun _ _ => rfl)))
      (pss_cons (PS.join (ps_if (PW.pt (pw_or (PW.pt (pw_and (pt_cmpR op_eq (pv 6) pe_int (nomark _)) (pw_and1 (PW.pt (pw_or (pt_cmpR op_eq (pv 4) pe_int (nomark _)) (pw_or1 (pt_cmpR op_eq (pv 4) pe_int (nomark _)))))))) (pw_or1 (PW.pt (pw_and (pt_cmpR op_eq (pv 6) pe_int (nomark _)) (pw_and1 (pt_chain op_lt op_lt pe_int (pv 4) pe_int)))))))
        (pss_one (ps_set (i := 8) sc_w_spoilt.nd rfl (Or.inl rfl) pe_str)) pss_nil))
      (pss_cons (PS.join (ps_if (PW.pt (pw_and (pt_cmpR op_eq (pv 4) pe_int (nomark _)) (pw_and1 (pt_cmpR op_eq (pv 6) pe_int (nomark _)))))
        (pss_one (ps_set (i := 8) sc_w_spoilt.nd rfl (Or.inl rfl) pe_str)) pss_nil))
      (pss_cons (PS.join (ps_if (PW.pt (pw_and (pt_cmpR op_eq (pv 4) pe_int (nomark _)) (pw_and1 (PW.pt (pw_or (pt_cmpR op_eq (pv 6) pe_int (nomark _)) (pw_or (pt_cmpR op_eq (pv 6) pe_int (nomark _)) (pw_or1 (pt_cmpR op_eq (pv 6) pe_int (nomark _)))))))))
        (pss_cons (ps_set (i := 6) sc_w_spoilt.nd rfl (Or.inl rfl) pe_int)
      (pss_one (ps_set (i := 8) sc_w_spoilt.nd rfl (Or.inl rfl) (pe_ix (ixK_list (K := K) rfl) (ne_lst (pa_cons pe_str (pa_cons pe_str (pa_cons pe_str (pa_cons pe_str (pa_cons (pe_op op_mul_str pe_str pe_int) pa_nil)))))) (pe_op op_mod (pe_call G_w_mix hr rfl T.w_mix.mg T.w_mix.fn.kp T.w_mix.bd .nil pass0 (pa_cons (pv 2) (pa_cons pe_int pa_nil))) pe_int) (fun _ _ => rfl))))) pss_nil))
      (pss_one (ps_ret (pe_op no_cat (pe_op no_cat (pe_slice (nsK_list (K := K) rfl) (pv 1) po_none (po_some (pv 6))) (ne_lst (pa_cons (pv 8) pa_nil))) (pe_slice (nsK_list (K := K) rfl) (pv 1) (po_some (pe_op op_add (pv 6) pe_int)) po_none))))))))))))))), ?_⟩
  have nl := hN.len
  have wl' := g.len
  walk_at "rd"
  refine ite2 (fun h1 => ?_) (fun h1 => ?_)
  · walk_at "rd"
    refine ⟨lw, _, rfl, .inl (SqL.of hW), ?_⟩
    intro l H1 s1 h1 e1
    exact kk l ws H1 s1 h1 e1 g.self
  walk_at "rd"
  refine ⟨lw, _, rfl, .inl (SqL.of hW), ?_⟩
  rw [List.length_map]
  have b0 : 0 ≤ mixF c 20 % (ws.length : Int) := Int.emod_nonneg _ (by omega)
  have b1 : mixF c 20 % (ws.length : Int) < ws.length := Int.emod_lt_of_pos _ (by omega)
  walk_at "rd"
  refine ite2 (fun h3 => ?_) (fun h3 => ?_)
  · refine ⟨fun σ' H2 => (∃ i : Int, σ' = [some (.ref a), some (.ref lw), some (.int c), some (.int (c / 8 % 6)), some (.int (c % 8)), some (.int ws.length), some (.int i), none, none] ∧ H2 = H ∧ 0 ≤ i ∧ i < ws.length ∧ (c % 8 = 6 → i < 3)) ∨ False, ?_, ?_⟩
    · walk_at "rd"
      refine ite2 (fun h4 => ?_) (fun h4 => .inl ⟨_, rfl, rfl, b0, b1, fun q => absurd (int_y q) h4⟩)
      walk_at "rd"
      refine .inl ⟨_, rfl, rfl, ?_, ?_, fun _ => ?_⟩
      · show 0 ≤ mixF c 20 % (ws.length : Int) % 3
        omega
      · show mixF c 20 % (ws.length : Int) % 3 < ws.length
        omega
      · show mixF c 20 % (ws.length : Int) % 3 < 3
        omega
    intro σ' H1 q
    obtain ⟨i, rfl, rfl, i0, i1, i6⟩ := q.resolve_right fun z => z
    clear q
    walk_at "rd"
    intro l1 H2 s2 h2 e2
    replace e2 : H2 l1 = some (.lst ((ws.take i.toNat).map V.str)) := by rw [← cut_takeI V.str ws i0]; exact e2
    walk_at "rd"
    intro l2 H3 s3 h3' e3
    replace e3 : H3 l2 = some (.lst ((ws.drop (i.toNat + 1)).map V.str)) := by
      rw [show i.toNat + 1 = (i + 1).toNat by omega, ← cut_dropI V.str ws (show 0 ≤ i + 1 by omega)]; exact e3
    refine ⟨l1, l2, _, _, rfl, rfl, s3 _ _ e2, e3, small1000' (by rw [List.length_map, List.length_map, List.length_take, List.length_drop]; omega), ?_⟩
    intro l3 H4 s4 h4 e4
    rw [← List.map_append] at e4
    exact kk l3 _ H4 ((s2.trans s3).trans s4) ((s2.trans s3).free h4) e4 (sp3 g (by omega) fun q => by have := i6 q; omega)
  walk_at "rd"
  refine ite2 (fun h4 => ?_) (fun h4 => ?_)
  · have d0 : 0 ≤ mixF c 21 % ((ws.length : Int) + 1) := Int.emod_nonneg _ (by omega)
    have d1 : mixF c 21 % ((ws.length : Int) + 1) < (ws.length : Int) + 1 := Int.emod_lt_of_pos _ (by omega)
    walk_at "rd"
    intro lm H1 s1 hlm e1
    have e1' : H1 lm = some (.lst ((["", "may", "any", ns.getD 15 ""] : List Str).map V.str)) := e1
    clear e1
    walk_at "rd"
    refine .inr ⟨_, rfl, _, _, rfl, rfl, _, _, rfl, rfl, four_pos _, lm, _, _, _, rfl, rfl, SqL.of e1', atI_str' (four_ix c _).1 (by show _ < (((["", "may", "any", ns.getD 15 ""] : List Str).length : Nat) : Int); exact (four_ix c _).2.1), ?_⟩
    obtain ⟨k, r1, r2, r3, r4, r5⟩ := more_ok (n := ns.getD 15 "") (hN.get (i := 15) (by decide) (by decide)) (j := (mixF c 22 % (4 - (if decide (V.int (c % 8) = V.int 6) = true then (1 : Int) else 0))).toNat) (by have := four_ix c (decide (V.int (c % 8) = V.int 6)); omega)
    have h6 : c % 8 = 6 → k ≠ 0 := fun q => r3 (by
      rw [if_pos (int_y q)]
      have := Int.emod_lt_of_pos (mixF c 22) (show (0 : Int) < 4 - 1 by decide)
      omega)
    show gName 7 (V.str ((["", "may", "any", ns.getD 15 ""] : List Str).getD (mixF c 22 % (4 - (if decide (V.int (c % 8) = V.int 6) = true then (1 : Int) else 0))).toNat "")) _ _ _
    generalize ((["", "may", "any", ns.getD 15 ""] : List Str).getD (mixF c 22 % (4 - (if decide (V.int (c % 8) = V.int 6) = true then (1 : Int) else 0))).toNat "") = mo at r1 r4 r5 ⊢
    have hW1 := s1 _ _ hW
    clear e1' hW
    walk_at "rd"
    intro l1 H2 s2 h2 e2
    replace e2 : H2 l1 = some (.lst ((ws.take (mixF c 21 % ((ws.length : Int) + 1)).toNat).map V.str)) := by rw [← cut_takeI V.str ws d0]; exact e2
    walk_at "rd"
    intro l2 H3 s3 h3' e3
    refine ⟨l1, l2, _, _, rfl, rfl, s3 _ _ e2, e3, small1000' (by rw [List.length_map, List.length_take]; show _ + 1 ≤ 1000; omega), ?_⟩
    intro l3 H4 s4 h4 e4
    have hW4 := s4 _ _ (s3 _ _ (s2 _ _ hW1))
    clear hW1 e2 e3
    walk_at "rd"
    intro l5 H5 s5 h5 e5
    replace e5 : H5 l5 = some (.lst ((ws.drop (mixF c 21 % ((ws.length : Int) + 1)).toNat).map V.str)) := by rw [← cut_dropI V.str ws d0]; exact e5
    refine ⟨l3, l5, _, _, rfl, rfl, s5 _ _ e4, e5, small1000' (by rw [List.length_append, List.length_map, List.length_map, List.length_take, List.length_drop]; show _ + 1 + _ ≤ 1000; omega), ?_⟩
    intro l6 H6 s6 h6' e6
    have sA := (((s1.trans s2).trans s3).trans s4).trans s5
    refine kk l6 (ws.take (mixF c 21 % ((ws.length : Int) + 1)).toNat ++ [mo] ++ ws.drop (mixF c 21 % ((ws.length : Int) + 1)).toNat) H6 (sA.trans s6) (sA.free h6') ?_ (sp4 g (by omega) r1 r2 h6 r4 r5)
    rw [List.map_append, List.map_append]
    exact e6
  walk_at "rd"
  intro x5 H1 hx5 s1
  have hA1 := seqS hA s1
  have hn0 := hN.get (i := 0) (by decide) (by decide)
  have hn0l : (ns.getD (Int.toNat 0) "").length ≤ 8 := (name_good hn0).2.1
  have h8l : (Str.ofString "abcdefgh").length = 8 := eight.1
  walk_at "rd"
  intro lb H2 s2 hlb e2
  have e2' : H2 lb = some (.lst ((["", x5, "aB", "a1", Txt.slice (ns.getD (Int.toNat 0) "" ++ "abcdefgh") none (some 9), "-"] : List Str).map V.str)) := e2
  clear e2
  have f0 : 0 ≤ mixF c 23 % 6 := Int.emod_nonneg _ (by decide)
  have f1 : mixF c 23 % 6 < 6 := Int.emod_lt_of_pos _ (by decide)
  have hb := bads_ok hn0 hx5 (j := (mixF c 23 % 6).toNat) (by omega)
  refine ⟨_, rfl, c, 23, rfl, by decide, by decide, _, _, rfl, rfl, (by show (0 : Int) < 6; decide), lb, _, _, _, rfl, rfl, SqL.of e2', atI_str' f0 (by show _ < ((6 : Nat) : Int); omega), ?_⟩
  generalize ((["", x5, "aB", "a1", Txt.slice (ns.getD (Int.toNat 0) "" ++ "abcdefgh") none (some 9), "-"] : List Str).getD (mixF c 23 % 6).toNat "") = ba at hb ⊢
  have hW2 := s2 _ _ (s1 _ _ hW)
  have sA := s1.trans s2
  clear e2' hA1 hW s1 s2
  have hwh : Bad "whole" ∧ Rt 2 "whole" := ⟨odd_bad' (x := "whole") (by decide +kernel) (by decide +kernel), (odd_bad (x := "whole") (by decide +kernel) (by decide +kernel)).1⟩
  refine ⟨fun σ' H3 => (∃ b : Str, σ' = [some (.ref a), some (.ref lw), some (.int c), some (.int (c / 8 % 6)), some (.int (c % 8)), some (.int ws.length), some (.int (mixF c 20 % (ws.length : Int))), none, some (.str b)] ∧ H3 = H2 ∧ Bad b ∧ ((mixF c 20 % (ws.length : Int) = 0 ∧ (c % 8 = 5 ∨ c % 8 = 7)) ∨ (mixF c 20 % (ws.length : Int) = 1 ∧ 0 < c % 8 ∧ c % 8 < 4) → Rt 2 b)) ∨ False, ?_, ?_⟩
  · have yes : (∃ b : Str, [some (.ref a), some (.ref lw), some (.int c), some (.int (c / 8 % 6)), some (.int (c % 8)), some (.int ws.length), some (.int (mixF c 20 % (ws.length : Int))), none, some (.str "whole")] = [some (.ref a), some (.ref lw), some (.int c), some (.int (c / 8 % 6)), some (.int (c % 8)), some (.int ws.length), some (.int (mixF c 20 % (ws.length : Int))), none, some (V.str b)] ∧ H2 = H2 ∧ Bad b ∧ ((mixF c 20 % (ws.length : Int) = 0 ∧ (c % 8 = 5 ∨ c % 8 = 7)) ∨ (mixF c 20 % (ws.length : Int) = 1 ∧ 0 < c % 8 ∧ c % 8 < 4) → Rt 2 b)) ∨ False := .inl ⟨_, rfl, rfl, hwh.1, fun _ => hwh.2⟩
    have no : ¬ ((mixF c 20 % (ws.length : Int) = 0 ∧ (c % 8 = 5 ∨ c % 8 = 7)) ∨ (mixF c 20 % (ws.length : Int) = 1 ∧ 0 < c % 8 ∧ c % 8 < 4)) → (∃ b : Str, [some (.ref a), some (.ref lw), some (.int c), some (.int (c / 8 % 6)), some (.int (c % 8)), some (.int ws.length), some (.int (mixF c 20 % (ws.length : Int))), none, some (V.str ba)] = [some (.ref a), some (.ref lw), some (.int c), some (.int (c / 8 % 6)), some (.int (c % 8)), some (.int ws.length), some (.int (mixF c 20 % (ws.length : Int))), none, some (V.str b)] ∧ H2 = H2 ∧ Bad b ∧ ((mixF c 20 % (ws.length : Int) = 0 ∧ (c % 8 = 5 ∨ c % 8 = 7)) ∨ (mixF c 20 % (ws.length : Int) = 1 ∧ 0 < c % 8 ∧ c % 8 < 4) → Rt 2 b)) ∨ False := fun q => .inl ⟨_, rfl, rfl, hb, fun z => absurd z q⟩
    walk_at "rd"
    refine ite2 (fun h5 => ?_) (fun h5 => ?_)
    · replace h5 := int_x h5
      walk_at "rd"
      refine ite2 (fun h6 => yes) (fun h6 => ?_)
      walk_at "rd"
      refine ite2 (fun h7 => yes) (fun h7 => ?_)
      walk_at "rd"
      have h6' : c % 8 ≠ 5 := fun q => h6 (int_y q)
      have h7' : c % 8 ≠ 7 := fun q => h7 (int_y q)
      refine ite2 (fun h8 => ?_) (fun h8 => no (by omega))
      replace h8 := int_x h8
      omega
    · have h5' : mixF c 20 % (ws.length : Int) ≠ 0 := fun q => h5 (int_y q)
      walk_at "rd"
      refine ite2 (fun h8 => ?_) (fun h8 => no (fun q => h8 (int_y (by omega))))
      replace h8 := int_x h8
      walk_at "rd"
      refine ite2 (fun h9 => ?_) (fun h9 => ?_)
      · walk_at "rd"
        refine ite2 (fun h10 => yes) (fun h10 => no ?_)
        have : ¬ c % 8 < 4 := fun q => h10 (decide_eq_true q)
        omega
      · have : ¬ 0 < c % 8 := fun q => h9 (decide_eq_true q)
        walk_at "rd"
        exact no (by omega)
  intro σ' H3 q
  obtain ⟨b, rfl, rfl, hb1, hb2⟩ := q.resolve_right fun z => z
  clear q
  have han : Bad "any" ∧ Rt 3 "any" := by
    have h := wl (x := "any") (k := 0) rfl
    exact ⟨⟨⟨3, by simp, h.rt⟩, h.wk, by have := h.len; omega⟩, h.rt⟩
  generalize hat : mixF c 20 % (ws.length : Int) = at' at *
  refine ⟨fun σ' H2 => (∃ b : Str, σ' = [some (.ref a), some (.ref lw), some (.int c), some (.int (c / 8 % 6)), some (.int (c % 8)), some (.int ws.length), some (.int at'), none, some (.str b)] ∧ H2 = H3 ∧ Bad b ∧ ((at' = 0 ∧ (c % 8 = 5 ∨ c % 8 = 7)) ∨ (at' = 1 ∧ 0 < c % 8 ∧ c % 8 < 4) → Rt 2 b) ∧ (c % 8 = 0 ∧ at' = 1 → Rt 3 b)) ∨ False, ?_, ?_⟩
  · walk_at "rd"
    refine ite2 (fun h5 => ?_) (fun h5 => .inl ⟨_, rfl, rfl, hb1, hb2, fun q => absurd (int_y q.1) h5⟩)
    replace h5 := int_x h5
    walk_at "rd"
    refine ite2 (fun h6 => ?_) (fun h6 => .inl ⟨_, rfl, rfl, hb1, hb2, fun q => absurd (int_y q.2) h6⟩)
    replace h6 := int_x h6
    walk_at "rd"
    exact .inl ⟨_, rfl, rfl, han.1, fun q => by omega, fun _ => han.2⟩
  intro σ' H2' q
  obtain ⟨b', rfl, rfl, hb3, hb4, hb5⟩ := q.resolve_right fun z => z
  clear q hb1 hb2
  refine ⟨fun σ' H4 => (∃ (b : Str) (i : Int), σ' = [some (.ref a), some (.ref lw), some (.int c), some (.int (c / 8 % 6)), some (.int (c % 8)), some (.int ws.length), some (.int i), none, some (.str b)] ∧ Same H2' H4 ∧ Bad b ∧ 0 ≤ i ∧ i < ws.length ∧ ((i = 0 ∧ (c % 8 = 5 ∨ c % 8 = 7)) ∨ (i = 1 ∧ 0 < c % 8 ∧ c % 8 < 4) → Rt 2 b) ∧ (c % 8 = 0 ∧ i = 1 → Rt 3 b) ∧ ¬ (c % 8 = 0 ∧ (i = 0 ∨ i = 2 ∨ i = 3))) ∨ False, ?_, ?_⟩
  · have no : ¬ (c % 8 = 0 ∧ (at' = 0 ∨ at' = 2 ∨ at' = 3)) → (∃ (b : Str) (i : Int), [some (.ref a), some (.ref lw), some (.int c), some (.int (c / 8 % 6)), some (.int (c % 8)), some (.int ws.length), some (.int at'), none, some (.str b')] = [some (.ref a), some (.ref lw), some (.int c), some (.int (c / 8 % 6)), some (.int (c % 8)), some (.int ws.length), some (.int i), none, some (V.str b)] ∧ Same H2' H2' ∧ Bad b ∧ 0 ≤ i ∧ i < ws.length ∧ ((i = 0 ∧ (c % 8 = 5 ∨ c % 8 = 7)) ∨ (i = 1 ∧ 0 < c % 8 ∧ c % 8 < 4) → Rt 2 b) ∧ (c % 8 = 0 ∧ i = 1 → Rt 3 b) ∧ ¬ (c % 8 = 0 ∧ (i = 0 ∨ i = 2 ∨ i = 3))) ∨ False := fun q => .inl ⟨_, _, rfl, Same.refl _, hb3, b0, b1, hb4, hb5, q⟩
    have f2 : 0 ≤ mixF c 24 % 5 := Int.emod_nonneg _ (by decide)
    have f3 : mixF c 24 % 5 < 5 := Int.emod_lt_of_pos _ (by decide)
    have hnb := nums_bad (j := (mixF c 24 % 5).toNat) (by omega)
    walk_at "rd"
    refine ite2 (fun h5 => ?_) (fun h5 => no fun q => h5 (int_y q.1))
    replace h5 := int_x h5
    walk_at "rd"
    refine ite2 (fun h6 => ?_) (fun h6 => ?_)
    rotate_left
    walk_at "rd"
    refine ite2 (fun h7 => ?_) (fun h7 => ?_)
    rotate_left
    walk_at "rd"
    refine ite2 (fun h8 => ?_) (fun h8 => no fun q => q.2.elim (fun z => h6 (int_y z)) (fun z => z.elim (fun z => h7 (int_y z)) (fun z => h8 (int_y z))))
    all_goals
      walk_at "rd"
      intro ln H4 s4 h4 e4
      have e4' : H4 ln = some (.lst (nums5.map V.str)) := e4
      clear e4
      have hl8 := wl'.2.2 h5
      refine ⟨_, rfl, c, 24, rfl, by decide, by decide, _, _, rfl, rfl, (by show (0 : Int) < 5; decide), ln, _, _, _, rfl, rfl, SqL.of e4', atI_str' f2 (by rw [nums_len]; omega), ?_⟩
      generalize nums5.getD (mixF c 24 % 5).toNat "" = z at hnb ⊢
      exact .inl ⟨z, 5, rfl, s4, hnb.1, by decide, by omega, fun _ => hnb.2, fun q => by omega, fun q => by omega⟩
  intro σ' H4 q
  obtain ⟨b2, i, rfl, s4, hb6, i0, i1, hb7, hb8, hb9⟩ := q.resolve_right fun z => z
  clear q hb3 hb4 hb5
  have hW4 := s4 _ _ hW2
  obtain ⟨k, k1, k2, k3⟩ := choose5 i0 (fun q => by have := wl'.2.2 q; omega) hb6 hb7 hb8 hb9
  clear hW2
  walk_at "rd"
  intro l1 H5 s5 h5 e5
  replace e5 : H5 l1 = some (.lst ((ws.take i.toNat).map V.str)) := by rw [← cut_takeI V.str ws i0]; exact e5
  walk_at "rd"
  intro l2 H6 s6 h6 e6
  refine ⟨l1, l2, _, _, rfl, rfl, s6 _ _ e5, e6, small1000' (by rw [List.length_map, List.length_take]; show _ + 1 ≤ 1000; omega), ?_⟩
  intro l3 H7 s7 h7 e7
  have hW7 := s7 _ _ (s6 _ _ (s5 _ _ hW4))
  clear hW4 e5 e6
  walk_at "rd"
  intro l5 H8 s8 h8 e8
  replace e8 : H8 l5 = some (.lst ((ws.drop (i.toNat + 1)).map V.str)) := by
    rw [show i.toNat + 1 = (i + 1).toNat by omega, ← cut_dropI V.str ws (show 0 ≤ i + 1 by omega)]; exact e8
  refine ⟨l3, l5, _, _, rfl, rfl, s8 _ _ e7, e8, small1000' (by rw [List.length_append, List.length_map, List.length_map, List.length_take, List.length_drop]; show _ + 1 + _ ≤ 1000; omega), ?_⟩
  intro l6 H9 s9 h9 e9
  have sB := ((((sA.trans s4).trans s5).trans s6).trans s7).trans s8
  refine kk l6 (ws.take i.toNat ++ [b2] ++ ws.drop (i.toNat + 1)) H9 (sB.trans s9) (sB.free h9) ?_ (sp5 g (by omega) k2 k1 k3 hb6.wk hb6.len)
  rw [List.map_append, List.map_append]
  exact e9


/-! ### _law_names_right -/
end
def b5 : List Str := ["", "in", "aB", "any", "a-"]
theorem b5_len : b5.length = 5 := rfl
theorem b5_ok : ∀ x ∈ b5, nameB x = false ∧ (∀ c ∈ x.cps.toList, c < 128) ∧ 32 ∉ x.cps.toList ∧ x.length ≤ 8 := by decide +kernel
def w3 : List Str := ["parties", "acts", "in"]
theorem w3_ok : ∀ x ∈ w3, (∀ c ∈ x.cps.toList, c < 128) ∧ 32 ∉ x.cps.toList ∧ x.length ≤ 8 := by decide +kernel
theorem w3_ne : ("parties" : Str) ≠ "acts" ∧ ("acts" : Str) ≠ "in" ∧ ("in" : Str) ≠ "parties" := by decide +kernel
theorem word4 {n m : Str} (hn : nameB n = true) (hne : m ≠ n) {j : Nat} (hj : j < 4) : Wk ((["parties", "acts", "in", n] : List Str).getD j "") ∧ ((["parties", "acts", "in", n] : List Str).getD j "").length ≤ 8 ∧ ((["parties", "acts", "in", n] : List Str).getD j "") ≠ ((["acts", "in", "parties", m] : List Str).getD j "") := by
  have h3 : ∀ x ∈ w3, Wk x ∧ x.length ≤ 8 := fun x hx => ⟨⟨(w3_ok x hx).1, (w3_ok x hx).2.1⟩, (w3_ok x hx).2.2⟩
  obtain ⟨n1, n2, n3⟩ := w3_ne
  have hj' : j = 0 ∨ j = 1 ∨ j = 2 ∨ j = 3 := by omega
  rcases hj' with rfl | rfl | rfl | rfl
  · have := h3 "parties" (by decide +kernel)
    exact ⟨this.1, this.2, n1⟩
  · have := h3 "acts" (by decide +kernel)
    exact ⟨this.1, this.2, n2⟩
  · have := h3 "in" (by decide +kernel)
    exact ⟨this.1, this.2, n3⟩
  · have := name_good hn
    exact ⟨this.2.2, this.2.1, fun q => hne q.symm⟩
/-- a row of names, and what is told of it -/
structure NmRow (zs ds : List Str) (m : Int) : Prop where
  wk : ∀ x ∈ zs, Wk x ∧ x.length ≤ 8
  len : zs.length ≤ 15
  due : ∀ w, namesO (w :: zs) w m = ds
theorem names_good {ss : List Str} (h : ∀ x ∈ ss, nameB x = true) : ∀ x ∈ ss, Wk x ∧ x.length ≤ 8 := fun x hx => ⟨(name_good (h x hx)).2.2, (name_good (h x hx)).2.1⟩
theorem namesO_self (w : Str) (zs : List Str) (m : Int) : namesO (w :: zs) w m = if areN zs m = false then [] else zs := by
  unfold namesO
  have e : wd (w :: zs) 0 = w := rfl
  have e2 : (w :: zs).drop 1 = zs := rfl
  rw [e, e2]
  by_cases h : areN zs m = false
  · rw [if_pos (.inr h), if_pos h]
  · rw [if_neg (fun q => q.elim (fun q => q rfl) h), if_neg h]
theorem namesO_off {w o : Str} (h : w ≠ o) (zs : List Str) (m : Int) : namesO (w :: zs) o m = [] := if_pos (.inl h)
theorem nm_much {zs ds : List Str} {m : Int} (h : ∀ x ∈ zs, Wk x ∧ x.length ≤ 8) (hl : zs.length ≤ 15) (hm : m < zs.length) : NmRow zs [] m := by
  refine ⟨h, hl, fun w => ?_⟩
  rw [namesO_self]
  refine if_pos ?_
  unfold areN
  rw [decide_eq_false (show ¬ (zs.length : Int) ≤ m by omega)]
  simp
theorem nm_same {ss : List Str} {m : Int} (h : ∀ x ∈ ss, nameB x = true) (hl : ss.length ≤ 15) (hm : (ss.length : Int) ≤ m) : NmRow ss ss m := by
  refine ⟨names_good h, hl, fun w => ?_⟩
  rw [namesO_self]
  cases ss with
  | nil => rfl
  | cons x r =>
    refine if_neg ?_
    unfold areN
    rw [decide_eq_true (show 1 ≤ (x :: r).length by simp), decide_eq_true hm, List.all_eq_true.mpr h]
    simp
theorem nm_put {ss : List Str} {m : Int} {b : Str} {i : Nat} (h : ∀ x ∈ ss, nameB x = true) (hl : ss.length ≤ 14) (hb : b ∈ b5) : NmRow (ss.take i ++ b :: ss.drop i) [] m := by
  obtain ⟨b1, b2, b3, b4⟩ := b5_ok b hb
  refine ⟨fun x hx => ?_, ?_, fun w => ?_⟩
  · rcases List.mem_append.mp hx with q | q
    · exact names_good h x (List.mem_of_mem_take q)
    · rcases List.mem_cons.mp q with rfl | q
      · exact ⟨⟨b2, b3⟩, b4⟩
      · exact names_good h x (List.mem_of_mem_drop q)
  · rw [List.length_append, List.length_cons, List.length_take, List.length_drop]; omega
  · rw [namesO_self]
    refine if_pos ?_
    unfold areN
    have : (ss.take i ++ b :: ss.drop i).all nameB = false := by
      rw [List.all_append, List.all_cons, b1]
      simp
    rw [this, Bool.and_false]
theorem NmRow.ds {zs ds : List Str} {m : Int} (h : NmRow zs ds m) : ∀ x ∈ ds, asc x := by
  intro x hx
  rw [← h.due "", namesO_self] at hx
  split at hx
  · cases hx
  · exact (h.wk x hx).1.as
theorem row_ok {w : Str} {zs ds : List Str} {m : Int} (h : NmRow zs ds m) (hw : Wk w) (hl : w.length ≤ 8) : tot (w :: zs) ≤ 144 ∧ (∀ x ∈ w :: zs, 32 ∉ x.cps.toList) := by
  refine ⟨?_, fun x hx => ?_⟩
  · have := tot_le (n := 8) (ws := w :: zs) fun x hx => by
      rcases List.mem_cons.mp hx with rfl | q
      · exact hl
      · exact (h.wk x q).2
    have := h.len
    rw [List.length_cons] at *
    omega
  · rcases List.mem_cons.mp hx with rfl | q
    · exact hw.nb
    · exact (h.wk x q).1.nb
def spNR (K : PySem.W.Frag) : Sp := fun vs H Q _ => ∃ (a : Addr) (c : Int) (ns : List Str), vs = [.ref a, .int c] ∧ SqL K H a (ns.map V.str) ∧ Ns ns ∧ ns.getD 13 "" ≠ ns.getD 14 "" ∧ 0 ≤ c ∧ ∀ H', Same H H' → Q (.bl true) H'
section
variable {P : Program} {w : World} {K : PySem.W.Frag} {mg : Str → Option Value} {base : Heap} {t : Adr}
set_option maxRecDepth 1000000 in
theorem sc_w_names_right : FnScope ["_law_names", "_law_cell", "_law_word", "_law_some", "_law_most", "_law_due", "_law_row", "_law_found", "_law_other"] ["_law_names", "_law_cell"] (defScope s_w_names_right) := ⟨rfl, rfl, rfl, by decide +kernel, rfl, by decide +kernel, by decide +kernel⟩
set_option maxHeartbeats 400000 in
theorem ok_w_names_right (T : Txt K mg t) : FnOk P w K mg base CX0 5 t.f_w_names_right t.d_w_names_right ["_law_names", "_law_cell"] (spNR K) := by
  have G_w_mix : FnOk P w K mg base CX0 4 t.f_w_mix t.d_w_mix ["_law_cell", "_law_k"] spMix := (ok_w_mix T).mono (by decide)
  have G_v_names_of : FnOk P w K mg base CX0 4 t.f_v_names_of t.d_v_names_of ["row", "word", "most"] spNof := (ok_v_names_of T).mono (by decide)
  refine T.w_names_right.fn.ok sc_w_names_right (fun vs H Q E h => (by first | (obtain ⟨rfl, _⟩ := h; rfl) | (obtain ⟨_, rfl, _⟩ := h; rfl) | (obtain ⟨_, _, rfl, _⟩ := h; rfl) | (obtain ⟨_, _, _, rfl, _⟩ := h; rfl) | (obtain ⟨_, _, _, _, rfl, _⟩ := h; rfl) | (obtain ⟨_, _, _, _, _, rfl, _⟩ := h; rfl) | (obtain ⟨_, _, _, _, _, _, rfl, _⟩ := h; rfl) | (obtain ⟨_, _, _, _, _, _, _, rfl, _⟩ := h; rfl) | (obtain ⟨_, _, _, _, _, _, _, _, rfl, _⟩ := h; rfl) | (obtain ⟨_, _, _, _, _, _, _, _, _, rfl, _⟩ := h; rfl) | (obtain ⟨_, _, _, _, _, _, _, _, _, _, rfl, _⟩ := h; rfl) | (obtain ⟨_, _, _, _, _, _, _, _, _, _, _, rfl, _⟩ := h; rfl) | (obtain ⟨_, _, _, _, _, _, _, _, _, _, _, _, rfl, _⟩ := h; rfl) | (obtain ⟨_, _, _, _, _, _, _, _, _, _, _, _, _, rfl, _⟩ := h; rfl) | (obtain ⟨_, _, _, _, _, _, _, _, _, _, _, _, _, _, rfl, _⟩ := h; rfl) | (obtain ⟨_, _, _, _, _, _, _, _, _, _, _, _, _, _, _, rfl, _⟩ := h; rfl) | (obtain ⟨_, _, _, _, _, _, _, _, _, _, _, _, _, _, _, _, rfl, _⟩ := h; rfl) | (obtain ⟨_, _, _, _, _, _, _, _, _, _, _, _, _, _, _, _, _, rfl, _⟩ := h; rfl) | (obtain ⟨_, _, _, _, _, _, _, _, _, _, _, _, _, _, _, _, _, _, rfl, _⟩ := h; rfl) | (obtain ⟨_, _, _, _, _, _, _, _, _, _, _, _, _, _, _, _, _, _, _, rfl, _⟩ := h; rfl) | (obtain ⟨_, _, _, _, _, _, _, _, _, _, _, _, _, _, _, _, _, _, _, _, rfl, _⟩ := h; rfl) | (obtain ⟨_, _, _, _, _, _, _, _, _, _, _, _, _, _, _, _, _, _, _, _, _, rfl, _⟩ := h; rfl) | (obtain ⟨_, _, _, _, _, _, _, _, _, _, _, _, _, _, _, _, _, _, _, _, _, _, rfl, _⟩ := h; rfl) | (obtain ⟨_, _, _, _, _, _, _, _, _, _, _, _, _, _, _, _, _, _, _, _, _, _, _, rfl, _⟩ := h; rfl))) (fun cdv A outer s H vs Q E hr h => ?_)
  obtain ⟨a, c, ns, rfl, hA, hN, hne, c0, kk⟩ := h
  refine ⟨_, (pss_cons (ps_set (i := 2) sc_w_names_right.nd rfl (Or.inl rfl) (pe_ix (ixK_list (K := K) rfl) (ne_lst (pa_cons pe_str (pa_cons pe_str (pa_cons pe_str (pa_cons (pe_ix (ixK_list (K := K) rfl) (pv 0) pe_int (fun _ _ => rfl)) pa_nil))))) (pe_op op_mod (pe_call G_w_mix hr rfl T.w_mix.mg T.w_mix.fn.kp T.w_mix.bd .nil pass0 (pa_cons (pv 1) (pa_cons pe_int pa_nil))) pe_int) (fun _ _ => rfl)))
      (pss_cons (ps_set_lcomp (i := 3) (osc := defScope s_w_names_right) (N := ["_law_names", "_law_cell", "_law_word", "_law_some", "_law_most", "_law_due", "_law_row", "_law_found", "_law_other"]) (names := ["_law_names", "_law_cell"]) (caps := [0, 1]) rfl rfl rfl sc_w_names_right.nd ⟨rfl, by decide +kernel, by decide +kernel, by decide +kernel, rfl, rfl, by decide +kernel, by decide +kernel⟩ rfl rfl (pi_range1 rfl T.b_range (pa_cons (pe_op op_mod (pe_call G_w_mix hr rfl T.w_mix.mg T.w_mix.fn.kp T.w_mix.bd .nil pass0 (pa_cons (pv 1) (pa_cons pe_int pa_nil))) pe_int) pa_nil)) (fun _ _ _ => (pe_ix (ixK_list (K := K) rfl) (pv 1) (pe_op op_mod (pe_call G_w_mix hr rfl T.w_mix.mg T.w_mix.fn.kp T.w_mix.bd .nil pass0 (pa_cons (pv 2) (pa_cons (pe_op op_add pe_int (pv 0)) pa_nil))) pe_int) (fun _ _ => rfl))))
      (pss_cons (ps_set (i := 4) sc_w_names_right.nd rfl (Or.inl rfl) (pe_op op_add pe_int (pe_op op_mod (pe_call G_w_mix hr rfl T.w_mix.mg T.w_mix.fn.kp T.w_mix.bd .nil pass0 (pa_cons (pv 1) (pa_cons pe_int pa_nil))) pe_int)))
      (pss_cons (ps_set (i := 5) sc_w_names_right.nd rfl (Or.inl rfl) (pe_callTy (ncK_list (K := K) rfl) rfl T.b_list PyProof.Rows.boot_list (pa_cons (pv 3) pa_nil)))
      (pss_cons (PS.join (ps_if (pt_cmpR op_eq (pe_op op_mod (pe_call G_w_mix hr rfl T.w_mix.mg T.w_mix.fn.kp T.w_mix.bd .nil pass0 (pa_cons (pv 1) (pa_cons pe_int pa_nil))) pe_int) pe_int (nomark _))
        (pss_cons (ps_expr (pe_bm PySem.F.plainAttrs_list PySem.F.slot_list_insert PySem.F.type_list_insert nm_insert (pv 3) (pa_cons (pe_op op_mod (pe_call G_w_mix hr rfl T.w_mix.mg T.w_mix.fn.kp T.w_mix.bd .nil pass0 (pa_cons (pv 1) (pa_cons pe_int pa_nil))) (pe_op op_add (pe_callB (callK_len (K := K) rfl) rfl T.b_len PySem.boot_len (pa_cons (pv 3) pa_nil)) pe_int)) (pa_cons (pe_ix (ixK_list (K := K) rfl) (ne_lst (pa_cons pe_str (pa_cons pe_str (pa_cons pe_str (pa_cons pe_str (pa_cons pe_str pa_nil)))))) (pe_op op_mod (pe_call G_w_mix hr rfl T.w_mix.mg T.w_mix.fn.kp T.w_mix.bd .nil pass0 (pa_cons (pv 1) (pa_cons pe_int pa_nil))) pe_int) (fun _ _ => rfl)) pa_nil))))
      (pss_one (ps_set (i := 5) sc_w_names_right.nd rfl (Or.inl rfl) (ne_lst pa_nil) sw_list))) pss_nil))
      (pss_cons (PS.join (ps_if (pt_cmpR op_gt (pe_callB (callK_len (K := K) rfl) rfl T.b_len PySem.boot_len (pa_cons (pv 3) pa_nil)) (pv 4) (nomark _))
        (pss_one (ps_set (i := 5) sc_w_names_right.nd rfl (Or.inl rfl) (ne_lst pa_nil) sw_list)) pss_nil))
      (pss_cons (ps_set (i := 6) sc_w_names_right.nd rfl (Or.inl rfl) (pe_bm PySem.F.plainAttrs_str PySem.F.slot_str_join PySem.F.type_str_join (mtK_join (K := K) rfl) pe_str (pa_cons (pe_op no_cat (ne_lst (pa_cons (pv 2) pa_nil)) (pv 3)) pa_nil)))
      (pss_cons (ps_set (i := 7) sc_w_names_right.nd rfl (Or.inl rfl) (pe_call G_v_names_of hr rfl T.v_names_of.mg T.v_names_of.fn.kp T.v_names_of.bd .nil pass0 (pa_cons (pv 6) (pa_cons (pv 2) (pa_cons (pv 4) pa_nil)))))
      (pss_cons (ps_if (PW.pt (pw_or (pt_not (pt_val (pe_callB (callK_isinst (K := K) rfl) rfl T.b_isinstance PyProof.Rows.boot_isinstance (pa_cons (pv 7) (pa_cons (pe_bltn rfl T.b_list PyProof.Rows.boot_list (v := .ty "list") rfl) pa_nil))))) (pw_or1 (pt_cmpR (opK_neD (K := K) rfl hr.units) (pv 7) (pv 5) (nomark _)))))
        (pss_one (ps_ret pe_bl)) pss_nil)
      (pss_cons (ps_expr (pe_bm PySem.F.plainAttrs_list PySem.F.slot_list_append PySem.F.type_list_append nm_append (pv 7) (pa_cons pe_str pa_nil)))
      (pss_cons (ps_set (i := 8) sc_w_names_right.nd rfl (Or.inl rfl) (pe_ix (ixK_list (K := K) rfl) (ne_lst (pa_cons pe_str (pa_cons pe_str (pa_cons pe_str (pa_cons (pe_ix (ixK_list (K := K) rfl) (pv 0) pe_int (fun _ _ => rfl)) pa_nil))))) (pe_op op_mod (pe_call G_w_mix hr rfl T.w_mix.mg T.w_mix.fn.kp T.w_mix.bd .nil pass0 (pa_cons (pv 1) (pa_cons pe_int pa_nil))) pe_int) (fun _ _ => rfl)))
      (pss_one (ps_ret (pe_and (pe_cmpR (opK_eqD (K := K) rfl hr.units) (pe_call G_v_names_of hr rfl T.v_names_of.mg T.v_names_of.fn.kp T.v_names_of.bd .nil pass0 (pa_cons (pv 6) (pa_cons (pv 8) (pa_cons pe_int pa_nil)))) (ne_lst pa_nil) (nomark _)) (pe_one (pe_cmpR (opK_eqD (K := K) rfl hr.units) (pe_call G_v_names_of hr rfl T.v_names_of.mg T.v_names_of.fn.kp T.v_names_of.bd .nil pass0 (pa_cons (pv 6) (pa_cons (pv 2) (pa_cons (pv 4) pa_nil)))) (pv 5) (nomark _))))))))))))))))), ?_⟩
  have nl := hN.len
  have q0 : 0 ≤ mixF c 30 % 4 := Int.emod_nonneg _ (by decide)
  have q1 : mixF c 30 % 4 < 4 := Int.emod_lt_of_pos _ (by decide)
  have hw4 := word4 (hN.get (i := 14) (by decide) (by decide)) hne (j := (mixF c 30 % 4).toNat) (by omega)
  walk_at "rd"
  intro l1 H1 s1 h1 e1
  have e1' : H1 l1 = some (.lst ((["parties", "acts", "in", ns.getD 14 ""] : List Str).map V.str)) := e1
  clear e1
  refine ⟨_, rfl, c, 30, rfl, by decide, by decide, _, _, rfl, rfl, (by show (0 : Int) < 4; decide), l1, _, _, _, rfl, rfl, SqL.of e1', atI_str' q0 (by show _ < ((4 : Nat) : Int); omega), ?_⟩
  obtain ⟨wk1, wk2, wk3⟩ := hw4
  have hn14 : ∀ q : Str → Prop, q ((["parties", "acts", "in", ns.getD 14 ""] : List Str).getD (mixF c 30 % 4).toNat "") → q ((["parties", "acts", "in", ns.getD (Int.toNat 14) ""] : List Str).getD (mixF c 30 % 4).toNat "") := fun q h => h
  replace wk1 : Wk ((["parties", "acts", "in", ns.getD 14 ""] : List Str).getD (mixF c 30 % 4).toNat "") := wk1
  replace wk2 : ((["parties", "acts", "in", ns.getD 14 ""] : List Str).getD (mixF c 30 % 4).toNat "").length ≤ 8 := wk2
  replace wk3 : ((["parties", "acts", "in", ns.getD 14 ""] : List Str).getD (mixF c 30 % 4).toNat "") ≠ ((["acts", "in", "parties", ns.getD 13 ""] : List Str).getD (mixF c 30 % 4).toNat "") := wk3
  show gName 2 (V.str ((["parties", "acts", "in", ns.getD 14 ""] : List Str).getD (mixF c 30 % 4).toNat "")) _ _ _
  clear hn14
  generalize ((["parties", "acts", "in", ns.getD 14 ""] : List Str).getD (mixF c 30 % 4).toNat "") = wo at wk1 wk2 wk3 ⊢
  have hA1 := seqS hA s1
  have hAx : ∀ H', Same H H' → SqL K H' a (ns.map V.str) := fun _ s => seqS hA s
  have b0 : 0 ≤ mixF c 50 % 15 := Int.emod_nonneg _ (by decide)
  have b1 : mixF c 50 % 15 < 15 := Int.emod_lt_of_pos _ (by decide)
  clear hA e1'
  walk_at "rd"
  refine comp_seq (seqj_range (lo := 0) (n := (mixF c 50 % 15).toNat)) (fun _ _ v => ∃ x, v = V.str x ∧ nameB x = true) (line_small (by rw [List.length_map, List.length_range]; omega)) ?_ ?_
  · intro i y H' Q' hy' s' k2
    obtain ⟨hi, rfl⟩ := rng_of hy'
    have hA' := seqS hA1 s'
    have b2 : 0 ≤ mixF c (31 + (0 + (i : Int))) % 16 := Int.emod_nonneg _ (by decide)
    have b3 : mixF c (31 + (0 + (i : Int))) % 16 < 16 := Int.emod_lt_of_pos _ (by decide)
    walk_at "rd"
    exact k2 _ _ (Same.refl _) ⟨_, rfl, hN.get b2 b3⟩
  intro ls H2 ys s2 hls e2 hlen hp
  rw [List.length_map, List.length_range] at hlen
  obtain ⟨ss, rfl, hss⟩ := strs_of (fun z => nameB z = true) ys fun v hv => by
    obtain ⟨i, hi, e⟩ := List.getElem_of_mem hv
    exact hp i (V.int (0 + (i : Int))) v (by rw [List.getElem?_map, List.getElem?_range (by omega)]; rfl) (by rw [List.getElem?_eq_getElem hi, e])
  rw [List.length_map] at hlen
  clear hp
  have hls0 := s1.free hls
  have hA2 := seqS hA1 s2
  clear hA1
  have m0 : 0 ≤ mixF c 51 % 14 := Int.emod_nonneg _ (by decide)
  have m1 : mixF c 51 % 14 < 14 := Int.emod_lt_of_pos _ (by decide)
  walk_at "rd"
  refine ⟨ls, _, rfl, .inl (SqL.of e2), ?_⟩
  intro ld H3 s3 hld e3
  have e3' := s3 _ _ e2
  have hA3 := seqS hA2 s3
  have sA := (s1.trans s2).trans s3
  have nld : ls ≠ ld := ne_of_none e2 hld
  have hldH : H ld = none := (s1.trans s2).free hld
  clear e2 hA2 s1 s2 s3
  refine ⟨fun σ' H4 => (∃ (zs ds : List Str) (ld : Addr), σ' = [some (.ref a), some (.int c), some (.str wo), some (.ref ls), some (.int (1 + mixF c 51 % 14)), some (.ref ld), none, none, none] ∧ Same H H4 ∧ SqL K H4 a (ns.map V.str) ∧ H4 ls = some (.lst (zs.map V.str)) ∧ H4 ld = some (.lst (ds.map V.str)) ∧ H ld = none ∧ ls ≠ ld ∧ ((zs = ss ∧ ds = ss) ∨ ((∀ m, NmRow zs [] m) ∧ ds = []))) ∨ False, ?_, ?_⟩
  · walk_at "rd"
    refine ite2 (fun h5 => ?_) (fun h5 => .inl ⟨ss, ss, ld, rfl, sA, hA3, e3', e3, hldH, nld, .inl ⟨rfl, rfl⟩⟩)
    walk_at "rd"
    refine ⟨ls, _, rfl, .inl (SqL.of e3'), ?_⟩
    rw [List.length_map]
    have i0 : 0 ≤ mixF c 53 % ((ss.length : Int) + 1) := Int.emod_nonneg _ (by omega)
    have i1 : mixF c 53 % ((ss.length : Int) + 1) < (ss.length : Int) + 1 := Int.emod_lt_of_pos _ (by omega)
    have j0 : 0 ≤ mixF c 54 % 5 := Int.emod_nonneg _ (by decide)
    have j1 : mixF c 54 % 5 < 5 := Int.emod_lt_of_pos _ (by decide)
    walk_at "rd"
    intro lb H4 s4 h4 e4
    have e4' : H4 lb = some (.lst (b5.map V.str)) := e4
    clear e4
    refine ⟨_, rfl, c, 54, rfl, by decide, by decide, _, _, rfl, rfl, (by show (0 : Int) < 5; decide), lb, _, _, _, rfl, rfl, SqL.of e4', atI_str' j0 (by rw [b5_len]; omega), ?_⟩
    have hb5 : b5.getD (mixF c 54 % 5).toNat "" ∈ b5 := getD_in (by rw [b5_len]; omega)
    generalize b5.getD (mixF c 54 % 5).toNat "" = bb at hb5 ⊢
    refine ⟨ls, _, _, _, rfl, rfl, s4 _ _ e3', i0, (by rw [List.length_map]; omega), (by rw [List.length_map]; exact small1000 (by omega)), ?_⟩
    intro H5 k5 e5
    have s5 : Same H H5 := k5.put (sA.trans s4) hls0
    clear hA3 e3 e3'
    walk_at "rd"
    intro le H6 s6 h6 e6
    have e5' : H5 ls = some (.lst ((ss.take (mixF c 53 % ((ss.length : Int) + 1)).toNat ++ bb :: ss.drop (mixF c 53 % ((ss.length : Int) + 1)).toNat).map V.str)) := by
      rw [List.map_append, List.map_cons, List.map_take, List.map_drop]; exact e5
    exact .inl ⟨_, [], le, rfl, s5.trans s6, hAx _ (s5.trans s6), s6 _ _ e5', e6, s5.free h6, ne_of_none e5 h6, .inr ⟨fun m => nm_put hss (by omega) hb5, rfl⟩⟩
  intro σ' H4 q
  obtain ⟨zs, ds, ld, rfl, s4, hA4, e4, e5, hd4, nd4, hz⟩ := q.resolve_right fun z => z
  clear q
  refine ⟨fun σ' H5 => (∃ (ds : List Str) (ld : Addr), σ' = [some (.ref a), some (.int c), some (.str wo), some (.ref ls), some (.int (1 + mixF c 51 % 14)), some (.ref ld), none, none, none] ∧ Same H4 H5 ∧ H5 ld = some (.lst (ds.map V.str)) ∧ H ld = none ∧ ls ≠ ld ∧ NmRow zs ds (1 + mixF c 51 % 14)) ∨ False, ?_, ?_⟩
  · walk_at "rd"
    refine ⟨ls, _, rfl, .inl (SqL.of e4), ?_⟩
    rw [List.length_map]
    walk_at "rd"
    refine ite2 (fun h5 => ?_) (fun h5 => ?_)
    · have h5' : 1 + mixF c 51 % 14 < (zs.length : Int) := of_decide_eq_true h5
      clear e5
      walk_at "rd"
      intro le H6 s6 h6 e6
      refine .inl ⟨[], le, rfl, s6, e6, s4.free h6, ne_of_none e4 h6, ?_⟩
      rcases hz with ⟨rfl, _⟩ | ⟨hz, _⟩
      · exact nm_much (ds := []) (names_good hss) (by omega) h5'
      · exact hz _
    · have h5' : ¬ 1 + mixF c 51 % 14 < (zs.length : Int) := fun q => h5 (decide_eq_true q)
      refine .inl ⟨ds, ld, rfl, Same.refl _, e5, hd4, nd4, ?_⟩
      rcases hz with ⟨rfl, rfl⟩ | ⟨hz, rfl⟩
      · exact nm_same hss (by omega) (by omega)
      · exact hz _
  intro σ' H5 q
  obtain ⟨ds', ld', rfl, s5, e6, hd5, nd5, hR⟩ := q.resolve_right fun z => z
  clear q
  have sB := s4.trans s5
  have e7 := s5 _ _ e4
  clear hz e4 e5 hd4 nd4 hA4 hA3 e3 e3' sA s4 s5
  have hrw := row_ok hR wk1 wk2
  have hrow : spl (Txt.join " " (wo :: zs)) = wo :: zs := spl_join (by simp) hrw.2
  have hrl : (Txt.join " " (wo :: zs)).length ≤ 190 := by have := row_len (wo :: zs); omega
  have hzl := hR.len
  walk_at "rd"
  intro l6 H6 s6 h6 e8
  refine ⟨_, rfl, l6, ls, _, _, rfl, rfl, e8, s6 _ _ e7, small1000' (by rw [List.length_map]; show 1 + _ ≤ 1000; omega), ?_⟩
  intro l7 H7 s7 h7 e9
  have e9' : H7 l7 = some (.lst ((wo :: zs).map V.str)) := e9
  clear e9 e8
  refine ⟨" ", l7, wo :: zs, rfl, rfl, SqL.of e9', by rw [row_sum]; omega, ?_⟩
  generalize hro : Txt.join " " (wo :: zs) = ro at hrow hrl ⊢
  have e10 := s7 _ _ (s6 _ _ e6)
  have sC := (sB.trans s6).trans s7
  clear e9' e6 e7 s6 s7 sB
  have hsh : SeqAt.shaped (.list (ds'.map PyData.str)) = true := shaped_strs fun x hx => asc.ok (hR.ds x hx)
  have heq : PyData.eqv (.list (ds'.map PyData.str)) (.list (ds'.map PyData.str)) = true := by rw [eqv_strs]; exact decide_eq_true rfl
  walk_at "rd"
  intro lf H8 s8 h8 e11
  rw [hrow, hR.due wo] at e11
  have e12 := s8 _ _ e10
  have sD := sC.trans s8
  have nlf : ld' ≠ lf := ne_of_none e10 h8
  have hlf : H lf = none := sC.free h8
  clear e10 sC s8
  have hdl : ds'.length ≤ 15 := by
    have := hR.due wo
    rw [namesO_self] at this
    split at this
    · rw [← this]; simp
    · rw [← this]; exact hzl
  refine ⟨_, rfl, _, _, .type "list", true, rfl, .inl ⟨_, rfl⟩, TyOf.lst e11, kit_same _ _, _, rfl, iteF ?_⟩
  refine ⟨_, rfl, _, rfl, _, _, RdD.lst (SqL.of e11) (RdDs.strs _), RdD.lst (SqL.of e12) (RdDs.strs _), hsh, hsh, ?_⟩
  rw [heq]
  refine ⟨_, rfl, iteF ?_⟩
  walk_at "rd"
  intro H9 k9 e13
  have sE : Same H H9 := k9.put sD hlf
  have e14 := k9.look e12 nlf
  have hA9 := hAx _ sE
  clear e11 e12 e13
  walk_at "rd"
  intro lo H10 s10 h10 e15
  have e15' : H10 lo = some (.lst ((["acts", "in", "parties", ns.getD 13 ""] : List Str).map V.str)) := e15
  clear e15
  refine ⟨_, rfl, c, 30, rfl, by decide, by decide, _, _, rfl, rfl, (by show (0 : Int) < 4; decide), lo, _, _, _, rfl, rfl, SqL.of e15', atI_str' q0 (by show _ < ((4 : Nat) : Int); omega), ?_⟩
  show gName 8 (V.str ((["acts", "in", "parties", ns.getD 13 ""] : List Str).getD (mixF c 30 % 4).toNat "")) _ _ _
  generalize ((["acts", "in", "parties", ns.getD 13 ""] : List Str).getD (mixF c 30 % 4).toNat "") = oo at wk3 ⊢
  have e16 := s10 _ _ e14
  have sF := sE.trans s10
  clear e15' e14 hA9 sE sD s10
  walk_at "rd"
  intro lg H11 s11 h11 e17
  rw [hrow, namesO_off wk3] at e17
  walk_at "rd"
  intro lh H12 s12 h12 e18
  refine ⟨_, _, RdD.lst (SqL.of (s12 _ _ e17)) .nil, RdD.lst (SqL.of e18) .nil, nil_shaped, nil_shaped, _, rfl, iteT ?_⟩
  have e19 := s12 _ _ (s11 _ _ e16)
  have sG := (sF.trans s11).trans s12
  clear e16 e17 e18 sF s11 s12
  walk_at "rd"
  intro li H13 s13 h13 e20
  rw [hrow, hR.due wo] at e20
  refine ⟨_, rfl, _, _, RdD.lst (SqL.of e20) (RdDs.strs _), RdD.lst (SqL.of (s13 _ _ e19)) (RdDs.strs _), hsh, hsh, ?_⟩
  rw [heq]
  exact kk _ (sG.trans s13)


/-! ### the law -/
end
theorem mark_ne {c : Int} {x y : Str} (hx : markQ c 13 x) (hy : markQ c 14 y) : x ≠ y := by
  have hs : spc (13 % 8) ≠ spc (14 % 8) := by decide
  intro q
  subst q
  unfold markQ at hx hy
  by_cases h1 : c % 12 = 7
  · rw [if_pos h1] at hx hy
    rw [hx] at hy
    exact hs (Option.some.inj hy)
  rw [if_neg h1] at hx hy
  by_cases h2 : c % 3 = 1
  · rw [if_pos h2] at hx hy
    omega
  rw [if_neg h2] at hx hy
  rw [hx] at hy
  exact hs (Option.some.inj hy)
theorem odd2 : (nameB "done" = false ∧ numV "done" = 0 ∧ ("done" : Str) ∉ lits ∧ 32 ∉ ("done" : Str).cps.toList) ∧ (nameB "" = false ∧ numV "" = 0 ∧ ("" : Str) ∉ lits ∧ 32 ∉ ("" : Str).cps.toList) := by decide +kernel
theorem told_odd {x : Str} (h : nameB x = false ∧ numV x = 0 ∧ x ∉ lits ∧ 32 ∉ x.cps.toList) : toldE (spl x) = [] := by
  have e : spl x = [x] := by
    have := spl_join (ws := [x]) (by simp) (fun y hy => by rw [List.mem_singleton.mp hy]; exact h.2.2.2)
    rwa [join_eq, L2.join_one] at this
  rw [e]
  have r : Rts [2] [x] := .cons (.inr (.inr (.inl ⟨rfl, h.1, h.2.1, h.2.2.1⟩))) .nil
  exact empty_told (r.empty (by decide))
theorem odd_len : ("done" : Str).length ≤ 190 ∧ ("" : Str).length ≤ 190 := by decide +kernel
def spLaw (K : PySem.W.Frag) : Sp := fun vs H Q _ => ∃ (a : Addr) (ns : List Int), vs = [.ref a] ∧ SqL K H a (ns.map V.int) ∧ ns.length ≤ 63 ∧ ∀ H', Q (.bl true) H'
theorem int_of {ms : List Int} {i : Nat} {y : V} (hi : (ms.map V.int)[i]? = some y) : ∃ z, y = V.int z := by
  rw [List.getElem?_map] at hi
  cases e : ms[i]? with
  | none => rw [e] at hi; cases hi
  | some z => rw [e] at hi; exact ⟨z, (Option.some.inj hi).symm⟩
def dueOk (de : List E2) : Prop := SeqAt.shaped (.list (de.map dataE)) = true ∧ PyData.eqv (.list (de.map dataE)) (.list (de.map dataE)) = true
theorem due_one {e : E2} (h : okE e) : dueOk [e] := ⟨shE h, eqvE e⟩
theorem due_nil : dueOk [] := ⟨nil_shaped, by decide +kernel⟩
section
variable {P : Program} {w : World} {K : PySem.W.Frag} {mg : Str → Option Value} {base : Heap} {t : Adr}
set_option maxRecDepth 1000000 in
theorem sc_v_law : FnScope ["_law_script", "_law_names", "_law_raw", "_law_cell", "_law_words", "_law_event", "_law_spoilt_here", "_law_due"] ["_law_script"] (defScope s_v_law) := ⟨rfl, rfl, rfl, by decide +kernel, rfl, by decide +kernel, by decide +kernel⟩
set_option maxHeartbeats 400000 in
theorem ok_v_law (T : Txt K mg t) : FnOk P w K mg base CX0 8 t.f_v_law t.d_v_law ["_law_script"] (spLaw K) := by
  have G_w_cell_at : FnOk P w K mg base CX0 7 t.f_w_cell_at t.d_w_cell_at ["_law_script", "_law_k"] (spCell K) := (ok_w_cell_at T).mono (by decide)
  have G_w_good : FnOk P w K mg base CX0 7 t.f_w_good t.d_w_good ["_law_names", "_law_cell"] (spGood K) := (ok_w_good T).mono (by decide)
  have G_w_mix : FnOk P w K mg base CX0 7 t.f_w_mix t.d_w_mix ["_law_cell", "_law_k"] spMix := (ok_w_mix T).mono (by decide)
  have G_w_name : FnOk P w K mg base CX0 7 t.f_w_name t.d_w_name ["_law_cell", "_law_k"] spNameL := (ok_w_name T).mono (by decide)
  have G_w_names_right : FnOk P w K mg base CX0 7 t.f_w_names_right t.d_w_names_right ["_law_names", "_law_cell"] (spNR K) := (ok_w_names_right T).mono (by decide)
  have G_w_spoilt : FnOk P w K mg base CX0 7 t.f_w_spoilt t.d_w_spoilt ["_law_names", "_law_words", "_law_cell"] (spSpoilt K) := (ok_w_spoilt T).mono (by decide)
  have G_w_told : FnOk P w K mg base CX0 7 t.f_w_told t.d_w_told ["_law_row"] (spTold K) := (ok_w_told T).mono (by decide)
  refine T.v_law.fn.ok sc_v_law (fun vs H Q E h => (by first | (obtain ⟨rfl, _⟩ := h; rfl) | (obtain ⟨_, rfl, _⟩ := h; rfl) | (obtain ⟨_, _, rfl, _⟩ := h; rfl) | (obtain ⟨_, _, _, rfl, _⟩ := h; rfl) | (obtain ⟨_, _, _, _, rfl, _⟩ := h; rfl) | (obtain ⟨_, _, _, _, _, rfl, _⟩ := h; rfl) | (obtain ⟨_, _, _, _, _, _, rfl, _⟩ := h; rfl) | (obtain ⟨_, _, _, _, _, _, _, rfl, _⟩ := h; rfl) | (obtain ⟨_, _, _, _, _, _, _, _, rfl, _⟩ := h; rfl) | (obtain ⟨_, _, _, _, _, _, _, _, _, rfl, _⟩ := h; rfl) | (obtain ⟨_, _, _, _, _, _, _, _, _, _, rfl, _⟩ := h; rfl) | (obtain ⟨_, _, _, _, _, _, _, _, _, _, _, rfl, _⟩ := h; rfl) | (obtain ⟨_, _, _, _, _, _, _, _, _, _, _, _, rfl, _⟩ := h; rfl) | (obtain ⟨_, _, _, _, _, _, _, _, _, _, _, _, _, rfl, _⟩ := h; rfl) | (obtain ⟨_, _, _, _, _, _, _, _, _, _, _, _, _, _, rfl, _⟩ := h; rfl) | (obtain ⟨_, _, _, _, _, _, _, _, _, _, _, _, _, _, _, rfl, _⟩ := h; rfl) | (obtain ⟨_, _, _, _, _, _, _, _, _, _, _, _, _, _, _, _, rfl, _⟩ := h; rfl) | (obtain ⟨_, _, _, _, _, _, _, _, _, _, _, _, _, _, _, _, _, rfl, _⟩ := h; rfl) | (obtain ⟨_, _, _, _, _, _, _, _, _, _, _, _, _, _, _, _, _, _, rfl, _⟩ := h; rfl) | (obtain ⟨_, _, _, _, _, _, _, _, _, _, _, _, _, _, _, _, _, _, _, rfl, _⟩ := h; rfl) | (obtain ⟨_, _, _, _, _, _, _, _, _, _, _, _, _, _, _, _, _, _, _, _, rfl, _⟩ := h; rfl) | (obtain ⟨_, _, _, _, _, _, _, _, _, _, _, _, _, _, _, _, _, _, _, _, _, rfl, _⟩ := h; rfl) | (obtain ⟨_, _, _, _, _, _, _, _, _, _, _, _, _, _, _, _, _, _, _, _, _, _, rfl, _⟩ := h; rfl) | (obtain ⟨_, _, _, _, _, _, _, _, _, _, _, _, _, _, _, _, _, _, _, _, _, _, _, rfl, _⟩ := h; rfl))) (fun cdv A outer s H vs Q E hr h => ?_)
  obtain ⟨a, ns, rfl, hS, hlen, kk⟩ := h
  refine ⟨_, (pss_cons (ps_set_lcomp (i := 1) (osc := defScope s_v_law) (N := ["_law_script", "_law_names", "_law_raw", "_law_cell", "_law_words", "_law_event", "_law_spoilt_here", "_law_due"]) (names := ["_law_script"]) (caps := [0]) rfl rfl rfl sc_v_law.nd ⟨rfl, by decide +kernel, by decide +kernel, by decide +kernel, rfl, rfl, by decide +kernel, by decide +kernel⟩ rfl rfl (pi_range1 rfl T.b_range (pa_cons pe_int pa_nil)) (fun _ _ _ => (pe_call G_w_name hr rfl T.w_name.mg T.w_name.fn.kp T.w_name.bd .nil pass0 (pa_cons (pe_call G_w_mix hr rfl T.w_mix.mg T.w_mix.fn.kp T.w_mix.bd .nil pass0 (pa_cons (pe_call G_w_cell_at hr rfl T.w_cell_at.mg T.w_cell_at.fn.kp T.w_cell_at.bd .nil pass0 (pa_cons (pv 1) (pa_cons pe_int pa_nil))) (pa_cons pe_int pa_nil))) (pa_cons (pv 0) pa_nil)))))
      (pss_cons (ps_for PassesOwn.never rfl (piK_list (K := K) rfl (pe_op no_cat (ne_lst (pa_cons (pe_call G_w_cell_at hr rfl T.w_cell_at.mg T.w_cell_at.fn.kp T.w_cell_at.bd .nil pass0 (pa_cons (pv 0) (pa_cons pe_int pa_nil))) pa_nil)) (pe_slice (nsK_list (K := K) rfl) (pv 0) (po_some pe_int) (po_some pe_int)))) (pg_name (i := 2) sc_v_law.nd rfl (Or.inl rfl))
        (pss_cons (ps_set (i := 3) sc_v_law.nd rfl (Or.inl rfl) (pe_op op_mod (pv 2) pe_int))
      (pss_cons (ps_asg (pe_call G_w_good hr rfl T.w_good.mg T.w_good.fn.kp T.w_good.bd .nil pass0 (pa_cons (pv 1) (pa_cons (pv 3) pa_nil))) (pg_tupK (K := K) rfl rfl (pgs_cons (pg_name (i := 4) sc_v_law.nd rfl (Or.inl rfl)) (pgs_cons (pg_name (i := 5) sc_v_law.nd rfl (Or.inl rfl)) pgs_nil))))
      (pss_cons (ps_set (i := 6) sc_v_law.nd rfl (Or.inl rfl) (pe_call G_w_spoilt hr rfl T.w_spoilt.mg T.w_spoilt.fn.kp T.w_spoilt.bd .nil pass0 (pa_cons (pv 1) (pa_cons (pv 4) (pa_cons (pv 3) pa_nil)))))
      (pss_cons (ps_set (i := 7) sc_v_law.nd rfl (Or.inl rfl) (ne_lst (pa_cons (pv 5) pa_nil)) sw_list)
      (pss_cons (PS.join (ps_if (pt_cmpR (opK_neD (K := K) rfl hr.units) (pv 6) (pv 4) (nomark _))
        (pss_one (ps_set (i := 7) sc_v_law.nd rfl (Or.inl rfl) (ne_lst pa_nil) sw_list)) pss_nil))
      (pss_cons (ps_if (PW.pt (pw_or (pt_cmpR (opK_neD (K := K) rfl hr.units) (pe_call G_w_told hr rfl T.w_told.mg T.w_told.fn.kp T.w_told.bd .nil pass0 (pa_cons (pe_bm PySem.F.plainAttrs_str PySem.F.slot_str_join PySem.F.type_str_join (mtK_join (K := K) rfl) pe_str (pa_cons (pv 6) pa_nil)) pa_nil)) (pv 7) (nomark _)) (pw_or1 (pt_not (pt_val (pe_call G_w_names_right hr rfl T.w_names_right.mg T.w_names_right.fn.kp T.w_names_right.bd .nil pass0 (pa_cons (pv 1) (pa_cons (pv 3) pa_nil))))))))
        (pss_one (ps_ret pe_bl)) pss_nil)
      (pss_one (ps_if (pt_cmpR (opK_neD (K := K) rfl hr.units) (pe_call G_w_told hr rfl T.w_told.mg T.w_told.fn.kp T.w_told.bd .nil pass0 (pa_cons (pe_bm PySem.F.plainAttrs_str PySem.F.slot_str_join PySem.F.type_str_join (mtK_join (K := K) rfl) pe_str (pa_cons (pv 4) pa_nil)) pa_nil)) (ne_lst (pa_cons (pv 5) pa_nil)) (nomark _))
        (pss_one (ps_ret pe_bl)) pss_nil)))))))))
      (pss_one (ps_ret (pe_and (pe_cmpR (opK_eqD (K := K) rfl hr.units) (pe_call G_w_told hr rfl T.w_told.mg T.w_told.fn.kp T.w_told.bd .nil pass0 (pa_cons pe_str pa_nil)) (ne_lst pa_nil) (nomark _)) (pe_one (pe_cmpR (opK_eqD (K := K) rfl hr.units) (pe_call G_w_told hr rfl T.w_told.mg T.w_told.fn.kp T.w_told.bd .nil pass0 (pa_cons pe_str pa_nil)) (ne_lst pa_nil) (nomark _)))))))), ?_⟩
  walk_at "rd"
  have mc := mix_lt (cellF ns 0) 60
  refine comp_seq (seqj_range (lo := 0) (n := 16)) (fun i _ v => ∃ x, v = V.str x ∧ nameB x = true ∧ (8 ≤ i → markQ (mixF (cellF ns 0) 60) i x)) (line_small (by decide)) ?_ ?_
  · intro i y H' Q' hy' s' k2
    obtain ⟨hi, rfl⟩ := rng_of hy'
    have hS' := seqS hS s'
    walk_at "rd"
    refine ⟨a, 0, ns, rfl, hS', by decide, ?_⟩
    refine ⟨_, 60, rfl, by decide, by decide, _, rfl, _, _, rfl, mc.1, by omega, by omega, by omega, fun x H2 hx hm s2 => k2 _ _ s2 ⟨x, rfl, hx, fun q => ?_⟩⟩
    have := hm (by omega)
    rwa [show (0 : Int) + (i : Int) = (i : Int) by omega] at this
  intro ln H1 ys s1 hln e1 hlen1 hp
  rw [List.length_map, List.length_range] at hlen1
  have hp' : ∀ (i : Nat) (v : V), i < 16 → ys[i]? = some v → ∃ x, v = V.str x ∧ nameB x = true ∧ (8 ≤ i → markQ (mixF (cellF ns 0) 60) i x) := fun i v hi e => hp i (V.int (0 + (i : Int))) v (by rw [List.getElem?_map, List.getElem?_range hi]; rfl) e
  clear hp
  obtain ⟨ms, rfl, hms⟩ := strs_of (fun z => nameB z = true) ys fun v hv => by
    obtain ⟨i, hi, e⟩ := List.getElem_of_mem hv
    obtain ⟨x, e1, e2, _⟩ := hp' i v (by omega) (by rw [List.getElem?_eq_getElem hi, e])
    exact ⟨x, e1, e2⟩
  rw [List.length_map] at hlen1
  have hN : Ns ms := ⟨hlen1, hms⟩
  have hmk : ∀ i : Nat, 8 ≤ i → i < 16 → markQ (mixF (cellF ns 0) 60) i (ms.getD i "") := by
    intro i h8 hi
    obtain ⟨x, e1, _, e3⟩ := hp' i (V.str (ms.getD i "")) hi (by
      rw [List.getElem?_map, List.getD_eq_getElem?_getD, List.getElem?_eq_getElem (by omega)]; rfl)
    rw [V.str.inj e1]
    exact e3 h8
  have hne : ms.getD 13 "" ≠ ms.getD 14 "" := mark_ne (hmk 13 (by decide) (by decide)) (hmk 14 (by decide) (by decide))
  clear hp' hmk hms
  have hS1 := seqS hS s1
  clear hS
  have cc := cell_lt ns 1
  walk_at "rd"
  refine ⟨a, 1, ns, rfl, hS1, by decide, ?_⟩
  walk_at "rd"
  intro l2 H2 s2 h2 e2
  have hS2 := seqS hS1 s2
  have e1' := s2 _ _ e1
  clear hS1 e1
  walk_at "rd"
  intro l3 H3 s3 h3 e3
  obtain ⟨rs, hrs, hr1, _, _⟩ := cutV_map V.int ns (some 2) (some 26)
  rw [hrs] at e3
  refine ⟨l2, l3, _, _, rfl, rfl, s3 _ _ e2, e3, small1000' (by rw [List.length_map]; show 1 + _ ≤ 1000; omega), ?_⟩
  intro l4 H4 s4 h4 e4
  have e4' : H4 l4 = some (.lst ((cellF ns 1 :: rs).map V.int)) := e4
  have e5 := s4 _ _ (s3 _ _ e1')
  clear e1' e2 e3 e4 hS2 s2 s3 s4
  walk_at "rd"
  refine for_list (K := K) (a := l4) (xs := (cellF ns 1 :: rs).map V.int) (fun i σ H' => ∃ (v2 v3 v4 v5 v6 v7 : Option V), σ = [some (.ref a), some (.ref ln), v2, v3, v4, v5, v6, v7] ∧ Same H4 H')
    ⟨_, _, _, _, _, _, rfl, Same.refl _⟩ (fun i σ H' _ ⟨_, _, _, _, _, _, _, q⟩ => SqL.of (q _ _ e4')) ?_ ?_
  · rintro i y σ H5 hi ⟨v2, v3, v4, v5, v6, v7, rfl, s5⟩
    obtain ⟨z, rfl⟩ := int_of hi
    have e6 := s5 _ _ e5
    have z0 : 0 ≤ z % 1000000000000000000000007 := Int.emod_nonneg _ (by decide)
    clear e4' e5
    walk_at "rd"
    refine ⟨ln, (z % 1000000000000000000000007), ms, rfl, SqL.of e6, hN, z0, ?_⟩
    intro tp lw ve H6 ws e s6 htp e7 hlw e8 hit g
    walk_at "rd"
    refine ⟨ln, lw, (z % 1000000000000000000000007), ms, ws, e, rfl, SqL.of (s6 _ _ e6), hN, e8, g, z0, ?_⟩
    intro ls zs H7 s7 hls e9 sp
    have f1 := s7 _ _ (s6 _ _ e6)
    have f2 := s7 _ _ e8
    have f3 := hit.same s7
    have sA := s5.trans (s6.trans s7)
    obtain ⟨ks, gp, gr, gw, gt, ge, gk⟩ := g
    have wne : ws ≠ [] := by
      have hl := (show GoodRow (z % 1000000000000000000000007) ws e from ⟨ks, gp, gr, gw, gt, ge, gk⟩).len
      intro q
      rw [q] at hl
      simp at hl
    have shz : SeqAt.shaped (.list (zs.map PyData.str)) = true := shaped_strs fun x hx => asc.ok (sp.wk x hx).as
    have shw : SeqAt.shaped (.list (ws.map PyData.str)) = true := shaped_strs fun x hx => asc.ok (gw x hx).as
    have hz1 : spl (Txt.join " " zs) = zs := spl_join sp.ne fun x hx => (sp.wk x hx).nb
    have hw1 : spl (Txt.join " " ws) = ws := spl_join wne fun x hx => (gw x hx).nb
    have hz2 : (Txt.join " " zs).length ≤ 190 := by have := row_len zs; have := sp.tot; omega
    have hw2 : (Txt.join " " ws).length ≤ 190 := by have := row_len ws; omega
    clear e6 e7 e8 hit s5 s6 s7 gp gr htp hlw
    walk_at "rd"
    intro ld H8 s8 hld e10
    refine ⟨fun σ' H9 => (∃ (ld : Addr) (dv : List V) (de : List E2), σ' = [some (.ref a), some (.ref ln), some (.int z), some (.int (z % 1000000000000000000000007)), some (.ref lw), some ve, some (.ref ls), some (.ref ld)] ∧ Same H8 H9 ∧ H9 ld = some (.lst dv) ∧ Items H9 lw dv de ∧ toldE zs = de ∧ dueOk de) ∨ False, ?_, ?_⟩
    · refine ⟨_, rfl, _, rfl, _, _, RdD.lst (SqL.of (s8 _ _ e9)) (RdDs.strs _), RdD.lst (SqL.of (s8 _ _ f2)) (RdDs.strs _), shz, shw, ?_⟩
      rw [eqv_strs]
      by_cases hzw : zs = ws
      · rw [decide_eq_true hzw]
        refine ⟨_, rfl, iteF ?_⟩
        exact .inl ⟨ld, _, [e], rfl, Same.refl _, e10, .cons (f3.same s8) .nil, by rw [hzw]; exact ge, due_one gk⟩
      · rw [decide_eq_false hzw]
        refine ⟨_, rfl, iteT ?_⟩
        clear e10
        walk_at "rd"
        intro lf H9 s9 hlf e11
        exact .inl ⟨lf, _, [], rfl, s9, e11, .nil, sp.or.resolve_left hzw, due_nil⟩
    intro σ' H9 q
    obtain ⟨ld', dv, de, rfl, s9, e11, i11, hde, dok⟩ := q.resolve_right fun z => z
    clear q e10
    have g1 := s9 _ _ (s8 _ _ f1)
    have g2 := s9 _ _ (s8 _ _ f2)
    have g3 := (f3.same s8).same s9
    have g4 := s9 _ _ (s8 _ _ e9)
    have sB := sA.trans (s8.trans s9)
    clear f1 f2 f3 e9 sA s8 s9
    walk_at "rd"
    refine ⟨" ", ls, zs, rfl, rfl, SqL.of g4, by rw [row_sum]; have := sp.tot; omega, ?_⟩
    refine ⟨_, rfl, hz2, ?_⟩
    intro lt vt H10 s10 hlt e12 i12
    rw [hz1, hde] at i12
    have e11' := s10 _ _ e11
    refine ⟨_, rfl, _, _, RdD.lst (SqL.of e12) i12.rd, RdD.lst (SqL.of e11') (i11.same s10).rd, dok.1, dok.1, ?_⟩
    rw [dok.2]
    refine ⟨_, rfl, iteF ?_⟩
    clear e11 e11' e12
    refine ⟨_, rfl, _, rfl, ln, (z % 1000000000000000000000007), ms, rfl, SqL.of (s10 _ _ g1), hN, hne, z0, fun H11 s11 => ⟨_, rfl, iteF ?_⟩⟩
    have h2 := s11 _ _ (s10 _ _ g2)
    have h3 := (g3.same s10).same s11
    have sC := sB.trans (s10.trans s11)
    clear g1 g2 g3 g4 sB s10 s11
    walk_at "rd"
    refine ⟨" ", lw, ws, rfl, rfl, SqL.of h2, by rw [row_sum]; omega, ?_⟩
    refine ⟨_, rfl, hw2, ?_⟩
    intro lu vu H12 s12 hlu e13 i13
    rw [hw1, ge] at i13
    walk_at "rd"
    intro lv H13 s13 hlv e14
    have ok1 := due_one gk
    refine ⟨_, _, RdD.lst (SqL.of (s13 _ _ e13)) (i13.same s13).rd, RdD.lst (SqL.of e14) (.cons ((h3.same s12).same s13).rd .nil), ok1.1, ok1.1, ?_⟩
    rw [show PyData.eqv (.list (List.map dataE [e])) (.list [dataE e]) = true from ok1.2]
    refine ⟨_, rfl, iteF ?_⟩
    exact ⟨_, _, _, _, _, _, rfl, sC.trans (s12.trans s13)⟩
  rintro σ H5 ⟨v2, v3, v4, v5, v6, v7, rfl, s5⟩
  clear e4' e5
  have hd1 := told_odd odd2.1
  have hd2 := told_odd odd2.2
  have hdl := odd_len
  walk_at "rd"
  intro l5 vs5 H6 s6 h6 e6 i6
  rw [hd1] at i6
  cases i6
  walk_at "rd"
  intro l6 H7 s7 h7 e7
  refine ⟨_, _, RdD.lst (SqL.of (s7 _ _ e6)) .nil, RdD.lst (SqL.of e7) .nil, nil_shaped, nil_shaped, _, rfl, iteT ?_⟩
  walk_at "rd"
  intro l7 vs7 H8 s8 h8 e8 i8
  rw [hd2] at i8
  cases i8
  walk_at "rd"
  intro l8 H9 s9 h9 e9
  refine ⟨_, _, RdD.lst (SqL.of (s9 _ _ e8)) .nil, RdD.lst (SqL.of e9) .nil, nil_shaped, nil_shaped, ?_⟩
  exact kk _

theorem law_binds (T : Txt K mg t) (s : Shared) (u : Value) : BindsTo s t.d_v_law ⟨[u], []⟩ [("_law_script", u)] := by
  obtain ⟨oc, od, kV, doc, pm, an, cdv, ct, osl, e, _⟩ := T.v_law.fn.ex
  rw [e]
  exact .of_eq rfl
theorem law_start {H : Hp} {a : Addr} {ns : List Int} (hl : ns.length ≤ 63) (_ : Only H) (hS : SqL K H a (ns.map V.int)) : spLaw K [.ref a] H (fun v _ => v = .bl true) fun _ _ _ => False :=
  ⟨a, ns, rfl, hS, hl, fun _ => rfl⟩


end
theorem kl_KEPT : (19 : Nat) ≤ sizeLine := line_small (by decide)
theorem kv_KEPT {t0 t1 t2 t3 t4 t5 t6 t7 t8 t9 t10 t11 t12 t13 t14 t15 t16 t17 t18 : Tok} : Vals (ks_KEPT.map V.str) ([.str "acts" t0, .str "any" t1, .str "be" t2, .str "by" t3, .str "calm" t4, .str "done" t5, .str "else" t6, .str "end" t7, .str "in" t8, .str "let" t9, .str "may" t10, .str "must" t11, .str "not" t12, .str "part" t13, .str "parties" t14, .str "rest" t15, .str "sore" t16, .str "to" t17, .str "whole" t18] : List Value) := by
  repeat (first | exact .nil | refine .cons ⟨_, rfl⟩ ?_)
theorem kl_MARKS : (3 : Nat) ≤ sizeLine := line_small (by decide)
theorem kv_MARKS {t0 t1 t2 : Tok} : Vals (ks_MARKS.map V.str) ([.str "calm" t0, .str "sore" t1, .str "end" t2] : List Value) := by
  repeat (first | exact .nil | refine .cons ⟨_, rfl⟩ ?_)
set_option maxHeartbeats 4000000 in
theorem txt_mk {K : PySem.W.Frag} {h : Heap} {mg : Str → Option Value} (X : K.In h) (G : h.Ns mainGlobals mg)
    {f_Clause_init f_Duty_init f_Ban_init f_Power_init f_Let_init f_Part_init f_v_is_name f_v_number_of f_v_written_with f_v_names_of f_v_are_names f_v_room_of f_v_let_of f_v_part_of f_v_clause_of f_v_fits_form f_v_fits_place f_w_cell_at f_w_mix f_w_name f_w_kept f_w_good f_w_spoilt f_w_clause f_w_told f_w_names_right f_v_law c_Row c_Clause c_Duty c_Leave c_Ban c_Power c_Let c_Part k_KEPT k_MARKS : Addr}
    {od_Clause_init an_Clause_init : Option Addr} {sl_Clause_init : Array (Option Value)} {oc_Clause_init kV_Clause_init dc_Clause_init pm_Clause_init cd_Clause_init ct_Clause_init : Value}
    {od_Duty_init an_Duty_init : Option Addr} {sl_Duty_init : Array (Option Value)} {oc_Duty_init kV_Duty_init dc_Duty_init pm_Duty_init cd_Duty_init ct_Duty_init : Value}
    {od_Ban_init an_Ban_init : Option Addr} {sl_Ban_init : Array (Option Value)} {oc_Ban_init kV_Ban_init dc_Ban_init pm_Ban_init cd_Ban_init ct_Ban_init : Value}
    {od_Power_init an_Power_init : Option Addr} {sl_Power_init : Array (Option Value)} {oc_Power_init kV_Power_init dc_Power_init pm_Power_init cd_Power_init ct_Power_init : Value}
    {od_Let_init an_Let_init : Option Addr} {sl_Let_init : Array (Option Value)} {oc_Let_init kV_Let_init dc_Let_init pm_Let_init cd_Let_init ct_Let_init : Value}
    {od_Part_init an_Part_init : Option Addr} {sl_Part_init : Array (Option Value)} {oc_Part_init kV_Part_init dc_Part_init pm_Part_init cd_Part_init ct_Part_init : Value}
    {od_v_is_name an_v_is_name : Option Addr} {sl_v_is_name : Array (Option Value)} {oc_v_is_name kV_v_is_name dc_v_is_name pm_v_is_name cd_v_is_name ct_v_is_name : Value}
    {od_v_number_of an_v_number_of : Option Addr} {sl_v_number_of : Array (Option Value)} {oc_v_number_of kV_v_number_of dc_v_number_of pm_v_number_of cd_v_number_of ct_v_number_of : Value}
    {od_v_written_with an_v_written_with : Option Addr} {sl_v_written_with : Array (Option Value)} {oc_v_written_with kV_v_written_with dc_v_written_with pm_v_written_with cd_v_written_with ct_v_written_with : Value}
    {od_v_names_of an_v_names_of : Option Addr} {sl_v_names_of : Array (Option Value)} {oc_v_names_of kV_v_names_of dc_v_names_of pm_v_names_of cd_v_names_of ct_v_names_of : Value}
    {od_v_are_names an_v_are_names : Option Addr} {sl_v_are_names : Array (Option Value)} {oc_v_are_names kV_v_are_names dc_v_are_names pm_v_are_names cd_v_are_names ct_v_are_names : Value}
    {od_v_room_of an_v_room_of : Option Addr} {sl_v_room_of : Array (Option Value)} {oc_v_room_of kV_v_room_of dc_v_room_of pm_v_room_of cd_v_room_of ct_v_room_of : Value}
    {od_v_let_of an_v_let_of : Option Addr} {sl_v_let_of : Array (Option Value)} {oc_v_let_of kV_v_let_of dc_v_let_of pm_v_let_of cd_v_let_of ct_v_let_of : Value}
    {od_v_part_of an_v_part_of : Option Addr} {sl_v_part_of : Array (Option Value)} {oc_v_part_of kV_v_part_of dc_v_part_of pm_v_part_of cd_v_part_of ct_v_part_of : Value}
    {od_v_clause_of an_v_clause_of : Option Addr} {sl_v_clause_of : Array (Option Value)} {oc_v_clause_of kV_v_clause_of dc_v_clause_of pm_v_clause_of cd_v_clause_of ct_v_clause_of : Value}
    {od_v_fits_form an_v_fits_form : Option Addr} {sl_v_fits_form : Array (Option Value)} {oc_v_fits_form kV_v_fits_form dc_v_fits_form pm_v_fits_form cd_v_fits_form ct_v_fits_form : Value}
    {od_v_fits_place an_v_fits_place : Option Addr} {sl_v_fits_place : Array (Option Value)} {oc_v_fits_place kV_v_fits_place dc_v_fits_place pm_v_fits_place cd_v_fits_place ct_v_fits_place : Value}
    {od_w_cell_at an_w_cell_at : Option Addr} {sl_w_cell_at : Array (Option Value)} {oc_w_cell_at kV_w_cell_at dc_w_cell_at pm_w_cell_at cd_w_cell_at ct_w_cell_at : Value}
    {od_w_mix an_w_mix : Option Addr} {sl_w_mix : Array (Option Value)} {oc_w_mix kV_w_mix dc_w_mix pm_w_mix cd_w_mix ct_w_mix : Value}
    {od_w_name an_w_name : Option Addr} {sl_w_name : Array (Option Value)} {oc_w_name kV_w_name dc_w_name pm_w_name cd_w_name ct_w_name : Value}
    {od_w_kept an_w_kept : Option Addr} {sl_w_kept : Array (Option Value)} {oc_w_kept kV_w_kept dc_w_kept pm_w_kept cd_w_kept ct_w_kept : Value}
    {od_w_good an_w_good : Option Addr} {sl_w_good : Array (Option Value)} {oc_w_good kV_w_good dc_w_good pm_w_good cd_w_good ct_w_good : Value}
    {od_w_spoilt an_w_spoilt : Option Addr} {sl_w_spoilt : Array (Option Value)} {oc_w_spoilt kV_w_spoilt dc_w_spoilt pm_w_spoilt cd_w_spoilt ct_w_spoilt : Value}
    {od_w_clause an_w_clause : Option Addr} {sl_w_clause : Array (Option Value)} {oc_w_clause kV_w_clause dc_w_clause pm_w_clause cd_w_clause ct_w_clause : Value}
    {od_w_told an_w_told : Option Addr} {sl_w_told : Array (Option Value)} {oc_w_told kV_w_told dc_w_told pm_w_told cd_w_told ct_w_told : Value}
    {od_w_names_right an_w_names_right : Option Addr} {sl_w_names_right : Array (Option Value)} {oc_w_names_right kV_w_names_right dc_w_names_right pm_w_names_right cd_w_names_right ct_w_names_right : Value}
    {od_v_law an_v_law : Option Addr} {sl_v_law : Array (Option Value)} {oc_v_law kV_v_law dc_v_law pm_v_law cd_v_law ct_v_law : Value}
    {tk_LETTERS tk_FIGURES tk_MOST_LETTERS tk_MOST_FIGURES tk_MOST_ROOMS : Tok}
    {oK_KEPT : Obj} {oK_MARKS : Obj}
    (ac_Row : PySem.W.nsIn K mainGlobals "Row" = some (some (.ref c_Row)))
    (ac_Clause : PySem.W.nsIn K mainGlobals "Clause" = some (some (.ref c_Clause)))
    (ac_Duty : PySem.W.nsIn K mainGlobals "Duty" = some (some (.ref c_Duty)))
    (ac_Leave : PySem.W.nsIn K mainGlobals "Leave" = some (some (.ref c_Leave)))
    (ac_Ban : PySem.W.nsIn K mainGlobals "Ban" = some (some (.ref c_Ban)))
    (ac_Power : PySem.W.nsIn K mainGlobals "Power" = some (some (.ref c_Power)))
    (ac_Let : PySem.W.nsIn K mainGlobals "Let" = some (some (.ref c_Let)))
    (ac_Part : PySem.W.nsIn K mainGlobals "Part" = some (some (.ref c_Part)))
    (ak_KEPT : PySem.W.nsIn K mainGlobals "KEPT" = some (some (.ref k_KEPT)))
    (ak_LETTERS : PySem.W.nsIn K mainGlobals "LETTERS" = some (some (.str "abcdefghijklmnopqrstuvwxyz" tk_LETTERS)))
    (ak_FIGURES : PySem.W.nsIn K mainGlobals "FIGURES" = some (some (.str "0123456789" tk_FIGURES)))
    (ak_MOST_LETTERS : PySem.W.nsIn K mainGlobals "MOST_LETTERS" = some (some (.int 8 tk_MOST_LETTERS)))
    (ak_MOST_FIGURES : PySem.W.nsIn K mainGlobals "MOST_FIGURES" = some (some (.int 20 tk_MOST_FIGURES)))
    (ak_MARKS : PySem.W.nsIn K mainGlobals "MARKS" = some (some (.ref k_MARKS)))
    (ak_MOST_ROOMS : PySem.W.nsIn K mainGlobals "MOST_ROOMS" = some (some (.int 12 tk_MOST_ROOMS)))
    (a_Clause_init : PySem.W.findIn K (.ref c_Clause) "__init__" = some (some (.ref f_Clause_init)))
    (l_Clause_init : K.lookup f_Clause_init = some ⟨oc_Clause_init, od_Clause_init, .func (PySem.W.fnOf "__init__" "Clause.__init__" (defArgs s_Clause_init) (defBody s_Clause_init) (defScope s_Clause_init) .none kV_Clause_init dc_Clause_init pm_Clause_init an_Clause_init cd_Clause_init ct_Clause_init), sl_Clause_init⟩)
    (c_Clause_init_ : PySem.W.codeIn K cd_Clause_init "Clause.__init__" = true)
    (k_Clause_init_ : PySem.W.keepIn K (.ref f_Clause_init) = true)
    (a_Duty_init : PySem.W.findIn K (.ref c_Duty) "__init__" = some (some (.ref f_Duty_init)))
    (l_Duty_init : K.lookup f_Duty_init = some ⟨oc_Duty_init, od_Duty_init, .func (PySem.W.fnOf "__init__" "Duty.__init__" (defArgs s_Duty_init) (defBody s_Duty_init) (defScope s_Duty_init) .none kV_Duty_init dc_Duty_init pm_Duty_init an_Duty_init cd_Duty_init ct_Duty_init), sl_Duty_init⟩)
    (c_Duty_init_ : PySem.W.codeIn K cd_Duty_init "Duty.__init__" = true)
    (k_Duty_init_ : PySem.W.keepIn K (.ref f_Duty_init) = true)
    (a_Ban_init : PySem.W.findIn K (.ref c_Ban) "__init__" = some (some (.ref f_Ban_init)))
    (l_Ban_init : K.lookup f_Ban_init = some ⟨oc_Ban_init, od_Ban_init, .func (PySem.W.fnOf "__init__" "Ban.__init__" (defArgs s_Ban_init) (defBody s_Ban_init) (defScope s_Ban_init) .none kV_Ban_init dc_Ban_init pm_Ban_init an_Ban_init cd_Ban_init ct_Ban_init), sl_Ban_init⟩)
    (c_Ban_init_ : PySem.W.codeIn K cd_Ban_init "Ban.__init__" = true)
    (k_Ban_init_ : PySem.W.keepIn K (.ref f_Ban_init) = true)
    (a_Power_init : PySem.W.findIn K (.ref c_Power) "__init__" = some (some (.ref f_Power_init)))
    (l_Power_init : K.lookup f_Power_init = some ⟨oc_Power_init, od_Power_init, .func (PySem.W.fnOf "__init__" "Power.__init__" (defArgs s_Power_init) (defBody s_Power_init) (defScope s_Power_init) .none kV_Power_init dc_Power_init pm_Power_init an_Power_init cd_Power_init ct_Power_init), sl_Power_init⟩)
    (c_Power_init_ : PySem.W.codeIn K cd_Power_init "Power.__init__" = true)
    (k_Power_init_ : PySem.W.keepIn K (.ref f_Power_init) = true)
    (a_Let_init : PySem.W.findIn K (.ref c_Let) "__init__" = some (some (.ref f_Let_init)))
    (l_Let_init : K.lookup f_Let_init = some ⟨oc_Let_init, od_Let_init, .func (PySem.W.fnOf "__init__" "Let.__init__" (defArgs s_Let_init) (defBody s_Let_init) (defScope s_Let_init) .none kV_Let_init dc_Let_init pm_Let_init an_Let_init cd_Let_init ct_Let_init), sl_Let_init⟩)
    (c_Let_init_ : PySem.W.codeIn K cd_Let_init "Let.__init__" = true)
    (k_Let_init_ : PySem.W.keepIn K (.ref f_Let_init) = true)
    (a_Part_init : PySem.W.findIn K (.ref c_Part) "__init__" = some (some (.ref f_Part_init)))
    (l_Part_init : K.lookup f_Part_init = some ⟨oc_Part_init, od_Part_init, .func (PySem.W.fnOf "__init__" "Part.__init__" (defArgs s_Part_init) (defBody s_Part_init) (defScope s_Part_init) .none kV_Part_init dc_Part_init pm_Part_init an_Part_init cd_Part_init ct_Part_init), sl_Part_init⟩)
    (c_Part_init_ : PySem.W.codeIn K cd_Part_init "Part.__init__" = true)
    (k_Part_init_ : PySem.W.keepIn K (.ref f_Part_init) = true)
    (a_v_is_name : PySem.W.nsIn K mainGlobals "is_name" = some (some (.ref f_v_is_name)))
    (l_v_is_name : K.lookup f_v_is_name = some ⟨oc_v_is_name, od_v_is_name, .func (PySem.W.fnOf "is_name" "is_name" (defArgs s_v_is_name) (defBody s_v_is_name) (defScope s_v_is_name) .none kV_v_is_name dc_v_is_name pm_v_is_name an_v_is_name cd_v_is_name ct_v_is_name), sl_v_is_name⟩)
    (c_v_is_name_ : PySem.W.codeIn K cd_v_is_name "is_name" = true)
    (k_v_is_name_ : PySem.W.keepIn K (.ref f_v_is_name) = true)
    (a_v_number_of : PySem.W.nsIn K mainGlobals "number_of" = some (some (.ref f_v_number_of)))
    (l_v_number_of : K.lookup f_v_number_of = some ⟨oc_v_number_of, od_v_number_of, .func (PySem.W.fnOf "number_of" "number_of" (defArgs s_v_number_of) (defBody s_v_number_of) (defScope s_v_number_of) .none kV_v_number_of dc_v_number_of pm_v_number_of an_v_number_of cd_v_number_of ct_v_number_of), sl_v_number_of⟩)
    (c_v_number_of_ : PySem.W.codeIn K cd_v_number_of "number_of" = true)
    (k_v_number_of_ : PySem.W.keepIn K (.ref f_v_number_of) = true)
    (a_v_written_with : PySem.W.nsIn K mainGlobals "written_with" = some (some (.ref f_v_written_with)))
    (l_v_written_with : K.lookup f_v_written_with = some ⟨oc_v_written_with, od_v_written_with, .func (PySem.W.fnOf "written_with" "written_with" (defArgs s_v_written_with) (defBody s_v_written_with) (defScope s_v_written_with) .none kV_v_written_with dc_v_written_with pm_v_written_with an_v_written_with cd_v_written_with ct_v_written_with), sl_v_written_with⟩)
    (c_v_written_with_ : PySem.W.codeIn K cd_v_written_with "written_with" = true)
    (k_v_written_with_ : PySem.W.keepIn K (.ref f_v_written_with) = true)
    (a_v_names_of : PySem.W.nsIn K mainGlobals "names_of" = some (some (.ref f_v_names_of)))
    (l_v_names_of : K.lookup f_v_names_of = some ⟨oc_v_names_of, od_v_names_of, .func (PySem.W.fnOf "names_of" "names_of" (defArgs s_v_names_of) (defBody s_v_names_of) (defScope s_v_names_of) .none kV_v_names_of dc_v_names_of pm_v_names_of an_v_names_of cd_v_names_of ct_v_names_of), sl_v_names_of⟩)
    (c_v_names_of_ : PySem.W.codeIn K cd_v_names_of "names_of" = true)
    (k_v_names_of_ : PySem.W.keepIn K (.ref f_v_names_of) = true)
    (a_v_are_names : PySem.W.nsIn K mainGlobals "are_names" = some (some (.ref f_v_are_names)))
    (l_v_are_names : K.lookup f_v_are_names = some ⟨oc_v_are_names, od_v_are_names, .func (PySem.W.fnOf "are_names" "are_names" (defArgs s_v_are_names) (defBody s_v_are_names) (defScope s_v_are_names) .none kV_v_are_names dc_v_are_names pm_v_are_names an_v_are_names cd_v_are_names ct_v_are_names), sl_v_are_names⟩)
    (c_v_are_names_ : PySem.W.codeIn K cd_v_are_names "are_names" = true)
    (k_v_are_names_ : PySem.W.keepIn K (.ref f_v_are_names) = true)
    (a_v_room_of : PySem.W.nsIn K mainGlobals "room_of" = some (some (.ref f_v_room_of)))
    (l_v_room_of : K.lookup f_v_room_of = some ⟨oc_v_room_of, od_v_room_of, .func (PySem.W.fnOf "room_of" "room_of" (defArgs s_v_room_of) (defBody s_v_room_of) (defScope s_v_room_of) .none kV_v_room_of dc_v_room_of pm_v_room_of an_v_room_of cd_v_room_of ct_v_room_of), sl_v_room_of⟩)
    (c_v_room_of_ : PySem.W.codeIn K cd_v_room_of "room_of" = true)
    (k_v_room_of_ : PySem.W.keepIn K (.ref f_v_room_of) = true)
    (a_v_let_of : PySem.W.nsIn K mainGlobals "let_of" = some (some (.ref f_v_let_of)))
    (l_v_let_of : K.lookup f_v_let_of = some ⟨oc_v_let_of, od_v_let_of, .func (PySem.W.fnOf "let_of" "let_of" (defArgs s_v_let_of) (defBody s_v_let_of) (defScope s_v_let_of) .none kV_v_let_of dc_v_let_of pm_v_let_of an_v_let_of cd_v_let_of ct_v_let_of), sl_v_let_of⟩)
    (c_v_let_of_ : PySem.W.codeIn K cd_v_let_of "let_of" = true)
    (k_v_let_of_ : PySem.W.keepIn K (.ref f_v_let_of) = true)
    (a_v_part_of : PySem.W.nsIn K mainGlobals "part_of" = some (some (.ref f_v_part_of)))
    (l_v_part_of : K.lookup f_v_part_of = some ⟨oc_v_part_of, od_v_part_of, .func (PySem.W.fnOf "part_of" "part_of" (defArgs s_v_part_of) (defBody s_v_part_of) (defScope s_v_part_of) .none kV_v_part_of dc_v_part_of pm_v_part_of an_v_part_of cd_v_part_of ct_v_part_of), sl_v_part_of⟩)
    (c_v_part_of_ : PySem.W.codeIn K cd_v_part_of "part_of" = true)
    (k_v_part_of_ : PySem.W.keepIn K (.ref f_v_part_of) = true)
    (a_v_clause_of : PySem.W.nsIn K mainGlobals "clause_of" = some (some (.ref f_v_clause_of)))
    (l_v_clause_of : K.lookup f_v_clause_of = some ⟨oc_v_clause_of, od_v_clause_of, .func (PySem.W.fnOf "clause_of" "clause_of" (defArgs s_v_clause_of) (defBody s_v_clause_of) (defScope s_v_clause_of) .none kV_v_clause_of dc_v_clause_of pm_v_clause_of an_v_clause_of cd_v_clause_of ct_v_clause_of), sl_v_clause_of⟩)
    (c_v_clause_of_ : PySem.W.codeIn K cd_v_clause_of "clause_of" = true)
    (k_v_clause_of_ : PySem.W.keepIn K (.ref f_v_clause_of) = true)
    (a_v_fits_form : PySem.W.nsIn K mainGlobals "fits_form" = some (some (.ref f_v_fits_form)))
    (l_v_fits_form : K.lookup f_v_fits_form = some ⟨oc_v_fits_form, od_v_fits_form, .func (PySem.W.fnOf "fits_form" "fits_form" (defArgs s_v_fits_form) (defBody s_v_fits_form) (defScope s_v_fits_form) .none kV_v_fits_form dc_v_fits_form pm_v_fits_form an_v_fits_form cd_v_fits_form ct_v_fits_form), sl_v_fits_form⟩)
    (c_v_fits_form_ : PySem.W.codeIn K cd_v_fits_form "fits_form" = true)
    (k_v_fits_form_ : PySem.W.keepIn K (.ref f_v_fits_form) = true)
    (a_v_fits_place : PySem.W.nsIn K mainGlobals "fits_place" = some (some (.ref f_v_fits_place)))
    (l_v_fits_place : K.lookup f_v_fits_place = some ⟨oc_v_fits_place, od_v_fits_place, .func (PySem.W.fnOf "fits_place" "fits_place" (defArgs s_v_fits_place) (defBody s_v_fits_place) (defScope s_v_fits_place) .none kV_v_fits_place dc_v_fits_place pm_v_fits_place an_v_fits_place cd_v_fits_place ct_v_fits_place), sl_v_fits_place⟩)
    (c_v_fits_place_ : PySem.W.codeIn K cd_v_fits_place "fits_place" = true)
    (k_v_fits_place_ : PySem.W.keepIn K (.ref f_v_fits_place) = true)
    (a_w_cell_at : PySem.W.nsIn K mainGlobals "_law_cell_at" = some (some (.ref f_w_cell_at)))
    (l_w_cell_at : K.lookup f_w_cell_at = some ⟨oc_w_cell_at, od_w_cell_at, .func (PySem.W.fnOf "_law_cell_at" "_law_cell_at" (defArgs s_w_cell_at) (defBody s_w_cell_at) (defScope s_w_cell_at) .none kV_w_cell_at dc_w_cell_at pm_w_cell_at an_w_cell_at cd_w_cell_at ct_w_cell_at), sl_w_cell_at⟩)
    (c_w_cell_at_ : PySem.W.codeIn K cd_w_cell_at "_law_cell_at" = true)
    (k_w_cell_at_ : PySem.W.keepIn K (.ref f_w_cell_at) = true)
    (a_w_mix : PySem.W.nsIn K mainGlobals "_law_mix" = some (some (.ref f_w_mix)))
    (l_w_mix : K.lookup f_w_mix = some ⟨oc_w_mix, od_w_mix, .func (PySem.W.fnOf "_law_mix" "_law_mix" (defArgs s_w_mix) (defBody s_w_mix) (defScope s_w_mix) .none kV_w_mix dc_w_mix pm_w_mix an_w_mix cd_w_mix ct_w_mix), sl_w_mix⟩)
    (c_w_mix_ : PySem.W.codeIn K cd_w_mix "_law_mix" = true)
    (k_w_mix_ : PySem.W.keepIn K (.ref f_w_mix) = true)
    (a_w_name : PySem.W.nsIn K mainGlobals "_law_name" = some (some (.ref f_w_name)))
    (l_w_name : K.lookup f_w_name = some ⟨oc_w_name, od_w_name, .func (PySem.W.fnOf "_law_name" "_law_name" (defArgs s_w_name) (defBody s_w_name) (defScope s_w_name) .none kV_w_name dc_w_name pm_w_name an_w_name cd_w_name ct_w_name), sl_w_name⟩)
    (c_w_name_ : PySem.W.codeIn K cd_w_name "_law_name" = true)
    (k_w_name_ : PySem.W.keepIn K (.ref f_w_name) = true)
    (a_w_kept : PySem.W.nsIn K mainGlobals "_law_kept" = some (some (.ref f_w_kept)))
    (l_w_kept : K.lookup f_w_kept = some ⟨oc_w_kept, od_w_kept, .func (PySem.W.fnOf "_law_kept" "_law_kept" (defArgs s_w_kept) (defBody s_w_kept) (defScope s_w_kept) .none kV_w_kept dc_w_kept pm_w_kept an_w_kept cd_w_kept ct_w_kept), sl_w_kept⟩)
    (c_w_kept_ : PySem.W.codeIn K cd_w_kept "_law_kept" = true)
    (k_w_kept_ : PySem.W.keepIn K (.ref f_w_kept) = true)
    (a_w_good : PySem.W.nsIn K mainGlobals "_law_good" = some (some (.ref f_w_good)))
    (l_w_good : K.lookup f_w_good = some ⟨oc_w_good, od_w_good, .func (PySem.W.fnOf "_law_good" "_law_good" (defArgs s_w_good) (defBody s_w_good) (defScope s_w_good) .none kV_w_good dc_w_good pm_w_good an_w_good cd_w_good ct_w_good), sl_w_good⟩)
    (c_w_good_ : PySem.W.codeIn K cd_w_good "_law_good" = true)
    (k_w_good_ : PySem.W.keepIn K (.ref f_w_good) = true)
    (a_w_spoilt : PySem.W.nsIn K mainGlobals "_law_spoilt" = some (some (.ref f_w_spoilt)))
    (l_w_spoilt : K.lookup f_w_spoilt = some ⟨oc_w_spoilt, od_w_spoilt, .func (PySem.W.fnOf "_law_spoilt" "_law_spoilt" (defArgs s_w_spoilt) (defBody s_w_spoilt) (defScope s_w_spoilt) .none kV_w_spoilt dc_w_spoilt pm_w_spoilt an_w_spoilt cd_w_spoilt ct_w_spoilt), sl_w_spoilt⟩)
    (c_w_spoilt_ : PySem.W.codeIn K cd_w_spoilt "_law_spoilt" = true)
    (k_w_spoilt_ : PySem.W.keepIn K (.ref f_w_spoilt) = true)
    (a_w_clause : PySem.W.nsIn K mainGlobals "_law_clause" = some (some (.ref f_w_clause)))
    (l_w_clause : K.lookup f_w_clause = some ⟨oc_w_clause, od_w_clause, .func (PySem.W.fnOf "_law_clause" "_law_clause" (defArgs s_w_clause) (defBody s_w_clause) (defScope s_w_clause) .none kV_w_clause dc_w_clause pm_w_clause an_w_clause cd_w_clause ct_w_clause), sl_w_clause⟩)
    (c_w_clause_ : PySem.W.codeIn K cd_w_clause "_law_clause" = true)
    (k_w_clause_ : PySem.W.keepIn K (.ref f_w_clause) = true)
    (a_w_told : PySem.W.nsIn K mainGlobals "_law_told" = some (some (.ref f_w_told)))
    (l_w_told : K.lookup f_w_told = some ⟨oc_w_told, od_w_told, .func (PySem.W.fnOf "_law_told" "_law_told" (defArgs s_w_told) (defBody s_w_told) (defScope s_w_told) .none kV_w_told dc_w_told pm_w_told an_w_told cd_w_told ct_w_told), sl_w_told⟩)
    (c_w_told_ : PySem.W.codeIn K cd_w_told "_law_told" = true)
    (k_w_told_ : PySem.W.keepIn K (.ref f_w_told) = true)
    (a_w_names_right : PySem.W.nsIn K mainGlobals "_law_names_right" = some (some (.ref f_w_names_right)))
    (l_w_names_right : K.lookup f_w_names_right = some ⟨oc_w_names_right, od_w_names_right, .func (PySem.W.fnOf "_law_names_right" "_law_names_right" (defArgs s_w_names_right) (defBody s_w_names_right) (defScope s_w_names_right) .none kV_w_names_right dc_w_names_right pm_w_names_right an_w_names_right cd_w_names_right ct_w_names_right), sl_w_names_right⟩)
    (c_w_names_right_ : PySem.W.codeIn K cd_w_names_right "_law_names_right" = true)
    (k_w_names_right_ : PySem.W.keepIn K (.ref f_w_names_right) = true)
    (a_v_law : PySem.W.nsIn K mainGlobals "law" = some (some (.ref f_v_law)))
    (l_v_law : K.lookup f_v_law = some ⟨oc_v_law, od_v_law, .func (PySem.W.fnOf "law" "law" (defArgs s_v_law) (defBody s_v_law) (defScope s_v_law) .none kV_v_law dc_v_law pm_v_law an_v_law cd_v_law ct_v_law), sl_v_law⟩)
    (c_v_law_ : PySem.W.codeIn K cd_v_law "law" = true)
    (k_v_law_ : PySem.W.keepIn K (.ref f_v_law) = true)
    (z_list : PySem.W.nsIn K mainGlobals "list" = some none)
    (z_len : PySem.W.nsIn K mainGlobals "len" = some none)
    (z_range : PySem.W.nsIn K mainGlobals "range" = some none)
    (z_all : PySem.W.nsIn K mainGlobals "all" = some none)
    (z_int : PySem.W.nsIn K mainGlobals "int" = some none)
    (z_str : PySem.W.nsIn K mainGlobals "str" = some none)
    (z_isinstance : PySem.W.nsIn K mainGlobals "isinstance" = some none)
    (z_bool : PySem.W.nsIn K mainGlobals "bool" = some none)
    (z_tuple : PySem.W.nsIn K mainGlobals "tuple" = some none)
    (z_zip : PySem.W.nsIn K mainGlobals "zip" = some none)
    (lK_KEPT : K.lookup k_KEPT = some oK_KEPT)
    (hK_KEPT : ∃ (its : Array Value) (n : Nat), oK_KEPT.cls = .type "tuple" ∧ oK_KEPT.data = .seq its n ∧ its.size ≤ sizeLine ∧ Vals (ks_KEPT.map V.str) its.toList)
    (lK_MARKS : K.lookup k_MARKS = some oK_MARKS)
    (hK_MARKS : ∃ (its : Array Value) (n : Nat), oK_MARKS.cls = .type "tuple" ∧ oK_MARKS.data = .seq its n ∧ its.size ≤ sizeLine ∧ Vals (ks_MARKS.map V.str) its.toList)
    (cl_Row_pg : PySem.W.plainGet K c_Row Str.empty = true)
    (cl_Row_hd : PySem.W.hasDictIn K c_Row = true)
    (cl_Row_po : PySem.W.plainOver K c_Row = true)
    (cl_Row_sa : PySem.W.findIn K (.ref c_Row) "__setattr__" = some (some (.builtin "object.__setattr__")))
    (na_Row_act_k : PySem.W.findIn K (.ref c_Row) "act" = some none)
    (na_Row_label_k : PySem.W.findIn K (.ref c_Row) "label" = some none)
    (na_Row_name_k : PySem.W.findIn K (.ref c_Row) "name" = some none)
    (na_Row_room_k : PySem.W.findIn K (.ref c_Row) "room" = some none)
    (na_Row_rooms_k : PySem.W.findIn K (.ref c_Row) "rooms" = some none)
    (na_Row_rows_k : PySem.W.findIn K (.ref c_Row) "rows" = some none)
    (na_Row_turns_k : PySem.W.findIn K (.ref c_Row) "turns" = some none)
    (na_Row_value_k : PySem.W.findIn K (.ref c_Row) "value" = some none)
    (na_Row_who_k : PySem.W.findIn K (.ref c_Row) "who" = some none)
    (mk0_Row_mk : PySem.W.makesIn K c_Row = true)
    (mk0_Row_in : PySem.W.findIn K (.ref c_Row) "__init__" = some (some (.builtin "object.__init__")))
    (mk0_Row_kp : PySem.W.keepIn K (.ref c_Row) = true)
    (cl_Clause_pg : PySem.W.plainGet K c_Clause Str.empty = true)
    (cl_Clause_hd : PySem.W.hasDictIn K c_Clause = true)
    (cl_Clause_po : PySem.W.plainOver K c_Clause = true)
    (cl_Clause_sa : PySem.W.findIn K (.ref c_Clause) "__setattr__" = some (some (.builtin "object.__setattr__")))
    (na_Clause_act_k : PySem.W.findIn K (.ref c_Clause) "act" = some none)
    (na_Clause_label_k : PySem.W.findIn K (.ref c_Clause) "label" = some none)
    (na_Clause_name_k : PySem.W.findIn K (.ref c_Clause) "name" = some none)
    (na_Clause_room_k : PySem.W.findIn K (.ref c_Clause) "room" = some none)
    (na_Clause_rooms_k : PySem.W.findIn K (.ref c_Clause) "rooms" = some none)
    (na_Clause_rows_k : PySem.W.findIn K (.ref c_Clause) "rows" = some none)
    (na_Clause_turns_k : PySem.W.findIn K (.ref c_Clause) "turns" = some none)
    (na_Clause_value_k : PySem.W.findIn K (.ref c_Clause) "value" = some none)
    (na_Clause_who_k : PySem.W.findIn K (.ref c_Clause) "who" = some none)
    (mk_Clause_mk : PySem.W.makesIn K c_Clause = true)
    (mk_Clause_in : PySem.W.findIn K (.ref c_Clause) "__init__" = some (some (.ref f_Clause_init)))
    (mk_Clause_fn : PySem.W.isFn K (.ref f_Clause_init) = true)
    (mk_Clause_kp : PySem.W.keepIn K (.ref c_Clause) = true)
    (cl_Duty_pg : PySem.W.plainGet K c_Duty Str.empty = true)
    (cl_Duty_hd : PySem.W.hasDictIn K c_Duty = true)
    (cl_Duty_po : PySem.W.plainOver K c_Duty = true)
    (cl_Duty_sa : PySem.W.findIn K (.ref c_Duty) "__setattr__" = some (some (.builtin "object.__setattr__")))
    (na_Duty_act_k : PySem.W.findIn K (.ref c_Duty) "act" = some none)
    (na_Duty_label_k : PySem.W.findIn K (.ref c_Duty) "label" = some none)
    (na_Duty_name_k : PySem.W.findIn K (.ref c_Duty) "name" = some none)
    (na_Duty_room_k : PySem.W.findIn K (.ref c_Duty) "room" = some none)
    (na_Duty_rooms_k : PySem.W.findIn K (.ref c_Duty) "rooms" = some none)
    (na_Duty_rows_k : PySem.W.findIn K (.ref c_Duty) "rows" = some none)
    (na_Duty_turns_k : PySem.W.findIn K (.ref c_Duty) "turns" = some none)
    (na_Duty_value_k : PySem.W.findIn K (.ref c_Duty) "value" = some none)
    (na_Duty_who_k : PySem.W.findIn K (.ref c_Duty) "who" = some none)
    (mk_Duty_mk : PySem.W.makesIn K c_Duty = true)
    (mk_Duty_in : PySem.W.findIn K (.ref c_Duty) "__init__" = some (some (.ref f_Duty_init)))
    (mk_Duty_fn : PySem.W.isFn K (.ref f_Duty_init) = true)
    (mk_Duty_kp : PySem.W.keepIn K (.ref c_Duty) = true)
    (cl_Leave_pg : PySem.W.plainGet K c_Leave Str.empty = true)
    (cl_Leave_hd : PySem.W.hasDictIn K c_Leave = true)
    (cl_Leave_po : PySem.W.plainOver K c_Leave = true)
    (cl_Leave_sa : PySem.W.findIn K (.ref c_Leave) "__setattr__" = some (some (.builtin "object.__setattr__")))
    (na_Leave_act_k : PySem.W.findIn K (.ref c_Leave) "act" = some none)
    (na_Leave_label_k : PySem.W.findIn K (.ref c_Leave) "label" = some none)
    (na_Leave_name_k : PySem.W.findIn K (.ref c_Leave) "name" = some none)
    (na_Leave_room_k : PySem.W.findIn K (.ref c_Leave) "room" = some none)
    (na_Leave_rooms_k : PySem.W.findIn K (.ref c_Leave) "rooms" = some none)
    (na_Leave_rows_k : PySem.W.findIn K (.ref c_Leave) "rows" = some none)
    (na_Leave_turns_k : PySem.W.findIn K (.ref c_Leave) "turns" = some none)
    (na_Leave_value_k : PySem.W.findIn K (.ref c_Leave) "value" = some none)
    (na_Leave_who_k : PySem.W.findIn K (.ref c_Leave) "who" = some none)
    (mk_Leave_mk : PySem.W.makesIn K c_Leave = true)
    (mk_Leave_in : PySem.W.findIn K (.ref c_Leave) "__init__" = some (some (.ref f_Clause_init)))
    (mk_Leave_fn : PySem.W.isFn K (.ref f_Clause_init) = true)
    (mk_Leave_kp : PySem.W.keepIn K (.ref c_Leave) = true)
    (cl_Ban_pg : PySem.W.plainGet K c_Ban Str.empty = true)
    (cl_Ban_hd : PySem.W.hasDictIn K c_Ban = true)
    (cl_Ban_po : PySem.W.plainOver K c_Ban = true)
    (cl_Ban_sa : PySem.W.findIn K (.ref c_Ban) "__setattr__" = some (some (.builtin "object.__setattr__")))
    (na_Ban_act_k : PySem.W.findIn K (.ref c_Ban) "act" = some none)
    (na_Ban_label_k : PySem.W.findIn K (.ref c_Ban) "label" = some none)
    (na_Ban_name_k : PySem.W.findIn K (.ref c_Ban) "name" = some none)
    (na_Ban_room_k : PySem.W.findIn K (.ref c_Ban) "room" = some none)
    (na_Ban_rooms_k : PySem.W.findIn K (.ref c_Ban) "rooms" = some none)
    (na_Ban_rows_k : PySem.W.findIn K (.ref c_Ban) "rows" = some none)
    (na_Ban_turns_k : PySem.W.findIn K (.ref c_Ban) "turns" = some none)
    (na_Ban_value_k : PySem.W.findIn K (.ref c_Ban) "value" = some none)
    (na_Ban_who_k : PySem.W.findIn K (.ref c_Ban) "who" = some none)
    (mk_Ban_mk : PySem.W.makesIn K c_Ban = true)
    (mk_Ban_in : PySem.W.findIn K (.ref c_Ban) "__init__" = some (some (.ref f_Ban_init)))
    (mk_Ban_fn : PySem.W.isFn K (.ref f_Ban_init) = true)
    (mk_Ban_kp : PySem.W.keepIn K (.ref c_Ban) = true)
    (cl_Power_pg : PySem.W.plainGet K c_Power Str.empty = true)
    (cl_Power_hd : PySem.W.hasDictIn K c_Power = true)
    (cl_Power_po : PySem.W.plainOver K c_Power = true)
    (cl_Power_sa : PySem.W.findIn K (.ref c_Power) "__setattr__" = some (some (.builtin "object.__setattr__")))
    (na_Power_act_k : PySem.W.findIn K (.ref c_Power) "act" = some none)
    (na_Power_label_k : PySem.W.findIn K (.ref c_Power) "label" = some none)
    (na_Power_name_k : PySem.W.findIn K (.ref c_Power) "name" = some none)
    (na_Power_room_k : PySem.W.findIn K (.ref c_Power) "room" = some none)
    (na_Power_rooms_k : PySem.W.findIn K (.ref c_Power) "rooms" = some none)
    (na_Power_rows_k : PySem.W.findIn K (.ref c_Power) "rows" = some none)
    (na_Power_turns_k : PySem.W.findIn K (.ref c_Power) "turns" = some none)
    (na_Power_value_k : PySem.W.findIn K (.ref c_Power) "value" = some none)
    (na_Power_who_k : PySem.W.findIn K (.ref c_Power) "who" = some none)
    (mk_Power_mk : PySem.W.makesIn K c_Power = true)
    (mk_Power_in : PySem.W.findIn K (.ref c_Power) "__init__" = some (some (.ref f_Power_init)))
    (mk_Power_fn : PySem.W.isFn K (.ref f_Power_init) = true)
    (mk_Power_kp : PySem.W.keepIn K (.ref c_Power) = true)
    (cl_Let_pg : PySem.W.plainGet K c_Let Str.empty = true)
    (cl_Let_hd : PySem.W.hasDictIn K c_Let = true)
    (cl_Let_po : PySem.W.plainOver K c_Let = true)
    (cl_Let_sa : PySem.W.findIn K (.ref c_Let) "__setattr__" = some (some (.builtin "object.__setattr__")))
    (na_Let_act_k : PySem.W.findIn K (.ref c_Let) "act" = some none)
    (na_Let_label_k : PySem.W.findIn K (.ref c_Let) "label" = some none)
    (na_Let_name_k : PySem.W.findIn K (.ref c_Let) "name" = some none)
    (na_Let_room_k : PySem.W.findIn K (.ref c_Let) "room" = some none)
    (na_Let_rooms_k : PySem.W.findIn K (.ref c_Let) "rooms" = some none)
    (na_Let_rows_k : PySem.W.findIn K (.ref c_Let) "rows" = some none)
    (na_Let_turns_k : PySem.W.findIn K (.ref c_Let) "turns" = some none)
    (na_Let_value_k : PySem.W.findIn K (.ref c_Let) "value" = some none)
    (na_Let_who_k : PySem.W.findIn K (.ref c_Let) "who" = some none)
    (mk_Let_mk : PySem.W.makesIn K c_Let = true)
    (mk_Let_in : PySem.W.findIn K (.ref c_Let) "__init__" = some (some (.ref f_Let_init)))
    (mk_Let_fn : PySem.W.isFn K (.ref f_Let_init) = true)
    (mk_Let_kp : PySem.W.keepIn K (.ref c_Let) = true)
    (cl_Part_pg : PySem.W.plainGet K c_Part Str.empty = true)
    (cl_Part_hd : PySem.W.hasDictIn K c_Part = true)
    (cl_Part_po : PySem.W.plainOver K c_Part = true)
    (cl_Part_sa : PySem.W.findIn K (.ref c_Part) "__setattr__" = some (some (.builtin "object.__setattr__")))
    (na_Part_act_k : PySem.W.findIn K (.ref c_Part) "act" = some none)
    (na_Part_label_k : PySem.W.findIn K (.ref c_Part) "label" = some none)
    (na_Part_name_k : PySem.W.findIn K (.ref c_Part) "name" = some none)
    (na_Part_room_k : PySem.W.findIn K (.ref c_Part) "room" = some none)
    (na_Part_rooms_k : PySem.W.findIn K (.ref c_Part) "rooms" = some none)
    (na_Part_rows_k : PySem.W.findIn K (.ref c_Part) "rows" = some none)
    (na_Part_turns_k : PySem.W.findIn K (.ref c_Part) "turns" = some none)
    (na_Part_value_k : PySem.W.findIn K (.ref c_Part) "value" = some none)
    (na_Part_who_k : PySem.W.findIn K (.ref c_Part) "who" = some none)
    (mk_Part_mk : PySem.W.makesIn K c_Part = true)
    (mk_Part_in : PySem.W.findIn K (.ref c_Part) "__init__" = some (some (.ref f_Part_init)))
    (mk_Part_fn : PySem.W.isFn K (.ref f_Part_init) = true)
    (mk_Part_kp : PySem.W.keepIn K (.ref c_Part) = true)
    (cm_Clause_ga : PySem.W.specialIn K (.ref c_Clause) "__getattribute__" = some (some (.builtin "type.__getattribute__")))
    (cm_Clause_rd : PySem.W.readsIn K c_Clause (.type "type") = true)
    (cm_Clause_at : PySem.W.findCls K (.ref c_Clause) (.type "type") "__init__" = some (.val (.ref f_Clause_init)))
    (cm_Leave_ga : PySem.W.specialIn K (.ref c_Leave) "__getattribute__" = some (some (.builtin "type.__getattribute__")))
    (cm_Leave_rd : PySem.W.readsIn K c_Leave (.type "type") = true)
    (cm_Leave_at : PySem.W.findCls K (.ref c_Leave) (.type "type") "__init__" = some (.val (.ref f_Clause_init)))
    (ki_Duty_Duty_k : PySem.W.kitOne K (.ref c_Duty) (.ref c_Duty) = some true)
    (ki_Duty_Leave_k : PySem.W.kitOne K (.ref c_Duty) (.ref c_Leave) = some false)
    (ki_Duty_Ban_k : PySem.W.kitOne K (.ref c_Duty) (.ref c_Ban) = some false)
    (ki_Duty_Power_k : PySem.W.kitOne K (.ref c_Duty) (.ref c_Power) = some false)
    (ki_Leave_Duty_k : PySem.W.kitOne K (.ref c_Leave) (.ref c_Duty) = some false)
    (ki_Leave_Leave_k : PySem.W.kitOne K (.ref c_Leave) (.ref c_Leave) = some true)
    (ki_Leave_Ban_k : PySem.W.kitOne K (.ref c_Leave) (.ref c_Ban) = some false)
    (ki_Leave_Power_k : PySem.W.kitOne K (.ref c_Leave) (.ref c_Power) = some false)
    (ki_Ban_Duty_k : PySem.W.kitOne K (.ref c_Ban) (.ref c_Duty) = some false)
    (ki_Ban_Leave_k : PySem.W.kitOne K (.ref c_Ban) (.ref c_Leave) = some false)
    (ki_Ban_Ban_k : PySem.W.kitOne K (.ref c_Ban) (.ref c_Ban) = some true)
    (ki_Ban_Power_k : PySem.W.kitOne K (.ref c_Ban) (.ref c_Power) = some false)
    (ki_Power_Duty_k : PySem.W.kitOne K (.ref c_Power) (.ref c_Duty) = some false)
    (ki_Power_Leave_k : PySem.W.kitOne K (.ref c_Power) (.ref c_Leave) = some true)
    (ki_Power_Ban_k : PySem.W.kitOne K (.ref c_Power) (.ref c_Ban) = some false)
    (ki_Power_Power_k : PySem.W.kitOne K (.ref c_Power) (.ref c_Power) = some true)
    (ki_Let_Let_k : PySem.W.kitOne K (.ref c_Let) (.ref c_Let) = some true)
    (ki_Let_Row_k : PySem.W.kitOne K (.ref c_Let) (.ref c_Row) = some true)
    (ki_Part_Row_k : PySem.W.kitOne K (.ref c_Part) (.ref c_Row) = some true)
    (ki_Part_Part_k : PySem.W.kitOne K (.ref c_Part) (.ref c_Part) = some true)
    (ki_int_bool_k : PySem.W.kitOne K (.type "int") (.type "bool") = some false)
    (oc_get_k : PySem.W.specialIn K (.builtin "object.__class__") "__get__" = some (some (.builtin "getset_descriptor.__get__")))
    (oc_tk_k : PySem.W.takesIn K (.builtin "object.__class__") = some true)
    (tc_Row_a : PySem.W.findIn K (.ref c_Row) "__class__" = some (some (.builtin "object.__class__")))
    (tc_Row_m : PySem.W.mroIn K c_Row (.type "object") = some true)
    (tc_Clause_a : PySem.W.findIn K (.ref c_Clause) "__class__" = some (some (.builtin "object.__class__")))
    (tc_Clause_m : PySem.W.mroIn K c_Clause (.type "object") = some true)
    (tc_Duty_a : PySem.W.findIn K (.ref c_Duty) "__class__" = some (some (.builtin "object.__class__")))
    (tc_Duty_m : PySem.W.mroIn K c_Duty (.type "object") = some true)
    (tc_Leave_a : PySem.W.findIn K (.ref c_Leave) "__class__" = some (some (.builtin "object.__class__")))
    (tc_Leave_m : PySem.W.mroIn K c_Leave (.type "object") = some true)
    (tc_Ban_a : PySem.W.findIn K (.ref c_Ban) "__class__" = some (some (.builtin "object.__class__")))
    (tc_Ban_m : PySem.W.mroIn K c_Ban (.type "object") = some true)
    (tc_Power_a : PySem.W.findIn K (.ref c_Power) "__class__" = some (some (.builtin "object.__class__")))
    (tc_Power_m : PySem.W.mroIn K c_Power (.type "object") = some true)
    (tc_Let_a : PySem.W.findIn K (.ref c_Let) "__class__" = some (some (.builtin "object.__class__")))
    (tc_Let_m : PySem.W.mroIn K c_Let (.type "object") = some true)
    (tc_Part_a : PySem.W.findIn K (.ref c_Part) "__class__" = some (some (.builtin "object.__class__")))
    (tc_Part_m : PySem.W.mroIn K c_Part (.type "object") = some true)
    : ∃ t : Adr, Txt K mg t ∧ mg "law" = some (.ref t.f_v_law) := by
  have F_Clause_init := fun_mk (st := s_Clause_init) l_Clause_init c_Clause_init_ k_Clause_init_
  have B_Clause_init := F_Clause_init.binds (ps := ["self", "label", "who", "act"]) fun _ _ _ _ _ _ us hl => match us, hl with | [_, _, _, _], _ => rfl
  have F_Duty_init := fun_mk (st := s_Duty_init) l_Duty_init c_Duty_init_ k_Duty_init_
  have B_Duty_init := F_Duty_init.binds (ps := ["self", "label", "who", "act", "turns", "room"]) fun _ _ _ _ _ _ us hl => match us, hl with | [_, _, _, _, _, _], _ => rfl
  have F_Ban_init := fun_mk (st := s_Ban_init) l_Ban_init c_Ban_init_ k_Ban_init_
  have B_Ban_init := F_Ban_init.binds (ps := ["self", "label", "who", "act", "room"]) fun _ _ _ _ _ _ us hl => match us, hl with | [_, _, _, _, _], _ => rfl
  have F_Power_init := fun_mk (st := s_Power_init) l_Power_init c_Power_init_ k_Power_init_
  have B_Power_init := F_Power_init.binds (ps := ["self", "label", "who", "act", "room"]) fun _ _ _ _ _ _ us hl => match us, hl with | [_, _, _, _, _], _ => rfl
  have F_Let_init := fun_mk (st := s_Let_init) l_Let_init c_Let_init_ k_Let_init_
  have B_Let_init := F_Let_init.binds (ps := ["self", "name", "value"]) fun _ _ _ _ _ _ us hl => match us, hl with | [_, _, _], _ => rfl
  have F_Part_init := fun_mk (st := s_Part_init) l_Part_init c_Part_init_ k_Part_init_
  have B_Part_init := F_Part_init.binds (ps := ["self", "name", "rooms", "rows"]) fun _ _ _ _ _ _ us hl => match us, hl with | [_, _, _, _], _ => rfl
  have F_v_is_name := fun_mk (st := s_v_is_name) l_v_is_name c_v_is_name_ k_v_is_name_
  have B_v_is_name := F_v_is_name.binds (ps := ["word"]) fun _ _ _ _ _ _ us hl => match us, hl with | [_], _ => rfl
  have F_v_number_of := fun_mk (st := s_v_number_of) l_v_number_of c_v_number_of_ k_v_number_of_
  have B_v_number_of := F_v_number_of.binds (ps := ["word"]) fun _ _ _ _ _ _ us hl => match us, hl with | [_], _ => rfl
  have F_v_written_with := fun_mk (st := s_v_written_with) l_v_written_with c_v_written_with_ k_v_written_with_
  have B_v_written_with := F_v_written_with.binds (ps := ["word", "signs", "most"]) fun _ _ _ _ _ _ us hl => match us, hl with | [_, _, _], _ => rfl
  have F_v_names_of := fun_mk (st := s_v_names_of) l_v_names_of c_v_names_of_ k_v_names_of_
  have B_v_names_of := F_v_names_of.binds (ps := ["row", "word", "most"]) fun _ _ _ _ _ _ us hl => match us, hl with | [_, _, _], _ => rfl
  have F_v_are_names := fun_mk (st := s_v_are_names) l_v_are_names c_v_are_names_ k_v_are_names_
  have B_v_are_names := F_v_are_names.binds (ps := ["words", "most"]) fun _ _ _ _ _ _ us hl => match us, hl with | [_, _], _ => rfl
  have F_v_room_of := fun_mk (st := s_v_room_of) l_v_room_of c_v_room_of_ k_v_room_of_
  have B_v_room_of := F_v_room_of.binds (ps := ["row"]) fun _ _ _ _ _ _ us hl => match us, hl with | [_], _ => rfl
  have F_v_let_of := fun_mk (st := s_v_let_of) l_v_let_of c_v_let_of_ k_v_let_of_
  have B_v_let_of := F_v_let_of.binds (ps := ["row"]) fun _ _ _ _ _ _ us hl => match us, hl with | [_], _ => rfl
  have F_v_part_of := fun_mk (st := s_v_part_of) l_v_part_of c_v_part_of_ k_v_part_of_
  have B_v_part_of := F_v_part_of.binds (ps := ["row"]) fun _ _ _ _ _ _ us hl => match us, hl with | [_], _ => rfl
  have F_v_clause_of := fun_mk (st := s_v_clause_of) l_v_clause_of c_v_clause_of_ k_v_clause_of_
  have B_v_clause_of := F_v_clause_of.binds (ps := ["row"]) fun _ _ _ _ _ _ us hl => match us, hl with | [_], _ => rfl
  have F_v_fits_form := fun_mk (st := s_v_fits_form) l_v_fits_form c_v_fits_form_ k_v_fits_form_
  have B_v_fits_form := F_v_fits_form.binds (ps := ["words", "form"]) fun _ _ _ _ _ _ us hl => match us, hl with | [_, _], _ => rfl
  have F_v_fits_place := fun_mk (st := s_v_fits_place) l_v_fits_place c_v_fits_place_ k_v_fits_place_
  have B_v_fits_place := F_v_fits_place.binds (ps := ["word", "place"]) fun _ _ _ _ _ _ us hl => match us, hl with | [_, _], _ => rfl
  have F_w_cell_at := fun_mk (st := s_w_cell_at) l_w_cell_at c_w_cell_at_ k_w_cell_at_
  have B_w_cell_at := F_w_cell_at.binds (ps := ["_law_script", "_law_k"]) fun _ _ _ _ _ _ us hl => match us, hl with | [_, _], _ => rfl
  have F_w_mix := fun_mk (st := s_w_mix) l_w_mix c_w_mix_ k_w_mix_
  have B_w_mix := F_w_mix.binds (ps := ["_law_cell", "_law_k"]) fun _ _ _ _ _ _ us hl => match us, hl with | [_, _], _ => rfl
  have F_w_name := fun_mk (st := s_w_name) l_w_name c_w_name_ k_w_name_
  have B_w_name := F_w_name.binds (ps := ["_law_cell", "_law_k"]) fun _ _ _ _ _ _ us hl => match us, hl with | [_, _], _ => rfl
  have F_w_kept := fun_mk (st := s_w_kept) l_w_kept c_w_kept_ k_w_kept_
  have B_w_kept := F_w_kept.binds (ps := ["_law_cell"]) fun _ _ _ _ _ _ us hl => match us, hl with | [_], _ => rfl
  have F_w_good := fun_mk (st := s_w_good) l_w_good c_w_good_ k_w_good_
  have B_w_good := F_w_good.binds (ps := ["_law_names", "_law_cell"]) fun _ _ _ _ _ _ us hl => match us, hl with | [_, _], _ => rfl
  have F_w_spoilt := fun_mk (st := s_w_spoilt) l_w_spoilt c_w_spoilt_ k_w_spoilt_
  have B_w_spoilt := F_w_spoilt.binds (ps := ["_law_names", "_law_words", "_law_cell"]) fun _ _ _ _ _ _ us hl => match us, hl with | [_, _, _], _ => rfl
  have F_w_clause := fun_mk (st := s_w_clause) l_w_clause c_w_clause_ k_w_clause_
  have B_w_clause := F_w_clause.binds (ps := ["_law_row"]) fun _ _ _ _ _ _ us hl => match us, hl with | [_], _ => rfl
  have F_w_told := fun_mk (st := s_w_told) l_w_told c_w_told_ k_w_told_
  have B_w_told := F_w_told.binds (ps := ["_law_row"]) fun _ _ _ _ _ _ us hl => match us, hl with | [_], _ => rfl
  have F_w_names_right := fun_mk (st := s_w_names_right) l_w_names_right c_w_names_right_ k_w_names_right_
  have B_w_names_right := F_w_names_right.binds (ps := ["_law_names", "_law_cell"]) fun _ _ _ _ _ _ us hl => match us, hl with | [_, _], _ => rfl
  have F_v_law := fun_mk (st := s_v_law) l_v_law c_v_law_ k_v_law_
  have B_v_law := F_v_law.binds (ps := ["_law_script"]) fun _ _ _ _ _ _ us hl => match us, hl with | [_], _ => rfl
  refine ⟨{ f_Clause_init := f_Clause_init, d_Clause_init := PySem.W.fnOf "__init__" "Clause.__init__" (defArgs s_Clause_init) (defBody s_Clause_init) (defScope s_Clause_init) .none kV_Clause_init dc_Clause_init pm_Clause_init an_Clause_init cd_Clause_init ct_Clause_init, f_Duty_init := f_Duty_init, d_Duty_init := PySem.W.fnOf "__init__" "Duty.__init__" (defArgs s_Duty_init) (defBody s_Duty_init) (defScope s_Duty_init) .none kV_Duty_init dc_Duty_init pm_Duty_init an_Duty_init cd_Duty_init ct_Duty_init, f_Ban_init := f_Ban_init, d_Ban_init := PySem.W.fnOf "__init__" "Ban.__init__" (defArgs s_Ban_init) (defBody s_Ban_init) (defScope s_Ban_init) .none kV_Ban_init dc_Ban_init pm_Ban_init an_Ban_init cd_Ban_init ct_Ban_init, f_Power_init := f_Power_init, d_Power_init := PySem.W.fnOf "__init__" "Power.__init__" (defArgs s_Power_init) (defBody s_Power_init) (defScope s_Power_init) .none kV_Power_init dc_Power_init pm_Power_init an_Power_init cd_Power_init ct_Power_init, f_Let_init := f_Let_init, d_Let_init := PySem.W.fnOf "__init__" "Let.__init__" (defArgs s_Let_init) (defBody s_Let_init) (defScope s_Let_init) .none kV_Let_init dc_Let_init pm_Let_init an_Let_init cd_Let_init ct_Let_init, f_Part_init := f_Part_init, d_Part_init := PySem.W.fnOf "__init__" "Part.__init__" (defArgs s_Part_init) (defBody s_Part_init) (defScope s_Part_init) .none kV_Part_init dc_Part_init pm_Part_init an_Part_init cd_Part_init ct_Part_init, f_v_is_name := f_v_is_name, d_v_is_name := PySem.W.fnOf "is_name" "is_name" (defArgs s_v_is_name) (defBody s_v_is_name) (defScope s_v_is_name) .none kV_v_is_name dc_v_is_name pm_v_is_name an_v_is_name cd_v_is_name ct_v_is_name, f_v_number_of := f_v_number_of, d_v_number_of := PySem.W.fnOf "number_of" "number_of" (defArgs s_v_number_of) (defBody s_v_number_of) (defScope s_v_number_of) .none kV_v_number_of dc_v_number_of pm_v_number_of an_v_number_of cd_v_number_of ct_v_number_of, f_v_written_with := f_v_written_with, d_v_written_with := PySem.W.fnOf "written_with" "written_with" (defArgs s_v_written_with) (defBody s_v_written_with) (defScope s_v_written_with) .none kV_v_written_with dc_v_written_with pm_v_written_with an_v_written_with cd_v_written_with ct_v_written_with, f_v_names_of := f_v_names_of, d_v_names_of := PySem.W.fnOf "names_of" "names_of" (defArgs s_v_names_of) (defBody s_v_names_of) (defScope s_v_names_of) .none kV_v_names_of dc_v_names_of pm_v_names_of an_v_names_of cd_v_names_of ct_v_names_of, f_v_are_names := f_v_are_names, d_v_are_names := PySem.W.fnOf "are_names" "are_names" (defArgs s_v_are_names) (defBody s_v_are_names) (defScope s_v_are_names) .none kV_v_are_names dc_v_are_names pm_v_are_names an_v_are_names cd_v_are_names ct_v_are_names, f_v_room_of := f_v_room_of, d_v_room_of := PySem.W.fnOf "room_of" "room_of" (defArgs s_v_room_of) (defBody s_v_room_of) (defScope s_v_room_of) .none kV_v_room_of dc_v_room_of pm_v_room_of an_v_room_of cd_v_room_of ct_v_room_of, f_v_let_of := f_v_let_of, d_v_let_of := PySem.W.fnOf "let_of" "let_of" (defArgs s_v_let_of) (defBody s_v_let_of) (defScope s_v_let_of) .none kV_v_let_of dc_v_let_of pm_v_let_of an_v_let_of cd_v_let_of ct_v_let_of, f_v_part_of := f_v_part_of, d_v_part_of := PySem.W.fnOf "part_of" "part_of" (defArgs s_v_part_of) (defBody s_v_part_of) (defScope s_v_part_of) .none kV_v_part_of dc_v_part_of pm_v_part_of an_v_part_of cd_v_part_of ct_v_part_of, f_v_clause_of := f_v_clause_of, d_v_clause_of := PySem.W.fnOf "clause_of" "clause_of" (defArgs s_v_clause_of) (defBody s_v_clause_of) (defScope s_v_clause_of) .none kV_v_clause_of dc_v_clause_of pm_v_clause_of an_v_clause_of cd_v_clause_of ct_v_clause_of, f_v_fits_form := f_v_fits_form, d_v_fits_form := PySem.W.fnOf "fits_form" "fits_form" (defArgs s_v_fits_form) (defBody s_v_fits_form) (defScope s_v_fits_form) .none kV_v_fits_form dc_v_fits_form pm_v_fits_form an_v_fits_form cd_v_fits_form ct_v_fits_form, f_v_fits_place := f_v_fits_place, d_v_fits_place := PySem.W.fnOf "fits_place" "fits_place" (defArgs s_v_fits_place) (defBody s_v_fits_place) (defScope s_v_fits_place) .none kV_v_fits_place dc_v_fits_place pm_v_fits_place an_v_fits_place cd_v_fits_place ct_v_fits_place, f_w_cell_at := f_w_cell_at, d_w_cell_at := PySem.W.fnOf "_law_cell_at" "_law_cell_at" (defArgs s_w_cell_at) (defBody s_w_cell_at) (defScope s_w_cell_at) .none kV_w_cell_at dc_w_cell_at pm_w_cell_at an_w_cell_at cd_w_cell_at ct_w_cell_at, f_w_mix := f_w_mix, d_w_mix := PySem.W.fnOf "_law_mix" "_law_mix" (defArgs s_w_mix) (defBody s_w_mix) (defScope s_w_mix) .none kV_w_mix dc_w_mix pm_w_mix an_w_mix cd_w_mix ct_w_mix, f_w_name := f_w_name, d_w_name := PySem.W.fnOf "_law_name" "_law_name" (defArgs s_w_name) (defBody s_w_name) (defScope s_w_name) .none kV_w_name dc_w_name pm_w_name an_w_name cd_w_name ct_w_name, f_w_kept := f_w_kept, d_w_kept := PySem.W.fnOf "_law_kept" "_law_kept" (defArgs s_w_kept) (defBody s_w_kept) (defScope s_w_kept) .none kV_w_kept dc_w_kept pm_w_kept an_w_kept cd_w_kept ct_w_kept, f_w_good := f_w_good, d_w_good := PySem.W.fnOf "_law_good" "_law_good" (defArgs s_w_good) (defBody s_w_good) (defScope s_w_good) .none kV_w_good dc_w_good pm_w_good an_w_good cd_w_good ct_w_good, f_w_spoilt := f_w_spoilt, d_w_spoilt := PySem.W.fnOf "_law_spoilt" "_law_spoilt" (defArgs s_w_spoilt) (defBody s_w_spoilt) (defScope s_w_spoilt) .none kV_w_spoilt dc_w_spoilt pm_w_spoilt an_w_spoilt cd_w_spoilt ct_w_spoilt, f_w_clause := f_w_clause, d_w_clause := PySem.W.fnOf "_law_clause" "_law_clause" (defArgs s_w_clause) (defBody s_w_clause) (defScope s_w_clause) .none kV_w_clause dc_w_clause pm_w_clause an_w_clause cd_w_clause ct_w_clause, f_w_told := f_w_told, d_w_told := PySem.W.fnOf "_law_told" "_law_told" (defArgs s_w_told) (defBody s_w_told) (defScope s_w_told) .none kV_w_told dc_w_told pm_w_told an_w_told cd_w_told ct_w_told, f_w_names_right := f_w_names_right, d_w_names_right := PySem.W.fnOf "_law_names_right" "_law_names_right" (defArgs s_w_names_right) (defBody s_w_names_right) (defScope s_w_names_right) .none kV_w_names_right dc_w_names_right pm_w_names_right an_w_names_right cd_w_names_right ct_w_names_right, f_v_law := f_v_law, d_v_law := PySem.W.fnOf "law" "law" (defArgs s_v_law) (defBody s_v_law) (defScope s_v_law) .none kV_v_law dc_v_law pm_v_law an_v_law cd_v_law ct_v_law, c_Row := c_Row, c_Clause := c_Clause, c_Duty := c_Duty, c_Leave := c_Leave, c_Ban := c_Ban, c_Power := c_Power, c_Let := c_Let, c_Part := c_Part, k_KEPT := k_KEPT, k_MARKS := k_MARKS }, ?_, PySem.W.mg_of X G a_v_law⟩
  exact {
    Clause_init := ⟨F_Clause_init, B_Clause_init⟩,
    Duty_init := ⟨F_Duty_init, B_Duty_init⟩,
    Ban_init := ⟨F_Ban_init, B_Ban_init⟩,
    Power_init := ⟨F_Power_init, B_Power_init⟩,
    Let_init := ⟨F_Let_init, B_Let_init⟩,
    Part_init := ⟨F_Part_init, B_Part_init⟩,
    v_is_name := ⟨F_v_is_name, B_v_is_name, PySem.W.mg_of X G a_v_is_name⟩,
    v_number_of := ⟨F_v_number_of, B_v_number_of, PySem.W.mg_of X G a_v_number_of⟩,
    v_written_with := ⟨F_v_written_with, B_v_written_with, PySem.W.mg_of X G a_v_written_with⟩,
    v_names_of := ⟨F_v_names_of, B_v_names_of, PySem.W.mg_of X G a_v_names_of⟩,
    v_are_names := ⟨F_v_are_names, B_v_are_names, PySem.W.mg_of X G a_v_are_names⟩,
    v_room_of := ⟨F_v_room_of, B_v_room_of, PySem.W.mg_of X G a_v_room_of⟩,
    v_let_of := ⟨F_v_let_of, B_v_let_of, PySem.W.mg_of X G a_v_let_of⟩,
    v_part_of := ⟨F_v_part_of, B_v_part_of, PySem.W.mg_of X G a_v_part_of⟩,
    v_clause_of := ⟨F_v_clause_of, B_v_clause_of, PySem.W.mg_of X G a_v_clause_of⟩,
    v_fits_form := ⟨F_v_fits_form, B_v_fits_form, PySem.W.mg_of X G a_v_fits_form⟩,
    v_fits_place := ⟨F_v_fits_place, B_v_fits_place, PySem.W.mg_of X G a_v_fits_place⟩,
    w_cell_at := ⟨F_w_cell_at, B_w_cell_at, PySem.W.mg_of X G a_w_cell_at⟩,
    w_mix := ⟨F_w_mix, B_w_mix, PySem.W.mg_of X G a_w_mix⟩,
    w_name := ⟨F_w_name, B_w_name, PySem.W.mg_of X G a_w_name⟩,
    w_kept := ⟨F_w_kept, B_w_kept, PySem.W.mg_of X G a_w_kept⟩,
    w_good := ⟨F_w_good, B_w_good, PySem.W.mg_of X G a_w_good⟩,
    w_spoilt := ⟨F_w_spoilt, B_w_spoilt, PySem.W.mg_of X G a_w_spoilt⟩,
    w_clause := ⟨F_w_clause, B_w_clause, PySem.W.mg_of X G a_w_clause⟩,
    w_told := ⟨F_w_told, B_w_told, PySem.W.mg_of X G a_w_told⟩,
    w_names_right := ⟨F_w_names_right, B_w_names_right, PySem.W.mg_of X G a_w_names_right⟩,
    v_law := ⟨F_v_law, B_v_law, PySem.W.mg_of X G a_v_law⟩,
    b_list := PySem.W.mg_none_of X G z_list,
    b_len := PySem.W.mg_none_of X G z_len,
    b_range := PySem.W.mg_none_of X G z_range,
    b_all := PySem.W.mg_none_of X G z_all,
    b_int := PySem.W.mg_none_of X G z_int,
    b_str := PySem.W.mg_none_of X G z_str,
    b_isinstance := PySem.W.mg_none_of X G z_isinstance,
    b_bool := PySem.W.mg_none_of X G z_bool,
    b_tuple := PySem.W.mg_none_of X G z_tuple,
    b_zip := PySem.W.mg_none_of X G z_zip,
    g_KEPT := PySem.W.mg_of X G ak_KEPT,
    g_LETTERS := ⟨_, PySem.W.mg_of X G ak_LETTERS⟩,
    g_FIGURES := ⟨_, PySem.W.mg_of X G ak_FIGURES⟩,
    g_MOST_LETTERS := ⟨_, PySem.W.mg_of X G ak_MOST_LETTERS⟩,
    g_MOST_FIGURES := ⟨_, PySem.W.mg_of X G ak_MOST_FIGURES⟩,
    g_MARKS := PySem.W.mg_of X G ak_MARKS,
    g_MOST_ROOMS := ⟨_, PySem.W.mg_of X G ak_MOST_ROOMS⟩,
    m_Row := PySem.W.mg_of X G ac_Row,
    m_Clause := PySem.W.mg_of X G ac_Clause,
    m_Duty := PySem.W.mg_of X G ac_Duty,
    m_Leave := PySem.W.mg_of X G ac_Leave,
    m_Ban := PySem.W.mg_of X G ac_Ban,
    m_Power := PySem.W.mg_of X G ac_Power,
    m_Let := PySem.W.mg_of X G ac_Let,
    m_Part := PySem.W.mg_of X G ac_Part,
    o_KEPT := (by obtain ⟨its, n, h1, h2, h3, h4⟩ := hK_KEPT; exact ⟨oK_KEPT, its, n, lK_KEPT, h1, h2, h3, h4⟩),
    o_MARKS := (by obtain ⟨its, n, h1, h2, h3, h4⟩ := hK_MARKS; exact ⟨oK_MARKS, its, n, lK_MARKS, h1, h2, h3, h4⟩),
    cl_Row := ⟨cl_Row_pg, cl_Row_hd, cl_Row_po, cl_Row_sa⟩,
    na_Row_act := na_Row_act_k,
    na_Row_label := na_Row_label_k,
    na_Row_name := na_Row_name_k,
    na_Row_room := na_Row_room_k,
    na_Row_rooms := na_Row_rooms_k,
    na_Row_rows := na_Row_rows_k,
    na_Row_turns := na_Row_turns_k,
    na_Row_value := na_Row_value_k,
    na_Row_who := na_Row_who_k,
    mk0_Row := ⟨mk0_Row_mk, mk0_Row_in, mk0_Row_kp⟩,
    cl_Clause := ⟨cl_Clause_pg, cl_Clause_hd, cl_Clause_po, cl_Clause_sa⟩,
    na_Clause_act := na_Clause_act_k,
    na_Clause_label := na_Clause_label_k,
    na_Clause_name := na_Clause_name_k,
    na_Clause_room := na_Clause_room_k,
    na_Clause_rooms := na_Clause_rooms_k,
    na_Clause_rows := na_Clause_rows_k,
    na_Clause_turns := na_Clause_turns_k,
    na_Clause_value := na_Clause_value_k,
    na_Clause_who := na_Clause_who_k,
    mk_Clause := ⟨mk_Clause_mk, mk_Clause_in, mk_Clause_fn, mk_Clause_kp⟩,
    cl_Duty := ⟨cl_Duty_pg, cl_Duty_hd, cl_Duty_po, cl_Duty_sa⟩,
    na_Duty_act := na_Duty_act_k,
    na_Duty_label := na_Duty_label_k,
    na_Duty_name := na_Duty_name_k,
    na_Duty_room := na_Duty_room_k,
    na_Duty_rooms := na_Duty_rooms_k,
    na_Duty_rows := na_Duty_rows_k,
    na_Duty_turns := na_Duty_turns_k,
    na_Duty_value := na_Duty_value_k,
    na_Duty_who := na_Duty_who_k,
    mk_Duty := ⟨mk_Duty_mk, mk_Duty_in, mk_Duty_fn, mk_Duty_kp⟩,
    cl_Leave := ⟨cl_Leave_pg, cl_Leave_hd, cl_Leave_po, cl_Leave_sa⟩,
    na_Leave_act := na_Leave_act_k,
    na_Leave_label := na_Leave_label_k,
    na_Leave_name := na_Leave_name_k,
    na_Leave_room := na_Leave_room_k,
    na_Leave_rooms := na_Leave_rooms_k,
    na_Leave_rows := na_Leave_rows_k,
    na_Leave_turns := na_Leave_turns_k,
    na_Leave_value := na_Leave_value_k,
    na_Leave_who := na_Leave_who_k,
    mk_Leave := ⟨mk_Leave_mk, mk_Leave_in, mk_Leave_fn, mk_Leave_kp⟩,
    cl_Ban := ⟨cl_Ban_pg, cl_Ban_hd, cl_Ban_po, cl_Ban_sa⟩,
    na_Ban_act := na_Ban_act_k,
    na_Ban_label := na_Ban_label_k,
    na_Ban_name := na_Ban_name_k,
    na_Ban_room := na_Ban_room_k,
    na_Ban_rooms := na_Ban_rooms_k,
    na_Ban_rows := na_Ban_rows_k,
    na_Ban_turns := na_Ban_turns_k,
    na_Ban_value := na_Ban_value_k,
    na_Ban_who := na_Ban_who_k,
    mk_Ban := ⟨mk_Ban_mk, mk_Ban_in, mk_Ban_fn, mk_Ban_kp⟩,
    cl_Power := ⟨cl_Power_pg, cl_Power_hd, cl_Power_po, cl_Power_sa⟩,
    na_Power_act := na_Power_act_k,
    na_Power_label := na_Power_label_k,
    na_Power_name := na_Power_name_k,
    na_Power_room := na_Power_room_k,
    na_Power_rooms := na_Power_rooms_k,
    na_Power_rows := na_Power_rows_k,
    na_Power_turns := na_Power_turns_k,
    na_Power_value := na_Power_value_k,
    na_Power_who := na_Power_who_k,
    mk_Power := ⟨mk_Power_mk, mk_Power_in, mk_Power_fn, mk_Power_kp⟩,
    cl_Let := ⟨cl_Let_pg, cl_Let_hd, cl_Let_po, cl_Let_sa⟩,
    na_Let_act := na_Let_act_k,
    na_Let_label := na_Let_label_k,
    na_Let_name := na_Let_name_k,
    na_Let_room := na_Let_room_k,
    na_Let_rooms := na_Let_rooms_k,
    na_Let_rows := na_Let_rows_k,
    na_Let_turns := na_Let_turns_k,
    na_Let_value := na_Let_value_k,
    na_Let_who := na_Let_who_k,
    mk_Let := ⟨mk_Let_mk, mk_Let_in, mk_Let_fn, mk_Let_kp⟩,
    cl_Part := ⟨cl_Part_pg, cl_Part_hd, cl_Part_po, cl_Part_sa⟩,
    na_Part_act := na_Part_act_k,
    na_Part_label := na_Part_label_k,
    na_Part_name := na_Part_name_k,
    na_Part_room := na_Part_room_k,
    na_Part_rooms := na_Part_rooms_k,
    na_Part_rows := na_Part_rows_k,
    na_Part_turns := na_Part_turns_k,
    na_Part_value := na_Part_value_k,
    na_Part_who := na_Part_who_k,
    mk_Part := ⟨mk_Part_mk, mk_Part_in, mk_Part_fn, mk_Part_kp⟩,
    cm_Clause := ⟨cm_Clause_ga, cm_Clause_rd, cm_Clause_at, k_Clause_init_⟩,
    cm_Leave := ⟨cm_Leave_ga, cm_Leave_rd, cm_Leave_at, k_Clause_init_⟩,
    ki_Duty_Duty := ki_Duty_Duty_k,
    ki_Duty_Leave := ki_Duty_Leave_k,
    ki_Duty_Ban := ki_Duty_Ban_k,
    ki_Duty_Power := ki_Duty_Power_k,
    ki_Leave_Duty := ki_Leave_Duty_k,
    ki_Leave_Leave := ki_Leave_Leave_k,
    ki_Leave_Ban := ki_Leave_Ban_k,
    ki_Leave_Power := ki_Leave_Power_k,
    ki_Ban_Duty := ki_Ban_Duty_k,
    ki_Ban_Leave := ki_Ban_Leave_k,
    ki_Ban_Ban := ki_Ban_Ban_k,
    ki_Ban_Power := ki_Ban_Power_k,
    ki_Power_Duty := ki_Power_Duty_k,
    ki_Power_Leave := ki_Power_Leave_k,
    ki_Power_Ban := ki_Power_Ban_k,
    ki_Power_Power := ki_Power_Power_k,
    ki_Let_Let := ki_Let_Let_k,
    ki_Let_Row := ki_Let_Row_k,
    ki_Part_Row := ki_Part_Row_k,
    ki_Part_Part := ki_Part_Part_k,
    ki_int_bool := ki_int_bool_k,
    oc_get := oc_get_k,
    oc_tk := oc_tk_k,
    tc_Row := ⟨tc_Row_a, tc_Row_m⟩,
    tc_Clause := ⟨tc_Clause_a, tc_Clause_m⟩,
    tc_Duty := ⟨tc_Duty_a, tc_Duty_m⟩,
    tc_Leave := ⟨tc_Leave_a, tc_Leave_m⟩,
    tc_Ban := ⟨tc_Ban_a, tc_Ban_m⟩,
    tc_Power := ⟨tc_Power_a, tc_Power_m⟩,
    tc_Let := ⟨tc_Let_a, tc_Let_m⟩,
    tc_Part := ⟨tc_Part_a, tc_Part_m⟩ }
end My
theorem PySem.W.Fast.tw11936358227484554306 : True := trivial
theorem PySem.W.Fast.tw18405864766397284804 : True := trivial
theorem PySem.W.Fast.tw15273136417128202309 : True := trivial
theorem PySem.W.Fast.tw17468716021373361797 : True := trivial
theorem PySem.W.Fast.tw703111327476992841 : True := trivial
theorem PySem.W.Fast.tw3257616165730753774 : True := trivial
theorem PySem.W.Fast.tw11131352169840463119 : True := trivial
theorem PySem.W.Fast.tw3342068741475569039 : True := trivial
theorem PySem.W.Fast.tw8192605253384512214 : True := trivial
theorem PySem.W.Fast.tw6981822288262214905 : True := trivial
theorem PySem.W.Fast.tw10742573182346467193 : True := trivial
theorem PySem.W.Fast.tw9220179145166776122 : True := trivial
theorem PySem.W.Fast.tw6086298715608839229 : True := trivial
theorem PySem.W.Fast.tw16538412047882823773 : True := trivial
open PySem PySem.W PyProof.Rows
set_option maxRecDepth 100000 in
set_option maxHeartbeats 0 in
theorem PySem.Challenge.cw_pactway_k21_rows_of_a_text_holds : PySem.Challenge.rw_pactway_k21_rows_of_a_text.Holds := by
  w_on; o_law; k_head; (case hw => w_witness2)
  k_fill
  refine L2.walk_ofK (l := PySem.Challenge.rw_pactway_k21_rows_of_a_text) (n := 63) (k := 8) (x := "_law_script") (CX := L2.CX0) (sp := My.spLaw) rfl (by decide) rfl ⟨rfl, by decide, by decide⟩ (fun w h Y => PySem.W.kIn_of Y) ?F ?S ?C
  case F =>
    intro w mg fa h KX G hmg
    have T : ∃ t : My.Adr, My.Txt (L2.KOf KX) mg t ∧ mg "law" = some (.ref t.f_v_law) := by
      dsimp only [L2.KOf]
      refine' My.txt_mk KX G ?ac_Row ?ac_Clause ?ac_Duty ?ac_Leave ?ac_Ban ?ac_Power ?ac_Let ?ac_Part ?ak_KEPT ?ak_LETTERS ?ak_FIGURES ?ak_MOST_LETTERS ?ak_MOST_FIGURES ?ak_MARKS ?ak_MOST_ROOMS ?a_Clause_init ?l_Clause_init ?c_Clause_init_ ?k_Clause_init_ ?a_Duty_init ?l_Duty_init ?c_Duty_init_ ?k_Duty_init_ ?a_Ban_init ?l_Ban_init ?c_Ban_init_ ?k_Ban_init_ ?a_Power_init ?l_Power_init ?c_Power_init_ ?k_Power_init_ ?a_Let_init ?l_Let_init ?c_Let_init_ ?k_Let_init_ ?a_Part_init ?l_Part_init ?c_Part_init_ ?k_Part_init_ ?a_v_is_name ?l_v_is_name ?c_v_is_name_ ?k_v_is_name_ ?a_v_number_of ?l_v_number_of ?c_v_number_of_ ?k_v_number_of_ ?a_v_written_with ?l_v_written_with ?c_v_written_with_ ?k_v_written_with_ ?a_v_names_of ?l_v_names_of ?c_v_names_of_ ?k_v_names_of_ ?a_v_are_names ?l_v_are_names ?c_v_are_names_ ?k_v_are_names_ ?a_v_room_of ?l_v_room_of ?c_v_room_of_ ?k_v_room_of_ ?a_v_let_of ?l_v_let_of ?c_v_let_of_ ?k_v_let_of_ ?a_v_part_of ?l_v_part_of ?c_v_part_of_ ?k_v_part_of_ ?a_v_clause_of ?l_v_clause_of ?c_v_clause_of_ ?k_v_clause_of_ ?a_v_fits_form ?l_v_fits_form ?c_v_fits_form_ ?k_v_fits_form_ ?a_v_fits_place ?l_v_fits_place ?c_v_fits_place_ ?k_v_fits_place_ ?a_w_cell_at ?l_w_cell_at ?c_w_cell_at_ ?k_w_cell_at_ ?a_w_mix ?l_w_mix ?c_w_mix_ ?k_w_mix_ ?a_w_name ?l_w_name ?c_w_name_ ?k_w_name_ ?a_w_kept ?l_w_kept ?c_w_kept_ ?k_w_kept_ ?a_w_good ?l_w_good ?c_w_good_ ?k_w_good_ ?a_w_spoilt ?l_w_spoilt ?c_w_spoilt_ ?k_w_spoilt_ ?a_w_clause ?l_w_clause ?c_w_clause_ ?k_w_clause_ ?a_w_told ?l_w_told ?c_w_told_ ?k_w_told_ ?a_w_names_right ?l_w_names_right ?c_w_names_right_ ?k_w_names_right_ ?a_v_law ?l_v_law ?c_v_law_ ?k_v_law_ ?z_list ?z_len ?z_range ?z_all ?z_int ?z_str ?z_isinstance ?z_bool ?z_tuple ?z_zip ?lK_KEPT ?hK_KEPT ?lK_MARKS ?hK_MARKS ?cl_Row_pg ?cl_Row_hd ?cl_Row_po ?cl_Row_sa ?na_Row_act_k ?na_Row_label_k ?na_Row_name_k ?na_Row_room_k ?na_Row_rooms_k ?na_Row_rows_k ?na_Row_turns_k ?na_Row_value_k ?na_Row_who_k ?mk0_Row_mk ?mk0_Row_in ?mk0_Row_kp ?cl_Clause_pg ?cl_Clause_hd ?cl_Clause_po ?cl_Clause_sa ?na_Clause_act_k ?na_Clause_label_k ?na_Clause_name_k ?na_Clause_room_k ?na_Clause_rooms_k ?na_Clause_rows_k ?na_Clause_turns_k ?na_Clause_value_k ?na_Clause_who_k ?mk_Clause_mk ?mk_Clause_in ?mk_Clause_fn ?mk_Clause_kp ?cl_Duty_pg ?cl_Duty_hd ?cl_Duty_po ?cl_Duty_sa ?na_Duty_act_k ?na_Duty_label_k ?na_Duty_name_k ?na_Duty_room_k ?na_Duty_rooms_k ?na_Duty_rows_k ?na_Duty_turns_k ?na_Duty_value_k ?na_Duty_who_k ?mk_Duty_mk ?mk_Duty_in ?mk_Duty_fn ?mk_Duty_kp ?cl_Leave_pg ?cl_Leave_hd ?cl_Leave_po ?cl_Leave_sa ?na_Leave_act_k ?na_Leave_label_k ?na_Leave_name_k ?na_Leave_room_k ?na_Leave_rooms_k ?na_Leave_rows_k ?na_Leave_turns_k ?na_Leave_value_k ?na_Leave_who_k ?mk_Leave_mk ?mk_Leave_in ?mk_Leave_fn ?mk_Leave_kp ?cl_Ban_pg ?cl_Ban_hd ?cl_Ban_po ?cl_Ban_sa ?na_Ban_act_k ?na_Ban_label_k ?na_Ban_name_k ?na_Ban_room_k ?na_Ban_rooms_k ?na_Ban_rows_k ?na_Ban_turns_k ?na_Ban_value_k ?na_Ban_who_k ?mk_Ban_mk ?mk_Ban_in ?mk_Ban_fn ?mk_Ban_kp ?cl_Power_pg ?cl_Power_hd ?cl_Power_po ?cl_Power_sa ?na_Power_act_k ?na_Power_label_k ?na_Power_name_k ?na_Power_room_k ?na_Power_rooms_k ?na_Power_rows_k ?na_Power_turns_k ?na_Power_value_k ?na_Power_who_k ?mk_Power_mk ?mk_Power_in ?mk_Power_fn ?mk_Power_kp ?cl_Let_pg ?cl_Let_hd ?cl_Let_po ?cl_Let_sa ?na_Let_act_k ?na_Let_label_k ?na_Let_name_k ?na_Let_room_k ?na_Let_rooms_k ?na_Let_rows_k ?na_Let_turns_k ?na_Let_value_k ?na_Let_who_k ?mk_Let_mk ?mk_Let_in ?mk_Let_fn ?mk_Let_kp ?cl_Part_pg ?cl_Part_hd ?cl_Part_po ?cl_Part_sa ?na_Part_act_k ?na_Part_label_k ?na_Part_name_k ?na_Part_room_k ?na_Part_rooms_k ?na_Part_rows_k ?na_Part_turns_k ?na_Part_value_k ?na_Part_who_k ?mk_Part_mk ?mk_Part_in ?mk_Part_fn ?mk_Part_kp ?cm_Clause_ga ?cm_Clause_rd ?cm_Clause_at ?cm_Leave_ga ?cm_Leave_rd ?cm_Leave_at ?ki_Duty_Duty_k ?ki_Duty_Leave_k ?ki_Duty_Ban_k ?ki_Duty_Power_k ?ki_Leave_Duty_k ?ki_Leave_Leave_k ?ki_Leave_Ban_k ?ki_Leave_Power_k ?ki_Ban_Duty_k ?ki_Ban_Leave_k ?ki_Ban_Ban_k ?ki_Ban_Power_k ?ki_Power_Duty_k ?ki_Power_Leave_k ?ki_Power_Ban_k ?ki_Power_Power_k ?ki_Let_Let_k ?ki_Let_Row_k ?ki_Part_Row_k ?ki_Part_Part_k ?ki_int_bool_k ?oc_get_k ?oc_tk_k ?tc_Row_a ?tc_Row_m ?tc_Clause_a ?tc_Clause_m ?tc_Duty_a ?tc_Duty_m ?tc_Leave_a ?tc_Leave_m ?tc_Ban_a ?tc_Ban_m ?tc_Power_a ?tc_Power_m ?tc_Let_a ?tc_Let_m ?tc_Part_a ?tc_Part_m
      (case ac_Row => k_is)
      (case ac_Clause => k_is)
      (case ac_Duty => k_is)
      (case ac_Leave => k_is)
      (case ac_Ban => k_is)
      (case ac_Power => k_is)
      (case ac_Let => k_is)
      (case ac_Part => k_is)
      (case ak_KEPT => k_is)
      (case ak_LETTERS => k_is)
      (case ak_FIGURES => k_is)
      (case ak_MOST_LETTERS => k_is)
      (case ak_MOST_FIGURES => k_is)
      (case ak_MARKS => k_is)
      (case ak_MOST_ROOMS => k_is)
      (case a_Clause_init => k_is)
      (case l_Clause_init => k_is)
      (case c_Clause_init_ => k_is)
      (case k_Clause_init_ => k_is)
      (case a_Duty_init => k_is)
      (case l_Duty_init => k_is)
      (case c_Duty_init_ => k_is)
      (case k_Duty_init_ => k_is)
      (case a_Ban_init => k_is)
      (case l_Ban_init => k_is)
      (case c_Ban_init_ => k_is)
      (case k_Ban_init_ => k_is)
      (case a_Power_init => k_is)
      (case l_Power_init => k_is)
      (case c_Power_init_ => k_is)
      (case k_Power_init_ => k_is)
      (case a_Let_init => k_is)
      (case l_Let_init => k_is)
      (case c_Let_init_ => k_is)
      (case k_Let_init_ => k_is)
      (case a_Part_init => k_is)
      (case l_Part_init => k_is)
      (case c_Part_init_ => k_is)
      (case k_Part_init_ => k_is)
      (case a_v_is_name => k_is)
      (case l_v_is_name => k_is)
      (case c_v_is_name_ => k_is)
      (case k_v_is_name_ => k_is)
      (case a_v_number_of => k_is)
      (case l_v_number_of => k_is)
      (case c_v_number_of_ => k_is)
      (case k_v_number_of_ => k_is)
      (case a_v_written_with => k_is)
      (case l_v_written_with => k_is)
      (case c_v_written_with_ => k_is)
      (case k_v_written_with_ => k_is)
      (case a_v_names_of => k_is)
      (case l_v_names_of => k_is)
      (case c_v_names_of_ => k_is)
      (case k_v_names_of_ => k_is)
      (case a_v_are_names => k_is)
      (case l_v_are_names => k_is)
      (case c_v_are_names_ => k_is)
      (case k_v_are_names_ => k_is)
      (case a_v_room_of => k_is)
      (case l_v_room_of => k_is)
      (case c_v_room_of_ => k_is)
      (case k_v_room_of_ => k_is)
      (case a_v_let_of => k_is)
      (case l_v_let_of => k_is)
      (case c_v_let_of_ => k_is)
      (case k_v_let_of_ => k_is)
      (case a_v_part_of => k_is)
      (case l_v_part_of => k_is)
      (case c_v_part_of_ => k_is)
      (case k_v_part_of_ => k_is)
      (case a_v_clause_of => k_is)
      (case l_v_clause_of => k_is)
      (case c_v_clause_of_ => k_is)
      (case k_v_clause_of_ => k_is)
      (case a_v_fits_form => k_is)
      (case l_v_fits_form => k_is)
      (case c_v_fits_form_ => k_is)
      (case k_v_fits_form_ => k_is)
      (case a_v_fits_place => k_is)
      (case l_v_fits_place => k_is)
      (case c_v_fits_place_ => k_is)
      (case k_v_fits_place_ => k_is)
      (case a_w_cell_at => k_is)
      (case l_w_cell_at => k_is)
      (case c_w_cell_at_ => k_is)
      (case k_w_cell_at_ => k_is)
      (case a_w_mix => k_is)
      (case l_w_mix => k_is)
      (case c_w_mix_ => k_is)
      (case k_w_mix_ => k_is)
      (case a_w_name => k_is)
      (case l_w_name => k_is)
      (case c_w_name_ => k_is)
      (case k_w_name_ => k_is)
      (case a_w_kept => k_is)
      (case l_w_kept => k_is)
      (case c_w_kept_ => k_is)
      (case k_w_kept_ => k_is)
      (case a_w_good => k_is)
      (case l_w_good => k_is)
      (case c_w_good_ => k_is)
      (case k_w_good_ => k_is)
      (case a_w_spoilt => k_is)
      (case l_w_spoilt => k_is)
      (case c_w_spoilt_ => k_is)
      (case k_w_spoilt_ => k_is)
      (case a_w_clause => k_is)
      (case l_w_clause => k_is)
      (case c_w_clause_ => k_is)
      (case k_w_clause_ => k_is)
      (case a_w_told => k_is)
      (case l_w_told => k_is)
      (case c_w_told_ => k_is)
      (case k_w_told_ => k_is)
      (case a_w_names_right => k_is)
      (case l_w_names_right => k_is)
      (case c_w_names_right_ => k_is)
      (case k_w_names_right_ => k_is)
      (case a_v_law => k_is)
      (case l_v_law => k_is)
      (case c_v_law_ => k_is)
      (case k_v_law_ => k_is)
      (case z_list => k_is)
      (case z_len => k_is)
      (case z_range => k_is)
      (case z_all => k_is)
      (case z_int => k_is)
      (case z_str => k_is)
      (case z_isinstance => k_is)
      (case z_bool => k_is)
      (case z_tuple => k_is)
      (case z_zip => k_is)
      (case lK_KEPT => k_is)
      (case hK_KEPT => exact ⟨_, _, rfl, rfl, My.kl_KEPT, My.kv_KEPT⟩)
      (case lK_MARKS => k_is)
      (case hK_MARKS => exact ⟨_, _, rfl, rfl, My.kl_MARKS, My.kv_MARKS⟩)
      (case cl_Row_pg => k_is)
      (case cl_Row_hd => k_is)
      (case cl_Row_po => k_is)
      (case cl_Row_sa => k_is)
      (case na_Row_act_k => k_is)
      (case na_Row_label_k => k_is)
      (case na_Row_name_k => k_is)
      (case na_Row_room_k => k_is)
      (case na_Row_rooms_k => k_is)
      (case na_Row_rows_k => k_is)
      (case na_Row_turns_k => k_is)
      (case na_Row_value_k => k_is)
      (case na_Row_who_k => k_is)
      (case mk0_Row_mk => k_is)
      (case mk0_Row_in => k_is)
      (case mk0_Row_kp => k_is)
      (case cl_Clause_pg => k_is)
      (case cl_Clause_hd => k_is)
      (case cl_Clause_po => k_is)
      (case cl_Clause_sa => k_is)
      (case na_Clause_act_k => k_is)
      (case na_Clause_label_k => k_is)
      (case na_Clause_name_k => k_is)
      (case na_Clause_room_k => k_is)
      (case na_Clause_rooms_k => k_is)
      (case na_Clause_rows_k => k_is)
      (case na_Clause_turns_k => k_is)
      (case na_Clause_value_k => k_is)
      (case na_Clause_who_k => k_is)
      (case mk_Clause_mk => k_is)
      (case mk_Clause_in => k_is)
      (case mk_Clause_fn => k_is)
      (case mk_Clause_kp => k_is)
      (case cl_Duty_pg => k_is)
      (case cl_Duty_hd => k_is)
      (case cl_Duty_po => k_is)
      (case cl_Duty_sa => k_is)
      (case na_Duty_act_k => k_is)
      (case na_Duty_label_k => k_is)
      (case na_Duty_name_k => k_is)
      (case na_Duty_room_k => k_is)
      (case na_Duty_rooms_k => k_is)
      (case na_Duty_rows_k => k_is)
      (case na_Duty_turns_k => k_is)
      (case na_Duty_value_k => k_is)
      (case na_Duty_who_k => k_is)
      (case mk_Duty_mk => k_is)
      (case mk_Duty_in => k_is)
      (case mk_Duty_fn => k_is)
      (case mk_Duty_kp => k_is)
      (case cl_Leave_pg => k_is)
      (case cl_Leave_hd => k_is)
      (case cl_Leave_po => k_is)
      (case cl_Leave_sa => k_is)
      (case na_Leave_act_k => k_is)
      (case na_Leave_label_k => k_is)
      (case na_Leave_name_k => k_is)
      (case na_Leave_room_k => k_is)
      (case na_Leave_rooms_k => k_is)
      (case na_Leave_rows_k => k_is)
      (case na_Leave_turns_k => k_is)
      (case na_Leave_value_k => k_is)
      (case na_Leave_who_k => k_is)
      (case mk_Leave_mk => k_is)
      (case mk_Leave_in => k_is)
      (case mk_Leave_fn => k_is)
      (case mk_Leave_kp => k_is)
      (case cl_Ban_pg => k_is)
      (case cl_Ban_hd => k_is)
      (case cl_Ban_po => k_is)
      (case cl_Ban_sa => k_is)
      (case na_Ban_act_k => k_is)
      (case na_Ban_label_k => k_is)
      (case na_Ban_name_k => k_is)
      (case na_Ban_room_k => k_is)
      (case na_Ban_rooms_k => k_is)
      (case na_Ban_rows_k => k_is)
      (case na_Ban_turns_k => k_is)
      (case na_Ban_value_k => k_is)
      (case na_Ban_who_k => k_is)
      (case mk_Ban_mk => k_is)
      (case mk_Ban_in => k_is)
      (case mk_Ban_fn => k_is)
      (case mk_Ban_kp => k_is)
      (case cl_Power_pg => k_is)
      (case cl_Power_hd => k_is)
      (case cl_Power_po => k_is)
      (case cl_Power_sa => k_is)
      (case na_Power_act_k => k_is)
      (case na_Power_label_k => k_is)
      (case na_Power_name_k => k_is)
      (case na_Power_room_k => k_is)
      (case na_Power_rooms_k => k_is)
      (case na_Power_rows_k => k_is)
      (case na_Power_turns_k => k_is)
      (case na_Power_value_k => k_is)
      (case na_Power_who_k => k_is)
      (case mk_Power_mk => k_is)
      (case mk_Power_in => k_is)
      (case mk_Power_fn => k_is)
      (case mk_Power_kp => k_is)
      (case cl_Let_pg => k_is)
      (case cl_Let_hd => k_is)
      (case cl_Let_po => k_is)
      (case cl_Let_sa => k_is)
      (case na_Let_act_k => k_is)
      (case na_Let_label_k => k_is)
      (case na_Let_name_k => k_is)
      (case na_Let_room_k => k_is)
      (case na_Let_rooms_k => k_is)
      (case na_Let_rows_k => k_is)
      (case na_Let_turns_k => k_is)
      (case na_Let_value_k => k_is)
      (case na_Let_who_k => k_is)
      (case mk_Let_mk => k_is)
      (case mk_Let_in => k_is)
      (case mk_Let_fn => k_is)
      (case mk_Let_kp => k_is)
      (case cl_Part_pg => k_is)
      (case cl_Part_hd => k_is)
      (case cl_Part_po => k_is)
      (case cl_Part_sa => k_is)
      (case na_Part_act_k => k_is)
      (case na_Part_label_k => k_is)
      (case na_Part_name_k => k_is)
      (case na_Part_room_k => k_is)
      (case na_Part_rooms_k => k_is)
      (case na_Part_rows_k => k_is)
      (case na_Part_turns_k => k_is)
      (case na_Part_value_k => k_is)
      (case na_Part_who_k => k_is)
      (case mk_Part_mk => k_is)
      (case mk_Part_in => k_is)
      (case mk_Part_fn => k_is)
      (case mk_Part_kp => k_is)
      (case cm_Clause_ga => k_is)
      (case cm_Clause_rd => k_is)
      (case cm_Clause_at => k_is)
      (case cm_Leave_ga => k_is)
      (case cm_Leave_rd => k_is)
      (case cm_Leave_at => k_is)
      (case ki_Duty_Duty_k => kit_is)
      (case ki_Duty_Leave_k => kit_is)
      (case ki_Duty_Ban_k => kit_is)
      (case ki_Duty_Power_k => kit_is)
      (case ki_Leave_Duty_k => kit_is)
      (case ki_Leave_Leave_k => kit_is)
      (case ki_Leave_Ban_k => kit_is)
      (case ki_Leave_Power_k => kit_is)
      (case ki_Ban_Duty_k => kit_is)
      (case ki_Ban_Leave_k => kit_is)
      (case ki_Ban_Ban_k => kit_is)
      (case ki_Ban_Power_k => kit_is)
      (case ki_Power_Duty_k => kit_is)
      (case ki_Power_Leave_k => kit_is)
      (case ki_Power_Ban_k => kit_is)
      (case ki_Power_Power_k => kit_is)
      (case ki_Let_Let_k => kit_is)
      (case ki_Let_Row_k => kit_is)
      (case ki_Part_Row_k => kit_is)
      (case ki_Part_Part_k => kit_is)
      (case ki_int_bool_k => kit_is)
      (case oc_get_k => k_is)
      (case oc_tk_k => k_is)
      (case tc_Row_a => k_is)
      (case tc_Row_m => k_is)
      (case tc_Clause_a => k_is)
      (case tc_Clause_m => k_is)
      (case tc_Duty_a => k_is)
      (case tc_Duty_m => k_is)
      (case tc_Leave_a => k_is)
      (case tc_Leave_m => k_is)
      (case tc_Ban_a => k_is)
      (case tc_Ban_m => k_is)
      (case tc_Power_a => k_is)
      (case tc_Power_m => k_is)
      (case tc_Let_a => k_is)
      (case tc_Let_m => k_is)
      (case tc_Part_a => k_is)
      (case tc_Part_m => k_is)
    obtain ⟨t, T, hl⟩ := T
    have e0 := hmg.symm.trans hl
    cases e0
    exact ⟨_, My.law_binds T, fun base kb nb => My.ok_v_law T⟩
  case S => exact fun K H a ns hl hO hS => My.law_start hl hO hS
  case C => exact fun _ _ _ _ z => z
