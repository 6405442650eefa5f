import PyProof.Rows.All
import Wide.All
import OpenK.AllK
import Wide.FinOn
import Lean
import PyProof.EqAt
import PyProof.EqKinds
import PyProof.TupleCall
import PyProof.P3Eq
import PyProof.NeData
import PyProof.Rows.SortShellK
import PySem.Challenge.RW_linecaster_k34_keys_read
set_option Elab.async false
set_option linter.all false
set_option maxRecDepth 100000
/-! THE HAND LAYER, for ints, bools, texts, own classes, LISTS and tuples (index, slices, in, append, pop ..), calls, loops. Paste it whole ahead of your own text; what your proof does not reach may be deleted. -/
namespace L2
open PySem PySem.Spec PyProof.Rows

/-- a key: an int or a str -/
abbrev Key := Sum Int Str
def keyIs : Key → Value → Bool
  | .inl k, v => Value.isInt k v
  | .inr x, v => Value.isStrOf x v
def keyH (w : World) : Key → Int
  | .inl k => hashInt k
  | .inr x => hashStr w x
theorem keyIs_shape : ∀ {k : Key} {v : Value}, keyIs k v = true → (∃ i t, k = Sum.inl i ∧ v = Value.int i t) ∨ (∃ x t, k = Sum.inr x ∧ v = Value.str x t)
  | .inl i, v, h => by
    obtain ⟨t, e⟩ := Value.isInt_shape (k := i) (v := v) h
    exact .inl ⟨i, t, rfl, e⟩
  | .inr x, v, h => by
    obtain ⟨t, e⟩ := Value.isStrOf_shape (x := x) (v := v) h
    exact .inr ⟨x, t, rfl, e⟩
theorem keyIs_int (i : Int) (t : Tok) : keyIs (.inl i) (.int i t) = true := by simp [keyIs, Value.isInt]
theorem keyIs_str (x : Str) (t : Tok) : keyIs (.inr x) (.str x t) = true := by simp [keyIs, Value.isStrOf]
theorem key_ll (a b : Int) : decide ((Sum.inl a : Key) = Sum.inl b) = (a == b) := by
  by_cases e : a = b
  · subst e; simp
  · have h : ¬ (Sum.inl a : Key) = Sum.inl b := fun q => e (Sum.inl.inj q)
    rw [decide_eq_false h]
    exact (beq_eq_false_iff_ne.mpr e).symm
theorem key_rr (a b : Str) : decide ((Sum.inr a : Key) = Sum.inr b) = decide (a = b) := by
  by_cases e : a = b
  · subst e; simp
  · have h : ¬ (Sum.inr a : Key) = Sum.inr b := fun q => e (Sum.inr.inj q)
    rw [decide_eq_false h, decide_eq_false e]
theorem key_lr (a : Int) (b : Str) : decide ((Sum.inl a : Key) = Sum.inr b) = false := decide_eq_false (fun q => nomatch q)
theorem key_rl (a : Str) (b : Int) : decide ((Sum.inr a : Key) = Sum.inl b) = false := decide_eq_false (fun q => nomatch q)

def mixKind (prog : Program) (w : World) : PySem.KeyKind prog w Key where
  is := keyIs
  hash := keyH w
  inj := fun v a b ha hb => by
    rcases keyIs_shape ha with ⟨i, t, rfl, rfl⟩ | ⟨x, t, rfl, rfl⟩
    · rcases keyIs_shape hb with ⟨j, u, rfl, e⟩ | ⟨y, u, rfl, e⟩
      · injection e with e1 _; rw [e1]
      · exact nomatch e
    · rcases keyIs_shape hb with ⟨j, u, rfl, e⟩ | ⟨y, u, rfl, e⟩
      · exact nomatch e
      · injection e with e1 _; rw [e1]
  byValue := fun k v h => by
    rcases keyIs_shape h with ⟨i, t, rfl, rfl⟩ | ⟨x, t, rfl, rfl⟩ <;> rfl
  pyHash := fun hv h => by
    rcases keyIs_shape hv with ⟨i, t, rfl, rfl⟩ | ⟨x, t, rfl, rfl⟩
    · exact wpAny_pyHash_int h
    · exact wpAny_pyHash_str h
  eqBool := fun hu hv h => by
    rcases keyIs_shape hu with ⟨i, t, rfl, rfl⟩ | ⟨x, t, rfl, rfl⟩
    · rcases keyIs_shape hv with ⟨j, u, rfl, rfl⟩ | ⟨y, u, rfl, rfl⟩
      · rw [key_ll] at h; exact wpAny_eqBool_int h
      · rw [key_lr] at h; exact SeqAt.EqAt.int_str i t y u _ _ _ _ h
    · rcases keyIs_shape hv with ⟨j, u, rfl, rfl⟩ | ⟨y, u, rfl, rfl⟩
      · rw [key_rl] at h; exact SeqAt.EqAt.str_int x t j u _ _ _ _ h
      · rw [key_rr] at h; exact wpAny_eqBool_str h
  «strs» := fun k x t v h => by
    rcases keyIs_shape h with ⟨i, u, rfl, e⟩ | ⟨y, u, rfl, e⟩
    · exact nomatch e
    · injection e with e1 _
      subst e1
      cases v <;> rfl

theorem mixKind_is (prog : Program) (w : World) (k : Key) (v : Value) : (mixKind prog w).is k v = keyIs k v := rfl
theorem mixKind_int (prog : Program) (w : World) (i : Int) (t : Tok) : (mixKind prog w).is (.inl i) (.int i t) = true := keyIs_int i t
theorem mixKind_str (prog : Program) (w : World) (x : Str) (t : Tok) : (mixKind prog w).is (.inr x) (.str x t) = true := keyIs_str x t
end L2

namespace L2
open PySem PySem.Spec PyProof.Rows

/-- a value, without the heap -/
inductive V where
  | non | bl (b : Bool) | int (i : Int) | str (x : Str) | byt (b : Array UInt8) | flt (b : UInt64) | ref (a : Addr) | ty (n : String)
  deriving DecidableEq

def RelV : V → Value → Prop
  | .non, u => u = Value.none
  | .bl b, u => u = Value.bool b
  | .int i, u => ∃ t, u = Value.int i t
  | .str x, u => ∃ t, u = Value.str x t
  | .byt b, u => ∃ t, u = Value.bytes b t
  | .flt b, u => ∃ t, u = Value.float b t
  | .ref a, u => u = Value.ref a
  | .ty n, u => u = Value.type n

abbrev Vals : List V → List Value → Prop := Paired RelV
theorem Vals.length {xs : List V} {us : List Value} (r : Vals xs us) : xs.length = us.length := Paired.length r
theorem Vals.get : ∀ {xs : List V} {us : List Value} {i : Nat} {x : V}, Vals xs us → xs[i]? = some x → ∃ u, us[i]? = some u ∧ RelV x u
  | _, _, _, _, .nil, e => by simp at e
  | _, _, 0, _, .cons r _, e => by simp at e; subst e; exact ⟨_, rfl, r⟩
  | _, _, i + 1, x, .cons _ t, e => by
    obtain ⟨u, h1, h2⟩ := Vals.get (i := i) (x := x) t (by simpa using e)
    exact ⟨u, by simpa using h1, h2⟩
theorem Vals.set {x : V} {u : Value} (r : RelV x u) : ∀ {xs : List V} {us : List Value} (i : Nat), Vals xs us → Vals (xs.set i x) (us.set i u)
  | _, _, _, .nil => .nil
  | _, _, 0, .cons _ t => .cons r t
  | _, _, i + 1, .cons q t => .cons q (Vals.set r i t)
theorem Vals.append : ∀ {xs ys : List V} {us ws : List Value}, Vals xs us → Vals ys ws → Vals (xs ++ ys) (us ++ ws)
  | _, _, _, _, .nil, s => s
  | _, _, _, _, .cons r t, s => .cons r (Vals.append t s)
theorem Vals.take : ∀ {xs : List V} {us : List Value} (n : Nat), Vals xs us → Vals (xs.take n) (us.take n)
  | _, _, 0, _ => .nil
  | _, _, _ + 1, .nil => .nil
  | _, _, n + 1, .cons r t => .cons r (Vals.take n t)
theorem Vals.drop : ∀ {xs : List V} {us : List Value} (n : Nat), Vals xs us → Vals (xs.drop n) (us.drop n)
  | _, _, 0, r => r
  | _, _, _ + 1, .nil => .nil
  | _, _, n + 1, .cons _ t => Vals.drop n t
theorem Vals.none_of : ∀ {xs : List V} {us : List Value} {i : Nat}, Vals xs us → xs[i]? = none → us[i]? = none := fun {xs us i} r e => by
  have h1 := r.length
  have h2 : xs.length ≤ i := List.getElem?_eq_none_iff.mp e
  exact List.getElem?_eq_none_iff.mpr (by omega)

def RelO : Option V → Option Value → Prop
  | some v, some u => RelV v u
  | none, none => True
  | _, _ => False
def KV {κ : Type} : List (κ × V) → List (κ × Value) → Prop := Paired fun (p : κ × V) (q : κ × Value) => p.1 = q.1 ∧ RelV p.2 q.2

/-- a key of a dict (00_mix): an int or a text -/
def kV : Key → V
  | .inl i => .int i
  | .inr x => .str x

/-- what stands at a tracked address -/
inductive HO where
  /-- a list -/
  | lst (xs : List V)
  /-- a tuple (never changes) -/
  | tup (xs : List V)
  /-- a dict whose keys are ints and texts; one whose keys are tuples of ints and texts (the empty one is both) -/
  | dK (kvs : List (Key × V)) | dT (kvs : List (List Key × V))
  /-- a set of ints: its members, its size -/
  | set (S : Int → Bool) (n : Nat)
  /-- an instance of the class at C, its dict at dx, its attributes -/
  | ins (C dx : Addr) (fs : List (Str × V))
  /-- the dict of the instance at x -/
  | own (x : Addr)
  /-- the dict of an exception -/
  | xd (fs : List (Str × V))
  /-- a bound method, f of x -/
  | met (f x : Addr)
  /-- a range object lo, lo + 1, .. below hi -/
  | rng (lo hi : Int)
  /-- a thing that is known to the object (the script; a dict while a loop walks it): read, never written while it is so -/
  | frz (o : Obj) (u : HO)
  /-- a code object's table -/
  | tbl (ps : Array Value)
  /-- any other thing, by what is true of its one object (a def of one's own: SetO a S n := HO.ext fun h => ..) -/
  | ext (φ : Heap → Prop)

abbrev Hp := Addr → Option HO
def upd (H : Hp) (a : Addr) (o : HO) : Hp := fun b => if b = a then some o else H b
theorem upd_same {H : Hp} {a : Addr} {o : HO} : upd H a o a = some o := by unfold upd; rw [if_pos rfl]
theorem upd_ne {H : Hp} {a b : Addr} {o : HO} (h : b ≠ a) : upd H a o b = H b := by unfold upd; rw [if_neg h]
theorem upd_upd {H : Hp} {a : Addr} {o u : HO} : upd (upd H a o) a u = upd H a u := by
  funext b; unfold upd; split <;> rfl
/-- two objects of different content stand apart -/
theorem ne_of {H : Hp} {a b : Addr} {o u : HO} (h : H a = some o) (h' : H b = some u) (d : o ≠ u) : a ≠ b := by
  intro e; subst e; rw [h] at h'; exact d (Option.some.inj h')
theorem ne_of_none {H : Hp} {a b : Addr} {o : HO} (h : H a = some o) (h' : H b = none) : a ≠ b := by
  intro e; subst e; rw [h] at h'; cases h'

section
variable (P : Program) (w : World)
def ObjOk (H : Hp) (h : Heap) (a : Addr) : HO → Prop
  | .lst xs => xs.length ≤ sizeLine ∧ ∃ (its : List Value) (n : Nat), Vals xs its ∧ h.get? a = some { cls := .type "list", data := .seq its.toArray n }
  | .tup xs => xs.length ≤ sizeLine ∧ ∃ its : List Value, Vals xs its ∧ IsTup h a its.toArray
  | .dK kvs => kvs.length ≤ sizeLine ∧ (a == sysModules) = false ∧ ∃ vs, KV kvs vs ∧ h.DictOf (mixKind P w) a vs
  | .dT kvs => kvs.length ≤ sizeLine ∧ (a == sysModules) = false ∧ ∃ xs : List (List Key × Addr × Value),
      Paired (fun (p : List Key × V) (q : List Key × Addr × Value) => p.1 = q.1 ∧ H q.2.1 = some (.tup (p.1.map kV)) ∧ RelV p.2 q.2.2) kvs xs ∧
      ∃ o es ep, h.get? a = some o ∧ o.ExactDict ∧ o.data = .dict es ep ∧ es.toList = xs.map (entryOfKey (tupleKind (mixKind P w))) ∧ (xs.map (·.1)).Nodup
  | .set S n => h.SetOf (intKind P w) a S n
  | .ins C dx fs => H dx = some (.own a) ∧ fs.length ≤ 1000 ∧ dx ≠ a ∧ h.get? a = some (PySem.W.instObj C dx) ∧
      ∃ mA, h.Ns1 dx mA ∧ (∀ f, RelO (fs.lookup f) (mA f)) ∧ PySem.Within mA (fs.map (·.1))
  | .own _ => ∃ o, h.get? a = some o
  | .xd fs => ∃ mA, h.Ns1 a mA ∧ ∀ f, RelO (fs.lookup f) (mA f)
  | .rng lo hi => ∃ t u v, h.get? a = some { cls := .type "range", data := .fields #[.int lo t, .int hi u, .int 1 v] }
  | .frz o u => h.get? a = some o ∧ ObjOk H h a u
  | .tbl ps => h.get? a = some { cls := .none, data := .fields ps }
  | .met f x => h.get? a = some (PySem.W.methodObj (.ref f) (.ref x))
  | .ext φ => φ h ∧ (∃ o, h.get? a = some o) ∧ ∀ h1 h2 : Heap, φ h1 → (∀ o, h1.get? a = some o → h2.get? a = some o) → φ h2
/-- the abstract heap is held -/
def HOk (H : Hp) (h : Heap) : Prop := ∀ a o, H a = some o → ObjOk P w H h a o
end

section
variable {P : Program} {w : World} {H H' : Hp} {h h' : Heap} {a : Addr} {o : HO}
theorem ObjOk.lt (x : ObjOk P w H h a o) : a < h.objs.size := by
  cases o with
  | lst xs => obtain ⟨_, _, _, _, e⟩ := x; exact Heap.lt_size e
  | tup xs => obtain ⟨_, _, _, p⟩ := x; exact p.lt
  | dK kvs => obtain ⟨_, _, _, _, o, _, _, e, _⟩ := x; exact Heap.lt_size e
  | dT kvs => obtain ⟨_, _, _, _, o, _, _, e, _⟩ := x; exact Heap.lt_size e
  | set S n => obtain ⟨o, _, _, _, e, _⟩ := x; exact Heap.lt_size e
  | ins C dx fs => obtain ⟨_, _, _, e, _⟩ := x; exact Heap.lt_size e
  | own y => obtain ⟨_, e⟩ := x; exact Heap.lt_size e
  | xd fs => obtain ⟨_, ⟨_, _, _, e, _⟩, _⟩ := x; exact Heap.lt_size e
  | rng lo hi => obtain ⟨_, _, _, e⟩ := x; exact Heap.lt_size e
  | frz ob u => obtain ⟨e, _⟩ := x; exact Heap.lt_size e
  | tbl ps => exact Heap.lt_size (show h.get? a = some _ from x)
  | met f y => exact Heap.lt_size (show h.get? a = some _ from x)
  | ext φ => obtain ⟨_, ⟨_, e⟩, _⟩ := x; exact Heap.lt_size e
theorem Paired.mapP {α β : Type} {F G : α → β → Prop} : ∀ {l₁ : List α} {l₂ : List β}, Paired F l₁ l₂ → (∀ a b, F a b → G a b) → Paired G l₁ l₂
  | _, _, .nil, _ => .nil
  | _, _, .cons r t, f => .cons (f _ _ r) (Paired.mapP t f)
theorem Paired.imp' {α β : Type} {F G : α → β → Prop} (f : ∀ a b, F a b → G a b) {l₁ : List α} {l₂ : List β} (r : Paired F l₁ l₂) : Paired G l₁ l₂ := Paired.mapP r f
/-- what an object's description leans on: its own object, its own dict, the tuples -/
theorem ObjOk.stay (x : ObjOk P w H h a o) (k : ∀ b u, (b = a ∨ H b = some (.own a)) → h.get? b = some u → h'.get? b = some u)
    (ho : ∀ b, H b = some (.own a) → H' b = some (.own a)) (ht : ∀ b xs, H b = some (.tup xs) → H' b = some (.tup xs)) : ObjOk P w H' h' a o := by
  induction o with
  | lst xs => obtain ⟨z, its, n, r, e⟩ := x; exact ⟨z, its, n, r, k _ _ (.inl rfl) e⟩
  | tup xs => obtain ⟨z, its, r, ob, e, c⟩ := x; exact ⟨z, its, r, ob, k _ _ (.inl rfl) e, c⟩
  | dK kvs => obtain ⟨z, y, vs, r, ob, es, ep, e, c⟩ := x; exact ⟨z, y, vs, r, ob, es, ep, k _ _ (.inl rfl) e, c⟩
  | dT kvs =>
    obtain ⟨z, y, xs, r, ob, es, ep, e, c⟩ := x
    exact ⟨z, y, xs, Paired.mapP r fun p q z => ⟨z.1, ht _ _ z.2.1, z.2.2⟩, ob, es, ep, k _ _ (.inl rfl) e, c⟩
  | set S n => obtain ⟨ob, es, ep, t, e, c⟩ := x; exact ⟨ob, es, ep, t, k _ _ (.inl rfl) e, c⟩
  | ins C dx fs =>
    obtain ⟨d, z, ne, e, mA, ⟨od, es, ep, e2, c⟩, r⟩ := x
    exact ⟨ho _ d, z, ne, k _ _ (.inl rfl) e, mA, ⟨od, es, ep, k _ _ (.inr d) e2, c⟩, r⟩
  | own y => obtain ⟨ob, e⟩ := x; exact ⟨ob, k _ _ (.inl rfl) e⟩
  | xd fs => obtain ⟨mA, ⟨od, es, ep, e, c⟩, r⟩ := x; exact ⟨mA, ⟨od, es, ep, k _ _ (.inl rfl) e, c⟩, r⟩
  | rng lo hi => obtain ⟨t, u, v, e⟩ := x; exact ⟨t, u, v, k _ _ (.inl rfl) e⟩
  | frz ob u ih => obtain ⟨e, q⟩ := x; exact ⟨k _ _ (.inl rfl) e, ih q⟩
  | tbl ps =>
    have e : h.get? a = some { cls := .none, data := .fields ps } := x
    show h'.get? a = some { cls := .none, data := .fields ps }
    exact k a _ (.inl rfl) e
  | met f y =>
    have e : h.get? a = some (PySem.W.methodObj (.ref f) (.ref y)) := x
    show h'.get? a = some (PySem.W.methodObj (.ref f) (.ref y))
    exact k a _ (.inl rfl) e
  | ext φ => obtain ⟨p, ⟨o, e⟩, st⟩ := x; exact ⟨st _ _ p fun o q => k _ _ (.inl rfl) q, ⟨o, k _ _ (.inl rfl) e⟩, st⟩
theorem HOk.lt (x : HOk P w H h) (e : H a = some o) : a < h.objs.size := (x a o e).lt
theorem HOk.fresh (x : HOk P w H h) (e : h.objs.size ≤ a) : H a = none := by
  cases q : H a with
  | none => rfl
  | some u => exact absurd (Nat.lt_of_lt_of_le (x.lt q) e) (Nat.lt_irrefl _)
/-- every object of the heap is kept -/
theorem HOk.kept (x : HOk P w H h) (k : ∀ b u, h.get? b = some u → h'.get? b = some u) : HOk P w H h' := fun a o e =>
  (x a o e).stay (fun b u _ q => k b u q) (fun _ q => q) fun _ _ q => q
/-- a new object is laid and tracked -/
theorem HOk.laid (x : HOk P w H h) (k : ∀ b u, h.get? b = some u → h'.get? b = some u) (hp : h.objs.size ≤ a) (new : ObjOk P w (upd H a o) h' a o) : HOk P w (upd H a o) h' := fun b u e => by
  have hn := x.fresh hp
  by_cases hb : b = a
  · subst hb; rw [upd_same] at e; cases e; exact new
  · rw [upd_ne hb] at e
    exact (x b u e).stay (fun c v _ q => k c v q) (fun c q => by rw [upd_ne (ne_of_none q hn)]; exact q) fun c xs q => by rw [upd_ne (ne_of_none q hn)]; exact q
end

/-- what may be read as u: it is u, or a known u -/
def Rd (H : Hp) (a : Addr) (u : HO) : Prop := H a = some u ∨ ∃ o, H a = some (.frz o u)
theorem Rd.of {H : Hp} {a : Addr} {u : HO} (h : H a = some u) : Rd H a u := .inl h
theorem Rd.ok {P : Program} {w : World} {H : Hp} {h : Heap} {a : Addr} {u : HO} (r : Rd H a u) (x : HOk P w H h) : ObjOk P w H h a u := by
  rcases r with r | ⟨o, r⟩
  · exact x a u r
  · obtain ⟨_, q⟩ := x a _ r
    exact q
/-- what may be written -/
def Mut : Option HO → Prop
  | some (.lst _) => True
  | some (.dK _) => True
  | some (.dT _) => True
  | some (.set _ _) => True
  | some (.ins _ _ _) => True
  | some (.ext _) => True
  | _ => False
section
variable {P : Program} {w : World} {H : Hp} {h h' : Heap} {x e : Addr} {o' : HO}
/-- the object at e is changed: x itself, or the dict of the instance x -/
theorem HOk.write (ok : HOk P w H h) (mu : Mut (H x)) (he : e = x ∨ H e = some (.own x)) (k : ∀ b u, b ≠ e → h.get? b = some u → h'.get? b = some u) (heo : ∃ u, h'.get? e = some u)
    (new : ObjOk P w (upd H x o') h' x o') : HOk P w (upd H x o') h' := fun b u q => by
  have nown : ∀ c y, H c = some (.own y) → c ≠ x := fun c y r z => by subst z; rw [r] at mu; exact mu
  have ntup : ∀ c xs, H c = some (.tup xs) → c ≠ x := fun c xs r z => by subst z; rw [r] at mu; exact mu
  by_cases hb : b = x
  · subst hb; rw [upd_same] at q; cases q; exact new
  · rw [upd_ne hb] at q
    by_cases hbe : b = e
    · have q' : H b = some (.own x) := by
        rcases he with z | z
        · exact absurd (hbe.trans z) hb
        · rw [hbe]; exact z
      rw [q] at q'; cases q'
      obtain ⟨v, hv⟩ := heo
      exact ⟨v, by rw [hbe]; exact hv⟩
    · refine (ok b u q).stay (fun c v hc r => k c v ?_ r) (fun c r => by rw [upd_ne (nown c b r)]; exact r) fun c xs r => by rw [upd_ne (ntup c xs r)]; exact r
      rcases hc with rfl | hc
      · exact hbe
      · rintro rfl
        rcases he with z | z
        · exact nown c b hc z
        · rw [hc] at z; cases z; exact hb rfl
end

/-! ### kept unless tracked; of the frames at fs (the callers') the slots may change (an exception that passes writes there); of the records at ex (iterators) nothing is said -/
structure Un (fs ex : List Addr) (H H' : Hp) (h h' : Heap) : Prop where
  keep : ∀ b o, h.get? b = some o → H b = none → b ∉ fs → b ∉ ex → h'.get? b = some o
  slot : ∀ b o, h.get? b = some o → H b = none → b ∈ fs → b ∉ ex → ∃ sl, h'.get? b = some { o with slots := sl }
  free : ∀ b o, h.get? b = some o → H b = none → b ∉ ex → H' b = none
  there : ∀ b o, h.get? b = some o → b ∉ ex → ∃ o', h'.get? b = some o'
  tups : ∀ b xs, H b = some (.tup xs) → H' b = some (.tup xs)
  frzs : ∀ b o u, H b = some (.frz o u) → H' b = some (.frz o u)
  tbls : ∀ b ps, H b = some (.tbl ps) → ∃ more, H' b = some (.tbl (ps ++ more))
section
variable {fs fs' ex ex' : List Addr} {H H1 H2 : Hp} {h h1 h2 h' : Heap} {a x e : Addr} {o : HO}
theorem Un.any (u : Un fs ex H H1 h h1) {b : Addr} {ob : Obj} (q : h.get? b = some ob) (n : H b = none) (hx : b ∉ ex) : ∃ sl, h1.get? b = some { ob with slots := sl } := by
  by_cases hb : b ∈ fs
  · exact u.slot b ob q n hb hx
  · exact ⟨ob.slots, u.keep b ob q n hb hx⟩
theorem Un.trans (a : Un fs ex H H1 h h1) (b : Un fs ex H1 H2 h1 h2) : Un fs ex H H2 h h2 where
  keep := fun c ob q n hc hx => b.keep c ob (a.keep c ob q n hc hx) (a.free c ob q n hx) hc hx
  slot := fun c ob q n hc hx => by
    obtain ⟨sl, e1⟩ := a.slot c ob q n hc hx
    obtain ⟨sl', e2⟩ := b.slot c _ e1 (a.free c ob q n hx) hc hx
    exact ⟨sl', e2⟩
  free := fun c ob q n hx => by
    obtain ⟨o', e1⟩ := a.there c ob q hx
    exact b.free c o' e1 (a.free c ob q n hx) hx
  there := fun c ob q hx => by
    obtain ⟨o', e1⟩ := a.there c ob q hx
    exact b.there c o' e1 hx
  tups := fun c xs q => b.tups c xs (a.tups c xs q)
  frzs := fun c ob xs q => b.frzs c ob xs (a.frzs c ob xs q)
  tbls := fun c ps q => by
    obtain ⟨m1, e1⟩ := a.tbls c ps q
    obtain ⟨m2, e2⟩ := b.tbls c _ e1
    exact ⟨m1 ++ m2, by rw [e2, Array.append_assoc]⟩
theorem Un.kept (k : ∀ b u, h.get? b = some u → h'.get? b = some u) : Un fs ex H H h h' :=
  ⟨fun b ob q _ _ _ => k b ob q, fun b ob q _ _ _ => ⟨ob.slots, k b ob q⟩, fun _ _ _ n _ => n, fun b ob q _ => ⟨ob, k b ob q⟩, fun _ _ q => q, fun _ _ _ q => q, fun _ ps q => ⟨#[], by rw [q]; simp⟩⟩
theorem Un.refl : Un fs ex H H h h := Un.kept fun _ _ q => q
theorem Un.laid (k : ∀ b u, h.get? b = some u → h'.get? b = some u) (hp : h.objs.size ≤ a) (hn : H a = none) : Un fs ex H (upd H a o) h h' where
  keep := fun b u q _ _ _ => k b u q
  slot := fun b u q _ _ _ => ⟨u.slots, k b u q⟩
  free := fun b u q n _ => by rw [upd_ne (Nat.ne_of_lt (Nat.lt_of_lt_of_le (Heap.lt_size q) hp))]; exact n
  there := fun b u q _ => ⟨u, k b u q⟩
  tups := fun b xs q => by rw [upd_ne (ne_of_none q hn)]; exact q
  frzs := fun b u xs q => by rw [upd_ne (ne_of_none q hn)]; exact q
  tbls := fun b ps q => ⟨#[], by rw [upd_ne (ne_of_none q hn), q]; simp⟩
theorem Un.write (mu : Mut (H x)) (he : e = x ∨ H e = some (.own x)) (k : ∀ b u, b ≠ e → h.get? b = some u → h'.get? b = some u) (heo : ∃ u, h'.get? e = some u) : Un fs ex H (upd H x o) h h' := by
  have hx : ∀ b, H b = none → b ≠ x := fun b n z => by subst z; rw [n] at mu; exact mu
  have hb : ∀ b, H b = none → b ≠ e := fun b n z => by
    subst z
    rcases he with r | r
    · exact hx b n r
    · rw [n] at r; cases r
  have hm : ∀ b u, H b = some u → ¬ Mut (some u) → b ≠ x := fun b u q nm z => by subst z; rw [q] at mu; exact nm mu
  refine ⟨fun b u q n _ _ => k b u (hb b n) q, fun b u q n _ _ => ⟨u.slots, k b u (hb b n) q⟩, fun b u q n _ => by rw [upd_ne (hx b n)]; exact n, fun b u q _ => ?_,
    fun b xs q => by rw [upd_ne (hm b _ q fun z => z)]; exact q, fun b u xs q => by rw [upd_ne (hm b _ q fun z => z)]; exact q, fun b ps q => ⟨#[], by rw [upd_ne (hm b _ q fun z => z), q]; simp⟩⟩
  by_cases hbe : b = e
  · subst hbe; exact heo
  · exact ⟨u, k b u hbe q⟩
theorem Un.mono (u : Un fs ex H H1 h h1) (hs : ∀ b ∈ fs, b ∈ fs') (hx : ∀ b ∈ ex, b ∈ ex') : Un fs' ex' H H1 h h1 :=
  ⟨fun b ob q n hb he => u.keep b ob q n (fun z => hb (hs b z)) fun z => he (hx b z), fun _ _ q n _ he => u.any q n fun z => he (hx _ z), fun b ob q n he => u.free b ob q n fun z => he (hx b z), fun b ob q he => u.there b ob q fun z => he (hx b z), u.tups, u.frzs, u.tbls⟩
end

/-! ### the heap without what is tracked -/
def trk (h : Heap) (H : Hp) : List Addr := (List.range h.objs.size).filter fun a => (H a).isSome
def hidT (h : Heap) (H : Hp) : Heap := PySem.W.hideAll h (trk h H)
theorem hidT_size (h : Heap) (H : Hp) : (hidT h H).objs.size = h.objs.size := PySem.W.hideAll_size _ _
theorem hidT_get {h : Heap} {H : Hp} {b : Addr} {o : Obj} (e : h.get? b = some o) (n : H b = none) : (hidT h H).get? b = some o :=
  PySem.W.hideAll_get _ e fun hm => by
    have q : (H b).isSome = true := (List.mem_filter.mp hm).2
    rw [n] at q; simp at q
theorem of_hidT {h : Heap} {H : Hp} {b : Addr} {o : Obj} (e : (hidT h H).get? b = some o) : h.get? b = some o ∧ H b = none := by
  have e' : h.get? b = some o := PySem.W.of_hideAll (trk h H) e
  refine ⟨e', ?_⟩
  cases q : H b with
  | none => rfl
  | some x =>
    have hm : b ∈ trk h H := List.mem_filter.mpr ⟨List.mem_range.mpr (Heap.lt_size e'), by simp [q]⟩
    have z : (hidT h H).get? b = none := PySem.W.hideAll_none (trk h H) hm
    rw [z] at e; cases e

/-! ### OpenK's ledger, filled with every new object but one -/
def allNews (g h : Heap) (L : Addr) : List (Addr × Obj) := (List.range h.objs.size).filterMap fun a => if a = L ∨ (g.get? a).isSome = true then none else (h.get? a).map fun o => (a, o)
theorem mem_allNews {g h : Heap} {L a : Addr} {o : Obj} (h1 : a ≠ L) (h2 : g.get? a = none) (h3 : h.get? a = some o) : (a, o) ∈ allNews g h L :=
  List.mem_filterMap.mpr ⟨a, List.mem_range.mpr (Heap.lt_size h3), by simp [h1, h2, h3]⟩
theorem of_mem_allNews {g h : Heap} {L : Addr} {p : Addr × Obj} (hp : p ∈ allNews g h L) : p.1 ≠ L ∧ g.get? p.1 = none ∧ h.get? p.1 = some p.2 := by
  obtain ⟨b, _, e⟩ := List.mem_filterMap.mp hp
  split at e
  · cases e
  · rename_i hn
    cases q : h.get? b with
    | none => rw [q] at e; simp at e
    | some u =>
      rw [q] at e
      simp only [Option.map_some, Option.some.injEq] at e
      subst e
      refine ⟨fun z => hn (.inl z), ?_, q⟩
      show g.get? b = none
      cases r : g.get? b with
      | none => rfl
      | some v => exact (hn (.inr (by simp [r]))).elim
def rest (g h : Heap) (L d : Addr) : List (Addr × Obj) := (allNews g h L).filter fun p => decide (p.1 ≠ d)
theorem rest_ne {g h : Heap} {L d : Addr} : ∀ p ∈ rest g h L d, p.1 ≠ d := fun p hp => of_decide_eq_true (List.mem_filter.mp hp).2
theorem mem_rest {g h : Heap} {L d a : Addr} {o : Obj} (h1 : a ≠ L) (h2 : g.get? a = none) (h3 : h.get? a = some o) (h4 : a ≠ d) : (a, o) ∈ rest g h L d :=
  List.mem_filter.mpr ⟨mem_allNews h1 h2 h3, decide_eq_true h4⟩
theorem news_all {g h : Heap} {L : Addr} : News g L h (allNews g h L) := fun p hp => let ⟨a, b, c⟩ := of_mem_allNews hp; ⟨c, a, b⟩
theorem news_at {g h : Heap} {L d : Addr} {o : Obj} (h1 : d ≠ L) (h2 : g.get? d = none) (h3 : h.get? d = some o) : News g L h ((d, o) :: rest g h L d) := fun p hp => by
  rcases List.mem_cons.mp hp with rfl | hp
  · exact ⟨h3, h1, h2⟩
  · exact news_all p (List.mem_filter.mp hp).1
/-- behind a rule that changed d alone: all else but the frame is kept -/
theorem kept_of_news {g h h' : Heap} {L d : Addr} {m : Str → Option Value} (k : ∀ b o, g.get? b = some o → h.get? b = some o) (F : Fr g L h' m) (N : News g L h' (rest g h L d)) :
    ∀ b o, b ≠ L → b ≠ d → h.get? b = some o → h'.get? b = some o := fun b o h1 h2 e => by
  cases q : g.get? b with
  | some u =>
    have := k b u q
    rw [e] at this; cases this
    exact F.keep b _ q
  | none => exact (N (b, o) (mem_rest h1 q e h2)).1
end L2

namespace L2
open PySem PySem.Spec PyProof.Rows

/-- the module's facts, over the base: the heap at the law's entry without what is tracked there -/
structure Mod (K : PySem.W.Frag) (mg : Str → Option Value) (base : Heap) : Prop where
  kin : K.In base
  glob : base.Ns mainGlobals mg
  blt : ∃ mb, base.Ns builtinsNs mb ∧ ∀ x : Str, x ≠ "__name__" → mb x = bootBuiltins x
  nolimit : base.NoLimit

/-- the context: a def's body (or a comprehension's block) running. base: fixed through the whole law; s₀, H₀: the entry; outer: the frames whose slots others may change (a def's callers); stack: all frames that run;
   ex: iterators that were made ahead of the entry and are walked here (a comprehension's); fn: the names whose cells were made at the entry (a def: all; a comprehension's block: its own); calm: not within an except suite; pn: pins that every state bears; xe: what is wanted of an exception that leaves the code -/
structure Cx where
  prog : Program
  w : World
  K : PySem.W.Frag
  mg : Str → Option Value
  base : Heap
  A : Around
  N : List Str
  s₀ : Shared
  H₀ : Hp
  env : Env
  outer : List Env
  stack : List Env
  ex : List Addr
  fn : Str → Bool
  calm : Bool
  pn : List (Addr × Obj)
  xe : Value → Shared → Prop
/-- the callers' frames -/
def frs (l : List Env) : List Addr := l.filterMap (·.frame)
abbrev Cx.fs (X : Cx) : List Addr := frs X.outer

def Vis (sc : Scope) (x : Str) : Prop := sc.names.lookup x = some .local ∨ sc.names.lookup x = some .cell ∨ sc.names.lookup x = some .free
def Loc (sc : Scope) (x : Str) : Prop := sc.names.lookup x = some .local ∨ sc.names.lookup x = some .cell
def Look (env : Env) (h : Heap) (m : Str → Option Value) (x : Str) (u : Value) : Prop :=
  (env.kindOf x = some .local ∧ m x = some u) ∨ ((env.kindOf x = some .cell ∨ env.kindOf x = some .free) ∧ ∃ c, env.cells.lookup x = some c ∧ h.IsCell c (some u))

structure Cx.Ok (X : Cx) : Prop where
  mod : Mod X.K X.mg X.base
  kind : X.env.scope.kind = .function
  glob : X.env.globals = mainGlobals
  blt : X.env.builtins = builtinsNs
  above : X.s₀.heap.objs.size ≤ X.env.locals
  inj : ∀ x y c, X.env.cells.lookup x = some c → X.env.cells.lookup y = some c → x = y
  has : ∀ x, (X.env.kindOf x = some .cell ∨ X.env.kindOf x = some .free) → ∃ c, X.env.cells.lookup x = some c
  cab : ∀ x c, X.fn x = true → X.env.cells.lookup x = some c → X.s₀.heap.objs.size ≤ c
  hd : X.calm = true → X.A.handled = none
  frames : X.A.frames = some X.stack
  stk : X.stack = X.outer ∨ (X.stack = X.env :: X.outer ∧ X.env.frame = some X.env.locals)
  exf : ∀ b ∈ X.ex, b ≠ X.env.locals ∧ ∀ x c, X.env.cells.lookup x = some c → c ≠ b
  bs : ∀ b o, X.base.get? b = some o → X.s₀.heap.get? b = some o ∧ X.H₀ b = none
  bsz : X.base.objs.size ≤ X.s₀.heap.objs.size
  noex : ∀ b o, X.base.get? b = some o → b ∉ X.ex
  exfs : ∀ b ∈ X.ex, b ∉ X.fs
  funs : X.s₀.heap.FunFrames X.base X.outer
  frf : ∀ b ∈ X.fs, X.H₀ b = none

structure Inv (X : Cx) (pins : List (Addr × Obj)) (σ : List (Option V)) (H : Hp) (s : Shared) : Prop where
  ok : X.Ok
  os : s.os = X.s₀.os
  bare : AllBare s.gens
  base : Un X.fs X.ex X.H₀ H X.s₀.heap s.heap
  loc : ∃ m, s.heap.Ns X.env.locals m ∧ ∀ (i : Nat) (x : Str) (v : V), X.N[i]? = some x → σ[i]? = some (some v) → Vis X.env.scope x → ∃ u, RelV v u ∧ Look X.env s.heap m x u
  cell : ∀ x c, X.env.cells.lookup x = some c → ∃ v, s.heap.IsCell c v
  free : H X.env.locals = none
  freeC : ∀ x c, X.env.cells.lookup x = some c → H c = none
  pin : ∀ p ∈ X.pn ++ pins, s.heap.get? p.1 = some p.2 ∧ H p.1 = none ∧ p.1 ≠ X.env.locals ∧ p.1 ∉ X.fs ∧ ∀ v, p.2.data ≠ .cell v
  hok : HOk X.prog X.w H s.heap
  len : σ.length = X.N.length

section
variable {X : Cx} {pins : List (Addr × Obj)} {σ : List (Option V)} {H H' : Hp} {s : Shared} {h' : Heap}

theorem Cx.Ok.nofr (ok : X.Ok) {b : Addr} {o : Obj} (e : X.base.get? b = some o) : b ∉ X.fs := fun hb => by
  have := (ok.funs.mem hb).1
  rw [e] at this; cases this
theorem Inv.bs (I : Inv X pins σ H s) : ∀ b o, X.base.get? b = some o → s.heap.get? b = some o ∧ H b = none := fun b o e =>
  ⟨I.base.keep b o (I.ok.bs b o e).1 (I.ok.bs b o e).2 (I.ok.nofr e) (I.ok.noex b o e), I.base.free b o (I.ok.bs b o e).1 (I.ok.bs b o e).2 (I.ok.noex b o e)⟩
theorem Inv.bk (I : Inv X pins σ H s) : ∀ b o, X.base.get? b = some o → s.heap.get? b = some o := fun b o e => (I.bs b o e).1
theorem Inv.mod (I : Inv X pins σ H s) : Mod X.K X.mg X.base := I.ok.mod
theorem Inv.kIn (I : Inv X pins σ H s) : X.K.In s.heap := I.ok.mod.kin.keeps I.bk
theorem Inv.nolimit (I : Inv X pins σ H s) : s.heap.NoLimit := I.ok.mod.nolimit.keeps I.bk
/-- the frame over the base: for OpenK's rules (K.In X.base is I.mod.kin) -/
theorem Inv.fr (I : Inv X pins σ H s) : ∃ m, Fr X.base X.env.locals s.heap m :=
  let ⟨m, hn, _⟩ := I.loc
  ⟨m, hn, I.bk, Nat.le_trans I.ok.bsz I.ok.above⟩
theorem Inv.lt (I : Inv X pins σ H s) : X.env.locals < s.heap.objs.size := let ⟨_, hn, _⟩ := I.loc; hn.lt
theorem Inv.sz (I : Inv X pins σ H s) : X.s₀.heap.objs.size ≤ s.heap.objs.size := Nat.le_trans I.ok.above (Nat.le_of_lt I.lt)
theorem Inv.nofs (I : Inv X pins σ H s) {a : Addr} (h : s.heap.objs.size ≤ a) : a ∉ X.fs := fun hb => by
  obtain ⟨_, o, ho, _⟩ := I.ok.funs.mem hb
  exact absurd (Nat.lt_of_lt_of_le (Heap.lt_size ho) (Nat.le_trans I.sz h)) (Nat.lt_irrefl _)
theorem Inv.cne (I : Inv X pins σ H s) : ∀ x c, X.env.cells.lookup x = some c → c ≠ X.env.locals := fun x c e z => by
  obtain ⟨v, o, ho, hd⟩ := I.cell x c e
  obtain ⟨m, ⟨o', es, ep, ho', hd', _⟩, _⟩ := I.loc
  rw [z, ho'] at ho; cases ho; rw [hd'] at hd; cases hd
theorem Inv.funs (I : Inv X pins σ H s) : s.heap.FunFrames X.base X.outer := by
  have all : ∀ (l : List Env), (∀ b ∈ frs l, b ∈ X.fs) → X.s₀.heap.FunFrames X.base l → s.heap.FunFrames X.base l := by
    intro l
    induction l with
    | nil => intro _ _; trivial
    | cons env r ih =>
      intro hs hl
      obtain ⟨hk, ⟨L, o, hf, hn, ho, hd⟩, hr⟩ := hl
      have hL : L ∈ X.fs := hs L (by unfold frs; rw [List.filterMap_cons, hf]; exact List.mem_cons_self)
      obtain ⟨sl, e⟩ := I.base.slot L o ho (I.ok.frf L hL) hL fun z => I.ok.exfs L z hL
      exact ⟨hk, ⟨L, _, hf, hn, e, hd⟩, ih (fun b hb => hs b (by unfold frs; rw [List.filterMap_cons, hf]; exact List.mem_cons_of_mem _ hb)) hr⟩
  exact all X.outer (fun _ hb => hb) I.ok.funs

/-- the frames that run, for a call -/
theorem Inv.stack (I : Inv X pins σ H s) : s.heap.FunFrames X.base X.stack := by
  rcases I.ok.stk with e | ⟨e, hf⟩
  · rw [e]; exact I.funs
  · rw [e]
    obtain ⟨m, hn, _⟩ := I.loc
    refine .cons (by rw [I.ok.kind]; decide) hf hn ?_ I.funs
    exact Heap.get?_none_of_le (Nat.le_trans I.ok.bsz I.ok.above)
theorem Inv.stkSub (I : Inv X pins σ H s) : ∀ b ∈ frs X.stack, b ∈ X.env.locals :: X.fs := fun b hb => by
  rcases I.ok.stk with e | ⟨e, hf⟩
  · rw [e] at hb; exact List.mem_cons_of_mem _ hb
  · rw [e] at hb
    unfold frs at hb
    rw [List.filterMap_cons, hf] at hb
    exact hb
theorem Inv.stkFree (I : Inv X pins σ H s) : ∀ b ∈ frs X.stack, H b = none := fun b hb => by
  rcases List.mem_cons.mp (I.stkSub b hb) with e | hb
  · rw [e]; exact I.free
  · obtain ⟨_, o, ho, _⟩ := I.ok.funs.mem hb
    exact I.base.free b o ho (I.ok.frf b hb) fun z => I.ok.exfs b z hb

/-- THE STEP: the untracked objects but the frame and the records at ch are kept (the callers' frames up to slots), the frame's map is kept, the new abstract heap is held -/
theorem Inv.step {g' : Array GenState} {t' : Nat} {d' : Drawn} {ch : List Addr} (I : Inv X pins σ H s)
    (hch : ∀ b ∈ ch, (b ∈ X.ex ∨ X.s₀.heap.objs.size ≤ b) ∧ b ≠ X.env.locals ∧ (∀ x c, X.env.cells.lookup x = some c → c ≠ b) ∧ ∀ p ∈ X.pn ++ pins, p.1 ≠ b)
    (keep : ∀ b o, b ≠ X.env.locals → b ∉ X.fs → b ∉ ch → s.heap.get? b = some o → H b = none → h'.get? b = some o)
    (slot : ∀ b o, b ≠ X.env.locals → b ∈ X.fs → b ∉ ch → s.heap.get? b = some o → H b = none → ∃ sl, h'.get? b = some { o with slots := sl }) (free : ∀ b o, b ∉ ch → s.heap.get? b = some o → H b = none → H' b = none)
    (there : ∀ b o, b ∉ ch → s.heap.get? b = some o → ∃ o', h'.get? b = some o')
    (tups : ∀ b xs, H b = some (.tup xs) → H' b = some (.tup xs)) (frzs : ∀ b o u, H b = some (.frz o u) → H' b = some (.frz o u)) (tbls : ∀ b ps, H b = some (.tbl ps) → ∃ more, H' b = some (.tbl (ps ++ more)))
    (ns : ∀ m, s.heap.Ns X.env.locals m → h'.Ns X.env.locals m) (hok : HOk X.prog X.w H' h') (hg : AllBare g') :
    Inv X pins σ H' { s with heap := h', gens := g', drawn := d', toks := t' } := by
  have neL : ∀ b o, X.s₀.heap.get? b = some o → b ≠ X.env.locals := fun b o e => Nat.ne_of_lt (Nat.lt_of_lt_of_le (Heap.lt_size e) I.ok.above)
  have neC : ∀ b o, X.s₀.heap.get? b = some o → b ∉ X.ex → b ∉ ch := fun b o e hx hb => by
    rcases (hch b hb).1 with z | z
    · exact hx z
    · exact absurd (Nat.lt_of_lt_of_le (Heap.lt_size e) z) (Nat.lt_irrefl _)
  have cellK : ∀ x c, X.env.cells.lookup x = some c → ∀ v, s.heap.IsCell c v → h'.IsCell c v := fun x c e v ⟨o, ho, hd⟩ => by
    have nch : c ∉ ch := fun z => (hch c z).2.2.1 x c e rfl
    by_cases hc : c ∈ X.fs
    · obtain ⟨sl, q⟩ := slot c o (I.cne x c e) hc nch ho (I.freeC x c e)
      exact ⟨_, q, hd⟩
    · exact ⟨o, keep c o (I.cne x c e) hc nch ho (I.freeC x c e), hd⟩
  refine ⟨I.ok, I.os, hg, ⟨fun b o e n hb hx => ?_, fun b o e n hb hx => ?_, fun b o e n hx => ?_, fun b o e hx => ?_, fun b xs e => tups b xs (I.base.tups b xs e), fun b o xs e => frzs b o xs (I.base.frzs b o xs e), fun b ps e => ?_⟩, ?_, fun x c e => ?_, ?_, fun x c e => ?_, fun p hp => ?_, hok, I.len⟩
  · exact keep b o (neL b o e) hb (neC b o e hx) (I.base.keep b o e n hb hx) (I.base.free b o e n hx)
  · obtain ⟨sl, e1⟩ := I.base.slot b o e n hb hx
    obtain ⟨sl', e2⟩ := slot b _ (neL b o e) hb (neC b o e hx) e1 (I.base.free b o e n hx)
    exact ⟨sl', e2⟩
  · obtain ⟨o', e1⟩ := I.base.there b o e hx
    exact free b o' (neC b o e hx) e1 (I.base.free b o e n hx)
  · obtain ⟨o', e1⟩ := I.base.there b o e hx
    exact there b o' (neC b o e hx) e1
  · obtain ⟨m1, e1⟩ := I.base.tbls b ps e
    obtain ⟨m2, e2⟩ := tbls b _ e1
    exact ⟨m1 ++ m2, by rw [e2, Array.append_assoc]⟩
  · obtain ⟨m, hn, hl⟩ := I.loc
    refine ⟨m, ns m hn, fun i x v e1 e2 e3 => ?_⟩
    obtain ⟨u, r, l⟩ := hl i x v e1 e2 e3
    refine ⟨u, r, ?_⟩
    rcases l with l | ⟨k, c, e, z⟩
    · exact .inl l
    · exact .inr ⟨k, c, e, cellK x c e _ z⟩
  · obtain ⟨v, z⟩ := I.cell x c e
    exact ⟨v, cellK x c e v z⟩
  · obtain ⟨m, ⟨o, _, _, ho, _⟩, _⟩ := I.loc
    exact free _ o (fun z => (hch _ z).2.1 rfl) ho I.free
  · obtain ⟨v, o, ho, hd⟩ := I.cell x c e
    exact free c o (fun z => (hch c z).2.2.1 x c e rfl) ho (I.freeC x c e)
  · obtain ⟨e, n, ne, nf, d⟩ := I.pin p hp
    have nch : p.1 ∉ ch := fun z => (hch p.1 z).2.2.2 p hp rfl
    exact ⟨keep p.1 p.2 ne nf nch e n, free p.1 p.2 nch e n, ne, nf, d⟩
/-- .. where the frame's own object is kept too -/
theorem Inv.un {t' : Nat} (I : Inv X pins σ H s) (u : Un X.fs [] H H' s.heap h') (hok : HOk X.prog X.w H' h') : Inv X pins σ H' { s with heap := h', toks := t' } := by
  obtain ⟨m, ⟨o, es, ep, ho, r⟩, _⟩ := id I.loc
  obtain ⟨sl, hL⟩ := u.any ho I.free (by simp)
  exact I.step (g' := s.gens) (d' := s.drawn) (ch := []) (fun _ z => nomatch z) (fun b o _ hb _ e n => u.keep b o e n hb (by simp)) (fun b o _ hb _ e n => u.slot b o e n hb (by simp)) (fun b o _ e n => u.free b o e n (by simp)) (fun b o _ e => u.there b o e (by simp)) u.tups u.frzs u.tbls (fun m' hm => by
    obtain ⟨o', es', ep', ho', r'⟩ := hm
    rw [ho] at ho'; cases ho'
    exact ⟨_, es', ep', hL, r'⟩) hok I.bare
/-- behind a call (or a comprehension's block): the slots of this frame may have changed too, the records at ch may have turned -/
theorem Inv.call {g' : Array GenState} {t' : Nat} {d' : Drawn} {ch : List Addr} (I : Inv X pins σ H s) (u : Un (frs X.stack) ch H H' s.heap h') (hok : HOk X.prog X.w H' h') (hg : AllBare g')
    (hch : ∀ b ∈ ch, (b ∈ X.ex ∨ X.s₀.heap.objs.size ≤ b) ∧ b ≠ X.env.locals ∧ (∀ x c, X.env.cells.lookup x = some c → c ≠ b) ∧ ∀ p ∈ X.pn ++ pins, p.1 ≠ b) :
    Inv X pins σ H' { s with heap := h', gens := g', drawn := d', toks := t' } := by
  obtain ⟨m, ⟨o, es, ep, ho, r⟩, _⟩ := id I.loc
  obtain ⟨sl, hL⟩ := u.any ho I.free fun z => (hch _ z).2.1 rfl
  exact I.step (ch := ch) hch (fun b o hL hb hc e n => u.keep b o e n (fun z => (List.mem_cons.mp (I.stkSub b z)).elim hL hb) hc) (fun b o _ _ hc e n => u.any e n hc) (fun b o hc e n => u.free b o e n hc) (fun b o hc e => u.there b o e hc) u.tups u.frzs u.tbls (fun m' hm => by
    obtain ⟨o', es', ep', ho', r'⟩ := hm
    rw [ho] at ho'; cases ho'
    exact ⟨_, es', ep', hL, r'⟩) hok hg
/-- an untracked record of ours (an iterator) has turned -/
theorem Inv.turned {t' : Nat} {it : Addr} (I : Inv X pins σ H s) (k : ∀ b o, b ≠ it → s.heap.get? b = some o → h'.get? b = some o) (hn : H it = none) (hL : it ≠ X.env.locals)
    (h1 : it ∈ X.ex ∨ X.s₀.heap.objs.size ≤ it) (h2 : ∀ x c, X.env.cells.lookup x = some c → c ≠ it) (h3 : ∀ p ∈ X.pn ++ pins, p.1 ≠ it) : Inv X pins σ H { s with heap := h', toks := t' } := by
  have nit : ∀ b u, H b = some u → b ≠ it := fun b u e z => by rw [z, hn] at e; cases e
  refine I.step (g' := s.gens) (d' := s.drawn) (ch := [it]) (fun b hb => ?_) (fun b o _ _ hc e _ => k b o (fun z => hc (by simp [z])) e) (fun b o _ _ hc e _ => ⟨o.slots, k b o (fun z => hc (by simp [z])) e⟩) (fun _ _ _ _ n => n)
    (fun b o hc e => ⟨o, k b o (fun z => hc (by simp [z])) e⟩) (fun _ _ e => e) (fun _ _ _ e => e) (fun b ps e => ⟨#[], by rw [e]; simp⟩) (fun m hm => ?_) (fun b u e => ?_) I.bare
  · have e : b = it := by simpa using hb
    subst e
    exact ⟨h1, hL, h2, h3⟩
  · obtain ⟨o, es, ep, ho, r⟩ := hm
    exact ⟨o, es, ep, k _ o (Ne.symm hL) ho, r⟩
  · refine (I.hok b u e).stay (fun c v hc q => k c v ?_ q) (fun _ q => q) fun _ _ q => q
    rcases hc with z | z
    · rw [z]; exact nit b u e
    · exact nit c _ z
theorem Inv.tok (I : Inv X pins σ H s) (t : Nat) : Inv X pins σ H { s with toks := t } := I.un (h' := s.heap) (t' := t) Un.refl I.hok
/-- all objects kept -/
theorem Inv.kept {t' : Nat} (I : Inv X pins σ H s) (k : ∀ b u, s.heap.get? b = some u → h'.get? b = some u) : Inv X pins σ H { s with heap := h', toks := t' } := I.un (Un.kept k) (I.hok.kept k)
/-- a new object laid and tracked -/
theorem Inv.laid {a : Addr} {o : HO} {t' : Nat} (I : Inv X pins σ H s) (k : ∀ b u, s.heap.get? b = some u → h'.get? b = some u) (hp : s.heap.objs.size ≤ a) (new : ObjOk X.prog X.w (upd H a o) h' a o) :
    Inv X pins σ (upd H a o) { s with heap := h', toks := t' } := I.un (Un.laid k hp (I.hok.fresh hp)) (I.hok.laid k hp new)
/-- an object written -/
theorem Inv.write {x e : Addr} {o : HO} {t' : Nat} (I : Inv X pins σ H s) (mu : Mut (H x)) (he : e = x ∨ H e = some (.own x)) (k : ∀ b u, b ≠ e → s.heap.get? b = some u → h'.get? b = some u) (heo : ∃ u, h'.get? e = some u)
    (new : ObjOk X.prog X.w (upd H x o) h' x o) : Inv X pins σ (upd H x o) { s with heap := h', toks := t' } := I.un (Un.write mu he k heo) (I.hok.write mu he k heo new)
/-- forgetting slots, pins -/
theorem Inv.weak {σ' : List (Option V)} (I : Inv X pins σ H s) (hl : σ'.length = σ.length) (w : ∀ (i : Nat) v, σ'[i]? = some (some v) → σ[i]? = some (some v)) : Inv X pins σ' H s :=
  ⟨I.ok, I.os, I.bare, I.base, let ⟨m, hn, hl'⟩ := I.loc; ⟨m, hn, fun i x v e1 e2 e3 => hl' i x v e1 (w i v e2) e3⟩, I.cell, I.free, I.freeC, I.pin, I.hok, hl.trans I.len⟩
theorem Inv.pins_of {pins' : List (Addr × Obj)} (I : Inv X pins σ H s) (h : ∀ p ∈ pins', s.heap.get? p.1 = some p.2 ∧ H p.1 = none ∧ p.1 ≠ X.env.locals ∧ p.1 ∉ X.fs ∧ ∀ v, p.2.data ≠ .cell v) : Inv X pins' σ H s :=
  ⟨I.ok, I.os, I.bare, I.base, I.loc, I.cell, I.free, I.freeC, fun p hp => (List.mem_append.mp hp).elim (fun z => I.pin p (List.mem_append_left _ z)) (h p), I.hok, I.len⟩

theorem nodup_ix {N : List Str} (hN : N.Nodup) {i j : Nat} {x : Str} (a : N[i]? = some x) (b : N[j]? = some x) : i = j := by
  obtain ⟨h1, e1⟩ := List.getElem?_eq_some_iff.mp a
  obtain ⟨h2, e2⟩ := List.getElem?_eq_some_iff.mp b
  exact (List.getElem_inj hN).mp (e1.trans e2.symm)

/-- a name is stored; what changed -/
theorem store_ok2 {M : Model} {A : Around} {E : Value → Shared → Prop} {i : Nat} {x : Str} {v : V} {u : Value} {Q : Unit → Shared → Prop} (I : Inv X pins σ H s) (hN : X.N.Nodup) (hi : X.N[i]? = some x) (hx : Loc X.env.scope x) (r : RelV v u)
    (h : ∀ s', Inv X pins (σ.set i (some v)) H s' → (∃ a, Heap.SameBut a s.heap s'.heap ∧ (a = X.env.locals ∨ X.env.cells.lookup x = some a)) → Q () s') (hf : X.fn x = true ∨ X.env.scope.names.lookup x = some .local := by first | exact .inl rfl | exact .inr rfl | assumption) : wpAny M A (storeName X.env x u) Q E s := by
  obtain ⟨m, hn, hl⟩ := id I.loc
  have hcls : (X.env.scope.kind == .class || (X.env.scope.kind == .module && X.env.locals != X.env.globals)) = false := by rw [I.ok.kind]; rfl
  have hiσ : i < σ.length := by rw [I.len]; exact (List.getElem?_eq_some_iff.mp hi).1
  have cne := I.cne
  have tracked : ∀ {a : Addr} {h' : Heap}, (∃ o, s.heap.get? a = some o ∧ H a = none) → Heap.SameBut a s.heap h' → HOk X.prog X.w H h' := fun {a h'} ha hs b ob e => by
    obtain ⟨_, _, hfree⟩ := ha
    refine (I.hok b ob e).stay (fun c w' hc q => (hs.2 c ?_).trans q) (fun _ q => q) fun _ _ q => q
    rintro rfl
    rcases hc with rfl | hc
    · rw [hfree] at e; cases e
    · rw [hfree] at hc; cases hc
  rcases hx with hk | hk
  · refine wpAny_storeName_local hk hn (fun h' hn' hs => ?_) hcls
    obtain ⟨oL, _, _, hoL, _⟩ := id hn
    refine h _ ⟨I.ok, I.os, I.bare, ⟨fun b o e n hb hx => ?_, fun b o e n hb hx => ?_, I.base.free, fun b o e hx => ?_, I.base.tups, I.base.frzs, I.base.tbls⟩, ⟨_, hn', fun j y v' e1 e2 e3 => ?_⟩, fun y c e => ?_, I.free, I.freeC, fun p hp => ?_, tracked ⟨oL, hoL, I.free⟩ hs, by simpa using I.len⟩ ⟨_, hs, .inl rfl⟩
    · exact (hs.2 b (Nat.ne_of_lt (Nat.lt_of_lt_of_le (Heap.lt_size e) I.ok.above))).trans (I.base.keep b o e n hb hx)
    · obtain ⟨sl, e1⟩ := I.base.slot b o e n hb hx
      exact ⟨sl, (hs.2 b (Nat.ne_of_lt (Nat.lt_of_lt_of_le (Heap.lt_size e) I.ok.above))).trans e1⟩
    · obtain ⟨o', e1⟩ := I.base.there b o e hx
      exact ⟨o', (hs.2 b (Nat.ne_of_lt (Nat.lt_of_lt_of_le (Heap.lt_size e) I.ok.above))).trans e1⟩
    · by_cases hj : j = i
      · subst hj
        rw [hi] at e1; cases e1
        rw [List.getElem?_set_self hiσ] at e2
        cases e2
        exact ⟨u, r, .inl ⟨hk, by simp⟩⟩
      · rw [List.getElem?_set_ne (Ne.symm hj)] at e2
        obtain ⟨u', r', q⟩ := hl j y v' e1 e2 e3
        refine ⟨u', r', ?_⟩
        rcases q with ⟨k, e⟩ | ⟨k, c, e, z⟩
        · refine .inl ⟨k, ?_⟩
          have : y ≠ x := fun e => hj (nodup_ix hN e1 (e ▸ hi))
          simp [this, e]
        · exact .inr ⟨k, c, e, z.sameBut hs (cne y c e)⟩
    · obtain ⟨w', z⟩ := I.cell y c e
      exact ⟨w', z.sameBut hs (cne y c e)⟩
    · obtain ⟨e, n, ne, nf, d⟩ := I.pin p hp
      exact ⟨(hs.2 p.1 ne).trans e, n, ne, nf, d⟩
  · have hfn : X.fn x = true := by
      rcases hf with z | z
      · exact z
      · rw [z] at hk; cases hk
    obtain ⟨c, hc⟩ := I.ok.has x (.inl hk)
    obtain ⟨w', z⟩ := I.cell x c hc
    refine wpAny_storeName_cell I.ok.kind hk hc z (fun h' hc' hs => ?_)
    obtain ⟨oc, hoc, hocd⟩ := id z
    refine h { s with heap := h' } ⟨I.ok, I.os, I.bare, ⟨fun b o e n hb hx => ?_, fun b o e n hb hx => ?_, I.base.free, fun b o e hx => ?_, I.base.tups, I.base.frzs, I.base.tbls⟩, ⟨m, hn.sameBut hs (Ne.symm (cne x c hc)), fun j y v' e1 e2 e3 => ?_⟩, fun y c' e => ?_, I.free, I.freeC, fun p hp => ?_, tracked ⟨oc, hoc, I.freeC x c hc⟩ hs, by simpa using I.len⟩ ⟨c, hs, .inr hc⟩
    · exact (hs.2 b (Nat.ne_of_lt (Nat.lt_of_lt_of_le (Heap.lt_size e) (I.ok.cab x c hfn hc)))).trans (I.base.keep b o e n hb hx)
    · obtain ⟨sl, e1⟩ := I.base.slot b o e n hb hx
      exact ⟨sl, (hs.2 b (Nat.ne_of_lt (Nat.lt_of_lt_of_le (Heap.lt_size e) (I.ok.cab x c hfn hc)))).trans e1⟩
    · obtain ⟨o', e1⟩ := I.base.there b o e hx
      exact ⟨o', (hs.2 b (Nat.ne_of_lt (Nat.lt_of_lt_of_le (Heap.lt_size e) (I.ok.cab x c hfn hc)))).trans e1⟩
    · by_cases hj : j = i
      · subst hj
        rw [hi] at e1; cases e1
        rw [List.getElem?_set_self hiσ] at e2
        cases e2
        exact ⟨u, r, .inr ⟨.inl hk, c, hc, hc'⟩⟩
      · rw [List.getElem?_set_ne (Ne.symm hj)] at e2
        obtain ⟨u', r', q⟩ := hl j y v' e1 e2 e3
        refine ⟨u', r', ?_⟩
        rcases q with q | ⟨k, c', e, z'⟩
        · exact .inl q
        · refine .inr ⟨k, c', e, z'.sameBut hs ?_⟩
          rintro rfl
          exact hj (nodup_ix hN e1 (I.ok.inj _ _ _ e hc ▸ hi))
    · by_cases hcc : c' = c
      · subst hcc; exact ⟨_, hc'⟩
      · obtain ⟨w2, z2⟩ := I.cell y c' e
        exact ⟨w2, z2.sameBut hs hcc⟩
    · obtain ⟨e, n, ne, nf, d⟩ := I.pin p hp
      refine ⟨(hs.2 p.1 ?_).trans e, n, ne, nf, d⟩
      intro q
      rw [q, hoc] at e
      have q' : oc = p.2 := Option.some.inj e
      exact d w' (by rw [← q']; exact hocd)
theorem store_ok {M : Model} {A : Around} {E : Value → Shared → Prop} {i : Nat} {x : Str} {v : V} {u : Value} {Q : Unit → Shared → Prop} (I : Inv X pins σ H s) (hN : X.N.Nodup) (hi : X.N[i]? = some x) (hx : Loc X.env.scope x) (r : RelV v u)
    (h : ∀ s', Inv X pins (σ.set i (some v)) H s' → Q () s') (hf : X.fn x = true ∨ X.env.scope.names.lookup x = some .local := by first | exact .inl rfl | exact .inr rfl | assumption) : wpAny M A (storeName X.env x u) Q E s :=
  store_ok2 I hN hi hx r (fun s' I' _ => h s' I') hf
/-- behind a call or a block, the state as it is -/
theorem Inv.call' {s' : Shared} {ch : List Addr} (I : Inv X pins σ H s) (ho : s'.os = s.os) (u : Un (frs X.stack) ch H H' s.heap s'.heap) (hok : HOk X.prog X.w H' s'.heap) (hg : AllBare s'.gens)
    (hch : ∀ b ∈ ch, (b ∈ X.ex ∨ X.s₀.heap.objs.size ≤ b) ∧ b ≠ X.env.locals ∧ (∀ x c, X.env.cells.lookup x = some c → c ≠ b) ∧ ∀ p ∈ X.pn ++ pins, p.1 ≠ b) : Inv X pins σ H' s' := by
  obtain ⟨h', g', d', t', o'⟩ := s'
  have e : o' = s.os := ho
  subst e
  exact I.call (g' := g') (t' := t') (d' := d') u hok hg hch
end

/-! ### the judgements -/
/-- an exception: its class, its own dict's address (where it has one), the abstract heap behind it -/
abbrev XK := Value → Option Addr → Hp → Prop
abbrev St := List (Option V)
abbrev VK := V → Hp → Prop
/-- an expression's reading; a test's; an argument list's -/
abbrev TE := St → Hp → VK → Prop
abbrev TT := St → Hp → (Bool → Hp → Prop) → Prop
abbrev TA := St → Hp → (List V → Hp → Prop) → Prop
/-- what is wanted behind a statement -/
structure Ends where
  nx : St → Hp → Prop
  rt : VK
  bk : St → Hp → Prop := fun _ _ => False
  ct : St → Hp → Prop := fun _ _ => False
abbrev TS := Ends → St → Hp → Prop

def EP (X : Cx) (pins : List (Addr × Obj)) (σ : St) (Q : VK) (u : Value) (s' : Shared) : Prop := ∃ v H', Inv X pins σ H' s' ∧ RelV v u ∧ Q v H'
def TP (X : Cx) (pins : List (Addr × Obj)) (σ : St) (Q : Bool → Hp → Prop) (b : Bool) (s' : Shared) : Prop := ∃ H', Inv X pins σ H' s' ∧ Q b H'
def AP (X : Cx) (pins : List (Addr × Obj)) (σ : St) (Q : List V → Hp → Prop) (us : List Value) (s' : Shared) : Prop := ∃ vs H', Inv X pins σ H' s' ∧ Vals vs us ∧ Q vs H'
def SP (X : Cx) (pins : List (Addr × Obj)) (D : Ends) (f : Flow) (s' : Shared) : Prop :=
  match f with
  | .next => ∃ σ' H', Inv X pins σ' H' s' ∧ D.nx σ' H'
  | .brk => ∃ σ' H', Inv X pins σ' H' s' ∧ D.bk σ' H'
  | .cont => ∃ σ' H', Inv X pins σ' H' s' ∧ D.ct σ' H'
  | .ret u => ∃ v σ' H', Inv X pins σ' H' s' ∧ RelV v u ∧ D.rt v H'

def PE (X : Cx) (e : Expr) (t : TE) : Prop :=
  ∀ (pins : List (Addr × Obj)) (s : Shared) (σ : St) (H : Hp) (Q : VK), Inv X pins σ H s → t σ H Q → wpAny (model X.prog X.w) X.A (eval e X.env) (EP X pins σ Q) X.xe s
def PT (X : Cx) (e : Expr) (t : TT) : Prop :=
  ∀ (pins : List (Addr × Obj)) (s : Shared) (σ : St) (H : Hp) (Q : Bool → Hp → Prop), Inv X pins σ H s → t σ H Q → wpAny (model X.prog X.w) X.A (isTrue e X.env (eval e X.env)) (TP X pins σ Q) X.xe s
/-- a test whatever its 'whole' is (and, or) -/
def PW (X : Cx) (e : Expr) (t : TT) : Prop :=
  ∀ (whole : Sem Value) (pins : List (Addr × Obj)) (s : Shared) (σ : St) (H : Hp) (Q : Bool → Hp → Prop), Inv X pins σ H s → t σ H Q → wpAny (model X.prog X.w) X.A (isTrue e X.env whole) (TP X pins σ Q) X.xe s
theorem PW.pt {X : Cx} {e : Expr} {t : TT} (h : PW X e t) : PT X e t := h _
/-- an argument list (no star), from the left -/
def PA (X : Cx) (es : List Expr) (t : TA) : Prop :=
  ∀ (pos : Pos) (pins : List (Addr × Obj)) (s : Shared) (σ : St) (H : Hp) (Q : List V → Hp → Prop), Inv X pins σ H s → t σ H Q → wpAny (model X.prog X.w) X.A (spliced (backTo pos (starEach es X.env))) (AP X pins σ Q) X.xe s
def PS (X : Cx) (st : Stmt) (t : TS) : Prop :=
  ∀ (pins : List (Addr × Obj)) (s : Shared) (σ : St) (H : Hp) (D : Ends), Inv X pins σ H s → t D σ H → wpAny (model X.prog X.w) X.A (exec st X.env) (SP X pins D) X.xe s
def PSs (X : Cx) (st : List Stmt) (t : TS) : Prop :=
  ∀ (pins : List (Addr × Obj)) (s : Shared) (σ : St) (H : Hp) (D : Ends), Inv X pins σ H s → t D σ H → wpAny (model X.prog X.w) X.A (execs st X.env) (SP X pins D) X.xe s
/-- weaken the end -/
theorem thn {α : Type} {t : Sem α} {Q Q' : α → Shared → Prop} {M : Model} {A : Around} {E : Value → Shared → Prop} {s : Shared} (h : wpAny M A t Q E s) (hQ : ∀ a s, Q a s → Q' a s) : wpAny M A t Q' E s := wpAny_mono h hQ fun _ _ x => x
end L2

namespace L2
open PySem PySem.Spec PyProof.Rows
section
variable {X : Cx}

/-- two expressions in a row -/
theorem bin {a b : Expr} {ta tb : TE} (ha : PE X a ta) (hb : PE X b tb) {pins : List (Addr × Obj)} {s : Shared} {σ : St} {H : Hp} {R : V → V → Hp → Prop} (I : Inv X pins σ H s) (h : ta σ H fun x H1 => tb σ H1 fun y H2 => R x y H2)
    {α : Type} {Q : α → Shared → Prop} {f : Value → Value → Sem α}
    (hf : ∀ v u s2 x y H2, Inv X pins σ H2 s2 → RelV x v → RelV y u → R x y H2 → wpAny (model X.prog X.w) X.A (f v u) Q X.xe s2) :
    wpAny (model X.prog X.w) X.A (eval a X.env) (fun v s₁ => wpAny (model X.prog X.w) X.A (eval b X.env) (fun u s₂ => wpAny (model X.prog X.w) X.A (f v u) Q X.xe s₂) X.xe s₁) X.xe s := by
  refine thn (ha pins s σ H _ I h) fun v s1 ⟨x, H1, I1, r1, q1⟩ => ?_
  refine thn (hb pins s1 σ H1 _ I1 q1) fun u s2 ⟨y, H2, I2, r2, q2⟩ => ?_
  exact hf v u s2 x y H2 I2 r1 r2 q2

/-! ### names and constants -/
def tVar (i : Nat) : TE := fun σ H Q => ∃ v, σ[i]? = some (some v) ∧ Q v H
def tC (v : V) : TE := fun _ H Q => Q v H
theorem pe_var {i : Nat} {x : Str} {pos : Pos} (hN : X.N[i]? = some x) (hv : Vis X.env.scope x) (hd : (x == ("__debug__" : Str)) = false := by decide) (hcd : (x == ("__classdict__" : Str)) = false := by decide) : PE X (.Name x pos) (tVar i) := by
  intro pins s σ H Q I h
  obtain ⟨v, e, h⟩ := h
  obtain ⟨m, hn, hl⟩ := I.loc
  obtain ⟨u, r, l⟩ := hl i x v hN e hv
  have fin : EP X pins σ Q u s := ⟨v, H, I, r, h⟩
  rcases l with ⟨hk, hm⟩ | ⟨hk, c, hc, hcell⟩
  · exact wpAny_Name (wpAny_loadName_local I.ok.kind hk hn hm fin) hd
  · rcases hk with hk | hk
    · exact wpAny_Name (wpAny_loadName_cell I.ok.kind hk hc hcell fin) hd
    · exact wpAny_Name (wpAny_loadName_free I.ok.kind hk hc hcell fin hcd) hd
theorem pe_int {i j pos} : PE X (.Constant (.int i) j pos) (tC (.int i)) := fun _ _ _ H _ I h => wpAny_Constant_int ⟨.int i, H, I.tok _, ⟨_, rfl⟩, h⟩
theorem pe_bl {b j pos} : PE X (.Constant (.bool b) j pos) (tC (.bl b)) := fun _ _ _ H _ I h => Constant_bool ⟨.bl b, H, I, rfl, h⟩
theorem pe_non {j pos} : PE X (.Constant .none j pos) (tC .non) := fun _ _ _ H _ I h => Constant_none ⟨.non, H, I, rfl, h⟩
theorem pe_str {x j pos} : PE X (.Constant (.str x) j pos) (tC (.str x)) := fun _ _ _ H _ I h => Calls.Constant_str ⟨.str x, H, I.tok _, ⟨_, rfl⟩, h⟩

/-- a global name of the def -/
def Gl (X : Cx) (x : Str) : Prop := X.env.kindOf x = some .globalImplicit
theorem ld_glob {E : Value → Shared → Prop} {pins : List (Addr × Obj)} {s : Shared} {σ : St} {H : Hp} {x : Str} {u : Value} {pos : Pos} {Q : Value → Shared → Prop} (I : Inv X pins σ H s) (hg : Gl X x) (hm : X.mg x = some u) (h : Q u s)
    (hd : (x == ("__debug__" : Str)) = false := by decide) : wpAny (model X.prog X.w) X.A (eval (.Name x pos) X.env) Q E s :=
  Calls.Name_function_global I.ok.kind hg (Calls.loadGlobal_global (by rw [I.ok.glob]; exact I.mod.glob.keeps I.bk) hm h) hd
theorem ld_blt {E : Value → Shared → Prop} {pins : List (Addr × Obj)} {s : Shared} {σ : St} {H : Hp} {x : Str} {u : Value} {pos : Pos} {Q : Value → Shared → Prop} (I : Inv X pins σ H s) (hg : Gl X x) (hm : X.mg x = none) (hv : bootBuiltins x = some u) (h : Q u s)
    (hn : x ≠ "__name__" := by decide) (hd : (x == ("__debug__" : Str)) = false := by decide) : wpAny (model X.prog X.w) X.A (eval (.Name x pos) X.env) Q E s := by
  obtain ⟨mb, h1, h2⟩ := I.mod.blt
  exact Calls.Name_function_global I.ok.kind hg (Calls.loadGlobal_builtin (by rw [I.ok.glob]; exact I.mod.glob.keeps I.bk) hm (by rw [I.ok.blt]; exact h1.keeps I.bk) ((h2 x hn).trans hv) h) hd
/-- a module's constant, a class, a function, as a value -/
theorem pe_glob {x : Str} {v : V} {u : Value} {pos : Pos} (hg : Gl X x) (hm : X.mg x = some u) (r : RelV v u) (hd : (x == ("__debug__" : Str)) = false := by decide) : PE X (.Name x pos) (tC v) :=
  fun _ _ _ H _ I h => ld_glob I hg hm ⟨v, H, I, r, h⟩ hd
theorem pe_bltn {x : Str} {v : V} {u : Value} {pos : Pos} (hg : Gl X x) (hm : X.mg x = none) (hv : bootBuiltins x = some u) (r : RelV v u) (hn : x ≠ "__name__" := by decide) (hd : (x == ("__debug__" : Str)) = false := by decide) : PE X (.Name x pos) (tC v) :=
  fun _ _ _ H _ I h => ld_blt I hg hm hv ⟨v, H, I, r, h⟩ hn hd

/-! ### arithmetic -/
/-- two ints -/
def t2I (ta tb : TE) (k : Int → Int → Hp → Prop) : St → Hp → Prop := fun σ H => ta σ H fun x H1 => tb σ H1 fun y H2 => ∃ i j, x = .int i ∧ y = .int j ∧ k i j H2
def tAdd (ta tb : TE) : TE := fun σ H Q => t2I ta tb (fun i j H2 => Q (.int (i + j)) H2) σ H
def tSub (ta tb : TE) : TE := fun σ H Q => t2I ta tb (fun i j H2 => Q (.int (i - j)) H2) σ H
/-- the left factor below 2^64 -/
def tMul (ta tb : TE) : TE := fun σ H Q => t2I ta tb (fun i j H2 => (-(2 ^ 64) < i ∧ i < 2 ^ 64) ∧ Q (.int (i * j)) H2) σ H
variable {a b : Expr} {ta tb : TE} {pos : Pos}
theorem pe_add (ha : PE X a ta) (hb : PE X b tb) : PE X (.BinOp a .Add b pos) (tAdd ta tb) := by
  intro pins s σ H Q I h
  refine wpAny_BinOp (bin ha hb I h fun v u s2 x y H2 I2 rx ry q => ?_)
  obtain ⟨i, j, rfl, rfl, q⟩ := q
  obtain ⟨t, rfl⟩ := rx
  obtain ⟨t', rfl⟩ := ry
  exact add_int ⟨.int _, H2, I2.tok _, ⟨_, rfl⟩, q⟩
theorem pe_sub (ha : PE X a ta) (hb : PE X b tb) : PE X (.BinOp a .Sub b pos) (tSub ta tb) := by
  intro pins s σ H Q I h
  refine wpAny_BinOp (bin ha hb I h fun v u s2 x y H2 I2 rx ry q => ?_)
  obtain ⟨i, j, rfl, rfl, q⟩ := q
  obtain ⟨t, rfl⟩ := rx
  obtain ⟨t', rfl⟩ := ry
  exact sub_int ⟨.int _, H2, I2.tok _, ⟨_, rfl⟩, q⟩
theorem pe_mul (ha : PE X a ta) (hb : PE X b tb) : PE X (.BinOp a .Mult b pos) (tMul ta tb) := by
  intro pins s σ H Q I h
  refine wpAny_BinOp (bin ha hb I h fun v u s2 x y H2 I2 rx ry q => ?_)
  obtain ⟨i, j, rfl, rfl, ⟨q1, q2⟩, q⟩ := q
  obtain ⟨t, rfl⟩ := rx
  obtain ⟨t', rfl⟩ := ry
  exact mul_int ⟨.int _, H2, I2.tok _, ⟨_, rfl⟩, q⟩ (.of_left (intBits_le_64 q1 q2))

/-! ### comparisons -/
def PC (X : Cx) (op : CmpOp) (a b : Expr) (t : TE) : Prop :=
  ∀ (pins : List (Addr × Obj)) (s : Shared) (σ : St) (H : Hp) (Q : VK), Inv X pins σ H s → t σ H Q →
    wpAny (model X.prog X.w) X.A (eval a X.env) (fun v s₁ => wpAny (model X.prog X.w) X.A (eval b X.env) (fun u s₂ => wpAny (model X.prog X.w) X.A (compareOp op v u) (EP X pins σ Q) X.xe s₂) X.xe s₁) X.xe s
theorem nobehind (b : Expr) {op : CmpOp} (h : op ≠ .In) (h2 : op ≠ .NotIn) : behindInMarks op b = false := by
  have e1 : (op == CmpOp.In) = false := by cases op <;> first | rfl | exact absurd rfl h
  have e2 : (op == CmpOp.NotIn) = false := by cases op <;> first | rfl | exact absurd rfl h2
  cases b <;> simp [behindInMarks, e1, e2]
def tCmp (p : Int → Int → Bool) (ta tb : TE) : TE := fun σ H Q => t2I ta tb (fun i j H2 => Q (.bl (p i j)) H2) σ H
abbrev tLt : TE → TE → TE := tCmp fun i j => decide (i < j)
abbrev tLe : TE → TE → TE := tCmp fun i j => decide (i ≤ j)
abbrev tGt : TE → TE → TE := tCmp fun i j => decide (j < i)
abbrev tGe : TE → TE → TE := tCmp fun i j => decide (j ≤ i)
abbrev tEqI : TE → TE → TE := tCmp fun i j => decide (i = j)
abbrev tNeI : TE → TE → TE := tCmp fun i j => !decide (i = j)
/-- a comparison of two ints, by its rule -/
theorem pc_int {op : CmpOp} {p : Int → Int → Bool} (ha : PE X a ta) (hb : PE X b tb)
    (rule : ∀ (i j : Int) (t u : Tok) (Q : Value → Shared → Prop) (s : Shared), Q (.bool (p i j)) s → wpAny (model X.prog X.w) X.A (compareOp op (.int i t) (.int j u)) Q X.xe s) : PC X op a b (tCmp p ta tb) := by
  intro pins s σ H Q I h
  refine bin ha hb I h fun v u s2 x y H2 I2 rx ry q => ?_
  obtain ⟨i, j, rfl, rfl, q⟩ := q
  obtain ⟨t, rfl⟩ := rx
  obtain ⟨t', rfl⟩ := ry
  exact rule i j t t' _ s2 ⟨.bl _, H2, I2, rfl, q⟩
theorem pc_lt (ha : PE X a ta) (hb : PE X b tb) : PC X .Lt a b (tLt ta tb) := pc_int ha hb fun _ _ _ _ _ _ h => lt_int h
theorem pc_le (ha : PE X a ta) (hb : PE X b tb) : PC X .LtE a b (tLe ta tb) := pc_int ha hb fun _ _ _ _ _ _ h => le_int h
theorem pc_gt (ha : PE X a ta) (hb : PE X b tb) : PC X .Gt a b (tGt ta tb) := pc_int ha hb fun _ _ _ _ _ _ h => gt_int h
theorem pc_ge (ha : PE X a ta) (hb : PE X b tb) : PC X .GtE a b (tGe ta tb) := pc_int ha hb fun _ _ _ _ _ _ h => ge_int h
theorem pc_eqI (ha : PE X a ta) (hb : PE X b tb) : PC X .Eq a b (tEqI ta tb) := pc_int ha hb fun _ _ _ _ _ _ h => eq_int (by rw [Bool.beq_eq_decide_eq]; exact h)
theorem pc_neI (ha : PE X a ta) (hb : PE X b tb) : PC X .NotEq a b (tNeI ta tb) := pc_int ha hb fun _ _ _ _ _ _ h => ne_int (by rw [bne, Bool.beq_eq_decide_eq]; exact h)
/-- is None -/
def tIsN (ta : TE) : TE := fun σ H Q => ta σ H fun x H1 => Q (.bl (decide (x = .non))) H1
def tNotN (ta : TE) : TE := fun σ H Q => ta σ H fun x H1 => Q (.bl (!decide (x = .non))) H1
theorem RelV.none_iff {x : V} {v : Value} (r : RelV x v) : (v == Value.none) = decide (x = .non) := by
  cases x with
  | non => cases r; rfl
  | bl _ => cases r; rfl
  | int _ => obtain ⟨t, rfl⟩ := r; rfl
  | str _ => obtain ⟨t, rfl⟩ := r; rfl
  | byt _ => obtain ⟨t, rfl⟩ := r; rfl
  | flt _ => obtain ⟨t, rfl⟩ := r; rfl
  | ref _ => cases r; rfl
  | ty _ => cases r; rfl
theorem pc_isN {j pos'} (ha : PE X a ta) : PC X .Is a (.Constant .none j pos') (tIsN ta) := by
  intro pins s σ H Q I h
  refine thn (ha pins s σ H _ I h) fun v s1 ⟨x, H1, I1, r1, q1⟩ => ?_
  exact Constant_none (is_none_gen ⟨.bl _, H1, I1, by rw [r1.none_iff]; rfl, q1⟩)
theorem pc_notN {j pos'} (ha : PE X a ta) : PC X .IsNot a (.Constant .none j pos') (tNotN ta) := by
  intro pins s σ H Q I h
  refine thn (ha pins s σ H _ I h) fun v s1 ⟨x, H1, I1, r1, q1⟩ => ?_
  exact Constant_none (isnot_none_gen ⟨.bl _, H1, I1, by rw [r1.none_iff]; rfl, q1⟩)
/-- a comparison as a value, as a test -/
def tB (t : TE) : TT := fun σ H Q => t σ H fun x H1 => ∃ c, x = .bl c ∧ Q c H1
theorem pe_cmp {op : CmpOp} {t : TE} (h : PC X op a b t) (h1 : behindInMarks op b = false := by first | exact nobehind _ (by decide) (by decide) | rfl) : PE X (.Compare a [op] [b] pos) t := fun pins s σ H Q I hw => wpAny_Compare1 (h pins s σ H Q I hw) h1
theorem pt_cmp {op : CmpOp} {t : TE} (h : PC X op a b t) (h1 : behindInMarks op b = false := by first | exact nobehind _ (by decide) (by decide) | rfl) : PT X (.Compare a [op] [b] pos) (tB t) := by
  intro pins s σ H Q I hw
  refine wpAny_isTrue_Compare1 (thn (h pins s σ H _ I hw) fun v s1 h1 => thn h1 fun u s2 h2 => thn h2 fun c s3 ⟨x, H1, I1, r1, q1⟩ => ?_) h1
  obtain ⟨d, rfl, q⟩ := q1
  cases r1
  exact wpAny_truthy_bool ⟨H1, I1, q⟩
/-- an expression whose value is a bool, as a test -/
theorem pt_val {e : Expr} {t : TE} (h : PE X e t) (he : ∀ whole, isTrue e X.env whole = (do let v ← whole; standAt e.pos; holding [v] (truthy v)) := by intro _; rfl) : PT X e (tB t) := by
  intro pins s σ H Q I hw
  refine isTrue_plain (thn (h pins s σ H _ I hw) fun v s1 ⟨x, H1, I1, r1, q1⟩ => ?_) (he _)
  obtain ⟨d, rfl, q⟩ := q1
  cases r1
  exact wpAny_truthy_bool ⟨H1, I1, q⟩

/-! ### and, or, not -/
variable {tA tB' : TT} {rest : List Expr}
def tAnd (t u : TT) : TT := fun σ H Q => t σ H fun c H1 => if c = true then u σ H1 Q else Q false H1
def tOr (t u : TT) : TT := fun σ H Q => t σ H fun c H1 => if c = true then Q true H1 else u σ H1 Q
def tNot (t : TT) : TT := fun σ H Q => t σ H fun c H1 => Q (!c) H1
theorem pw_and1 (ha : PT X a tA) : PW X (.BoolOp .And [a] pos) tA := by
  intro wh pins s σ H Q I h
  refine isTrue_and (thn (ha pins s σ H Q I h) fun c s1 e => ?_)
  cases c with
  | true => exact isTrue_and_nil e
  | false => exact e
theorem pw_or1 (ha : PT X a tA) : PW X (.BoolOp .Or [a] pos) tA := by
  intro wh pins s σ H Q I h
  refine isTrue_or (thn (ha pins s σ H Q I h) fun c s1 e => ?_)
  cases c with
  | false => exact isTrue_or_nil e
  | true => exact e
theorem pw_and (ha : PT X a tA) (hb : PW X (.BoolOp .And (b :: rest) pos) tB') : PW X (.BoolOp .And (a :: b :: rest) pos) (tAnd tA tB') := by
  intro wh pins s σ H Q I h
  refine isTrue_and (thn (ha pins s σ H _ I h) fun c s1 ⟨H1, I1, q1⟩ => ?_)
  cases c with
  | true => exact hb wh pins s1 σ H1 Q I1 q1
  | false => exact ⟨H1, I1, q1⟩
theorem pw_or (ha : PT X a tA) (hb : PW X (.BoolOp .Or (b :: rest) pos) tB') : PW X (.BoolOp .Or (a :: b :: rest) pos) (tOr tA tB') := by
  intro wh pins s σ H Q I h
  refine isTrue_or (thn (ha pins s σ H _ I h) fun c s1 ⟨H1, I1, q1⟩ => ?_)
  cases c with
  | true => exact ⟨H1, I1, q1⟩
  | false => exact hb wh pins s1 σ H1 Q I1 q1
theorem pt_not (ha : PT X a tA) : PT X (.UnaryOp .Not a pos) (tNot tA) := by
  intro pins s σ H Q I h
  exact isTrue_not (ha pins s σ H (fun c H1 => Q (!c) H1) I h)
/-- .. as values (bools) -/
def tAndV (ta tb : TE) : TE := fun σ H Q => ta σ H fun x H1 => ∃ c, x = .bl c ∧ if c = true then tb σ H1 Q else Q (.bl false) H1
def tOrV (ta tb : TE) : TE := fun σ H Q => ta σ H fun x H1 => ∃ c, x = .bl c ∧ if c = true then Q (.bl true) H1 else tb σ H1 Q
def tNotV (ta : TE) : TE := fun σ H Q => ta σ H fun x H1 => ∃ c, x = .bl c ∧ Q (.bl (!c)) H1
theorem pe_one {op} {t : TE} (h : PE X a t) : PE X (.BoolOp op [a] pos) t := fun pins s σ H Q I hw => BoolOp_one (h pins s σ H Q I hw)
theorem pe_and (ha : PE X a ta) (hb : PE X (.BoolOp .And (b :: rest) pos) tb) : PE X (.BoolOp .And (a :: b :: rest) pos) (tAndV ta tb) := by
  intro pins s σ H Q I h
  refine BoolOp_and (thn (ha pins s σ H _ I h) fun v s1 ⟨x, H1, I1, r1, q1⟩ => ?_)
  obtain ⟨c, rfl, q1⟩ := q1
  cases r1
  refine wpAny_truthy_bool ?_
  cases c with
  | true => exact hb pins s1 σ H1 Q I1 q1
  | false => exact ⟨.bl false, H1, I1, rfl, q1⟩
theorem pe_or (ha : PE X a ta) (hb : PE X (.BoolOp .Or (b :: rest) pos) tb) : PE X (.BoolOp .Or (a :: b :: rest) pos) (tOrV ta tb) := by
  intro pins s σ H Q I h
  refine BoolOp_or (thn (ha pins s σ H _ I h) fun v s1 ⟨x, H1, I1, r1, q1⟩ => ?_)
  obtain ⟨c, rfl, q1⟩ := q1
  cases r1
  refine wpAny_truthy_bool ?_
  cases c with
  | false => exact hb pins s1 σ H1 Q I1 q1
  | true => exact ⟨.bl true, H1, I1, rfl, q1⟩
theorem pe_not (ha : PE X a ta) : PE X (.UnaryOp .Not a pos) (tNotV ta) := by
  intro pins s σ H Q I h
  refine UnaryOp_ (thn (ha pins s σ H _ I h) fun v s1 ⟨x, H1, I1, r1, q1⟩ => ?_)
  obtain ⟨c, rfl, q1⟩ := q1
  cases r1
  exact not_of (wpAny_truthy_bool ⟨.bl (!c), H1, I1, rfl, q1⟩)
/-- a if t else b -/
def tIf (t : TT) (ta tb : TE) : TE := fun σ H Q => t σ H fun c H1 => if c = true then ta σ H1 Q else tb σ H1 Q
theorem pe_ifExp {c : Expr} (hc : PT X c tA) (ha : PE X a ta) (hb : PE X b tb) : PE X (.IfExp c a b pos) (tIf tA ta tb) := by
  intro pins s σ H Q I h
  refine wpAny_IfExp (thn (hc pins s σ H _ I h) fun d s1 ⟨H1, I1, q1⟩ => ?_)
  cases d with
  | true => exact ha pins s1 σ H1 Q I1 q1
  | false => exact hb pins s1 σ H1 Q I1 q1
end
end L2

namespace L2
open PySem PySem.Spec PyProof.Rows

/-! ### a list, a tuple that is read: tracked, frozen, or an object of the module -/
def SqL (K : PySem.W.Frag) (H : Hp) (a : Addr) (xs : List V) : Prop :=
  Rd H a (.lst xs) ∨
    ∃ (o : Obj) (its : Array Value) (n : Nat), K.lookup a = some o ∧ o.cls = .type "list" ∧ o.dict = none ∧ o.data = .seq its n ∧ its.size ≤ sizeLine ∧ Vals xs its.toList
def SqT (K : PySem.W.Frag) (H : Hp) (a : Addr) (xs : List V) : Prop :=
  Rd H a (.tup xs) ∨
    ∃ (o : Obj) (its : Array Value) (n : Nat), K.lookup a = some o ∧ o.cls = .type "tuple" ∧ o.data = .seq its n ∧ its.size ≤ sizeLine ∧ Vals xs its.toList
def absV : Value → Option V
  | .none => some .non
  | .bool b => some (.bl b)
  | .int i _ => some (.int i)
  | .str x _ => some (.str x)
  | .bytes b _ => some (.byt b)
  | .float b _ => some (.flt b)
  | .ref a => some (.ref a)
  | .type n => some (.ty n)
  | _ => none
theorem RelV.abs {x : V} {u : Value} (r : RelV x u) : absV u = some x := by
  cases x with
  | non => cases r; rfl
  | bl _ => cases r; rfl
  | int _ => obtain ⟨t, rfl⟩ := r; rfl
  | str _ => obtain ⟨t, rfl⟩ := r; rfl
  | byt _ => obtain ⟨t, rfl⟩ := r; rfl
  | flt _ => obtain ⟨t, rfl⟩ := r; rfl
  | ref _ => cases r; rfl
  | ty _ => cases r; rfl
theorem RelV.inj {x y : V} {u : Value} (r : RelV x u) (q : RelV y u) : x = y := Option.some.inj (r.abs.symm.trans q.abs)
theorem Vals.inj : ∀ {xs ys : List V} {us : List Value}, Vals xs us → Vals ys us → xs = ys
  | _, _, _, .nil, .nil => rfl
  | _, _, _, .cons r t, .cons r' t' => by rw [r.inj r', Vals.inj t t']
section
variable {X : Cx} {pins : List (Addr × Obj)} {σ : St} {H : Hp} {s : Shared} {a : Addr} {xs ys : List V}
theorem SqL.of {K : PySem.W.Frag} (h : H a = some (.lst xs)) : SqL K H a xs := .inl (.inl h)
theorem SqT.of {K : PySem.W.Frag} (h : H a = some (.tup xs)) : SqT K H a xs := .inl (.inl h)
theorem Inv.list (I : Inv X pins σ H s) (h : SqL X.K H a xs) : ∃ its : List Value, Vals xs its ∧ PlainL s.heap a its.toArray ∧ xs.length ≤ sizeLine := by
  rcases h with h | ⟨o, its, n, hk, hc, hd, hs, hz, r⟩
  · obtain ⟨z, its, n, r, e⟩ := h.ok I.hok
    exact ⟨its, r, ⟨_, n, e, rfl, rfl, rfl⟩, z⟩
  · refine ⟨its.toList, r, ⟨o, n, I.kIn a o hk, hc, hd, by simpa using hs⟩, ?_⟩
    have e := r.length
    simp only [Array.length_toList] at e
    omega
theorem Inv.tuple (I : Inv X pins σ H s) (h : SqT X.K H a xs) : ∃ its : List Value, Vals xs its ∧ IsTup s.heap a its.toArray ∧ xs.length ≤ sizeLine := by
  rcases h with h | ⟨o, its, n, hk, hc, hs, hz, r⟩
  · obtain ⟨z, its, r, p⟩ := h.ok I.hok
    exact ⟨its, r, p, z⟩
  · refine ⟨its.toList, r, ⟨o, I.kIn a o hk, hc, n, by simpa using hs⟩, ?_⟩
    have e := r.length
    simp only [Array.length_toList] at e
    omega
theorem Inv.list_inj (I : Inv X pins σ H s) (h : SqL X.K H a xs) (h' : SqL X.K H a ys) : xs = ys := by
  obtain ⟨its, r, ⟨o, n, e, _, _, d⟩, _⟩ := I.list h
  obtain ⟨its', r', ⟨o', n', e', _, _, d'⟩, _⟩ := I.list h'
  rw [e] at e'; cases e'
  rw [d] at d'
  injection d' with d1 _
  have : its = its' := by simpa using congrArg Array.toList d1
  subst this
  exact r.inj r'
theorem Inv.tuple_inj (I : Inv X pins σ H s) (h : SqT X.K H a xs) (h' : SqT X.K H a ys) : xs = ys := by
  obtain ⟨its, r, ⟨o, e, _, n, d⟩, _⟩ := I.tuple h
  obtain ⟨its', r', ⟨o', e', _, n', d'⟩, _⟩ := I.tuple h'
  rw [e] at e'; cases e'
  rw [d] at d'
  injection d' with d1 _
  have : its = its' := by simpa using congrArg Array.toList d1
  subst this
  exact r.inj r'
end

/-! ### another wish about exceptions -/
abbrev Cx.wish (X : Cx) (E : Value → Shared → Prop) : Cx := { X with xe := E }
/-- no exception leaves -/
abbrev Cx.nox (X : Cx) : Cx := X.wish fun _ _ => False
theorem Cx.Ok.wish {X : Cx} (ok : X.Ok) (E : Value → Shared → Prop) : (X.wish E).Ok :=
  ⟨ok.mod, ok.kind, ok.glob, ok.blt, ok.above, ok.inj, ok.has, ok.cab, ok.hd, ok.frames, ok.stk, ok.exf, ok.bs, ok.bsz, ok.noex, ok.exfs, ok.funs, ok.frf⟩
theorem Cx.Ok.unwish {X : Cx} {E : Value → Shared → Prop} (ok : (X.wish E).Ok) : X.Ok :=
  ⟨ok.mod, ok.kind, ok.glob, ok.blt, ok.above, ok.inj, ok.has, ok.cab, ok.hd, ok.frames, ok.stk, ok.exf, ok.bs, ok.bsz, ok.noex, ok.exfs, ok.funs, ok.frf⟩
section
variable {X : Cx} {pins : List (Addr × Obj)} {σ : St} {H : Hp} {s : Shared} {E : Value → Shared → Prop}
theorem Inv.wish (I : Inv X pins σ H s) (E : Value → Shared → Prop) : Inv (X.wish E) pins σ H s := ⟨I.ok.wish E, I.os, I.bare, I.base, I.loc, I.cell, I.free, I.freeC, I.pin, I.hok, I.len⟩
theorem Inv.unwish (I : Inv (X.wish E) pins σ H s) : Inv X pins σ H s := ⟨I.ok.unwish, I.os, I.bare, I.base, I.loc, I.cell, I.free, I.freeC, I.pin, I.hok, I.len⟩
theorem SP.unwish {D : Ends} {f : Flow} {s' : Shared} (h : SP (X.wish E) pins D f s') : SP X pins D f s' := by
  cases f with
  | next => obtain ⟨σ', H', I, q⟩ := h; exact ⟨σ', H', I.unwish, q⟩
  | brk => obtain ⟨σ', H', I, q⟩ := h; exact ⟨σ', H', I.unwish, q⟩
  | cont => obtain ⟨σ', H', I, q⟩ := h; exact ⟨σ', H', I.unwish, q⟩
  | ret u => obtain ⟨v, σ', H', I, r, q⟩ := h; exact ⟨v, σ', H', I.unwish, r, q⟩
theorem PE.nox {e : Expr} {t : TE} (h : PE X.nox e t) : PE X e t := fun pins s σ H Q I hw =>
  wpAny_mono (h pins s σ H Q (I.wish _) hw) (fun _ _ ⟨v, H', I', r, q⟩ => ⟨v, H', I'.unwish, r, q⟩) fun _ _ z => False.elim z
theorem PT.nox {e : Expr} {t : TT} (h : PT X.nox e t) : PT X e t := fun pins s σ H Q I hw =>
  wpAny_mono (h pins s σ H Q (I.wish _) hw) (fun _ _ ⟨H', I', q⟩ => ⟨H', I'.unwish, q⟩) fun _ _ z => False.elim z
theorem PSs.nox {st : List Stmt} {t : TS} (h : PSs X.nox st t) : PSs X st t := fun pins s σ H D I hw =>
  wpAny_mono (h pins s σ H D (I.wish _) hw) (fun _ _ q => q.unwish) fun _ _ z => False.elim z
end

/-! ### blocks and small statements -/
section
variable {X : Cx} {st : Stmt} {rest : List Stmt} {t u : TS} {e : Expr} {te : TE} {pos : Pos}
def tNext : TS := fun D σ H => D.nx σ H
def tSeq (t u : TS) : TS := fun D σ H => t { D with nx := u D } σ H
theorem pss_nil : PSs X [] tNext := fun _ _ σ H _ I h => wpAny_execs_nil ⟨σ, H, I, h⟩
theorem pss_cons (h1 : PS X st t) (h2 : PSs X rest u) : PSs X (st :: rest) (tSeq t u) := by
  intro pins s σ H D I h
  refine wpAny_execs_cons (thn (h1 pins s σ H { D with nx := u D } I h) fun f s1 q => ?_)
  cases f with
  | next =>
    obtain ⟨σ', H', I', q⟩ := q
    exact h2 pins s1 σ' H' D I' q
  | ret v => exact q
  | brk => exact q
  | cont => exact q
theorem pss_one (h1 : PS X st t) : PSs X [st] t := by
  intro pins s σ H D I h
  refine wpAny_execs_cons (thn (h1 pins s σ H D I h) fun f s1 q => ?_)
  cases f with
  | next => exact wpAny_execs_nil q
  | ret v => exact q
  | brk => exact q
  | cont => exact q
def tBreak : TS := fun D σ H => D.bk σ H
def tCont : TS := fun D σ H => D.ct σ H
theorem ps_pass : PS X (.Pass pos) tNext := fun _ _ σ H _ I h => wpAny_Pass ⟨σ, H, I, h⟩
theorem ps_break : PS X (.Break pos) tBreak := fun _ _ σ H _ I h => wpAny_Break ⟨σ, H, I, h⟩
theorem ps_continue : PS X (.Continue pos) tCont := fun _ _ σ H _ I h => wpAny_Continue ⟨σ, H, I, h⟩
/-- in a def's body nothing is shown -/
theorem Inv.quiet {pins : List (Addr × Obj)} {σ : St} {H : Hp} {s : Shared} (I : Inv X pins σ H s) : interactive X.env = false := by simp [interactive, I.ok.kind]
/-- a docstring -/
theorem ps_doc {x j pos pos'} : PS X (.Expr (.Constant (.str x) j pos) pos') tNext := fun _ s σ H _ I h => wpAny_Expr (Calls.Constant_str (show SP X _ _ .next { s with toks := s.toks + 1 } from ⟨σ, H, I.tok _, h⟩)) I.quiet
/-- an expression whose value is dropped -/
def tDrop (te : TE) : TS := fun D σ H => te σ H fun _ H1 => D.nx σ H1
theorem ps_expr (he : PE X e te) (hs : swapsWith e none pos.line X.env = pure false := by rfl) : PS X (.Expr e pos) (tDrop te) := by
  intro pins s σ H D I h
  exact wpAny_Expr_any (thn (he pins s σ H _ I h) fun v s1 ⟨x, H1, I1, r1, q1⟩ => ⟨σ, H1, I1, q1⟩) I.quiet hs
def tRet (te : TE) : TS := fun D σ H => te σ H D.rt
theorem ps_ret (he : PE X e te) : PS X (.Return (some e) pos) (tRet te) := by
  intro pins s σ H D I h
  exact wpAny_Return_some (thn (he pins s σ H _ I h) fun v s1 ⟨x, H1, I1, r1, q1⟩ => ⟨x, σ, H1, I1, r1, q1⟩)
def tRetN : TS := fun D _ H => D.rt .non H
theorem ps_retN : PS X (.Return none pos) tRetN := fun _ _ σ H _ I h => wpAny_Return_none ⟨.non, σ, H, I, rfl, h⟩
def tIfS (c : TT) (t u : TS) : TS := fun D σ H => c σ H fun b H1 => if b = true then t D σ H1 else u D σ H1
theorem ps_if {c : Expr} {a b : List Stmt} {tc : TT} (hc : PT X c tc) (ha : PSs X a t) (hb : PSs X b u) : PS X (.If c a b pos) (tIfS tc t u) := by
  intro pins s σ H D I h
  refine wpAny_If (thn (hc pins s σ H _ I h) fun d s1 ⟨H1, I1, q1⟩ => ?_)
  cases d with
  | true => exact ha pins s1 σ H1 D I1 q1
  | false => exact hb pins s1 σ H1 D I1 q1
/-- code that the proof never comes to -/
def tNever : TS := fun _ _ _ => False
theorem ps_never : PS X st tNever := fun _ _ _ _ _ _ h => h.elim
theorem pss_never {sts : List Stmt} : PSs X sts tNever := fun _ _ _ _ _ _ h => h.elim
end

/-! ### targets -/
abbrev TG := V → St → Hp → (St → Hp → Prop) → Prop
abbrev TGs := List V → St → Hp → (St → Hp → Prop) → Prop
def PG (X : Cx) (target : Expr) (t : TG) : Prop :=
  ∀ (pins : List (Addr × Obj)) (s : Shared) (σ : St) (H : Hp) (v : V) (u : Value) (Q : St → Hp → Prop), Inv X pins σ H s → RelV v u → t v σ H Q →
    wpAny (model X.prog X.w) X.A (assign target X.env u) (fun _ s' => ∃ σ' H', Inv X pins σ' H' s' ∧ Q σ' H') X.xe s
/-- several targets, one after another -/
def PGs (X : Cx) (ts : List Expr) (t : TGs) : Prop :=
  ∀ (pins : List (Addr × Obj)) (s : Shared) (σ : St) (H : Hp) (vs : List V) (us : List Value) (Q : St → Hp → Prop), Inv X pins σ H s → Vals vs us → t vs σ H Q →
    wpAny (model X.prog X.w) X.A (assignInOrder ((assignEach ts X.env).map (·.2)) us) (fun _ s' => ∃ σ' H', Inv X pins σ' H' s' ∧ Q σ' H') X.xe s
/-- o[i] = v, by values -/
abbrev TSet := V → V → V → Hp → (Hp → Prop) → Prop
def PSet (X : Cx) (t : TSet) : Prop :=
  ∀ (pins : List (Addr × Obj)) (s : Shared) (σ : St) (H : Hp) (o i v : V) (ov iv u : Value) (Q : Hp → Prop), Inv X pins σ H s → RelV o ov → RelV i iv → RelV v u → t o i v H Q →
    wpAny (model X.prog X.w) X.A (setItem ov iv u) (fun _ s' => ∃ H', Inv X pins σ H' s' ∧ Q H') X.xe s
/-- a op= b, by values -/
abbrev TIp := V → V → Hp → VK → Prop
def PIp (X : Cx) (op : Operator) (t : TIp) : Prop :=
  ∀ (pins : List (Addr × Obj)) (s : Shared) (σ : St) (H : Hp) (x y : V) (v u : Value) (Q : VK), Inv X pins σ H s → RelV x v → RelV y u → t x y H Q →
    wpAny (model X.prog X.w) X.A (inplaceOp op v u) (EP X pins σ Q) X.xe s
section
variable {X : Cx} {pos : Pos}
def gName (i : Nat) : TG := fun v σ H Q => Q (σ.set i (some v)) H
theorem pg_name {i : Nat} {x : Str} (hN : X.N.Nodup) (hi : X.N[i]? = some x) (hx : Loc X.env.scope x) (hf : X.fn x = true ∨ X.env.scope.names.lookup x = some .local := by first | exact .inl rfl | exact .inr rfl | assumption) : PG X (.Name x pos) (gName i) := by
  intro pins s σ H v u Q I r h
  exact wpAny_assign_Name (store_ok I hN hi hx r (fun s' I' => ⟨_, H, I', h⟩) hf)
def gNil : TGs := fun vs σ H Q => vs = [] ∧ Q σ H
def gCons (t : TG) (u : TGs) : TGs := fun vs σ H Q => ∃ v r, vs = v :: r ∧ t v σ H fun σ' H' => u r σ' H' Q
theorem pgs_nil : PGs X [] gNil := by
  intro pins s σ H vs us Q I r h
  obtain ⟨e, h⟩ := h
  subst e
  cases r
  exact assignInOrder_nil ⟨σ, H, I, h⟩
theorem pgs_cons {e : Expr} {es : List Expr} {t : TG} {u : TGs} (h1 : PG X e t) (h2 : PGs X es u)
    (hs : (assignEach (e :: es) X.env).map (·.2) = assign e X.env :: (assignEach es X.env).map (·.2) := by rfl) : PGs X (e :: es) (gCons t u) := by
  intro pins s σ H vs us Q I r h
  obtain ⟨v, vr, e1, h⟩ := h
  subst e1
  cases r with
  | cons r rr =>
    rw [hs]
    refine assignInOrder_cons (thn (h1 pins s σ H _ _ _ I r h) fun _ s1 ⟨σ1, H1, I1, q1⟩ => ?_)
    exact h2 pins s1 σ1 H1 _ _ Q I1 rr q1
/-- (a, b, ..) = a tuple of that length -/
def gTup (K : PySem.W.Frag) (n : Nat) (t : TGs) : TG := fun v σ H Q => ∃ a xs, v = .ref a ∧ SqT K H a xs ∧ xs.length = n ∧ t xs σ H Q
theorem pg_tup {es : List Expr} {k : Nat} {t : TGs} {n : Nat} (hc : X.calm = true) (h : PGs X es t)
    (hn : (assignEach es X.env).length = n := by rfl) (hst : (assignEach es X.env).findIdx? (·.1) = none := by rfl) : PG X (.Tuple es k pos) (gTup X.K n t) := by
  intro pins s σ H v u Q I r hw
  obtain ⟨a, xs, e1, hq, hl, hw⟩ := hw
  subst e1
  cases r
  obtain ⟨its, rv, ht, hz⟩ := I.tuple hq
  refine assign_Tuple_tuple (I.ok.hd hc) ht (by simp [hn, ← hl, rv.length]) hst fun h' hx => ?_
  have I1 : Inv X pins σ H { s with heap := h' } := I.kept (t' := s.toks) fun b o e => hx b o (Nat.ne_of_lt (Heap.lt_size e)) e
  exact h pins _ σ H xs _ Q I1 (by simpa using rv) hw
/-- o[i] = .. -/
def gSub (to ti : TE) (t : TSet) : TG := fun v σ H Q => to σ H fun o H1 => ti σ H1 fun i H2 => t o i v H2 fun H3 => Q σ H3
theorem pg_sub {o i : Expr} {to ti : TE} {t : TSet} (ho : PE X o to) (hi : PE X i ti) (hs : PSet X t)
    (ha : ∀ v, assign (.Subscript o i pos) X.env v = (do
      let ov ← holding [v] (eval o X.env)
      let iv ← holding [v, ov] (eval i X.env)
      standAt pos
      holding [v, ov, iv] (setItem ov iv v)
      release [v, ov, iv] []) := by intro _; rfl) : PG X (.Subscript o i pos) (gSub to ti t) := by
  intro pins s σ H v u Q I r h
  rw [ha]
  refine wpAny_bind (wpAny_holding (thn (ho pins s σ H _ I h) fun ov s1 ⟨x, H1, I1, r1, q1⟩ => ?_))
  refine wpAny_bind (wpAny_holding (thn (hi pins s1 σ H1 _ I1 q1) fun iv s2 ⟨y, H2, I2, r2, q2⟩ => ?_))
  refine wpAny_bind (wpAny_standAt (wpAny_bind (wpAny_holding (thn (hs pins s2 σ H2 x y v ov iv u _ I2 r1 r2 r q2) fun _ s3 ⟨H3, I3, q3⟩ => ?_))))
  exact wpAny_release ⟨σ, H3, I3, q3⟩
/-- target = value -/
def tAsg (te : TE) (g : TG) : TS := fun D σ H => te σ H fun x H1 => g x σ H1 D.nx
theorem ps_asg {tg e : Expr} {te : TE} {g : TG} (he : PE X e te) (hg : PG X tg g) (hs : swapsWithSole [tg] e pos.line X.env = pure false := by rfl) (hw : swappedStores [tg] e X.env = pure none := by rfl)
    (h1 : (assignEach [tg] X.env).map (·.2) = [assign tg X.env] := by rfl) : PS X (.Assign [tg] e pos) (tAsg te g) := by
  intro pins s σ H D I h
  refine wpAny_Assign_stores (thn (he pins s σ H _ I h) fun v s1 ⟨x, H1, I1, r1, q1⟩ => ?_) hs hw
  rw [h1]
  exact thn (hg pins s1 σ H1 x v _ I1 r1 q1) fun _ s2 q => q
/-- name = value -/
theorem ps_set {i : Nat} {x : Str} {e : Expr} {te : TE} {pos' : Pos} (hN : X.N.Nodup) (hi : X.N[i]? = some x) (hx : Loc X.env.scope x) (he : PE X e te) (hs : swapsWith e (some (.Name x pos')) pos.line X.env = pure false := by rfl) (hf : X.fn x = true ∨ X.env.scope.names.lookup x = some .local := by first | exact .inl rfl | exact .inr rfl | assumption) :
    PS X (.Assign [.Name x pos'] e pos) (tAsg te (gName i)) := by
  intro pins s σ H D I h
  refine wpAny_Assign_Name (thn (he pins s σ H _ I h) fun v s1 ⟨y, H1, I1, r1, q1⟩ => ?_) hs
  exact store_ok I1 hN hi hx r1 (fun s2 I2 => ⟨_, H1, I2, q1⟩) hf
/-- a, b = x, y with plain local names: stored from the right; the pair itself is not tracked (the opening rows as in PyProof/Rows/TupAssign.lean:23) -/
def tPar (i j : Nat) (ta : TA) : TS := fun D σ H => ta σ H fun vs H1 => ∃ v w, vs = [v, w] ∧ D.nx ((σ.set i (some v)).set j (some w)) H1
theorem ps_par {i j : Nat} {x y : Str} {a b : Expr} {ta : TA} {px py pt : Pos} {kt k2 pt2} (hc : X.calm = true) (hN : X.N.Nodup) (hi : X.N[i]? = some x) (hj : X.N[j]? = some y) (hij : i ≠ j)
    (hx : X.env.scope.names.lookup x = some .local) (hy : X.env.scope.names.lookup y = some .local) (ha : PA X [a, b] ta)
    (hw : swappedStores [.Tuple [.Name x px, .Name y py] kt pt] (.Tuple [a, b] k2 pt2) X.env = pure (some [x, y]))
    (hs : swapsWithSole [.Tuple [.Name x px, .Name y py] kt pt] (.Tuple [a, b] k2 pt2) pos.line X.env = pure false := by rfl) :
    PS X (.Assign [.Tuple [.Name x px, .Name y py] kt pt] (.Tuple [a, b] k2 pt2) pos) (tPar i j ta) := by
  intro pins s σ H D I h
  rw [exec_Assign_arm]
  refine wpAny_bind (wpAny_standAt ?_)
  rw [hs]
  refine wpAny_bind (wpAny_pure ?_)
  rw [if_neg (by decide)]
  refine wpAny_bind (Tuple_ (thn (ha _ pins s σ H _ I h) fun us s1 ⟨vs, H1, I1, r1, q1⟩ => ?_))
  obtain ⟨v, w, e1, q1⟩ := q1
  subst e1
  obtain ⟨u1, u2, rfl, rv, rw'⟩ : ∃ u1 u2, us = [u1, u2] ∧ RelV v u1 ∧ RelV w u2 := by
    cases r1 with
    | cons p q =>
      cases q with
      | cons p' q' =>
        cases q'
        exact ⟨_, _, rfl, p, p'⟩
  refine wpAny_newObj_type ?_ (by show 2 ≤ sizeLine; decide)
  have I2 : Inv X pins σ H1 { s1 with heap := s1.heap.push { cls := .type "tuple", data := .seq [u1, u2].toArray } } := I1.kept (t' := s1.toks) fun b o e => Heap.get?_push_of_some _ e
  rw [hw]
  refine wpAny_bind (wpAny_pure ?_)
  show wpAny (model X.prog X.w) X.A (do rule "assign.swapped-stores"; let items ← unpackItems (.ref s1.heap.objs.size) 2 none; assignInOrder [fun v => bindName X.env y v, fun v => bindName X.env x v] items.reverse; pure Flow.next) _ _ _
  refine wpAny_bind (wpAny_rule (wpAny_bind (unpackItems_tuple (items := #[u1, u2]) (I.ok.hd hc) (IsTup.new s1.heap _) fun h' hx' => ?_)))
  have I3 := I2.kept (h' := h') (t' := s1.toks) fun b o e => hx' b o (Nat.ne_of_lt (Heap.lt_size e)) e
  show wpAny _ _ (assignInOrder [fun v => bindName X.env y v, fun v => bindName X.env x v] [u2, u1] >>= fun _ => pure Flow.next) _ _ _
  refine wpAny_bind (assignInOrder_cons (wpAny_bindName (store_ok I3 hN hj (.inl hy) rw' (fun s2 I4 => ?_) (.inr hy))))
  refine assignInOrder_cons (wpAny_bindName (store_ok I4 hN hi (.inl hx) rv (fun s3 I5 => assignInOrder_nil (wpAny_pure ?_)) (.inr hx)))
  rw [List.set_comm _ _ (Ne.symm hij)] at I5
  exact ⟨_, H1, I5, q1⟩
/-- name op= e -/
def tAug (i : Nat) (te : TE) (ti : TIp) : TS := fun D σ H => ∃ x, σ[i]? = some (some x) ∧ te σ H fun y H1 => ti x y H1 fun z H2 => D.nx (σ.set i (some z)) H2
theorem ps_aug {i : Nat} {x : Str} {e : Expr} {te : TE} {op : Operator} {ti : TIp} {pos' : Pos} (hN : X.N.Nodup) (hi : X.N[i]? = some x) (hx : Loc X.env.scope x) (he : PE X e te) (ho : PIp X op ti) (hf : X.fn x = true ∨ X.env.scope.names.lookup x = some .local := by first | exact .inl rfl | exact .inr rfl | assumption) :
    PS X (.AugAssign (.Name x pos') op e pos) (tAug i te ti) := by
  intro pins s σ H D I h
  obtain ⟨v, e1, h⟩ := h
  obtain ⟨m, hn, hl⟩ := I.loc
  have vis : Vis X.env.scope x := by rcases hx with k | k; exact .inl k; exact .inr (.inl k)
  obtain ⟨u, r, l⟩ := hl i x v hi e1 vis
  refine wpAny_AugAssign_Name ?_
  have go : wpAny (model X.prog X.w) X.A (eval e X.env) (fun w s₂ => wpAny (model X.prog X.w) X.A (inplaceOp op u w) (fun r s₃ => wpAny (model X.prog X.w) X.A (storeName X.env x r) (fun _ => SP X pins D .next) X.xe s₃) X.xe s₂) X.xe s := by
    refine thn (he pins s σ H _ I h) fun w s1 ⟨y, H1, I1, r1, q1⟩ => ?_
    refine thn (ho pins s1 σ H1 v y u w _ I1 r r1 q1) fun z s2 ⟨zv, H2, I2, r2, q2⟩ => ?_
    exact store_ok I2 hN hi hx r2 (fun s3 I3 => ⟨_, H2, I3, q2⟩) hf
  rcases l with ⟨hk, hm⟩ | ⟨hk, c, hc, hcell⟩
  · exact wpAny_loadName_local I.ok.kind hk hn hm go
  · rcases hk with hk | hk
    · exact wpAny_loadName_cell I.ok.kind hk hc hcell go
    · rcases hx with k | k
      · have : X.env.scope.names.lookup x = some .free := hk
        rw [k] at this; cases this
      · have : X.env.scope.names.lookup x = some .free := hk
        rw [k] at this; cases this
/-- o[i] op= e -/
def tAugS (to ti te : TE) (tget : V → V → Hp → VK → Prop) (tip : TIp) (tset : TSet) : TS := fun D σ H => to σ H fun o H1 => ti σ H1 fun i H2 => tget o i H2 fun x H3 => te σ H3 fun y H4 => tip x y H4 fun z H5 => tset o i z H5 fun H6 => D.nx σ H6
/-- o[i], by values -/
def PGet (X : Cx) (t : V → V → Hp → VK → Prop) : Prop :=
  ∀ (pins : List (Addr × Obj)) (s : Shared) (σ : St) (H : Hp) (o i : V) (ov iv : Value) (Q : VK), Inv X pins σ H s → RelV o ov → RelV i iv → t o i H Q →
    wpAny (model X.prog X.w) X.A (getItem ov iv) (EP X pins σ Q) X.xe s
theorem ps_augS {o i e : Expr} {to ti te : TE} {tget : V → V → Hp → VK → Prop} {tip : TIp} {tset : TSet} {op : Operator} {tpos : Pos} (ho : PE X o to) (hi : PE X i ti) (hg : PGet X tget) (he : PE X e te) (hp : PIp X op tip) (hs : PSet X tset)
    (ha : ∀ ov iv new, augStore i ov iv new = (do holding [new, ov, iv] (setItem ov iv new); release [new, ov, iv] []; pure .next) := by intros; rfl) : PS X (.AugAssign (.Subscript o i tpos) op e pos) (tAugS to ti te tget tip tset) := by
  intro pins s σ H D I h
  refine wpAny_AugAssign_SubscriptAny (thn (ho pins s σ H _ I h) fun ov s1 ⟨x1, H1, I1, r1, q1⟩ => ?_) ha
  refine thn (hi pins s1 σ H1 _ I1 q1) fun iv s2 ⟨x2, H2, I2, r2, q2⟩ => ?_
  refine thn (hg pins s2 σ H2 x1 x2 ov iv _ I2 r1 r2 q2) fun old s3 ⟨x3, H3, I3, r3, q3⟩ => ?_
  refine thn (he pins s3 σ H3 _ I3 q3) fun v s4 ⟨x4, H4, I4, r4, q4⟩ => ?_
  refine thn (hp pins s4 σ H4 x3 x4 old v _ I4 r3 r4 q4) fun new s5 ⟨x5, H5, I5, r5, q5⟩ => ?_
  exact thn (hs pins s5 σ H5 x1 x2 x5 ov iv new _ I5 r1 r2 r5 q5) fun _ s6 ⟨H6, I6, q6⟩ => ⟨σ, H6, I6, q6⟩
/-- ints -/
def ipI (f : Int → Int → Int) : TIp := fun x y H Q => ∃ i j, x = .int i ∧ y = .int j ∧ Q (.int (f i j)) H
theorem ip_add : PIp X .Add (ipI fun i j => i + j) := by
  intro pins s σ H x y v u Q I r1 r2 h
  obtain ⟨i, j, e1, e2, q⟩ := h
  subst e1; subst e2
  obtain ⟨t, rfl⟩ := r1
  obtain ⟨t', rfl⟩ := r2
  exact iadd_int ⟨.int _, H, I.tok _, ⟨_, rfl⟩, q⟩
theorem ip_sub : PIp X .Sub (ipI fun i j => i - j) := by
  intro pins s σ H x y v u Q I r1 r2 h
  obtain ⟨i, j, e1, e2, q⟩ := h
  subst e1; subst e2
  obtain ⟨t, rfl⟩ := r1
  obtain ⟨t', rfl⟩ := r2
  exact isub_int ⟨.int _, H, I.tok _, ⟨_, rfl⟩, q⟩
end

/-! ### while -/
section
variable {X : Cx} {pos : Pos}
/-- the invariant W with its measure -/
def tWhile (c : TT) (tb : TS) : TS := fun D σ H => ∃ W : Nat → St → Hp → Prop, (∃ m, W m σ H) ∧ ∀ m σ H, W m σ H →
  c σ H fun b H1 => if b = true then ∃ N : St → Hp → Prop, (∀ σ' H', N σ' H' → ∃ m', m' < m ∧ W m' σ' H') ∧ tb { D with nx := N, ct := N, bk := D.nx } σ H1 else D.nx σ H1
theorem ps_while {c : Expr} {body : List Stmt} {tc : TT} {tb : TS} (hp : PassesOwn (model X.prog X.w) X.A X.env X.xe) (hc : PT X c tc) (hb : PSs X body tb) : PS X (.While c body [] pos) (tWhile tc tb) := by
  intro pins s σ H D I h
  obtain ⟨W, ⟨m0, w0⟩, turn⟩ := h
  refine wpAny_While (codeAny_whileLoop (fun n s' => ∃ σ' H', Inv X pins σ' H' s' ∧ W n σ' H') ?_ m0 ⟨σ, H, I, w0⟩)
  rintro n s1 ⟨σ1, H1, I1, w1⟩
  refine wpAny_passesOwn hp (thn (hc pins s1 σ1 H1 _ I1 (turn n σ1 H1 w1)) fun b s2 ⟨H2, I2, q2⟩ => ?_)
  cases b with
  | true =>
    obtain ⟨N, hN, q2⟩ := q2
    rw [if_pos rfl]
    refine wpAny_passesOwn hp (thn (hb pins s2 σ1 H2 _ I2 q2) fun f s3 q3 => ?_)
    cases f with
    | next =>
      obtain ⟨σ3, H3, I3, n3⟩ := q3
      obtain ⟨m', hm, w3⟩ := hN σ3 H3 n3
      exact ⟨m', hm, σ3, H3, I3, w3⟩
    | cont =>
      obtain ⟨σ3, H3, I3, n3⟩ := q3
      obtain ⟨m', hm, w3⟩ := hN σ3 H3 n3
      exact ⟨m', hm, σ3, H3, I3, w3⟩
    | brk => exact q3
    | ret v => exact q3
  | false =>
    rw [if_neg Bool.false_ne_true]
    exact wpAny_execs_nil ⟨σ1, H2, I2, q2⟩
end

/-! ### what a loop or a comprehension walks -/
/-- at turn i: it yields x (the heap may grow), or it stops -/
structure It where
  go : Nat → Hp → Prop
  yld : Nat → Hp → V → Hp → Prop
  stop : Nat → Hp → Prop
/-- the iterator's own objects may turn: they are not the frame's, not pinned, younger than the entry (or a comprehension's own) -/
def FpOk (X : Cx) (pins : List (Addr × Obj)) (H : Hp) (b : Addr) : Prop :=
  H b = none ∧ b ≠ X.env.locals ∧ b ∉ X.fs ∧ (b ∈ X.ex ∨ X.s₀.heap.objs.size ≤ b) ∧ (∀ x c, X.env.cells.lookup x = some c → c ≠ b) ∧ ∀ p ∈ X.pn ++ pins, p.1 ≠ b
theorem Inv.fpOk {X : Cx} {pins : List (Addr × Obj)} {σ : St} {H H' : Hp} {s : Shared} {b : Addr} (I : Inv X pins σ H s) (hb : s.heap.objs.size ≤ b) (hn : H' b = none) : FpOk X pins H' b := by
  refine ⟨hn, Nat.ne_of_gt (Nat.lt_of_lt_of_le I.lt hb), I.nofs hb, .inr (Nat.le_trans I.sz hb), fun x c e z => ?_, fun p hp z => ?_⟩
  · obtain ⟨v, q⟩ := I.cell x c e
    exact absurd (Nat.lt_of_lt_of_le q.lt (by rw [z]; exact hb)) (Nat.lt_irrefl _)
  · exact absurd (Nat.lt_of_lt_of_le (Heap.lt_size (I.pin p hp).1) (by rw [z]; exact hb)) (Nat.lt_irrefl _)
structure Turn (P : Program) (w : World) (K : PySem.W.Frag) (tg : Expr) (J : It) (fp : List Addr) (it : Addr) (tn : Nat → Heap → Prop) : Prop where
  mem : it ∈ fp
  obj : ∀ i h, tn i h → ∀ b ∈ fp, ∃ o, h.get? b = some o ∧ ∀ v, o.data ≠ .cell v
  keep : ∀ i h h', tn i h → (∀ b ∈ fp, ∀ o, h.get? b = some o → h'.get? b = some o) → tn i h'
  item : ∀ (X : Cx), X.prog = P → X.w = w → X.K = K → X.calm = true → ∀ (i : Nat) (pins : List (Addr × Obj)) (s : Shared) (σ : St) (H : Hp) (E : Value → Shared → Prop), Inv X pins σ H s → (∀ b ∈ fp, FpOk X pins H b) → tn i s.heap → J.go i H →
    wpAny (model P w) X.A (pyNext (.ref it)) (fun r s1 => ∃ u, r = some u ∧
      wpAny (model P w) X.A (letOwnedTupleGo tg (.ref it) u) (fun _ s2 => ∃ x H', Inv X pins σ H' s2 ∧ RelV x u ∧ J.yld i H x H' ∧ tn (i + 1) s2.heap ∧ ∀ b ∈ fp, H' b = none) E s1) E s
  done : ∀ (X : Cx), X.prog = P → X.w = w → X.K = K → X.calm = true → ∀ (i : Nat) (pins : List (Addr × Obj)) (s : Shared) (σ : St) (H : Hp) (E : Value → Shared → Prop), Inv X pins σ H s → (∀ b ∈ fp, FpOk X pins H b) → tn i s.heap → J.stop i H →
    wpAny (model P w) X.A (pyNext (.ref it)) (fun r s1 => r = none ∧ Inv X pins σ H s1) E s
  self : ∀ (A : Around) (i : Nat) (s : Shared) (Q : Value → Shared → Prop) (E : Value → Shared → Prop), tn i s.heap → Q (.ref it) s → wpAny (model P w) A (pyIter (.ref it)) Q E s
abbrev TI := St → Hp → (It → Hp → Prop) → Prop
/-- an iterator has come -/
def PIE (X : Cx) (pins : List (Addr × Obj)) (σ : St) (tg : Expr) (R : It → Hp → Prop) (itv : Value) (s2 : Shared) : Prop :=
  ∃ (it : Addr) (fp : List Addr) (tn : Nat → Heap → Prop) (J : It) (H' : Hp), itv = .ref it ∧ Inv X pins σ H' s2 ∧ Turn X.prog X.w X.K tg J fp it tn ∧ tn 0 s2.heap ∧ (∀ b ∈ fp, FpOk X pins H' b) ∧ R J H'
def PI (X : Cx) (tg iter : Expr) (wi : TI) : Prop :=
  ∀ (pins : List (Addr × Obj)) (s : Shared) (σ : St) (H : Hp) (R : It → Hp → Prop), Inv X pins σ H s → wi σ H R →
    wpAny (model X.prog X.w) X.A (eval iter X.env) (fun v s1 => wpAny (model X.prog X.w) X.A (pyIter v) (PIE X pins σ tg R) X.xe s1) X.xe s

/-- the step ahead of the store is nothing for an iterator that keeps no tuple -/
theorem go_of {M : Model} {A : Around} {E : Value → Shared → Prop} {s : Shared} {tg : Expr} {it : Addr} {u : Value} {o : Obj} {n : String} {vs : Array Value} {Q : Unit → Shared → Prop} (ho : s.heap.get? it = some o) (hc : o.cls = .type n) (hd : o.data = .fields vs)
    (hn : ["enumerate", "zip", "dict_itemiterator", "dict_reverseitemiterator", "odict_iterator", "itertools.zip_longest", "itertools.pairwise"].contains n = false) (hQ : Q () s) : wpAny M A (letOwnedTupleGo tg (.ref it) u) Q E s := by
  unfold letOwnedTupleGo
  cases tg <;> first
    | exact wpAny_pure hQ
    | (cases u <;> first
        | exact wpAny_pure hQ
        | (refine wpAny_bind (wpAny_load ho ?_)
           rw [hc, hd]
           show wpAny M A (if (["enumerate", "zip", "dict_itemiterator", "dict_reverseitemiterator", "odict_iterator", "itertools.zip_longest", "itertools.pairwise"].contains n && vs[0]? == some (rawInt _)) = true then _ else _) Q E s
           rw [if_neg (by intro h; rw [hn, Bool.false_and] at h; cases h)]
           exact wpAny_pure hQ))

/-- the list at a, as it stands at each turn (a loop may append to it) -/
def Itl (K : PySem.W.Frag) (a : Addr) : It :=
  ⟨fun i H => ∃ xs x, SqL K H a xs ∧ xs[i]? = some x, fun i H x H' => H' = H ∧ ∀ xs, SqL K H a xs → xs[i]? = some x, fun i H => ∃ xs, SqL K H a xs ∧ xs.length ≤ i⟩
def Itt (K : PySem.W.Frag) (a : Addr) : It :=
  ⟨fun i H => ∃ xs x, SqT K H a xs ∧ xs[i]? = some x, fun i H x H' => H' = H ∧ ∀ xs, SqT K H a xs → xs[i]? = some x, fun i H => ∃ xs, SqT K H a xs ∧ xs.length ≤ i⟩
/-- lo, lo + 1, .. (n of them) -/
def Itr (lo : Int) (n : Nat) : It := ⟨fun i _ => i < n, fun i H x H' => H' = H ∧ x = .int (lo + i), fun i _ => n ≤ i⟩
theorem turn_list {P : Program} {w : World} {K : PySem.W.Frag} {tg : Expr} (a it : Addr) : Turn P w K tg (Itl K a) [it] it (fun i h => h.IsListIter it a i) where
  mem := by simp
  obj := fun i h st b hb => by
    have e : b = it := by simpa using hb
    subst e
    obtain ⟨o, e, c, d⟩ := st
    exact ⟨o, e, fun v z => by rw [d] at z; cases z⟩
  keep := fun i h h' st k => st.at fun o e => k it (by simp) o e
  item := by
    intro X hP hw hK hc i pins s σ H E I hf st hg
    subst hP hw hK
    obtain ⟨xs, x, hq, hx⟩ := hg
    obtain ⟨its, rv, p, hz⟩ := I.list hq
    obtain ⟨u, hu, ru⟩ := rv.get hx
    obtain ⟨f0, f1, f2, f3, f4, f5⟩ := hf it (by simp)
    refine wpAny_pyNext_list_item st p.isList (x := u) (by simpa using hu) fun h' st' sb => ?_
    have I1 : Inv X pins σ H { s with heap := h' } := I.turned (t' := s.toks) (fun b o hb e => (sb.2 b hb).trans e) f0 f1 f3 f4 f5
    obtain ⟨o, e, c, d⟩ := id st'
    exact ⟨u, rfl, go_of (s := { s with heap := h' }) e c d (by decide) ⟨x, H, I1, ru, ⟨rfl, fun ys hy => by rw [I.list_inj hy hq]; exact hx⟩, st', fun b hb => (hf b hb).1⟩⟩
  done := by
    intro X hP hw hK hc i pins s σ H E I hf st hg
    subst hP hw hK
    obtain ⟨xs, hq, hx⟩ := hg
    obtain ⟨its, rv, p, hz⟩ := I.list hq
    obtain ⟨f0, f1, f2, f3, f4, f5⟩ := hf it (by simp)
    have hl := rv.length
    exact wpAny_pyNext_list_end (I.ok.hd hc) st p.isList (by simp; omega) fun h' eb => ⟨rfl, I.turned (t' := s.toks) (fun b o hb e => eb b o hb e) f0 f1 f3 f4 f5⟩
  self := fun _ _ _ _ _ st h => wpAny_pyIter_listiter st h
theorem turn_tuple {P : Program} {w : World} {K : PySem.W.Frag} {tg : Expr} (a it : Addr) : Turn P w K tg (Itt K a) [it] it (fun i h => h.IsTupleIter it a i) where
  mem := by simp
  obj := fun i h st b hb => by
    have e : b = it := by simpa using hb
    subst e
    obtain ⟨o, e, c, d⟩ := st
    exact ⟨o, e, fun v z => by rw [d] at z; cases z⟩
  keep := fun i h h' st k => st.at fun o e => k it (by simp) o e
  item := by
    intro X hP hw hK hc i pins s σ H E I hf st hg
    subst hP hw hK
    obtain ⟨xs, x, hq, hx⟩ := hg
    obtain ⟨its, rv, p, hz⟩ := I.tuple hq
    obtain ⟨u, hu, ru⟩ := rv.get hx
    obtain ⟨f0, f1, f2, f3, f4, f5⟩ := hf it (by simp)
    refine wpAny_pyNext_tuple_item st (show s.heap.IsTuple a its.toArray from p) (x := u) (by simpa using hu) fun h' st' sb => ?_
    have I1 : Inv X pins σ H { s with heap := h' } := I.turned (t' := s.toks) (fun b o hb e => (sb.2 b hb).trans e) f0 f1 f3 f4 f5
    obtain ⟨o, e, c, d⟩ := id st'
    exact ⟨u, rfl, go_of (s := { s with heap := h' }) e c d (by decide) ⟨x, H, I1, ru, ⟨rfl, fun ys hy => by rw [I.tuple_inj hy hq]; exact hx⟩, st', fun b hb => (hf b hb).1⟩⟩
  done := by
    intro X hP hw hK hc i pins s σ H E I hf st hg
    subst hP hw hK
    obtain ⟨xs, hq, hx⟩ := hg
    obtain ⟨its, rv, p, hz⟩ := I.tuple hq
    obtain ⟨f0, f1, f2, f3, f4, f5⟩ := hf it (by simp)
    have hl := rv.length
    exact wpAny_pyNext_tuple_end (I.ok.hd hc) st (show s.heap.IsTuple a its.toArray from p) (by simp; omega) fun h' eb => ⟨rfl, I.turned (t' := s.toks) (fun b o hb e => eb b o hb e) f0 f1 f3 f4 f5⟩
  self := fun _ _ _ _ _ st h => wpAny_pyIter_tupleiter st h
theorem turn_range {P : Program} {w : World} {K : PySem.W.Frag} {tg : Expr} (it : Addr) (lo : Int) (n : Nat) : Turn P w K tg (Itr lo n) [it] it (fun i h => IsRangeIter h it (lo + (i : Nat) * 1) ((n : Int) - (i : Nat)) 1) where
  mem := by simp
  obj := fun i h st b hb => by
    have e : b = it := by simpa using hb
    subst e
    exact ⟨_, st, fun v z => by
      have z' : Data.fields _ = Data.cell v := z
      cases z'⟩
  keep := fun i h h' st k => k it (by simp) _ st
  item := by
    intro X hP hw hK hc i pins s σ H E I hf st hg
    subst hP hw hK
    obtain ⟨f0, f1, f2, f3, f4, f5⟩ := hf it (by simp)
    have W := Walks.range (prog := X.prog) (w := X.w) (I.ok.hd hc) it lo 1 n
    refine W.item i s _ _ hg st fun v h' tk hv st' kk => ?_
    obtain ⟨t, rfl⟩ := hv
    have I1 : Inv X pins σ H { s with heap := h', toks := tk } := I.turned (fun b o hb e => kk b o (by simpa using hb) e) f0 f1 f3 f4 f5
    refine ⟨_, rfl, go_of (s := { s with heap := h', toks := tk }) (n := "range_iterator") st' rfl rfl (by decide) ⟨.int (lo + i), H, I1, ⟨t, ?_⟩, ⟨rfl, rfl⟩, st', fun b hb => (hf b hb).1⟩⟩
    rw [Int.mul_one]
  done := by
    intro X hP hw hK hc i pins s σ H E I hf st hg
    subst hP hw hK
    obtain ⟨f0, f1, f2, f3, f4, f5⟩ := hf it (by simp)
    exact wpAny_pyNext_range_end (I.ok.hd hc) st (by have : n ≤ i := hg; omega) fun h' eb => ⟨rfl, I.turned (t' := s.toks) (fun b o hb e => eb b o hb e) f0 f1 f3 f4 f5⟩
  self := fun _ _ _ _ _ st h => wpAny_pyIter_rangeiter st h
end L2

namespace L2
open PySem PySem.Spec PyProof.Rows
section
variable {X : Cx} {tg : Expr}
def iList (K : PySem.W.Frag) (tl : TE) : TI := fun σ H R => tl σ H fun x H1 => ∃ a, x = .ref a ∧ (∃ xs, SqL K H1 a xs) ∧ R (Itl K a) H1
def iTup (K : PySem.W.Frag) (tl : TE) : TI := fun σ H R => tl σ H fun x H1 => ∃ a, x = .ref a ∧ (∃ xs, SqT K H1 a xs) ∧ R (Itt K a) H1
theorem pi_list {l : Expr} {tl : TE} (hl : PE X l tl) : PI X tg l (iList X.K tl) := by
  intro pins s σ H R I h
  refine thn (hl pins s σ H _ I h) fun v s1 ⟨x, H1, I1, r1, q1⟩ => ?_
  obtain ⟨a, e, ⟨xs, hq⟩, q⟩ := q1
  subst e
  cases r1
  obtain ⟨its, rv, p, hz⟩ := I1.list hq
  refine wpAny_pyIter_list p.isList ?_
  refine ⟨s1.heap.objs.size, [s1.heap.objs.size], _, _, H1, rfl, I1.kept (t' := s1.toks) fun b o e => Heap.get?_push_of_some _ e, turn_list a _, ⟨_, Heap.get?_push_size _ rfl, rfl, rfl⟩, fun b hb => ?_, q⟩
  have e : b = s1.heap.objs.size := by simpa using hb
  subst e
  exact I1.fpOk (Nat.le_refl _) (I1.hok.fresh (Nat.le_refl _))
theorem pi_tup {l : Expr} {tl : TE} (hl : PE X l tl) : PI X tg l (iTup X.K tl) := by
  intro pins s σ H R I h
  refine thn (hl pins s σ H _ I h) fun v s1 ⟨x, H1, I1, r1, q1⟩ => ?_
  obtain ⟨a, e, ⟨xs, hq⟩, q⟩ := q1
  subst e
  cases r1
  obtain ⟨its, rv, p, hz⟩ := I1.tuple hq
  refine wpAny_pyIter_tuple (show s1.heap.IsTuple a its.toArray from p) ?_
  refine ⟨s1.heap.objs.size, [s1.heap.objs.size], _, _, H1, rfl, I1.kept (t' := s1.toks) fun b o e => Heap.get?_push_of_some _ e, turn_tuple a _, ⟨_, Heap.get?_push_size _ rfl, rfl, rfl⟩, fun b hb => ?_, q⟩
  have e : b = s1.heap.objs.size := by simpa using hb
  subst e
  exact I1.fpOk (Nat.le_refl _) (I1.hok.fresh (Nat.le_refl _))
/-- a range object just made, walked -/
theorem range_it {pins : List (Addr × Obj)} {σ : St} {H : Hp} {s : Shared} {R : It → Hp → Prop} {E : Value → Shared → Prop} {lo hi : Int} {t u v : Tok} {tk : Nat} (I : Inv X pins σ H s) (h1 : -(2 ^ 62) ≤ lo) (h2 : lo < 2 ^ 62) (h3 : -(2 ^ 62) ≤ hi) (h4 : hi < 2 ^ 62)
    (q : R (Itr lo (hi - lo).toNat) H) : wpAny (model X.prog X.w) X.A (pyIter (.ref s.heap.objs.size)) (PIE X pins σ tg R) E { s with heap := s.heap.push { cls := .type "range", data := .fields #[.int lo t, .int hi u, .int 1 v] }, toks := tk } := by
  refine wpAny_pyIter_range (IsRange.new ..) (small_one h1 h2 h3 h4) ?_
  have I1 : Inv X pins σ H { s with heap := s.heap.push { cls := .type "range", data := .fields #[.int lo t, .int hi u, .int 1 v] }, toks := tk } := I.kept fun b o e => Heap.get?_push_of_some _ e
  refine ⟨(s.heap.push { cls := .type "range", data := .fields #[.int lo t, .int hi u, .int 1 v] }).objs.size, [(s.heap.push { cls := .type "range", data := .fields #[.int lo t, .int hi u, .int 1 v] }).objs.size], _, _, H, rfl,
    I1.kept (t' := tk) fun b o e => Heap.get?_push_of_some _ e, turn_range _ lo (hi - lo).toNat, ?_, fun b hb => ?_, q⟩
  · have e1 : lo + ((0 : Nat) : Int) * 1 = lo := by simp
    have e2 : (((hi - lo).toNat : Nat) : Int) - ((0 : Nat) : Int) = Builtin.Range.rangeSize lo hi 1 := by rw [rangeSize_one]; split <;> omega
    show IsRangeIter _ _ (lo + ((0 : Nat) : Int) * 1) ((((hi - lo).toNat : Nat) : Int) - ((0 : Nat) : Int)) 1
    rw [e1, e2]
    exact Heap.get?_push_size _ rfl
  · have e : b = (s.heap.push { cls := .type "range", data := .fields #[.int lo t, .int hi u, .int 1 v] }).objs.size := by simpa using hb
    subst e
    exact I1.fpOk (Nat.le_refl _) (I1.hok.fresh (Nat.le_refl _))
def iRng1 (ta : TA) : TI := fun σ H R => ta σ H fun vs H1 => ∃ j : Int, vs = [.int j] ∧ -(2 ^ 62) ≤ j ∧ j < 2 ^ 62 ∧ R (Itr 0 j.toNat) H1
def iRng2 (ta : TA) : TI := fun σ H R => ta σ H fun vs H1 => ∃ i j : Int, vs = [.int i, .int j] ∧ (-(2 ^ 62) ≤ i ∧ i < 2 ^ 62 ∧ -(2 ^ 62) ≤ j ∧ j < 2 ^ 62) ∧ R (Itr i (j - i).toNat) H1
theorem pi_range1 {a : Expr} {ta : TA} {p pos : Pos} (hg : Gl X "range") (hm : X.mg "range" = none) (ha : PA X [a] ta) (hs : starEach [a] X.env = [(false, eval a X.env)] := by rfl) : PI X tg (.Call (.Name "range" p) [a] [] pos) (iRng1 ta) := by
  intro pins s σ H R I h
  refine Call_ (ld_blt I hg hm boot_range (PyProof.Rows.callWith_type1 (thn (ha pos pins s σ H _ I h) fun us s1 ⟨vs, H1, I1, r1, q1⟩ => ?_) hs rfl))
  obtain ⟨j, e, q1, q2, q⟩ := q1
  subst e
  cases r1 with
  | cons r rr =>
    cases rr
    obtain ⟨t, rfl⟩ := r
    exact call_range_1 (range_it I1 (by omega) (by omega) q1 q2 (by simpa using q))
theorem pi_range2 {a b : Expr} {ta : TA} {p pos : Pos} (hg : Gl X "range") (hm : X.mg "range" = none) (ha : PA X [a, b] ta) (hs : starEach [a, b] X.env = [(false, eval a X.env), (false, eval b X.env)] := by rfl) (hs2 : starEach [b] X.env = [(false, eval b X.env)] := by rfl) :
    PI X tg (.Call (.Name "range" p) [a, b] [] pos) (iRng2 ta) := by
  intro pins s σ H R I h
  refine Call_ (ld_blt I hg hm boot_range (PyProof.Rows.callWith_type1 (thn (ha pos pins s σ H _ I h) fun us s1 ⟨vs, H1, I1, r1, q1⟩ => ?_) (by rw [hs, hs2]) (by rw [hs2]; rfl)))
  obtain ⟨i, j, e, ⟨q1, q2, q3, q4⟩, q⟩ := q1
  subst e
  cases r1 with
  | cons r rr =>
    cases rr with
    | cons r' rr =>
      cases rr
      obtain ⟨t, rfl⟩ := r
      obtain ⟨t', rfl⟩ := r'
      exact call_range_2 (range_it I1 q1 q2 q3 q4 q)

/-! ### for -/
/-- W: the invariant by the turn and a measure; N: what the body is to reach -/
def tFor (wi : TI) (g : TG) (tb : TS) : TS := fun D σ H => wi σ H fun J H1 => ∃ W : Nat → Nat → St → Hp → Prop, (∃ m, W 0 m σ H1) ∧ ∀ i m σ H, W i m σ H →
  (J.stop i H ∧ D.nx σ H) ∨ (J.go i H ∧ ∃ N : St → Hp → Prop, (∀ σ' H', N σ' H' → ∃ m', m' < m ∧ W (i + 1) m' σ' H') ∧ ∀ x H', J.yld i H x H' → g x σ H' fun σ2 H2 => tb { D with nx := N, ct := N, bk := D.nx } σ2 H2)
/-- the records at fp as they stand -/
def pinsAt (fp : List Addr) (h : Heap) : List (Addr × Obj) := fp.filterMap fun b => (h.get? b).map fun o => (b, o)
theorem mem_pinsAt {fp : List Addr} {h : Heap} {b : Addr} {o : Obj} (hb : b ∈ fp) (e : h.get? b = some o) : (b, o) ∈ pinsAt fp h := List.mem_filterMap.mpr ⟨b, hb, by rw [e]; rfl⟩
theorem of_pinsAt {fp : List Addr} {h : Heap} {p : Addr × Obj} (hp : p ∈ pinsAt fp h) : p.1 ∈ fp ∧ h.get? p.1 = some p.2 := by
  obtain ⟨b, hb, e⟩ := List.mem_filterMap.mp hp
  cases q : h.get? b with
  | none => rw [q] at e; cases e
  | some o =>
    rw [q] at e
    have e' : (b, o) = p := Option.some.inj e
    subst e'
    exact ⟨hb, q⟩
theorem Inv.pinned {pins : List (Addr × Obj)} {σ : St} {H : Hp} {s : Shared} {fp : List Addr} (I : Inv X pins σ H s) (hf : ∀ b ∈ fp, FpOk X pins H b) (ho : ∀ b ∈ fp, ∃ o, s.heap.get? b = some o ∧ ∀ v, o.data ≠ .cell v) : Inv X (pins ++ pinsAt fp s.heap) σ H s :=
  I.pins_of fun p hp => (List.mem_append.mp hp).elim (fun z => I.pin p (List.mem_append_right _ z)) fun z => by
    obtain ⟨hb, e⟩ := of_pinsAt z
    obtain ⟨f0, f1, f2, _⟩ := hf p.1 hb
    obtain ⟨o, e', d⟩ := ho p.1 hb
    rw [e] at e'; cases e'
    exact ⟨e, f0, f1, f2, d⟩
theorem Inv.unpinned {pins pl : List (Addr × Obj)} {σ : St} {H : Hp} {s : Shared} (I : Inv X (pins ++ pl) σ H s) : Inv X pins σ H s := I.pins_of fun p hp => I.pin p (List.mem_append_right _ (List.mem_append_left _ hp))
theorem ps_for {iter : Expr} {body : List Stmt} {wi : TI} {g : TG} {tb : TS} {pos : Pos} (hp : PassesOwn (model X.prog X.w) X.A X.env X.xe) (hc : X.calm = true) (hi : PI X tg iter wi) (hg : PG X tg g) (hb : PSs X body tb)
    (hs : ∀ x, foldedSetIterable iter X.env x = pure x := by intro _; rfl) : PS X (.For tg iter body [] pos) (tFor wi g tb) := by
  intro pins s σ H D I h
  refine wpAny_For (thn (hi pins s σ H _ I h) fun v s1 h1 => thn h1 fun itv s2 h2 => ?_) hs
  obtain ⟨it, fp, tn, J, H2, e, I2, T, st2, f2, W, ⟨m0, w0⟩, turn⟩ := h2
  subst e
  -- what stays true of the iterator's objects through the loop
  have stat : ∀ {H' : Hp}, (∀ b ∈ fp, H' b = none) → ∀ b ∈ fp, FpOk X pins H' b := fun hn b hb => ⟨hn b hb, (f2 b hb).2⟩
  refine codeAny_forLoop_any (fun n s' => ∃ i σ' H', Inv X pins σ' H' s' ∧ tn i s'.heap ∧ (∀ b ∈ fp, H' b = none) ∧ W i n σ' H') ?_ m0 ⟨0, σ, H2, I2, st2, fun b hb => (f2 b hb).1, w0⟩
  rintro n s3 ⟨i, σ3, H3, I3, st3, fr3, w3⟩
  rcases turn i n σ3 H3 w3 with ⟨stop, qn⟩ | ⟨go, N, hN, step⟩
  · refine wpAny_passesOwn hp (thn (T.done X rfl rfl rfl hc i pins s3 σ3 H3 X.xe I3 (stat fr3) st3 stop) fun r s4 ⟨hr, I4⟩ => ?_)
    subst hr
    exact wpAny_execs_nil ⟨σ3, H3, I4, qn⟩
  · refine wpAny_passesOwn hp (thn (T.item X rfl rfl rfl hc i pins s3 σ3 H3 X.xe I3 (stat fr3) st3 go) fun r s4 ⟨u, hr, h4⟩ => ?_)
    subst hr
    refine wpAny_passesOwn hp (thn h4 fun _ s5 ⟨x, H5, I5, r5, y5, st5, fr5⟩ => ?_)
    have I5' := I5.pinned (stat fr5) (T.obj _ _ st5)
    refine wpAny_passesOwn hp (thn (hg _ s5 σ3 H5 x u _ I5' r5 (step x H5 y5)) fun _ s6 ⟨σ6, H6, I6, q6⟩ => ?_)
    refine wpAny_passesOwn hp (thn (hb _ s6 σ6 H6 _ I6 q6) fun f s7 q7 => ?_)
    have again : ∀ {σ7 : St} {H7 : Hp}, Inv X (pins ++ pinsAt fp s5.heap) σ7 H7 s7 → N σ7 H7 → ∃ m, m < n ∧ ∃ i σ' H', Inv X pins σ' H' s7 ∧ tn i s7.heap ∧ (∀ b ∈ fp, H' b = none) ∧ W i m σ' H' := fun {σ7 H7} I7 n7 => by
      obtain ⟨m', hm, w7⟩ := hN σ7 H7 n7
      refine ⟨m', hm, i + 1, σ7, H7, I7.unpinned, T.keep _ _ _ st5 fun b hb o e => (I7.pin (b, o) (List.mem_append_right _ (List.mem_append_right _ (mem_pinsAt hb e)))).1, fun b hb => ?_, w7⟩
      obtain ⟨o, e, d⟩ := T.obj _ _ st5 b hb
      exact (I7.pin (b, o) (List.mem_append_right _ (List.mem_append_right _ (mem_pinsAt hb e)))).2.1
    cases f with
    | next => obtain ⟨σ7, H7, I7, n7⟩ := q7; exact again I7 n7
    | cont => obtain ⟨σ7, H7, I7, n7⟩ := q7; exact again I7 n7
    | brk => obtain ⟨σ7, H7, I7, q7⟩ := q7; exact ⟨σ7, H7, I7.unpinned, q7⟩
    | ret v => obtain ⟨x7, σ7, H7, I7, r7, q7⟩ := q7; exact ⟨x7, σ7, H7, I7.unpinned, r7, q7⟩
end

/-! ### the forms one uses -/
/-- over a list that the body leaves as it is -/
theorem for_list {K : PySem.W.Frag} {a : Addr} {xs : List V} {g : TG} {tb : TS} {D : Ends} {σ : St} {H : Hp} (Pv : Nat → St → Hp → Prop) (h0 : Pv 0 σ H) (hl : ∀ i σ H, i ≤ xs.length → Pv i σ H → SqL K H a xs)
    (hs : ∀ i x σ H, xs[i]? = some x → Pv i σ H → g x σ H fun σ2 H2 => tb { D with nx := Pv (i + 1), ct := Pv (i + 1), bk := D.nx } σ2 H2) (hd : ∀ σ H, Pv xs.length σ H → D.nx σ H) :
    ∃ W : Nat → Nat → St → Hp → Prop, (∃ m, W 0 m σ H) ∧ ∀ i m σ H, W i m σ H →
      ((Itl K a).stop i H ∧ D.nx σ H) ∨ ((Itl K a).go i H ∧ ∃ N : St → Hp → Prop, (∀ σ' H', N σ' H' → ∃ m', m' < m ∧ W (i + 1) m' σ' H') ∧ ∀ x H', (Itl K a).yld i H x H' → g x σ H' fun σ2 H2 => tb { D with nx := N, ct := N, bk := D.nx } σ2 H2) := by
  refine ⟨fun i m σ H => m = xs.length - i ∧ i ≤ xs.length ∧ Pv i σ H, ⟨xs.length, by simp, Nat.zero_le _, h0⟩, ?_⟩
  rintro i m σ H ⟨rfl, hi, p⟩
  have q := hl i σ H hi p
  by_cases hlt : i < xs.length
  · refine .inr ⟨⟨xs, xs[i], q, by simp [hlt]⟩, Pv (i + 1), fun σ' H' p' => ⟨xs.length - (i + 1), by omega, rfl, hlt, p'⟩, fun x H' y => ?_⟩
    obtain ⟨e, y⟩ := y
    subst e
    exact hs i x σ _ (y xs q) p
  · have e : i = xs.length := by omega
    subst e
    exact .inl ⟨⟨xs, q, Nat.le_refl _⟩, hd σ H p⟩
theorem for_tup {K : PySem.W.Frag} {a : Addr} {xs : List V} {g : TG} {tb : TS} {D : Ends} {σ : St} {H : Hp} (Pv : Nat → St → Hp → Prop) (h0 : Pv 0 σ H) (hl : ∀ i σ H, i ≤ xs.length → Pv i σ H → SqT K H a xs)
    (hs : ∀ i x σ H, xs[i]? = some x → Pv i σ H → g x σ H fun σ2 H2 => tb { D with nx := Pv (i + 1), ct := Pv (i + 1), bk := D.nx } σ2 H2) (hd : ∀ σ H, Pv xs.length σ H → D.nx σ H) :
    ∃ W : Nat → Nat → St → Hp → Prop, (∃ m, W 0 m σ H) ∧ ∀ i m σ H, W i m σ H →
      ((Itt K a).stop i H ∧ D.nx σ H) ∨ ((Itt K a).go i H ∧ ∃ N : St → Hp → Prop, (∀ σ' H', N σ' H' → ∃ m', m' < m ∧ W (i + 1) m' σ' H') ∧ ∀ x H', (Itt K a).yld i H x H' → g x σ H' fun σ2 H2 => tb { D with nx := N, ct := N, bk := D.nx } σ2 H2) := by
  refine ⟨fun i m σ H => m = xs.length - i ∧ i ≤ xs.length ∧ Pv i σ H, ⟨xs.length, by simp, Nat.zero_le _, h0⟩, ?_⟩
  rintro i m σ H ⟨rfl, hi, p⟩
  have q := hl i σ H hi p
  by_cases hlt : i < xs.length
  · refine .inr ⟨⟨xs, xs[i], q, by simp [hlt]⟩, Pv (i + 1), fun σ' H' p' => ⟨xs.length - (i + 1), by omega, rfl, hlt, p'⟩, fun x H' y => ?_⟩
    obtain ⟨e, y⟩ := y
    subst e
    exact hs i x σ _ (y xs q) p
  · have e : i = xs.length := by omega
    subst e
    exact .inl ⟨⟨xs, q, Nat.le_refl _⟩, hd σ H p⟩
theorem for_range {lo : Int} {n : Nat} {g : TG} {tb : TS} {D : Ends} {σ : St} {H : Hp} (Pv : Nat → St → Hp → Prop) (h0 : Pv 0 σ H)
    (hs : ∀ i σ H, i < n → Pv i σ H → g (.int (lo + i)) σ H fun σ2 H2 => tb { D with nx := Pv (i + 1), ct := Pv (i + 1), bk := D.nx } σ2 H2) (hd : ∀ σ H, Pv n σ H → D.nx σ H) :
    ∃ W : Nat → Nat → St → Hp → Prop, (∃ m, W 0 m σ H) ∧ ∀ i m σ H, W i m σ H →
      ((Itr lo n).stop i H ∧ D.nx σ H) ∨ ((Itr lo n).go i H ∧ ∃ N : St → Hp → Prop, (∀ σ' H', N σ' H' → ∃ m', m' < m ∧ W (i + 1) m' σ' H') ∧ ∀ x H', (Itr lo n).yld i H x H' → g x σ H' fun σ2 H2 => tb { D with nx := N, ct := N, bk := D.nx } σ2 H2) := by
  refine ⟨fun i m σ H => m = n - i ∧ i ≤ n ∧ Pv i σ H, ⟨n, by simp, Nat.zero_le _, h0⟩, ?_⟩
  rintro i m σ H ⟨rfl, hi, p⟩
  by_cases hlt : i < n
  · refine .inr ⟨hlt, Pv (i + 1), fun σ' H' p' => ⟨n - (i + 1), by omega, rfl, hlt, p'⟩, fun x H' y => ?_⟩
    obtain ⟨e, y⟩ := y
    subst e y
    exact hs i σ _ hlt p
  · have e : i = n := by omega
    subst e
    exact .inl ⟨Nat.le_refl _, hd σ H p⟩
/-- while, by a word and a measure of the state -/
theorem while_by {c : TT} {tb : TS} {D : Ends} {σ : St} {H : Hp} (Pv : St → Hp → Prop) (μ : St → Hp → Nat) (h0 : Pv σ H)
    (hs : ∀ σ H, Pv σ H → c σ H fun b H1 => if b = true then tb { D with nx := fun σ' H' => Pv σ' H' ∧ μ σ' H' < μ σ H, ct := fun σ' H' => Pv σ' H' ∧ μ σ' H' < μ σ H, bk := D.nx } σ H1 else D.nx σ H1)
    (mono : ∀ σ H Q Q', (∀ b H1, Q b H1 → Q' b H1) → c σ H Q → c σ H Q') : tWhile c tb D σ H := by
  refine ⟨fun m σ H => m = μ σ H ∧ Pv σ H, ⟨_, rfl, h0⟩, ?_⟩
  rintro m σ H ⟨rfl, p⟩
  refine mono σ H _ _ (fun b H1 q => ?_) (hs σ H p)
  cases b with
  | true => exact ⟨_, fun σ' H' ⟨p', l⟩ => ⟨_, l, rfl, p'⟩, q⟩
  | false => exact q
end L2

namespace L2
open PySem PySem.Spec PyProof.Rows

abbrev R2 := V → V → Hp → VK → Prop
/-- a two-place operation on values: f is binaryOp op, inplaceOp op or compareOp op -/
def OpR (X : Cx) (f : Value → Value → Sem Value) (r : R2) : Prop :=
  ∀ (pins : List (Addr × Obj)) (s : Shared) (σ : St) (H : Hp) (x y : V) (v u : Value) (Q : VK), Inv X pins σ H s → RelV x v → RelV y u → r x y H Q →
    wpAny (model X.prog X.w) X.A (f v u) (EP X pins σ Q) X.xe s
/-- a one-place operation -/
def UnR (X : Cx) (f : Value → Sem Value) (r : V → Hp → VK → Prop) : Prop :=
  ∀ (pins : List (Addr × Obj)) (s : Shared) (σ : St) (H : Hp) (x : V) (v : Value) (Q : VK), Inv X pins σ H s → RelV x v → r x H Q →
    wpAny (model X.prog X.w) X.A (f v) (EP X pins σ Q) X.xe s
/-- a call of a value that is known (a builtin, a type) with values -/
def CallR (X : Cx) (f : Value) (r : List V → Hp → VK → Prop) : Prop :=
  ∀ (pins : List (Addr × Obj)) (s : Shared) (σ : St) (H : Hp) (xs : List V) (us : List Value) (Q : VK), Inv X pins σ H s → Vals xs us → r xs H Q →
    wpAny (model X.prog X.w) X.A (call f us) (EP X pins σ Q) X.xe s
/-- a value's truth -/
def TruR (X : Cx) (r : V → Hp → (Bool → Hp → Prop) → Prop) : Prop :=
  ∀ (pins : List (Addr × Obj)) (s : Shared) (σ : St) (H : Hp) (x : V) (v : Value) (Q : Bool → Hp → Prop), Inv X pins σ H s → RelV x v → r x H Q →
    wpAny (model X.prog X.w) X.A (truthy v) (TP X pins σ Q) X.xe s

def tOp (r : R2) (ta tb : TE) : TE := fun σ H Q => ta σ H fun x H1 => tb σ H1 fun y H2 => r x y H2 Q
def tUn (r : V → Hp → VK → Prop) (ta : TE) : TE := fun σ H Q => ta σ H fun x H1 => r x H1 Q
/-- ints in, under C, and a value out -/
def rI (C : Int → Int → Prop) (g : Int → Int → V) : R2 := fun x y H Q => ∃ i j, x = .int i ∧ y = .int j ∧ C i j ∧ Q (g i j) H
def rI0 (g : Int → Int → V) : R2 := fun x y H Q => ∃ i j, x = .int i ∧ y = .int j ∧ Q (g i j) H
def rU (g : Int → V) : V → Hp → VK → Prop := fun x H Q => ∃ i, x = .int i ∧ Q (g i) H

section
variable {X : Cx} {a b c : Expr} {ta tb tc : TE} {pos : Pos}

theorem binT (ha : PE X a ta) (hb : PE X b tb) {pins : List (Addr × Obj)} {s : Shared} {σ : St} {H : Hp} {R : V → V → Hp → Prop} (I : Inv X pins σ H s)
    (h : ta σ H fun x H1 => tb σ H1 fun y H2 => R x y H2) {Q : Value → Shared → Prop} {f : Value → Value → Sem Value}
    (hf : ∀ v u s2 x y H2, Inv X pins σ H2 s2 → RelV x v → RelV y u → R x y H2 → wpAny (model X.prog X.w) X.A (f v u) Q X.xe s2) :
    wpAny (model X.prog X.w) X.A (eval a X.env) (fun v s₁ => wpAny (model X.prog X.w) X.A (eval b X.env) (fun u s₂ => wpAny (model X.prog X.w) X.A (f v u) Q X.xe s₂) X.xe s₁) X.xe s := by
  refine thn (ha pins s σ H _ I h) fun v s1 ⟨x, H1, I1, r1, q1⟩ => ?_
  refine thn (hb pins s1 σ H1 _ I1 q1) fun u s2 ⟨y, H2, I2, r2, q2⟩ => ?_
  exact hf v u s2 x y H2 I2 r1 r2 q2

theorem pe_op {op : Operator} {r : R2} (ho : OpR X (binaryOp op) r) (ha : PE X a ta) (hb : PE X b tb) : PE X (.BinOp a op b pos) (tOp r ta tb) := by
  intro pins s σ H Q I h
  exact wpAny_BinOp (binT ha hb I h fun v u s2 x y H2 I2 rx ry q => ho pins s2 σ H2 x y v u Q I2 rx ry q)
theorem pe_un {op : UnaryOp} {r : V → Hp → VK → Prop} (ho : UnR X (unaryOp op) r) (ha : PE X a ta) : PE X (.UnaryOp op a pos) (tUn r ta) := by
  intro pins s σ H Q I h
  exact UnaryOp_ (thn (ha pins s σ H _ I h) fun v s1 ⟨x, H1, I1, r1, q1⟩ => ho pins s1 σ H1 x v Q I1 r1 q1)
/-- a op= e at a name: the name's slot i -/
theorem augR {op : Operator} {r : R2} (ho : OpR X (inplaceOp op) r) {pins : List (Addr × Obj)} {s : Shared} {σ : St} {H : Hp} {x y : V} {v u : Value} {Q : VK} (I : Inv X pins σ H s)
    (rx : RelV x v) (ry : RelV y u) (q : r x y H Q) : wpAny (model X.prog X.w) X.A (inplaceOp op v u) (EP X pins σ Q) X.xe s := ho pins s σ H x y v u Q I rx ry q

/-! ### ints -/
theorem opI {f : Value → Value → Sem Value} {C : Int → Int → Prop} {g : Int → Int → Int}
    (rule : ∀ (i j : Int) (t u : Tok) (s : Shared) (Q : Value → Shared → Prop) (E : Value → Shared → Prop), C i j → Q (.int (g i j) s.toks) { s with toks := s.toks + 1 } → wpAny (model X.prog X.w) X.A (f (.int i t) (.int j u)) Q E s) :
    OpR X f (rI C fun i j => .int (g i j)) := by
  intro pins s σ H x y v u Q I rx ry h
  obtain ⟨i, j, rfl, rfl, hc, q⟩ := h
  obtain ⟨t, rfl⟩ := rx
  obtain ⟨t', rfl⟩ := ry
  exact rule i j t t' s _ _ hc ⟨.int (g i j), H, I.tok _, ⟨_, rfl⟩, q⟩
theorem opI0 {f : Value → Value → Sem Value} {g : Int → Int → Int}
    (rule : ∀ (i j : Int) (t u : Tok) (s : Shared) (Q : Value → Shared → Prop) (E : Value → Shared → Prop), Q (.int (g i j) s.toks) { s with toks := s.toks + 1 } → wpAny (model X.prog X.w) X.A (f (.int i t) (.int j u)) Q E s) :
    OpR X f (rI0 fun i j => .int (g i j)) := by
  intro pins s σ H x y v u Q I rx ry h
  obtain ⟨i, j, rfl, rfl, q⟩ := h
  obtain ⟨t, rfl⟩ := rx
  obtain ⟨t', rfl⟩ := ry
  exact rule i j t t' s _ _ ⟨.int (g i j), H, I.tok _, ⟨_, rfl⟩, q⟩
theorem opB0 {f : Value → Value → Sem Value} {g : Int → Int → Bool}
    (rule : ∀ (i j : Int) (t u : Tok) (s : Shared) (Q : Value → Shared → Prop) (E : Value → Shared → Prop), Q (.bool (g i j)) s → wpAny (model X.prog X.w) X.A (f (.int i t) (.int j u)) Q E s) :
    OpR X f (rI0 fun i j => .bl (g i j)) := by
  intro pins s σ H x y v u Q I rx ry h
  obtain ⟨i, j, rfl, rfl, q⟩ := h
  obtain ⟨t, rfl⟩ := rx
  obtain ⟨t', rfl⟩ := ry
  exact rule i j t t' s _ _ ⟨.bl (g i j), H, I, rfl, q⟩

def CDiv (i j : Int) : Prop := 0 < j ∧ j < 1073741824
def CDivN (i j : Int) : Prop := j ≠ 0 ∧ j.natAbs < 1073741824
def CPow (i j : Int) : Prop := 0 ≤ j ∧ j ≤ 1000000 ∧ i.natAbs < 2 ^ 64
def CMul (i j : Int) : Prop := (-(2 ^ 64) < i ∧ i < 2 ^ 64) ∨ (-(2 ^ 64) < j ∧ j < 2 ^ 64)
theorem CMul.ok {i j : Int} (h : CMul i j) : IntMulOk i j := by
  rcases h with ⟨h1, h2⟩ | ⟨h1, h2⟩
  · exact .of_left (intBits_le_64 h1 h2)
  · exact .of_right (intBits_le_64 h1 h2)
theorem two_pow_nn (k : Nat) : (0 : Int) ≤ 2 ^ k := by
  rw [two_pow_cast]
  exact Int.natCast_nonneg _

theorem op_add : OpR X (binaryOp .Add) (rI0 fun i j => .int (i + j)) := opI0 fun _ _ _ _ _ _ _ q => add_int q
theorem op_sub : OpR X (binaryOp .Sub) (rI0 fun i j => .int (i - j)) := opI0 fun _ _ _ _ _ _ _ q => sub_int q
theorem op_mul : OpR X (binaryOp .Mult) (rI CMul fun i j => .int (i * j)) := opI fun _ _ _ _ _ _ _ hc q => mul_int q hc.ok
/-- // by a positive divisor -/
theorem op_fdiv : OpR X (binaryOp .FloorDiv) (rI CDiv fun i j => .int (i / j)) := opI fun i j _ _ _ _ _ hc q => by
  have h1 : (0 : Int) < j := hc.1
  have h2 : j < 1073741824 := hc.2
  exact floordiv_int (by omega) (by rw [Int.fdiv_eq_ediv_of_nonneg i (by omega)]; exact q) (.inl (PyProof.noPylong_small (by omega)))
theorem op_fdivN : OpR X (binaryOp .FloorDiv) (rI CDivN fun i j => .int (i.fdiv j)) := opI fun _ _ _ _ _ _ _ hc q => floordiv_int hc.1 q (.inl (PyProof.noPylong_small hc.2))
/-- % by a positive divisor of any size -/
theorem op_mod : OpR X (binaryOp .Mod) (rI (fun _ j => 0 < j) fun i j => .int (i % j)) := opI fun i j _ _ _ _ _ hc q => by
  have h1 : (0 : Int) < j := hc
  exact mod_int' (by omega) (by rw [Int.fmod_eq_emod_of_nonneg i (by omega)]; exact q)
theorem op_modN : OpR X (binaryOp .Mod) (rI (fun _ j => j ≠ 0) fun i j => .int (i.fmod j)) := opI fun _ _ _ _ _ _ _ hc q => mod_int' hc q
theorem op_pow : OpR X (binaryOp .Pow) (rI CPow fun i j => .int (i ^ j.toNat)) := opI fun _ _ _ _ _ _ _ hc q => pow_int_small hc.1 hc.2.1 hc.2.2 q
theorem op_shl : OpR X (binaryOp .LShift) (rI CPow fun i j => .int (i * 2 ^ j.toNat)) := opI fun _ _ _ _ _ _ _ hc q => lshift_int_small hc.1 hc.2.1 hc.2.2 q
theorem op_shr : OpR X (binaryOp .RShift) (rI (fun _ j => 0 ≤ j) fun i j => .int (i / 2 ^ j.toNat)) := opI fun i j _ _ _ _ _ hc q =>
  rshift_int hc (by rw [Int.fdiv_eq_ediv_of_nonneg i (two_pow_nn _)]; exact q)
theorem op_and : OpR X (binaryOp .BitAnd) (rI0 fun i j => .int (Builtin.bitAnd i j)) := opI0 fun _ _ _ _ _ _ _ q => and_int q
theorem op_or : OpR X (binaryOp .BitOr) (rI0 fun i j => .int (Builtin.bitOr i j)) := opI0 fun _ _ _ _ _ _ _ q => or_int q
theorem op_xor : OpR X (binaryOp .BitXor) (rI0 fun i j => .int (Builtin.bitXor i j)) := opI0 fun _ _ _ _ _ _ _ q => xor_int q

theorem iop_add : OpR X (inplaceOp .Add) (rI0 fun i j => .int (i + j)) := opI0 fun _ _ _ _ _ _ _ q => iadd_int q
theorem iop_sub : OpR X (inplaceOp .Sub) (rI0 fun i j => .int (i - j)) := opI0 fun _ _ _ _ _ _ _ q => isub_int q
theorem iop_mul : OpR X (inplaceOp .Mult) (rI CMul fun i j => .int (i * j)) := opI fun _ _ _ _ _ _ _ hc q => imul_int q hc.ok
theorem iop_fdiv : OpR X (inplaceOp .FloorDiv) (rI CDiv fun i j => .int (i / j)) := opI fun i j _ _ _ _ _ hc q => by
  have h1 : (0 : Int) < j := hc.1
  have h2 : j < 1073741824 := hc.2
  exact ifloordiv_int (by omega) (by rw [Int.fdiv_eq_ediv_of_nonneg i (by omega)]; exact q) (.inl (PyProof.noPylong_small (by omega)))
theorem iop_mod : OpR X (inplaceOp .Mod) (rI (fun _ j => 0 < j) fun i j => .int (i % j)) := opI fun i j _ _ _ _ _ hc q => by
  have h1 : (0 : Int) < j := hc
  exact imod_int (by omega) (by rw [Int.fmod_eq_emod_of_nonneg i (by omega)]; exact q)
theorem iop_shl : OpR X (inplaceOp .LShift) (rI CPow fun i j => .int (i * 2 ^ j.toNat)) := opI fun _ _ _ _ _ _ _ hc q => ilshift_int_small hc.1 hc.2.1 hc.2.2 q
theorem iop_shr : OpR X (inplaceOp .RShift) (rI (fun _ j => 0 ≤ j) fun i j => .int (i / 2 ^ j.toNat)) := opI fun i j _ _ _ _ _ hc q =>
  irshift_int hc (by rw [Int.fdiv_eq_ediv_of_nonneg i (two_pow_nn _)]; exact q)
theorem iop_and : OpR X (inplaceOp .BitAnd) (rI0 fun i j => .int (Builtin.bitAnd i j)) := opI0 fun _ _ _ _ _ _ _ q => iand_int q
theorem iop_or : OpR X (inplaceOp .BitOr) (rI0 fun i j => .int (Builtin.bitOr i j)) := opI0 fun _ _ _ _ _ _ _ q => ior_int q
theorem iop_xor : OpR X (inplaceOp .BitXor) (rI0 fun i j => .int (Builtin.bitXor i j)) := opI0 fun _ _ _ _ _ _ _ q => ixor_int q

theorem unI {f : Value → Sem Value} {g : Int → Int}
    (rule : ∀ (i : Int) (t : Tok) (s : Shared) (Q : Value → Shared → Prop) (E : Value → Shared → Prop), Q (.int (g i) s.toks) { s with toks := s.toks + 1 } → wpAny (model X.prog X.w) X.A (f (.int i t)) Q E s) :
    UnR X f (rU fun i => .int (g i)) := by
  intro pins s σ H x v Q I rx h
  obtain ⟨i, rfl, q⟩ := h
  obtain ⟨t, rfl⟩ := rx
  exact rule i t s _ _ ⟨.int (g i), H, I.tok _, ⟨_, rfl⟩, q⟩
theorem un_neg : UnR X (unaryOp .USub) (rU fun i => .int (-i)) := unI fun _ _ _ _ _ q => neg_int q
theorem un_inv : UnR X (unaryOp .Invert) (rU fun i => .int (Builtin.bitNot i)) := unI fun _ _ _ _ _ q => invert_int q

/-! ### bools among ints: n += (a < b) -/
theorem op_add_ib : OpR X (binaryOp .Add) (fun x y H Q => ∃ i k, x = .int i ∧ y = .bl k ∧ Q (.int (i + b2i k)) H) := by
  intro pins s σ H x y v u Q I rx ry h
  obtain ⟨i, k, rfl, rfl, q⟩ := h
  obtain ⟨t, rfl⟩ := rx
  cases ry
  exact add_int_bool ⟨.int (i + b2i k), H, I.tok _, ⟨_, rfl⟩, q⟩
end

/-! ### comparisons -/
/-- the scalars that == tells apart as data does -/
def scal : V → V → Bool
  | .non, .non => true | .non, .int _ => true | .int _, .non => true | .non, .bl _ => true | .bl _, .non => true | .non, .str _ => true | .str _, .non => true
  | .int _, .int _ => true | .bl _, .bl _ => true | .str _, .str _ => true | .byt _, .byt _ => true
  | .int _, .str _ => true | .str _, .int _ => true | .bl _, .str _ => true | .str _, .bl _ => true
  | _, _ => false
def rEq : R2 := fun x y H Q => scal x y = true ∧ Q (.bl (decide (x = y))) H
def rNe : R2 := fun x y H Q => scal x y = true ∧ Q (.bl (!decide (x = y))) H

theorem dec_int {i j : Int} : decide (V.int i = V.int j) = (i == j) := by
  rw [Bool.eq_iff_iff]
  simp
theorem dec_bl {i j : Bool} : decide (V.bl i = V.bl j) = (i == j) := by
  rw [Bool.eq_iff_iff]
  simp
theorem dec_str {i j : Str} : decide (V.str i = V.str j) = (i == j) := by
  rw [Bool.eq_iff_iff]
  simp
theorem dec_byt {i j : Array UInt8} : decide (V.byt i = V.byt j) = (i.toList == j.toList) := by
  rw [Bool.eq_iff_iff]
  cases i
  cases j
  simp

section
variable {X : Cx} {a b c : Expr} {ta tb tc : TE} {pos : Pos}
theorem fin_bl {pins : List (Addr × Obj)} {σ : St} {H : Hp} {s : Shared} {Q : VK} {k k' : Bool} (I : Inv X pins σ H s) (q : Q (.bl k) H) (e : k = k') : EP X pins σ Q (.bool k') s := by
  subst e
  exact ⟨.bl k, H, I, rfl, q⟩
theorem op_eq : OpR X (compareOp .Eq) rEq := by
  intro pins s σ H x y v u Q I rx ry h
  obtain ⟨hs, q⟩ := h
  cases x with
  | non =>
    cases rx
    cases y with
    | non => cases ry; exact PySem.EqNone.eq_none_none (fin_bl I q (by simp))
    | bl j => cases ry; exact PySem.EqNone.eq_none_bool (fin_bl I q (by simp))
    | int j => obtain ⟨t', rfl⟩ := ry; exact PySem.EqNone.eq_none_int (fin_bl I q (by simp))
    | str j => obtain ⟨t', rfl⟩ := ry; exact PySem.EqNone.eq_none_str (fin_bl I q (by simp))
    | _ => exact absurd (show false = true from hs) Bool.false_ne_true
  | bl i =>
    cases rx
    cases y with
    | non => cases ry; exact PySem.EqNone.eq_bool_none (fin_bl I q (by simp))
    | bl j => cases ry; exact eq_bool (fin_bl I q dec_bl)
    | str j => obtain ⟨t', rfl⟩ := ry; exact PySem.EqMixed.eq_bool_str (fin_bl I q (by simp))
    | _ => exact absurd (show false = true from hs) Bool.false_ne_true
  | int i =>
    obtain ⟨t, rfl⟩ := rx
    cases y with
    | non => cases ry; exact PySem.EqNone.eq_int_none (fin_bl I q (by simp))
    | int j => obtain ⟨t', rfl⟩ := ry; exact eq_int (fin_bl I q dec_int)
    | str j => obtain ⟨t', rfl⟩ := ry; exact PySem.EqMixed.eq_int_str (fin_bl I q (by simp))
    | _ => exact absurd (show false = true from hs) Bool.false_ne_true
  | str i =>
    obtain ⟨t, rfl⟩ := rx
    cases y with
    | non => cases ry; exact PySem.EqNone.eq_str_none (fin_bl I q (by simp))
    | bl j => cases ry; exact PySem.EqMixed.eq_str_bool (fin_bl I q (by simp))
    | int j => obtain ⟨t', rfl⟩ := ry; exact PySem.EqMixed.eq_str_int (fin_bl I q (by simp))
    | str j => obtain ⟨t', rfl⟩ := ry; exact eq_str (fin_bl I q dec_str)
    | _ => exact absurd (show false = true from hs) Bool.false_ne_true
  | byt i =>
    obtain ⟨t, rfl⟩ := rx
    cases y with
    | byt j => obtain ⟨t', rfl⟩ := ry; exact PySem.W.eq_bytes (fin_bl I q dec_byt)
    | _ => exact absurd (show false = true from hs) Bool.false_ne_true
  | _ => cases y <;> exact absurd (show false = true from hs) Bool.false_ne_true
theorem op_ne : OpR X (compareOp .NotEq) rNe := by
  intro pins s σ H x y v u Q I rx ry h
  obtain ⟨hs, q⟩ := h
  cases x with
  | non =>
    cases rx
    cases y with
    | non => cases ry; exact PySem.EqNone.ne_none_none (fin_bl I q (by simp))
    | bl j => cases ry; exact PySem.EqNone.ne_none_bool (fin_bl I q (by simp))
    | int j => obtain ⟨t', rfl⟩ := ry; exact PySem.EqNone.ne_none_int (fin_bl I q (by simp))
    | str j => obtain ⟨t', rfl⟩ := ry; exact PySem.EqNone.ne_none_str (fin_bl I q (by simp))
    | _ => exact absurd (show false = true from hs) Bool.false_ne_true
  | bl i =>
    cases rx
    cases y with
    | non => cases ry; exact PySem.EqNone.ne_bool_none (fin_bl I q (by simp))
    | bl j => cases ry; exact ne_bool (fin_bl I q (congrArg not dec_bl))
    | str j => obtain ⟨t', rfl⟩ := ry; exact PySem.EqMixed.ne_bool_str (fin_bl I q (by simp))
    | _ => exact absurd (show false = true from hs) Bool.false_ne_true
  | int i =>
    obtain ⟨t, rfl⟩ := rx
    cases y with
    | non => cases ry; exact PySem.EqNone.ne_int_none (fin_bl I q (by simp))
    | int j => obtain ⟨t', rfl⟩ := ry; exact ne_int (fin_bl I q (congrArg not dec_int))
    | str j => obtain ⟨t', rfl⟩ := ry; exact PySem.EqMixed.ne_int_str (fin_bl I q (by simp))
    | _ => exact absurd (show false = true from hs) Bool.false_ne_true
  | str i =>
    obtain ⟨t, rfl⟩ := rx
    cases y with
    | non => cases ry; exact PySem.EqNone.ne_str_none (fin_bl I q (by simp))
    | bl j => cases ry; exact PySem.EqMixed.ne_str_bool (fin_bl I q (by simp))
    | int j => obtain ⟨t', rfl⟩ := ry; exact PySem.EqMixed.ne_str_int (fin_bl I q (by simp))
    | str j => obtain ⟨t', rfl⟩ := ry; exact ne_str (fin_bl I q (congrArg not dec_str))
    | _ => exact absurd (show false = true from hs) Bool.false_ne_true
  | byt i =>
    obtain ⟨t, rfl⟩ := rx
    cases y with
    | byt j => obtain ⟨t', rfl⟩ := ry; exact PySem.W.ne_bytes (fin_bl I q (congrArg not dec_byt))
    | _ => exact absurd (show false = true from hs) Bool.false_ne_true
  | _ => cases y <;> exact absurd (show false = true from hs) Bool.false_ne_true

theorem op_lt : OpR X (compareOp .Lt) (rI0 fun i j => .bl (decide (i < j))) := opB0 fun _ _ _ _ _ _ _ q => lt_int q
theorem op_le : OpR X (compareOp .LtE) (rI0 fun i j => .bl (decide (i ≤ j))) := opB0 fun _ _ _ _ _ _ _ q => le_int q
theorem op_gt : OpR X (compareOp .Gt) (rI0 fun i j => .bl (decide (j < i))) := opB0 fun _ _ _ _ _ _ _ q => gt_int q
theorem op_ge : OpR X (compareOp .GtE) (rI0 fun i j => .bl (decide (j ≤ i))) := opB0 fun _ _ _ _ _ _ _ q => ge_int q
theorem op_lt_str : OpR X (compareOp .Lt) (fun x y H Q => ∃ i j, x = .str i ∧ y = .str j ∧ Q (.bl (decide (i.cps.toList < j.cps.toList))) H) := by
  intro pins s σ H x y v u Q I rx ry h
  obtain ⟨i, j, rfl, rfl, q⟩ := h
  obtain ⟨t, rfl⟩ := rx
  obtain ⟨t', rfl⟩ := ry
  exact lt_str (fin_bl I q rfl)
/-- the one string within the other -/
theorem op_in_str : OpR X (compareOp .In) (fun x y H Q => ∃ i j, x = .str i ∧ y = .str j ∧ Q (.bl (!(Builtin.Str.occurrences j i 0 j.length 1).isEmpty)) H) := by
  intro pins s σ H x y v u Q I rx ry h
  obtain ⟨i, j, rfl, rfl, q⟩ := h
  obtain ⟨t, rfl⟩ := rx
  obtain ⟨t', rfl⟩ := ry
  exact in_str (fin_bl I q rfl)

/-- is None, is not None: the right side a value none -/
theorem op_isN : OpR X (compareOp .Is) (fun x y H Q => y = .non ∧ Q (.bl (decide (x = .non))) H) := by
  intro pins s σ H x y v u Q I rx ry h
  obtain ⟨rfl, q⟩ := h
  cases ry
  refine is_none_gen (fin_bl I q ?_)
  cases x <;> first
    | (cases rx; rfl)
    | (obtain ⟨t, rfl⟩ := rx; rfl)
theorem op_notN : OpR X (compareOp .IsNot) (fun x y H Q => y = .non ∧ Q (.bl (!decide (x = .non))) H) := by
  intro pins s σ H x y v u Q I rx ry h
  obtain ⟨rfl, q⟩ := h
  cases ry
  refine isnot_none_gen (fin_bl I q ?_)
  cases x <;> first
    | (cases rx; rfl)
    | (obtain ⟨t, rfl⟩ := rx; rfl)

theorem op_notin_str : OpR X (compareOp .NotIn) (fun x y H Q => ∃ i j, x = .str i ∧ y = .str j ∧ Q (.bl (!(!(Builtin.Str.occurrences j i 0 j.length 1).isEmpty))) H) := by
  intro pins s σ H x y v u Q I rx ry h
  obtain ⟨i, j, rfl, rfl, q⟩ := h
  obtain ⟨t, rfl⟩ := rx
  obtain ⟨t', rfl⟩ := ry
  exact notIn_str (fin_bl I q rfl)
/-- is, is not of two objects that are tracked lists or instances -/
def isObj : HO → Bool
  | .lst _ => true
  | .ins _ _ _ => true
  | _ => false
theorem obj_there {pins : List (Addr × Obj)} {s : Shared} {σ : St} {H : Hp} {a : Addr} {o : HO} (I : Inv X pins σ H s) (h : H a = some o) (p : isObj o = true) : ∃ ob, s.heap.get? a = some ob ∧ ob.cls ≠ .type "tuple" := by
  cases o with
  | lst xs =>
    obtain ⟨_, its, n, _, e⟩ : xs.length ≤ sizeLine ∧ ∃ (its : List Value) (n : Nat), Vals xs its ∧ s.heap.get? a = some { cls := .type "list", data := .seq its.toArray n } := I.hok a _ h
    exact ⟨_, e, (by show Value.type "list" ≠ .type "tuple"; decide +kernel)⟩
  | ins C dx fs =>
    have x := I.hok a _ h
    obtain ⟨_, _, _, e, _⟩ := x
    exact ⟨_, e, (by show Value.ref C ≠ .type "tuple"; exact fun z => by cases z)⟩
  | _ => exact absurd (show false = true from p) Bool.false_ne_true
theorem op_is_ref : OpR X (compareOp .Is) (fun x y H Q => ∃ a b oa ob, x = .ref a ∧ y = .ref b ∧ H a = some oa ∧ isObj oa = true ∧ H b = some ob ∧ isObj ob = true ∧ Q (.bl (decide (a = b))) H) := by
  intro pins s σ H x y v u Q I rx ry h
  obtain ⟨a, b, oa, ob, rfl, rfl, ha, pa, hb, pb, q⟩ := h
  cases rx
  cases ry
  obtain ⟨o1, e1, n1⟩ := obj_there I ha pa
  obtain ⟨o2, e2, _⟩ := obj_there I hb pb
  by_cases z : a = b
  · subst z
    exact wpAny_is_ref_self (fin_bl I q (by simp))
  · exact wpAny_is_ref_other z e1 e2 n1 (fin_bl I q (by simp [z]))
theorem op_isnot_ref : OpR X (compareOp .IsNot) (fun x y H Q => ∃ a b oa ob, x = .ref a ∧ y = .ref b ∧ H a = some oa ∧ isObj oa = true ∧ H b = some ob ∧ isObj ob = true ∧ Q (.bl (!decide (a = b))) H) := by
  intro pins s σ H x y v u Q I rx ry h
  obtain ⟨a, b, oa, ob, rfl, rfl, ha, pa, hb, pb, q⟩ := h
  cases rx
  cases ry
  obtain ⟨o1, e1, n1⟩ := obj_there I ha pa
  obtain ⟨o2, e2, _⟩ := obj_there I hb pb
  by_cases z : a = b
  · subst z
    exact wpAny_isNot_ref_self (fin_bl I q (by simp))
  · exact wpAny_isNot_ref_other z e1 e2 n1 (fin_bl I q (by simp [z]))

/-- two rules for one operation: by cases -/
theorem OpR.or {f : Value → Value → Sem Value} {r r' : R2} (h : OpR X f r) (h' : OpR X f r') : OpR X f (fun x y H Q => r x y H Q ∨ r' x y H Q) := by
  intro pins s σ H x y v u Q I rx ry q
  rcases q with q | q
  · exact h pins s σ H x y v u Q I rx ry q
  · exact h' pins s σ H x y v u Q I rx ry q

theorem nomark (b : Expr) {op : CmpOp} (h : op ≠ .In := by decide) (h2 : op ≠ .NotIn := by decide) : behindInMarks op b = false := by
  have e1 : (op == CmpOp.In) = false := by cases op <;> first | rfl | exact absurd rfl h
  have e2 : (op == CmpOp.NotIn) = false := by cases op <;> first | rfl | exact absurd rfl h2
  cases b <;> simp [behindInMarks, e1, e2]
/-- a comparison as a value; hm: nomark b, or (for in, not in) by with_unfolding_all rfl -/
theorem pe_cmpR {op : CmpOp} {r : R2} (ho : OpR X (compareOp op) r) (ha : PE X a ta) (hb : PE X b tb) (hm : behindInMarks op b = false) : PE X (.Compare a [op] [b] pos) (tOp r ta tb) := by
  intro pins s σ H Q I h
  exact wpAny_Compare1 (binT ha hb I h fun v u s2 x y H2 I2 rx ry q => ho pins s2 σ H2 x y v u Q I2 rx ry q) hm
/-- a reading of a value as a test -/
def tTest (t : TE) : TT := fun σ H Q => t σ H fun x H' => ∃ k, x = .bl k ∧ Q k H'
theorem pt_cmpR {op : CmpOp} {r : R2} (ho : OpR X (compareOp op) r) (ha : PE X a ta) (hb : PE X b tb) (hm : behindInMarks op b = false) : PT X (.Compare a [op] [b] pos) (tTest (tOp r ta tb)) := by
  intro pins s σ H Q I h
  refine wpAny_isTrue_Compare1 (thn (ha pins s σ H _ I h) fun v s1 ⟨x, H1, I1, r1, q1⟩ => thn (hb pins s1 σ H1 _ I1 q1) fun u s2 ⟨y, H2, I2, r2, q2⟩ =>
    thn (ho pins s2 σ H2 x y v u _ I2 r1 r2 q2) fun c s3 ⟨z, H3, I3, r3, k, e, q3⟩ => ?_) hm
  subst e
  cases r3
  exact wpAny_truthy_bool ⟨H3, I3, q3⟩
/-- a op1 b op2 c -/
def tChain (r r' : R2) (ta tb tc : TE) : TE := fun σ H Q => ta σ H fun x H1 => tb σ H1 fun y H2 => r x y H2 fun z H3 => ∃ k, z = .bl k ∧
  (if k = true then tc σ H3 fun w' H4 => r' y w' H4 Q else Q (.bl false) H3)
theorem pe_chain {op op' : CmpOp} {r r' : R2} (ho : OpR X (compareOp op) r) (ho' : OpR X (compareOp op') r') (ha : PE X a ta) (hb : PE X b tb) (hc : PE X c tc)
    (hm : lastMarks [op, op'] [b, c] = false := by with_unfolding_all rfl) : PE X (.Compare a [op, op'] [b, c] pos) (tChain r r' ta tb tc) := by
  intro pins s σ H Q I h
  refine Compare_chain (thn (ha pins s σ H _ I h) fun v s1 ⟨x, H1, I1, r1, q1⟩ => chain_link (thn (hb pins s1 σ H1 _ I1 q1) fun u s2 ⟨y, H2, I2, r2, q2⟩ =>
    thn (ho pins s2 σ H2 x y v u _ I2 r1 r2 q2) fun d s3 ⟨z, H3, I3, r3, k, e, q3⟩ => ?_)) hm
  subst e
  cases r3
  refine wpAny_truthy_bool ?_
  cases k with
  | false => exact ite_ff ⟨.bl false, H3, I3, rfl, q3⟩
  | true => exact ite_tt (chain_last (thn (hc pins s3 σ H3 _ I3 q3) fun w' s4 ⟨z', H4, I4, r4, q4⟩ => ho' pins s4 σ H4 y z' u w' Q I4 r2 r4 q4))
theorem pt_chain {op op' : CmpOp} {r r' : R2} (ho : OpR X (compareOp op) r) (ho' : OpR X (compareOp op') r') (ha : PE X a ta) (hb : PE X b tb) (hc : PE X c tc)
    (hm : lastMarks [op, op'] [b, c] = false := by with_unfolding_all rfl) : PT X (.Compare a [op, op'] [b, c] pos) (tTest (tChain r r' ta tb tc)) := by
  intro pins s σ H Q I h
  refine isTrue_chain (thn (ha pins s σ H _ I h) fun v s1 ⟨x, H1, I1, r1, q1⟩ => test_link (thn (hb pins s1 σ H1 _ I1 q1) fun u s2 ⟨y, H2, I2, r2, q2⟩ =>
    thn (ho pins s2 σ H2 x y v u _ I2 r1 r2 q2) fun d s3 ⟨z, H3, I3, r3, k, e, q3⟩ => ?_)) hm
  subst e
  cases r3
  refine wpAny_truthy_bool ?_
  cases k with
  | false =>
    obtain ⟨k', e', q'⟩ := q3
    cases e'
    exact ite_ff ⟨H3, I3, q'⟩
  | true =>
    refine ite_tt (test_last (thn (hc pins s3 σ H3 _ I3 q3) fun w' s4 ⟨z', H4, I4, r4, q4⟩ => thn (ho' pins s4 σ H4 y z' u w' _ I4 r2 r4 q4) fun d' s5 ⟨z2, H5, I5, r5, k2, e2, q5⟩ => ?_))
    subst e2
    cases r5
    exact wpAny_truthy_bool ⟨H5, I5, q5⟩

/-! ### truth -/
/-- a value's truth by the abstract heap -/
def TruV (K : PySem.W.Frag) (x : V) (H : Hp) (k : Bool) : Prop :=
  match x with
  | .non => k = false
  | .bl b => k = b
  | .int i => k = (i != 0)
  | .str y => y.length ≤ sizeLine ∧ k = ((y.length : Int) != 0)
  | .byt y => y.size ≤ sizeLine ∧ k = ((y.size : Int) != 0)
  | .ref p => (∃ xs, SqL K H p xs ∧ k = !xs.isEmpty) ∨ (∃ xs, SqT K H p xs ∧ k = !xs.isEmpty) ∨ ∃ kvs, H p = some (.dK kvs) ∧ k = !kvs.isEmpty
  | _ => False
theorem isEmpty_kv {κ : Type} {kvs : List (κ × V)} {vs : List (κ × Value)} (r : KV kvs vs) : (!vs.isEmpty) = !kvs.isEmpty := by
  cases r <;> rfl
theorem isEmpty_of {xs : List V} {its : List Value} (r : Vals xs its) : (!its.toArray.isEmpty) = !xs.isEmpty := by
  cases r <;> simp
theorem line63 : (sizeLine : Nat) < 2 ^ 63 := by rw [sizeLine_eq]; decide
theorem tru_ok : TruR X (fun x H Q => ∃ k, TruV X.K x H k ∧ Q k H) := by
  intro pins s σ H x v Q I rx h
  obtain ⟨k, e, q⟩ := h
  have hl := line63
  have hs : sizeLine = 16777216 := sizeLine_eq
  cases x with
  | non =>
    cases rx
    have e' : k = false := e
    subst e'
    exact truthy_none ⟨H, I, q⟩
  | bl b =>
    cases rx
    have e' : k = b := e
    subst e'
    exact wpAny_truthy_bool ⟨H, I, q⟩
  | int i =>
    obtain ⟨t, rfl⟩ := rx
    have e' : k = (i != 0) := e
    subst e'
    exact PySem.P.truthy_int ⟨H, I, q⟩
  | str y =>
    obtain ⟨t, rfl⟩ := rx
    obtain ⟨hy, e'⟩ : y.length ≤ sizeLine ∧ k = ((y.length : Int) != 0) := e
    subst e'
    exact PySem.P.truthy_str (by omega) ⟨H, I.tok _, q⟩
  | byt y =>
    obtain ⟨t, rfl⟩ := rx
    obtain ⟨hy, e'⟩ : y.size ≤ sizeLine ∧ k = ((y.size : Int) != 0) := e
    subst e'
    exact PySem.W.truthy_bytes (by omega) ⟨H, I.tok _, q⟩
  | ref p =>
    cases rx
    have e' : (∃ xs, SqL X.K H p xs ∧ k = !xs.isEmpty) ∨ (∃ xs, SqT X.K H p xs ∧ k = !xs.isEmpty) ∨ ∃ kvs, H p = some (.dK kvs) ∧ k = !kvs.isEmpty := e
    rcases e' with ⟨xs, hx, e'⟩ | ⟨xs, hx, e'⟩ | ⟨kvs, hx, e'⟩
    · subst e'
      obtain ⟨its, r, pl, hz⟩ := I.list hx
      have hlen := r.length
      exact wpAny_truthy_list pl.isList (by simp only [List.size_toArray]; omega) ⟨H, I.tok _, by rw [isEmpty_of r]; exact q⟩
    · subst e'
      obtain ⟨its, r, pl, hz⟩ := I.tuple hx
      have hlen := r.length
      exact truthy_tuple pl (by simp only [List.size_toArray]; omega) ⟨H, I.tok _, by rw [isEmpty_of r]; exact q⟩
    · subst e'
      obtain ⟨hz, hS, vs, r, m⟩ : kvs.length ≤ sizeLine ∧ (p == sysModules) = false ∧ ∃ vs, KV kvs vs ∧ s.heap.DictOf (mixKind X.prog X.w) p vs := I.hok p _ hx
      have hlen : kvs.length = vs.length := Paired.length r
      exact wpAny_truthy_dict hS m (by omega) ⟨H, I.tok _, by rw [isEmpty_kv r]; exact q⟩
  | _ => exact (show False from e).elim
/-- any expression whose test is its value's truth (a name, a call, a subscript, a field ..: he by fun _ => rfl) -/
theorem pt_truth (ha : PE X a ta) (he : ∀ whole, isTrue a X.env whole = (do let v ← whole; standAt a.pos; holding [v] (truthy v))) :
    PT X a (fun σ H Q => ta σ H fun x H' => ∃ k, TruV X.K x H' k ∧ Q k H') := by
  intro pins s σ H Q I h
  exact isTrue_plain (thn (ha pins s σ H _ I h) fun v s1 ⟨x, H1, I1, r1, q1⟩ => tru_ok pins s1 σ H1 x v Q I1 r1 q1) (he _)

/-! ### strs and bytes -/
theorem pe_byt {x : List UInt8} {k : Nat} : PE X (.Constant (.bytes x) k pos) (fun _ H Q => Q (.byt x.toArray) H) := fun _ _ _ H _ I h => PySem.W.Constant_bytes ⟨.byt x.toArray, H, I.tok _, ⟨_, rfl⟩, h⟩
theorem op_add_str : OpR X (binaryOp .Add) (fun x y H Q => ∃ i j, x = .str i ∧ y = .str j ∧ i.length + j.length ≤ sizeLine ∧ Q (.str (i ++ j)) H) := by
  intro pins s σ H x y v u Q I rx ry h
  obtain ⟨i, j, rfl, rfl, hz, q⟩ := h
  obtain ⟨t, rfl⟩ := rx
  obtain ⟨t', rfl⟩ := ry
  exact add_str (fun t' tk => ⟨.str (i ++ j), H, I.tok _, ⟨_, rfl⟩, q⟩) hz
theorem iop_add_str : OpR X (inplaceOp .Add) (fun x y H Q => ∃ i j, x = .str i ∧ y = .str j ∧ i.length + j.length ≤ sizeLine ∧ Q (.str (i ++ j)) H) := by
  intro pins s σ H x y v u Q I rx ry h
  obtain ⟨i, j, rfl, rfl, hz, q⟩ := h
  obtain ⟨t, rfl⟩ := rx
  obtain ⟨t', rfl⟩ := ry
  exact iadd_str (fun t' tk => ⟨.str (i ++ j), H, I.tok _, ⟨_, rfl⟩, q⟩) hz
theorem op_add_byt : OpR X (binaryOp .Add) (fun x y H Q => ∃ i j, x = .byt i ∧ y = .byt j ∧ i.size + j.size ≤ 16777216 ∧ Q (.byt (i ++ j)) H) := by
  intro pins s σ H x y v u Q I rx ry h
  obtain ⟨i, j, rfl, rfl, hz, q⟩ := h
  obtain ⟨t, rfl⟩ := rx
  obtain ⟨t', rfl⟩ := ry
  exact PySem.W.KBy.add_bytes hz (fun t' tk => ⟨.byt (i ++ j), H, I.tok _, ⟨_, rfl⟩, q⟩)

def PlainIxT (b : Expr) : Prop := ∀ o i, subscripted b false o i = operate [o, i] (getItem o i)
/-- s[i], 0 ≤ i < len -/
theorem pe_item_str (ha : PE X a ta) (hb : PE X b tb) (hs : PlainIxT b) :
    PE X (.Subscript a b pos) (tOp (fun x y H Q => ∃ z i c, x = .str z ∧ y = .int i ∧ 0 ≤ i ∧ i < 2 ^ 63 ∧ i < z.length ∧ z.cps[i.toNat]? = some c ∧ Q (.str ⟨#[c]⟩) H) ta tb) := by
  intro pins s σ H Q I h
  refine Subscript_ (binT ha hb I h fun v u s2 x y H2 I2 rx ry q => ?_)
  obtain ⟨z, i, c, rfl, rfl, h0, h63, h1, hc, q⟩ := q
  obtain ⟨t, rfl⟩ := rx
  obtain ⟨t', rfl⟩ := ry
  have e : seqIndex? i z.length = some i.toNat := PySem.StrLaws.seqIndex_nonneg h0 h1
  exact tail_any (typeIs_str s2 z t) slot_str_getitem.lookup (getItem_str (c := c) (by
    have e1 : decide (i < -(2 ^ 63 : Int)) = false := decide_eq_false (by omega)
    have e2 : decide (i ≥ 2 ^ 63) = false := decide_eq_false (by omega)
    rw [e1, e2] <;> rfl) (by rw [e]; exact hc) ⟨.str ⟨#[c]⟩, H2, I2.tok _, ⟨_, rfl⟩, q⟩) (hs _ _)
/-- b[i], 0 ≤ i < len -/
theorem pe_item_byt (ha : PE X a ta) (hb : PE X b tb) (hs : PlainIxT b) :
    PE X (.Subscript a b pos) (tOp (fun x y H Q => ∃ (z : List UInt8) (i : Int), x = .byt z.toArray ∧ y = .int i ∧ z.length ≤ sizeLine ∧ 0 ≤ i ∧ i < z.length ∧ Q (.int ((z.getD i.toNat 0).toNat : Nat)) H) ta tb) := by
  intro pins s σ H Q I h
  refine Subscript_ (binT ha hb I h fun v u s2 x y H2 I2 rx ry q => ?_)
  obtain ⟨z, i, rfl, rfl, hz, h0, h1, q⟩ := q
  obtain ⟨t, rfl⟩ := rx
  obtain ⟨t', rfl⟩ := ry
  have hl : sizeLine = 16777216 := sizeLine_eq
  exact tail_any (PySem.W.typeIs_bytes s2 z.toArray t) PySem.W.FB.slot_bytes_getitem.lookup (PySem.W.getItem_bytes (by omega) h0 h1 ⟨.int ((z.getD i.toNat 0).toNat : Nat), H2, I2.tok _, ⟨_, rfl⟩, q⟩) (hs _ _)

/-! ### scalar builtins, by CallR -/
theorem vals1 {x : V} {us : List Value} (r : Vals [x] us) : ∃ u, us = [u] ∧ RelV x u := by
  cases r with
  | cons r1 r2 => cases r2; exact ⟨_, rfl, r1⟩
theorem vals2 {x y : V} {us : List Value} (r : Vals [x, y] us) : ∃ u w', us = [u, w'] ∧ RelV x u ∧ RelV y w' := by
  cases r with
  | cons r1 r2 =>
    cases r2 with
    | cons r3 r4 => cases r4; exact ⟨_, _, rfl, r1, r3⟩
theorem call_abs : CallR X (.builtin "abs") (fun xs H Q => ∃ i, xs = [.int i] ∧ Q (.int (if i < 0 then -i else i)) H) := by
  intro pins s σ H xs us Q I r h
  obtain ⟨i, rfl, q⟩ := h
  obtain ⟨u, rfl, t, rfl⟩ := vals1 r
  exact call_abs_int fun u tk => ⟨.int (if i < 0 then -i else i), H, I.tok _, ⟨_, rfl⟩, q⟩
theorem call_max2 (hc : X.calm = true) : CallR X (.builtin "max") (fun xs H Q => ∃ i j, xs = [.int i, .int j] ∧ Q (.int (if j > i then j else i)) H) := by
  intro pins s σ H xs us Q I r h
  obtain ⟨i, j, rfl, q⟩ := h
  obtain ⟨u, w', rfl, ⟨t, rfl⟩, ⟨t', rfl⟩⟩ := vals2 r
  refine max_two_ints (I.ok.hd hc) fun h' tk k => ⟨_, H, I.kept k, ?_, q⟩
  by_cases hj : j > i
  · rw [if_pos hj, if_pos hj]; exact ⟨_, rfl⟩
  · rw [if_neg hj, if_neg hj]; exact ⟨_, rfl⟩
theorem call_min2 (hc : X.calm = true) : CallR X (.builtin "min") (fun xs H Q => ∃ i j, xs = [.int i, .int j] ∧ Q (.int (if j < i then j else i)) H) := by
  intro pins s σ H xs us Q I r h
  obtain ⟨i, j, rfl, q⟩ := h
  obtain ⟨u, w', rfl, ⟨t, rfl⟩, ⟨t', rfl⟩⟩ := vals2 r
  refine min_two_ints (I.ok.hd hc) fun h' tk k => ⟨_, H, I.kept k, ?_, q⟩
  by_cases hj : j < i
  · rw [if_pos hj, if_pos hj]; exact ⟨_, rfl⟩
  · rw [if_neg hj, if_neg hj]; exact ⟨_, rfl⟩
theorem call_int1 : CallR X (.type "int") (fun xs H Q => (∃ i, xs = [.int i] ∧ Q (.int i) H) ∨ ∃ k, xs = [.bl k] ∧ Q (.int (if k then 1 else 0)) H) := by
  intro pins s σ H xs us Q I r h
  rcases h with ⟨i, rfl, q⟩ | ⟨k, rfl, q⟩
  · obtain ⟨u, rfl, t, rfl⟩ := vals1 r
    exact call_int_int ⟨.int i, H, I, ⟨_, rfl⟩, q⟩
  · obtain ⟨u, rfl, r1⟩ := vals1 r
    cases r1
    exact call_int_bool ⟨.int (if k then 1 else 0), H, I.tok _, ⟨_, rfl⟩, q⟩
theorem call_bool1 : CallR X (.type "bool") (fun xs H Q => (∃ i, xs = [.int i] ∧ Q (.bl (i != 0)) H) ∨ ∃ k, xs = [.bl k] ∧ Q (.bl k) H) := by
  intro pins s σ H xs us Q I r h
  rcases h with ⟨i, rfl, q⟩ | ⟨k, rfl, q⟩
  · obtain ⟨u, rfl, t, rfl⟩ := vals1 r
    exact call_bool_int ⟨.bl (i != 0), H, I, rfl, q⟩
  · obtain ⟨u, rfl, r1⟩ := vals1 r
    cases r1
    exact call_bool_bool ⟨.bl k, H, I, rfl, q⟩
theorem call_str_int : CallR X (.type "str") (fun xs H Q => ∃ i, xs = [.int i] ∧ i.natAbs.log2 < 1920 ∧ Q (.str (toString i)) H) := by
  intro pins s σ H xs us Q I r h
  obtain ⟨i, rfl, hz, q⟩ := h
  obtain ⟨u, rfl, t, rfl⟩ := vals1 r
  exact PySem.P.str_of_int hz ⟨.str _, H, I.tok _, ⟨_, rfl⟩, q⟩
theorem call_ord : CallR X (.builtin "ord") (fun xs H Q => ∃ x, xs = [.str x] ∧ x.length = 1 ∧ Q (.int (x.cps.getD 0 0 : Nat)) H) := by
  intro pins s σ H xs us Q I r h
  obtain ⟨x, rfl, hz, q⟩ := h
  obtain ⟨u, rfl, t, rfl⟩ := vals1 r
  exact ord_of_one hz ⟨.int _, H, I.tok _, ⟨_, rfl⟩, q⟩
theorem call_chr : CallR X (.builtin "chr") (fun xs H Q => ∃ i, xs = [.int i] ∧ 0 ≤ i ∧ i ≤ 1114111 ∧ Q (.str ⟨#[i.toNat]⟩) H) := by
  intro pins s σ H xs us Q I r h
  obtain ⟨i, rfl, h0, h1, q⟩ := h
  obtain ⟨u, rfl, t, rfl⟩ := vals1 r
  exact chr_of_range h0 h1 ⟨.str _, H, I.tok _, ⟨_, rfl⟩, q⟩
/-- len of a str, a bytes, a list, a tuple -/
def LenV (K : PySem.W.Frag) (x : V) (H : Hp) (n : Nat) : Prop :=
  match x with
  | .str y => y.length ≤ sizeLine ∧ n = y.length
  | .byt y => y.size ≤ sizeLine ∧ n = y.size
  | .ref p => (∃ xs, SqL K H p xs ∧ n = xs.length) ∨ ∃ xs, SqT K H p xs ∧ n = xs.length
  | _ => False
theorem call_len : CallR X (.builtin "len") (fun xs H Q => ∃ x n, xs = [x] ∧ LenV X.K x H n ∧ Q (.int n) H) := by
  intro pins s σ H xs us Q I r h
  obtain ⟨x, n, rfl, e, q⟩ := h
  obtain ⟨u, rfl, rx⟩ := vals1 r
  have hl := line63
  have hs : sizeLine = 16777216 := sizeLine_eq
  cases x with
  | str y =>
    obtain ⟨t, rfl⟩ := rx
    obtain ⟨hy, e'⟩ : y.length ≤ sizeLine ∧ n = y.length := e
    subst e'
    exact len_str (by omega) ⟨.int _, H, I.tok _, ⟨_, rfl⟩, q⟩
  | byt y =>
    obtain ⟨t, rfl⟩ := rx
    obtain ⟨hy, e'⟩ : y.size ≤ sizeLine ∧ n = y.size := e
    subst e'
    exact PySem.W.len_bytes (by omega) ⟨.int _, H, I.tok _, ⟨_, rfl⟩, q⟩
  | ref p =>
    cases rx
    have e' : (∃ xs, SqL X.K H p xs ∧ n = xs.length) ∨ ∃ xs, SqT X.K H p xs ∧ n = xs.length := e
    rcases e' with ⟨xs, hx, e'⟩ | ⟨xs, hx, e'⟩
    · subst e'
      obtain ⟨its, r', pl, hz⟩ := I.list hx
      have hlen := r'.length
      exact Calls.call_len_list pl.isList (by simp only [List.size_toArray]; omega) ⟨.int xs.length, H, I.tok _, ⟨_, by simp only [List.size_toArray]; rw [hlen]⟩, q⟩
    · subst e'
      obtain ⟨its, r', pl, hz⟩ := I.tuple hx
      have hlen := r'.length
      exact len_tuple pl (by simp only [List.size_toArray]; omega) ⟨.int xs.length, H, I.tok _, ⟨_, by simp only [List.size_toArray]; rw [hlen]⟩, q⟩
  | _ => exact (show False from e).elim
/-- divmod: a new tuple -/
theorem call_divmod : CallR X (.builtin "divmod") (fun xs H Q => ∃ i j, xs = [.int i, .int j] ∧ CDiv i j ∧ ∀ p, H p = none → Q (.ref p) (upd H p (.tup [.int (i / j), .int (i % j)]))) := by
  intro pins s σ H xs us Q I r h
  obtain ⟨i, j, rfl, ⟨h1, h2⟩, q⟩ := h
  obtain ⟨u, w', rfl, ⟨t, rfl⟩, ⟨t', rfl⟩⟩ := vals2 r
  refine divmod_int (by omega) ?_ (.inl (PyProof.noPylong_small (by omega)))
  rw [Int.fdiv_eq_ediv_of_nonneg i (by omega), Int.fmod_eq_emod_of_nonneg i (by omega)]
  have hn : H s.heap.objs.size = none := I.hok.fresh (Nat.le_refl _)
  refine ⟨.ref s.heap.objs.size, _, ?_, rfl, q _ hn⟩
  refine I.laid (fun b o e => Heap.get?_push_of_some _ e) (Nat.le_refl _) ⟨by simp only [List.length_cons, List.length_nil]; rw [sizeLine_eq]; decide, [.int (i / j) s.toks, .int (i % j) (s.toks + 1)], .cons ⟨_, rfl⟩ (.cons ⟨_, rfl⟩ .nil), ?_⟩
  exact ⟨_, Heap.get?_push_size s.heap rfl, rfl, 0, rfl⟩
end
end L2

namespace L2
open PySem PySem.Spec PyProof.Rows

/-! ### an instance, its attributes a map -/
structure ObjM (h : Heap) (x dx C : Addr) (mA : Str → Option Value) : Prop where
  obj : h.get? x = some (PySem.W.instObj C dx)
  ns : h.Ns1 dx mA
  ne : dx ≠ x

theorem lookIn_ns {h : Heap} {dx : Addr} {mA : Str → Option Value} (n : h.Ns1 dx mA) : ∃ od, h.get? dx = some od ∧ ∀ name, PySem.W.lookIn name od = some (mA name) := by
  obtain ⟨o, es, ep, ho, hd, hk, _, hm⟩ := n
  refine ⟨o, ho, fun name => ?_⟩
  have e := hm name
  unfold nsFind findBy at e
  rw [← Array.find?_toList] at e
  unfold PySem.W.lookIn
  rw [hd]
  dsimp only
  split
  · rename_i y q
    rw [q] at e
    exact congrArg some e
  · rename_i q
    rw [q] at e
    have a : es.toList.any (·.refKey) = false := by
      rw [List.any_eq_false]
      intro y hy
      obtain ⟨z, t, hkey⟩ := hk y (Array.mem_toList_iff.mp hy)
      simp [DictEntry.refKey, hkey]
    have a' : ¬ es.toList.any (·.refKey) = true := by rw [a]; exact Bool.false_ne_true
    rw [if_neg a']
    exact congrArg some e

theorem ObjM.look {h : Heap} {x dx C : Addr} {mA : Str → Option Value} (I : ObjM h x dx C mA) : ∃ od, PySem.W.InstAt h x (PySem.W.instObj C dx) C (some od) ∧ ∀ name, PySem.W.lookIn name od = some (mA name) :=
  let ⟨od, ho, hl⟩ := lookIn_ns I.ns
  ⟨od, ⟨I.obj, rfl, rfl, ho⟩, hl⟩

section
variable {prog : Program} {w : World} {A : Around} {E : Value → Shared → Prop} {s : Shared} {K : PySem.W.Frag} {x dx C f : Addr} {mA : Str → Option Value} {name : Str} {v : Value}

theorem get_map {expr : Bool} {Q : Value → Shared → Prop} (X : K.In s.heap) (I : ObjM s.heap x dx C mA) (hg : PySem.W.plainGet K C name = true) (hh : PySem.W.hasDictIn K C = true)
    (ha : PySem.W.findIn K (.ref C) name = some none) (hv : mA name = some v) (hv' : PySem.W.handedIn v = true) (h : Q v { s with toks := s.toks + 1 }) :
    wpAny (model prog w) A (getAttr (.ref x) name expr) Q E s := by
  obtain ⟨od, J, hl⟩ := I.look
  exact PySem.W.get_value X J (PySem.W.plainGet_of hg).1 (PySem.W.findObj_own hh ha rfl (by rw [hl, hv])) hv' h

theorem get_const {expr : Bool} {a : Value} {Q : Value → Shared → Prop} (X : K.In s.heap) (I : ObjM s.heap x dx C mA) (hg : PySem.W.plainGet K C name = true) (hh : PySem.W.hasDictIn K C = true)
    (ha : PySem.W.findIn K (.ref C) name = some (some a)) (hn : PySem.W.specialIn K a "__get__" = some none) (hc : PySem.W.copiedNames.contains name = false) (hv : mA name = none) (hv' : PySem.W.handedIn a = true)
    (h : Q a { s with toks := s.toks + 1 }) : wpAny (model prog w) A (getAttr (.ref x) name expr) Q E s := by
  obtain ⟨od, J, hl⟩ := I.look
  exact PySem.W.get_value X J (PySem.W.plainGet_of hg).1 (PySem.W.findObj_cls hh ha hn hv' hc (by rw [hl, hv])) hv' h

theorem get_meth {pl : Sem Bool} {Q : Value × List Value → Shared → Prop} (X : K.In s.heap) (I : ObjM s.heap x dx C mA) (hg : PySem.W.plainGet K C name = true)
    (hf : PySem.W.findIn K (.ref C) name = some (some (.ref f))) (ht : PySem.W.isFn K (.ref f) = true) (hv : mA name = none) (h : Q (.ref f, [.ref x]) s) :
    wpAny (model prog w) A (getMethod (.ref x) name pl) Q E s := by
  obtain ⟨od, J, hl⟩ := I.look
  exact PySem.W.method_fn X J (PySem.W.plainGet_of hg).1 (PySem.W.plainGet_of hg).2 hf (beq_iff_eq.mp ht) (by show (PySem.W.lookIn name od).map (·.isSome) = some false; rw [hl, hv]; rfl) h

theorem set_map {ns : List Str} {Q : Unit → Shared → Prop} (X : K.In s.heap) (I : ObjM s.heap x dx C mA)
    (hs : PySem.W.findIn K (.ref C) "__setattr__" = some (some (.builtin "object.__setattr__"))) (hp : PySem.W.plainOver K C = true) (ht : PySem.W.takerIn K C name = some none) (hh : PySem.W.hasDictIn K C = true)
    (hw : PySem.Within mA ns) (hsz : ns.length ≤ sizeLine)
    (h : ∀ h', ObjM h' x dx C (fun y => if y = name then some v else mA y) → Heap.SameBut dx s.heap h' → Q () { s with heap := h', toks := s.toks + 2 }) :
    wpAny (model prog w) A (setAttr (.ref x) name v) Q E s := by
  obtain ⟨od, J, hl⟩ := I.look
  refine PySem.W.set_plain X J hs (PySem.W.osa_open (s := { s with toks := s.toks + 1 }) (r := none) X J hp ht fun b => ?_)
  obtain ⟨cd, hc, hd'⟩ := PySem.W.any_some hh
  have hx : s.heap.get? x = some ⟨.ref C, some dx, .plain, #[]⟩ := I.obj
  refine wpAny_bind (wpAny_pure (wpAny_bind (wpAny_bind (wpAny_loadPart hx (wpAny_bind (PySem.W.Looks.here (s := { s with toks := s.toks + 1 }) (PySem.W.looks_clsIn X hc) ?_))))))
  rw [hd']
  refine wpAny_pure (a := some dx) (wpAny_bind (wpAny_pure (wpAny_bind ?_)))
  refine wpAny_nsSet1 (s := { s with toks := s.toks + 1 }) I.ns fun h' hn2 hs2 => ?_
  obtain ⟨oD, esD, epD, hoD, hdD, hcD⟩ := hn2.count (PySem.Within.cons name v hw)
  refine wpAny_bind (wpAny_lookBehind hoD (by rw [hdD]; exact pastItsLine_dict (Nat.le_trans hcD (by rw [List.length_cons]; omega))) ?_)
  exact wpAny_pure (h _ ⟨(hs2.2 _ (Ne.symm I.ne)).trans I.obj, hn2, I.ne⟩ hs2)

/-- C(..): the dict at the heap's end, the instance behind it; then its __init__ -/
theorem make_map {R : Result → Shared → Prop} {vs : List Value} {kw : List (Str × Value)} (X : K.In s.heap) (hm : PySem.W.makesIn K C = true)
    (hi : PySem.W.findIn K (.ref C) "__init__" = some (some (.ref f))) (hf : PySem.W.typeIn K (.ref f) = some (.type "function"))
    (h : codeAny (model prog w) (A.under (.builtin "type.__call__" ⟨.ref C :: vs, kw⟩)) (.call (.ref f) ⟨.ref (s.heap.objs.size + 1) :: vs, kw⟩) (PySem.W.InitBack (s.heap.objs.size + 1) R)
      { s with heap := (s.heap.push PySem.W.emptyDict).push (PySem.W.instObj C s.heap.objs.size) }) :
    codeAny (model prog w) A (.call (.ref C) ⟨vs, kw⟩) R s := by
  obtain ⟨hh, g, d, t, os⟩ := s
  exact PySem.W.make_core (PySem.W.makes_of X hm) (PySem.W.looks_findIn X hi) (fun self => PySem.W.bind_fn X self hf) (.inl rfl) h
/-- C() where there is no __init__ but object's -/
theorem make_map0 {R : Result → Shared → Prop} (X : K.In s.heap) (hm : PySem.W.makesIn K C = true)
    (hi : PySem.W.findIn K (.ref C) "__init__" = some (some (.builtin "object.__init__")))
    (hb : ∀ self, PySem.W.Looks (model prog w) s.heap (bindSpecial (.builtin "object.__init__") self) (.builtin "object.__init__", [self]))
    (h : codeAny (model prog w) (A.under (.builtin "type.__call__" ⟨[.ref C], []⟩)) (.call (.builtin "object.__init__") ⟨[.ref (s.heap.objs.size + 1)], []⟩) (PySem.W.InitBack (s.heap.objs.size + 1) R)
      { s with heap := (s.heap.push PySem.W.emptyDict).push (PySem.W.instObj C s.heap.objs.size) }) :
    codeAny (model prog w) A (.call (.ref C) ⟨[], []⟩) R s := by
  obtain ⟨hh, g, d, t, os⟩ := s
  exact PySem.W.make_core (PySem.W.makes_of X hm) (PySem.W.looks_findIn X hi) hb (.inr ⟨rfl, rfl⟩) h
end

/-! ### the attributes as a list of pairs -/
def putF (f : Str) (v : V) : List (Str × V) → List (Str × V)
  | [] => [(f, v)]
  | (g, x) :: r => if g = f then (g, v) :: r else (g, x) :: putF f v r
theorem lookup_putF (f g : Str) (v : V) : ∀ fs : List (Str × V), (putF f v fs).lookup g = if g = f then some v else fs.lookup g
  | [] => by
    show List.lookup g [(f, v)] = _
    by_cases h : g = f
    · have hb : (g == f) = true := beq_iff_eq.mpr h
      simp only [List.lookup, hb, if_pos h]
    · have hb : (g == f) = false := beq_eq_false_iff_ne.mpr h
      simp only [List.lookup, hb, if_neg h]
  | (k, x) :: r => by
    have ih := lookup_putF f g v r
    rw [show putF f v ((k, x) :: r) = (if k = f then (k, v) :: r else (k, x) :: putF f v r) from rfl]
    by_cases hk : k = f
    · rw [if_pos hk]
      by_cases h : g = k
      · have hb : (g == k) = true := beq_iff_eq.mpr h
        simp only [List.lookup, hb, if_pos (h.trans hk)]
      · have hb : (g == k) = false := beq_eq_false_iff_ne.mpr h
        simp only [List.lookup, hb, if_neg (fun e : g = f => h (e.trans hk.symm))]
    · rw [if_neg hk]
      by_cases h : g = k
      · have hb : (g == k) = true := beq_iff_eq.mpr h
        simp only [List.lookup, hb, if_neg (fun e : g = f => hk (h.symm.trans e))]
      · have hb : (g == k) = false := beq_eq_false_iff_ne.mpr h
        simp only [List.lookup, hb]
        exact ih
theorem keys_putF (f : Str) (v : V) : ∀ fs : List (Str × V), f ∈ (putF f v fs).map (·.1) ∧ ∀ g, g ∈ fs.map (·.1) → g ∈ (putF f v fs).map (·.1)
  | [] => ⟨by simp [putF], fun g h => by simp at h⟩
  | (k, x) :: r => by
    obtain ⟨i1, i2⟩ := keys_putF f v r
    rw [show putF f v ((k, x) :: r) = (if k = f then (k, v) :: r else (k, x) :: putF f v r) from rfl]
    by_cases hk : k = f
    · rw [if_pos hk]
      subst hk
      exact ⟨by simp, fun g h => by simpa using h⟩
    · rw [if_neg hk]
      refine ⟨?_, fun g h => ?_⟩
      · rw [List.map_cons]
        exact List.mem_cons_of_mem _ i1
      · rw [List.map_cons] at h ⊢
        rcases List.mem_cons.mp h with e | e
        · exact List.mem_cons.mpr (.inl e)
        · exact List.mem_cons_of_mem _ (i2 g e)
theorem length_putF (f : Str) (v : V) : ∀ fs : List (Str × V), (putF f v fs).length ≤ fs.length + 1
  | [] => by simp [putF]
  | (k, x) :: r => by
    have ih := length_putF f v r
    rw [show putF f v ((k, x) :: r) = (if k = f then (k, v) :: r else (k, x) :: putF f v r) from rfl]
    by_cases hk : k = f
    · rw [if_pos hk, List.length_cons, List.length_cons]; omega
    · rw [if_neg hk, List.length_cons, List.length_cons]; omega

theorem RelO.some_of {v : V} {o : Option Value} (r : RelO (some v) o) : ∃ u, o = some u ∧ RelV v u := by
  cases o with
  | none => exact (show False from r).elim
  | some u => exact ⟨u, rfl, r⟩
theorem RelO.none_of {o : Option Value} (r : RelO none o) : o = none := by
  cases o with
  | none => rfl
  | some u => exact (show False from r).elim
theorem handed_of {v : V} {u : Value} (r : RelV v u) : PySem.W.handedIn u = true := by
  cases v with
  | non => cases (show u = Value.none from r); rfl
  | bl b => cases (show u = Value.bool b from r); rfl
  | int i => obtain ⟨t, e⟩ := (show ∃ t, u = Value.int i t from r); cases e; rfl
  | str x => obtain ⟨t, e⟩ := (show ∃ t, u = Value.str x t from r); cases e; rfl
  | byt b => obtain ⟨t, e⟩ := (show ∃ t, u = Value.bytes b t from r); cases e; rfl
  | flt b => obtain ⟨t, e⟩ := (show ∃ t, u = Value.float b t from r); cases e; rfl
  | ref a => cases (show u = Value.ref a from r); rfl
  | ty n => cases (show u = Value.type n from r); rfl

section
variable {P : Program} {w : World} {H H' : Hp} {h h' : Heap} {a C dx : Addr} {fs fs' : List (Str × V)}
theorem ins_get (hok : HOk P w H h) (e : H a = some (.ins C dx fs)) : ∃ mA, ObjM h a dx C mA ∧ (∀ f, RelO (fs.lookup f) (mA f)) ∧ PySem.Within mA (fs.map (·.1)) ∧ fs.length ≤ 1000 ∧ H dx = some (.own a) := by
  obtain ⟨d, z, ne, ob, mA, n, r, q⟩ := (show ObjOk P w H h a (.ins C dx fs) from hok a _ e)
  exact ⟨mA, ⟨ob, n, ne⟩, r, q, z, d⟩
end

/-! ### what of the text a class must have -/
structure Cls (K : PySem.W.Frag) (C : Addr) : Prop where
  pg : PySem.W.plainGet K C Str.empty = true
  hd : PySem.W.hasDictIn K C = true
  po : PySem.W.plainOver K C = true
  sa : PySem.W.findIn K (.ref C) "__setattr__" = some (some (.builtin "object.__setattr__"))
theorem Cls.get {K : PySem.W.Frag} {C : Addr} (c : Cls K C) (f : Str) : PySem.W.plainGet K C f = true := c.pg
/-- no class of it has the name -/
def NoAttr (K : PySem.W.Frag) (C : Addr) (f : Str) : Prop := PySem.W.findIn K (.ref C) f = some none
theorem NoAttr.taker {K : PySem.W.Frag} {C : Addr} {f : Str} (n : NoAttr K C f) : PySem.W.takerIn K C f = some none := by
  unfold PySem.W.takerIn
  rw [show PySem.W.findIn K (.ref C) f = some none from n]
  rfl
/-- a constant of the class -/
structure Con (K : PySem.W.Frag) (C : Addr) (f : Str) (v : V) (u : Value) : Prop where
  at_ : PySem.W.findIn K (.ref C) f = some (some u)
  rel : RelV v u
  get : PySem.W.specialIn K u "__get__" = some none
  cp : PySem.W.copiedNames.contains f = false
/-- a method: a plain def of the class or of one above it -/
structure Meth (K : PySem.W.Frag) (C : Addr) (m : Str) (f : Addr) : Prop where
  at_ : PySem.W.findIn K (.ref C) m = some (some (.ref f))
  fn : PySem.W.isFn K (.ref f) = true
  kp : PySem.W.keepIn K (.ref f) = true

section
variable {X : Cx} {pins : List (Addr × Obj)} {σ : St} {H : Hp} {s : Shared} {a C dx : Addr} {fs : List (Str × V)} {f : Str} {v : V} {A : Around} {E : Value → Shared → Prop}

theorem getattr_ok {b : Bool} {Q : Value → Shared → Prop} (I : Inv X pins σ H s) (e : H a = some (.ins C dx fs)) (c : Cls X.K C) (n : NoAttr X.K C f) (l : fs.lookup f = some v)
    (h : ∀ u s', Inv X pins σ H s' → RelV v u → Q u s') : wpAny (model X.prog X.w) A (getAttr (.ref a) f b) Q E s := by
  obtain ⟨mA, O, r, _, _, _⟩ := ins_get I.hok e
  obtain ⟨u, hu, ru⟩ := RelO.some_of (v := v) (o := mA f) (by rw [← l]; exact r f)
  exact get_map I.kIn O (c.get f) c.hd n hu (handed_of ru) (h u _ (I.tok _) ru)

theorem getcon_ok {b : Bool} {u : Value} {Q : Value → Shared → Prop} (I : Inv X pins σ H s) (e : H a = some (.ins C dx fs)) (c : Cls X.K C) (k : Con X.K C f v u) (l : fs.lookup f = none)
    (h : ∀ s', Inv X pins σ H s' → Q u s') : wpAny (model X.prog X.w) A (getAttr (.ref a) f b) Q E s := by
  obtain ⟨mA, O, r, _, _, _⟩ := ins_get I.hok e
  have hn : mA f = none := RelO.none_of (by rw [← l]; exact r f)
  exact get_const I.kIn O (c.get f) c.hd k.at_ k.get k.cp hn (handed_of k.rel) (h _ (I.tok _))

theorem getmeth_ok {m : Str} {g : Addr} {pl : Sem Bool} {Q : Value × List Value → Shared → Prop} (I : Inv X pins σ H s) (e : H a = some (.ins C dx fs)) (c : Cls X.K C) (k : Meth X.K C m g) (l : fs.lookup m = none)
    (h : Q (.ref g, [.ref a]) s) : wpAny (model X.prog X.w) A (getMethod (.ref a) m pl) Q E s := by
  obtain ⟨mA, O, r, _, _, _⟩ := ins_get I.hok e
  have hn : mA m = none := RelO.none_of (by rw [← l]; exact r m)
  exact get_meth I.kIn O (c.get m) k.at_ k.fn hn h

theorem setattr_ok {y : V} {u : Value} {Q : Unit → Shared → Prop} (I : Inv X pins σ H s) (e : H a = some (.ins C dx fs)) (c : Cls X.K C) (n : NoAttr X.K C f) (hl : fs.length < 1000) (ry : RelV y u)
    (h : ∀ s', Inv X pins σ (upd H a (.ins C dx (putF f y fs))) s' → Q () s') : wpAny (model X.prog X.w) A (setAttr (.ref a) f u) Q E s := by
  obtain ⟨mA, O, r, wi, _, ho⟩ := ins_get I.hok e
  have hz : (fs.map (·.1)).length ≤ sizeLine := by rw [List.length_map, sizeLine_eq]; omega
  refine set_map I.kIn O c.sa c.po n.taker c.hd wi hz fun h' O' sb => h _ ?_
  have hd : ∃ o, h'.get? dx = some o := let ⟨o, _, _, e', _⟩ := O'.ns; ⟨o, e'⟩
  refine I.write (x := a) (e := dx) (by rw [e]; exact True.intro) (.inr ho) (fun b q hb z => (sb.2 b hb).trans z) hd ?_
  refine ⟨by rw [upd_ne O.ne]; exact ho, ?_, O.ne, O'.obj, _, O'.ns, fun g => ?_, fun g hg => ?_⟩
  · have := length_putF f y fs; omega
  · show RelO ((putF f y fs).lookup g) (if g = f then some u else mA g)
    rw [lookup_putF]
    by_cases q : g = f
    · rw [if_pos q, if_pos q]; exact ry
    · rw [if_neg q, if_neg q]; exact r g
  · by_cases q : g = f
    · rw [q]; exact (keys_putF f y fs).1
    · refine (keys_putF f y fs).2 g (wi g fun z => hg ?_)
      show (if g = f then some u else mA g) = none
      rw [if_neg q]; exact z

/-- a new instance, tracked, without attributes -/
theorem Inv.made (I : Inv X pins σ H s) : Inv X pins σ (upd (upd H s.heap.objs.size (.own (s.heap.objs.size + 1))) (s.heap.objs.size + 1) (.ins C s.heap.objs.size []))
    { s with heap := (s.heap.push PySem.W.emptyDict).push (PySem.W.instObj C s.heap.objs.size) } := by
  have e1 : (s.heap.push PySem.W.emptyDict).get? s.heap.objs.size = some PySem.W.emptyDict := Heap.get?_push_size s.heap rfl
  have e2 : ((s.heap.push PySem.W.emptyDict).push (PySem.W.instObj C s.heap.objs.size)).get? (s.heap.objs.size + 1) = some (PySem.W.instObj C s.heap.objs.size) := by
    have := Heap.get?_push_size (s.heap.push PySem.W.emptyDict) (o := PySem.W.instObj C s.heap.objs.size) rfl
    rwa [Heap.size_push] at this
  have e3 : (s.heap.push PySem.W.emptyDict).Ns s.heap.objs.size (fun _ => none) := ⟨PySem.W.emptyDict, #[], _, e1, rfl, (fun e he => absurd he (by simp)), fun _ => rfl⟩
  have I1 := I.laid (a := s.heap.objs.size) (o := .own (s.heap.objs.size + 1)) (h' := s.heap.push PySem.W.emptyDict) (t' := s.toks) (fun b u q => Heap.get?_push_of_some _ q) (Nat.le_refl _) ⟨_, e1⟩
  refine I1.laid (a := s.heap.objs.size + 1) (o := .ins C s.heap.objs.size []) (t' := s.toks) (fun b u q => Heap.get?_push_of_some _ q) (Nat.le_of_eq (Heap.size_push _ _)) ?_
  have ne : s.heap.objs.size ≠ s.heap.objs.size + 1 := Nat.ne_of_lt (Nat.lt_succ_self _)
  refine ⟨by rw [upd_ne ne, upd_same], Nat.zero_le _, ne, e2, fun _ => none, (Heap.Ns1.of_empty e3).at fun o q => Heap.get?_push_of_some _ q, fun _ => True.intro, fun y hy => absurd rfl hy⟩

/-- e.f where nothing but the object is asked: through attributeBase (super) and the last hold -/
theorem attr_of {prog : Program} {w : World} {env : Env} {e : Expr} {f : Str} {pos : Pos} {s : Shared} {Q : Value → Shared → Prop} (hb : attributeBase e f env (eval e env) = eval e env)
    (h : wpAny (model prog w) A (eval e env) (fun o s₁ => wpAny (model prog w) A (getAttr o f true) Q E s₁) E s) : wpAny (model prog w) A (eval (.Attribute e f pos) env) Q E s :=
  Attribute_any_ h (by rw [arm_eval_Attribute, hb])
end

/-! ### readings and rules -/
/-- e.f, an attribute of the instance -/
def tFld (K : PySem.W.Frag) (ta : TE) (f : Str) : TE := fun σ H Q => ta σ H fun x H1 => ∃ a C dx fs v, x = .ref a ∧ H1 a = some (.ins C dx fs) ∧ Cls K C ∧ NoAttr K C f ∧ fs.lookup f = some v ∧ Q v H1
/-- e.f, a constant of the class -/
def tCon (K : PySem.W.Frag) (ta : TE) (f : Str) : TE := fun σ H Q => ta σ H fun x H1 => ∃ a C dx fs v u, x = .ref a ∧ H1 a = some (.ins C dx fs) ∧ Cls K C ∧ Con K C f v u ∧ fs.lookup f = none ∧ Q v H1
/-- e.f = value -/
def sFld (K : PySem.W.Frag) (ta tv : TE) (f : Str) : TS := fun D σ H => tv σ H fun y H1 => ta σ H1 fun x H2 => ∃ a C dx fs, x = .ref a ∧ H2 a = some (.ins C dx fs) ∧ Cls K C ∧ NoAttr K C f ∧ fs.length < 1000 ∧
  D.nx σ (upd H2 a (.ins C dx (putF f y fs)))
/-- an augmented operator on two values -/
def InOp (X : Cx) (op : Operator) (rd : V → V → Hp → VK → Prop) : Prop :=
  ∀ (pins : List (Addr × Obj)) (s : Shared) (σ : St) (H : Hp) (x y : V) (u v : Value) (Q : VK), Inv X pins σ H s → RelV x u → RelV y v → rd x y H Q → wpAny (model X.prog X.w) X.A (inplaceOp op u v) (EP X pins σ Q) X.xe s
/-- e.f op= value -/
def sFldAug (K : PySem.W.Frag) (ta tv : TE) (rd : V → V → Hp → VK → Prop) (f : Str) : TS := fun D σ H => ta σ H fun x H1 => ∃ a C dx fs v, x = .ref a ∧ H1 a = some (.ins C dx fs) ∧ Cls K C ∧ NoAttr K C f ∧ fs.lookup f = some v ∧
  tv σ H1 fun y H2 => rd v y H2 fun z H3 => ∃ dx' fs', H3 a = some (.ins C dx' fs') ∧ fs'.length < 1000 ∧ D.nx σ (upd H3 a (.ins C dx' (putF f z fs')))

section
variable {X : Cx} {o e value : Expr} {f : Str} {pos pos' tpos : Pos} {ta tv : TE}
theorem pe_fld (he : PE X e ta) (hb : attributeBase e f X.env (eval e X.env) = eval e X.env) : PE X (.Attribute e f pos) (tFld X.K ta f) := by
  intro pins s σ H Q I h
  refine attr_of hb (thn (he pins s σ H _ I h) fun u s1 ⟨x, H1, I1, rx, a, C, dx, fs, v, ex, ea, c, n, l, q⟩ => ?_)
  subst ex
  obtain rfl : u = Value.ref a := rx
  exact getattr_ok I1 ea c n l fun u' s2 I2 ru => ⟨v, H1, I2, ru, q⟩
theorem pe_con (he : PE X e ta) (hb : attributeBase e f X.env (eval e X.env) = eval e X.env) : PE X (.Attribute e f pos) (tCon X.K ta f) := by
  intro pins s σ H Q I h
  refine attr_of hb (thn (he pins s σ H _ I h) fun u s1 ⟨x, H1, I1, rx, a, C, dx, fs, v, u0, ex, ea, c, k, l, q⟩ => ?_)
  subst ex
  obtain rfl : u = Value.ref a := rx
  exact getcon_ok I1 ea c k l fun s2 I2 => ⟨v, H1, I2, k.rel, q⟩
theorem ps_fld (ha : PE X o ta) (hv : PE X value tv) (hs : swapsWith value (some (.Attribute o f pos')) pos.line X.env = pure false) : PS X (.Assign [.Attribute o f pos'] value pos) (sFld X.K ta tv f) := by
  intro pins s σ H D I h
  refine plainObj_wpAny_Assign_Attribute (thn (hv pins s σ H _ I h) fun u s1 ⟨y, H1, I1, ry, q⟩ => thn (ha pins s1 σ H1 _ I1 q) fun ov s2 ⟨x, H2, I2, rx, a, C, dx, fs, ex, ea, c, n, l, q2⟩ => ?_) hs
  subst ex
  obtain rfl : ov = Value.ref a := rx
  exact setattr_ok I2 ea c n l ry fun s3 I3 => ⟨σ, _, I3, q2⟩
theorem ps_fldaug {op : Operator} {rd : V → V → Hp → VK → Prop} (ha : PE X o ta) (hv : PE X value tv) (hop : InOp X op rd) : PS X (.AugAssign (.Attribute o f tpos) op value pos) (sFldAug X.K ta tv rd f) := by
  intro pins s σ H D I h
  refine wpAny_AugAssign_AttributeAny (thn (ha pins s σ H _ I h) fun ov s1 ⟨x, H1, I1, rx, a, C, dx, fs, v, ex, ea, c, n, l, q⟩ => ?_)
  subst ex
  obtain rfl : ov = Value.ref a := rx
  refine getattr_ok I1 ea c n l fun u s2 I2 ru => thn (hv pins s2 σ H1 _ I2 q) fun w3 s3 ⟨y, H2, I3, ry, q3⟩ => thn (hop pins s3 σ H2 v y u w3 _ I3 ru ry q3) fun w4 s4 ⟨z, H3, I4, rz, dx', fs', ea', l', q4⟩ => ?_
  exact setattr_ok I4 ea' c n l' rz fun s5 I5 => ⟨σ, _, I5, q4⟩
def rAdd : V → V → Hp → VK → Prop := fun x y H Q => ∃ i j, x = .int i ∧ y = .int j ∧ Q (.int (i + j)) H
def rSub : V → V → Hp → VK → Prop := fun x y H Q => ∃ i j, x = .int i ∧ y = .int j ∧ Q (.int (i - j)) H
theorem in_add : InOp X .Add rAdd := by
  rintro pins s σ H x y u v Q I rx ry ⟨i, j, rfl, rfl, q⟩
  obtain ⟨t, rfl⟩ := (show ∃ t, u = Value.int i t from rx)
  obtain ⟨t', rfl⟩ := (show ∃ t', v = Value.int j t' from ry)
  exact PyProof.Rows.iadd_int ⟨.int (i + j), H, I.tok _, ⟨_, rfl⟩, q⟩
theorem in_sub : InOp X .Sub rSub := by
  rintro pins s σ H x y u v Q I rx ry ⟨i, j, rfl, rfl, q⟩
  obtain ⟨t, rfl⟩ := (show ∃ t, u = Value.int i t from rx)
  obtain ⟨t', rfl⟩ := (show ∃ t', v = Value.int j t' from ry)
  exact PyProof.Rows.isub_int ⟨.int (i - j), H, I.tok _, ⟨_, rfl⟩, q⟩

/-- what is between an instance and its method: the tree of a method call -/
theorem methcall_of {pl : Sem Bool} {m : Str} {apos : Pos} {args : List Expr} {pins : List (Addr × Obj)} {s : Shared} {σ : St} {H : Hp} {Q : Value → Shared → Prop} {te : TE} (he : PE X e te) (I : Inv X pins σ H s)
    (h : te σ H fun x H1 => ∃ a C dx fs g, x = .ref a ∧ H1 a = some (.ins C dx fs) ∧ Cls X.K C ∧ Meth X.K C m g ∧ fs.lookup m = none ∧
      ∀ s1, Inv X pins σ H1 s1 → wpAny (model X.prog X.w) X.A (callWith pos (.ref g) [.ref a] (backTo pos (starEach args X.env)) (backToKw pos (keywordEach [] X.env))) Q X.xe s1)
    (ht : eval (.Call (.Attribute e m apos) args [] pos) X.env = (do
      let ov ← eval e X.env
      standAt apos.atName
      let (f, first) ← holding [ov] (getMethod ov m pl)
      callWith pos f first (backTo pos (starEach args X.env)) (backToKw pos (keywordEach [] X.env)))) :
    wpAny (model X.prog X.w) X.A (eval (.Call (.Attribute e m apos) args [] pos) X.env) Q X.xe s := by
  refine PySem.W.methodCall_KW (pl := pl) (thn (he pins s σ H _ I h) fun u s1 ⟨x, H1, I1, rx, a, C, dx, fs, g, ex, ea, c, k, l, q⟩ => ?_) ht
  subst ex
  obtain rfl : u = Value.ref a := rx
  exact getmeth_ok I1 ea c k l (q s1 I1)
end

/-! ### isinstance -/
section
variable {X : Cx} {pins : List (Addr × Obj)} {σ : St} {H : Hp} {s : Shared} {A : Around} {E : Value → Shared → Prop} {Q : Value → Shared → Prop} {c : Value} {b : Bool}
/-- the type of a value, as the fragment's deciders take it; for an instance its class -/
inductive TyOf (K : PySem.W.Frag) (H : Hp) : V → Value → Prop where
  | non : TyOf K H .non (.type "NoneType")
  | bl (x : Bool) : TyOf K H (.bl x) (.type "bool")
  | int (i : Int) : TyOf K H (.int i) (.type "int")
  | str (x : Str) : TyOf K H (.str x) (.type "str")
  | flt (x : UInt64) : TyOf K H (.flt x) (.type "float")
  | lst {a : Addr} {xs : List V} (e : H a = some (.lst xs)) : TyOf K H (.ref a) (.type "list")
  | frz {a : Addr} {o : Obj} {xs : List V} (e : H a = some (.frz o (.lst xs))) : TyOf K H (.ref a) (.type "list")
  | tup {a : Addr} {xs : List V} (e : H a = some (.tup xs)) : TyOf K H (.ref a) (.type "tuple")
  | dK {a : Addr} {kvs : List (Key × V)} (e : H a = some (.dK kvs)) : TyOf K H (.ref a) (.type "dict")
  | dT {a : Addr} {kvs : List (List Key × V)} (e : H a = some (.dT kvs)) : TyOf K H (.ref a) (.type "dict")
  | ins {a C dx : Addr} {fs : List (Str × V)} (e : H a = some (.ins C dx fs)) (cl : Cls K C) (ha : PySem.W.findIn K (.ref C) "__class__" = some (some (.builtin "object.__class__")))
      (hn : PySem.W.specialIn K (.builtin "object.__class__") "__get__" = some (some (.builtin "getset_descriptor.__get__"))) (htk : PySem.W.takesIn K (.builtin "object.__class__") = some true)
      (hm : PySem.W.mroIn K C (.type "object") = some true) : TyOf K H (.ref a) (.ref C)
/-- isinstance(x, c) for one class c, a built-in or an own one: kitOne's answer -/
theorem isinst_ok {x : V} {u t : Value} (I : Inv X pins σ H s) (rx : RelV x u) (ty : TyOf X.K H x t) (e : PySem.W.kitOne X.K t c = some b) (h : ∀ tk, Q (.bool b) { s with toks := tk }) :
    wpAny (model X.prog X.w) A (call (.builtin "isinstance") [u, c]) Q E s := by
  cases ty with
  | non => cases (show u = Value.none from rx); exact PySem.W.kia_one PySem.W.kitx_none I.kIn True.intro e (fun z => nomatch z) h
  | bl y => cases (show u = Value.bool y from rx); exact PySem.W.kia_one PySem.W.kitx_bool I.kIn True.intro e (fun z => nomatch z) h
  | int i => obtain ⟨t, q⟩ := (show ∃ t, u = Value.int i t from rx); cases q; exact PySem.W.kia_one PySem.W.kitx_int I.kIn True.intro e (fun z => nomatch z) h
  | str y => obtain ⟨t, q⟩ := (show ∃ t, u = Value.str y t from rx); cases q; exact PySem.W.kia_one PySem.W.kitx_str I.kIn True.intro e (fun z => nomatch z) h
  | flt y => obtain ⟨t, q⟩ := (show ∃ t, u = Value.float y t from rx); cases q; exact PySem.W.kia_one PySem.W.kitx_float I.kIn True.intro e (fun z => nomatch z) h
  | @lst a xs ea =>
    cases (show u = Value.ref a from rx)
    obtain ⟨_, _, n, _, h1⟩ := (show ObjOk X.prog X.w H s.heap a (.lst xs) from I.hok a _ ea)
    exact PySem.W.kia_one PySem.W.kitx_list I.kIn ⟨_, h1, rfl⟩ e (fun z => nomatch z) h
  | @frz a ob xs ea =>
    cases (show u = Value.ref a from rx)
    obtain ⟨_, _, _, n, _, h1⟩ := (show ObjOk X.prog X.w H s.heap a (.frz ob (.lst xs)) from I.hok a _ ea)
    exact PySem.W.kia_one PySem.W.kitx_list I.kIn ⟨_, h1, rfl⟩ e (fun z => nomatch z) h
  | @tup a xs ea =>
    cases (show u = Value.ref a from rx)
    obtain ⟨_, _, _, p⟩ := (show ObjOk X.prog X.w H s.heap a (.tup xs) from I.hok a _ ea)
    obtain ⟨o, h1, h2, _⟩ := p
    exact PySem.W.kia_one PySem.W.kitx_tuple I.kIn ⟨o, h1, h2⟩ e (fun z => nomatch z) h
  | @dK a kvs ea =>
    cases (show u = Value.ref a from rx)
    obtain ⟨_, _, vs, _, p⟩ := (show ObjOk X.prog X.w H s.heap a (.dK kvs) from I.hok a _ ea)
    obtain ⟨o, es, ep, h1, h2, _⟩ := p
    exact PySem.W.kia_one PySem.W.kitx_dict I.kIn ⟨o, h1, h2.1⟩ e (fun z => nomatch z) h
  | @dT a kvs ea =>
    cases (show u = Value.ref a from rx)
    obtain ⟨_, _, xs, _, o, es, ep, h1, h2, _⟩ := (show ObjOk X.prog X.w H s.heap a (.dT kvs) from I.hok a _ ea)
    exact PySem.W.kia_one PySem.W.kitx_dict I.kIn ⟨o, h1, h2.1⟩ e (fun z => nomatch z) h
  | @ins a C dx fs ea cl ha hn htk hm =>
    cases (show u = Value.ref a from rx)
    obtain ⟨mA, O, _⟩ := ins_get I.hok ea
    obtain ⟨od, J, _⟩ := O.look
    exact PySem.W.kia_one (PySem.W.kitx_own (cl.get _) cl.hd ha hn htk hm) I.kIn J e (fun z => nomatch z) h
end
end L2

namespace L2
open PySem PySem.Spec PyProof.Rows

/-! ### room -/
structure Room (k : Nat) (A : Around) : Prop where
  hd : A.handled = none
  dp : A.depth + 3 * k + 5 < recursionLimit
  un : A.units + 16 * k + 200 < cLine
theorem Room.mono {j k : Nat} {A : Around} (r : Room k A) (h : j ≤ k) : Room j A := ⟨r.hd, by have := r.dp; omega, by have := r.un; omega⟩
theorem Room.deeper {k : Nat} {A : Around} (r : Room (k + 1) A) (env : Env) : Room k (A.deeper env) :=
  ⟨r.hd, by have := r.dp; show A.depth + 1 + 3 * k + 5 < _; omega, by have := r.un; show A.units + 3 + 16 * k + 200 < _; omega⟩
theorem Room.in1 {k : Nat} {A : Around} (r : Room (k + 1) A) : Room k A.in1 :=
  ⟨r.hd, by have := r.dp; show A.depth + 3 * k + 5 < _; omega, by have := r.un; show A.units + 1 + 16 * k + 200 < _; omega⟩
theorem make_depth {A : Around} {C : Addr} {us : List Value} {kw : List (Str × Value)} : (A.under (.builtin "type.__call__" ⟨.ref C :: us, kw⟩)).depth = A.depth + 1 := by
  first | rfl | simp [Around.under, Code.weight, Code.isCreation, Code.isGuard, Code.isCaller, Code.frames, Code.isFrame, guardIds]
theorem make_units {A : Around} {C : Addr} {us : List Value} {kw : List (Str × Value)} : (A.under (.builtin "type.__call__" ⟨.ref C :: us, kw⟩)).units = A.units + 1 := by
  first | rfl | simp [Around.under, Code.cUnits, Code.frames, Code.isFrame]
theorem Room.make {k : Nat} {A : Around} (r : Room (k + 1) A) (C : Addr) (us : List Value) (kw : List (Str × Value)) : Room k (A.under (.builtin "type.__call__" ⟨.ref C :: us, kw⟩)) :=
  ⟨r.hd, by have := r.dp; rw [make_depth]; omega, by have := r.un; rw [make_units]; omega⟩
theorem Room.depth {k : Nat} {A : Around} (r : Room k A) : A.depth < recursionLimit := by have := r.dp; omega
theorem Room.units {k : Nat} {A : Around} (r : Room k A) : A.units + 64 < cLine := by have := r.un; omega
theorem Room.units0 {k : Nat} {A : Around} (r : Room k A) : A.units < cLine := by have := r.un; omega

/-! ### argument lists and displays -/
def tNil : TA := fun _ H Q => Q [] H
def tCons (ta : TE) (tr : TA) : TA := fun σ H Q => ta σ H fun x H1 => tr σ H1 fun xs H2 => Q (x :: xs) H2
section
variable {X : Cx} {e : Expr} {es : List Expr} {te : TE} {t : TA} {pos : Pos}
theorem pa_nil : PA X [] tNil := fun _ _ _ _ H Q I h => Calls.spliced_nil ⟨[], H, I, .nil, h⟩
theorem pa_cons (ha : PE X e te) (hr : PA X es t) (hs : starEach (e :: es) X.env = (false, eval e X.env) :: starEach es X.env := by rfl) : PA X (e :: es) (tCons te t) := by
  intro pos pins s σ H Q I h
  rw [hs]
  show wpAny _ _ (spliced ((false, eval e X.env) :: backTo pos (starEach es X.env))) _ _ s
  refine Calls.spliced_cons (thn (ha pins s σ H _ I h) fun u s1 ⟨x, H1, I1, r1, q1⟩ => ?_)
  exact thn (hr pos pins s1 σ H1 _ I1 q1) fun us s2 ⟨xs, H2, I2, r2, q2⟩ => ⟨x :: xs, H2, I2, .cons r1 r2, q2⟩

/-- a tuple, a list of written items -/
def tTup (t : TA) : TE := fun σ H Q => t σ H fun xs H1 => xs.length ≤ sizeLine ∧ ∀ p, H1 p = none → Q (.ref p) (upd H1 p (.tup xs))
def tLst (t : TA) : TE := fun σ H Q => t σ H fun xs H1 => xs.length ≤ sizeLine ∧ ∀ p, H1 p = none → Q (.ref p) (upd H1 p (.lst xs))
theorem pe_tup {x1} (h : PA X es t) : PE X (.Tuple es x1 pos) (tTup t) := by
  intro pins s σ H Q I hq
  refine wpAny_Tuple_spliced (thn (h pos pins s σ H _ I hq) fun us s1 ⟨xs, H1, I1, r, z, q⟩ => ⟨by rw [← r.length]; exact z, ?_⟩)
  have hf : H1 s1.heap.objs.size = none := I1.hok.fresh (Nat.le_refl _)
  refine ⟨.ref s1.heap.objs.size, upd H1 s1.heap.objs.size (.tup xs), I1.laid (t' := s1.toks) (fun b u e => Heap.get?_push_of_some _ e) (Nat.le_refl _) ?_, rfl, q _ hf⟩
  exact ⟨z, us, r, ⟨_, Heap.get?_push_size _ rfl, rfl, _, rfl⟩⟩
theorem pe_lst (h : PA X es t) : PE X (.List es pos) (tLst t) := by
  intro pins s σ H Q I hq
  refine wpAny_List_spliced (thn (h pos pins s σ H _ I hq) fun us s1 ⟨xs, H1, I1, r, z, q⟩ => ⟨by rw [← r.length]; exact z, ?_⟩)
  have hf : H1 s1.heap.objs.size = none := I1.hok.fresh (Nat.le_refl _)
  refine ⟨.ref s1.heap.objs.size, upd H1 s1.heap.objs.size (.lst xs), I1.laid (t' := s1.toks) (fun b u e => Heap.get?_push_of_some _ e) (Nat.le_refl _) ?_, rfl, q _ hf⟩
  exact ⟨z, us, 0, r, Heap.get?_push_size _ rfl⟩
end

/-! ### what a def promises -/
/-- a def's promise: the bound arguments in the parameters' order, the heap, the wanted end, the wanted exception -/
abbrev Sp := List V → Hp → VK → XK → Prop
/-- how an exception lies behind a call (file 08 gives it): the callers' frames, abstract heap and state ahead of the call, the wish, the exception, the state -/
abbrev CXT := List Env → Hp → Shared → XK → Value → Shared → Prop

/-- the state at a call -/
structure Env0 (P : Program) (w : World) (K : PySem.W.Frag) (mg : Str → Option Value) (base : Heap) (A : Around) (outer : List Env) (s : Shared) (H : Hp) : Prop where
  frames : A.frames = some outer
  mod : Mod K mg base
  bs : ∀ b o, base.get? b = some o → s.heap.get? b = some o ∧ H b = none
  bsz : base.objs.size ≤ s.heap.objs.size
  funs : s.heap.FunFrames base outer
  frf : ∀ b ∈ frs outer, H b = none
  hok : HOk P w H s.heap
  bare : AllBare s.gens
/-- a call's end -/
def CE (outer : List Env) (P : Program) (w : World) (H : Hp) (s : Shared) (Q : VK) (u : Value) (s' : Shared) : Prop :=
  ∃ v H', s'.os = s.os ∧ AllBare s'.gens ∧ Un (frs outer) [] H H' s.heap s'.heap ∧ HOk P w H' s'.heap ∧ RelV v u ∧ Q v H'
def CR (CX : CXT) (outer : List Env) (P : Program) (w : World) (H : Hp) (s : Shared) (Q : VK) (E : XK) (r : Result) (s' : Shared) : Prop :=
  match r with
  | .ok (.ret u) => CE outer P w H s Q u s'
  | .ok _ => False
  | .error e => CX outer H s E e s'
structure FnOk (P : Program) (w : World) (K : PySem.W.Frag) (mg : Str → Option Value) (base : Heap) (CX : CXT) (k : Nat) (f : Addr) (fd : FuncData) (ps : List Str) (sp : Sp) : Prop where
  len : ∀ vs H Q E, sp vs H Q E → vs.length = ps.length
  run : ∀ (A : Around) (outer : List Env) (s : Shared) (H : Hp) (args : Args) (us : List Value) (vs : List V) (Q : VK) (E : XK), Room k A → Env0 P w K mg base A outer s H → BindsTo s fd args (ps.zip us) → Vals vs us → sp vs H Q E →
    codeAny (model P w) A (.call (.ref f) args) (CR CX outer P w H s Q E) s
theorem FnOk.mono {P : Program} {w : World} {K : PySem.W.Frag} {mg : Str → Option Value} {base : Heap} {CX : CXT} {j k : Nat} {f : Addr} {fd : FuncData} {ps : List Str} {sp : Sp} (F : FnOk P w K mg base CX j f fd ps sp) (h : j ≤ k) :
    FnOk P w K mg base CX k f fd ps sp := ⟨F.len, fun A outer s H args us vs Q E hr => F.run A outer s H args us vs Q E (hr.mono h)⟩
/-- a weaker promise -/
theorem FnOk.imp {P : Program} {w : World} {K : PySem.W.Frag} {mg : Str → Option Value} {base : Heap} {CX : CXT} {k : Nat} {f : Addr} {fd : FuncData} {ps : List Str} {sp sp' : Sp} (F : FnOk P w K mg base CX k f fd ps sp)
    (h : ∀ vs H Q E, sp' vs H Q E → sp vs H Q E) : FnOk P w K mg base CX k f fd ps sp' :=
  ⟨fun vs H Q E q => F.len vs H Q E (h _ _ _ _ q), fun A outer s H args us vs Q E hr he hb hv hs => F.run A outer s H args us vs Q E hr he hb hv (h _ _ _ _ hs)⟩

theorem Env0.make {P : Program} {w : World} {K : PySem.W.Frag} {mg : Str → Option Value} {base : Heap} {A : Around} {outer : List Env} {s : Shared} {H : Hp} (e : Env0 P w K mg base A outer s H) (C : Addr) (us : List Value) (kw : List (Str × Value)) :
    Env0 P w K mg base (A.under (.builtin "type.__call__" ⟨.ref C :: us, kw⟩)) outer s H := ⟨by first | exact e.frames | (simpa [Around.under, Code.envs, Code.isFrame, pushEnvs] using e.frames), e.mod, e.bs, e.bsz, e.funs, e.frf, e.hok, e.bare⟩
theorem Env0.in1 {P : Program} {w : World} {K : PySem.W.Frag} {mg : Str → Option Value} {base : Heap} {A : Around} {outer : List Env} {s : Shared} {H : Hp} (e : Env0 P w K mg base A outer s H) :
    Env0 P w K mg base A.in1 outer s H := ⟨e.frames, e.mod, e.bs, e.bsz, e.funs, e.frf, e.hok, e.bare⟩

section
variable {X : Cx} {pins : List (Addr × Obj)} {σ : St} {H : Hp} {s s' : Shared}
/-- from a body: what a callee wants -/
theorem Inv.env0 (I : Inv X pins σ H s) : Env0 X.prog X.w X.K X.mg X.base X.A X.stack s H :=
  ⟨I.ok.frames, I.ok.mod, I.bs, Nat.le_trans I.ok.bsz I.sz, I.stack, I.stkFree, I.hok, I.bare⟩
/-- behind a call -/
theorem Inv.after {Q : VK} {u : Value} (I : Inv X pins σ H s) (h : CE X.stack X.prog X.w H s Q u s') : EP X pins σ Q u s' := by
  obtain ⟨v, H', os, bare, un, hok, r, q⟩ := h
  obtain ⟨hh, g, d, t, os'⟩ := s'
  obtain rfl : os' = s.os := os
  exact ⟨v, H', I.call (h' := hh) (g' := g) (d' := d) (t' := t) (ch := []) un hok bare (fun b z => absurd z (by simp)), r, q⟩
end

/-! ### calls -/
/-- f(..): the written arguments, then the defaults dvs; E: what is wanted of an exception -/
def tCall (sp : Sp) (dvs : List V) (E : XK) (t : TA) : TE := fun σ H Q => t σ H fun vs H1 => sp (vs ++ dvs) H1 Q E
/-- o.m(..) of an instance of the class at C -/
def tMeth (C : Addr) (m : Str) (sp : Sp) (dvs : List V) (E : XK) (ta : TE) (t : TA) : TE := fun σ H Q => ta σ H fun x H1 => ∃ a dx fs, x = .ref a ∧ H1 a = some (.ins C dx fs) ∧ fs.lookup m = none ∧
  t σ H1 fun vs H2 => sp (x :: (vs ++ dvs)) H2 Q E
/-- C(..): a new instance and its dict, then __init__ -/
def tMake (C : Addr) (sp : Sp) (dvs : List V) (E : XK) (t : TA) : TE := fun σ H Q => t σ H fun vs H1 => ∀ x dx, H1 x = none → H1 dx = none → dx ≠ x →
  sp (.ref x :: (vs ++ dvs)) (upd (upd H1 dx (.own x)) x (.ins C dx [])) (fun v H2 => v = .non ∧ Q (.ref x) H2) E

/-- how the parameters are bound: us the positional arguments, kw the keywords' values by name, ds the defaults that fill up -/
def Binds (K : PySem.W.Frag) (fd : FuncData) (ps : List Str) (ds : List Value) : Prop :=
  ∀ (s : Shared) (us : List Value), K.In s.heap → (us ++ ds).length = ps.length → BindsTo s fd ⟨us, []⟩ (ps.zip (us ++ ds))
/-- every parameter is given -/
theorem Binds.all {K : PySem.W.Frag} {fd : FuncData} {ps : List Str} (h : ∀ us : List Value, us.length = ps.length → bindArgs fd ⟨us, []⟩ = pure (ps.zip us)) : Binds K fd ps [] := fun s us _ hl => by
  rw [List.append_nil] at hl ⊢
  exact .of_eq (h us hl)

/-- an exception of a callee reaches what this body wants of exceptions -/
def Passes (CX : CXT) (X : Cx) (E : XK) : Prop := ∀ (pins : List (Addr × Obj)) (σ : St) (H : Hp) (s : Shared) (e : Value) (s' : Shared), Inv X pins σ H s → CX X.stack H s E e s' → X.xe e s'

section
variable {X : Cx} {CX : CXT} {k : Nat} {f C : Addr} {fd : FuncData} {ps : List Str} {sp : Sp} {dvs : List V} {ds : List Value} {E : XK} {x m : Str} {p pos apos : Pos} {e o : Expr} {es : List Expr} {ta : TE} {t : TA}

/-- the callee runs -/
theorem run_fn {pins : List (Addr × Obj)} {σ : St} {H : Hp} {s : Shared} {Q : VK} {us : List Value} {vs : List V} (F : FnOk X.prog X.w X.K X.mg X.base CX k f fd ps sp) (hr : Room k X.A) (hb : Binds X.K fd ps ds) (hd : Vals dvs ds) (hx : Passes CX X E)
    (I : Inv X pins σ H s) (r : Vals vs us) (h : sp (vs ++ dvs) H Q E) : wpAny (model X.prog X.w) X.A (call (.ref f) us) (EP X pins σ Q) X.xe s := by
  have r2 : Vals (vs ++ dvs) (us ++ ds) := r.append hd
  have hl : (us ++ ds).length = ps.length := by rw [← r2.length]; exact F.len _ _ _ _ h
  refine wpAny_call (codeAny_mono (F.run X.A X.stack s H ⟨us, []⟩ (us ++ ds) (vs ++ dvs) Q E hr I.env0 (hb s us I.kIn hl) r2 h) fun r s' hq => ?_)
  cases r with
  | error e => exact hx pins σ H s e s' I hq
  | ok fl =>
    cases fl with
    | ret u => exact I.after hq
    | next => exact False.elim hq
    | brk => exact False.elim hq
    | cont => exact False.elim hq

theorem pe_call (F : FnOk X.prog X.w X.K X.mg X.base CX k f fd ps sp) (hr : Room k X.A) (hg : Gl X x) (hm : X.mg x = some (.ref f)) (hk : PySem.W.keepIn X.K (.ref f) = true) (hb : Binds X.K fd ps ds) (hd : Vals dvs ds) (hx : Passes CX X E)
    (ha : PA X (e :: es) t) (hdb : (x == ("__debug__" : Str)) = false := by decide) (he : starEach (e :: es) X.env = (false, eval e X.env) :: starEach es X.env := by rfl) (hpl : (backTo pos (starEach es X.env)).any (·.1) = false := by rfl) :
    PE X (.Call (.Name x p) (e :: es) [] pos) (tCall sp dvs E t) := by
  intro pins s σ H Q I h
  refine wpAny_Call_Name_kw (ld_glob I hg hm ?_ hdb)
  refine PySem.W.callWith_K (h₀ := X.base) I.ok.mod.kin hk (thn (ha pos pins s σ H _ I h) fun us s1 ⟨vs, H1, I1, r, q⟩ => ⟨I1.kIn, ?_⟩) he hpl
  exact run_fn F hr hb hd hx I1 r q
theorem pe_call0 (F : FnOk X.prog X.w X.K X.mg X.base CX k f fd ps sp) (hr : Room k X.A) (hg : Gl X x) (hm : X.mg x = some (.ref f)) (hk : PySem.W.keepIn X.K (.ref f) = true) (hb : Binds X.K fd ps ds) (hd : Vals dvs ds) (hx : Passes CX X E)
    (hdb : (x == ("__debug__" : Str)) = false := by decide) : PE X (.Call (.Name x p) [] [] pos) (tCall sp dvs E tNil) := by
  intro pins s σ H Q I h
  refine wpAny_Call_Name_kw (ld_glob I hg hm ?_ hdb)
  exact PySem.W.callWith_K0 I.kIn hk (run_fn (us := []) F hr hb hd hx I .nil h)

/-- o.m(e, ..) -/
theorem pe_meth {pl : Sem Bool} (he : PE X o ta) (c : Cls X.K C) (hm : Meth X.K C m f) (F : FnOk X.prog X.w X.K X.mg X.base CX k f fd ps sp) (hr : Room k X.A) (hb : Binds X.K fd ps ds) (hd : Vals dvs ds) (hx : Passes CX X E) (ha : PA X (e :: es) t)
    (hst : starEach (e :: es) X.env = (false, eval e X.env) :: starEach es X.env := by rfl) (hpl : (backTo pos (starEach es X.env)).any (·.1) = false := by rfl)
    (ht : eval (.Call (.Attribute o m apos) (e :: es) [] pos) X.env = (do
      let ov ← eval o X.env
      standAt apos.atName
      let (f, first) ← holding [ov] (getMethod ov m pl)
      callWith pos f first (backTo pos (starEach (e :: es) X.env)) (backToKw pos (keywordEach [] X.env))) := by rfl) :
    PE X (.Call (.Attribute o m apos) (e :: es) [] pos) (tMeth C m sp dvs E ta t) := by
  intro pins s σ H Q I h
  refine PySem.W.methodCall_KW (pl := pl) (thn (he pins s σ H _ I h) fun u s1 ⟨x, H1, I1, rx, a, dx, fs, ex, ea, l, q⟩ => ?_) ht
  subst ex
  obtain rfl : u = Value.ref a := rx
  refine getmeth_ok I1 ea c hm l ?_
  refine PySem.W.callWith_K (first := [.ref a]) (h₀ := X.base) I.ok.mod.kin hm.kp (thn (ha pos pins s1 σ H1 _ I1 q) fun us s2 ⟨vs, H2, I2, r, q2⟩ => ⟨I2.kIn, ?_⟩) hst hpl
  exact run_fn (us := .ref a :: us) (vs := .ref a :: vs) F hr hb hd hx I2 (.cons rfl r) q2
/-- o.m() -/
theorem pe_meth0 {pl : Sem Bool} (he : PE X o ta) (c : Cls X.K C) (hm : Meth X.K C m f) (F : FnOk X.prog X.w X.K X.mg X.base CX k f fd ps sp) (hr : Room k X.A) (hb : Binds X.K fd ps ds) (hd : Vals dvs ds) (hx : Passes CX X E)
    (ht : eval (.Call (.Attribute o m apos) [] [] pos) X.env = (do
      let ov ← eval o X.env
      standAt apos.atName
      let (f, first) ← holding [ov] (getMethod ov m pl)
      callWith pos f first (backTo pos (starEach [] X.env)) (backToKw pos (keywordEach [] X.env))) := by rfl) :
    PE X (.Call (.Attribute o m apos) [] [] pos) (tMeth C m sp dvs E ta tNil) := by
  intro pins s σ H Q I h
  refine PySem.W.methodCall_KW (pl := pl) (thn (he pins s σ H _ I h) fun u s1 ⟨x, H1, I1, rx, a, dx, fs, ex, ea, l, q⟩ => ?_) ht
  subst ex
  obtain rfl : u = Value.ref a := rx
  refine getmeth_ok I1 ea c hm l ?_
  exact PySem.W.callWith_K0 (first := [.ref a]) I1.kIn hm.kp (run_fn (us := [.ref a]) (vs := [.ref a]) F hr hb hd hx I1 (.cons rfl .nil) q)

/-- what a class must have to be made -/
structure Mk (K : PySem.W.Frag) (C f : Addr) : Prop where
  makes : PySem.W.makesIn K C = true
  init : PySem.W.findIn K (.ref C) "__init__" = some (some (.ref f))
  fn : PySem.W.isFn K (.ref f) = true
  kp : PySem.W.keepIn K (.ref C) = true

theorem run_make {pins : List (Addr × Obj)} {σ : St} {H : Hp} {s : Shared} {Q : VK} {us : List Value} {vs : List V} (M : Mk X.K C f) (F : FnOk X.prog X.w X.K X.mg X.base CX k f fd ps sp) (hr : Room (k + 1) X.A) (hb : Binds X.K fd ps ds) (hd : Vals dvs ds)
    (hx : Passes CX X E) (I : Inv X pins σ H s) (r : Vals vs us)
    (h : ∀ x dx, H x = none → H dx = none → dx ≠ x → sp (.ref x :: (vs ++ dvs)) (upd (upd H dx (.own x)) x (.ins C dx [])) (fun v H2 => v = .non ∧ Q (.ref x) H2) E) :
    wpAny (model X.prog X.w) X.A (call (.ref C) us) (EP X pins σ Q) X.xe s := by
  have hq := h (s.heap.objs.size + 1) s.heap.objs.size (I.hok.fresh (Nat.le_succ _)) (I.hok.fresh (Nat.le_refl _)) (Nat.ne_of_lt (Nat.lt_succ_self _))
  have I2 := Inv.made (C := C) I
  have r2 : Vals (V.ref (s.heap.objs.size + 1) :: (vs ++ dvs)) (Value.ref (s.heap.objs.size + 1) :: (us ++ ds)) := .cons rfl (r.append hd)
  have hl : (Value.ref (s.heap.objs.size + 1) :: us ++ ds).length = ps.length := by
    have e := r2.length
    rw [F.len _ _ _ _ hq] at e
    exact e.symm
  refine wpAny_call (make_map (f := f) I.kIn M.makes M.init (beq_iff_eq.mp M.fn) (codeAny_mono (F.run _ X.stack _ _ ⟨Value.ref (s.heap.objs.size + 1) :: us, []⟩ (Value.ref (s.heap.objs.size + 1) :: (us ++ ds)) _ _ E (hr.make C us [])
    (I2.env0.make C us []) (hb _ (Value.ref (s.heap.objs.size + 1) :: us) I2.kIn hl) r2 hq) fun r s' hq' => ?_))
  cases r with
  | error e => exact hx pins σ _ _ e s' I2 hq'
  | ok fl =>
    cases fl with
    | ret u =>
      obtain ⟨v, H', I3, rv, ev, q3⟩ := I2.after hq'
      subst ev
      exact ⟨rv, ⟨V.ref (s.heap.objs.size + 1), H', I3, rfl, q3⟩⟩
    | next => exact False.elim hq'
    | brk => exact False.elim hq'
    | cont => exact False.elim hq'
theorem pe_make (M : Mk X.K C f) (F : FnOk X.prog X.w X.K X.mg X.base CX k f fd ps sp) (hr : Room (k + 1) X.A) (hg : Gl X x) (hm : X.mg x = some (.ref C)) (hb : Binds X.K fd ps ds) (hd : Vals dvs ds) (hx : Passes CX X E)
    (ha : PA X (e :: es) t) (hdb : (x == ("__debug__" : Str)) = false := by decide) (he : starEach (e :: es) X.env = (false, eval e X.env) :: starEach es X.env := by rfl) (hpl : (backTo pos (starEach es X.env)).any (·.1) = false := by rfl) :
    PE X (.Call (.Name x p) (e :: es) [] pos) (tMake C sp dvs E t) := by
  intro pins s σ H Q I h
  refine wpAny_Call_Name_kw (ld_glob I hg hm ?_ hdb)
  refine PySem.W.callWith_K (h₀ := X.base) I.ok.mod.kin M.kp (thn (ha pos pins s σ H _ I h) fun us s1 ⟨vs, H1, I1, r, q⟩ => ⟨I1.kIn, ?_⟩) he hpl
  exact run_make M F hr hb hd hx I1 r q
theorem pe_make0 (M : Mk X.K C f) (F : FnOk X.prog X.w X.K X.mg X.base CX k f fd ps sp) (hr : Room (k + 1) X.A) (hg : Gl X x) (hm : X.mg x = some (.ref C)) (hb : Binds X.K fd ps ds) (hd : Vals dvs ds) (hx : Passes CX X E)
    (hdb : (x == ("__debug__" : Str)) = false := by decide) : PE X (.Call (.Name x p) [] [] pos) (tMake C sp dvs E tNil) := by
  intro pins s σ H Q I h
  refine wpAny_Call_Name_kw (ld_glob I hg hm ?_ hdb)
  exact PySem.W.callWith_K0 I.kIn M.kp (run_make (us := []) M F hr hb hd hx I .nil h)
end

/-! ### keywords -/
/-- the values of the keywords, from the left -/
def PK (X : Cx) (kws : List Keyword) (t : TA) : Prop :=
  ∀ (pos : Pos) (pins : List (Addr × Obj)) (s : Shared) (σ : St) (H : Hp) (Q : List V → Hp → Prop), Inv X pins σ H s → t σ H Q → wpAny (model X.prog X.w) X.A (evalAll ((backToKw pos (keywordEach kws X.env)).map (·.2))) (AP X pins σ Q) X.xe s
section
variable {X : Cx} {CX : CXT} {k : Nat} {f C : Addr} {fd : FuncData} {ps ks : List Str} {sp : Sp} {E : XK} {x m : Str} {p pos apos kpos : Pos} {e o : Expr} {es : List Expr} {kws : List Keyword} {te ta : TE} {t tk : TA} {nm : Option Str}
theorem pk_nil : PK X [] tNil := fun _ _ _ _ H Q I h => wpAny_evalAll_nil ⟨[], H, I, .nil, h⟩
theorem pk_cons (ha : PE X e te) (hr : PK X kws t) : PK X (⟨nm, e, kpos⟩ :: kws) (tCons te t) := by
  intro pos pins s σ H Q I h
  show wpAny _ _ (evalAll ((do let v ← eval e X.env; standAt pos; pure v) :: (backToKw pos (keywordEach kws X.env)).map (·.2))) _ _ s
  refine wpAny_evalAll_cons (wpAny_bind (thn (ha pins s σ H _ I h) fun u s1 ⟨x, H1, I1, r1, q1⟩ => wpAny_bind (wpAny_standAt (wpAny_pure ?_))))
  exact thn (hr pos pins s1 σ H1 _ I1 q1) fun us s2 ⟨xs, H2, I2, r2, q2⟩ => ⟨x :: xs, H2, I2, .cons r1 r2, q2⟩

/-- how a call with keywords binds: g puts the positional values us and the keywords' values ws (names ks) in the parameters' order, defaults among them -/
structure KBinds (K : PySem.W.Frag) (fd : FuncData) (ps ks : List Str) (g : List Value → List Value → List Value) (gV : List V → List V → List V) : Prop where
  to : ∀ (s : Shared) (us ws : List Value), K.In s.heap → (g us ws).length = ps.length → BindsTo s fd ⟨us, ks.zip ws⟩ (ps.zip (g us ws))
  rel : ∀ {vs : List V} {us : List Value} {zs : List V} {ws : List Value}, Vals vs us → Vals zs ws → Vals (gV vs zs) (g us ws)
def tCallK (sp : Sp) (gV : List V → List V → List V) (E : XK) (t tk : TA) : TE := fun σ H Q => t σ H fun vs H1 => tk σ H1 fun zs H2 => sp (gV vs zs) H2 Q E
variable {g : List Value → List Value → List Value} {gV : List V → List V → List V}
theorem run_fnk {pins : List (Addr × Obj)} {σ : St} {H : Hp} {s : Shared} {Q : VK} {us ws : List Value} {vs zs : List V} (F : FnOk X.prog X.w X.K X.mg X.base CX k f fd ps sp) (hr : Room k X.A) (hb : KBinds X.K fd ps ks g gV) (hx : Passes CX X E)
    (I : Inv X pins σ H s) (r : Vals vs us) (rz : Vals zs ws) (h : sp (gV vs zs) H Q E) : wpAny (model X.prog X.w) X.A (call (.ref f) us (ks.zip ws)) (EP X pins σ Q) X.xe s := by
  have r2 := hb.rel r rz
  have hl : (g us ws).length = ps.length := by rw [← r2.length]; exact F.len _ _ _ _ h
  refine wpAny_call (codeAny_mono (F.run X.A X.stack s H ⟨us, ks.zip ws⟩ (g us ws) (gV vs zs) Q E hr I.env0 (hb.to s us ws I.kIn hl) r2 h) fun r s' hq => ?_)
  cases r with
  | error e => exact hx pins σ H s e s' I hq
  | ok fl =>
    cases fl with
    | ret u => exact I.after hq
    | next => exact False.elim hq
    | brk => exact False.elim hq
    | cont => exact False.elim hq
/-- f(e, .., k = v, ..) -/
theorem pe_callK (F : FnOk X.prog X.w X.K X.mg X.base CX k f fd ps sp) (hr : Room k X.A) (hg : Gl X x) (hm : X.mg x = some (.ref f)) (hk : PySem.W.keepIn X.K (.ref f) = true) (hb : KBinds X.K fd ps ks g gV) (hx : Passes CX X E)
    (ha : PA X (e :: es) t) (hkw : PK X kws tk) (hall : (backToKw pos (keywordEach kws X.env)).all (·.1.isSome) = true := by rfl) (hks : (backToKw pos (keywordEach kws X.env)).filterMap (·.1) = ks := by rfl)
    (hdb : (x == ("__debug__" : Str)) = false := by decide) (he : starEach (e :: es) X.env = (false, eval e X.env) :: starEach es X.env := by rfl)
    (hpl : ((backTo pos (starEach (e :: es) X.env)).any (·.1) || (backToKw pos (keywordEach kws X.env)).any (·.1.isNone)) = false := by rfl) :
    PE X (.Call (.Name x p) (e :: es) kws pos) (tCallK sp gV E t tk) := by
  intro pins s σ H Q I h
  refine wpAny_Call_Name_kw (ld_glob I hg hm ?_ hdb)
  refine PySem.W.callWith_KW (h₀ := X.base) I.ok.mod.kin hk hall (thn (ha pos pins s σ H _ I h) fun us s1 ⟨vs, H1, I1, r, q⟩ => ?_) hpl he
  refine thn (hkw pos pins s1 σ H1 _ I1 q) fun ws s2 ⟨zs, H2, I2, rz, q2⟩ => ⟨I2.kIn, ?_⟩
  rw [hks]
  exact run_fnk F hr hb hx I2 r rz q2
end

/-! ### a def's body keeps its promise -/
/-- names: the parameters first -/
structure FnScope (N P : List Str) (sc : Scope) : Prop where
  kind : sc.kind = .function
  co : sc.isCoroutine = false
  gen : sc.isGenerator = false
  nd : N.Nodup
  pre : N.take P.length = P
  par : ∀ x ∈ P, sc.names.lookup x = some .local ∨ sc.names.lookup x = some .cell
  nofree : ∀ y ∈ sc.names, y.2 ≠ .free

theorem bindL_out {kindOf : Str → Option NameKind} {x : Str} : ∀ {binds : List (Str × Value)} {m : Str → Option Value}, (∀ v, (x, v) ∉ binds) → bindL kindOf binds m x = m x
  | [], _, _ => rfl
  | (n, v) :: r, m, h => by
    unfold bindL
    rw [bindL_out fun w hw => h w (List.mem_cons_of_mem _ hw)]
    split
    · have : x ≠ n := by rintro rfl; exact h v List.mem_cons_self
      simp [this]
    · rfl
theorem bindC_out {kindOf : Str → Option NameKind} {x : Str} : ∀ {binds : List (Str × Value)} {m : Str → Option Value}, (∀ v, (x, v) ∉ binds) → bindC kindOf binds m x = m x
  | [], _, _ => rfl
  | (n, v) :: r, m, h => by
    unfold bindC
    rw [bindC_out fun w hw => h w (List.mem_cons_of_mem _ hw)]
    split
    · rfl
    · have : x ≠ n := by rintro rfl; exact h v List.mem_cons_self
      simp [this]
theorem bindL_get {kindOf : Str → Option NameKind} {x : Str} {v : Value} : ∀ {P : List Str} {vs : List Value} {i : Nat} {m : Str → Option Value}, P.Nodup → P[i]? = some x → vs[i]? = some v → kindOf x = some .local →
    bindL kindOf (P.zip vs) m x = some v
  | [], _, _, _, _, h, _, _ => by simp at h
  | _ :: _, [], _, _, _, _, h, _ => by simp at h
  | p :: P, w :: vs, 0, m, nd, h1, h2, hk => by
    simp at h1 h2; subst h1; subst h2
    show bindL kindOf ((p, w) :: P.zip vs) m p = _
    unfold bindL
    rw [bindL_out fun v hv => (List.nodup_cons.mp nd).1 (List.of_mem_zip hv).1, if_pos hk]
    simp
  | p :: P, w :: vs, i + 1, m, nd, h1, h2, hk => by
    show bindL kindOf ((p, w) :: P.zip vs) m x = _
    unfold bindL
    exact bindL_get (i := i) (List.nodup_cons.mp nd).2 (by simpa using h1) (by simpa using h2) hk
theorem bindC_get {kindOf : Str → Option NameKind} {x : Str} {v : Value} : ∀ {P : List Str} {vs : List Value} {i : Nat} {m : Str → Option Value}, P.Nodup → P[i]? = some x → vs[i]? = some v → kindOf x ≠ some .local →
    bindC kindOf (P.zip vs) m x = some v
  | [], _, _, _, _, h, _, _ => by simp at h
  | _ :: _, [], _, _, _, _, h, _ => by simp at h
  | p :: P, w :: vs, 0, m, nd, h1, h2, hk => by
    simp at h1 h2; subst h1; subst h2
    show bindC kindOf ((p, w) :: P.zip vs) m p = _
    unfold bindC
    rw [bindC_out fun v hv => (List.nodup_cons.mp nd).1 (List.of_mem_zip hv).1, if_neg hk]
    simp
  | p :: P, w :: vs, i + 1, m, nd, h1, h2, hk => by
    show bindC kindOf ((p, w) :: P.zip vs) m x = _
    unfold bindC
    exact bindC_get (i := i) (List.nodup_cons.mp nd).2 (by simpa using h1) (by simpa using h2) hk

/-- the names' values at the entry -/
def start (N : List Str) (vs : List V) : St := vs.map some ++ List.replicate (N.length - vs.length) none

/-- the context of a def's body, at its entry; an exception leaves the frame, then lies as CX says -/
def cxOf (CX : CXT) (P : Program) (w : World) (K : PySem.W.Frag) (mg : Str → Option Value) (base : Heap) (N : List Str) (qual : Str) (scope : Scope) (f : Addr) (cd : Value) (A : Around) (outer : List Env) (s : Shared) (H : Hp) (E : XK) : Cx where
  prog := P
  w := w
  K := K
  mg := mg
  base := base
  A := A.deeper (envOfC qual scope s.heap.objs.size f cd)
  N := N
  s₀ := s
  H₀ := H
  env := envOfC qual scope s.heap.objs.size f cd
  outer := outer
  stack := envOfC qual scope s.heap.objs.size f cd :: outer
  ex := []
  calm := true
  fn := fun _ => true
  pn := []
  xe := fun e s' => wpAny (model P w) (A.deeper (envOfC qual scope s.heap.objs.size f cd)) (leaving (envOfC qual scope s.heap.objs.size f cd) e) (fun _ s'' => CX outer H s E e s'') (fun e' s'' => CX outer H s E e' s'') s'

theorem cell_has {sc : Scope} {n : Nat} {x : Str} (h : sc.names.lookup x = some .cell) : ∃ c, (cellsFrom n sc.names []).lookup x = some c := by
  have q := PySem.W.cellsFrom_some sc.names n [] (.inl h)
  exact Option.isSome_iff_exists.mp q

theorem inv_start {CX : CXT} {P : Program} {w : World} {K : PySem.W.Frag} {mg : Str → Option Value} {base : Heap} {N ps : List Str} {qual : Str} {scope : Scope} {f : Addr} {cd : Value} {A : Around} {outer : List Env} {s s1 : Shared} {H : Hp} {E : XK} {us : List Value} {vs : List V}
    (S : FnScope N ps scope) (hd : A.handled = none) (e0 : Env0 P w K mg base A outer s H) (hl : vs.length = ps.length) (r : Vals vs us)
    (x : InCallC s s.heap.objs.size (bindL (envOfC qual scope s.heap.objs.size f cd).kindOf (ps.zip us) fun _ => none) (cellsFrom (s.heap.objs.size + 1) scope.names []) (bindC (envOfC qual scope s.heap.objs.size f cd).kindOf (ps.zip us) fun _ => none) s1) :
    Inv (cxOf CX P w K mg base N qual scope f cd A outer s H E) [] (start N vs) H s1 := by
  have hpl : ps.length ≤ N.length := by have := congrArg List.length S.pre; rw [List.length_take] at this; omega
  obtain ⟨h1, tk, rfl, hk⟩ := x.done
  have noA : ∀ b : Addr, b ∉ (cxOf CX P w K mg base N qual scope f cd A outer s H E).ex := fun b z => absurd (show b ∈ ([] : List Addr) from z) (by simp)
  refine ⟨⟨e0.mod, S.kind, rfl, rfl, Nat.le_refl _, fun y z c h1 h2 => ?_, fun y hy => ?_, fun y c _ h => ?_, fun _ => hd, Around.frames_deeper e0.frames, .inr ⟨rfl, rfl⟩, fun b z => absurd z (noA b), e0.bs, e0.bsz, fun b _ _ => noA b, fun b z => absurd z (noA b), e0.funs, e0.frf⟩,
    rfl, e0.bare, Un.kept hk, ⟨_, x.toInCall.ns, fun i y v h1 h2 h3 => ?_⟩, fun y c h => ⟨_, x.cell y c h⟩, e0.hok.fresh (Nat.le_refl _), fun y c h => ?_, fun p hp => absurd (show p ∈ ([] : List (Addr × Obj)) from hp) (by simp), e0.hok.kept hk, ?_⟩
  · exact name_of_addr x.apart (PySem.mem_of_lookup h1) (PySem.mem_of_lookup h2)
  · have hy : scope.names.lookup y = some .cell ∨ scope.names.lookup y = some .free := hy
    rcases hy with hy | hy
    · exact cell_has hy
    · exact absurd rfl (S.nofree _ (PySem.mem_of_lookup hy))
  · exact Nat.le_of_lt (x.above y c (PySem.mem_of_lookup h))
  · have hi : i < vs.length := by
      unfold start at h2
      by_cases hi : i < vs.length
      · exact hi
      · rw [List.getElem?_append_right (by simpa using hi)] at h2
        rw [List.getElem?_replicate] at h2
        split at h2 <;> cases h2
    have ha : vs[i]? = some v := by
      unfold start at h2
      rw [List.getElem?_append_left (by simpa using hi), List.getElem?_map] at h2
      cases e : vs[i]? with
      | none => rw [e] at h2; cases h2
      | some a => rw [e] at h2; cases h2; rfl
    obtain ⟨u, hu, rv⟩ := r.get ha
    have hp : ps[i]? = some y := by
      rw [← S.pre, List.getElem?_take_of_lt (by omega)]; exact h1
    have ndP : ps.Nodup := by rw [← S.pre]; exact S.nd.sublist (List.take_sublist _ _)
    refine ⟨u, rv, ?_⟩
    rcases S.par y (List.mem_of_getElem? hp) with k | k
    · exact .inl ⟨k, bindL_get ndP hp hu k⟩
    · obtain ⟨c, e⟩ := cell_has (n := s.heap.objs.size + 1) k
      refine .inr ⟨.inl k, c, e, ?_⟩
      have q := x.cell y c e
      rw [bindC_get ndP hp hu (by show scope.names.lookup y ≠ _; rw [k]; decide)] at q
      exact q
  · exact e0.hok.fresh (Nat.le_of_lt (x.above y c (PySem.mem_of_lookup h)))
  · unfold start
    show _ = N.length
    rw [List.length_append, List.length_map, List.length_replicate]
    omega

/-- THE RULE: a def (or a method) of the text, by its body. The body's reading t is chosen for each entry; it is run at the parameters' values -/
theorem fn_of {CX : CXT} {P : Program} {w : World} {K : PySem.W.Frag} {mg : Str → Option Value} {base : Heap} {k : Nat} {f : Addr} {name qual : Str} {params : Arguments} {body : List Stmt} {scope : Scope} {dV kV doc pm cdv ct oc : Value} {an od : Option Addr}
    {osl : Array (Option Value)} {N ps : List Str} {sp : Sp} (lk : K.lookup f = some ⟨oc, od, .func (PySem.W.fnOf name qual params body scope dV kV doc pm an cdv ct), osl⟩) (hcd : PySem.W.codeIn K cdv qual = true) (S : FnScope N ps scope)
    (len : ∀ vs H Q E, sp vs H Q E → vs.length = ps.length)
    (hbody : ∀ (A : Around) (outer : List Env) (s : Shared) (H : Hp) (vs : List V) (Q : VK) (E : XK), Room k (A.deeper (envOfC qual scope s.heap.objs.size f cdv)) → sp vs H Q E →
      ∃ t, PSs (cxOf CX P w K mg base N qual scope f cdv A outer s H E) body t ∧ t { nx := fun _ H' => Q .non H', rt := Q } (start N vs) H) :
    FnOk P w K mg base CX (k + 1) f (PySem.W.fnOf name qual params body scope dV kV doc pm an cdv ct) ps sp := by
  refine ⟨len, fun A outer s H args us vs Q E hr e0 hb r hsp => ?_⟩
  have hl := len _ _ _ _ hsp
  have KX : K.In s.heap := e0.mod.kin.keeps fun b o e => (e0.bs b o e).1
  have lim : s.heap.NoLimit := e0.mod.nolimit.keeps fun b o e => (e0.bs b o e).1
  have hkind : ∀ y ∈ ps.zip us, scope.names.lookup y.1 = some .local ∨ (scope.names.lookup y.1 = some .cell ∧ ((cellsFrom (s.heap.objs.size + 1) scope.names []).lookup y.1).isSome = true) := fun ⟨n, v⟩ hy => by
    rcases S.par n (List.of_mem_zip hy).1 with q | q
    · exact .inl q
    · exact .inr ⟨q, PySem.W.cellsFrom_some _ _ _ (.inl q)⟩
  refine codeAny_call_function hr.depth (KX _ _ lk) rfl S.co S.gen rfl (PySem.W.codeRec_of KX hcd) (hb _ _ _ _ ?_)
  refine wpAny_newFunctionEnv_cells S.kind hkind fun env he s1 x => ?_
  subst he
  refine ⟨lim.keeps x.toInCall.keep, codeAny_func ?_⟩
  obtain ⟨t, ht, hq⟩ := hbody A outer s H vs Q E (hr.deeper _) hsp
  have I : Inv (cxOf CX P w K mg base N qual scope f cdv A outer s H E) [] (start N vs) H s1 := inv_start S hr.hd e0 hl r x
  refine wpAny_mono (ht [] s1 (start N vs) H _ I hq) (fun fl s' hs => ?_) fun e s' hs => hs
  have fin : ∀ {σ' : St} {H' : Hp} {v : V} {u : Value}, Inv (cxOf CX P w K mg base N qual scope f cdv A outer s H E) [] σ' H' s' → RelV v u → Q v H' → CE outer P w H s Q u s' :=
    fun {σ' H' v u} J rv q => ⟨v, H', J.os, J.bare, J.base, J.hok, rv, q⟩
  cases fl with
  | ret u =>
    obtain ⟨v, σ', H', J, rv, q⟩ := hs
    exact fin J rv q
  | next =>
    obtain ⟨σ', H', J, q⟩ := hs
    exact fin (v := V.non) (u := Value.none) J rfl q
  | brk =>
    obtain ⟨_, _, _, q⟩ := hs
    exact False.elim q
  | cont =>
    obtain ⟨_, _, _, q⟩ := hs
    exact False.elim q
end L2

namespace L2
open PySem PySem.Spec PyProof.Rows
section
variable {X : Cx} {x : Str} {p pos : Pos} {e : Expr} {es : List Expr} {t : TA} {id T : String} {r : List V → Hp → VK → Prop}

def tCB (r : List V → Hp → VK → Prop) (t : TA) : TE := fun σ H Q => t σ H fun vs H1 => r vs H1 Q
/-- f(e, ..), f a built-in function -/
theorem pe_callB (hc : CallR X (.builtin id) r) (hg : Gl X x) (hm : X.mg x = none) (hv : bootBuiltins x = some (.builtin id)) (ha : PA X (e :: es) t) (hn : x ≠ "__name__" := by decide) (hdb : (x == ("__debug__" : Str)) = false := by decide)
    (he : starEach (e :: es) X.env = (false, eval e X.env) :: starEach es X.env := by rfl) (hpl : (backTo pos (starEach es X.env)).any (·.1) = false := by rfl) : PE X (.Call (.Name x p) (e :: es) [] pos) (tCB r t) := by
  intro pins s σ H Q I h
  refine wpAny_Call_Name_kw (ld_blt I hg hm hv ?_ hn hdb)
  exact PyProof.Rows.callWith_builtin1 (thn (ha pos pins s σ H _ I h) fun us s1 ⟨vs, H1, I1, r1, q1⟩ => hc pins s1 σ H1 vs us Q I1 r1 q1) he hpl
/-- T(e, ..), T a built-in type -/
theorem pe_callTy (hc : CallR X (.type T) r) (hg : Gl X x) (hm : X.mg x = none) (hv : bootBuiltins x = some (.type T)) (ha : PA X (e :: es) t) (hn : x ≠ "__name__" := by decide) (hdb : (x == ("__debug__" : Str)) = false := by decide)
    (he : starEach (e :: es) X.env = (false, eval e X.env) :: starEach es X.env := by rfl) (hpl : (backTo pos (starEach es X.env)).any (·.1) = false := by rfl) : PE X (.Call (.Name x p) (e :: es) [] pos) (tCB r t) := by
  intro pins s σ H Q I h
  refine wpAny_Call_Name_kw (ld_blt I hg hm hv ?_ hn hdb)
  exact PyProof.Rows.callWith_type1 (thn (ha pos pins s σ H _ I h) fun us s1 ⟨vs, H1, I1, r1, q1⟩ => hc pins s1 σ H1 vs us Q I1 r1 q1) he hpl
/-- T() -/
theorem pe_callTy0 (hc : CallR X (.type T) r) (hg : Gl X x) (hm : X.mg x = none) (hv : bootBuiltins x = some (.type T)) (hn : x ≠ "__name__" := by decide) (hdb : (x == ("__debug__" : Str)) = false := by decide) :
    PE X (.Call (.Name x p) [] [] pos) (tCB r tNil) := by
  intro pins s σ H Q I h
  refine wpAny_Call_Name_kw (ld_blt I hg hm hv ?_ hn hdb)
  exact PyProof.Rows.callWith_type0 (hc pins s σ H [] [] Q I .nil h)
end
end L2

namespace HT
open PySem PyProof.Rows

/-- t < u of tuples of ints -/
def lexLt : List Int → List Int → Bool
  | [], [] => false
  | [], _ :: _ => true
  | _ :: _, [] => false
  | x :: xs, y :: ys => if x = y then lexLt xs ys else decide (x < y)
theorem lexLt_cons (x y : Int) (xs ys : List Int) : lexLt (x :: xs) (y :: ys) = if x = y then lexLt xs ys else decide (x < y) := rfl
theorem lexLt_nil_nil : lexLt [] [] = false := rfl
theorem lexLt_nil_cons (y : Int) (ys : List Int) : lexLt [] (y :: ys) = true := rfl
theorem lexLt_cons_nil (x : Int) (xs : List Int) : lexLt (x :: xs) [] = false := rfl

theorem eqAt_int (A : Around) (s : Shared) (a : Int) (t : Tok) (c : Int) (u : Tok) : ∃ e, SeqAt.EqAt A s (.int a t) (.int c u) e ∧ (e = true ↔ a = c) :=
  ⟨(a == c), SeqAt.EqAt.int_int a t c u, by simp⟩
theorem rcLt_int (A : Around) (s : Shared) (a : Int) (t : Tok) (c : Int) (u : Tok) (prog : Program) (w : World) (E : Value → Shared → Prop) (Q : Value → Shared → Prop) (h : Q (.bool (decide (a < c))) s) :
    wpAny (model prog w) A (richCompare .Lt (.int a t) (.int c u)) Q E s :=
  (PyProof.Rows.lt_int h : wpAny (model prog w) A (compareOp .Lt (.int a t) (.int c u)) Q E s)

section
open PySem.SeqAt
open PySem.AutoSeq1 (wpAny_loadPart')
open PySem.MeetsSeq PySem.MeetsSeq2 PySem.MeetsSeq3

theorem tuple_lt_ints (l b : Addr) (items items2 : Array Value) (n n2 : Nat) (dd dd2 : Option Addr) (sl sl2 : Array (Option Value)) (ns ms : List Int) (hi : IntsAre items.toList ns) (hj : IntsAre items2.toList ms) :
    Meets (Builtin.«tuple.__lt__» ⟨[.ref l, .ref b], []⟩)
      (fun _ R s => s.heap.get? l = some { cls := .type "tuple", dict := dd, data := .seq items n, slots := sl } ∧ s.heap.get? b = some { cls := .type "tuple", dict := dd2, data := .seq items2 n2, slots := sl2 } ∧
        R (.ok (.ret (.bool (lexLt ns ms)))) s) :=
  .of_wp fun prog w A R s h => by
    obtain ⟨hp, g, d, tk, os⟩ := s; obtain ⟨hl, hb, h⟩ := h
    have f2 := AutoSeq1.sub_tuple_tuple
    have z1 : items.size = ns.length := by rw [← hi.length]; simp
    have z2 : items2.size = ms.length := by rw [← hj.length]; simp
    wp_walk using wpAny_loadPart' hl, wpAny_loadPart' hb, wpAny_forIn_list _ (fun rest b s' => b.1 = none ∧ s' = ⟨hp, g, d, tk, os⟩ ∧ ∃ (vs ws : List Value) (ns' ms' : List Int), rest = vs.zip ws ∧
      IntsAre vs ns' ∧ IntsAre ws ms' ∧ ns'.length + items2.size = ms'.length + items.size ∧ R (.ok (.ret (.bool (lexLt ns' ms')))) ⟨hp, g, d, tk, os⟩) _
    case turn =>
      rintro ⟨y, x⟩ rest b s' ⟨hb', rfl, vs, ws, ns', ms', hz, hvi, hwi, hlen, hR⟩
      cases hvi with
      | nil => rw [List.zip_nil_left] at hz; cases hz
      | cons a t hvi' =>
        cases hwi with
        | nil => rw [List.zip_nil_right] at hz; cases hz
        | cons c u hwi' =>
          rw [List.zip_cons_cons] at hz
          injection hz with hyx hrest
          injection hyx with hy hx
          subst hy hx
          rw [lexLt_cons] at hR
          simp only [List.length_cons] at hlen
          obtain ⟨e, he, hiff⟩ := eqAt_int A.in1 ⟨hp, g, d, tk, os⟩ a t c u
          refine wpAny_bind (he prog w _ _ ?_)
          cases e with
          | true =>
            rw [if_pos (hiff.mp rfl)] at hR
            wp_walk
            exact ⟨rfl, rfl, _, _, _, _, hrest, hvi', hwi', by omega, hR⟩
          | false =>
            rw [if_neg (fun q => absurd (hiff.mpr q) Bool.false_ne_true)] at hR
            have hri := rcLt_int A.in1 ⟨hp, g, d, tk, os⟩ a t c u prog w
            wp_walk using hri
            exact ⟨_, rfl, by simpa using hR⟩
    case fin =>
      rintro ⟨b1, b2⟩ s' ⟨hb', rfl, vs, ws, ns', ms', hz, hvi, hwi, hlen, hR⟩
      simp only at hb'
      subst hb'
      have hv : lexLt ns' ms' = decide (items.size < items2.size) := by
        cases hvi with
        | nil =>
          cases hwi with
          | nil =>
            simp only [List.length_nil] at hlen
            rw [lexLt_nil_nil]
            exact (decide_eq_false (by omega)).symm
          | cons c u hw =>
            simp only [List.length_nil, List.length_cons] at hlen
            rw [lexLt_nil_cons]
            exact (decide_eq_true (by omega)).symm
        | cons a t hv =>
          cases hwi with
          | nil =>
            simp only [List.length_nil, List.length_cons] at hlen
            rw [lexLt_cons_nil]
            exact (decide_eq_false (by omega)).symm
          | cons c u hw =>
            rw [List.zip_cons_cons] at hz
            cases hz
      rw [hv] at hR
      wp_walk
      exact ⟨_, rfl, by simpa [Builtin.Tuple.tupleCompareSizes] using hR⟩
    case h =>
      exact ⟨rfl, rfl, items.toList, items2.toList, ns, ms, rfl, hi, hj, by omega, h⟩
end

section
variable {prog : Program} {w : World} {A : Around} {E : Value → Shared → Prop} {s : Shared}

theorem lt_tupInts {l b : Addr} {items items2 : Array Value} {ns ms : List Int} {Q : Value → Shared → Prop} (hl : IsTup s.heap l items) (hb : IsTup s.heap b items2) (hi : IntsAre items.toList ns) (hj : IntsAre items2.toList ms)
    (hu : A.units < cLine) (h : Q (.bool (lexLt ns ms)) s) : wpAny (model prog w) A (compareOp .Lt (.ref l) (.ref b)) Q E s := by
  obtain ⟨⟨cls, dd, data, sl⟩, ho, hc, n, hd⟩ := id hl
  obtain ⟨⟨cls2, dd2, data2, sl2⟩, ho2, hc2, n2, hd2⟩ := id hb
  simp only at hc hd hc2 hd2
  subst hc hd hc2 hd2
  exact richCompare_meets_room (op := .Lt) ⟨_, ho, rfl⟩ ⟨_, ho2, rfl⟩ PySem.F.slot_tuple_lt PySem.F.entry_tuple_lt (PySem.F.args_tuple_lt_2 _ _) (tuple_lt_ints l b items items2 n n2 dd dd2 sl sl2 ns ms hi hj)
    ⟨ho, ho2, show Value.bool (lexLt ns ms) ≠ Value.notImplemented ∧ Q (.bool (lexLt ns ms)) s from ⟨(fun x => nomatch x), h⟩⟩ hu

/-- t + u, t not empty -/
theorem cat_tup {t b : Addr} {vs ws : List Value} {Q : Value → Shared → Prop} (ht : IsTup s.heap t vs.toArray) (hb : IsTup s.heap b ws.toArray) (hv : vs ≠ [])
    (h1 : ws = [] → Q (.ref t) s) (h2 : ws ≠ [] → Q (.ref s.heap.objs.size) { s with heap := s.heap.push { cls := .type "tuple", data := .seq (vs ++ ws).toArray } })
    (hsz : vs.length + ws.length ≤ sizeLine) : wpAny (model prog w) A (binaryOp .Add (.ref t) (.ref b)) Q E s := by
  obtain ⟨⟨cls, dd, data, sl⟩, ho, hc, n, hd⟩ := id ht
  obtain ⟨⟨cls2, dd2, data2, sl2⟩, ho2, hc2, n2, hd2⟩ := id hb
  simp only at hc hd hc2 hd2
  subst hc hd hc2 hd2
  have e : vs.toArray ++ ws.toArray = (vs ++ ws).toArray := by simp
  by_cases hw : ws = []
  · exact concat_meets ⟨_, ho, rfl⟩ ⟨_, ho2, rfl⟩ noFill_tuple_add seq_tuple_add PySem.F.slot_tuple_add PySem.F.entry_tuple_add (PySem.F.args_tuple_add_2 _ _)
      (tuple_addW1 t b vs.toArray ws.toArray n n2 dd dd2 sl sl2 (by simpa using hv) (by simp [hw])) ⟨ho, ho2, h1 hw⟩
  · refine concat_meets ⟨_, ho, rfl⟩ ⟨_, ho2, rfl⟩ noFill_tuple_add seq_tuple_add PySem.F.slot_tuple_add PySem.F.entry_tuple_add (PySem.F.args_tuple_add_2 _ _)
      (tuple_addW2 t b vs.toArray ws.toArray n n2 dd dd2 sl sl2 (by simpa using hv) (by simpa using hw) (by rw [List.size_toArray, List.size_toArray]; exact hsz)) ⟨ho, ho2, ?_⟩
    rw [e]
    exact h2 hw

/-! ### t[a:b], not the whole -/
/-- a slice's bound as a place among n (d where it is left out) -/
def sIx (n d : Nat) : Option Int → Nat
  | none => d
  | some v => if v < 0 then (v + (n : Int)).toNat else min v.toNat n
theorem sIx_none (n d : Nat) : sIx n d none = d := rfl
theorem sIx_nat (n d k : Nat) : sIx n d (some (k : Int)) = min k n := by
  show (if (k : Int) < 0 then ((k : Int) + (n : Int)).toNat else min (k : Int).toNat n) = min k n
  rw [if_neg (by omega), Int.toNat_natCast]
theorem sIx_le (n d : Nat) (hd : d ≤ n) (o : Option Int) : sIx n d o ≤ n := by
  cases o with
  | none => exact hd
  | some v =>
    show (if v < 0 then (v + (n : Int)).toNat else min v.toNat n) ≤ n
    by_cases hv : v < 0
    · rw [if_pos hv]; omega
    · rw [if_neg hv]; exact Nat.min_le_right _ _
theorem clip_eq (v : Int) (n d : Nat) : (if v < 0 then max (v + (n : Int)) 0 else min v (n : Int)) = ((sIx n d (some v) : Nat) : Int) := by
  show (if v < 0 then max (v + (n : Int)) 0 else min v (n : Int)) = (((if v < 0 then (v + (n : Int)).toNat else min v.toNat n) : Nat) : Int)
  by_cases hv : v < 0
  · simp only [if_pos hv]; omega
  · simp only [if_neg hv]; omega
theorem adjust_gen (lo hi : Option Int) (n : Nat) : Builtin.Slice.sliceAdjust lo hi 1 (n : Int) = (((sIx n 0 lo : Nat) : Int), ((sIx n n hi : Nat) : Int)) := by
  have h1 : ¬ ((1 : Int) < 0) := by omega
  unfold Builtin.Slice.sliceAdjust
  simp only [h1, if_false]
  refine Prod.ext ?_ ?_
  · cases lo with
    | none => rfl
    | some v => exact clip_eq v n 0
  · cases hi with
    | none => rfl
    | some v => exact clip_eq v n n
theorem places_gen (i j : Nat) : Builtin.Slice.slicePlaces (i : Int) (j : Int) 1 = j - i := by
  unfold Builtin.Slice.slicePlaces
  have h1 : (1 : Int) > 0 := by omega
  simp only [h1, if_true, Int.ediv_one]
  split <;> omega
theorem slicePart_ {v : Value} {o : Option Int} {Q : Option Int → Shared → Prop} (p : IsPart v o) (h : Q o s) : wpAny (model prog w) A (Builtin.Slice.slicePartIndex v) Q E s := by
  cases p with
  | none => exact slicePart_none h
  | int i t => exact slicePart_int h
theorem sliceApplied_gen {sl : Addr} {vl vu : Value} {lo hi : Option Int} {n : Nat} {Q : Int × Int × Nat → Shared → Prop} (hs : s.heap.IsSliceOf sl vl vu .none) (pl : IsPart vl lo) (pu : IsPart vu hi)
    (h : Q (((sIx n 0 lo : Nat) : Int), 1, sIx n n hi - sIx n 0 lo) s) : wpAny (model prog w) A (Builtin.Slice.sliceApplied (.ref sl) (pure (n : Int))) Q E s := by
  obtain ⟨os, hos, hcs, hds⟩ := id hs
  unfold Builtin.Slice.sliceApplied Builtin.Slice.sliceFields
  refine wpAny_bind (wpAny_bind (wpAny_field hos hds (x := vl) rfl (wpAny_bind (wpAny_field hos hds (x := vu) rfl (wpAny_bind (wpAny_field hos hds (x := .none) rfl (wpAny_pure ?_)))))))
  refine wpAny_bind (slicePart_none ?_)
  show wpAny _ _ (if ((1 : Int) == 0) = true then _ else _) _ _ s
  rw [if_neg (by decide)]
  refine wpAny_bind (slicePart_ pl (wpAny_bind (slicePart_ pu (wpAny_bind (wpAny_pure ?_)))))
  show wpAny _ _ (match Builtin.Slice.sliceAdjust lo hi 1 (n : Int) with | (lo, hi) => pure (lo, (1 : Int), Builtin.Slice.slicePlaces lo hi 1)) _ _ s
  rw [adjust_gen lo hi n]
  show wpAny _ _ (pure (((sIx n 0 lo : Nat) : Int), (1 : Int), Builtin.Slice.slicePlaces ((sIx n 0 lo : Nat) : Int) ((sIx n n hi : Nat) : Int) 1)) _ _ s
  rw [places_gen]
  exact wpAny_pure h
theorem pick_gen (xs : Array Value) (i k : Nat) : ((List.range k).filterMap fun (m : Nat) => xs[((i : Int) + (m : Int) * 1).toNat]?).toArray = ((xs.toList.drop i).take k).toArray := by
  have e : (fun (m : Nat) => xs[((i : Int) + (m : Int) * 1).toNat]?) = fun m => xs[i + m]? := by
    funext m
    have : ((i : Int) + (m : Int) * 1).toNat = i + m := by omega
    rw [this]
  rw [e]
  have := pick_run xs i k
  rw [List.filterMap_map] at this
  have e2 : ((fun x => xs[x]?) ∘ fun x => i + x) = fun m => xs[i + m]? := rfl
  rw [e2] at this
  rw [this]

theorem getItem_tuple_cut {t sl : Addr} {items : Array Value} {vl vu : Value} {lo hi : Option Int} {Q : Value → Shared → Prop} (ht : IsTup s.heap t items) (hs : s.heap.IsSliceOf sl vl vu .none) (pl : IsPart vl lo) (pu : IsPart vu hi)
    (hw : ¬ (sIx items.size 0 lo = 0 ∧ sIx items.size items.size hi = items.size))
    (h : Q (.ref s.heap.objs.size) { s with heap := s.heap.push { cls := .type "tuple", data := .seq ((items.toList.drop (sIx items.size 0 lo)).take (sIx items.size items.size hi - sIx items.size 0 lo)).toArray } })
    (hsz : items.size ≤ sizeLine) : wpAny (model prog w) A (getItem (.ref t) (.ref sl)) Q E s := by
  have htake : sizeOk (.seq ((items.toList.drop (sIx items.size 0 lo)).take (sIx items.size items.size hi - sIx items.size 0 lo)).toArray) := by
    show ((items.toList.drop (sIx items.size 0 lo)).take (sIx items.size items.size hi - sIx items.size 0 lo)).toArray.size ≤ sizeLine
    rw [List.size_toArray, List.length_take, List.length_drop, Array.length_toList]
    omega
  have hj : sIx items.size items.size hi ≤ items.size := sIx_le _ _ (Nat.le_refl _) hi
  obtain ⟨os, hos, hcs, hds⟩ := id hs
  have hTs : s.TypeIs (.ref sl) "slice" := ⟨os, hos, hcs⟩
  unfold getItem
  try with_reducible refine wpAny_holding ?_
  first | refine wpAny_bind (wpAny_pure ?_) | skip
  refine wpAny_bind (wpAny_sequenceKey ht.typeIs (by decide) ?_)
  refine wpAny_bind (wpAny_callSpecial?_slot (name := Str.ofString "__getitem__") ht.typeIs PyProof.Rows.slot_tuple_getitem
    (wpAny_call_entry PyProof.Rows.slot_tuple_getitem ht.typeIs entry_tuple_getitem ?_ (args_tuple_getitem _ _)))
  show wpAny _ _ (Builtin.Tuple.tupleItemsOf (.ref t) >>= _) _ _ s
  refine wpAny_bind (tupleItemsOf_ ht ?_)
  refine wpAny_bind (wpAny_typeOf hTs ?_)
  rw [if_pos (by decide)]
  refine wpAny_bind (sliceApplied_gen hs pl pu ?_)
  have hno : ¬ ((((sIx items.size 0 lo : Nat) : Int) == 0 && (1 : Int) == 1 && (sIx items.size items.size hi - sIx items.size 0 lo) == items.size) = true) := by
    intro q
    rw [Bool.and_eq_true, Bool.and_eq_true] at q
    have q1 : ((sIx items.size 0 lo : Nat) : Int) = 0 := eq_of_beq q.1.1
    have q2 : sIx items.size items.size hi - sIx items.size 0 lo = items.size := eq_of_beq q.2
    exact hw ⟨by omega, by omega⟩
  show wpAny _ _ (if (((sIx items.size 0 lo : Nat) : Int) == 0 && (1 : Int) == 1 && (sIx items.size items.size hi - sIx items.size 0 lo) == items.size) = true then _ else _) _ _ s
  rw [if_neg hno, pick_gen]
  first
    | exact wpAny_bind (m := Builtin.Tuple.tupleExact _) (wpAny_newObj_type (wpAny_pure ⟨_, rfl, wpAny_pure h⟩) htake)
    | exact wpAny_bind (m := Builtin.Tuple.tupleExact _) (wpAny_newObj_type (wpAny_bind (wpAny_pure (wpAny_pure ⟨_, rfl, wpAny_pure h⟩))) htake)
    | exact wpAny_bind (wpAny_bind (m := Builtin.Tuple.tupleExact _) (wpAny_newObj_type (wpAny_pure (wpAny_pure ⟨_, rfl, wpAny_pure h⟩)) htake))
    | exact wpAny_bind (wpAny_bind (m := Builtin.Tuple.tupleExact _) (wpAny_newObj_type (wpAny_pure ⟨_, rfl, wpAny_pure h⟩) htake))
end
end HT

namespace L2
open PySem PySem.Spec PyProof.Rows

/-! ### the parts of a slice -/
abbrev TO := St → Hp → (Option Int → Hp → Prop) → Prop
/-- a slice's part (left out, or an int) -/
def PO (X : Cx) (e : Option Expr) (t : TO) : Prop :=
  ∀ (pins : List (Addr × Obj)) (s : Shared) (σ : St) (H : Hp) (Q : Option Int → Hp → Prop), Inv X pins σ H s → t σ H Q →
    wpAny (model X.prog X.w) X.A (evalPart e X.env) (fun u s' => ∃ o H', Inv X pins σ H' s' ∧ IsPart u o ∧ Q o H') X.xe s
def tNoPart : TO := fun _ H Q => Q none H
def tPart (t : TE) : TO := fun σ H Q => t σ H fun x H1 => ∃ i, x = .int i ∧ Q (some i) H1

theorem intsAre_of {ns : List Int} : ∀ {us : List Value}, Vals (ns.map V.int) us → IntsAre us ns := by
  induction ns with
  | nil => intro us r; rw [List.map_nil] at r; cases r; exact .nil
  | cons n ns ih =>
    intro us r
    rw [List.map_cons] at r
    cases r with
    | cons r1 r2 =>
      obtain ⟨t, e⟩ := r1
      subst e
      exact .cons n t (ih r2)

section
variable {X : Cx} {e : Expr} {te : TE} {lo hi : Option Expr} {tl th : TO} {pos p2 : Pos}

theorem po_none : PO X none tNoPart := by
  intro pins s σ H Q I h
  rw [evalPart_none]
  exact wpAny_pure ⟨none, H, I, .none, h⟩
theorem po_some (h : PE X e te) : PO X (some e) (tPart te) := by
  intro pins s σ H Q I hw
  rw [evalPart_some]
  refine thn (h pins s σ H _ I hw) fun u s1 ⟨x, H1, I1, r1, q1⟩ => ?_
  obtain ⟨i, rfl, q⟩ := q1
  obtain ⟨t, rfl⟩ := r1
  exact ⟨some i, H1, I1, .int i t, q⟩

/-- what a slice of a value is, by values: the slice object stands at sl -/
def SlR (X : Cx) (r : V → Option Int → Option Int → Hp → VK → Prop) : Prop :=
  ∀ (pins : List (Addr × Obj)) (s : Shared) (σ : St) (H : Hp) (x : V) (v vl vu : Value) (lo hi : Option Int) (sl : Addr) (Q : VK), Inv X pins σ H s → RelV x v → s.heap.IsSliceOf sl vl vu .none → IsPart vl lo → IsPart vu hi → r x lo hi H Q →
    ∃ T id, typeLookup (.type T) "__getitem__" = pure (some (.builtin id)) ∧ s.TypeIs v T ∧ wpAny (model X.prog X.w) X.A (getItem v (.ref sl)) (EP X pins σ Q) X.xe s
theorem SlR.or {r r' : V → Option Int → Option Int → Hp → VK → Prop} (h : SlR X r) (h' : SlR X r') : SlR X (fun x lo hi H Q => r x lo hi H Q ∨ r' x lo hi H Q) := by
  intro pins s σ H x v vl vu lo hi sl Q I rx hs pl pu q
  rcases q with q | q
  · exact h pins s σ H x v vl vu lo hi sl Q I rx hs pl pu q
  · exact h' pins s σ H x v vl vu lo hi sl Q I rx hs pl pu q
def tSl (r : V → Option Int → Option Int → Hp → VK → Prop) (te : TE) (tl th : TO) : TE := fun σ H Q => te σ H fun x H1 => tl σ H1 fun l H2 => th σ H2 fun u H3 => r x l u H3 Q
/-- a[lo:hi], any a -/
theorem pe_slice {r : V → Option Int → Option Int → Hp → VK → Prop} (hr : SlR X r) (he : PE X e te) (hl : PO X lo tl) (hu : PO X hi th) : PE X (.Subscript e (.Slice lo hi none p2) pos) (tSl r te tl th) := by
  intro pins s σ H Q I h
  refine Subscript_ (thn (he pins s σ H _ I h) fun v s1 ⟨x, H1, I1, r1, q1⟩ => ?_)
  refine wpAny_Slice (thn (hl pins s1 σ H1 _ I1 q1) fun vl s2 ⟨l, H2, I2, pl, q2⟩ => thn (hu pins s2 σ H2 _ I2 q2) fun vu s3 ⟨u, H3, I3, pu, q3⟩ => ?_)
  rw [evalPart_none]
  refine wpAny_pure ?_
  have I4 : Inv X pins σ H3 { s3 with heap := s3.heap.push { cls := .type "slice", data := .fields #[vl, vu, .none] } } := I3.kept (t' := s3.toks) fun b ob q => Heap.get?_push_of_some _ q
  obtain ⟨T, id, hT, ht, hg⟩ := hr pins { s3 with heap := s3.heap.push { cls := .type "slice", data := .fields #[vl, vu, .none] } } σ H3 x v vl vu l u s3.heap.objs.size Q I4 r1 (Heap.IsSliceOf.new ..) pl pu q3
  show wpAny (model X.prog X.w) X.A (subscriptTail e (.Slice lo hi none p2) v (.ref s3.heap.objs.size)) (EP X pins σ Q) X.xe { s3 with heap := s3.heap.push { cls := .type "slice", data := .fields #[vl, vu, .none] } }
  exact tail_any (ops := [.ref s3.heap.objs.size, v]) ht hT hg (by with_unfolding_all rfl)

/-- the items of xs[lo:hi] -/
def cutV (xs : List V) (lo hi : Option Int) : List V := (xs.drop (HT.sIx xs.length 0 lo)).take (HT.sIx xs.length xs.length hi - HT.sIx xs.length 0 lo)
theorem cutV_length (xs : List V) (lo hi : Option Int) : (cutV xs lo hi).length ≤ xs.length := by
  unfold cutV
  rw [List.length_take, List.length_drop]
  omega
/-- t[lo:hi], not the whole of it (the whole would be t itself) -/
def rSlT (K : PySem.W.Frag) : V → Option Int → Option Int → Hp → VK → Prop := fun x lo hi H Q => ∃ a xs, x = .ref a ∧ SqT K H a xs ∧
  ¬ (HT.sIx xs.length 0 lo = 0 ∧ HT.sIx xs.length xs.length hi = xs.length) ∧ ∀ p, H p = none → Q (.ref p) (upd H p (.tup (cutV xs lo hi)))
theorem sl_tup : SlR X (rSlT X.K) := by
  intro pins s σ H x v vl vu lo hi sl Q I rx hs pl pu h
  obtain ⟨a, xs, rfl, hx, hw, q⟩ := h
  cases rx
  obtain ⟨its, r, ht, hz⟩ := I.tuple hx
  have hlen : its.toArray.size = xs.length := by rw [List.size_toArray]; exact r.length.symm
  refine ⟨"tuple", _, PyProof.Rows.slot_tuple_getitem.lookup, ht.typeIs, ?_⟩
  refine HT.getItem_tuple_cut ht hs pl pu (by rw [hlen]; exact hw) ?_ (by rw [hlen]; exact hz)
  rw [hlen]
  refine ⟨.ref s.heap.objs.size, _, I.laid (t' := s.toks) (o := .tup (cutV xs lo hi)) (fun b ob q => Heap.get?_push_of_some _ q) (Nat.le_refl _) ?_, rfl, q _ (I.hok.fresh (Nat.le_refl _))⟩
  exact ⟨Nat.le_trans (cutV_length xs lo hi) hz, _, (r.drop (HT.sIx xs.length 0 lo)).take (HT.sIx xs.length xs.length hi - HT.sIx xs.length 0 lo), IsTup.new _ _⟩

/-! ### t < u, t + u -/
def rLtT (K : PySem.W.Frag) : R2 := fun x y H Q => ∃ a b ns ms, x = .ref a ∧ y = .ref b ∧ SqT K H a (ns.map V.int) ∧ SqT K H b (ms.map V.int) ∧ Q (.bl (HT.lexLt ns ms)) H
theorem op_ltT (hu : X.A.units < cLine) : OpR X (compareOp .Lt) (rLtT X.K) := by
  intro pins s σ H x y v u Q I rx ry h
  obtain ⟨a, b, ns, ms, rfl, rfl, ha, hb, q⟩ := h
  cases rx
  cases ry
  obtain ⟨its, r1, p1, _⟩ := I.tuple ha
  obtain ⟨its2, r2, p2, _⟩ := I.tuple hb
  have i1 : IntsAre its.toArray.toList ns := intsAre_of r1
  have i2 : IntsAre its2.toArray.toList ms := intsAre_of r2
  exact HT.lt_tupInts p1 p2 i1 i2 hu ⟨.bl (HT.lexLt ns ms), H, I, rfl, q⟩
/-- t + u, t not empty: u empty gives t itself -/
def rCatT (K : PySem.W.Frag) : R2 := fun x y H Q => ∃ a b xs ys, x = .ref a ∧ y = .ref b ∧ SqT K H a xs ∧ SqT K H b ys ∧ xs ≠ [] ∧ xs.length + ys.length ≤ sizeLine ∧
  (ys = [] → Q (.ref a) H) ∧ (ys ≠ [] → ∀ p, H p = none → Q (.ref p) (upd H p (.tup (xs ++ ys))))
theorem Vals.nil_iff {xs : List V} {us : List Value} (r : Vals xs us) : us = [] ↔ xs = [] := by
  cases r with
  | nil => simp
  | cons _ _ => simp
theorem op_catT : OpR X (binaryOp .Add) (rCatT X.K) := by
  intro pins s σ H x y v u Q I rx ry h
  obtain ⟨a, b, xs, ys, rfl, rfl, ha, hb, hx, hz, q1, q2⟩ := h
  cases rx
  cases ry
  obtain ⟨its, r1, p1, _⟩ := I.tuple ha
  obtain ⟨its2, r2, p2, _⟩ := I.tuple hb
  refine HT.cat_tup p1 p2 (fun z => hx (r1.nil_iff.mp z)) (fun z => ⟨.ref a, H, I, rfl, q1 (r2.nil_iff.mp z)⟩) (fun z => ?_) (by rw [← r1.length, ← r2.length]; exact hz)
  refine ⟨.ref s.heap.objs.size, _, I.laid (t' := s.toks) (o := .tup (xs ++ ys)) (fun b ob q => Heap.get?_push_of_some _ q) (Nat.le_refl _) ?_, rfl, q2 (fun w => z (r2.nil_iff.mpr w)) _ (I.hok.fresh (Nat.le_refl _))⟩
  exact ⟨by rw [List.length_append]; exact hz, _, r1.append r2, IsTup.new _ _⟩
/-- tuple(t) -/
theorem call_tupleT : CallR X (.type "tuple") (fun xs H Q => ∃ a ys, xs = [.ref a] ∧ SqT X.K H a ys ∧ Q (.ref a) H) := by
  intro pins s σ H xs us Q I r h
  obtain ⟨a, ys, rfl, ha, q⟩ := h
  obtain ⟨u, rfl, ru⟩ := vals1 r
  cases ru
  obtain ⟨its, _, p1, _⟩ := I.tuple ha
  exact call_tuple_same (items := its.toArray) p1 ⟨.ref a, H, I, rfl, q⟩
end
end L2

namespace L2
open PySem PySem.Spec PyProof.Rows

/-! ### places -/
/-- the place that an index of any sign means -/
def ixN (n : Nat) (i : Int) : Option Nat := if 0 ≤ i then (if i < n then some i.toNat else none) else if -(n : Int) ≤ i then some (i + n).toNat else none
def atI {α : Type} (xs : List α) (i : Int) : Option α := (ixN xs.length i).bind fun j => xs[j]?
theorem ixN_seq {n : Nat} {i : Int} {j : Nat} (h : ixN n i = some j) : seqIndex? i n = some j ∧ j < n ∧ -(n : Int) ≤ i ∧ i < n := by
  unfold ixN at h
  by_cases h0 : 0 ≤ i
  · rw [if_pos h0] at h
    by_cases h1 : i < n
    · rw [if_pos h1] at h
      have e : i.toNat = j := Option.some.inj h
      exact ⟨by rw [seqIndex_of h0 h1, e], by omega, by omega, h1⟩
    · rw [if_neg h1] at h; cases h
  · rw [if_neg h0] at h
    by_cases h1 : -(n : Int) ≤ i
    · rw [if_pos h1] at h
      have e : (i + n).toNat = j := Option.some.inj h
      exact ⟨by rw [seqIndex_neg (by omega) h1, e], by omega, h1, by omega⟩
    · rw [if_neg h1] at h; cases h
theorem atI_get {α : Type} {xs : List α} {i : Int} {v : α} (h : atI xs i = some v) : ∃ j, seqIndex? i xs.length = some j ∧ xs[j]? = some v ∧ j < xs.length ∧ -(xs.length : Int) ≤ i ∧ i < xs.length := by
  unfold atI at h
  cases e : ixN xs.length i with
  | none => rw [e] at h; cases h
  | some j =>
    rw [e] at h
    obtain ⟨h1, h2, h3, h4⟩ := ixN_seq e
    exact ⟨j, h1, h, h2, h3, h4⟩
theorem atI_nat {α : Type} {xs : List α} {j : Nat} {v : α} (h : xs[j]? = some v) : atI xs (j : Int) = some v := by
  have hj : j < xs.length := (List.getElem?_eq_some_iff.mp h).1
  have e : ixN xs.length (j : Int) = some j := by
    unfold ixN
    rw [if_pos (by omega), if_pos (by omega)]; simp
  unfold atI; rw [e]; exact h
theorem atI_last {α : Type} (xs : List α) (v : α) : atI (xs ++ [v]) (-1) = some v := by
  have hl : (xs ++ [v]).length = xs.length + 1 := by simp
  have e : ixN (xs ++ [v]).length (-1) = some xs.length := by
    unfold ixN
    rw [hl, if_neg (by decide), if_pos (by omega)]
    congr 1
    omega
  unfold atI
  rw [e]
  show (xs ++ [v])[xs.length]? = some v
  simp

/-! ### what may be subscripted -/
/-- what stands as an index of a plain subscript -/
def PlainIx (b : Expr) : Prop := ∀ o i, subscripted b false o i = operate [o, i] (getItem o i)
/-- a subscript by values -/
def IxR (X : Cx) (r : R2) : Prop :=
  ∀ (value slice : Expr) (pins : List (Addr × Obj)) (s : Shared) (σ : St) (H : Hp) (x y : V) (v u : Value) (Q : VK), Inv X pins σ H s → RelV x v → RelV y u → r x y H Q →
    subscripted slice false v u = operate [v, u] (getItem v u) → wpAny (model X.prog X.w) X.A (subscriptTail value slice v u) (EP X pins σ Q) X.xe s
/-- a call of a builtin's method by values: the receiver, the arguments -/
def MtR (X : Cx) (id : String) (r : V → List V → Hp → VK → Prop) : Prop :=
  ∀ (pins : List (Addr × Obj)) (s : Shared) (σ : St) (H : Hp) (x : V) (xs : List V) (v : Value) (us : List Value) (Q : VK), Inv X pins σ H s → RelV x v → Vals xs us → r x xs H Q →
    wpAny (model X.prog X.w) X.A (call (.builtin id) (v :: us)) (EP X pins σ Q) X.xe s
section
variable {X : Cx} {a b : Expr} {ta tb : TE} {pos : Pos}
theorem IxR.or {r r' : R2} (h : IxR X r) (h' : IxR X r') : IxR X (fun x y H Q => r x y H Q ∨ r' x y H Q) := by
  intro value slice pins s σ H x y v u Q I rx ry q hs
  rcases q with q | q
  · exact h value slice pins s σ H x y v u Q I rx ry q hs
  · exact h' value slice pins s σ H x y v u Q I rx ry q hs
theorem MtR.or {id : String} {r r' : V → List V → Hp → VK → Prop} (h : MtR X id r) (h' : MtR X id r') : MtR X id (fun x xs H Q => r x xs H Q ∨ r' x xs H Q) := by
  intro pins s σ H x xs v us Q I rx rs q
  rcases q with q | q
  · exact h pins s σ H x xs v us Q I rx rs q
  · exact h' pins s σ H x xs v us Q I rx rs q
/-- a[b] -/
theorem pe_ix {r : R2} (hr : IxR X r) (ha : PE X a ta) (hb : PE X b tb) (hs : PlainIx b) : PE X (.Subscript a b pos) (tOp r ta tb) := by
  intro pins s σ H Q I h
  exact Subscript_ (binT ha hb I h fun v u s2 x y H2 I2 rx ry q => hr a b pins s2 σ H2 x y v u Q I2 rx ry q (hs _ _))

def rIxL (K : PySem.W.Frag) : R2 := fun x y H Q => ∃ p xs i v, x = .ref p ∧ y = .int i ∧ SqL K H p xs ∧ atI xs i = some v ∧ Q v H
def rIxT (K : PySem.W.Frag) : R2 := fun x y H Q => ∃ p xs i v, x = .ref p ∧ y = .int i ∧ SqT K H p xs ∧ atI xs i = some v ∧ Q v H
def rIxS : R2 := fun x y H Q => ∃ z i c, x = .str z ∧ y = .int i ∧ z.length ≤ sizeLine ∧ atI z.cps.toList i = some c ∧ Q (.str ⟨#[c]⟩) H
theorem ix_list : IxR X (rIxL X.K) := by
  intro value slice pins s σ H x y v u Q I rx ry h hs
  obtain ⟨p, xs, i, z, rfl, rfl, hq, he, q⟩ := h
  cases rx
  obtain ⟨t, rfl⟩ := ry
  obtain ⟨its, r, pl, hz⟩ := I.list hq
  obtain ⟨j, h1, h2, h3, h4, h5⟩ := atI_get he
  obtain ⟨w, ew, rw'⟩ := r.get h2
  have hl := r.length
  have hn := line63
  have fin : EP X pins σ Q w s := ⟨z, H, I, rw', q⟩
  by_cases h0 : 0 ≤ i
  · have hj : i.toNat = j := by
      rw [seqIndex_of h0 h5] at h1
      exact Option.some.inj h1
    exact item_listR pl.isList h0 (by omega) (by rw [hj]; simpa using ew) fin hs
  · have hj : (i + (its.toArray.size : Int)).toNat = j := by
      rw [seqIndex_neg (by omega) h4] at h1
      rw [List.size_toArray, ← hl]
      exact Option.some.inj h1
    exact subscriptTail_builtinR (x := w) pl.isList.typeIs slot_list_getitem.lookup
      (wpAny_getItem_list_neg (Q := fun r s' => r = w ∧ EP X pins σ Q r s') pl.isList (by omega) (by rw [List.size_toArray] <;> omega) (by omega) (by rw [hj]; simpa using ew) ⟨rfl, fin⟩) hs
theorem ix_tup : IxR X (rIxT X.K) := by
  intro value slice pins s σ H x y v u Q I rx ry h hs
  obtain ⟨p, xs, i, z, rfl, rfl, hq, he, q⟩ := h
  cases rx
  obtain ⟨t, rfl⟩ := ry
  obtain ⟨its, r, pl, hz⟩ := I.tuple hq
  obtain ⟨j, h1, h2, h3, h4, h5⟩ := atI_get he
  obtain ⟨w, ew, rw'⟩ := r.get h2
  have hl := r.length
  have hn := line63
  have fin : EP X pins σ Q w s := ⟨z, H, I, rw', q⟩
  exact subscriptTail_builtinR (x := w) pl.typeIs slot_tuple_getitem.lookup
    (getItem_tuple (j := j) (Q := fun r s' => r = w ∧ EP X pins σ Q r s') pl (by omega) (by omega) (by rw [List.size_toArray, ← hl]; exact h1) (by simpa using ew) ⟨rfl, fin⟩) hs
theorem ix_str : IxR X rIxS := by
  intro value slice pins s σ H x y v u Q I rx ry h hs
  obtain ⟨z, i, c, rfl, rfl, hz, he, q⟩ := h
  obtain ⟨t, rfl⟩ := rx
  obtain ⟨t', rfl⟩ := ry
  obtain ⟨j, h1, h2, h3, h4, h5⟩ := atI_get he
  have hl : z.cps.toList.length = z.length := by simp [Str.length]
  rw [hl] at h1 h4 h5
  have hn := line63
  exact tail_any (typeIs_str s z t) slot_str_getitem.lookup (getItem_str (c := c) (by
    have e1 : decide (i < -(2 ^ 63 : Int)) = false := decide_eq_false (by omega)
    have e2 : decide (i ≥ 2 ^ 63) = false := decide_eq_false (by omega)
    rw [e1, e2, Bool.or_false]) (by rw [h1]; simpa using h2) ⟨.str ⟨#[c]⟩, H, I.tok _, ⟨_, rfl⟩, q⟩) hs
/-- list, tuple or str -/
def rIx (K : PySem.W.Frag) : R2 := fun x y H Q => rIxL K x y H Q ∨ rIxT K x y H Q ∨ rIxS x y H Q
theorem ix_seq : IxR X (rIx X.K) := ix_list.or (ix_tup.or ix_str)

/-! ### xs[i] = v, any sign -/
/-- the list's object behind a store -/
theorem mapSeq_set (its : List Value) (n j : Nat) (u : Value) : Obj.mapSeq (·.setIfInBounds j u) { cls := .type "list", data := .seq its.toArray n } = { cls := .type "list", data := .seq (its.set j u).toArray n } := by
  simp [Obj.mapSeq]
theorem Inv.lst {pins : List (Addr × Obj)} {σ : St} {H : Hp} {s : Shared} {p : Addr} {xs : List V} (I : Inv X pins σ H s) (h : H p = some (.lst xs)) :
    ∃ (its : List Value) (n : Nat), Vals xs its ∧ s.heap.get? p = some { cls := .type "list", data := .seq its.toArray n } ∧ xs.length ≤ sizeLine := by
  obtain ⟨z, its, n, r, e⟩ := I.hok p _ h
  exact ⟨its, n, r, e, z⟩
/-- the list at p is written by an update of its object -/
theorem Inv.lstUpd {pins : List (Addr × Obj)} {σ : St} {H : Hp} {s : Shared} {p : Addr} {xs ys : List V} {its its' : List Value} {n n' : Nat} {f : Obj → Obj} (I : Inv X pins σ H s) (h : H p = some (.lst xs))
    (ho : s.heap.get? p = some { cls := .type "list", data := .seq its.toArray n }) (hf : f { cls := .type "list", data := .seq its.toArray n } = { cls := .type "list", data := .seq its'.toArray n' }) (r : Vals ys its') (hz : ys.length ≤ sizeLine) (t : Nat) :
    Inv X pins σ (upd H p (.lst ys)) { s with heap := s.heap.update p f, toks := t } := by
  have e : (s.heap.update p f).get? p = some { cls := .type "list", data := .seq its'.toArray n' } := by
    rw [Heap.get?_update_self f ho (by rw [hf] <;> rfl), hf]
  refine I.write (x := p) (e := p) (by rw [h]; trivial) (.inl rfl) (fun b u hb q => (Heap.get?_update_other _ _ (Ne.symm hb)).trans q) ⟨_, e⟩ ?_
  exact ⟨hz, its', n', r, e⟩
def rSetL : V → V → V → Hp → (Hp → Prop) → Prop := fun o i v H Q => ∃ p xs k j, o = .ref p ∧ i = .int k ∧ H p = some (.lst xs) ∧ ixN xs.length k = some j ∧ Q (upd H p (.lst (xs.set j v)))
theorem set_list : PSet X rSetL := by
  intro pins s σ H o i v ov iv u Q I ro ri rv h
  obtain ⟨p, xs, k, j, rfl, rfl, hp, hj, q⟩ := h
  cases ro
  obtain ⟨t, rfl⟩ := ri
  obtain ⟨its, n, r, ho, hz⟩ := I.lst hp
  obtain ⟨h1, h2, h3, h4⟩ := ixN_seq hj
  have hl := r.length
  have hn := line63
  have I' : Inv X pins σ (upd H p (.lst (xs.set j v))) { s with heap := s.heap.update p (Obj.mapSeq (·.setIfInBounds j u)) } :=
    I.lstUpd hp ho (mapSeq_set its n j u) (r.set rv j) (by rw [List.length_set]; exact hz) s.toks
  by_cases h0 : 0 ≤ k
  · have hk : k.toNat = j := by
      rw [seqIndex_of h0 h4] at h1
      exact Option.some.inj h1
    exact PySem.W.ki_setAt ho h0 (by omega) (by rw [List.size_toArray, ← hl]; exact h4) (by rw [hk]; exact ⟨_, I', q⟩)
  · have hk : (k + (its.toArray.size : Int)).toNat = j := by
      rw [seqIndex_neg (by omega) h3] at h1
      rw [List.size_toArray, ← hl]
      exact Option.some.inj h1
    exact PySem.W.ki_setBack ho (by omega) (by rw [List.size_toArray, ← hl]; exact h3) (by omega) (by rw [hk]; exact ⟨_, I', q⟩)

/-! ### slices -/
theorem slice_bounds (lo hi : Option Int) (n : Nat) : (sliceBounds lo hi none n).1 = ((HT.sIx n 0 lo : Nat) : Int) ∧ (sliceBounds lo hi none n).2.1 = ((HT.sIx n n hi : Nat) : Int) ∧ (sliceBounds lo hi none n).2.2 = 1 := by
  refine ⟨?_, ?_, rfl⟩
  · cases lo with
    | none => simp [sliceBounds, HT.sIx]
    | some i =>
      simp only [sliceBounds, HT.sIx, Option.getD_none, show (1 : Int) > 0 by decide, if_true]
      by_cases h : i < 0
      · simp only [h, if_true] <;> omega
      · simp only [h, if_false] <;> omega
  · cases hi with
    | none => simp [sliceBounds, HT.sIx]
    | some i =>
      simp only [sliceBounds, HT.sIx, Option.getD_none, show (1 : Int) > 0 by decide, if_true]
      by_cases h : i < 0
      · simp only [h, if_true] <;> omega
      · simp only [h, if_false] <;> omega
theorem slicePick_cut (its : List Value) (lo hi : Option Int) : slicePick its.toArray lo hi none = ((its.drop (HT.sIx its.length 0 lo)).take (HT.sIx its.length its.length hi - HT.sIx its.length 0 lo)).toArray := by
  obtain ⟨h1, h2, h3⟩ := slice_bounds lo hi its.toArray.size
  unfold slicePick
  rw [h1, h2, h3]
  simp only [sliceRange_one, pick_run, List.size_toArray] <;> rfl
/-- xs[lo:hi] of a list: a new list -/
def rSlL (K : PySem.W.Frag) : V → Option Int → Option Int → Hp → VK → Prop := fun x lo hi H Q => ∃ a xs, x = .ref a ∧ SqL K H a xs ∧ ∀ p, H p = none → Q (.ref p) (upd H p (.lst (cutV xs lo hi)))
theorem sl_list : SlR X (rSlL X.K) := by
  intro pins s σ H x v vl vu lo hi sl Q I rx hs pl pu h
  obtain ⟨a, xs, rfl, hx, q⟩ := h
  cases rx
  obtain ⟨its, r, ht, hz⟩ := I.list hx
  have hlen := r.length
  refine ⟨"list", _, slot_list_getitem.lookup, ht.isList.typeIs, ?_⟩
  refine wpAny_getItem_list_slice ht.isList hs pl pu .none (by simp) ?_ (by rw [List.size_toArray] <;> omega)
  rw [slicePick_cut, ← hlen]
  refine ⟨.ref s.heap.objs.size, _, I.laid (t' := s.toks) (o := .lst (cutV xs lo hi)) (fun b ob q => Heap.get?_push_of_some _ q) (Nat.le_refl _) ?_, rfl, q _ (I.hok.fresh (Nat.le_refl _))⟩
  exact ⟨Nat.le_trans (cutV_length xs lo hi) hz, _, 0, (r.drop (HT.sIx xs.length 0 lo)).take (HT.sIx xs.length xs.length hi - HT.sIx xs.length 0 lo), Heap.get?_push_size _ rfl⟩

/-! ### in, not in: flat items -/
def flatV : V → Bool
  | .non => true
  | .bl _ => true
  | .int _ => true
  | .str _ => true
  | _ => false
/-- == of flat values -/
def eqV : V → V → Bool
  | .non, .non => true
  | .bl a, .bl b => a == b
  | .bl a, .int b => (if a then 1 else 0) == b
  | .int a, .bl b => a == (if b then 1 else 0)
  | .int a, .int b => a == b
  | .str a, .str b => a == b
  | _, _ => false
theorem eqAt_V {A : Around} {s : Shared} {y x : V} {u v : Value} (ry : RelV y u) (rx : RelV x v) (fy : flatV y = true) (fx : flatV x = true) : SeqAt.EqAt A s u v (eqV y x) := by
  cases y with
  | non =>
    cases ry
    cases x with
    | non => cases rx; exact SeqAt.EqAt.same _
    | bl b => cases rx; exact SeqAt.EqAt.none_bool b
    | int b => obtain ⟨t, rfl⟩ := rx; exact SeqAt.EqAt.none_int b t
    | str b => obtain ⟨t, rfl⟩ := rx; exact SeqAt.EqAt.none_str b t
    | _ => exact absurd (show false = true from fx) Bool.false_ne_true
  | bl a =>
    cases ry
    cases x with
    | non => cases rx; exact SeqAt.EqAt.bool_none a
    | bl b => cases rx; exact SeqAt.EqAt.bool_bool a b
    | int b => obtain ⟨t, rfl⟩ := rx; exact SeqAt.EqAt.bool_int a b t
    | str b => obtain ⟨t, rfl⟩ := rx; exact SeqAt.EqAt.bool_str a b t
    | _ => exact absurd (show false = true from fx) Bool.false_ne_true
  | int a =>
    obtain ⟨t', rfl⟩ := ry
    cases x with
    | non => cases rx; exact SeqAt.EqAt.int_none a t'
    | bl b => cases rx; exact SeqAt.EqAt.int_bool a t' b
    | int b => obtain ⟨t, rfl⟩ := rx; exact SeqAt.EqAt.int_int a t' b t
    | str b => obtain ⟨t, rfl⟩ := rx; exact SeqAt.EqAt.int_str a t' b t
    | _ => exact absurd (show false = true from fx) Bool.false_ne_true
  | str a =>
    obtain ⟨t', rfl⟩ := ry
    cases x with
    | non => cases rx; exact SeqAt.EqAt.str_none a t'
    | bl b => cases rx; exact SeqAt.EqAt.str_bool a t' b
    | int b => obtain ⟨t, rfl⟩ := rx; exact SeqAt.EqAt.str_int a t' b t
    | str b => obtain ⟨t, rfl⟩ := rx; exact SeqAt.EqAt.str_str a t' b t
    | _ => exact absurd (show false = true from fx) Bool.false_ne_true
  | _ => exact absurd (show false = true from fy) Bool.false_ne_true
/-- the items' answers, read off the values (a value's own answer does not lean on its token) -/
def eqU (x : V) (u : Value) : Bool := match u with
  | .none => eqV .non x
  | .bool b => eqV (.bl b) x
  | .int i _ => eqV (.int i) x
  | .str z _ => eqV (.str z) x
  | _ => false
theorem eqU_of {x y : V} {u : Value} (r : RelV y u) (f : flatV y = true) : eqU x u = eqV y x := by
  cases y with
  | non => cases r; rfl
  | bl b => cases r; rfl
  | int i => obtain ⟨t, rfl⟩ := r; rfl
  | str z => obtain ⟨t, rfl⟩ := r; rfl
  | _ => exact absurd (show false = true from f) Bool.false_ne_true
theorem any_eqU {x : V} : ∀ {xs : List V} {us : List Value}, Vals xs us → xs.all flatV = true → us.any (eqU x) = xs.any fun y => eqV y x
  | _, _, .nil, _ => rfl
  | y :: xs, u :: us, .cons r t, f => by
    rw [List.all_cons, Bool.and_eq_true] at f
    rw [List.any_cons, List.any_cons, eqU_of r f.1, any_eqU t f.2]
theorem mem_eqAt {A : Around} {s : Shared} {x : V} {v : Value} (rx : RelV x v) (fx : flatV x = true) : ∀ {xs : List V} {us : List Value}, Vals xs us → xs.all flatV = true → ∀ u ∈ us, SeqAt.EqAt A s u v (eqU x u)
  | _, _, .nil, _ => fun u hu => by cases hu
  | y :: xs, u :: us, .cons r t, f => fun u' hu => by
    rw [List.all_cons, Bool.and_eq_true] at f
    rcases List.mem_cons.mp hu with rfl | hu
    · rw [eqU_of r f.1]; exact eqAt_V r rx f.1 fx
    · exact mem_eqAt rx fx t f.2 u' hu
def inV (x : V) (xs : List V) : Bool := xs.any fun y => eqV y x
/-- x in a list or tuple of flat items -/
def rIn (K : PySem.W.Frag) (neg : Bool) : R2 := fun x y H Q => ∃ p xs, y = .ref p ∧ (SqL K H p xs ∨ SqT K H p xs) ∧ flatV x = true ∧ xs.all flatV = true ∧ Q (.bl (if neg then !inV x xs else inV x xs)) H
theorem op_in_seq : OpR X (compareOp .In) (rIn X.K false) := by
  intro pins s σ H x y v u Q I rx ry h
  obtain ⟨p, xs, rfl, hq, fx, fs, q⟩ := h
  cases ry
  rcases hq with hq | hq
  · obtain ⟨its, r, pl, hz⟩ := I.list hq
    refine SeqAt.in_listAt (eqU x) pl.isList (fun w hw => mem_eqAt rx fx r fs w (by simpa using hw)) ⟨.bl _, H, I, rfl, ?_⟩
    rw [show its.toArray.any (eqU x) = its.any (eqU x) by simp, any_eqU r fs]
    exact q
  · obtain ⟨its, r, pl, hz⟩ := I.tuple hq
    refine SeqAt.in_tupleAt (eqU x) pl (fun w hw => mem_eqAt rx fx r fs w (by simpa using hw)) ⟨.bl _, H, I, rfl, ?_⟩
    rw [show its.toArray.any (eqU x) = its.any (eqU x) by simp, any_eqU r fs]
    exact q
theorem op_notIn_seq : OpR X (compareOp .NotIn) (rIn X.K true) := by
  intro pins s σ H x y v u Q I rx ry h
  obtain ⟨p, xs, rfl, hq, fx, fs, q⟩ := h
  cases ry
  rcases hq with hq | hq
  · obtain ⟨its, r, pl, hz⟩ := I.list hq
    refine SeqAt.notIn_listAt (eqU x) pl.isList (fun w hw => mem_eqAt rx fx r fs w (by simpa using hw)) ⟨.bl _, H, I, rfl, ?_⟩
    rw [show its.toArray.any (eqU x) = its.any (eqU x) by simp, any_eqU r fs]
    exact q
  · obtain ⟨its, r, pl, hz⟩ := I.tuple hq
    refine SeqAt.notIn_tupleAt (eqU x) pl (fun w hw => mem_eqAt rx fx r fs w (by simpa using hw)) ⟨.bl _, H, I, rfl, ?_⟩
    rw [show its.toArray.any (eqU x) = its.any (eqU x) by simp, any_eqU r fs]
    exact q
theorem op_notIn_str : OpR X (compareOp .NotIn) (fun x y H Q => ∃ i j, x = .str i ∧ y = .str j ∧ Q (.bl (!(!(Builtin.Str.occurrences j i 0 j.length 1).isEmpty))) H) := by
  intro pins s σ H x y v u Q I rx ry h
  obtain ⟨i, j, rfl, rfl, q⟩ := h
  obtain ⟨t, rfl⟩ := rx
  obtain ⟨t', rfl⟩ := ry
  exact notIn_str ⟨.bl _, H, I, rfl, q⟩

/-! ### len, list(x), tuple(x) of any list or tuple that is read -/
theorem call_len_seq : CallR X (.builtin "len") (fun xs H Q => ∃ p ys, xs = [.ref p] ∧ (SqL X.K H p ys ∨ SqT X.K H p ys) ∧ Q (.int ys.length) H) := by
  intro pins s σ H xs us Q I r h
  obtain ⟨p, ys, rfl, hq, q⟩ := h
  obtain ⟨u, rfl, rx⟩ := vals1 r
  cases rx
  have hn := line63
  rcases hq with hq | hq
  · obtain ⟨its, r', pl, hz⟩ := I.list hq
    have hlen := r'.length
    exact Calls.call_len_list pl.isList (by simp only [List.size_toArray] <;> omega) ⟨.int ys.length, H, I.tok _, ⟨s.toks + 1, by rw [List.size_toArray, hlen]⟩, q⟩
  · obtain ⟨its, r', pl, hz⟩ := I.tuple hq
    have hlen := r'.length
    exact len_tuple pl (by simp only [List.size_toArray] <;> omega) ⟨.int ys.length, H, I.tok _, ⟨s.toks + 1, by rw [List.size_toArray, hlen]⟩, q⟩
theorem call_len_str : CallR X (.builtin "len") (fun xs H Q => ∃ z, xs = [.str z] ∧ z.length ≤ sizeLine ∧ Q (.int z.length) H) := by
  intro pins s σ H xs us Q I r h
  obtain ⟨z, rfl, hz, q⟩ := h
  obtain ⟨u, rfl, t, rfl⟩ := vals1 r
  have hn := line63
  exact len_str (by omega) ⟨.int z.length, H, I.tok _, ⟨_, rfl⟩, q⟩
theorem CallR.or {f : Value} {r r' : List V → Hp → VK → Prop} (h : CallR X f r) (h' : CallR X f r') : CallR X f (fun xs H Q => r xs H Q ∨ r' xs H Q) := by
  intro pins s σ H xs us Q I rs q
  rcases q with q | q
  · exact h pins s σ H xs us Q I rs q
  · exact h' pins s σ H xs us Q I rs q
theorem call_list_of : CallR X (.type "list") (fun xs H Q => ∃ p ys, xs = [.ref p] ∧ (SqL X.K H p ys ∨ SqT X.K H p ys) ∧ ∀ l, H l = none → Q (.ref l) (upd H l (.lst ys))) := by
  intro pins s σ H xs us Q I r h
  obtain ⟨p, ys, rfl, hq, q⟩ := h
  obtain ⟨u, rfl, rx⟩ := vals1 r
  cases rx
  have fin : ∀ (its : List Value), Vals ys its → ys.length ≤ sizeLine → ∀ (h' : Heap) (c' : Nat), (∀ b o', s.heap.get? b = some o' → h'.get? b = some o') →
      h'.get? s.heap.objs.size = some { cls := .type "list", dict := none, data := .seq its.toArray c', slots := #[] } → EP X pins σ Q (.ref s.heap.objs.size) { s with heap := h' } := fun its r' hz h' c' kp e =>
    ⟨.ref s.heap.objs.size, _, I.laid (t' := s.toks) kp (Nat.le_refl _) (show ObjOk X.prog X.w _ h' _ (.lst ys) from ⟨hz, its, c', r', e⟩), rfl, q _ (I.hok.fresh (Nat.le_refl _))⟩
  rcases hq with hq | hq
  · obtain ⟨its, r', pl, hz⟩ := I.list hq
    have hlen := r'.length
    obtain ⟨o, ho, hc, n, hd⟩ := pl.isList
    exact call_list_seq p (.inl rfl) ho hc hd (fun h' c' kp e => fin its r' hz h' c' kp e) (by simp only [List.size_toArray] <;> omega)
  · obtain ⟨its, r', pl, hz⟩ := I.tuple hq
    have hlen := r'.length
    obtain ⟨o, ho, hc, n, hd⟩ := pl
    exact call_list_seq p (.inr rfl) ho hc hd (fun h' c' kp e => fin its r' hz h' c' kp e) (by simp only [List.size_toArray] <;> omega)
theorem call_tuple_of : CallR X (.type "tuple") (fun xs H Q => ∃ p ys, xs = [.ref p] ∧ ((SqL X.K H p ys ∧ ∀ l, H l = none → Q (.ref l) (upd H l (.tup ys))) ∨ (SqT X.K H p ys ∧ Q (.ref p) H))) := by
  intro pins s σ H xs us Q I r h
  obtain ⟨p, ys, rfl, h⟩ := h
  obtain ⟨u, rfl, rx⟩ := vals1 r
  cases rx
  rcases h with ⟨hq, q⟩ | ⟨hq, q⟩
  · obtain ⟨its, r', pl, hz⟩ := I.list hq
    have hlen := r'.length
    refine call_tuple_list pl.isList (fun h' kp => ?_) (by simp only [List.size_toArray] <;> omega)
    have I1 : Inv X pins σ H { s with heap := h' } := I.kept (t' := s.toks) kp
    have I2 : Inv X pins σ (upd H h'.objs.size (.tup ys)) { s with heap := h'.push { cls := .type "tuple", data := .seq its.toArray } } :=
      I1.laid (t' := s.toks) (fun b o e => Heap.get?_push_of_some _ e) (Nat.le_refl _) (show ObjOk X.prog X.w _ _ _ (.tup ys) from ⟨hz, its, r', IsTup.new _ _⟩)
    exact ⟨.ref h'.objs.size, _, I2, rfl, q _ (I1.hok.fresh (Nat.le_refl _))⟩
  · obtain ⟨its, r', pl, hz⟩ := I.tuple hq
    exact call_tuple_same pl ⟨.ref p, H, I, rfl, q⟩

/-! ### the call of a builtin's method: o.m(..) -/
/-- the value is of that builtin type -/
def tyV (K : PySem.W.Frag) (T : String) (x : V) (H : Hp) : Prop := match x with
  | .str _ => T = "str"
  | .int _ => T = "int"
  | .ref p => (T = "list" ∧ ∃ xs, SqL K H p xs) ∨ (T = "tuple" ∧ ∃ o, K.lookup p = some o ∧ o.cls = .type "tuple" ∧ o.dict = none) ∨
      (T = "dict" ∧ ((∃ kvs, H p = some (.dK kvs)) ∨ ∃ kvs, H p = some (.dT kvs))) ∨ (T = "set" ∧ ∃ S n, H p = some (.set S n))
  | _ => False
theorem tyV_is {pins : List (Addr × Obj)} {σ : St} {H : Hp} {s : Shared} {T : String} {x : V} {v : Value} (I : Inv X pins σ H s) (r : RelV x v) (ty : tyV X.K T x H) :
    s.TypeIs v T ∧ ∀ a, v = .ref a → ∃ ob, s.heap.get? a = some ob ∧ ob.dict = none := by
  cases x with
  | str z =>
    obtain ⟨t, rfl⟩ := r
    cases (show T = "str" from ty)
    exact ⟨typeIs_str s z t, fun _ e => nomatch e⟩
  | int i =>
    obtain ⟨t, rfl⟩ := r
    cases (show T = "int" from ty)
    exact ⟨typeIs_int s i t, fun _ e => nomatch e⟩
  | ref p =>
    cases r
    rcases ty with ⟨rfl, xs, hq⟩ | ⟨rfl, o, hk, hc, hd⟩ | ⟨rfl, hk⟩ | ⟨rfl, S, n, hk⟩
    · obtain ⟨its, _, pl, _⟩ := I.list hq
      refine ⟨pl.isList.typeIs, fun a e => ?_⟩
      cases e
      obtain ⟨o, n, e, c, hd, _⟩ := pl
      exact ⟨o, e, hd⟩
    · refine ⟨⟨o, I.kIn p o hk, hc⟩, fun a e => ?_⟩
      cases e
      exact ⟨o, I.kIn _ o hk, hd⟩
    · have z : ∃ o, s.heap.get? p = some o ∧ o.ExactDict := by
        rcases hk with ⟨kvs, hk⟩ | ⟨kvs, hk⟩
        · obtain ⟨_, _, _, _, o, _, _, e, ex, _⟩ := I.hok p _ hk
          exact ⟨o, e, ex⟩
        · obtain ⟨_, _, _, _, o, _, _, e, ex, _⟩ := I.hok p _ hk
          exact ⟨o, e, ex⟩
      obtain ⟨o, e, ex⟩ := z
      refine ⟨⟨o, e, ex.1⟩, fun a e2 => ?_⟩
      cases e2
      exact ⟨o, e, ex.2.1⟩
    · obtain ⟨o, _, _, _, e, ex, _⟩ := I.hok p _ hk
      refine ⟨⟨o, e, ex.1⟩, fun a e2 => ?_⟩
      cases e2
      exact ⟨o, e, ex.2.1⟩
  | _ => exact False.elim ty
def tBM0 (K : PySem.W.Frag) (T : String) (r : V → List V → Hp → VK → Prop) (to : TE) : TE := fun σ H Q => to σ H fun x H1 => tyV K T x H1 ∧ r x [] H1 Q
def tBM (K : PySem.W.Frag) (T : String) (r : V → List V → Hp → VK → Prop) (to : TE) (t : TA) : TE := fun σ H Q => to σ H fun x H1 => tyV K T x H1 ∧ t σ H1 fun xs H2 => r x xs H2 Q
variable {o e : Expr} {es : List Expr} {to : TE} {t : TA} {name : Str} {apos cpos : Pos} {T id : String} {r : V → List V → Hp → VK → Prop}
theorem pe_bm0 (pa : PlainAttrs T) (slot : Slot T name id) (hty : typeOf (.builtin id) = pure (.type "method_descriptor")) (hm : MtR X id r) (ho : PE X o to)
    (hbase : attributeBase o name X.env (eval o X.env) = eval o X.env := by rfl) (hline : (apos.endLine == cpos.line) = true := by rfl) : PE X (.Call (.Attribute o name apos) [] [] cpos) (tBM0 X.K T r to) := by
  intro pins s σ H Q I h
  refine wpAny_Call_method0_late hbase hline (thn (ho pins s σ H _ I h) fun v s1 ⟨x, H1, I1, r1, ty, q1⟩ => ?_)
  obtain ⟨h1, h2⟩ := tyV_is I1 r1 ty
  exact ⟨T, id, pa, slot, hty, h1, h2, Calls.callWith_builtin rfl (PySem.evalArgs_none (hm pins s1 σ H1 x [] v [] Q I1 r1 .nil q1))⟩
theorem pe_bm (pa : PlainAttrs T) (slot : Slot T name id) (hty : typeOf (.builtin id) = pure (.type "method_descriptor")) (hm : MtR X id r) (ho : PE X o to) (ha : PA X (e :: es) t)
    (hbase : attributeBase o name X.env (eval o X.env) = eval o X.env := by rfl)
    (hfew : ((backTo cpos (starEach (e :: es) X.env)).all (fun x => !x.1) && (backToKw cpos (keywordEach [] X.env)).all (fun x => x.1.isSome)
      && decide ((e :: es).length + ([] : List Keyword).length + (if ([] : List Keyword).isEmpty then 0 else 1) < 30)) = true := by rfl)
    (hline : (apos.endLine == cpos.line) = true := by rfl) (hs : starEach (e :: es) X.env = (false, eval e X.env) :: starEach es X.env := by rfl) (hplain : (backTo cpos (starEach es X.env)).any (·.1) = false := by rfl) :
    PE X (.Call (.Attribute o name apos) (e :: es) [] cpos) (tBM X.K T r to t) := by
  intro pins s σ H Q I h
  refine wpAny_Call_method_late hbase hfew hline rfl (thn (ho pins s σ H _ I h) fun v s1 ⟨x, H1, I1, r1, ty, q1⟩ => ?_)
  obtain ⟨h1, h2⟩ := tyV_is I1 r1 ty
  refine ⟨T, id, pa, slot, hty, h1, h2, ?_⟩
  have hA := ha cpos pins s1 σ H1 _ I1 q1
  rw [hs] at hA ⊢
  refine Calls.callWith_builtin (by show (false || (backTo cpos (starEach es X.env)).any (·.1)) = false; rw [hplain] <;> rfl) (Calls.evalArgs_plain ?_)
  exact thn hA fun us s2 ⟨vs, H2, I2, r2, q2⟩ => hm pins s2 σ H2 x vs v us Q I2 r1 r2 q2
/- xs.append(e), list.index on a module's tuple .. are MtR facts of 06m -/
end
end L2

namespace L2
open PySem PySem.Spec PyProof.Rows

def MtM (X : Cx) (id : String) (r : V → List V → Hp → VK → Prop) : Prop :=
  ∀ (pins : List (Addr × Obj)) (s : Shared) (σ : St) (H : Hp) (x : V) (xs : List V) (v : Value) (us : List Value) (Q : VK), Inv X pins σ H s → RelV x v → Vals xs us → r x xs H Q →
    wpAny (model X.prog X.w) X.A (call (.builtin id) (v :: us)) (EP X pins σ Q) X.xe s

/-! ### lists of values -/
theorem Vals.one : ∀ {x : V} {us : List Value}, Vals [x] us → ∃ u, us = [u] ∧ RelV x u
  | _, _, .cons r .nil => ⟨_, rfl, r⟩
theorem Vals.two : ∀ {x y : V} {us : List Value}, Vals [x, y] us → ∃ u v, us = [u, v] ∧ RelV x u ∧ RelV y v
  | _, _, _, .cons r (.cons q .nil) => ⟨_, _, rfl, r, q⟩
theorem Vals.zero : ∀ {us : List Value}, Vals [] us → us = []
  | _, .nil => rfl
theorem Vals.dropLast {xs : List V} {us : List Value} (h : Vals xs us) : Vals xs.dropLast us.dropLast := by
  induction h with
  | nil => exact .nil
  | cons r t ih =>
    cases t with
    | nil => exact .nil
    | cons q t' => exact .cons r ih
theorem Vals.eraseIdx : ∀ {xs : List V} {us : List Value} (i : Nat), Vals xs us → Vals (xs.eraseIdx i) (us.eraseIdx i)
  | _, _, _, .nil => .nil
  | _, _, 0, .cons _ t => t
  | _, _, i + 1, .cons r t => .cons r (Vals.eraseIdx i t)
theorem Vals.reverse {xs : List V} {us : List Value} (h : Vals xs us) : Vals xs.reverse us.reverse := by
  induction h with
  | nil => exact .nil
  | cons r t ih => rw [List.reverse_cons, List.reverse_cons]; exact Vals.append ih (.cons r .nil)
theorem Vals.rep {xs : List V} {us : List Value} (h : Vals xs us) : ∀ k : Nat, Vals (List.replicate k xs).flatten (List.replicate k us).flatten
  | 0 => .nil
  | k + 1 => by
    rw [List.replicate_succ, List.replicate_succ, List.flatten_cons, List.flatten_cons]
    exact Vals.append h (Vals.rep h k)
theorem erase_last {α : Type} (l : List α) : l.eraseIdx (l.length - 1) = l.dropLast := by
  induction l with
  | nil => rfl
  | cons a r ih =>
    cases r with
    | nil => rfl
    | cons b r =>
      have e : (a :: b :: r).length - 1 = ((b :: r).length - 1) + 1 := by
        have h1 : (a :: b :: r).length = r.length + 2 := rfl
        have h2 : (b :: r).length = r.length + 1 := rfl
        omega
      rw [e, List.eraseIdx_cons_succ, ih]
      all_goals rfl
theorem len_erase {α : Type} : ∀ (l : List α) (i : Nat), (l.eraseIdx i).length ≤ l.length
  | [], _ => Nat.le_refl _
  | _ :: _, 0 => Nat.le_succ _
  | _ :: r, i + 1 => Nat.succ_le_succ (len_erase r i)
theorem foldl_rep (its : List Value) : ∀ (k : Nat) (acc : List Value),
    List.foldl (fun x1 x2 => x1 ++ x2) acc.toArray (List.replicate k its.toArray) = (acc ++ (List.replicate k its).flatten).toArray
  | 0, acc => by simp
  | k + 1, acc => by
    have e : acc.toArray ++ its.toArray = (acc ++ its).toArray := by simp
    have e2 : (acc ++ its) ++ (List.replicate k its).flatten = acc ++ (List.replicate (k + 1) its).flatten := by
      rw [List.replicate_succ, List.flatten_cons, List.append_assoc]
    rw [← e2, ← foldl_rep its k (acc ++ its), ← e, List.replicate_succ, List.foldl_cons]

section
variable {X : Cx} {pins : List (Addr × Obj)} {σ : St} {H : Hp} {s : Shared} {l b : Addr} {xs ys zs : List V}

/-! ### the two steps: a tracked list is rewritten, a new list is laid -/
theorem Inv.lset {its its' : List Value} {n : Nat} {f : Array Value → Array Value} {t' : Nat} (I : Inv X pins σ H s) (hH : H l = some (.lst xs))
    (e : s.heap.get? l = some { cls := .type "list", data := .seq its.toArray n }) (hf : f its.toArray = its'.toArray) (hv : Vals ys its') (hz : ys.length ≤ sizeLine) :
    Inv X pins σ (upd H l (.lst ys)) { s with heap := s.heap.update l (Obj.mapSeq f), toks := t' } := by
  have q := PySem.IsL.update e f
  rw [hf] at q
  refine I.write (x := l) (e := l) (by rw [hH]; exact trivial) (.inl rfl) (fun b' u hb hu => (Heap.get?_update_other s.heap (Obj.mapSeq f) (Ne.symm hb)).trans hu) ⟨_, q⟩ ?_
  exact ⟨hz, its', _, hv, q⟩
theorem Inv.lnew {its : List Value} {t' : Nat} (I : Inv X pins σ H s) (hv : Vals ys its) (hz : ys.length ≤ sizeLine) :
    Inv X pins σ (upd H s.heap.objs.size (.lst ys)) { s with heap := s.heap.push { cls := .type "list", data := .seq its.toArray }, toks := t' } :=
  I.laid (fun _ _ q => Heap.get?_push_of_some _ q) (Nat.le_refl _) ⟨hz, its, 0, hv, Heap.get?_push_size _ rfl⟩
theorem Inv.fresh (I : Inv X pins σ H s) : H s.heap.objs.size = none := I.hok.fresh (Nat.le_refl _)
theorem Inv.lstM (I : Inv X pins σ H s) (hH : H l = some (.lst xs)) : xs.length ≤ sizeLine ∧ ∃ (its : List Value) (n : Nat), Vals xs its ∧ xs.length = its.length ∧ s.heap.get? l = some { cls := .type "list", data := .seq its.toArray n } := by
  obtain ⟨z, its, n, r, e⟩ := I.hok l _ hH
  exact ⟨z, its, n, r, r.length, e⟩

theorem notLongL {n : Nat} (h : n ≤ sizeLine) : Builtin.List.listTooLong n = false := by
  unfold Builtin.List.listTooLong
  exact decide_eq_false (by omega)
end

section
variable {X : Cx}

/-! ### methods -/
def rAppend : V → List V → Hp → VK → Prop := fun x vs H Q => ∃ l xs y, x = .ref l ∧ vs = [y] ∧ H l = some (.lst xs) ∧ xs.length < sizeLine ∧ Q .non (upd H l (.lst (xs ++ [y])))
theorem mt_append : MtM X "list.append" rAppend := by
  intro pins s σ H x vs v us Q I rx rv h
  obtain ⟨l, xs, y, rfl, rfl, hH, hz, q⟩ := h
  cases rx
  obtain ⟨u, rfl, ru⟩ := rv.one
  obtain ⟨z, its, n, r, hl, e⟩ := I.lstM hH
  refine call_meets F.slot_list_append ⟨_, e, rfl⟩ F.entry_list_append (F.args_list_append_2 _ _) (PySem.list_append l its.toArray n u (by rw [List.size_toArray]; omega)) ⟨e, ?_⟩
  refine ⟨.non, _, I.lset (its' := its ++ [u]) hH e (by simp) (r.append (.cons ru .nil)) ?_, rfl, q⟩
  rw [List.length_append, List.length_singleton]
  omega

def rExtend : V → List V → Hp → VK → Prop := fun x vs H Q => ∃ l b xs zs, x = .ref l ∧ vs = [.ref b] ∧ H l = some (.lst xs) ∧ H b = some (.lst zs) ∧ xs.length + zs.length ≤ sizeLine ∧ Q .non (upd H l (.lst (xs ++ zs)))
theorem mt_extend : MtM X "list.extend" rExtend := by
  intro pins s σ H x vs v us Q I rx rv h
  obtain ⟨l, b, xs, zs, rfl, rfl, hH, hB, hz, q⟩ := h
  cases rx
  obtain ⟨u, rfl, ru⟩ := rv.one
  cases ru
  obtain ⟨z, its, n, r, hl, e⟩ := I.lstM hH
  obtain ⟨z2, its2, n2, r2, hl2, e2⟩ := I.lstM hB
  have hsz : its.toArray.size + its2.toArray.size ≤ sizeLine := by rw [List.size_toArray, List.size_toArray]; omega
  have hlong : ¬ (!its.toArray.isEmpty && Builtin.List.listTooLong (its.toArray.size + its2.toArray.size)) = true := by
    rw [notLongL hsz, Bool.and_false]
    exact Bool.false_ne_true
  refine call_meets F.slot_list_extend ⟨_, e, rfl⟩ F.entry_list_extend (F.args_list_extend_2 _ _)
    (AutoSeq1.list_extend_list_list_0 l its.toArray n b its2.toArray n2 hlong (by rw [List.size_toArray]; omega) (by omega)) ⟨e, e2, ?_⟩
  refine ⟨.non, _, I.lset (its' := its ++ its2) hH e (by simp) (r.append r2) ?_, rfl, q⟩
  rw [List.length_append]
  omega

def rPop : V → List V → Hp → VK → Prop := fun x vs H Q => ∃ l xs y, x = .ref l ∧ vs = [] ∧ H l = some (.lst xs) ∧ xs[xs.length - 1]? = some y ∧ Q y (upd H l (.lst xs.dropLast))
theorem mt_pop : MtM X "list.pop" rPop := by
  intro pins s σ H x vs v us Q I rx rv h
  obtain ⟨l, xs, y, rfl, rfl, hH, hy, q⟩ := h
  cases rx
  have hus := rv.zero
  subst hus
  obtain ⟨z, its, n, r, hl, e⟩ := I.lstM hH
  obtain ⟨u, hu, ru⟩ := r.get hy
  have hy' : its.toArray[its.toArray.size - 1]? = some u := by
    show its.toArray[its.length - 1]? = some u
    rw [← Array.getElem?_toList, ← hl]
    exact hu
  refine call_meets F.slot_list_pop ⟨_, e, rfl⟩ F.entry_list_pop (F.args_list_pop_1 _) (MeetsSeq.list_pop_last l its.toArray n u hy' (by rw [List.size_toArray]; omega)) ⟨e, ?_⟩
  refine ⟨y, _, I.lset (its' := its.dropLast) hH e ?_ r.dropLast ?_, ru, q⟩
  · show its.toArray.eraseIdxIfInBounds (its.toArray.size - 1) = its.dropLast.toArray
    rw [List.size_toArray, List.eraseIdxIfInBounds_toArray, erase_last]
  · rw [List.length_dropLast]
    omega

def rPopAt : V → List V → Hp → VK → Prop := fun x vs H Q => ∃ l xs i k y, x = .ref l ∧ vs = [.int i] ∧ H l = some (.lst xs) ∧ -(2 ^ 63) ≤ i ∧ i < 2 ^ 63 ∧ seqIndex? i xs.length = some k ∧ xs[k]? = some y ∧ Q y (upd H l (.lst (xs.eraseIdx k)))
theorem mt_popAt : MtM X "list.pop" rPopAt := by
  intro pins s σ H x vs v us Q I rx rv h
  obtain ⟨l, xs, i, k, y, rfl, rfl, hH, h1, h2, hk, hy, q⟩ := h
  cases rx
  obtain ⟨u, rfl, ru⟩ := rv.one
  obtain ⟨t, rfl⟩ := ru
  obtain ⟨z, its, n, r, hl, e⟩ := I.lstM hH
  obtain ⟨w, hw, rw'⟩ := r.get hy
  refine call_meets F.slot_list_pop ⟨_, e, rfl⟩ F.entry_list_pop (F.args_list_pop_2 _ _)
    (MeetsSeq.list_pop_at l its.toArray n i t k w (fitsIndex_both h1 h2) (by rw [List.size_toArray, ← hl]; exact hk) (by rw [← Array.getElem?_toList]; exact hw) (by rw [List.size_toArray]; omega)) ⟨e, ?_⟩
  refine ⟨y, _, I.lset (its' := its.eraseIdx k) hH e ?_ (r.eraseIdx k) ?_, rw', q⟩
  · show its.toArray.eraseIdxIfInBounds k = (its.eraseIdx k).toArray
    rw [List.eraseIdxIfInBounds_toArray]
  · have := len_erase xs k
    omega

def rReverse : V → List V → Hp → VK → Prop := fun x vs H Q => ∃ l xs, x = .ref l ∧ vs = [] ∧ H l = some (.lst xs) ∧ Q .non (upd H l (.lst xs.reverse))
theorem mt_reverse : MtM X "list.reverse" rReverse := by
  intro pins s σ H x vs v us Q I rx rv h
  obtain ⟨l, xs, rfl, rfl, hH, q⟩ := h
  cases rx
  have hus := rv.zero
  subst hus
  obtain ⟨z, its, n, r, hl, e⟩ := I.lstM hH
  refine call_meets F.slot_list_reverse ⟨_, e, rfl⟩ F.entry_list_reverse (F.args_list_reverse_1 _) (AutoSeq1.list_reverse_list_0 l its.toArray n (by rw [List.size_toArray]; omega)) ⟨e, ?_⟩
  refine ⟨.non, _, I.lset (its' := its.reverse) hH e (by simp) r.reverse ?_, rfl, q⟩
  rw [List.length_reverse]
  omega

def rClear : V → List V → Hp → VK → Prop := fun x vs H Q => ∃ l xs, x = .ref l ∧ vs = [] ∧ H l = some (.lst xs) ∧ Q .non (upd H l (.lst []))
theorem mt_clear : MtM X "list.clear" rClear := by
  intro pins s σ H x vs v us Q I rx rv h
  obtain ⟨l, xs, rfl, rfl, hH, q⟩ := h
  cases rx
  have hus := rv.zero
  subst hus
  obtain ⟨z, its, n, r, hl, e⟩ := I.lstM hH
  refine call_meets F.slot_list_clear ⟨_, e, rfl⟩ F.entry_list_clear (F.args_list_clear_1 _) (AutoSeq1.list_clear_list_0 l its.toArray n (by rw [List.size_toArray]; omega)) ⟨e, ?_⟩
  exact ⟨.non, _, I.lset (its' := []) (ys := []) hH e rfl .nil (Nat.zero_le _), rfl, q⟩

/-! ### list + list, list += list, list * int -/
def rCat : R2 := fun x y H Q => ∃ l b xs zs, x = .ref l ∧ y = .ref b ∧ H l = some (.lst xs) ∧ H b = some (.lst zs) ∧ xs.length + zs.length ≤ sizeLine ∧ ∀ p, H p = none → Q (.ref p) (upd H p (.lst (xs ++ zs)))
theorem op_cat : OpR X (binaryOp .Add) rCat := by
  intro pins s σ H x y v u Q I rx ry h
  obtain ⟨l, b, xs, zs, rfl, rfl, hH, hB, hz, q⟩ := h
  cases rx
  cases ry
  obtain ⟨z, its, n, r, hl, e⟩ := I.lstM hH
  obtain ⟨z2, its2, n2, r2, hl2, e2⟩ := I.lstM hB
  refine PySem.P.add_list e e2 ?_ (by rw [List.size_toArray, List.size_toArray]; omega)
  have ea : its.toArray ++ its2.toArray = (its ++ its2).toArray := by simp
  rw [ea]
  exact ⟨.ref _, _, I.lnew (t' := s.toks) (r.append r2) (by rw [List.length_append]; omega), rfl, q _ I.fresh⟩
/-- a list times an int (a negative one is nothing) -/
def rRep : R2 := fun x y H Q => ∃ l k xs, x = .ref l ∧ y = .int k ∧ H l = some (.lst xs) ∧ -(2 ^ 63) ≤ k ∧ k < 2 ^ 63 ∧ xs.length * k.toNat ≤ sizeLine ∧
  ∀ p, H p = none → Q (.ref p) (upd H p (.lst (List.replicate k.toNat xs).flatten))
theorem len_rep {α : Type} (xs : List α) (k : Nat) : (List.replicate k xs).flatten.length = k * xs.length := by
  induction k with
  | zero => simp
  | succ k ih => rw [List.replicate_succ, List.flatten_cons, List.length_append, ih, Nat.succ_mul, Nat.add_comm]
theorem op_rep : OpR X (binaryOp .Mult) rRep := by
  intro pins s σ H x y v u Q I rx ry h
  obtain ⟨l, k, xs, rfl, rfl, hH, h1, h2, hz, q⟩ := h
  cases rx
  obtain ⟨t, rfl⟩ := ry
  obtain ⟨z, its, n, r, hl, e⟩ := I.lstM hH
  have hlen : its.toArray.size * k.toNat ≤ sizeLine := by rw [List.size_toArray, ← hl]; exact hz
  have hcap : ¬ its.toArray.size * k.toNat > (2 ^ 63 - 1) / 8 := by
    have : (sizeLine : Nat) ≤ (2 ^ 63 - 1) / 8 := by decide
    omega
  have hfit : ¬ (!Builtin.List.listFitsIndex k) = true := by
    rw [fitsIndex_both h1 h2]
    exact Bool.false_ne_true
  have hlong : ¬ Builtin.List.listTooLong (its.toArray.size * k.toNat) = true := by
    rw [notLongL hlen]
    exact Bool.false_ne_true
  have hnew : List.foldl (fun x1 x2 => x1 ++ x2) #[] (List.replicate (if its.toArray.isEmpty = true then 0 else k.toNat) its.toArray) = (List.replicate k.toNat its).flatten.toArray := by
    have f0 : ∀ m : Nat, List.foldl (fun x1 x2 => x1 ++ x2) #[] (List.replicate m its.toArray) = (List.replicate m its).flatten.toArray := fun m => by
      have := foldl_rep its m []
      rw [List.nil_append] at this
      exact this
    rw [f0]
    cases its with
    | nil => simp
    | cons a r' => rw [if_neg (by simp)]
  refine wpAny_binaryOp_repeat_ref (T := "list") (U := "int") (by decide) ⟨_, e, rfl⟩ (fun s' => typeIs_int s' k t) noFill_list_mul F.fills_int_mul F.slot_int_rmul repeat_list F.slot_int_index.lookup
    (call_meets F.slot_int_rmul (typeIs_int s k t) F.entry_int_rmul (F.args_int_rmul_2 _ _) (int___rmul___int_list k t l its.toArray n)
      ⟨e, rfl, ⟨_, e, rfl⟩, call_meets F.slot_list_mul ⟨_, e, rfl⟩ F.entry_list_mul (F.args_list_mul_2 _ _) (AutoListH.list___mul___list_int_3 l its.toArray n k t hfit hcap hlong) ⟨e, ?_⟩⟩)
  rw [hnew]
  exact ⟨.ref _, _, I.lnew (t' := s.toks) (r.rep k.toNat) (by rw [len_rep, Nat.mul_comm]; exact hz), rfl, q _ I.fresh⟩

/-! ### del xs[i] -/
theorem del_list {pins : List (Addr × Obj)} {s : Shared} {σ : St} {H : Hp} {l : Addr} {xs : List V} {i : Int} {t : Tok} {k : Nat} {Q : Unit → Shared → Prop} (I : Inv X pins σ H s) (hH : H l = some (.lst xs))
    (h1 : -(2 ^ 63) ≤ i) (h2 : i < 2 ^ 63) (hk : seqIndex? i xs.length = some k) (h : ∀ s', Inv X pins σ (upd H l (.lst (xs.eraseIdx k))) s' → Q () s') :
    wpAny (model X.prog X.w) X.A (delItem (.ref l) (.int i t)) Q X.xe s := by
  obtain ⟨z, its, n, r, hl, e⟩ := I.lstM hH
  refine PySem.P.delItem_list (k := k) e (fitsIndex_both h1 h2) (by rw [List.size_toArray, ← hl]; exact hk) (h _ ?_) (by rw [List.size_toArray]; omega)
  refine I.lset (its' := its.eraseIdx k) (t' := s.toks) hH e ?_ (r.eraseIdx k) ?_
  · show its.toArray.eraseIdxIfInBounds k = (its.eraseIdx k).toArray
    rw [List.eraseIdxIfInBounds_toArray]
  · have := len_erase xs k
    omega
end

/-! ### xs[a:b] = ys -/
section
variable {prog : Program} {w : World} {A : Around} {E : Value → Shared → Prop} {s : Shared}
theorem splice_eq (its its2 : List Value) (a c : Nat) : its.toArray.extract 0 a ++ its2.toArray ++ its.toArray.extract c its.toArray.size = (its.take a ++ its2 ++ its.drop c).toArray := by
  apply Array.toList_inj.mp
  first
    | (simp
       exact List.take_of_length_le (by simp))
    | simp [List.take_of_length_le]
    | simp
theorem bounds_run {a c n : Nat} (hac : a ≤ c) (hc : c ≤ n) : sliceBounds (some (a : Int)) (some (c : Int)) none n = ((a : Int), (c : Int), 1) := by
  simp only [sliceBounds, Option.getD_none]
  have h1 : ¬ ((a : Int) < 0) := by omega
  have h2 : ¬ ((c : Int) < 0) := by omega
  simp only [h1, h2, if_false, show (1 : Int) > 0 by decide, if_true]
  congr 1
  · omega
  · congr 1; omega
set_option maxRecDepth 100000 in
/-- list.__setitem__ with a slice of step one and another list -/
theorem setItem_slice {l b sl : Addr} {items new : Array Value} {n n2 : Nat} {vl vu : Value} {a c : Nat} {Q : Unit → Shared → Prop}
    (e : s.heap.get? l = some { cls := .type "list", data := .seq items n }) (e2 : s.heap.get? b = some { cls := .type "list", data := .seq new n2 }) (hne : l ≠ b)
    (hs : s.heap.IsSliceOf sl vl vu .none) (pl : IsPart vl (some (a : Int))) (pu : IsPart vu (some (c : Int))) (hac : a ≤ c) (hc : c ≤ items.size)
    (hsz : items.size + new.size ≤ sizeLine) (h : Q () { s with heap := s.heap.update l (Obj.mapSeq fun xs => xs.extract 0 a ++ new ++ xs.extract c xs.size) }) :
    wpAny (model prog w) A (setItem (.ref l) (.ref sl) (.ref b)) Q E s := by
  have hl : s.heap.IsList l items := PySem.IsL.isList e
  have hb : s.heap.IsList b new := PySem.IsL.isList e2
  obtain ⟨os, hos, hcs, hds⟩ := id hs
  have hTs : s.TypeIs (.ref sl) "slice" := ⟨os, hos, hcs⟩
  have hstep : ¬ ((rawPart none == rawInt 0) = true) := Bool.false_ne_true
  have hsame : Builtin.List.listSameRef (.ref l) (.ref b) = false := by
    unfold Builtin.List.listSameRef
    exact beq_eq_false_iff_ne.mpr hne
  have hmax : (max (a : Int) (c : Int)).toNat = c := by omega
  have hz' : ((fun xs : Array Value => xs.extract 0 a ++ new ++ xs.extract c xs.size) items).size ≤ sizeLine + 1 := by
    simp only [Array.size_append, Array.size_extract]
    omega
  unfold setItem
  try with_reducible refine wpAny_holding ?_
  first | refine wpAny_bind (wpAny_pure ?_) | skip
  refine wpAny_bind (wpAny_sequenceKey hl.typeIs (by decide) ?_)
  refine wpAny_bind (wpAny_callSpecial?_slot (name := Str.ofString "__setitem__") hl.typeIs slot_list_setitem
    (wpAny_call_entry slot_list_setitem hl.typeIs entry_list_setitem ?_ (args_list_setitem _ _ _)))
  show wpAny _ _ (Builtin.List.listSubscript? (.ref sl) >>= _) _ _ s
  refine wpAny_bind ?_
  unfold Builtin.List.listSubscript?
  refine wpAny_bind (wpAny_specialOf hTs slice_no_index ?_)
  simp only [Option.isNone_none, if_true]
  refine wpAny_pure ?_
  show wpAny _ _ (typeOf (.ref sl) >>= _) _ _ s
  refine wpAny_bind (wpAny_typeOf hTs ?_)
  first
    | rw [if_neg (by decide)]
    | refine PySem.W.KFB.if_not (by decide) ?_
  rw [listSliceParts_eq]
  refine wpAny_bind (wpAny_bind (wpAny_field hos hds (x := .none) rfl (wpAny_bind (wpAny_listPart .none ?_))))
  rw [if_neg hstep]
  refine wpAny_bind (wpAny_field hos hds (x := vl) rfl (wpAny_bind (wpAny_listPart pl ?_)))
  refine wpAny_bind (wpAny_field hos hds (x := vu) rfl (wpAny_bind (wpAny_listPart pu (wpAny_pure ?_))))
  first
    | simp only [hsame, Bool.false_eq_true, if_false]
    | refine PySem.W.KFB.if_not hsame ?_
    | (dsimp only
       rw [if_neg (by rw [hsame]; exact Bool.false_ne_true)])
  refine wpAny_bind (m := Builtin.List.listAllItems (.ref b) "must assign iterable to extended slice") ?_
  unfold Builtin.List.listAllItems
  refine wpAny_bind (wpAny_typeOf hb.typeIs ?_)
  first
    | refine PySem.W.KFB.if_so (by decide) ?_
    | rw [if_pos (by decide)]
    | simp only [beq_self_eq_true, Bool.true_or, if_true]
  unfold Builtin.List.listItems
  refine wpAny_bind (wpAny_seqItems e2 rfl (wpAny_pure ?_))
  refine wpAny_bind (wpAny_bind (wpAny_seqItems e rfl (wpAny_pure ?_)))
  refine wpAny_bind (wpAny_of_eq ((sliceIndices_raw (some (a : Int)) (some (c : Int)) none items.size (by simp)).trans (congrArg (pure : Int × Int × Int → Sem (Int × Int × Int)) (bounds_run hac hc))) ?_)
  show wpAny _ _ (if ((1 : Int) == 1) = true then _ else _) _ _ s
  rw [if_pos (by decide)]
  refine wpAny_bind (wpAny_rule ?_)
  first
    | simp only [notLongL hsz, Bool.false_eq_true, if_false]
    | refine PySem.W.KFB.if_not (notLongL hsz) ?_
  first | refine wpAny_bind (wpAny_pure ?_) | skip
  show wpAny _ _ (updateSeq l (fun xs => xs.extract 0 ((a : Int)).toNat ++ new ++ xs.extract (max (a : Int) (c : Int)).toNat xs.size) >>= _) _ _ s
  rw [hmax, Int.toNat_natCast]
  refine wpAny_bind (wpAny_updateSeq (hz := Nat.le_trans (Nat.le_add_right _ _) hsz) (_hz' := hz') e rfl ?_)
  refine wpAny_bind (wpAny_letGo ?_)
  first
    | exact wpAny_bind (wpAny_pure (wpAny_pure ⟨.none, rfl, wpAny_pure h⟩))
    | exact wpAny_pure ⟨.none, rfl, wpAny_pure h⟩
end

section
variable {X : Cx}
/-- xs[a:c] = ys of another list, at the value level: sl is the slice object that was just made -/
theorem set_slice {pins : List (Addr × Obj)} {s : Shared} {σ : St} {H : Hp} {l b sl : Addr} {xs ys : List V} {a c : Int} {vl vu : Value} {Q : Unit → Shared → Prop} (I : Inv X pins σ H s)
    (hH : H l = some (.lst xs)) (hB : H b = some (.lst ys)) (hne : l ≠ b) (hs : s.heap.IsSliceOf sl vl vu .none) (ra : RelV (.int a) vl) (rc : RelV (.int c) vu) (h0 : 0 ≤ a) (hac : a ≤ c) (hc : c ≤ xs.length)
    (hz : xs.length + ys.length ≤ sizeLine) (h : ∀ s', Inv X pins σ (upd H l (.lst (xs.take a.toNat ++ ys ++ xs.drop c.toNat))) s' → Q () s') :
    wpAny (model X.prog X.w) X.A (setItem (.ref l) (.ref sl) (.ref b)) Q X.xe s := by
  obtain ⟨ta, rfl⟩ := ra
  obtain ⟨tc, rfl⟩ := rc
  obtain ⟨z, its, n, r, hl, e⟩ := I.lstM hH
  obtain ⟨z2, its2, n2, r2, hl2, e2⟩ := I.lstM hB
  obtain ⟨a', rfl⟩ := Int.eq_ofNat_of_zero_le h0
  obtain ⟨c', rfl⟩ := Int.eq_ofNat_of_zero_le (Int.le_trans h0 hac)
  simp only [Int.toNat_natCast] at h
  refine setItem_slice (a := a') (c := c') e e2 hne hs (.int _ _) (.int _ _) (by omega) (by rw [List.size_toArray]; omega) (by rw [List.size_toArray, List.size_toArray]; omega) (h _ ?_)
  refine I.lset (its' := its.take a' ++ its2 ++ its.drop c') (t' := s.toks) hH e ?_ (Vals.append (Vals.append (r.take _) r2) (r.drop _)) ?_
  · exact splice_eq its its2 a' c'
  · rw [List.length_append, List.length_append, List.length_take, List.length_drop]
    omega
end
end L2

namespace Att
open PySem PySem.W PySem.Calls PyProof.Rows

/-! ### the script -/
theorem ints_of_wellAll {P : Params} {h : Heap} : ∀ (ns : List Int) (vs : List Value), WellAll P h vs (ns.map WData.int) → IntsAre vs ns := by
  intro ns
  induction ns with
  | nil =>
    intro vs w
    rw [List.map_nil] at w
    cases w
    exact .nil
  | cons n ns ih =>
    intro vs w
    rw [List.map_cons] at w
    cases w with
    | cons a b =>
      cases a
      exact .cons _ _ (ih _ b)

theorem script_of {l : OpenLaw} {n : Nat} (hn : l.most = some n) {P : Params} {h : Heap} {args : List WData} {vals : List Value}
    (hpre : l.row.toRowW.claim.pre args = true) (hwl : WellAll P h vals args) :
    ∃ a vs ns, vals = [Value.ref a] ∧ args = [WData.list (ns.map WData.int)] ∧ h.get? a = some { cls := .type "list", data := .seq vs.toArray } ∧ IntsAre vs ns ∧ ns.length ≤ n := by
  have hsh : WShape.hasAll [] args [.list .int] = true := (pre_splitW hpre).1
  have hc : l.pre.holds [] { args := args } = true := (pre_splitW hpre).2
  obtain ⟨d, r, rfl, h1, h2⟩ := hasAllW_cons hsh
  obtain rfl := hasAllW_nil h2
  obtain ⟨xs, rfl, h3⟩ := hasW_list h1
  obtain ⟨ns, rfl⟩ := items_int h3
  have hlen : ns.length ≤ n := by
    unfold OpenLaw.pre at hc
    have h4 : (WTm.not (.lt (.lit (.int (n : Int))) (.len (.arg 0)))).holds [] { args := [.list (ns.map .int)] } = true := by
      have h4 := (holds_andW hc).1
      rw [hn] at h4
      exact h4
    have h5 := condW_of h4 (w_not (w_lt w_lit (w_len_list (w_arg rfl))))
    rw [List.length_map] at h5
    refine Nat.le_of_not_lt fun q => ?_
    have q' : (n : Int) < ((ns.length : Nat) : Int) := by omega
    first
      | (rw [decide_eq_true q'] at h5; exact absurd h5 (by decide))
      | (simp at h5; omega)
  cases hwl with
  | cons w1 w2 =>
    cases w2
    cases w1 with
    | list ho hall => exact ⟨_, _, ns, rfl, rfl, ho, ints_of_wellAll ns _ hall, hlen⟩

theorem post_true (l : OpenLaw) (args : List WData) : l.row.toRowW.claim.post args (.bool true) args = true :=
  postW_of (r := l.row.toRowW) (X := (true == true))
    (show WShape.has [] (.bool true) .bool = true by first | rfl | decide | simp [WShape.has, WShape.arms, WShape.armsAll])
    (show (WTm.eq .res (.lit (.bool true))).value [] { args := args, res := some (.bool true), after := args } = some (.bool (true == true)) from w_eq_bool (w_res rfl) w_lit) rfl

/-! ### the attachment: holds_open's last premise (the goal 'hc' behind k_head) from a wpAny of the law's body -/
theorem attach {l : OpenLaw} {n : Nat} {q : Program} {loose : List Str} {XP : (Str → Option Value) → Heap → Prop} {YP : World → Heap → Prop} {d : DefRec} {x : Str}
    (hn : l.most = some n) (hdf : d.params.defaults = [])
    (hbind : ∀ pm cd doc v : Value, bindArgs (docDef d.name d.params d.body d.scope pm cd doc) ⟨[v], []⟩ = pure [(x, v)])
    (hx : d.scope.names.lookup x = some .local ∨ d.scope.names.lookup x = some .cell)
    (hk : d.scope.kind = .function) (hco : d.scope.isCoroutine = false) (hgen : d.scope.isGenerator = false)
    (body : ∀ (w : World) (s₀ s₁ s : Shared) (mg mb : Str → Option Value) (fa : Addr) (o : Obj) (pm cd doc : Value) (a : Addr) (vs : List Value) (ns : List Int),
      Ground q loose [] XP w s₀ mg mb s₁.heap → YP w s₁.heap →
      s₁.heap.get? fa = some o → o.data = .func (docDef d.name d.params d.body d.scope pm cd doc) → s₁.heap.CodeRec cd d.name → mg d.name = some (.ref fa) →
      s₁.heap.get? a = some { cls := .type "list", data := .seq vs.toArray } → IntsAre vs ns → ns.length ≤ n →
      s.gens = #[] → s.os = s₁.os →
      Fr s₁.heap s₁.heap.objs.size s.heap (bindL (envOfC d.name d.scope s₁.heap.objs.size fa cd).kindOf [(x, .ref a)] fun _ => none) →
      Cl s₁.heap.objs.size (cellsFrom (s₁.heap.objs.size + 1) d.scope.names []) s.heap (bindC (envOfC d.name d.scope s₁.heap.objs.size fa cd).kindOf [(x, .ref a)] fun _ => none) →
      wpAny (model l.prog w) (callerA.deeper (envOfC d.name d.scope s₁.heap.objs.size fa cd)) (execs d.body (envOfC d.name d.scope s₁.heap.objs.size fa cd))
        (fun f s' => f = .ret (.bool true) ∧ OldK s₁.heap s'.heap ∧ s'.os = s₁.os ∧ AllBare s'.gens) (fun _ _ => False) s) :
    WalkO q loose XP YP l.row.toRowW d [] (fun f vs => PySem.call f vs) := by
  intro w s₀ s₁ mg mb G Y fa o pm cd doc dV kV ho hd hcd hD hmg hg args vals as hpre hlay hrd hwl hlo
  obtain rfl : dV = .none := Dflts.none hD hdf
  obtain rfl : kV = .none := Dflts.noKw hD
  obtain ⟨a, vs, ns, rfl, rfl, hobj, hints, hlen⟩ := script_of hn hpre hwl
  refine enter_call ?_
  refine call_cells_ret (o := o) (by rw [depth_caller]; decide) ho (fd_plain hd) G.T.nolimit hcd (hbind pm cd doc (.ref a)) (fun y hy => ?_) (fun h₁ tk F X => ?_) hco hgen hk
  · obtain rfl : y = (x, Value.ref a) := List.mem_singleton.mp hy
    rcases hx with e | e
    · exact .inl e
    · exact .inr ⟨e, cellsFrom_some _ _ _ (.inl e)⟩
  · refine wpAny_mono (body w s₀ s₁ { s₁ with heap := h₁, toks := tk } mg mb fa o pm cd doc a vs ns G Y ho (fd_plain hd) hcd hmg hobj hints hlen hg rfl F X) (fun f s' hq => ?_) (fun _ _ hq => hq)
    obtain ⟨rfl, h2, h3, h4⟩ := hq
    exact ⟨.inl ⟨.bool true, .bool true, [], rfl, fun _ => rfl, .bool true, post_true l _, fun _ => ⟨List.Pairwise.nil, fun _ hm => (nomatch hm)⟩⟩, h2, h3, h4⟩

/-- the same from a codeAny of the CALL (for a layer whose function contracts speak of calls) -/
theorem attach_call {l : OpenLaw} {n : Nat} {q : Program} {loose : List Str} {XP : (Str → Option Value) → Heap → Prop} {YP : World → Heap → Prop} {d : DefRec}
    (hn : l.most = some n) (hdf : d.params.defaults = [])
    (call : ∀ (w : World) (s₀ s₁ : Shared) (mg mb : Str → Option Value) (fa : Addr) (o : Obj) (pm cd doc : Value) (a : Addr) (vs : List Value) (ns : List Int),
      Ground q loose [] XP w s₀ mg mb s₁.heap → YP w s₁.heap →
      s₁.heap.get? fa = some o → o.data = .func (docDef d.name d.params d.body d.scope pm cd doc) → s₁.heap.CodeRec cd d.name → mg d.name = some (.ref fa) →
      s₁.heap.get? a = some { cls := .type "list", data := .seq vs.toArray } → IntsAre vs ns → ns.length ≤ n → s₁.gens = #[] →
      codeAny (model l.prog w) callerA (.call (.ref fa) ⟨[.ref a], []⟩) (fun r s' => r = .ok (.ret (.bool true)) ∧ OldK s₁.heap s'.heap ∧ s'.os = s₁.os ∧ AllBare s'.gens) s₁) :
    WalkO q loose XP YP l.row.toRowW d [] (fun f vs => PySem.call f vs) := by
  intro w s₀ s₁ mg mb G Y fa o pm cd doc dV kV ho hd hcd hD hmg hg args vals as hpre hlay hrd hwl hlo
  obtain rfl : dV = .none := Dflts.none hD hdf
  obtain rfl : kV = .none := Dflts.noKw hD
  obtain ⟨a, vs, ns, rfl, rfl, hobj, hints, hlen⟩ := script_of hn hpre hwl
  refine enter_call (codeAny_mono (call w s₀ s₁ mg mb fa o pm cd doc a vs ns G Y ho (fd_plain hd) hcd hmg hobj hints hlen hg) fun r s' hq => ?_)
  obtain ⟨rfl, h2, h3, h4⟩ := hq
  exact ⟨.inl ⟨.bool true, .bool true, [], rfl, fun _ => rfl, .bool true, post_true l _, fun _ => ⟨List.Pairwise.nil, fun _ hm => (nomatch hm)⟩⟩, h2, h3, h4⟩

/-- the same where the top left finished generators (o_head chose holds_openN): nothing may have changed at all and no generator may be left -/
theorem attachN {l : OpenLaw} {n : Nat} {q : Program} {loose : List Str} {XP : (Str → Option Value) → Heap → Prop} {YP : World → Heap → Prop} {d : DefRec} {x : Str}
    (hn : l.most = some n) (hdf : d.params.defaults = [])
    (hbind : ∀ pm cd doc v : Value, bindArgs (docDef d.name d.params d.body d.scope pm cd doc) ⟨[v], []⟩ = pure [(x, v)])
    (hx : d.scope.names.lookup x = some .local ∨ d.scope.names.lookup x = some .cell)
    (hk : d.scope.kind = .function) (hco : d.scope.isCoroutine = false) (hgen : d.scope.isGenerator = false)
    (body : ∀ (w : World) (s₀ s₁ s : Shared) (mg mb : Str → Option Value) (fa : Addr) (o : Obj) (pm cd doc : Value) (a : Addr) (vs : List Value) (ns : List Int),
      Ground q loose [] XP w s₀ mg mb s₁.heap → YP w s₁.heap →
      s₁.heap.get? fa = some o → o.data = .func (docDef d.name d.params d.body d.scope pm cd doc) → s₁.heap.CodeRec cd d.name → mg d.name = some (.ref fa) →
      s₁.heap.get? a = some { cls := .type "list", data := .seq vs.toArray } → IntsAre vs ns → ns.length ≤ n →
      s.gens = #[] → s.os = s₁.os →
      Fr s₁.heap s₁.heap.objs.size s.heap (bindL (envOfC d.name d.scope s₁.heap.objs.size fa cd).kindOf [(x, .ref a)] fun _ => none) →
      Cl s₁.heap.objs.size (cellsFrom (s₁.heap.objs.size + 1) d.scope.names []) s.heap (bindC (envOfC d.name d.scope s₁.heap.objs.size fa cd).kindOf [(x, .ref a)] fun _ => none) →
      wpAny (model l.prog w) (callerA.deeper (envOfC d.name d.scope s₁.heap.objs.size fa cd)) (execs d.body (envOfC d.name d.scope s₁.heap.objs.size fa cd))
        (fun f s' => f = .ret (.bool true) ∧ (∀ b o, s₁.heap.get? b = some o → s'.heap.get? b = some o) ∧ s'.os = s₁.os ∧ s'.gens = #[]) (fun _ _ => False) s) :
    WalkN q loose XP YP l.row.toRowW d [] (fun f vs => PySem.call f vs) := by
  intro w s₀ s₁ mg mb G Y fa o pm cd doc dV kV ho hd hcd hD hmg hg args vals as hpre hlay hrd hwl hlo
  obtain rfl : dV = .none := Dflts.none hD hdf
  obtain rfl : kV = .none := Dflts.noKw hD
  obtain ⟨a, vs, ns, rfl, rfl, hobj, hints, hlen⟩ := script_of hn hpre hwl
  refine enter_callW ?_
  refine call_cells_ret (o := o) (by rw [depth_caller]; decide) ho (fd_plain hd) G.T.nolimit hcd (hbind pm cd doc (.ref a)) (fun y hy => ?_) (fun h₁ tk F X => ?_) hco hgen hk
  · obtain rfl : y = (x, Value.ref a) := List.mem_singleton.mp hy
    rcases hx with e | e
    · exact .inl e
    · exact .inr ⟨e, cellsFrom_some _ _ _ (.inl e)⟩
  · refine wpAny_mono (body w s₀ s₁ { s₁ with heap := h₁, toks := tk } mg mb fa o pm cd doc a vs ns G Y ho (fd_plain hd) hcd hmg hobj hints hlen hg rfl F X) (fun f s' hq => ?_) (fun _ _ hq => hq)
    obtain ⟨rfl, h2, h3, h4⟩ := hq
    exact ⟨.inl ⟨.bool true, .bool true, [], rfl, fun _ => rfl, .bool true, post_true l _, fun _ => ⟨List.Pairwise.nil, fun _ hm => (nomatch hm)⟩⟩, h2, h3, h4⟩

/-! ### rules over ANY heap (no ledger) from facts about the written part K: the library's own take a ledger (News) for what they write -/
section
variable {prog : Program} {w : World} {A : Around} {E : Value → Shared → Prop} {s : Shared} {K : Frag}

/-- a def of the module, or a method (qual 'C.m'), entered: the frame is the next address; cells behind it -/
theorem call_fn {R : Result → Shared → Prop} {name qual : Str} {params : Arguments} {body : List Stmt} {scope : Scope} {dV kV doc pm cdv ct oc : Value} {an od : Option Addr} {osl : Array (Option Value)} {f : Addr} {args : Args} {binds : List (Str × Value)}
    (X : K.In s.heap) (hlim : s.heap.NoLimit) (ho : K.lookup f = some ⟨oc, od, .func (fnOf name qual params body scope dV kV doc pm an cdv ct), osl⟩) (hcd : codeIn K cdv qual = true) (hroom : A.depth < recursionLimit)
    (hbind : BindsTo s (fnOf name qual params body scope dV kV doc pm an cdv ct) args binds)
    (hkind : (binds.all fun y => scope.names.lookup y.1 == some .local || scope.names.lookup y.1 == some .cell) = true)
    (h : ∀ s₁, InCallC s s.heap.objs.size (bindL (envOfC qual scope s.heap.objs.size f cdv).kindOf binds fun _ => none) (cellsFrom (s.heap.objs.size + 1) scope.names [])
        (bindC (envOfC qual scope s.heap.objs.size f cdv).kindOf binds fun _ => none) s₁ →
      wpAny (model prog w) (A.deeper (envOfC qual scope s.heap.objs.size f cdv)) (execs body (envOfC qual scope s.heap.objs.size f cdv))
        (fun fl s' => R (.ok (.ret (match fl with | .ret v => v | _ => .none))) s')
        (fun e s' => wpAny (model prog w) (A.deeper (envOfC qual scope s.heap.objs.size f cdv)) (leaving (envOfC qual scope s.heap.objs.size f cdv) e) (fun _ s'' => R (.error e) s'') (fun e' s'' => R (.error e') s'') s') s₁)
    (hco : scope.isCoroutine = false) (hgen : scope.isGenerator = false) (hk : scope.kind = .function) : codeAny (model prog w) A (.call (.ref f) args) R s := by
  refine codeAny_call_function hroom (X _ _ ho) rfl hco hgen rfl (codeRec_of X hcd) (hbind _ _ _ _ ?_)
  refine wpAny_newFunctionEnv_cells hk (kindsX hkind _) fun env he s₁ x => ?_
  subst he
  exact ⟨hlim.keeps x.toInCall.keep, codeAny_func (h s₁ x)⟩

/-- C(..): dict at size, instance at size + 1, then __init__ -/
theorem make_obj {R : Result → Shared → Prop} {C fI : Addr} {rest : List Value} {kw : List (Str × Value)}
    (X : K.In s.heap) (hm : makesIn K C = true) (hi : findIn K (.ref C) "__init__" = some (some (.ref fI))) (hf : isFn K (.ref fI) = true)
    (h : codeAny (model prog w) (A.under (.builtin "type.__call__" ⟨.ref C :: rest, kw⟩)) (.call (.ref fI) ⟨.ref (s.heap.objs.size + 1) :: rest, kw⟩) (InitBack (s.heap.objs.size + 1) R)
      { s with heap := (s.heap.push emptyDict).push (instObj C s.heap.objs.size) }) : codeAny (model prog w) A (.call (.ref C) ⟨rest, kw⟩) R s := by
  obtain ⟨hh, g, d, t, os⟩ := s
  exact make_core (makes_of X hm) (looks_findIn X hi) (fun self => bind_fn X self (beq_iff_eq.mp hf)) (.inl rfl) h

/-- x.name where the instance's dict holds the name and the class does not -/
theorem get_field {x C : Addr} {ox : Obj} {es : List DictEntry} {n : Nat} {name : Str} {expr : Bool} {v : Value} {Q : Value → Shared → Prop}
    (X : K.In s.heap) (I : PySem.W.InstAt s.heap x ox C (some (dictOf es n))) (hg : plainGet K C name = true) (hh : hasDictIn K C = true) (ha : findIn K (.ref C) name = some none)
    (hl : getL name es = some (some v)) (hv : handedIn v = true) (h : Q v { s with toks := s.toks + 1 }) : wpAny (model prog w) A (getAttr (.ref x) name expr) Q E s :=
  get_value X I (plainGet_of hg).1 (findObj_own hh ha rfl hl) hv h

/-- x.m(..): the method found in the class -/
theorem get_method {x C f : Addr} {ox : Obj} {es : List DictEntry} {n : Nat} {name : Str} {pl : Sem Bool} {Q : Value × List Value → Shared → Prop}
    (X : K.In s.heap) (I : PySem.W.InstAt s.heap x ox C (some (dictOf es n))) (hg : plainGet K C name = true) (hf : findIn K (.ref C) name = some (some (.ref f))) (ht : isFn K (.ref f) = true)
    (hl : getL name es = some none) (h : Q (.ref f, [.ref x]) s) : wpAny (model prog w) A (getMethod (.ref x) name pl) Q E s :=
  method_fn X I (plainGet_of hg).1 (plainGet_of hg).2 hf (beq_iff_eq.mp ht) (by show (lookIn name (dictOf es n)).map _ = _; rw [lookIn_dict, hl]; rfl) h

/-! the whole heap as the ledger: makes every rule that writes through a ledger a rule over any heap -/
def noObjs (h : Heap) : Heap := { h with objs := #[] }
theorem noObjs_get (h : Heap) (b : Addr) : (noObjs h).get? b = none := by
  cases e : (noObjs h).get? b with
  | none => rfl
  | some o => exact absurd (Heap.lt_size e) (Nat.not_lt_zero _)
def ledger (h : Heap) (L d : Addr) : List (Addr × Obj) := (List.range h.objs.size).filterMap fun a => if a = L ∨ a = d then none else (h.get? a).map fun o => (a, o)
theorem mem_ledger {h : Heap} {L d a : Addr} {o : Obj} : (a, o) ∈ ledger h L d ↔ a ≠ L ∧ a ≠ d ∧ h.get? a = some o := by
  unfold ledger
  rw [List.mem_filterMap]
  constructor
  · rintro ⟨b, _, e⟩
    split at e
    · cases e
    · rename_i hb
      obtain ⟨o', ho, e'⟩ := Option.map_eq_some_iff.mp e
      cases e'
      exact ⟨fun q => hb (.inl q), fun q => hb (.inr q), ho⟩
  · rintro ⟨n1, n2, ho⟩
    refine ⟨a, List.mem_range.mpr (Heap.lt_size ho), ?_⟩
    rw [if_neg (show ¬ (a = L ∨ a = d) from fun q => q.elim n1 n2), ho] <;> rfl
theorem news_ledger {h : Heap} {L d : Addr} {od : Obj} (hne : d ≠ L) (ho : h.get? d = some od) : News (noObjs h) L h ([] ++ (d, od) :: ledger h L d) := by
  rintro ⟨a, o⟩ hp
  rcases List.mem_cons.mp hp with e | hp
  · cases e
    exact ⟨ho, hne, noObjs_get _ _⟩
  · obtain ⟨n1, n2, e⟩ := mem_ledger.mp hp
    exact ⟨e, n1, noObjs_get _ _⟩
theorem fr_all {h : Heap} {L : Addr} {m : Str → Option Value} (n : h.Ns L m) : Fr (noObjs h) L h m :=
  ⟨n, fun b o e => (by rw [noObjs_get] at e; cases e), Nat.zero_le _⟩
/-- Upd of the head entry (for append_K, setItem_K ..) -/
theorem upd_ledger {h : Heap} {L d : Addr} {o o' : Obj} : Upd d o o' ((d, o) :: ledger h L d) ((d, o') :: ledger h L d) :=
  .head fun ⟨_, _⟩ hp => (mem_ledger.mp hp).2.1

/-- x.name = v over any heap: L is any namespace of the heap (the frame's, say): its map stays, its object is not told; all else but the dict stays -/
theorem set_field {x C dx L : Addr} {ox : Obj} {m : Str → Option Value} {es es' : List DictEntry} {n n' : Nat} {name : Str} {v : Value} {Q : Unit → Shared → Prop}
    (X : K.In s.heap) (I : PySem.W.InstAt s.heap x ox C (some (dictOf es n))) (hd : ox.dict = some dx) (hL : s.heap.Ns L m) (hne : dx ≠ L)
    (hs : findIn K (.ref C) "__setattr__" = some (some (.builtin "object.__setattr__"))) (hp : plainOver K C = true) (ht : takerIn K C name = some none) (hh : hasDictIn K C = true) (hl : (getL name es).isSome = true)
    (e : (putL name (PyData.keyHash w.params name) (.str name (s.toks + 1)) v es, putN name es n) = (es', n')) (hz : es'.length ≤ 1000)
    (h : ∀ h' : Heap, h'.Ns L m → h'.get? dx = some (dictOf es' n') → (∀ b o, b ≠ dx → b ≠ L → s.heap.get? b = some o → h'.get? b = some o) → Q () { s with heap := h', toks := s.toks + 2 }) :
    wpAny (model prog w) A (setAttr (.ref x) name v) Q E s := by
  obtain ⟨e1, e2⟩ := Prod.mk.inj e
  have hdx : s.heap.get? dx = some (dictOf es n) := by
    have := I.dict
    rw [hd] at this
    exact this
  refine set_plain X I hs (osa_dict (s := { s with toks := s.toks + 1 }) (h₀ := noObjs s.heap) (L := L) (m := m) (od := dictOf es n) (od' := dictOf es' n') (es := es') (n := n') (pre := []) (post := ledger s.heap L dx)
    (fr_all hL) (news_ledger hne hdx) X I hd hp ht hh hl (fun _ q => nomatch q) (fun ⟨_, _⟩ q => (mem_ledger.mp q).2.1) (by rw [putName_dict, e1, e2]) rfl hz fun h' F' N' => ?_)
  exact h h' F'.ns (N'.get (List.Mem.head _)) fun b o n1 n2 ho => N'.get (List.Mem.tail _ (mem_ledger.mpr ⟨n2, n1, ho⟩))
end
end Att

namespace L2
open PySem PySem.Spec PyProof.Rows

theorem vals_ints : ∀ {vs : List Value} {ns : List Int}, IntsAre vs ns → Vals (ns.map V.int) vs
  | _, _, .nil => .nil
  | _, _, .cons n t h => .cons ⟨t, rfl⟩ (vals_ints h)

/-- nothing is tracked but the script, known to the object (or it is an object of the module) -/
def Only (H : Hp) : Prop := ∀ b, H b = none ∨ ∃ o xs, H b = some (.frz o (.lst xs))

/-- THE HEAD: the law's promise, at the heap behind the top. F, the promise of the law's def, may use that base is part of the heap (so K.In base, base.Ns mainGlobals mg stand in Mod) -/
theorem law_call {P : Program} {w : World} {K : PySem.W.Frag} {mg mb : Str → Option Value} {CX : CXT} {k : Nat} {fa a : Addr} {fd : FuncData} {x : Str} {sp : Sp} {s₁ : Shared} {vs : List Value} {ns : List Int}
    (KX : K.In s₁.heap) (hns : s₁.heap.Ns mainGlobals mg) (hb : s₁.heap.Ns builtinsNs mb) (hbb : ∀ x : Str, x ≠ "__name__" → mb x = bootBuiltins x) (hlim : s₁.heap.NoLimit) (hg : s₁.gens = #[])
    (ha : s₁.heap.get? a = some { cls := .type "list", data := .seq vs.toArray }) (hi : IntsAre vs ns) (hl : ns.length ≤ sizeLine) (hr : Room k callerA)
    (F : ∀ base : Heap, K.In base → base.Ns mainGlobals mg → FnOk P w K mg base CX k fa fd [x] sp) (hbind : ∀ (s : Shared) (u : Value), BindsTo s fd ⟨[u], []⟩ [(x, u)])
    (hsp : ∀ H : Hp, Only H → SqL K H a (ns.map V.int) → sp [.ref a] H (fun v _ => v = .bl true) fun _ _ _ => False)
    (hCX : ∀ H e s', CX [] H s₁ (fun _ _ _ => False) e s' → False) :
    codeAny (model P w) callerA (.call (.ref fa) ⟨[.ref a], []⟩) (fun r s' => r = .ok (.ret (.bool true)) ∧ OldK s₁.heap s'.heap ∧ s'.os = s₁.os ∧ AllBare s'.gens) s₁ := by
  have rv := vals_ints hi
  have lenV := hi.length
  -- from an abstract heap in which nothing but the script may be tracked
  have core : ∀ H : Hp, Only H → SqL K H a (ns.map V.int) → HOk P w H s₁.heap → (∀ b, H b ≠ none → b = a) → (H a ≠ none → K.lookup a = none) →
      codeAny (model P w) callerA (.call (.ref fa) ⟨[.ref a], []⟩) (fun r s' => r = .ok (.ret (.bool true)) ∧ OldK s₁.heap s'.heap ∧ s'.os = s₁.os ∧ AllBare s'.gens) s₁ := by
    intro H hO hS hok hA hK
    have base_of : ∀ {b : Addr} {o : Obj}, s₁.heap.get? b = some o → H b = none → (hidT s₁.heap H).get? b = some o := fun e n => hidT_get e n
    have noA : ∀ {b : Addr} {o : Obj} {es : Array DictEntry} {ep : Nat}, s₁.heap.get? b = some o → o.data = .dict es ep → H b = none := fun {b o es ep} e d => by
      cases q : H b with
      | none => rfl
      | some u =>
        have e' : b = a := hA b (by rw [q]; simp)
        subst e'
        rw [ha] at e; cases e
        have d' : Data.seq vs.toArray _ = Data.dict es ep := d
        cases d'
    have nsK : ∀ {b : Addr} {m : Str → Option Value}, s₁.heap.Ns b m → (hidT s₁.heap H).Ns b m := fun {b m} ⟨o, es, ep, e, d, r⟩ => ⟨o, es, ep, base_of e (noA e d), d, r⟩
    have hKb : K.In (hidT s₁.heap H) := fun b o e => base_of (KX b o e) (by
      cases q : H b with
      | none => rfl
      | some u =>
        have e' : b = a := hA b (by rw [q]; simp)
        subst e'
        rw [hK (by rw [q]; simp)] at e; cases e)
    have hM : Mod K mg (hidT s₁.heap H) := ⟨hKb, nsK hns, ⟨mb, nsK hb, hbb⟩, let ⟨mc, h1, h2⟩ := hlim; ⟨mc, nsK h1, h2⟩⟩
    have e0 : Env0 P w K mg (hidT s₁.heap H) callerA [] s₁ H := ⟨rfl, hM, fun b o e => of_hidT e, Nat.le_of_eq (hidT_size _ _), trivial, fun b hb => absurd (show b ∈ ([] : List Addr) from hb) (by simp), hok, .of_eq hg⟩
    refine codeAny_mono ((F _ hKb (nsK hns)).run callerA [] s₁ H ⟨[.ref a], []⟩ [.ref a] [.ref a] _ _ hr e0 (hbind s₁ (.ref a)) (.cons rfl .nil) (hsp H hO hS)) fun r s' h => ?_
    cases r with
    | error e => exact (hCX H e s' h).elim
    | ok fl =>
      cases fl with
      | next => exact False.elim h
      | brk => exact False.elim h
      | cont => exact False.elim h
      | ret u =>
        obtain ⟨v, H', os, bare, un, hok', r', q⟩ := h
        have q' : v = .bl true := q
        subst q'
        obtain rfl : u = Value.bool true := r'
        refine ⟨rfl, OldK.of_keep fun b o e => ?_, os, bare⟩
        cases q : H b with
        | none => exact un.keep b o e q (by intro z; exact absurd (show b ∈ ([] : List Addr) from z) (by simp)) (by simp)
        | some u =>
          rcases hO b with z | ⟨ob, xs, z⟩
          · rw [q] at z; cases z
          · have z2 := un.frzs b ob _ z
            obtain ⟨e1, _⟩ := hok b _ z
            obtain ⟨e2, _⟩ := hok' b _ z2
            rw [e] at e1; cases e1
            exact e2
  cases hk : K.lookup a with
  | some o =>
    -- the script is one of the module's own objects
    have e := KX a o hk
    rw [ha] at e
    cases e
    refine core (fun _ => none) (fun _ => .inl rfl) (.inr ⟨_, vs.toArray, _, hk, rfl, rfl, rfl, by rw [List.size_toArray, lenV]; exact hl, by simpa using rv⟩) (fun b u z => by have z' : (none : Option HO) = some u := z; cases z') (fun b z => absurd rfl z) fun z => absurd rfl z
  | none =>
    refine core (fun b => if b = a then some (.frz { cls := .type "list", data := .seq vs.toArray } (.lst (ns.map V.int))) else none) (fun b => ?_) (.inl (.inr ⟨{ cls := .type "list", data := .seq vs.toArray }, if_pos rfl⟩)) (fun b u z => ?_) (fun b z => ?_) fun _ => hk
    · by_cases hb : b = a
      · exact .inr ⟨_, _, if_pos hb⟩
      · exact .inl (if_neg hb)
    · by_cases hb : b = a
      · have z' := (if_pos hb).symm.trans z
        cases z'
        subst hb
        exact ⟨ha, by rw [List.length_map]; exact hl, vs, _, rv, ha⟩
      · have z' := (if_neg hb).symm.trans z
        cases z'
    · by_cases hb : b = a
      · exact hb
      · exact absurd (if_neg hb) z
end L2

namespace L2
open PySem PySem.Spec PyProof.Rows

abbrev KOf {K : PySem.W.Frag} {h : Heap} (_ : K.In h) : PySem.W.Frag := K

/-- the goal that k_head leaves (case hc), from the law's promise. F gives the function object fd (K's own) once, then the promise over every base -/
theorem walk_of {l : PySem.W.OpenLaw} {n k : Nat} {q : Program} {loose : List Str} {XP : (Str → Option Value) → Heap → Prop} {YP : World → Heap → Prop} {d : DefRec} {K : Params → PySem.W.Frag} {CX : World → CXT} {sp : World → Sp} {x : Str}
    (hn : l.most = some n) (hn2 : n ≤ sizeLine) (hdf : d.params.defaults = []) (hr : Room k callerA)
    (hY : ∀ (w : World) (h : Heap), YP w h → (K w.params).In h)
    (F : ∀ (w : World) (mg : Str → Option Value) (fa : Addr) (h : Heap), (K w.params).In h → h.Ns mainGlobals mg → mg d.name = some (.ref fa) →
      ∃ fd : FuncData, (∀ (s : Shared) (u : Value), BindsTo s fd ⟨[u], []⟩ [(x, u)]) ∧
        ∀ base : Heap, (K w.params).In base → base.Ns mainGlobals mg → FnOk l.prog w (K w.params) mg base (CX w) k fa fd [x] (sp w))
    (hsp : ∀ (w : World) (H : Hp) (a : Addr) (ns : List Int), ns.length ≤ n → Only H → SqL (K w.params) H a (ns.map V.int) → sp w [.ref a] H (fun v _ => v = .bl true) fun _ _ _ => False)
    (hCX : ∀ (w : World) (H : Hp) (s : Shared) (e : Value) (s' : Shared), CX w [] H s (fun _ _ _ => False) e s' → False) :
    PySem.W.WalkO q loose XP YP l.row.toRowW d [] (fun f vs => PySem.call f vs) := by
  refine Att.attach_call hn hdf fun w s₀ s₁ mg mb fa o pm cd doc a vs ns G Y ho hd hcd hmg hobj hints hlen hg => ?_
  have KX := hY w _ Y
  obtain ⟨fd, hb, hF⟩ := F w mg fa _ KX G.T.g hmg
  exact law_call KX G.T.g G.T.b G.T.builtins G.T.nolimit hg hobj hints (Nat.le_trans hlen hn2) hr hF hb (fun H hO hS => hsp w H a ns hlen hO hS) fun H e s' => hCX w H s₁ e s'
/-- the same where the promise hangs on the written part alone: (sp := My.sp_law), no hole under a binder -/
theorem walk_ofK {l : PySem.W.OpenLaw} {n k : Nat} {q : Program} {loose : List Str} {XP : (Str → Option Value) → Heap → Prop} {YP : World → Heap → Prop} {d : DefRec} {K : Params → PySem.W.Frag} {CX : CXT} {sp : PySem.W.Frag → Sp} {x : Str}
    (hn : l.most = some n) (hn2 : n ≤ sizeLine) (hdf : d.params.defaults = []) (hr : Room k callerA)
    (hY : ∀ (w : World) (h : Heap), YP w h → (K w.params).In h)
    (F : ∀ (w : World) (mg : Str → Option Value) (fa : Addr) (h : Heap), (K w.params).In h → h.Ns mainGlobals mg → mg d.name = some (.ref fa) →
      ∃ fd : FuncData, (∀ (s : Shared) (u : Value), BindsTo s fd ⟨[u], []⟩ [(x, u)]) ∧
        ∀ base : Heap, (K w.params).In base → base.Ns mainGlobals mg → FnOk l.prog w (K w.params) mg base CX k fa fd [x] (sp (K w.params)))
    (hsp : ∀ (K : PySem.W.Frag) (H : Hp) (a : Addr) (ns : List Int), ns.length ≤ n → Only H → SqL K H a (ns.map V.int) → sp K [.ref a] H (fun v _ => v = .bl true) fun _ _ _ => False)
    (hCX : ∀ (H : Hp) (s : Shared) (e : Value) (s' : Shared), CX [] H s (fun _ _ _ => False) e s' → False) :
    PySem.W.WalkO q loose XP YP l.row.toRowW d [] (fun f vs => PySem.call f vs) :=
  walk_of (K := K) (CX := fun _ => CX) (sp := fun w => sp (K w.params)) hn hn2 hdf hr hY F (fun w H a ns h1 h2 h3 => hsp (K w.params) H a ns h1 h2 h3) fun _ H s e s' => hCX H s e s'
end L2

/- THE LAST THEOREM (shape; LID, My.* are yours):
   My.Adr: a structure of the addresses that your layer names (classes, functions); My.Txt K t: a structure (Prop) of the equations over K;
   My.txt_mk : {K} {implicit addresses ..} (e1 : nsIn K mainGlobals "law" = some (some (.ref f))) (e2 : K.lookup f = some ⟨oc, od, .func (fnOf "law" "law" params body scope dV kV doc pm an cdv ct), sl⟩) (e3 : codeIn K cdv "law" = true) .. : ∃ t, My.Txt K t

set_option maxRecDepth 100000 in
set_option maxHeartbeats 0 in
theorem PySem.Challenge.cw_LID_holds : PySem.Challenge.rw_LID.Holds := by
  w_on; o_law; k_head; (case hw => w_witness2)
  k_fill
  refine L2.walk_of (l := PySem.Challenge.rw_LID) (n := 63) (k := 40) (x := "script") (CX := fun w => ..) (sp := fun _ => My.sp_law) rfl (by decide) rfl ⟨rfl, by decide, by decide⟩ (fun w h Y => PySem.W.kIn_of Y) ?F ?S ?C
  case F =>
    intro w mg fa h KX G hmg
    have T : ∃ t, My.Txt (L2.KOf KX) t := by
      dsimp only [L2.KOf]                          -- K must stand as «<heap const> w.params» for k_is
      refine' My.txt_mk ?e1 ?e2 ?e3 ..
      (case e1 => PySem.W.k_is)                    -- in the order: a name -> its address -> its object -> its parts
      (case e2 => PySem.W.k_is)
      ..
    obtain ⟨t, T⟩ := T
    have e0 := hmg.symm.trans (PySem.W.mg_of KX G T.law)
    cases e0                                       -- fa is the law's own address
    exact ⟨_, fun s u => .of_eq rfl, fun base kb nb => My.law_fn T kb nb⟩     -- if «.of_eq rfl» comes too early: refine' ⟨_, ?b, fun base kb nb => My.law_fn T kb nb⟩; exact fun s u => .of_eq rfl
  case S => exact fun w H a ns hl hO hS => ..
  case C => exact ..
(the tactic k_is has no namespace: write k_is) -/

/-! SHORT WORDS over the layer: a def of the text, its body, what a loop and a test want. -/
namespace L2
open PySem PySem.Spec PyProof.Rows

/-! ### the text by places -/
/-- the j-th statement of a class's body -/
def inClass (s : Stmt) (j : Nat) : Stmt := match s with
  | .ClassDef _ _ _ body _ _ _ _ _ _ _ => body.getD j (.Pass ⟨0, 0, 0, 0⟩)
  | _ => .Pass ⟨0, 0, 0, 0⟩
def defArgs (s : Stmt) : Arguments := match s with
  | .FunctionDef _ a _ _ _ _ _ _ _ _ => a
  | _ => { posonlyargs := [], args := [], vararg := none, kwonlyargs := [], kw_defaults := [], kwarg := none, defaults := [] }
def defBody (s : Stmt) : List Stmt := match s with
  | .FunctionDef _ _ b _ _ _ _ _ _ _ => b
  | _ => []
def defScope (s : Stmt) : Scope := match s with
  | .FunctionDef _ _ _ _ _ _ sc _ _ _ => sc
  | _ => { kind := .function, names := [], isGenerator := false, isCoroutine := false }

/-! ### no exception leaves a def -/
abbrev CX0 : CXT := fun _ _ _ _ _ _ => False
abbrev E0 : XK := fun _ _ _ => False
theorem pass0 {X : Cx} : Passes CX0 X E0 := fun _ _ _ _ _ _ _ h => h.elim

/-! ### a def (or method) of the text as it stands behind the top -/
structure Fun (K : PySem.W.Frag) (x qual : Str) (st : Stmt) (f : Addr) (fd : FuncData) : Prop where
  ex : ∃ (oc : Value) (od : Option Addr) (kV doc pm : Value) (an : Option Addr) (cdv ct : Value) (osl : Array (Option Value)),
    fd = PySem.W.fnOf x qual (defArgs st) (defBody st) (defScope st) .none kV doc pm an cdv ct ∧ K.lookup f = some ⟨oc, od, .func fd, osl⟩ ∧ PySem.W.codeIn K cdv qual = true
  kp : PySem.W.keepIn K (.ref f) = true
section
variable {P : Program} {w : World} {K : PySem.W.Frag} {mg : Str → Option Value} {base : Heap}
/-- THE RULE for a def: its body as a term of rules, and the reading of that term -/
theorem Fun.ok {x qual : Str} {st : Stmt} {f : Addr} {fd : FuncData} {N ps : List Str} {k : Nat} {sp : Sp} (F : Fun K x qual st f fd) (S : FnScope N ps (defScope st)) (len : ∀ vs H Q E, sp vs H Q E → vs.length = ps.length)
    (hbody : ∀ (cdv : Value) (A : Around) (outer : List Env) (s : Shared) (H : Hp) (vs : List V) (Q : VK) (E : XK), Room k (A.deeper (envOfC qual (defScope st) s.heap.objs.size f cdv)) → sp vs H Q E →
      ∃ t, PSs (cxOf CX0 P w K mg base N qual (defScope st) f cdv A outer s H E).nox (defBody st) t ∧ t { nx := fun _ H' => Q .non H', rt := Q } (start N vs) H) : FnOk P w K mg base CX0 (k + 1) f fd ps sp := by
  obtain ⟨oc, od, kV, doc, pm, an, cdv, ct, osl, rfl, lk, hcd⟩ := F.ex
  refine fn_of lk hcd S len fun A outer s H vs Q E hr hsp => ?_
  obtain ⟨t, h, q⟩ := hbody cdv A outer s H vs Q E hr hsp
  exact ⟨t, h.nox, q⟩
/-- how its arguments bind (no defaults): h is «fun _ _ _ _ _ _ us hl => match us, hl with | [_, _], _ => rfl», one _ a parameter -/
theorem Fun.binds {x qual : Str} {st : Stmt} {f : Addr} {fd : FuncData} {ps : List Str} (F : Fun K x qual st f fd)
    (h : ∀ (kV doc pm : Value) (an : Option Addr) (cdv ct : Value) (us : List Value), us.length = ps.length → bindArgs (PySem.W.fnOf x qual (defArgs st) (defBody st) (defScope st) .none kV doc pm an cdv ct) ⟨us, []⟩ = pure (ps.zip us)) : Binds K fd ps [] := by
  obtain ⟨oc, od, kV, doc, pm, an, cdv, ct, osl, rfl, lk, hcd⟩ := F.ex
  exact .all (h kV doc pm an cdv ct)
theorem fun_mk {x qual : Str} {st : Stmt} {f : Addr} {oc : Value} {od an : Option Addr} {osl : Array (Option Value)} {kV doc pm cdv ct : Value} (l : K.lookup f = some ⟨oc, od, .func (PySem.W.fnOf x qual (defArgs st) (defBody st) (defScope st) .none kV doc pm an cdv ct), osl⟩)
    (c : PySem.W.codeIn K cdv qual = true) (k : PySem.W.keepIn K (.ref f) = true) : Fun K x qual st f (PySem.W.fnOf x qual (defArgs st) (defBody st) (defScope st) .none kV doc pm an cdv ct) := ⟨⟨oc, od, kV, doc, pm, an, cdv, ct, osl, rfl, l, c⟩, k⟩
end
theorem hu_of {A : Around} {k : Nat} (hr : Room k A) : A.units + 1 < cLine := Nat.lt_of_le_of_lt (Nat.add_le_add_left (by decide : 1 ≤ 64) _) hr.units
theorem small1000 {n : Nat} (h : n ≤ 1000) : n < sizeLine := Nat.lt_of_le_of_lt h (by decide)

/-! ### expressions in short: the name that stands in the i-th slot -/
section
variable {X : Cx}
theorem pv (i : Nat) {x : Str} {pos : Pos} (hN : X.N[i]? = some x := by rfl) (hv : Vis X.env.scope x := by first | exact Or.inl rfl | exact Or.inr (Or.inl rfl) | exact Or.inr (Or.inr rfl)) (hd : (x == ("__debug__" : Str)) = false := by decide)
    (hcd : (x == ("__classdict__" : Str)) = false := by decide) : PE X (.Name x pos) (tVar i) := pe_var hN hv hd hcd
end

/-! ### tests -/
theorem iteF {A B : Prop} (h : B) : if false = true then A else B := by
  rw [if_neg Bool.false_ne_true]
  exact h
theorem iteT {A B : Prop} (h : A) : if true = true then A else B := by
  rw [if_pos rfl]
  exact h
theorem ite2 {c A B : Prop} [Decidable c] (h1 : c → A) (h2 : ¬ c → B) : if c then A else B := by
  by_cases h : c
  · rw [if_pos h]
    exact h1 h
  · rw [if_neg h]
    exact h2 h
theorem iteNS {c A B : Prop} [Decidable c] (hc : c) (h : B) : if (!decide c) = true then A else B := by
  rw [decide_eq_true hc]
  exact iteF h

/-! ### heaps -/
/-- all that was tracked is as it was -/
def Same (H H' : Hp) : Prop := ∀ b o, H b = some o → H' b = some o
theorem Same.refl (H : Hp) : Same H H := fun _ _ h => h
theorem Same.trans {H H1 H2 : Hp} (a : Same H H1) (b : Same H1 H2) : Same H H2 := fun c o h => b c o (a c o h)
theorem Same.free {H H' : Hp} (e : Same H H') {l : Addr} (h : H' l = Option.none) : H l = Option.none := by
  cases q : H l with
  | none => rfl
  | some o =>
    rw [e l o q] at h
    cases h
theorem Same.seq {K : PySem.W.Frag} {H H' : Hp} {a : Addr} {xs : List V} (e : Same H H') (h : SqL K H a xs) : SqL K H' a xs := by
  rcases h with (h | ⟨o, h⟩) | h
  · exact .inl (.inl (e _ _ h))
  · exact .inl (.inr ⟨o, e _ _ h⟩)
  · exact .inr h

end L2

set_option maxHeartbeats 4000000
namespace L2
open PySem PySem.Spec PyProof.Rows

/-! ### a def of the text, in short -/
structure D (K : PySem.W.Frag) (mg : Str → Option Value) (x : Str) (st : Stmt) (ps : List Str) (f : Addr) (fd : FuncData) : Prop where
  fn : Fun K x x st f fd
  ba : ∀ us : List Value, us.length = ps.length → bindArgs fd ⟨us, []⟩ = pure (ps.zip us)
  mg : mg x = some (.ref f)
section
variable {X : Cx} {k j : Nat} {f : Addr} {fd : FuncData} {ps : List Str} {sp : Sp} {x : Str} {st : Stmt} {p pos : Pos} {e : Expr} {es : List Expr} {t : TA}
theorem pcall (d : D X.K X.mg x st ps f fd) (F : FnOk X.prog X.w X.K X.mg X.base CX0 j f fd ps sp) (hr : Room k X.A) (hg : Gl X x) (ha : PA X (e :: es) t) (hjk : j ≤ k := by decide) (hdb : (x == ("__debug__" : Str)) = false := by decide)
    (he : starEach (e :: es) X.env = (false, eval e X.env) :: starEach es X.env := by rfl) (hpl : (backTo pos (starEach es X.env)).any (·.1) = false := by rfl) :
    PE X (.Call (.Name x p) (e :: es) [] pos) (tCall sp [] E0 t) :=
  pe_call (F.mono hjk) hr hg d.mg d.fn.kp (.all d.ba) .nil pass0 ha hdb he hpl
theorem pcall0 (d : D X.K X.mg x st ps f fd) (F : FnOk X.prog X.w X.K X.mg X.base CX0 j f fd ps sp) (hr : Room k X.A) (hg : Gl X x) (hjk : j ≤ k := by decide) (hdb : (x == ("__debug__" : Str)) = false := by decide) :
    PE X (.Call (.Name x p) [] [] pos) (tCall sp [] E0 tNil) :=
  pe_call0 (F.mono hjk) hr hg d.mg d.fn.kp (.all d.ba) .nil pass0 hdb
end

/-! ### what the built-in names are -/
theorem bt_len : bootBuiltins "len" = some (.builtin "len") := PySem.boot_len
theorem bt_isinstance : bootBuiltins "isinstance" = some (.builtin "isinstance") := by decide +kernel
theorem bt_sorted : bootBuiltins "sorted" = some (.builtin "sorted") := by decide +kernel
theorem bt_sum : bootBuiltins "sum" = some (.builtin "sum") := by decide +kernel
theorem bt_all : bootBuiltins "all" = some (.builtin "all") := by decide +kernel
theorem bt_bool : bootBuiltins "bool" = some (.type "bool") := by decide +kernel
theorem bt_int : bootBuiltins "int" = some (.type "int") := by decide +kernel
theorem bt_str : bootBuiltins "str" = some (.type "str") := by decide +kernel
theorem bt_list : bootBuiltins "list" = some (.type "list") := by decide +kernel
theorem bt_tuple : bootBuiltins "tuple" = some (.type "tuple") := by decide +kernel
theorem bt_set : bootBuiltins "set" = some (.type "set") := by decide +kernel
theorem bt_ValueError : bootBuiltins "ValueError" = some (.type "ValueError") := by decide +kernel

/-! ### isinstance(x, T) -/
section
variable {X : Cx}
theorem call_isinst : CallR X (.builtin "isinstance") (fun xs H Q => ∃ x n t b, xs = [x, .ty n] ∧ TyOf X.K H x t ∧ PySem.W.kitOne X.K t (.type n) = some b ∧ Q (.bl b) H) := by
  intro pins s σ H xs us Q I r h
  obtain ⟨x, n, t, b, rfl, ty, e, q⟩ := h
  obtain ⟨u, w', rfl, rx, rt⟩ := vals2 r
  cases rt
  exact isinst_ok I rx ty e fun tk => ⟨.bl b, H, I.tok _, rfl, q⟩
theorem kit_bb {K : PySem.W.Frag} : PySem.W.kitOne K (.type "bool") (.type "bool") = some true := by rfl
theorem kit_ii {K : PySem.W.Frag} : PySem.W.kitOne K (.type "int") (.type "int") = some true := by rfl
theorem kit_ll {K : PySem.W.Frag} : PySem.W.kitOne K (.type "list") (.type "list") = some true := by rfl
theorem kit_tt {K : PySem.W.Frag} : PySem.W.kitOne K (.type "tuple") (.type "tuple") = some true := by rfl
theorem kit_ib {K : PySem.W.Frag} : PySem.W.kitOne K (.type "int") (.type "bool") = some false := by rfl
theorem kit_nb {K : PySem.W.Frag} : PySem.W.kitOne K (.type "NoneType") (.type "bool") = some false := by rfl
theorem kit_ni {K : PySem.W.Frag} : PySem.W.kitOne K (.type "NoneType") (.type "int") = some false := by rfl
theorem kit_nl {K : PySem.W.Frag} : PySem.W.kitOne K (.type "NoneType") (.type "list") = some false := by rfl
end
end L2

/-! ### small words -/
namespace L2
open PySem PySem.Spec PyProof.Rows
theorem decV {i j : Int} : decide (V.int i = V.int j) = decide (i = j) := by
  rw [decide_eq_decide]
  exact ⟨fun h => V.int.inj h, fun h => by rw [h]⟩
theorem decB {i j : Bool} : decide (V.bl i = V.bl j) = decide (i = j) := by
  rw [decide_eq_decide]
  exact ⟨fun h => V.bl.inj h, fun h => by rw [h]⟩
theorem same_new {H : Hp} {p : Addr} (h : H p = none) (o : HO) : Same H (upd H p o) := fun b u q => by rw [upd_ne (ne_of_none q h)]; exact q
theorem same_upd {H H1 : Hp} {p : Addr} {o : HO} (s : Same H H1) (h : H p = none) : Same H (upd H1 p o) := fun b u q => by rw [upd_ne (ne_of_none q h)]; exact s b u q
theorem same_add {H H1 : Hp} {p : Addr} {o : HO} (s : Same H H1) (h : H1 p = none) : Same H (upd H1 p o) := same_upd s (s.free h)
theorem ints_at {B : Int} {zs : List Int} (h : ∀ z ∈ zs, 0 ≤ z ∧ z < B) {i : Int} (h0 : 0 ≤ i) (h1 : i < (zs.length : Int)) : ∃ z, atI (zs.map V.int) i = some (.int z) ∧ 0 ≤ z ∧ z < B := by
  have hk : i.toNat < zs.length := by omega
  have ek : i = ((i.toNat : Nat) : Int) := by omega
  refine ⟨zs[i.toNat], ?_, h _ (List.getElem_mem hk)⟩
  have q : atI (zs.map V.int) ((i.toNat : Nat) : Int) = some (.int zs[i.toNat]) := atI_nat (by rw [List.getElem?_map, List.getElem?_eq_getElem hk] <;> rfl)
  rw [← ek] at q
  exact q
theorem ints_mem {zs : List Int} {i : Int} (h0 : 0 ≤ i) (h1 : i < (zs.length : Int)) : ∃ z, z ∈ zs ∧ atI (zs.map V.int) i = some (.int z) := by
  have hk : i.toNat < zs.length := by omega
  have ek : i = ((i.toNat : Nat) : Int) := by omega
  refine ⟨zs[i.toNat], List.getElem_mem hk, ?_⟩
  have q : atI (zs.map V.int) ((i.toNat : Nat) : Int) = some (.int zs[i.toNat]) := atI_nat (by rw [List.getElem?_map, List.getElem?_eq_getElem hk] <;> rfl)
  rw [← ek] at q
  exact q
theorem atI_getD {zs : List Int} {i : Int} (h0 : 0 ≤ i) (h1 : i < (zs.length : Int)) : atI (zs.map V.int) i = some (.int (zs.getD i.toNat 0)) := by
  have hk : i.toNat < zs.length := by omega
  have ek : i = ((i.toNat : Nat) : Int) := by omega
  have q : atI (zs.map V.int) ((i.toNat : Nat) : Int) = some (.int zs[i.toNat]) := atI_nat (by rw [List.getElem?_map, List.getElem?_eq_getElem hk] <;> rfl)
  rw [← ek] at q
  rw [q, List.getD_eq_getElem?_getD, List.getElem?_eq_getElem hk] <;> rfl
theorem map_int_get {zs : List Int} {i : Nat} {y : V} (h : (zs.map V.int)[i]? = some y) : ∃ z, y = .int z ∧ zs[i]? = some z := by
  rw [List.getElem?_map] at h
  cases e : zs[i]? with
  | none => rw [e] at h; cases h
  | some z => rw [e] at h; exact ⟨z, (Option.some.inj h).symm, rfl⟩
theorem cut_ints (zs : List Int) (n : Nat) : cutV (zs.map V.int) none (some (n : Int)) = (zs.take n).map V.int := by
  unfold cutV
  rw [HT.sIx_none, HT.sIx_nat, List.drop_zero, List.length_map, Nat.sub_zero, ← List.map_take]
  congr 1
  by_cases h : n ≤ zs.length
  · rw [Nat.min_eq_left h]
  · rw [Nat.min_eq_right (by omega), List.take_of_length_le (Nat.le_refl _), List.take_of_length_le (by omega)]
theorem smallL {n : Nat} (h : n ≤ 100000) : n ≤ sizeLine := Nat.le_trans h (by decide)
theorem smallLt {n : Nat} (h : n ≤ 100000) : n < sizeLine := Nat.lt_of_le_of_lt h (by decide)
end L2

/-! ### where ways meet: a word for what holds behind a statement -/
namespace L2
open PySem PySem.Spec PyProof.Rows
def tCut (t : TS) : TS := fun D σ H => ∃ M : St → Hp → Prop, t { D with nx := M } σ H ∧ ∀ σ' H', M σ' H' → D.nx σ' H'
theorem ps_cut {X : Cx} {st : Stmt} {t : TS} (h : PS X st t) : PS X st (tCut t) := by
  intro pins s σ H D I hw
  obtain ⟨M, h1, h2⟩ := hw
  refine thn (h pins s σ H _ I h1) fun f s1 q => ?_
  cases f with
  | next => obtain ⟨σ', H', I', m⟩ := q; exact ⟨σ', H', I', h2 σ' H' m⟩
  | ret v => exact q
  | brk => exact q
  | cont => exact q
end L2

/-! ### for i, x in enumerate(list) -/
namespace L2
open PySem PySem.Spec PyProof.Rows
section
variable {X : Cx} {pins : List (Addr × Obj)} {σ : St} {H : Hp} {s : Shared} {h' : Heap}
/-- the records at ch have turned, a new object is laid at l and tracked -/
theorem Inv.turnLay {t' : Nat} {ch : List Addr} {l : Addr} {o : HO} (I : Inv X pins σ H s) (k : ∀ b u, b ∉ ch → s.heap.get? b = some u → h'.get? b = some u) (hf : ∀ b ∈ ch, FpOk X pins H b)
    (hp : s.heap.objs.size ≤ l) (new : ObjOk X.prog X.w (upd H l o) h' l o) : Inv X pins σ (upd H l o) { s with heap := h', toks := t' } := by
  have hn := I.hok.fresh hp
  have nch : ∀ b u, H b = some u → b ∉ ch := fun b u e z => by rw [(hf b z).1] at e; cases e
  refine I.step (g' := s.gens) (d' := s.drawn) (ch := ch) (fun b hb => ?_) (fun b u _ _ hc e _ => k b u hc e) (fun b u _ _ hc e _ => ⟨u.slots, k b u hc e⟩)
    (fun b u _ e n => ?_) (fun b u hc e => ⟨u, k b u hc e⟩) (fun b xs e => ?_) (fun b u xs e => ?_) (fun b ps e => ⟨#[], ?_⟩) (fun m hm => ?_) (fun b u e => ?_) I.bare
  · obtain ⟨f0, f1, f2, f3, f4, f5⟩ := hf b hb
    exact ⟨f3, f1, f4, f5⟩
  · rw [upd_ne (Nat.ne_of_lt (Nat.lt_of_lt_of_le (Heap.lt_size e) hp))]
    exact n
  · rw [upd_ne (ne_of_none e hn)]
    exact e
  · rw [upd_ne (ne_of_none e hn)]
    exact e
  · rw [upd_ne (ne_of_none e hn), e]
    simp
  · obtain ⟨ob, es, ep, ho, r⟩ := hm
    exact ⟨ob, es, ep, k _ ob (fun z => (hf _ z).2.1 rfl) ho, r⟩
  · by_cases hb : b = l
    · subst hb
      rw [upd_same] at e
      cases e
      exact new
    · rw [upd_ne hb] at e
      refine (I.hok b u e).stay (fun c v hc q => k c v ?_ q) (fun c q => by rw [upd_ne (ne_of_none q hn)]; exact q) fun c xs q => by rw [upd_ne (ne_of_none q hn)]; exact q
      rcases hc with z | z
      · rw [z]; exact nch b u e
      · exact nch c _ z
end
/-- the list at a with its numbers: a new tuple each turn -/
def Ite (K : PySem.W.Frag) (a : Addr) : It :=
  ⟨fun i H => ∃ xs x, SqL K H a xs ∧ xs[i]? = some x, fun i H v H' => ∃ t x, v = .ref t ∧ H t = none ∧ (∀ xs, SqL K H a xs → xs[i]? = some x) ∧ H' = upd H t (.tup [.int i, x]), fun i H => ∃ xs, SqL K H a xs ∧ xs.length ≤ i⟩
theorem turn_enum {P : Program} {w : World} {K : PySem.W.Frag} {es : List Expr} {k1 : Nat} {tp : Pos} (a e it : Addr) (hne : e ≠ it) :
    Turn P w K (.Tuple es k1 tp) (Ite K a) [e, it] e (fun i h => (∃ old, IsEnum h e it (i : Nat) old) ∧ h.IsListIter it a i) where
  mem := by simp
  obj := fun i h st b hb => by
    obtain ⟨⟨old, e1⟩, o, e2, c, d⟩ := st
    have z : b = e ∨ b = it := by simpa using hb
    rcases z with rfl | rfl
    · refine ⟨_, e1, fun v z => ?_⟩
      have z' : Data.fields _ = Data.cell v := z
      cases z'
    · exact ⟨o, e2, fun v z => by rw [d] at z; cases z⟩
  keep := fun i h h' st k => ⟨let ⟨old, e1⟩ := st.1; ⟨old, k e (by simp) _ e1⟩, st.2.at fun o e => k it (by simp) o e⟩
  item := by
    intro X hP hw hK hc i pins s σ H E I hf st hg
    subst hP hw hK
    obtain ⟨xs, x, hq, hx⟩ := hg
    obtain ⟨its, rv, p, hz⟩ := I.list hq
    obtain ⟨u, hu, ru⟩ := rv.get hx
    obtain ⟨⟨old, he⟩, hit⟩ := st
    have heL : e < s.heap.objs.size := Heap.lt_size he
    refine wpAny_pyNext_enum_item he hit p.isList (x := u) (by simpa using hu) hne fun h1 heo hit1 ht1 hz1 hk1 => ⟨_, rfl, ?_⟩
    refine wpAny_letOwnedTupleGo_enum heo fun h2 he2 hs2 => ?_
    replace hs2 : Heap.SameBut e h1 h2 := hs2
    have ht2 : h2.get? s.heap.objs.size = some { cls := .type "tuple", data := .seq #[.int i s.toks, u] } := (hs2.2 _ (Nat.ne_of_gt heL)).trans ht1
    have kk : ∀ b o, b ∉ [e, it] → s.heap.get? b = some o → h2.get? b = some o := fun b o hb q => by
      have h1 : b ≠ e := fun z => hb (by simp [z])
      have h2 : b ≠ it := fun z => hb (by simp [z])
      exact (hs2.2 b h1).trans (hk1 b o h1 h2 q)
    have hn : H s.heap.objs.size = none := I.hok.fresh (Nat.le_refl _)
    have I2 : Inv X pins σ (upd H s.heap.objs.size (.tup [.int i, x])) { s with heap := h2, toks := s.toks + 1 } :=
      I.turnLay kk hf (Nat.le_refl _) ⟨Nat.le_of_ble_eq_true rfl, [.int i s.toks, u], .cons ⟨_, rfl⟩ (.cons ru .nil), ⟨_, ht2, rfl, 0, rfl⟩⟩
    refine ⟨.ref s.heap.objs.size, _, I2, rfl, ⟨_, x, rfl, hn, fun ys hy => by rw [I.list_inj hy hq]; exact hx, rfl⟩, ⟨⟨u, ?_⟩, hit1.extBut hs2.extBut (Ne.symm hne)⟩, fun b hb => ?_⟩
    · have e1 : ((i + 1 : Nat) : Int) = (i : Int) + 1 := by omega
      rw [e1]
      exact he2
    · rw [upd_ne]
      · exact (hf b hb).1
      · have z : b = e ∨ b = it := by simpa using hb
        obtain ⟨oi, hoi, _⟩ := hit
        rcases z with rfl | rfl
        · exact Nat.ne_of_lt heL
        · exact Nat.ne_of_lt (Heap.lt_size hoi)
  done := by
    intro X hP hw hK hc i pins s σ H E I hf st hg
    subst hP hw hK
    obtain ⟨xs, hq, hx⟩ := hg
    obtain ⟨its, rv, p, hz⟩ := I.list hq
    obtain ⟨f0, f1, f2, f3, f4, f5⟩ := hf it (by simp)
    obtain ⟨⟨old, he⟩, hit⟩ := st
    have hl := rv.length
    exact wpAny_pyNext_enum_end (I.ok.hd hc) he hit p.isList (by simp; omega) fun h' eb => ⟨rfl, I.turned (t' := s.toks) (fun b o hb e => eb b o hb e) f0 f1 f3 f4 f5⟩
  self := fun _ _ _ _ _ st h => let ⟨⟨_, e1⟩, _⟩ := st; wpAny_pyIter_enum e1 h
theorem bt_enumerate : bootBuiltins "enumerate" = some (.type "enumerate") := by decide +kernel
section
variable {X : Cx} {es : List Expr} {k1 : Nat} {tp : Pos}
def iEnum (K : PySem.W.Frag) (ta : TA) : TI := fun σ H R => ta σ H fun vs H1 => ∃ a, vs = [.ref a] ∧ (∃ xs, SqL K H1 a xs) ∧ R (Ite K a) H1
theorem pi_enum {a : Expr} {ta : TA} {p pos : Pos} (hg : Gl X "enumerate") (hm : X.mg "enumerate" = none) (ha : PA X [a] ta) (hs : starEach [a] X.env = (false, eval a X.env) :: starEach [] X.env := by rfl) :
    PI X (.Tuple es k1 tp) (.Call (.Name "enumerate" p) [a] [] pos) (iEnum X.K ta) := by
  intro pins s σ H R I h
  refine wpAny_Call_Name_kw (ld_blt I hg hm bt_enumerate ?_)
  refine PyProof.Rows.callWith_type1 (thn (ha pos pins s σ H _ I h) fun us s1 ⟨vs, H1, I1, r1, q1⟩ => ?_) hs (by rfl)
  obtain ⟨l, rfl, ⟨xs, hq⟩, q⟩ := q1
  obtain ⟨u, rfl, ru⟩ := vals1 r1
  cases ru
  obtain ⟨its, rv, pl, hz⟩ := I1.list hq
  refine call_enumerate_list pl.isList fun h' he hit hsz hk => ?_
  refine wpAny_pyIter_enum he ?_
  refine ⟨s1.heap.objs.size + 1, [s1.heap.objs.size + 1, s1.heap.objs.size], _, _, H1, rfl, I1.kept (t' := s1.toks) hk, turn_enum l _ s1.heap.objs.size (Nat.succ_ne_self _), ⟨⟨.none, he⟩, hit⟩, fun b hb => ?_, q⟩
  have z : b = s1.heap.objs.size + 1 ∨ b = s1.heap.objs.size := by simpa using hb
  have hge : s1.heap.objs.size ≤ b := by rcases z with rfl | rfl <;> omega
  exact I1.fpOk hge (I1.hok.fresh hge)
end
/-- over enumerate of a list that the body leaves as it is -/
theorem for_enum {K : PySem.W.Frag} {a : Addr} {xs : List V} {g : TG} {tb : TS} {D : Ends} {σ : St} {H : Hp} (Pv : Nat → St → Hp → Prop) (h0 : Pv 0 σ H) (hl : ∀ i σ H, i ≤ xs.length → Pv i σ H → SqL K H a xs)
    (hs : ∀ i x t σ H, xs[i]? = some x → Pv i σ H → H t = none → g (.ref t) σ (upd H t (.tup [.int i, x])) fun σ2 H2 => tb { D with nx := Pv (i + 1), ct := Pv (i + 1), bk := D.nx } σ2 H2) (hd : ∀ σ H, Pv xs.length σ H → D.nx σ H) :
    ∃ W : Nat → Nat → St → Hp → Prop, (∃ m, W 0 m σ H) ∧ ∀ i m σ H, W i m σ H →
      ((Ite K a).stop i H ∧ D.nx σ H) ∨ ((Ite K a).go i H ∧ ∃ N : St → Hp → Prop, (∀ σ' H', N σ' H' → ∃ m', m' < m ∧ W (i + 1) m' σ' H') ∧ ∀ x H', (Ite K a).yld i H x H' → g x σ H' fun σ2 H2 => tb { D with nx := N, ct := N, bk := D.nx } σ2 H2) := by
  refine ⟨fun i m σ H => m = xs.length - i ∧ i ≤ xs.length ∧ Pv i σ H, ⟨xs.length, by simp, Nat.zero_le _, h0⟩, ?_⟩
  rintro i m σ H ⟨rfl, hi, p⟩
  have q := hl i σ H hi p
  by_cases hlt : i < xs.length
  · refine .inr ⟨⟨xs, xs[i], q, by simp [hlt]⟩, Pv (i + 1), fun σ' H' p' => ⟨xs.length - (i + 1), by omega, rfl, hlt, p'⟩, fun v H' y => ?_⟩
    obtain ⟨t, x, rfl, hn, hx, rfl⟩ := y
    exact hs i x t σ _ (hx xs q) p hn
  · have e : i = xs.length := by omega
    subst e
    exact .inl ⟨⟨xs, q, Nat.le_refl _⟩, hd σ H p⟩
end L2

/-! ### == and != of nested lists and tuples -/
namespace L2
open PySem PySem.Spec PyProof.Rows
mutual
/-- the value v stands for the datum d -/
inductive Den (K : PySem.W.Frag) (H : Hp) : V → PyData → Prop
  | non : Den K H .non .none
  | bl (b : Bool) : Den K H (.bl b) (.bool b)
  | int (i : Int) : Den K H (.int i) (.int i)
  | str (x : Str) : PyData.canLay0 (.str x) = true → Den K H (.str x) (.str x)
  | lst {a xs ds} : SqL K H a xs → DenL K H xs ds → Den K H (.ref a) (.list ds)
  | tup {a xs ds} : SqT K H a xs → DenL K H xs ds → Den K H (.ref a) (.tuple ds)
inductive DenL (K : PySem.W.Frag) (H : Hp) : List V → List PyData → Prop
  | nil : DenL K H [] []
  | cons {x xs d ds} : Den K H x d → DenL K H xs ds → DenL K H (x :: xs) (d :: ds)
end
section
variable {X : Cx} {pins : List (Addr × Obj)} {σ : St} {H : Hp} {s : Shared}
mutual
theorem den_reads (I : Inv X pins σ H s) : ∀ (d : PyData) (v : V) (u : Value), Den X.K H v d → RelV v u → ∃ as, Reads s.heap u d as
  | .none, v, u, h, r => by cases h; cases r; exact ⟨_, .none⟩
  | .bool b, v, u, h, r => by cases h; cases r; exact ⟨_, .bool b⟩
  | .int i, v, u, h, r => by cases h; obtain ⟨t, rfl⟩ := r; exact ⟨_, .int i t⟩
  | .str x, v, u, h, r => by cases h; obtain ⟨t, rfl⟩ := r; exact ⟨_, .str x t⟩
  | .list ds, v, u, h, r => by
    cases h with
    | lst hq hl =>
      cases r
      obtain ⟨its, rv, ⟨o, n, e, c, _, d⟩, _⟩ := I.list hq
      obtain ⟨as, q⟩ := denL_reads I ds _ _ hl rv
      exact ⟨_, .list e c d (by simpa using q)⟩
  | .tuple ds, v, u, h, r => by
    cases h with
    | tup hq hl =>
      cases r
      obtain ⟨its, rv, ⟨o, e, c, n, d⟩, _⟩ := I.tuple hq
      obtain ⟨as, q⟩ := denL_reads I ds _ _ hl rv
      exact ⟨_, .tuple e c d (by simpa using q)⟩
  | .dict _, v, u, h, r => by cases h
theorem denL_reads (I : Inv X pins σ H s) : ∀ (ds : List PyData) (xs : List V) (us : List Value), DenL X.K H xs ds → Vals xs us → ∃ as, ReadsAll s.heap us ds as
  | [], xs, us, h, r => by cases h; cases r; exact ⟨_, .nil⟩
  | d :: ds, xs, us, h, r => by
    cases h with
    | cons h1 h2 =>
      cases r with
      | cons r1 r2 =>
        obtain ⟨a1, q1⟩ := den_reads I d _ _ h1 r1
        obtain ⟨a2, q2⟩ := denL_reads I ds _ _ h2 r2
        exact ⟨_, .cons q1 q2⟩
end
mutual
theorem den_lay {K : PySem.W.Frag} : ∀ (d : PyData) (v : V), Den K H v d → d.canLay0 = true
  | .none, v, h => rfl
  | .bool b, v, h => rfl
  | .int i, v, h => rfl
  | .str x, v, h => by cases h with | str _ q => exact q
  | .list ds, v, h => by cases h with | lst _ q => exact denL_lay ds _ q
  | .tuple ds, v, h => by cases h with | tup _ q => exact denL_lay ds _ q
  | .dict _, v, h => by cases h
theorem denL_lay {K : PySem.W.Frag} : ∀ (ds : List PyData) (xs : List V), DenL K H xs ds → PyData.canLayAll0 ds = true
  | [], xs, h => rfl
  | d :: ds, xs, h => by
    cases h with
    | cons h1 h2 =>
      show (PyData.canLay0 d && PyData.canLayAll0 ds) = true
      rw [den_lay d _ h1, denL_lay ds _ h2]
      rfl
end
def rEqD (K : PySem.W.Frag) (neg : Bool) : R2 := fun x y H Q => ∃ d e, Den K H x d ∧ Den K H y e ∧ min d.depth e.depth ≤ 64 ∧ Q (.bl (if neg then !PyData.eqv d e else PyData.eqv d e)) H
theorem op_eqD (hu : X.A.units + 64 < cLine) : OpR X (compareOp .Eq) (rEqD X.K false) := by
  intro pins s σ H x y v u Q I rx ry h
  obtain ⟨d, e, hd, he, hz, q⟩ := h
  obtain ⟨as, ra⟩ := den_reads I d _ _ hd rx
  obtain ⟨bs, rb⟩ := den_reads I e _ _ he ry
  exact PySem.SeqAt.eqOverData X.prog X.w X.A X.xe s v u d e as bs _ ra rb (den_lay d _ hd) (den_lay e _ he) (by omega) ⟨.bl _, H, I, rfl, q⟩
theorem op_neD (hu : X.A.units + 64 < cLine) : OpR X (compareOp .NotEq) (rEqD X.K true) := by
  intro pins s σ H x y v u Q I rx ry h
  obtain ⟨d, e, hd, he, hz, q⟩ := h
  obtain ⟨as, ra⟩ := den_reads I d _ _ hd rx
  obtain ⟨bs, rb⟩ := den_reads I e _ _ he ry
  exact PySem.SeqAt.neOverData X.prog X.w X.A X.xe s v u d e as bs _ ra rb (den_lay d _ hd) (den_lay e _ he) (by omega) ⟨.bl _, H, I, rfl, q⟩
end
/-! data without truths: == is equality -/
mutual
def nb : PyData → Bool
  | .none | .int _ | .str _ => true
  | .bool _ | .dict _ => false
  | .list xs | .tuple xs => nbL xs
def nbL : List PyData → Bool
  | [] => true
  | x :: xs => nb x && nbL xs
end
mutual
theorem eqv_iff : ∀ (d e : PyData), nb d = true → nb e = true → (PyData.eqv d e = true ↔ d = e)
  | .none, e, _, h => by cases e <;> first | (simp [PyData.eqv]; done) | cases h
  | .int i, e, _, h => by cases e <;> first | (simp [PyData.eqv]; done) | cases h
  | .str i, e, _, h => by cases e <;> first | (simp [PyData.eqv]; done) | cases h
  | .bool _, _, h, _ => by cases h
  | .dict _, _, h, _ => by cases h
  | .list xs, e, h1, h => by
    cases e with
    | list ys =>
      have q := eqvL_iff xs ys h1 h
      show PyData.eqvAll xs ys = true ↔ _
      rw [q]
      exact ⟨fun z => by rw [z], fun z => PyData.list.inj z⟩
    | none => simp [PyData.eqv]
    | int _ => simp [PyData.eqv]
    | str _ => simp [PyData.eqv]
    | tuple _ => simp [PyData.eqv]
    | bool _ => cases h
    | dict _ => cases h
  | .tuple xs, e, h1, h => by
    cases e with
    | tuple ys =>
      have q := eqvL_iff xs ys h1 h
      show PyData.eqvAll xs ys = true ↔ _
      rw [q]
      exact ⟨fun z => by rw [z], fun z => PyData.tuple.inj z⟩
    | none => simp [PyData.eqv]
    | int _ => simp [PyData.eqv]
    | str _ => simp [PyData.eqv]
    | list _ => simp [PyData.eqv]
    | bool _ => cases h
    | dict _ => cases h
theorem eqvL_iff : ∀ (xs ys : List PyData), nbL xs = true → nbL ys = true → (PyData.eqvAll xs ys = true ↔ xs = ys)
  | [], [], _, _ => by simp [PyData.eqvAll]
  | [], _ :: _, _, _ => by simp [PyData.eqvAll]
  | _ :: _, [], _, _ => by simp [PyData.eqvAll]
  | x :: xs, y :: ys, h1, h2 => by
    have a : nb x = true ∧ nbL xs = true := by
      have : (nb x && nbL xs) = true := h1
      simpa using this
    have b : nb y = true ∧ nbL ys = true := by
      have : (nb y && nbL ys) = true := h2
      simpa using this
    have q1 := eqv_iff x y a.1 b.1
    have q2 := eqvL_iff xs ys a.2 b.2
    show (PyData.eqv x y && PyData.eqvAll xs ys) = true ↔ _
    rw [Bool.and_eq_true, q1, q2]
    simp
end
theorem eqv_refl {d : PyData} (h : nb d = true) : PyData.eqv d d = true := (eqv_iff d d h h).mpr rfl
theorem eqv_ne {d e : PyData} (h : nb d = true) (h' : nb e = true) (n : d ≠ e) : PyData.eqv d e = false := by
  cases q : PyData.eqv d e with
  | false => rfl
  | true => exact absurd ((eqv_iff d e h h').mp q) n
/-! lists of ints -/
abbrev dInts (zs : List Int) : PyData := .list (zs.map .int)
theorem nb_ints : ∀ zs : List Int, nbL (zs.map .int) = true
  | [] => rfl
  | z :: zs => by
    show (nb (.int z) && nbL (zs.map .int)) = true
    rw [nb_ints zs]
    rfl
theorem depth_ints : ∀ zs : List Int, PyData.depthAll (zs.map .int) = 0
  | [] => rfl
  | z :: zs => by
    show max (PyData.depth (.int z)) (PyData.depthAll (zs.map .int)) = 0
    rw [depth_ints zs]
    rfl
theorem denL_ints {K : PySem.W.Frag} {H : Hp} : ∀ zs : List Int, DenL K H (zs.map V.int) (zs.map .int)
  | [] => .nil
  | z :: zs => .cons (.int z) (denL_ints zs)
theorem den_ints {K : PySem.W.Frag} {H : Hp} {a : Addr} {zs : List Int} (h : SqL K H a (zs.map V.int)) : Den K H (.ref a) (dInts zs) := .lst h (denL_ints zs)
theorem dints_depth (zs : List Int) (e : PyData) : min (dInts zs).depth e.depth ≤ 64 := by
  have q : (dInts zs).depth = 1 := by show PyData.depthAll (zs.map .int) + 1 = 1; rw [depth_ints]
  omega
theorem dints_inj {xs ys : List Int} (h : dInts xs = dInts ys) : xs = ys := by
  have q := PyData.list.inj h
  exact (List.map_inj_right (f := PyData.int) (fun a b z => PyData.int.inj z)).mp q
theorem eqv_ints (xs ys : List Int) : PyData.eqv (dInts xs) (dInts ys) = decide (xs = ys) := by
  by_cases h : xs = ys
  · subst h
    rw [decide_eq_true rfl]
    exact eqv_refl (nb_ints xs)
  · rw [decide_eq_false h]
    exact eqv_ne (nb_ints xs) (nb_ints ys) fun z => h (dints_inj z)
end L2

/-! ### a list comprehension of one clause, by a word -/
namespace L2
open PySem PySem.Spec PyProof.Rows

/-! the loop's turns -/
section
variable {prog : Program} {w : World} {A : Around} {R : Result → Shared → Prop} {s : Shared}
theorem compLoop_any {elt target iter : Expr} {ifs : List Expr} {scope : Scope} {pos : Pos} {it acc : Value} {env : Env} (I : Nat → Shared → Prop)
    (turn : ∀ n s, I n s → wpAny (model prog w) A (pyNext it) (fun r s1 => match r with
      | none => R (.ok .next) s1
      | some v => wpAny (model prog w) A (letOwnedTupleGo target it v) (fun _ s1' => wpAny (model prog w) A (assign target env v) (fun _ s2 =>
          wpAny (model prog w) A (forIn ifs true fun c r => if r = true then do let ok ← isTrue c env (eval c env); pure (ForInStep.yield ok) else pure (ForInStep.yield r)) (fun ok s3 =>
            if ok = true then wpAny (model prog w) A (eval elt env) (fun x s4 =>
              wpAny (model prog w) A (call (.builtin "list.append") [acc, x]) (fun _ s5 => ∃ m, m < n ∧ I m s5) (fun _ _ => False) s4) (fun _ _ => False) s3
            else ∃ m, m < n ∧ I m s3) (fun _ _ => False) s2) (fun _ _ => False) s1') (fun _ _ => False) s1) (fun _ _ => False) s)
    (n : Nat) (h : I n s) :
    codeAny (model prog w) A (.compLoop (.ListComp elt [⟨target, iter, ifs, 0⟩] scope pos) 0 it acc env) R s := by
  refine codeAny_loop rfl I (fun n s hI => ?_) n h
  show wpAny _ A ((compTurn (.ListComp elt [⟨target, iter, ifs, 0⟩] scope pos) 0 it acc env).onRaise (fun x => do noteFrame x env; theTreesLotGoes x)) _ _ s
  refine wpAny_noted ?_
  rw [compTurn_list]
  refine wpAny_bind (wpAny_standAt (wpAny_bind (wpAny_mono (turn n s hI) (fun r s1 h1 => ?_) fun _ _ h' => False.elim h')))
  cases r with
  | none => exact wpAny_pure h1
  | some v =>
    refine wpAny_bind (wpAny_mono h1 (fun _ s1' h1' => ?_) fun _ _ h' => False.elim h')
    refine wpAny_bind (wpAny_mono h1' (fun _ s2 h2 => wpAny_bind (wpAny_mono h2 (fun ok s3 h3 => ?_) fun _ _ h' => False.elim h')) fun _ _ h' => False.elim h')
    cases ok with
    | false => exact wpAny_pure ⟨rfl, h3⟩
    | true =>
      exact wpAny_bind (wpAny_bind (wpAny_mono h3 (fun x s4 h4 => wpAny_bind (wpAny_mono h4 (fun _ s5 h5 => wpAny_pure (wpAny_pure ⟨rfl, h5⟩)) fun _ _ h' => False.elim h')) fun _ _ h' => False.elim h'))
end

/-! the block's cells -/
def closeFrom (env : Env) : List (Str × NameKind) → List (Str × Addr) → List (Str × Addr)
  | [], acc => acc
  | (n, k) :: r, acc => if (k == .free) = true then closeFrom env r ((n, (env.cells.lookup n).getD 0) :: acc) else closeFrom env r acc
theorem closeFrom_mem {env : Env} (P : Str → Addr → Prop) : ∀ (names : List (Str × NameKind)) (acc : List (Str × Addr)), (∀ x ∈ names, x.2 = .free → ∃ c, env.cells.lookup x.1 = some c) → (∀ n c, (n, c) ∈ acc → P n c) →
    (∀ n c, env.cells.lookup n = some c → P n c) → ∀ n c, (n, c) ∈ closeFrom env names acc → P n c
  | [], acc, _, ha, _, n, c, h => ha n c h
  | (m, k) :: r, acc, hf, ha, hp, n, c, h => by
    unfold closeFrom at h
    split at h
    · rename_i hk
      refine closeFrom_mem P r _ (fun x hx => hf x (List.mem_cons_of_mem _ hx)) (fun n' c' h' => ?_) hp n c h
      rcases List.mem_cons.mp h' with e | h'
      · obtain ⟨c0, e0⟩ := hf (m, k) List.mem_cons_self (eq_of_beq hk)
        injection e with e1 e2
        subst e1 e2
        rw [e0]
        exact hp _ _ e0
      · exact ha n' c' h'
    · exact closeFrom_mem P r acc (fun x hx => hf x (List.mem_cons_of_mem _ hx)) ha hp n c h
theorem closeFrom_acc {env : Env} : ∀ (names : List (Str × NameKind)) (acc : List (Str × Addr)) (x : Str × Addr), x ∈ acc → x ∈ closeFrom env names acc
  | [], _, _, h => h
  | (m, k) :: r, acc, x, h => by
    unfold closeFrom
    split
    · exact closeFrom_acc r _ x (List.mem_cons_of_mem _ h)
    · exact closeFrom_acc r _ x h
theorem closeFrom_has {env : Env} : ∀ (names : List (Str × NameKind)) (acc : List (Str × Addr)) (x : Str), (x, NameKind.free) ∈ names → ∃ c, (x, c) ∈ closeFrom env names acc
  | [], _, _, h => nomatch h
  | (m, k) :: r, acc, x, h => by
    unfold closeFrom
    rcases List.mem_cons.mp h with e | h
    · injection e with e1 e2
      subst e1 e2
      rw [if_pos (by decide)]
      exact ⟨_, closeFrom_acc r _ _ List.mem_cons_self⟩
    · split
      · exact closeFrom_has r _ x h
      · exact closeFrom_has r _ x h
theorem closureFor_eq {scope : Scope} {env : Env} (hf : ∀ x ∈ scope.names, x.2 = .free → ∃ c, env.cells.lookup x.1 = some c) : closureFor scope env = pure (closeFrom env scope.names []) := by
  have go : ∀ (names : List (Str × NameKind)) (acc : List (Str × Addr)), (∀ x ∈ names, x.2 = .free → ∃ c, env.cells.lookup x.1 = some c) →
      (forIn names acc fun (x : Str × NameKind) (r : List (Str × Addr)) => (match x with
        | (name, kind) => if (kind == NameKind.free) = true then do
            let a ← cellOf env name
            pure (ForInStep.yield ((name, a) :: r))
          else pure (ForInStep.yield r) : Sem (ForInStep (List (Str × Addr))))) = pure (closeFrom env names acc) := by
    intro names
    induction names with
    | nil => intro acc _; rw [List.forIn_nil]; rfl
    | cons x r ih =>
      intro acc hf
      obtain ⟨n, k⟩ := x
      rw [List.forIn_cons]
      unfold closeFrom
      by_cases hk : (k == NameKind.free) = true
      · obtain ⟨c, e⟩ := hf (n, k) List.mem_cons_self (eq_of_beq hk)
        simp only [hk, if_true]
        have e2 : cellOf env n = pure c := by unfold cellOf; rw [e]
        rw [e2, e]
        simp only [pure_bind, Option.getD_some]
        exact ih _ fun x hx => hf x (List.mem_cons_of_mem _ hx)
      · simp only [hk, if_false]
        exact ih _ fun x hx => hf x (List.mem_cons_of_mem _ hx)
  simp only [closureFor]
  have := go scope.names [] hf
  first
    | exact this
    | (simp only [bind_pure]; exact this)
    | (rw [this]; rfl)
theorem cellsFrom_app : ∀ (names : List (Str × NameKind)) (n : Nat) (acc : List (Str × Addr)), cellsFrom n names acc = cellsFrom n names [] ++ acc
  | [], _, _ => rfl
  | (m, k) :: r, n, acc => by
    unfold cellsFrom
    split
    · rw [cellsFrom_app r (n + 1) ((m, n) :: acc), cellsFrom_app r (n + 1) [(m, n)], List.append_assoc]
      rfl
    · exact cellsFrom_app r n acc
theorem cellsFrom_src : ∀ (names : List (Str × NameKind)) (n : Nat) (acc : List (Str × Addr)) (x : Str × Addr), x ∈ cellsFrom n names acc → (x.1, NameKind.cell) ∈ names ∨ x ∈ acc
  | [], _, _, _, h => .inr h
  | (m, k) :: r, n, acc, x, h => by
    unfold cellsFrom at h
    split at h
    · rename_i hk
      rcases cellsFrom_src r _ _ x h with q | q
      · exact .inl (List.mem_cons_of_mem _ q)
      · rcases List.mem_cons.mp q with e | q
        · rw [e, eq_of_beq hk]
          exact .inl List.mem_cons_self
        · exact .inr q
    · rcases cellsFrom_src r _ _ x h with q | q
      · exact .inl (List.mem_cons_of_mem _ q)
      · exact .inr q
theorem lookup_app {α : Type} (x : Str) : ∀ (l r : List (Str × α)), (l ++ r).lookup x = (l.lookup x).or (r.lookup x)
  | [], r => by simp
  | (k, v) :: l, r => by
    rw [List.cons_append, List.lookup_cons, List.lookup_cons]
    cases hb : x == k with
    | true => rfl
    | false => exact lookup_app x l r
theorem lookup_some_of_mem {α : Type} {x : Str} : ∀ {l : List (Str × α)} {c : α}, (x, c) ∈ l → ∃ c', l.lookup x = some c'
  | (k, v) :: l, c, h => by
    rw [List.lookup_cons]
    cases hb : x == k with
    | true => exact ⟨v, rfl⟩
    | false =>
      rcases List.mem_cons.mp h with e | h
      · injection e with e1 e2
        subst e1
        rw [beq_self_eq_true] at hb
        cases hb
      · exact lookup_some_of_mem h
/-- the names of a block as the block sees them -/
theorem lookup_relabel {scope : Scope} {env : Env} {x : Str} {k : NameKind} (h : (relabel scope env).names.lookup x = some k) : ∃ k0, scope.names.lookup x = some k0 ∧ (k = k0 ∨ (k = .cell ∧ k0 = .free)) := by
  have go : ∀ names : List (Str × NameKind), (names.map fun (n, k) => if (k == NameKind.free && env.scope.kind == .function && env.kindOf n == some .cell) then (n, NameKind.cell) else (n, k)).lookup x = some k →
      ∃ k0, names.lookup x = some k0 ∧ (k = k0 ∨ (k = .cell ∧ k0 = .free)) := by
    intro names
    induction names with
    | nil => intro h; cases h
    | cons y r ih =>
      obtain ⟨n, k1⟩ := y
      intro h
      replace h : List.lookup x ((if (k1 == NameKind.free && env.scope.kind == .function && env.kindOf n == some .cell) = true then (n, NameKind.cell) else (n, k1)) :: (r.map fun (n, k) => if (k == NameKind.free && env.scope.kind == .function && env.kindOf n == some .cell) then (n, NameKind.cell) else (n, k))) = some k := h
      by_cases hc : (k1 == NameKind.free && env.scope.kind == .function && env.kindOf n == some .cell) = true
      · rw [if_pos hc] at h
        rw [List.lookup_cons] at h ⊢
        cases hb : x == n with
        | true =>
          rw [hb] at h
          have e : NameKind.cell = k := Option.some.inj h
          simp only [Bool.and_eq_true] at hc
          exact ⟨k1, rfl, .inr ⟨e.symm, eq_of_beq hc.1.1⟩⟩
        | false => rw [hb] at h; exact ih h
      · rw [if_neg hc] at h
        rw [List.lookup_cons] at h ⊢
        cases hb : x == n with
        | true =>
          rw [hb] at h
          have e : k1 = k := Option.some.inj h
          exact ⟨k1, rfl, .inl e.symm⟩
        | false => rw [hb] at h; exact ih h
  exact go _ h

/-! the block's own context -/
def blkEnv (scope : Scope) (env : Env) (C : Addr) (cells : List (Str × Addr)) : Env :=
  { scope := relabel scope env, locals := C, globals := env.globals, cells := cells, qual := env.qual, func := none, code := env.code, frame := env.frame, builtins := env.builtins }
def blkCx (X : Cx) (N' : List Str) (scope : Scope) (C : Addr) (cells : List (Str × Addr)) (s₀ : Shared) (H₀ : Hp) (ex : List Addr) : Cx :=
  { X with N := N', s₀ := s₀, H₀ := H₀, env := blkEnv scope X.env C cells, outer := X.stack, stack := X.stack, ex := ex, fn := fun x => scope.names.lookup x == some .cell, pn := [], xe := fun _ _ => False }
/-- the slots of the block: the outer ones, those that the block's own names shadow unset, then its own -/
def blkSt (ms : List Nat) (k : Nat) (σ : St) : St := ms.foldl (fun σ i => σ.set i none) σ ++ List.replicate k none
theorem unset_len (ms : List Nat) : ∀ σ : St, (ms.foldl (fun σ i => σ.set i none) σ).length = σ.length := by
  induction ms with
  | nil => intro σ; rfl
  | cons m ms ih => intro σ; rw [List.foldl_cons, ih, List.length_set]
theorem unset_get (ms : List Nat) : ∀ (σ : St) (i : Nat) (v : V), (ms.foldl (fun σ i => σ.set i none) σ)[i]? = some (some v) → σ[i]? = some (some v) ∧ i ∉ ms := by
  induction ms with
  | nil => intro σ i v h; exact ⟨h, by simp⟩
  | cons m ms ih =>
    intro σ i v h
    rw [List.foldl_cons] at h
    obtain ⟨h1, h2⟩ := ih _ i v h
    by_cases e : m = i
    · subst e
      rw [List.getElem?_set] at h1
      split at h1
      · split at h1 <;> cases h1
      · exact absurd rfl ‹_›
    · rw [List.getElem?_set_ne e] at h1
      exact ⟨h1, by simp only [List.mem_cons, not_or]; exact ⟨fun z => e z.symm, h2⟩⟩
/-- what a block's names must be: decided by the texts -/
structure BlkOk (X : Cx) (N' : List Str) (scope : Scope) (ms : List Nat) (k : Nat) : Prop where
  kind : scope.kind = .function
  uniq : ∀ x ∈ scope.names, scope.names.lookup x.1 = some x.2
  free : ∀ x ∈ scope.names, x.2 = .free → X.env.kindOf x.1 = some .cell ∨ X.env.kindOf x.1 = some .free
  len : N'.length = X.N.length + k
  pre : ∀ i : Nat, i < X.N.length → N'[i]? = X.N[i]?
  vis : ∀ i : Nat, i < X.N.length → i ∉ ms → ∀ x k', N'[i]? = some x → scope.names.lookup x = some k' → k' = .local ∨ k' = .cell ∨ k' = .free → k' = .free

section
variable {X : Cx} {pins : List (Addr × Obj)} {σ : St} {H : Hp} {s : Shared}
theorem wp_blkEnv {M : Model} {A : Around} {E : Value → Shared → Prop} {scope : Scope} {globals : Addr} {cl : List (Str × Addr)} {qual : Str} {env : Env} {Q : Env → Shared → Prop}
    (hQ : Q { scope := scope, locals := s.heap.objs.size, globals := globals, cells := cellsFrom (s.heap.objs.size + 1) scope.names cl, qual := qual, func := none, code := env.code, frame := env.frame, builtins := env.builtins }
      { s with heap := pushCells (s.heap.push { cls := .type "dict", data := .dict #[] }) scope.names }) :
    wpAny M A (newFunctionEnv scope globals cl [] qual none .none (some env)) Q E s := by
  simp only [newFunctionEnv, Option.isSome_some, if_true]
  refine wpAny_bind (wpAny_alloc ?_)
  refine wpAny_bind (wpAny_layCells _ (fun name kind cells => by cases hkc : kind == NameKind.cell <;> simp [hkc]) _ _ _ _ ?_)
  rw [show ({ s with heap := s.heap.push { cls := .type "dict", data := .dict #[] } } : Shared).heap.objs.size = s.heap.objs.size + 1 from Heap.size_push ..]
  rw [List.forIn_nil]
  exact wpAny_bind (wpAny_pure (wpAny_pure hQ))

/-- at the block's entry -/
theorem inv_blk {N' : List Str} {scope : Scope} {ms : List Nat} {k : Nat} {ex : List Addr} (I : Inv X pins σ H s) (B : BlkOk X N' scope ms k) (hex : ∀ b ∈ ex, FpOk X pins H b ∧ b < s.heap.objs.size) :
    Inv (blkCx X N' scope s.heap.objs.size (cellsFrom (s.heap.objs.size + 1) scope.names (closeFrom X.env scope.names [])) s H ex) [] (blkSt ms k σ) H
      { s with heap := pushCells (s.heap.push { cls := .type "dict", data := .dict #[] }) scope.names } := by
  have hfree : ∀ x ∈ scope.names, x.2 = .free → ∃ c, X.env.cells.lookup x.1 = some c := fun x hx hk => I.ok.has x.1 (B.free x hx hk)
  have keep : ∀ b o, s.heap.get? b = some o → (pushCells (s.heap.push { cls := .type "dict", data := .dict #[] }) scope.names).get? b = some o := fun b o e => pushCells_keeps _ _ b o (Heap.get?_push_of_some _ e)
  have own := cellsFrom_ok scope.names (s.heap.push { cls := .type "dict", data := .dict #[] }) (s.heap.objs.size + 1) [] ⟨fun _ _ hm => (nomatch hm), List.Pairwise.nil⟩ (by rw [Heap.size_push]; exact Nat.le_refl _)
  rw [Heap.size_push] at own
  have clm : ∀ n c, (n, c) ∈ closeFrom X.env scope.names [] → X.env.cells.lookup n = some c := closeFrom_mem (fun n c => X.env.cells.lookup n = some c) scope.names [] hfree (fun _ _ h => nomatch h) fun _ _ h => h
  have clt : ∀ n (c : Addr), X.env.cells.lookup n = some c → @LT.lt Nat instLTNat c s.heap.objs.size := fun n c e => by obtain ⟨v, q⟩ := I.cell n c e; exact q.lt
  have look : ∀ x c, (cellsFrom (s.heap.objs.size + 1) scope.names (closeFrom X.env scope.names [])).lookup x = some c →
      ((x, c) ∈ cellsFrom (s.heap.objs.size + 1) scope.names [] ∧ s.heap.objs.size + 1 ≤ c) ∨ (X.env.cells.lookup x = some c ∧ @LT.lt Nat instLTNat c s.heap.objs.size) := fun x c e => by
    rw [cellsFrom_app, lookup_app] at e
    cases q : (cellsFrom (s.heap.objs.size + 1) scope.names []).lookup x with
    | some c' =>
      rw [q] at e
      have e' : c' = c := Option.some.inj e
      subst e'
      exact .inl ⟨mem_of_lookup q, (own.empty x c' (mem_of_lookup q)).2⟩
    | none =>
      rw [q] at e
      have e2 := clm x c (mem_of_lookup e)
      exact .inr ⟨e2, clt x c e2⟩
  have hasL : ∀ x, scope.names.lookup x = some .cell ∨ scope.names.lookup x = some .free → ∃ c, (cellsFrom (s.heap.objs.size + 1) scope.names (closeFrom X.env scope.names [])).lookup x = some c := fun x hx => by
    rw [cellsFrom_app, lookup_app]
    cases q : (cellsFrom (s.heap.objs.size + 1) scope.names []).lookup x with
    | some c' => exact ⟨c', rfl⟩
    | none =>
      rcases hx with hx | hx
      · obtain ⟨c, e⟩ := cell_has (n := s.heap.objs.size + 1) hx
        rw [q] at e; cases e
      · obtain ⟨c, hc⟩ := closeFrom_has (env := X.env) scope.names [] x (PySem.mem_of_lookup hx)
        exact lookup_some_of_mem hc
  have Ir := I.lt
  refine ⟨⟨I.ok.mod, B.kind, I.ok.glob, I.ok.blt, Nat.le_refl _, fun x y c hx hy => ?_, fun x hx => ?_, fun x c hf hx => ?_, I.ok.hd, I.ok.frames, .inl rfl, fun b hb => ?_, I.bs, Nat.le_trans I.ok.bsz I.sz, fun b o e hb => ?_, fun b hb hfs => ?_, I.stack, I.stkFree⟩,
    rfl, I.bare, Un.kept keep, ⟨fun _ => none, ?_, fun i x v h1 h2 h3 => ?_⟩, fun x c hx => ?_, ?_, fun x c hx => ?_, fun p hp => absurd (show p ∈ ([] : List (Addr × Obj)) from hp) (by simp), I.hok.kept keep, ?_⟩
  · rcases look x c hx with ⟨m1, l1⟩ | ⟨m1, l1⟩
    · rcases look y c hy with ⟨m2, l2⟩ | ⟨m2, l2⟩
      · exact name_of_addr own.apart m1 m2
      · omega
    · rcases look y c hy with ⟨m2, l2⟩ | ⟨m2, l2⟩
      · omega
      · exact I.ok.inj x y c m1 m2
  · have hx : (relabel scope X.env).names.lookup x = some .cell ∨ (relabel scope X.env).names.lookup x = some .free := hx
    rcases hx with hx | hx
    · obtain ⟨k0, e, z | ⟨_, z⟩⟩ := lookup_relabel hx
      · exact hasL x (.inl (by rw [e, ← z]))
      · exact hasL x (.inr (by rw [e, z]))
    · obtain ⟨k0, e, z | ⟨z, _⟩⟩ := lookup_relabel hx
      · exact hasL x (.inr (by rw [e, ← z]))
      · cases z
  · show s.heap.objs.size ≤ c
    have hf : (scope.names.lookup x == some .cell) = true := hf
    have hf' : scope.names.lookup x = some .cell := eq_of_beq hf
    have hx : (cellsFrom (s.heap.objs.size + 1) scope.names (closeFrom X.env scope.names [])).lookup x = some c := hx
    rw [cellsFrom_app, lookup_app] at hx
    obtain ⟨c', e⟩ := cell_has (n := s.heap.objs.size + 1) hf'
    rw [e] at hx
    have z : c' = c := Option.some.inj hx
    subst z
    exact Nat.le_of_succ_le (own.empty x c' (mem_of_lookup e)).2
  · obtain ⟨_, hlt⟩ := hex b hb
    refine ⟨Nat.ne_of_lt hlt, fun x c hx z => ?_⟩
    subst z
    have hlt' : @LT.lt Nat instLTNat c s.heap.objs.size := hlt
    rcases look x c hx with ⟨_, l1⟩ | ⟨m1, _⟩
    · omega
    · obtain ⟨⟨_, _, _, _, f4, _⟩, _⟩ := hex c hb
      exact f4 x c m1 rfl
  · obtain ⟨⟨_, _, _, f3, _, _⟩, _⟩ := hex b hb
    rcases f3 with z | z
    · exact I.ok.noex b o e z
    · have h1 : @LT.lt Nat instLTNat b X.base.objs.size := Heap.lt_size e
      have h2 := I.ok.bsz
      have h3 : @LE.le Nat instLENat X.s₀.heap.objs.size b := z
      omega
  · obtain ⟨⟨_, f1, f2, _, _, _⟩, _⟩ := hex b hb
    rcases List.mem_cons.mp (I.stkSub b hfs) with z | z
    · exact f1 z
    · exact f2 z
  · exact (Heap.Ns.new s.heap (.type "dict")).keeps (pushCells_keeps _ _)
  · have hi : i < X.N.length := by
      by_cases hi : i < X.N.length
      · exact hi
      · exfalso
        unfold blkSt at h2
        have hl : (ms.foldl (fun σ i => σ.set i none) σ).length = X.N.length := by rw [unset_len, I.len]
        rw [List.getElem?_append_right (by omega), List.getElem?_replicate] at h2
        split at h2 <;> cases h2
    have h2' : (ms.foldl (fun σ i => σ.set i none) σ)[i]? = some (some v) := by
      unfold blkSt at h2
      have hl : (ms.foldl (fun σ i => σ.set i none) σ).length = X.N.length := by rw [unset_len, I.len]
      rw [List.getElem?_append_left (by omega)] at h2
      exact h2
    obtain ⟨h4, h5⟩ := unset_get ms σ i v h2'
    have h1' : N'[i]? = some x := h1
    have hXN : X.N[i]? = some x := by rw [← B.pre i hi]; exact h1'
    have h3 : (relabel scope X.env).names.lookup x = some .local ∨ (relabel scope X.env).names.lookup x = some .cell ∨ (relabel scope X.env).names.lookup x = some .free := h3
    have fr : scope.names.lookup x = some .free := by
      have go : ∀ k', (relabel scope X.env).names.lookup x = some k' → k' = .local ∨ k' = .cell ∨ k' = .free → scope.names.lookup x = some .free := fun k' e hk => by
        obtain ⟨k0, e0, z | ⟨_, z⟩⟩ := lookup_relabel e
        · have := B.vis i hi h5 x k0 h1' e0 (z ▸ hk)
          rw [e0, this]
        · rw [e0, z]
      rcases h3 with h3 | h3 | h3
      · exact go _ h3 (.inl rfl)
      · exact go _ h3 (.inr (.inl rfl))
      · exact go _ h3 (.inr (.inr rfl))
    have hk := B.free (x, .free) (PySem.mem_of_lookup fr) rfl
    obtain ⟨m, hn, hl⟩ := I.loc
    obtain ⟨u, r, l⟩ := hl i x v hXN h4 (.inr hk)
    refine ⟨u, r, .inr ⟨?_, ?_⟩⟩
    · rcases h3 with h3 | h3
      · exfalso
        obtain ⟨k0, e0, z | ⟨z, _⟩⟩ := lookup_relabel h3
        · rw [fr] at e0; cases e0; cases z
        · cases z
      · exact h3
    · rcases l with ⟨hloc, _⟩ | ⟨_, c, hc, hcell⟩
      · rcases hk with hk | hk
        · rw [hk] at hloc; cases hloc
        · rw [hk] at hloc; cases hloc
      · refine ⟨c, ?_, hcell.keeps keep⟩
        obtain ⟨c2, e2⟩ := hasL x (.inr fr)
        have e2' : (cellsFrom (s.heap.objs.size + 1) scope.names (closeFrom X.env scope.names [])).lookup x = some c2 := e2
        rcases look x c2 e2' with ⟨m1, _⟩ | ⟨m1, _⟩
        · exfalso
          rcases cellsFrom_src scope.names _ _ _ m1 with q | q
          · have := B.uniq _ q
            rw [fr] at this
            cases this
          · cases q
        · rw [hc] at m1
          have z : c = c2 := Option.some.inj m1
          rw [z]
          exact e2
  · rcases look x c hx with ⟨m1, _⟩ | ⟨m1, _⟩
    · exact ⟨none, (own.empty x c m1).1⟩
    · obtain ⟨v, q⟩ := I.cell x c m1
      exact ⟨v, q.keeps keep⟩
  · exact I.hok.fresh (Nat.le_refl _)
  · rcases look x c hx with ⟨_, l1⟩ | ⟨m1, _⟩
    · exact I.hok.fresh (by omega)
    · exact I.freeC x c m1
  · show (blkSt ms k σ).length = N'.length
    unfold blkSt
    rw [List.length_append, unset_len, List.length_replicate, I.len, B.len]
end
end L2

/-! ### the comprehension's rule -/
namespace L2
open PySem PySem.Spec PyProof.Rows
def tTrue : TT := fun _ H Q => Q true H
def CompW (J : It) (g : TG) (tc : TT) (te : TE) (D : Addr) (Q : VK) (σ0 : St) (H0 : Hp) : Prop := ∃ W : Nat → Nat → St → Hp → Prop, (∃ m, W 0 m σ0 (upd H0 D (.lst []))) ∧
  ∀ i m σ' H2, W i m σ' H2 → (J.stop i H2 ∧ Q (.ref D) H2) ∨ (J.go i H2 ∧ ∀ x H3, J.yld i H2 x H3 → g x σ' H3 fun σ2 H4 => tc σ2 H4 fun b H5 =>
    if b = true then te σ2 H5 fun v H6 => ∃ ys, H6 D = some (.lst ys) ∧ ys.length < sizeLine ∧ ∃ m', m' < m ∧ W (i + 1) m' σ2 (upd H6 D (.lst (ys ++ [v])))
    else ∃ m', m' < m ∧ W (i + 1) m' σ2 H5)
def tComp (wi : TI) (g : TG) (tc : TT) (te : TE) (ms : List Nat) (k : Nat) : TE := fun σ H Q => wi σ H fun J H1 => ∀ D, H1 D = none → CompW J g tc te D Q (blkSt ms k σ) H1
/-- the tests of a clause -/
def PTs (X : Cx) (ifs : List Expr) (t : TT) : Prop :=
  ∀ (pins : List (Addr × Obj)) (s : Shared) (σ : St) (H : Hp) (Q : Bool → Hp → Prop), Inv X pins σ H s → t σ H Q →
    wpAny (model X.prog X.w) X.A (forIn ifs true fun c r => if r = true then do let ok ← isTrue c X.env (eval c X.env); pure (ForInStep.yield ok) else pure (ForInStep.yield r)) (TP X pins σ Q) X.xe s
section
variable {X : Cx}
theorem pts_nil : PTs X [] tTrue := fun pins s σ H Q I h => wpAny_tests_nil ⟨H, I, h⟩
theorem pts_one {c : Expr} {t : TT} (h : PT X c t) : PTs X [c] t := fun pins s σ H Q I hw => wpAny_tests_one (h pins s σ H Q I hw)

theorem comp_core {elt target iter : Expr} {ifs : List Expr} {scope : Scope} {pos : Pos} {p : Pos} {wi : TI} {g : TG} {tc : TT} {te : TE} {N' : List Str} {ms : List Nat} {k : Nat} {use : Option (Value → Sem Unit)}
    {Q : Value → Shared → Prop} {pins : List (Addr × Obj)} {s : Shared} {σ : St} {H : Hp} {Qv : VK} (hcalm : X.calm = true) (hi : PI X target iter wi)
    (B : BlkOk X N' scope ms k) (hg : ∀ C cells s₀ H₀ ex, PG (blkCx X N' scope C cells s₀ H₀ ex) target g) (hc : ∀ C cells s₀ H₀ ex, PTs (blkCx X N' scope C cells s₀ H₀ ex) ifs tc)
    (he : ∀ C cells s₀ H₀ ex, PE (blkCx X N' scope C cells s₀ H₀ ex) elt te) (hs : ∀ x, foldedSetIterable iter X.env x = pure x) (I : Inv X pins σ H s) (hw : tComp wi g tc te ms k σ H Qv)
    (hpost : ∀ (D : Addr) (H' : Hp) (s' : Shared) (C : Addr) (m : Str → Option Value), Inv X pins σ H' s' → s'.heap.Ns C m → H' C = none → C ≠ X.env.locals → X.s₀.heap.objs.size ≤ C →
      (∀ x c, X.env.cells.lookup x = some c → c ≠ C) → (∀ p ∈ X.pn ++ pins, p.1 ≠ C) → Qv (.ref D) H' → compPost (model X.prog X.w) X.A X.xe use Q (.ref D) C (.ok .next) s') :
    wpAny (model X.prog X.w) X.A (comprehension (.ListComp elt [⟨target, iter, ifs, 0⟩] scope pos) scope X.env p (newList []) false (eval iter X.env) use) Q X.xe s := by
  have hfree : ∀ x ∈ scope.names, x.2 = .free → ∃ c, X.env.cells.lookup x.1 = some c := fun x hx hk => I.ok.has x.1 (B.free x hx hk)
  refine wpAny_comprehension_free (use := use) rfl hs (closureFor_eq hfree) B.kind (fun x hx hl => by rw [B.uniq x hx, hl]) ?_
  refine thn (hi pins s σ H _ I hw) fun v s1 h1 => thn h1 fun itv s2 h2 => ?_
  obtain ⟨it, fp, tn, J, H2, rfl, I2, T, st2, f2, h2⟩ := h2
  refine wpAny_newObj_type ?_
  have I3 : Inv X pins σ (upd H2 s2.heap.objs.size (.lst [])) { s2 with heap := s2.heap.push { cls := .type "list", data := .seq ([] : List Value).toArray } } := I2.lnew (t' := s2.toks) .nil (Nat.zero_le _)
  obtain ⟨W, ⟨m0, w0⟩, turn⟩ := h2 s2.heap.objs.size I2.fresh
  have hfp3 : ∀ b ∈ fp, FpOk X pins (upd H2 s2.heap.objs.size (.lst [])) b ∧ b < (s2.heap.push { cls := .type "list", data := .seq ([] : List Value).toArray }).objs.size := fun b hb => by
    obtain ⟨o, e, _⟩ := T.obj _ _ st2 b hb
    have hlt := Heap.lt_size e
    obtain ⟨f0, fr⟩ := f2 b hb
    refine ⟨⟨by rw [upd_ne (Nat.ne_of_lt hlt)]; exact f0, fr⟩, ?_⟩
    rw [Heap.size_push]
    exact Nat.lt_succ_of_lt hlt
  generalize hs3 : ({ s2 with heap := s2.heap.push { cls := .type "list", data := .seq ([] : List Value).toArray } } : Shared) = s3 at I3
  have hh3 : s2.heap.push { cls := .type "list", data := .seq ([] : List Value).toArray } = s3.heap := by rw [← hs3]
  rw [hh3] at hfp3
  refine wp_blkEnv ?_
  have I4 := inv_blk I3 B hfp3
  have st4 : tn 0 (pushCells (s3.heap.push { cls := .type "dict", data := .dict #[] }) scope.names) := T.keep _ _ _ st2 fun b hb o e => pushCells_keeps _ _ b o (Heap.get?_push_of_some _ (by rw [← hh3]; exact Heap.get?_push_of_some _ e))
  have fr4 : ∀ b ∈ fp, upd H2 s2.heap.objs.size (.lst []) b = none := fun b hb => (hfp3 b hb).1.1
  generalize hs4 : ({ s3 with heap := pushCells (s3.heap.push { cls := .type "dict", data := .dict #[] }) scope.names } : Shared) = s4 at I4
  have hh4 : pushCells (s3.heap.push { cls := .type "dict", data := .dict #[] }) scope.names = s4.heap := by rw [← hs4]
  rw [hh4] at st4
  have stat : ∀ {H' : Hp} {pn' : List (Addr × Obj)}, pn' = [] → (∀ b ∈ fp, H' b = none) → ∀ b ∈ fp, FpOk (blkCx X N' scope s3.heap.objs.size (cellsFrom (s3.heap.objs.size + 1) scope.names (closeFrom X.env scope.names [])) s3 (upd H2 s2.heap.objs.size (.lst [])) fp) pn' H' b := fun hp hn b hb => by
    obtain ⟨x1, x2⟩ := I4.ok.exf b hb
    exact ⟨hn b hb, x1, I4.ok.exfs b hb, .inl hb, x2, fun p hp' => by rw [hp] at hp'; exact absurd (show p ∈ ([] : List (Addr × Obj)) from hp') (by simp)⟩
  have loop : ∀ it' : Value, it' = .ref it → codeAny (model X.prog X.w) X.A (.compLoop (.ListComp elt [⟨target, iter, ifs, 0⟩] scope pos) 0 it' (.ref s2.heap.objs.size) (blkEnv scope X.env s3.heap.objs.size (cellsFrom (s3.heap.objs.size + 1) scope.names (closeFrom X.env scope.names []))))
      (compPost (model X.prog X.w) X.A X.xe use Q (.ref s2.heap.objs.size) s3.heap.objs.size) s4 := by
    rintro it' rfl
    refine compLoop_any (fun n s' => ∃ i σ' H', Inv (blkCx X N' scope s3.heap.objs.size (cellsFrom (s3.heap.objs.size + 1) scope.names (closeFrom X.env scope.names [])) s3 (upd H2 s2.heap.objs.size (.lst [])) fp) [] σ' H' s' ∧ tn i s'.heap ∧ (∀ b ∈ fp, H' b = none) ∧ W i n σ' H') ?_ m0 ⟨0, _, _, I4, st4, fr4, w0⟩
    rintro n s5 ⟨i, σ5, H5, I5, st5, fr5, w5⟩
    rcases turn i n σ5 H5 w5 with ⟨stop, q⟩ | ⟨go, step⟩
    · refine thn (T.done (blkCx X N' scope s3.heap.objs.size (cellsFrom (s3.heap.objs.size + 1) scope.names (closeFrom X.env scope.names [])) s3 (upd H2 s2.heap.objs.size (.lst [])) fp) rfl rfl rfl hcalm i [] s5 σ5 H5 (fun _ _ => False) I5 (stat rfl fr5) st5 stop) fun r s6 ⟨hr, I6⟩ => ?_
      subst hr
      have I7 : Inv X pins σ H5 s6 := I3.call' I6.os I6.base I6.hok I6.bare fun b hb => by
        obtain ⟨⟨_, f1, _, f3, f4, f5⟩, _⟩ := hfp3 b hb
        exact ⟨f3, f1, f4, f5⟩
      obtain ⟨m, hn, _⟩ := I6.loc
      have l3 := I3.lt
      refine hpost _ H5 s6 _ m I7 hn I6.free (Nat.ne_of_gt l3) I3.sz (fun x c e z => ?_) (fun p hp z => ?_) q
      · obtain ⟨v, hv⟩ := I3.cell x c e
        have := hv.lt
        rw [z] at this
        exact Nat.lt_irrefl _ this
      · have := Heap.lt_size (I3.pin p hp).1
        rw [z] at this
        exact Nat.lt_irrefl _ this
    · refine thn (T.item (blkCx X N' scope s3.heap.objs.size (cellsFrom (s3.heap.objs.size + 1) scope.names (closeFrom X.env scope.names [])) s3 (upd H2 s2.heap.objs.size (.lst [])) fp) rfl rfl rfl hcalm i [] s5 σ5 H5 (fun _ _ => False) I5 (stat rfl fr5) st5 go) fun r s6 ⟨u, hr, h6⟩ => ?_
      subst hr
      refine thn h6 fun _ s7 ⟨x, H7, I7, r7, y7, st7, fr7⟩ => ?_
      have I7' := I7.pinned (stat rfl fr7) (T.obj _ _ st7)
      refine thn (hg _ _ _ _ _ _ s7 σ5 H7 x u _ I7' r7 (step x H7 y7)) fun _ s8 ⟨σ8, H8, I8, q8⟩ => ?_
      refine thn (hc _ _ _ _ _ _ s8 σ8 H8 _ I8 q8) fun b s9 ⟨H9, I9, q9⟩ => ?_
      have again : ∀ {σ' : St} {H' : Hp} {s' : Shared}, Inv (blkCx X N' scope s3.heap.objs.size (cellsFrom (s3.heap.objs.size + 1) scope.names (closeFrom X.env scope.names [])) s3 (upd H2 s2.heap.objs.size (.lst [])) fp) ([] ++ pinsAt fp s7.heap) σ' H' s' →
          (∃ m', m' < n ∧ W (i + 1) m' σ' H') → ∃ m, m < n ∧ ∃ i σ'' H'', Inv (blkCx X N' scope s3.heap.objs.size (cellsFrom (s3.heap.objs.size + 1) scope.names (closeFrom X.env scope.names [])) s3 (upd H2 s2.heap.objs.size (.lst [])) fp) [] σ'' H'' s' ∧ tn i s'.heap ∧ (∀ b ∈ fp, H'' b = none) ∧ W i m σ'' H'' := fun {σ' H' s'} I' ⟨m', hm, w'⟩ => by
        refine ⟨m', hm, i + 1, σ', H', I'.unpinned, T.keep _ _ _ st7 fun b hb o e => (I'.pin (b, o) (List.mem_append_right _ (List.mem_append_right _ (mem_pinsAt hb e)))).1, fun b hb => ?_, w'⟩
        obtain ⟨o, e, d⟩ := T.obj _ _ st7 b hb
        exact (I'.pin (b, o) (List.mem_append_right _ (List.mem_append_right _ (mem_pinsAt hb e)))).2.1
      cases b with
      | false =>
        rw [if_neg Bool.false_ne_true] at q9 ⊢
        exact again I9 q9
      | true =>
        rw [if_pos rfl] at q9 ⊢
        refine thn (he _ _ _ _ _ _ s9 σ8 H9 _ I9 q9) fun y s10 ⟨vy, H10, I10, r10, ys, hys, hz, q10⟩ => ?_
        refine thn (mt_append _ s10 σ8 H10 (.ref s2.heap.objs.size) [vy] (.ref s2.heap.objs.size) [y] (fun _ H' => H' = upd H10 s2.heap.objs.size (.lst (ys ++ [vy]))) I10 rfl (.cons r10 .nil) ⟨_, ys, vy, rfl, rfl, hys, hz, rfl⟩) fun _ s11 ⟨_, H11, I11, _, e11⟩ => ?_
        subst e11
        exact again I11 q10
  have fin := codeAny_compStart_list (loop _ rfl) (T.self _ 0 s4 _ _ st4 (loop _ rfl))
  exact fin
theorem pe_compG {elt target iter : Expr} {ifs : List Expr} {scope : Scope} {pos : Pos} {wi : TI} {g : TG} {tc : TT} {te : TE} {N' : List Str} {ms : List Nat} {k : Nat} (hcalm : X.calm = true) (hi : PI X target iter wi)
    (B : BlkOk X N' scope ms k) (hg : ∀ C cells s₀ H₀ ex, PG (blkCx X N' scope C cells s₀ H₀ ex) target g) (hc : ∀ C cells s₀ H₀ ex, PTs (blkCx X N' scope C cells s₀ H₀ ex) ifs tc)
    (he : ∀ C cells s₀ H₀ ex, PE (blkCx X N' scope C cells s₀ H₀ ex) elt te) (hs : ∀ x, foldedSetIterable iter X.env x = pure x := by intro _; rfl) :
    PE X (.ListComp elt [⟨target, iter, ifs, 0⟩] scope pos) (tComp wi g tc te ms k) := by
  intro pins s σ H Q I h
  rw [eval_ListComp]
  refine comp_core (use := none) (Qv := Q) hcalm hi B hg hc he hs I h fun D H' s' C m I' hn f0 f1 f3 f4 f5 q => ?_
  exact ⟨m, hn, fun h' sb => ⟨.ref D, H', I'.turned (t' := s'.toks) (fun b o hb e => (sb.2 b hb).trans e) f0 f1 (.inr f3) f4 f5, rfl, q⟩⟩
/-- name = [..]: the value is stored ahead of the block's names -/
theorem ps_setC {i : Nat} {x : Str} {px : Pos} {spos : Pos} {elt target iter : Expr} {ifs : List Expr} {scope : Scope} {pos : Pos} {wi : TI} {g : TG} {tc : TT} {te : TE} {N' : List Str} {ms : List Nat} {k : Nat} (hN : X.N.Nodup) (hx : X.N[i]? = some x) (hl : Loc X.env.scope x)
    (hcalm : X.calm = true) (hi : PI X target iter wi) (B : BlkOk X N' scope ms k) (hg : ∀ C cells s₀ H₀ ex, PG (blkCx X N' scope C cells s₀ H₀ ex) target g) (hc : ∀ C cells s₀ H₀ ex, PTs (blkCx X N' scope C cells s₀ H₀ ex) ifs tc)
    (he : ∀ C cells s₀ H₀ ex, PE (blkCx X N' scope C cells s₀ H₀ ex) elt te) (hsw : swapsWith (.ListComp elt [⟨target, iter, ifs, 0⟩] scope pos) (some (.Name x px)) spos.line X.env = pure true := by rfl) (hs : ∀ x, foldedSetIterable iter X.env x = pure x := by intro _; rfl)
    (hf : X.fn x = true ∨ X.env.scope.names.lookup x = some .local := by first | exact .inl rfl | exact .inr rfl | assumption) :
    PS X (.Assign [.Name x px] (.ListComp elt [⟨target, iter, ifs, 0⟩] scope pos) spos) (tAsg (tComp wi g tc te ms k) (gName i)) := by
  intro pins s σ H D I h
  rw [exec_Assign_Name_used _ _ _ _ hsw]
  refine wpAny_bind (wpAny_standAt (wpAny_bind ?_))
  show wpAny _ X.A (do let _ ← comprehension (.ListComp elt [⟨target, iter, ifs, 0⟩] scope pos) scope X.env _ (newList []) false (eval iter X.env) (some (assign (.Name x px) X.env))) _ _ s
  refine wpAny_bind (wpAny_mono (comp_core (use := some (assign (.Name x px) X.env)) (Q := fun _ s' => ∃ σ' H', Inv X pins σ' H' s' ∧ D.nx σ' H') hcalm hi B hg hc he hs I h fun Da H' s' C m I' hn f0 f1 f3 f4 f5 q => ?_)
    (fun _ s' hq => wpAny_pure (wpAny_pure hq)) fun _ _ e => e)
  show wpAny _ X.A (assign (.Name x px) X.env (.ref Da)) _ _ s'
  refine wpAny_assign_Name (store_ok2 I' hN hx hl (v := .ref Da) rfl (fun s'' I'' ⟨b, sb, hb⟩ => ?_) hf)
  have hCb : C ≠ b := by
    rcases hb with z | z
    · rw [z]; exact f1
    · exact fun e => f4 x b z e.symm
  refine ⟨m, hn.sameBut sb hCb, fun h' sb' => ⟨_, H', I''.turned (t' := s''.toks) (fun b o hb e => (sb'.2 b hb).trans e) f0 f1 (.inr f3) f4 f5, q⟩⟩
end
end L2

/-! ### a block's names by a look; the forms one uses -/
namespace L2
open PySem PySem.Spec PyProof.Rows
def blkB (N : List Str) (lk : Str → Option NameKind) (N' : List Str) (scope : Scope) (ms : List Nat) (k : Nat) : Bool :=
  scope.kind == .function && (scope.names.all fun x => scope.names.lookup x.1 == some x.2) && (scope.names.all fun x => !(x.2 == .free) || lk x.1 == some .cell || lk x.1 == some .free) &&
  N'.length == N.length + k && (N'.take N.length == N) &&
  (List.range N.length).all fun i => ms.contains i || (match N'[i]? with | none => true | some x => match scope.names.lookup x with | some .local => false | some .cell => false | _ => true)
theorem BlkOk.of {X : Cx} {N' : List Str} {scope : Scope} {ms : List Nat} {k : Nat} (h : blkB X.N X.env.kindOf N' scope ms k = true) : BlkOk X N' scope ms k := by
  unfold blkB at h
  simp only [Bool.and_eq_true] at h
  obtain ⟨⟨⟨⟨⟨h1, h2⟩, h3⟩, h4⟩, h5⟩, h6⟩ := h
  have e5 : N'.take X.N.length = X.N := eq_of_beq h5
  refine ⟨eq_of_beq h1, fun x hx => eq_of_beq (List.all_eq_true.mp h2 x hx), fun x hx hk => ?_, eq_of_beq h4, fun i hi => ?_, fun i hi hm x k' e1 e2 hk => ?_⟩
  · have q := List.all_eq_true.mp h3 x hx
    simp only [Bool.or_eq_true] at q
    rcases q with (q | q) | q
    · rw [hk] at q; cases q
    · exact .inl (eq_of_beq q)
    · exact .inr (eq_of_beq q)
  · have q : (N'.take X.N.length)[i]? = N'[i]? := List.getElem?_take_of_lt hi
    rw [e5] at q
    exact q.symm
  · have q := List.all_eq_true.mp h6 i (List.mem_range.mpr hi)
    rw [Bool.or_eq_true] at q
    rcases q with q | q
    · exact absurd (by simpa using q) hm
    · rw [e1] at q
      rcases hk with rfl | rfl | rfl
      · simp only [e2] at q; cases q
      · simp only [e2] at q; cases q
      · rfl
section
variable {K : PySem.W.Frag} {a : Addr} {xs : List V} {g : TG} {tc : TT} {te : TE} {D : Addr} {σ : St} {H : Hp} {Q : VK}
/-- one more item; none -/
def CNext (D : Addr) (n i : Nat) (Pv : Nat → List V → St → Hp → Prop) (σ2 : St) : VK := fun v H6 => ∃ ys, H6 D = some (.lst ys) ∧ ys.length < sizeLine ∧ ∃ m', m' < n - i ∧ (m' = n - (i + 1) ∧ i + 1 ≤ n ∧ ∃ ys', Pv (i + 1) ys' σ2 (upd H6 D (.lst (ys ++ [v]))))
def CSkip (n i : Nat) (Pv : Nat → List V → St → Hp → Prop) (σ2 : St) (H5 : Hp) : Prop := ∃ m', m' < n - i ∧ (m' = n - (i + 1) ∧ i + 1 ≤ n ∧ ∃ ys', Pv (i + 1) ys' σ2 H5)
theorem cnext {n i : Nat} {Pv : Nat → List V → St → Hp → Prop} {σ2 : St} {v : V} {H6 : Hp} {ys : List V} (hi : i < n) (h : H6 D = some (.lst ys)) (hz : ys.length ≤ 100000) (p : Pv (i + 1) (ys ++ [v]) σ2 (upd H6 D (.lst (ys ++ [v])))) : CNext D n i Pv σ2 v H6 :=
  ⟨ys, h, smallLt hz, n - (i + 1), by omega, rfl, hi, _, p⟩
theorem cskip {n i : Nat} {Pv : Nat → List V → St → Hp → Prop} {σ2 : St} {H5 : Hp} {ys : List V} (hi : i < n) (p : Pv (i + 1) ys σ2 H5) : CSkip n i Pv σ2 H5 := ⟨n - (i + 1), by omega, rfl, hi, _, p⟩
theorem comp_list (Pv : Nat → List V → St → Hp → Prop) (h0 : Pv 0 [] σ (upd H D (.lst []))) (hl : ∀ i ys σ H, i ≤ xs.length → Pv i ys σ H → SqL K H a xs)
    (hs : ∀ i x ys σ H, xs[i]? = some x → i < xs.length → Pv i ys σ H → g x σ H fun σ2 H4 => tc σ2 H4 fun b H5 => if b = true then te σ2 H5 (CNext D xs.length i Pv σ2) else CSkip xs.length i Pv σ2 H5)
    (hd : ∀ ys σ H, Pv xs.length ys σ H → Q (.ref D) H) :
    CompW (Itl K a) g tc te D Q σ H := by
  refine ⟨fun i m σ H => m = xs.length - i ∧ i ≤ xs.length ∧ ∃ ys, Pv i ys σ H, ⟨xs.length, by simp, Nat.zero_le _, [], h0⟩, ?_⟩
  rintro i m σ H ⟨rfl, hi, ys, p⟩
  have q := hl i ys σ H hi p
  by_cases hlt : i < xs.length
  · refine .inr ⟨⟨xs, xs[i], q, by simp [hlt]⟩, fun x H' y => ?_⟩
    obtain ⟨e, y⟩ := y
    subst e
    exact hs i x ys σ _ (y xs q) hlt p
  · have e : i = xs.length := by omega
    subst e
    exact .inl ⟨⟨xs, q, Nat.le_refl _⟩, hd ys σ H p⟩
theorem comp_tup (Pv : Nat → List V → St → Hp → Prop) (h0 : Pv 0 [] σ (upd H D (.lst []))) (hl : ∀ i ys σ H, i ≤ xs.length → Pv i ys σ H → SqT K H a xs)
    (hs : ∀ i x ys σ H, xs[i]? = some x → i < xs.length → Pv i ys σ H → g x σ H fun σ2 H4 => tc σ2 H4 fun b H5 => if b = true then te σ2 H5 (CNext D xs.length i Pv σ2) else CSkip xs.length i Pv σ2 H5)
    (hd : ∀ ys σ H, Pv xs.length ys σ H → Q (.ref D) H) :
    CompW (Itt K a) g tc te D Q σ H := by
  refine ⟨fun i m σ H => m = xs.length - i ∧ i ≤ xs.length ∧ ∃ ys, Pv i ys σ H, ⟨xs.length, by simp, Nat.zero_le _, [], h0⟩, ?_⟩
  rintro i m σ H ⟨rfl, hi, ys, p⟩
  have q := hl i ys σ H hi p
  by_cases hlt : i < xs.length
  · refine .inr ⟨⟨xs, xs[i], q, by simp [hlt]⟩, fun x H' y => ?_⟩
    obtain ⟨e, y⟩ := y
    subst e
    exact hs i x ys σ _ (y xs q) hlt p
  · have e : i = xs.length := by omega
    subst e
    exact .inl ⟨⟨xs, q, Nat.le_refl _⟩, hd ys σ H p⟩
theorem comp_enum (Pv : Nat → List V → St → Hp → Prop) (h0 : Pv 0 [] σ (upd H D (.lst []))) (hl : ∀ i ys σ H, i ≤ xs.length → Pv i ys σ H → SqL K H a xs)
    (hs : ∀ i x t ys σ H, xs[i]? = some x → i < xs.length → Pv i ys σ H → H t = none → g (.ref t) σ (upd H t (.tup [.int i, x])) fun σ2 H4 => tc σ2 H4 fun b H5 => if b = true then te σ2 H5 (CNext D xs.length i Pv σ2) else CSkip xs.length i Pv σ2 H5)
    (hd : ∀ ys σ H, Pv xs.length ys σ H → Q (.ref D) H) :
    CompW (Ite K a) g tc te D Q σ H := by
  refine ⟨fun i m σ H => m = xs.length - i ∧ i ≤ xs.length ∧ ∃ ys, Pv i ys σ H, ⟨xs.length, by simp, Nat.zero_le _, [], h0⟩, ?_⟩
  rintro i m σ H ⟨rfl, hi, ys, p⟩
  have q := hl i ys σ H hi p
  by_cases hlt : i < xs.length
  · refine .inr ⟨⟨xs, xs[i], q, by simp [hlt]⟩, fun v H' y => ?_⟩
    obtain ⟨t, x, rfl, hn, hx, rfl⟩ := y
    exact hs i x t ys σ _ (hx xs q) hlt p hn
  · have e : i = xs.length := by omega
    subst e
    exact .inl ⟨⟨xs, q, Nat.le_refl _⟩, hd ys σ H p⟩
theorem comp_range {lo : Int} {n : Nat} (Pv : Nat → List V → St → Hp → Prop) (h0 : Pv 0 [] σ (upd H D (.lst [])))
    (hs : ∀ i ys σ H, i < n → Pv i ys σ H → g (.int (lo + i)) σ H fun σ2 H4 => tc σ2 H4 fun b H5 => if b = true then te σ2 H5 (CNext D n i Pv σ2) else CSkip n i Pv σ2 H5)
    (hd : ∀ ys σ H, Pv n ys σ H → Q (.ref D) H) :
    CompW (Itr lo n) g tc te D Q σ H := by
  refine ⟨fun i m σ H => m = n - i ∧ i ≤ n ∧ ∃ ys, Pv i ys σ H, ⟨n, by simp, Nat.zero_le _, [], h0⟩, ?_⟩
  rintro i m σ H ⟨rfl, hi, ys, p⟩
  by_cases hlt : i < n
  · refine .inr ⟨hlt, fun x H' y => ?_⟩
    obtain ⟨e, y⟩ := y
    subst e y
    exact hs i ys σ _ hlt p
  · have e : i = n := by omega
    subst e
    exact .inl ⟨Nat.le_refl _, hd ys σ H p⟩
end
end L2

/-! ### sorting of fewer than 64 things, whatever their keys: a rank for each key, and what its comparison tells -/
namespace Sr
open PySem PyProof.Rows
/-- the keys' comparison tells the ranks' (the state stays) -/
def Tells (prog : Program) (w : World) (A : Around) (s : Shared) (κ : KeyKind) (kd : SortKind) : Prop :=
  ∀ (E : Value → Shared → Prop) (x y : Value) (a b : κ.α) (Q : Bool → Shared → Prop), κ.keyOf x = some a → κ.keyOf y = some b → Q (κ.blt a b) s → wpAny (model prog w) A (keyLt' kd x y) Q E s
/-- what stays through the sorting -/
structure Stays (kd : SortKind) (o : Array Keyed) (st : SortSt) : Prop where
  pm : (arrOf st).Perm o
  kn : kindOf st = kd
  fl : failedOf st = none
  pn : pendingOf st = #[]
section
variable {prog : Program} {w : World} {A : Around} {E : Value → Shared → Prop} {s : Shared} {o : Array Keyed} {κ : KeyKind} {kd : SortKind} {st : SortSt}
theorem Stays.sz (h : Stays kd o st) : (arrOf st).size = o.size := h.pm.size_eq
theorem Stays.put (h : Stays kd o st) {xs : Array Keyed} (p : xs.Perm (arrOf st)) : Stays kd o (setArr st xs) := ⟨p.trans h.pm, h.kn, h.fl, h.pn⟩
theorem less_at (T : Tells prog w A s κ kd) (h0 : KeysOf κ o) (S : Stays kd o st) {i j : Nat} {Q : Option Bool → SortSt → Prop} (hi : i < o.size) (hj : j < o.size)
    (q : Q (some (κ.blt (KK κ (arrOf st) i) (KK κ (arrOf st) j))) st) : wpS (model prog w) A E s (ltAt' i j) Q st := by
  have key : ∀ {k : Nat}, k < o.size → ∃ v p a, (arrOf st)[k]? = some (v, p) ∧ κ.keyOf v = some a ∧ KK κ (arrOf st) k = a := fun {k} hk => by
    have hk' : k < (arrOf st).size := S.sz ▸ hk
    have hin : (arrOf st)[k] ∈ o.toList := (Array.perm_iff_toList_perm.mp S.pm).mem_iff.mp (by simp)
    obtain ⟨a, ea⟩ := h0 _ hin
    have e := getElem?_pos (arrOf st) k hk'
    exact ⟨_, _, a, e, ea, by simp only [KK, e, ea, Option.getD_some]⟩
  obtain ⟨x, p, a, e1, k1, r1⟩ := key hi
  obtain ⟨y, p', b, e2, k2, r2⟩ := key hj
  rw [r1, r2] at q
  rw [ltAt'_eq]
  refine wpS_bind (wpS_get ?_)
  show wpS _ _ _ _ (elem' (arrOf st) i >>= fun u => elem' (arrOf st) j >>= fun v => lt' u v) Q st
  rw [elem'_eq, elem'_eq, e1, e2]
  refine wpS_bind (wpS_pure (wpS_bind (wpS_pure ?_)))
  rw [lt'_eq]
  refine wpS_bind (wpS_get ?_)
  rw [S.kn]
  exact wpS_bind (wpS_lift (wpAny_attempt (T _ x y a b _ k1 k2 ⟨rfl, wpS_pure q⟩)))
/-- one more at the end of a rising part -/
theorem up_one {xs : Array Keyed} {x : Nat} (h : SortedToK κ xs x) (hx : x = 0 ∨ κ.kle (KK κ xs (x - 1)) (KK κ xs x)) : SortedToK κ xs (x + 1) := fun i j hij hj => by
  rcases Nat.lt_or_ge j x with hjx | hjx
  · exact h i j hij hjx
  obtain rfl : j = x := by omega
  rcases Nat.lt_or_ge i j with hi | hi
  · rcases hx with z | z
    · omega
    · exact KeyOrd.kle_trans (h i (j - 1) (by omega) (by omega)) z
  · obtain rfl : i = j := by omega
    exact KeyOrd.kle_refl _
theorem down_one {xs : Array Keyed} {x : Nat} (h : NonIncK κ xs x) (hx : x = 0 ∨ κ.kle (KK κ xs x) (KK κ xs (x - 1))) : NonIncK κ xs (x + 1) := fun i j hij hj => by
  rcases Nat.lt_or_ge j x with hjx | hjx
  · exact h i j hij hjx
  obtain rfl : j = x := by omega
  rcases Nat.lt_or_ge i j with hi | hi
  · rcases hx with z | z
    · omega
    · exact KeyOrd.kle_trans z (h i (j - 1) (by omega) (by omega))
  · obtain rfl : i = j := by omega
    exact KeyOrd.kle_refl _
theorem up_1 {xs : Array Keyed} : SortedToK κ xs 1 := up_one (fun _ _ _ hj => absurd hj (Nat.not_lt_zero _)) (.inl rfl)
theorem rise (T : Tells prog w A s κ kd) (h0 : KeysOf κ o) (S : Stays kd o st) {b n : Nat} {Q : AscSt → SortSt → Prop} (hn : n ≤ o.size) (hb : 1 ≤ b) (hbn : b ≤ n) (hs : SortedToK κ (arrOf st) b)
    (q : ∀ m, b ≤ m → m ≤ n → SortedToK κ (arrOf st) m → (m = n ∨ κ.klt (KK κ (arrOf st) m) (KK κ (arrOf st) (m - 1))) → Q (none, m) st) : wpS (model prog w) A E s (ascLoop b n) Q st := by
  unfold ascLoop
  refine wpS_forRange (I := fun m c u => u = st ∧ c = (none, m) ∧ SortedToK κ (arrOf st) m) (fun m c u hbm hmn hI => ?_) (fun c u hI => ?_) ⟨rfl, rfl, hs⟩
  · obtain ⟨rfl, rfl, up⟩ := hI
    refine wpS_bind (less_at T h0 S (i := m) (j := m - 1) (by omega) (by omega) ?_)
    cases lt : κ.blt (KK κ (arrOf u) m) (KK κ (arrOf u) (m - 1)) with
    | true => exact wpS_pure (q m hbm (by omega) up (.inr lt))
    | false => exact wpS_pure ⟨rfl, rfl, up_one up (.inr lt)⟩
  · obtain ⟨rfl, rfl, up⟩ := hI
    have e : max b n = n := by omega
    rw [e] at up ⊢
    exact q n hbn (Nat.le_refl _) up (.inl rfl)
theorem last3 (T : Tells prog w A s κ kd) (h0 : KeysOf κ o) (S : Stays kd o st) {b n : Nat} {Q : Option Nat → SortSt → Prop} (hn : n ≤ o.size) (hb : 1 ≤ b) (hbn : b ≤ n) (hs : NonIncK κ (arrOf st) b)
    (q : ∀ m u, Stays kd o u → 1 ≤ m → m ≤ n → SortedToK κ (arrOf u) m → Q (some m) u) : wpS (model prog w) A E s (tail3 b n) Q st := by
  have z : b ≤ (arrOf st).size := by rw [S.sz]; omega
  have S' : Stays kd o (setArr st (mirror (arrOf st) 0 b ((b - 0) / 2))) := S.put (mirror_perm ..)
  unfold tail3
  refine wpS_bind (wpS_reverse (wpS_bind (rise T h0 S' hn hb hbn (fun i j hij hj => ?_) fun m h1 h2 up _ => wpS_pure (q m _ S' (by omega) h2 up))))
  show κ.kle (KK κ (mirror (arrOf st) 0 b ((b - 0) / 2)) i) (KK κ (mirror (arrOf st) 0 b _) j)
  rw [KK_mirror z i, KK_mirror z j, if_pos ⟨Nat.zero_le _, by omega⟩, if_pos ⟨Nat.zero_le _, by omega⟩]
  exact hs _ _ (by omega) (by omega)
theorem fall (T : Tells prog w A s κ kd) (h0 : KeysOf κ o) (S : Stays kd o st) {b n : Nat} {Q : DescSt → SortSt → Prop} (hn : n ≤ o.size) (hb : 1 ≤ b) (hbn : b ≤ n) (hs : NonIncK κ (arrOf st) b)
    (q : ∀ m e u, Stays kd o u → b ≤ m → m ≤ n → NonIncK κ (arrOf u) m → e + 1 ≤ m → (∀ i, m - (e + 1) ≤ i → i < m → KK κ (arrOf u) i = KK κ (arrOf u) (m - 1)) → Q (none, m, e) u) :
    wpS (model prog w) A E s (descLoop b n) Q st := by
  unfold descLoop
  refine wpS_forRange (I := fun m c u => ∃ e, c = (none, m, e) ∧ Stays kd o u ∧ NonIncK κ (arrOf u) m ∧ e + 1 ≤ m ∧ ∀ i, m - (e + 1) ≤ i → i < m → KK κ (arrOf u) i = KK κ (arrOf u) (m - 1))
    (fun m c u hbm hmn hI => ?_) (fun c u hI => ?_) ⟨0, rfl, S, hs, hb, fun i h1 h2 => congrArg _ (by omega)⟩
  · obtain ⟨e, rfl, S', dn, he, al⟩ := hI
    have z : m ≤ (arrOf u).size := by rw [S'.sz]; omega
    refine wpS_bind (less_at T h0 S' (i := m) (j := m - 1) (by omega) (by omega) ?_)
    cases lt : κ.blt (KK κ (arrOf u) m) (KK κ (arrOf u) (m - 1)) with
    | true =>
      have dn' := down_one dn (.inr (KeyOrd.kle_of_klt lt))
      show wpS _ _ _ _ (if e > 0 then _ else _) _ u
      by_cases h : e > 0
      · rw [if_pos h]
        refine wpS_bind (wpS_reverse (wpS_pure ⟨0, rfl, S'.put (mirror_perm ..), fun i j hij hj => ?_, Nat.succ_le_succ (Nat.zero_le _), fun i h1 h2 => congrArg _ (by omega)⟩))
        show κ.kle (KK κ (mirror _ _ _ _) j) (KK κ (mirror _ _ _ _) i)
        rw [KK_mirror_equal z al i, KK_mirror_equal z al j]
        exact dn' i j hij hj
      · rw [if_neg h]
        exact wpS_pure ⟨0, rfl, S', dn', Nat.succ_le_succ (Nat.zero_le _), fun i h1 h2 => congrArg _ (by omega)⟩
    | false =>
      refine wpS_bind (less_at T h0 S' (i := m - 1) (j := m) (by omega) (by omega) ?_)
      cases gt : κ.blt (KK κ (arrOf u) (m - 1)) (KK κ (arrOf u) m) with
      | true => exact wpS_pure (q m e u S' hbm (by omega) dn he al)
      | false =>
        have same : KK κ (arrOf u) m = KK κ (arrOf u) (m - 1) := KeyOrd.kle_antisymm gt lt
        refine wpS_pure ⟨e + 1, rfl, S', down_one dn (.inr (same ▸ KeyOrd.kle_refl _)), by omega, fun i h1 h2 => ?_⟩
        show KK κ (arrOf u) i = KK κ (arrOf u) m
        rcases Nat.lt_or_ge i m with h | h
        · rw [same]
          exact al i (by omega) h
        · rw [show i = m by omega]
  · obtain ⟨e, rfl, S', dn, he, al⟩ := hI
    have ez : max b n = n := by omega
    rw [ez] at dn he al ⊢
    exact q n e u S' hbn (Nat.le_refl _) dn he al
theorem fallen (T : Tells prog w A s κ kd) (h0 : KeysOf κ o) (S : Stays kd o st) {b n : Nat} {Q : Option Nat → SortSt → Prop} (hn : n ≤ o.size) (hbn : b + 1 ≤ n) (hs : NonIncK κ (arrOf st) (b + 1))
    (q : ∀ m u, Stays kd o u → 1 ≤ m → m ≤ n → SortedToK κ (arrOf u) m → Q (some m) u) : wpS (model prog w) A E s (descPart b n) Q st := by
  unfold descPart
  refine wpS_bind (wpS_lift (wpAny_rule ⟨rfl, wpS_bind (fall T h0 S hn (Nat.succ_le_succ (Nat.zero_le _)) hbn hs fun m e u S' h1 h2 dn he al => ?_)⟩))
  have z : m ≤ (arrOf u).size := by rw [S'.sz]; omega
  show wpS _ _ _ _ (if e > 0 then _ else _) _ u
  by_cases h : e > 0
  · rw [if_pos h]
    refine wpS_bind (wpS_reverse (last3 (b := m) T h0 (S'.put (mirror_perm ..)) hn (by omega) h2 (fun i j hij hj => ?_) q))
    show κ.kle (KK κ (mirror _ _ _ _) j) (KK κ (mirror _ _ _ _) i)
    rw [KK_mirror_equal z al i, KK_mirror_equal z al j]
    exact dn i j hij hj
  · rw [if_neg h]
    exact last3 (b := m) T h0 S' hn (by omega) h2 dn q
theorem run_of (T : Tells prog w A s κ kd) (h0 : KeysOf κ o) (S : Stays kd o st) {n : Nat} {Q : Option Nat → SortSt → Prop} (hn : n ≤ o.size) (h1 : 1 ≤ n)
    (q : ∀ m u, Stays kd o u → 1 ≤ m → m ≤ n → SortedToK κ (arrOf u) m → Q (some m) u) : wpS (model prog w) A E s (countRun' 0 n) Q st := by
  rw [countRun0_eq]
  refine wpS_bind (rise T h0 S hn (Nat.le_refl 1) h1 up_1 fun m hm1 hm2 up hor => ?_)
  show wpS _ _ _ _ (if (m == n) = true then _ else _) _ st
  by_cases e : m = n
  · rw [if_pos (beq_iff_eq.mpr e)]
    exact wpS_pure (q m st S hm1 hm2 up)
  rw [if_neg fun z => e (beq_iff_eq.mp z)]
  have dip := hor.resolve_left e
  by_cases h : m > 1
  · rw [if_pos h]
    refine wpS_bind (less_at T h0 S (i := 0) (j := m - 1) (by omega) (by omega) ?_)
    cases rose : κ.blt (KK κ (arrOf st) 0) (KK κ (arrOf st) (m - 1)) with
    | true => exact wpS_pure (q m st S hm1 hm2 up)
    | false =>
      have z : m ≤ (arrOf st).size := by rw [S.sz]; omega
      have al : ∀ k, 0 ≤ k → k < m → KK κ (arrOf st) k = KK κ (arrOf st) (m - 1) := fun k _ hk =>
        KeyOrd.kle_antisymm (up k (m - 1) (by omega) (by omega)) (KeyOrd.kle_trans rose (up 0 k (Nat.zero_le _) hk))
      have dn : NonIncK κ (arrOf st) (m + 1) := down_one (fun i j hij hj => by rw [al i (Nat.zero_le _) (by omega), al j (Nat.zero_le _) hj]; exact KeyOrd.kle_refl _) (.inr (KeyOrd.kle_of_klt dip))
      refine wpS_bind (wpS_reverse (fallen T h0 (S.put (mirror_perm ..)) hn (by omega) (fun i j hij hj => ?_) q))
      show κ.kle (KK κ (mirror _ _ _ _) j) (KK κ (mirror _ _ _ _) i)
      rw [KK_mirror_equal z al i, KK_mirror_equal z al j]
      exact dn i j hij hj
  · rw [if_neg h]
    obtain rfl : m = 1 := by omega
    exact fallen T h0 S hn (by omega) (down_one (fun i j hij hj => by rw [show i = j by omega]; exact KeyOrd.kle_refl _) (.inr (KeyOrd.kle_of_klt dip))) q
theorem put_in (T : Tells prog w A s κ kd) (h0 : KeysOf κ o) (S : Stays kd o st) {n ok : Nat} {Q : Bool → SortSt → Prop} (hn : n ≤ o.size) (hok : ok ≤ n) (h1 : 1 ≤ ok) (hs : SortedToK κ (arrOf st) ok)
    (q : ∀ u, Stays kd o u → SortedToK κ (arrOf u) n → Q true u) : wpS (model prog w) A E s (binarySort' 0 n ok) Q st := by
  rw [binarySort'_eq]
  simp only [Nat.zero_add]
  have em : max ok 1 = ok := by omega
  rw [em]
  refine wpS_bind (wpS_mono (wpS_forRange (I := fun k c u => c = (none, ()) ∧ Stays kd o u ∧ SortedToK κ (arrOf u) k) (Q := fun c u => c = (none, ()) ∧ Stays kd o u ∧ SortedToK κ (arrOf u) n)
    (fun k c u hk1 hk2 hI => ?_) (fun c u hI => ?_) ⟨rfl, S, hs⟩) fun c u hI => ?_)
  · obtain ⟨rfl, S', up⟩ := hI
    have hk : k < o.size := by omega
    refine wpS_bind (wpS_mono (wpS_forRange (I := fun t c v => v = u ∧ ∃ l r, c = (none, l, r) ∧ l ≤ r ∧ r ≤ k ∧ r - l ≤ k - t ∧ (∀ i, i < l → κ.kle (KK κ (arrOf u) i) (KK κ (arrOf u) k)) ∧ ∀ i, r ≤ i → i < k → κ.klt (KK κ (arrOf u) k) (KK κ (arrOf u) i))
      (Q := fun c v => v = u ∧ ∃ l, c = (none, l, l) ∧ l ≤ k ∧ (∀ i, i < l → κ.kle (KK κ (arrOf u) i) (KK κ (arrOf u) k)) ∧ ∀ i, l ≤ i → i < k → κ.klt (KK κ (arrOf u) k) (KK κ (arrOf u) i))
      (fun t c v _ ht hJ => ?_) (fun c v hJ => ?_) ⟨rfl, 0, k, rfl, Nat.zero_le _, Nat.le_refl _, Nat.le_refl _, (fun i hi => absurd hi (Nat.not_lt_zero _)), fun i h1 h2 => absurd h2 (by omega)⟩) fun c v hJ => ?_)
    · obtain ⟨rfl, l, r, rfl, hlr, hrk, hm, lo, hi⟩ := hJ
      show wpS _ _ _ _ (if l ≥ r then _ else _) _ v
      by_cases h : l ≥ r
      · rw [if_pos h]
        obtain rfl : l = r := by omega
        exact wpS_pure ⟨rfl, l, rfl, hrk, lo, hi⟩
      · rw [if_neg h]
        refine wpS_bind (less_at T h0 S' (i := k) (j := (l + r) / 2) hk (by omega) ?_)
        cases lt : κ.blt (KK κ (arrOf v) k) (KK κ (arrOf v) ((l + r) / 2)) with
        | true => exact wpS_pure ⟨rfl, l, (l + r) / 2, rfl, by omega, by omega, by omega, lo, fun i a1 a2 => KeyOrd.klt_of_klt_of_kle lt (up _ _ a1 a2)⟩
        | false => exact wpS_pure ⟨rfl, (l + r) / 2 + 1, r, rfl, by omega, by omega, by omega, fun i a1 => KeyOrd.kle_trans (up i ((l + r) / 2) (by omega) (by omega)) lt, hi⟩
    · obtain ⟨rfl, l, r, rfl, hlr, hrk, hm, lo, hi⟩ := hJ
      have e0 : max 0 k = k := by omega
      rw [e0] at hm
      obtain rfl : l = r := by omega
      exact ⟨rfl, l, rfl, hrk, lo, hi⟩
    · obtain ⟨rfl, l, rfl, hlk, lo, hi⟩ := hJ
      have hks : k < (arrOf v).size := S'.sz ▸ hk
      show wpS _ _ _ _ (moveDown' k l >>= fun _ => pure (ForInStep.yield (none, ()))) _ v
      rw [moveDown'_eq]
      refine wpS_bind (wpS_modify (wpS_pure ⟨rfl, S'.put (bubble_perm ..), fun i j hij hj => ?_⟩))
      have el : k - (k - l) = l := by omega
      show κ.kle (KK κ (bubble (arrOf v) k (k - l)) i) (KK κ (bubble (arrOf v) k _) j)
      rw [KK_bubble hks (Nat.sub_le _ _) i, KK_bubble hks (Nat.sub_le _ _) j, el]
      by_cases a1 : i = l <;> by_cases a2 : j = l <;> by_cases a3 : l < i ∧ i ≤ k <;> by_cases a4 : l < j ∧ j ≤ k <;>
        simp only [a1, a2, a3, a4, if_true, if_false] <;> first
        | (exfalso; omega)
        | exact KeyOrd.kle_refl _
        | exact lo _ (by omega)
        | exact KeyOrd.kle_of_klt (hi _ (by omega) (by omega))
        | exact up _ _ (by omega) (by omega)
  · obtain ⟨rfl, S', up⟩ := hI
    have e : max ok n = n := by omega
    rw [e] at up
    exact ⟨rfl, S', up⟩
  · obtain ⟨rfl, S', up⟩ := hI
    exact wpS_pure (q u S' up)
theorem sort_runs (T : Tells prog w A s κ kd) (h0 : KeysOf κ o) (S : Stays kd o st) {Q : Unit → SortSt → Prop} (h2 : 2 ≤ o.size) (h64 : o.size < 64)
    (q : ∀ u, (arrOf u).Perm o → failedOf u = none → SortedToK κ (arrOf u) o.size → Q () u) : wpS (model prog w) A E s sortRuns' Q st := by
  have hm : minRun' o.size o.size 0 = o.size := by
    cases e : o.size with
    | zero => omega
    | succ f => rw [minRun'_succ, if_pos (by omega), Nat.add_zero]
  rw [sortRuns'_eq]
  refine wpS_bind (wpS_get ?_)
  simp only [S.sz, hm]
  have fin : ∀ u, Stays kd o u → SortedToK κ (arrOf u) o.size → (arrOf (setPending u ((pendingOf u).push (0, o.size, 0)))).Perm o ∧ failedOf (setPending u ((pendingOf u).push (0, o.size, 0))) = none ∧
      pendingOf (setPending u ((pendingOf u).push (0, o.size, 0))) = #[(0, o.size, 0)] ∧ SortedToK κ (arrOf (setPending u ((pendingOf u).push (0, o.size, 0)))) o.size := fun u S' up =>
    ⟨S'.pm, S'.fl, by show (pendingOf u).push (0, o.size, 0) = _; rw [S'.pn]; rfl, up⟩
  refine wpS_bind (wpS_mono (wpS_forRange
    (I := fun t c u => (t = 0 ∧ c = (none, 0) ∧ Stays kd o u) ∨ (1 ≤ t ∧ c = (none, o.size) ∧ (arrOf u).Perm o ∧ failedOf u = none ∧ pendingOf u = #[(0, o.size, 0)] ∧ SortedToK κ (arrOf u) o.size))
    (Q := fun c u => c = (none, o.size) ∧ (arrOf u).Perm o ∧ failedOf u = none ∧ pendingOf u = #[(0, o.size, 0)] ∧ SortedToK κ (arrOf u) o.size) (fun t c u _ ht hI => ?_) (fun c u hI => ?_) (.inl ⟨rfl, rfl, S⟩)) fun c u hI => ?_)
  · rcases hI with ⟨rfl, rfl, S'⟩ | ⟨h1, rfl, hD⟩
    · show wpS _ _ _ _ (if 0 ≥ o.size then _ else _) _ u
      rw [if_neg (by omega)]
      simp only [Nat.sub_zero, Nat.min_self, Nat.zero_add]
      refine wpS_bind (run_of T h0 S' (Nat.le_refl _) (by omega) fun m v S2 a1 a2 up => ?_)
      by_cases lt : m < o.size
      · simp only [lt, if_true]
        refine wpS_bind (wpS_lift (wpAny_rule ⟨rfl, wpS_bind (put_in T h0 S2 (Nat.le_refl _) a2 a1 up fun v' S3 up' => ?_)⟩))
        simp only [Bool.not_true, Bool.false_eq_true, if_false]
        refine wpS_bind (wpS_get ?_)
        have hb : (pendingOf v').back? = none := S3.pn ▸ rfl
        rw [hb]
        exact wpS_bind (wpS_modify (wpS_pure (.inr ⟨Nat.le_refl _, rfl, fin v' S3 up'⟩)))
      · simp only [lt, if_false]
        obtain rfl : m = o.size := by omega
        refine wpS_bind (wpS_get ?_)
        have hb : (pendingOf v).back? = none := S2.pn ▸ rfl
        rw [hb]
        exact wpS_bind (wpS_modify (wpS_pure (.inr ⟨Nat.le_refl _, rfl, fin v S2 up⟩)))
    · show wpS _ _ _ _ (if o.size ≥ o.size then _ else _) _ u
      rw [if_pos (Nat.le_refl _)]
      exact wpS_pure ⟨rfl, hD⟩
  · rcases hI with ⟨z, _, _⟩ | ⟨_, e, hD⟩
    · omega
    · exact ⟨e, hD⟩
  · obtain ⟨rfl, p1, p2, p3, p4⟩ := hI
    refine wpS_bind (wpS_mono (wpS_forRange (I := fun _ c v => v = u ∧ c = (none, ())) (Q := fun c v => v = u ∧ c = (none, ())) (fun t c v _ _ hJ => ?_) (fun _ _ hJ => hJ) ⟨rfl, rfl⟩) fun c v hJ => ?_)
    · obtain ⟨rfl, rfl⟩ := hJ
      refine wpS_bind (wpS_get ?_)
      rw [if_pos (by rw [p3]; exact Nat.le_refl 1)]
      exact wpS_pure ⟨rfl, rfl⟩
    · obtain ⟨rfl, rfl⟩ := hJ
      exact wpS_pure (q _ p1 p2 p4)
end
end Sr

/-! ### keys that are tuples of ints -/
namespace Sr
open PySem PyProof.Rows
def intsV : List Value → Option (List Int)
  | [] => some []
  | .int n _ :: r => (intsV r).map (n :: ·)
  | _ :: _ => none
theorem intsV_of : ∀ {vs : List Value} {ns : List Int}, IntsAre vs ns → intsV vs = some ns
  | _, _, .nil => rfl
  | _, _, .cons n t h => by
    show (intsV _).map (n :: ·) = _
    rw [intsV_of h]
    rfl
theorem of_intsV : ∀ {vs : List Value} {ns : List Int}, intsV vs = some ns → IntsAre vs ns
  | [], ns, h => by cases h; exact .nil
  | v :: r, ns, h => by
    cases v with
    | int n t =>
      have h' : (intsV r).map (n :: ·) = some ns := h
      cases e : intsV r with
      | none => rw [e] at h'; cases h'
      | some ms =>
        rw [e] at h'
        cases h'
        exact .cons n t (of_intsV e)
    | _ => cases h
def tupK (h : Heap) : Value → Option (List Int)
  | .ref a => match h.get? a with
    | some o => match o.data with
      | .seq its _ => intsV its.toList
      | _ => none
    | none => none
  | _ => none
theorem tupK_of {h : Heap} {a : Addr} {its : Array Value} {ns : List Int} (t : IsTup h a its) (i : IntsAre its.toList ns) : tupK h (.ref a) = some ns := by
  obtain ⟨o, e, _, n, d⟩ := t
  unfold tupK
  simp only [e, d]
  exact intsV_of i
theorem of_tupK {h : Heap} {v : Value} {ns : List Int} (k : tupK h v = some ns) : ∃ a o its n, v = .ref a ∧ h.get? a = some o ∧ o.data = .seq its n ∧ IntsAre its.toList ns := by
  cases v with
  | ref a =>
    unfold tupK at k
    cases e : h.get? a with
    | none => simp only [e] at k; cases k
    | some o =>
      simp only [e] at k
      cases d : o.data with
      | seq its n => simp only [d] at k; exact ⟨a, o, its, n, rfl, e, d, of_intsV k⟩
      | _ => simp only [d] at k; cases k
  | _ => cases k
/-! the order of lists of ints -/
theorem lex_irrefl : ∀ a : List Int, HT.lexLt a a = false
  | [] => rfl
  | x :: xs => by rw [HT.lexLt_cons, if_pos rfl]; exact lex_irrefl xs
theorem lex_trans : ∀ a b c : List Int, HT.lexLt a b = true → HT.lexLt b c = true → HT.lexLt a c = true
  | [], [], _, h, _ => by cases h
  | [], _ :: _, [], _, h => by cases h
  | [], _ :: _, _ :: _, _, _ => rfl
  | _ :: _, [], _, h, _ => by cases h
  | _ :: _, _ :: _, [], _, h => by cases h
  | x :: xs, y :: ys, z :: zs, h1, h2 => by
    rw [HT.lexLt_cons] at h1 h2 ⊢
    by_cases e1 : x = y
    · subst e1
      rw [if_pos rfl] at h1
      by_cases e2 : x = z
      · subst e2
        rw [if_pos rfl] at h2 ⊢
        exact lex_trans xs ys zs h1 h2
      · rw [if_neg e2] at h2 ⊢
        exact h2
    · rw [if_neg e1] at h1
      have l1 := of_decide_eq_true h1
      by_cases e2 : y = z
      · subst e2
        rw [if_neg e1]
        exact h1
      · rw [if_neg e2] at h2
        have l2 := of_decide_eq_true h2
        rw [if_neg (by omega)]
        exact decide_eq_true (by omega)
theorem lex_total : ∀ a b : List Int, HT.lexLt a b = false → HT.lexLt b a = false → a = b
  | [], [], _, _ => rfl
  | [], _ :: _, h, _ => by cases h
  | _ :: _, [], _, h => by cases h
  | x :: xs, y :: ys, h1, h2 => by
    rw [HT.lexLt_cons] at h1 h2
    by_cases e : x = y
    · subst e
      rw [if_pos rfl] at h1 h2
      rw [lex_total xs ys h1 h2]
    · rw [if_neg e] at h1
      rw [if_neg (Ne.symm e)] at h2
      have l1 := of_decide_eq_false h1
      have l2 := of_decide_eq_false h2
      omega
theorem lex_neg (a b c : List Int) (h : HT.lexLt a c = true) : HT.lexLt a b = true ∨ HT.lexLt b c = true := by
  cases e1 : HT.lexLt a b with
  | true => exact .inl rfl
  | false =>
    cases e2 : HT.lexLt b c with
    | true => exact .inr rfl
    | false =>
      exfalso
      cases e3 : HT.lexLt b a with
      | true =>
        have := lex_trans b a c e3 h
        rw [e2] at this
        cases this
      | false =>
        rw [lex_total a b e1 e3, e2] at h
        cases h
def kT (h : Heap) : KeyKind where
  α := List Int
  blt := HT.lexLt
  irrefl := lex_irrefl
  trans := lex_trans
  negTrans := lex_neg
  total := lex_total
  keyOf := tupK h
  dflt := []
section
variable {prog : Program} {w : World} {A : Around} {E : Value → Shared → Prop} {s : Shared}
theorem keyLt_tup (f : Bool) (x y : Value) : keyLt' (tuples' f) x y = (do
    let xs ← Builtin.List.listItems x
    let ys ← Builtin.List.listItems y
    for ((p, q), i) in (xs.toList.zip ys.toList).zipIdx do
      if !(← eqBool p q) then return ← oneLt' (f && i == 0) p q
    return decide (xs.size < ys.size)) := rfl
theorem one_less {f : Bool} {a b : Int} {t u : Tok} {Q : Bool → Shared → Prop} (q : Q (decide (a < b)) s) : wpAny (model prog w) A (oneLt' f (.int a t) (.int b u)) Q E s := by
  cases f with
  | true => exact oneLt_int q
  | false =>
    rw [oneLt'_eq]
    simp only [Bool.false_eq_true, if_false]
    exact wpAny_bind (HT.rcLt_int A s a t b u prog w E _ (wpAny_truthy_bool q))
theorem tells_tup (f : Bool) : Tells prog w A s (kT s.heap) (tuples' f) := by
  intro E x y a b Q kx ky q
  obtain ⟨ax, ox, ix, nx, rfl, ex, dx, rx⟩ := of_tupK (show tupK s.heap x = some a from kx)
  obtain ⟨ay, oy, iy, ny, rfl, ey, dy, ry⟩ := of_tupK (show tupK s.heap y = some b from ky)
  rw [keyLt_tup]
  refine wpAny_bind (listItems_at ex dx (wpAny_bind (listItems_at ey dy ?_)))
  have zx : ix.size = a.length := by rw [← rx.length]; simp
  have zy : iy.size = b.length := by rw [← ry.length]; simp
  refine wpAny_bind (wpAny_mono (wpAny_forIn_list _ (fun rest (c : Option Bool × PUnit) u => c.1 = none ∧ u = s ∧ ∃ (vs ws : List Value) (ns ms : List Int) (k : Nat), rest = (vs.zip ws).zipIdx k ∧ IntsAre vs ns ∧ IntsAre ws ms ∧ ns.length + iy.size = ms.length + ix.size ∧ HT.lexLt ns ms = HT.lexLt a b)
    (fun (c : Option Bool × PUnit) u => u = s ∧ (c.1 = some (HT.lexLt a b) ∨ (c.1 = none ∧ HT.lexLt a b = decide (ix.size < iy.size)))) ?_ ?_ _ _ ⟨rfl, rfl, ix.toList, iy.toList, a, b, 0, rfl, rx, ry, by omega, rfl⟩) ?_ fun _ _ z => z)
  · rintro ⟨⟨p, p'⟩, i⟩ rest c u ⟨hc, rfl, vs, ws, ns, ms, k, hr, hv, hw, hl, he⟩
    cases hv with
    | nil => rw [List.zip_nil_left] at hr; cases hr
    | cons m t hv' =>
      cases hw with
      | nil => rw [List.zip_nil_right] at hr; cases hr
      | cons m' t' hw' =>
        rw [List.zip_cons_cons, List.zipIdx_cons] at hr
        injection hr with h1 h2
        injection h1 with h3 h4
        injection h3 with h5 h6
        subst h5 h6
        rw [HT.lexLt_cons] at he
        simp only [List.length_cons] at hl
        refine wpAny_bind (SeqAt.EqAt.int_int m t m' t' prog w E _ ?_)
        by_cases e : m = m'
        · subst e
          rw [if_pos rfl] at he
          rw [beq_self_eq_true]
          exact wpAny_pure ⟨rfl, rfl, _, _, _, _, _, h2, hv', hw', by omega, he⟩
        · rw [if_neg e] at he
          have eb : (m == m') = false := beq_eq_false_iff_ne.mpr e
          rw [eb]
          refine wpAny_bind (one_less (wpAny_pure ⟨rfl, .inl ?_⟩))
          rw [he]
  · rintro c u ⟨hc, rfl, vs, ws, ns, ms, k, hr, hv, hw, hl, he⟩
    refine ⟨rfl, .inr ⟨hc, ?_⟩⟩
    rw [← he]
    cases hv with
    | nil =>
      cases hw with
      | nil =>
        simp only [List.length_nil] at hl
        exact (decide_eq_false (by omega)).symm
      | cons m' t' hw' =>
        simp only [List.length_nil, List.length_cons] at hl
        exact (decide_eq_true (by omega)).symm
    | cons m t hv' =>
      cases hw with
      | nil =>
        simp only [List.length_nil, List.length_cons] at hl
        exact (decide_eq_false (by omega)).symm
      | cons m' t' hw' => rw [List.zip_cons_cons, List.zipIdx_cons] at hr; cases hr
  · rintro ⟨c1, c2⟩ u ⟨rfl, h | ⟨h, h'⟩⟩
    · have h : c1 = some (HT.lexLt a b) := h
      subst h
      exact wpAny_pure q
    · have h : c1 = none := h
      subst h
      have q' : Q (HT.lexLt a b) u := q
      rw [h'] at q'
      exact wpAny_pure q'
/-! what kind the keys are -/
theorem wp_mapM {β : Type} {f : Value → Sem β} (g : Value → β) : ∀ (l : List Value) (Q : List β → Shared → Prop), (∀ v ∈ l, ∀ Q' : β → Shared → Prop, Q' (g v) s → wpAny (model prog w) A (f v) Q' E s) → Q (l.map g) s → wpAny (model prog w) A (l.mapM f) Q E s
  | [], Q, _, q => by rw [List.mapM_nil]; exact wpAny_pure q
  | v :: l, Q, h, q => by
    rw [List.mapM_cons]
    refine wpAny_bind (h v List.mem_cons_self _ (wpAny_bind (wp_mapM g l _ (fun u hu => h u (List.mem_cons_of_mem _ hu)) (wpAny_pure q))))
/-- a tuple with an int ahead -/
def Head (h : Heap) (v : Value) : Prop := ∃ (a : Addr) (its : List Value) (n : Int) (t : Tok) (r : List Value), v = .ref a ∧ IsTup h a its.toArray ∧ its = .int n t :: r
def headV (h : Heap) : Value → Option Value
  | .ref a => match h.get? a with
    | some o => match o.data with
      | .seq its _ => its[0]?
      | _ => none
    | none => none
  | _ => none
theorem first_tup {v : Value} (H : Head s.heap v) {Q : Option Value → Shared → Prop} (q : Q (headV s.heap v) s) : wpAny (model prog w) A (firstOfTuple' v) Q E s := by
  obtain ⟨a, its, n, t, r, rfl, ht, rfl⟩ := H
  obtain ⟨o, e, c, k, d⟩ := id ht
  have eq : firstOfTuple' (.ref a) = (do
    if (← typeOf (.ref a)) != .type "tuple" then return none
    return (← Builtin.List.listItems (.ref a))[0]?) := rfl
  rw [eq]
  refine wpAny_bind (wpAny_typeOf ht.typeIs ?_)
  rw [if_neg (by decide)]
  refine wpAny_bind (listItems_at e d (wpAny_pure ?_))
  have hq : headV s.heap (.ref a) = ((Value.int n t :: r).toArray)[0]? := by unfold headV; simp only [e, d]
  rw [hq] at q
  exact q
theorem head_some {v : Value} (H : Head s.heap v) : ∃ n t, headV s.heap v = some (.int n t) := by
  obtain ⟨a, its, n, t, r, rfl, ⟨o, e, c, k, d⟩, rfl⟩ := H
  exact ⟨n, t, by unfold headV; simp only [e, d]; rfl⟩
theorem kind_tup {vs : List Value} (H : ∀ v ∈ vs, Head s.heap v) (hne : vs ≠ []) {Q : SortKind → Shared → Prop} (q : Q (tuples' true) s) : wpAny (model prog w) A (keyKind' vs.toArray) Q E s := by
  rw [keyKind'_eq, List.mapM_toArray]
  have hsm : ∀ v ∈ vs, ∃ n t, headV s.heap v = some (.int n t) := fun v hv => head_some (H v hv)
  refine wpAny_bind (m := List.toArray <$> _) (wpAny_bind (wp_mapM (headV s.heap) vs _ (fun v hv Q' q' => first_tup (H v hv) q') (wpAny_pure ?_)))
  have hall : ((vs.map (headV s.heap)).toArray.all fun x => x.isSome) = true := by
    simp only [List.all_toArray, List.all_map, List.all_eq_true]
    intro v hv
    obtain ⟨n, t, e⟩ := hsm v hv
    show (headV s.heap v).isSome = true
    rw [e]
    rfl
  rw [if_pos hall]
  refine wpAny_bind (wpAny_rule ?_)
  rw [oneTypeOnly'_eq]
  have hfm : ((vs.map (headV s.heap)).toArray.filterMap id) = (vs.filterMap (headV s.heap)).toArray := by
    simp [List.filterMap_map]
  rw [hfm, List.mapM_toArray]
  have htys : ∀ v ∈ vs.filterMap (headV s.heap), ∃ n t, v = .int n t := fun v hv => by
    obtain ⟨u, hu, e⟩ := List.mem_filterMap.mp hv
    obtain ⟨n, t, e'⟩ := hsm u hu
    rw [e'] at e
    exact ⟨n, t, (Option.some.inj e).symm⟩
  refine wpAny_bind (wpAny_bind (m := List.toArray <$> _) (wpAny_bind (wp_mapM (fun _ => Value.type "int") (vs.filterMap (headV s.heap)) _ (fun v hv Q' q' => ?_) (wpAny_pure ?_))))
  · obtain ⟨n, t, rfl⟩ := htys v hv
    exact wpAny_typeOf (typeIs_int s n t) q'
  · obtain ⟨v0, r, rfl⟩ := List.exists_cons_of_ne_nil hne
    obtain ⟨n, t, e⟩ := hsm v0 List.mem_cons_self
    have hfc : (v0 :: r).filterMap (headV s.heap) = .int n t :: r.filterMap (headV s.heap) := by rw [List.filterMap_cons, e]
    rw [hfc]
    have e0 : (List.map (fun _ => Value.type "int") (Value.int n t :: r.filterMap (headV s.heap))).toArray[0]? = some (.type "int") := by simp
    have ea : ((List.map (fun _ => Value.type "int") (Value.int n t :: r.filterMap (headV s.heap))).toArray.all fun x => x == Value.type "int") = true := by
      simp only [List.all_toArray, List.all_map, List.all_eq_true]
      intro _ _
      rfl
    rw [e0]
    show wpAny _ _ (pure (if (Array.all _ fun x => x == Value.type "int") = true then some (Value.type "int") else none)) _ _ _
    rw [if_pos ea]
    exact wpAny_pure (wpAny_pure q)
end
end Sr

/-! ### sorted(list of tuples of ints) -/
namespace Sr
open PySem PyProof.Rows
theorem perm_map_inv {α β : Type} {f : α → β} : ∀ {l : List β} {ts : List α}, l.Perm (ts.map f) → ∃ ts' : List α, ts'.Perm ts ∧ l = ts'.map f
  | [], ts, h => by
    have e := h.symm.eq_nil
    exact ⟨[], by rw [List.map_eq_nil_iff.mp e], rfl⟩
  | b :: l, ts, h => by
    have hb : b ∈ ts.map f := h.mem_iff.mp List.mem_cons_self
    obtain ⟨t, ht, rfl⟩ := List.mem_map.mp hb
    obtain ⟨p, r, rfl⟩ := List.append_of_mem ht
    have h2 : (f t :: l).Perm (f t :: (p ++ r).map f) := by
      refine h.trans ?_
      rw [List.map_append, List.map_cons, List.map_append]
      exact List.perm_middle
    obtain ⟨ts', p1, rfl⟩ := perm_map_inv (List.Perm.cons_inv h2)
    exact ⟨t :: ts', (p1.cons t).trans List.perm_middle.symm, rfl⟩
section
variable {prog : Program} {w : World} {A : Around} {E : Value → Shared → Prop} {s : Shared}
/-- list.sort of a list whose items are tuples of ints, one int at least -/
theorem list_sort_tups {a : Addr} {vs : List Value} {n : Nat} {R : Fin → Shared → Prop} (ho : s.heap.get? a = some (seqObj "list" vs.toArray n)) (hh : ∀ v ∈ vs, Head s.heap v) (hk : ∀ v ∈ vs, ∃ ns, tupK s.heap v = some ns) (h64 : vs.length < 64)
    (q : ∀ xs : Array Keyed, xs.Perm (pairsOf vs) → SortedToK (kT s.heap) xs vs.length → R (.done (.ret .none)) { s with heap := sortedHeap s.heap a vs (xs.map (·.2)) }) :
    wpAny (model prog w) A (Builtin.«list.sort» ⟨[.ref a], []⟩) R E s := by
  have hlt : a < s.heap.objs.size := Heap.lt_size ho
  rw [list_sort_plain]
  refine wpAny_bind (listItems_at ho rfl (wpAny_bind (listUpdate_at ho rfl ?_)))
  obtain ⟨e1, ho1⟩ : ∃ e1, (s.heap.update a (Obj.mapSeq fun _ => #[])).get? a = some (seqObj "list" #[] e1) := ⟨_, get?_update_seq ho (fun _ => #[])⟩
  refine wpAny_bind (seqEpoch_at ho1 rfl (wpAny_bind (wpAny_newTuple (wpAny_bind (wpAny_newList (wpAny_holding ?_))))))
  generalize hg : ((s.heap.update a (Obj.mapSeq fun _ => #[])).push (seqObj "tuple" vs.toArray 0)).push (seqObj "list" #[] 0) = g
  have other : ∀ b ob, b ≠ a → s.heap.get? b = some ob → g.get? b = some ob := fun b ob hb e => by
    rw [← hg]
    exact Heap.get?_push_of_some _ (Heap.get?_push_of_some _ ((Heap.get?_update_other _ _ (Ne.symm hb)).trans e))
  have ho6 : g.get? a = some (seqObj "list" #[] e1) := by
    rw [← hg]
    exact Heap.get?_push_of_some _ (Heap.get?_push_of_some _ ho1)
  show wpAny (model prog w) A _ R E { s with heap := g }
  dsimp only
  have q' : ∀ xs : Array Keyed, xs.Perm (pairsOf vs) → SortedToK (kT s.heap) xs vs.length → R (.done (.ret .none)) { s with heap := g.update a (Obj.mapSeq fun _ => xs.map (·.2)) } := fun xs h1 h2 => by
    have := q xs h1 h2
    unfold sortedHeap at this
    rw [hg] at this
    exact this
  have hsz : vs.toArray.size = vs.length := by simp
  have long : ∀ {xs : Array Keyed}, xs.Perm (pairsOf vs) → (xs.map (·.2)).size ≤ sizeLine + 1 := fun {xs} h => by
    rw [Array.size_map, h.size_eq, pairsOf_size, sizeLine_eq]
    omega
  by_cases h2 : vs.toArray.size < 2
  · simp only [h2, if_true]
    refine wpAny_bind (wpAny_pure ?_)
    rw [StateT.run_pure]
    refine wpAny_bind (wpAny_pure ?_)
    refine wpAny_bind (seqEpoch_at ho6 rfl (wpAny_bind (listUpdate_at ho6 rfl ?_ (hsz2 := long (Array.Perm.refl _)))))
    simp only [bne_self_eq_false, Bool.false_eq_true, if_false]
    refine wpAny_pure (q' _ (Array.Perm.refl _) fun i j hij hj => ?_)
    have e : i = j := by omega
    rw [e]
    exact KeyOrd.kle_refl _
  · simp only [h2, if_false]
    have two : 2 ≤ vs.length := by omega
    have nev : vs ≠ [] := fun z => by rw [z] at two; exact absurd two (by decide)
    have notList : ∀ v ∈ vs, ∀ b, v = .ref b → b ≠ a := fun v hv b e z => by
      obtain ⟨b', its, m, t, r, e', ⟨ob, eb, cb, _⟩, _⟩ := hh v hv
      subst e
      injection e' with e'
      subst e' z
      rw [ho] at eb
      have eo : seqObj "list" vs.toArray n = ob := Option.some.inj eb
      rw [← eo] at cb
      have cb' : Value.type "list" = Value.type "tuple" := cb
      injection cb' with cb''
      exact absurd cb'' (by decide)
    have sameK : ∀ v ∈ vs, tupK g v = tupK s.heap v := fun v hv => by
      obtain ⟨b, its, m, t, r, rfl, ⟨ob, eb, cb, k, db⟩, _⟩ := hh v hv
      unfold tupK
      simp only [eb, other b ob (notList _ hv b rfl) eb]
    have hh6 : ∀ v ∈ vs, Head g v := fun v hv => by
      obtain ⟨b, its, m, t, r, rfl, ⟨ob, eb, rest⟩, hi⟩ := hh v hv
      exact ⟨b, its, m, t, r, rfl, ⟨ob, other b ob (notList _ hv b rfl) eb, rest⟩, hi⟩
    have hk6 : KeysOf (kT g) (pairsOf vs) := fun p hp => by
      rw [pairsOf_toList] at hp
      obtain ⟨_, hm⟩ := mem_zip_self hp
      obtain ⟨ns, e⟩ := hk _ hm
      exact ⟨ns, (sameK _ hm).trans e⟩
    refine wpAny_bind (kind_tup (s := { s with heap := g }) hh6 nev ?_)
    refine wpAny_bind (wpAny_mono (sort_runs (κ := kT g) (kd := tuples' true) (o := pairsOf vs) (st := SortSt.mk' (tuples' true) (vs.toArray.zip vs.toArray) #[] 7 none)
      (Q := fun _ u => (arrOf u).Perm (pairsOf vs) ∧ failedOf u = none ∧ SortedToK (kT g) (arrOf u) (pairsOf vs).size) (tells_tup (s := { s with heap := g }) true) hk6 ⟨Array.Perm.refl _, rfl, rfl, rfl⟩ (by rw [pairsOf_size]; exact two)
      (by rw [pairsOf_size]; exact h64) fun u h1 h2 h3 => ⟨h1, h2, h3⟩) ?_ fun _ _ z => z)
    rintro ⟨⟨⟩, u⟩ s' ⟨rfl, hp, hf, hs⟩
    refine wpAny_bind (seqEpoch_at ho6 rfl (wpAny_bind (listUpdate_at ho6 rfl ?_ (hsz2 := long hp))))
    rw [hf]
    simp only [bne_self_eq_false, Bool.false_eq_true, if_false]
    refine wpAny_pure (q' _ hp fun i j hij hj => ?_)
    have kk : ∀ i, i < vs.length → KK (kT s.heap) (arrOf u) i = KK (kT g) (arrOf u) i := fun i hi => by
      have hi' : i < (arrOf u).size := by rw [hp.size_eq, pairsOf_size]; exact hi
      have e := getElem?_pos (arrOf u) i hi'
      have hin : (arrOf u)[i] ∈ (pairsOf vs).toList := (Array.perm_iff_toList_perm.mp hp).mem_iff.mp (by simp)
      rw [pairsOf_toList] at hin
      obtain ⟨_, hm⟩ := mem_zip_self hin
      simp only [KK, e]
      show (tupK s.heap _).getD [] = (tupK g _).getD []
      rw [sameK _ hm]
    rw [kk i (by omega), kk j hj]
    exact hs i j hij (by rw [pairsOf_size]; exact hj)
theorem sorted_tups {l : Addr} {vs : List Value} {Q : Value → Shared → Prop} (hl : s.heap.IsList l vs.toArray) (hh : ∀ v ∈ vs, Head s.heap v) (hk : ∀ v ∈ vs, ∃ ns, tupK s.heap v = some ns) (h64 : vs.length < 64)
    (q : ∀ (xs : Array Keyed) (h' : Heap) (n : Nat), xs.Perm (pairsOf vs) → SortedToK (kT s.heap) xs vs.length → h'.get? (s.heap.objs.size + 1) = some (seqObj "list" (xs.map (·.2)) n) → (∀ b o, s.heap.get? b = some o → h'.get? b = some o) →
      Q (.ref (s.heap.objs.size + 1)) { s with heap := h' }) :
    wpAny (model prog w) A (call (.builtin "sorted") [.ref l]) Q E s := by
  refine Calls.call_function_entry kind_sorted plain_sorted entry_sorted (args_sorted1 _) ?_
  unfold Builtin.«sorted»
  refine wpAny_bind (m := checkCount "sorted" 1 1 _) (wpAny_pure (wpAny_bind (collect_list hl (wpAny_bind (wpAny_newList ?_)))))
  generalize hg : (s.heap.push (seqObj "list" #[] 0)).update s.heap.objs.size (Obj.mapSeq (· ++ vs.toArray)) = g
  have zg : g.objs.size = s.heap.objs.size + 1 := by rw [← hg, Heap.size_update, size_push']
  have og : ∀ b o, s.heap.get? b = some o → g.get? b = some o := fun b o e => by
    rw [← hg]
    exact (Heap.get?_update_other _ _ (Nat.ne_of_gt (Heap.lt_size e))).trans (Heap.get?_push_of_some _ e)
  show wpAny _ _ _ _ _ { s with heap := g.push (seqObj "list" vs.toArray 0) }
  rw [zg]
  have hoL : (g.push (seqObj "list" vs.toArray 0)).get? (s.heap.objs.size + 1) = some (seqObj "list" vs.toArray 0) := by rw [← zg]; exact Heap.get?_push_size _ rfl
  have ol : ∀ b o, s.heap.get? b = some o → (g.push (seqObj "list" vs.toArray 0)).get? b = some o := fun b o e => Heap.get?_push_of_some _ (og b o e)
  have sameK : ∀ v ∈ vs, tupK (g.push (seqObj "list" vs.toArray 0)) v = tupK s.heap v := fun v hv => by
    obtain ⟨b, its, m, t, r, rfl, ⟨ob, eb, cb, k, db⟩, _⟩ := hh v hv
    unfold tupK
    simp only [eb, ol b ob eb]
  refine wpAny_bind (wpAny_holding (wpAny_call_entry slot_list_sort ⟨_, hoL, rfl⟩ entry_list_sort (list_sort_tups (s := { s with heap := g.push (seqObj "list" vs.toArray 0) }) hoL (fun v hv => ?_) (fun v hv => ?_) h64 fun xs h1 h2 => ⟨_, rfl, ?_⟩) (args_list_sort _)))
  · obtain ⟨b, its, m, t, r, e, ⟨ob, eb, rest⟩, hi⟩ := hh v hv
    exact ⟨b, its, m, t, r, e, ⟨ob, ol b ob eb, rest⟩, hi⟩
  · obtain ⟨ns, e⟩ := hk v hv
    exact ⟨ns, (sameK v hv).trans e⟩
  · have kk : SortedToK (kT s.heap) xs vs.length := fun i j hij hj => by
      have one : ∀ i, i < vs.length → KK (kT s.heap) xs i = KK (kT (g.push (seqObj "list" vs.toArray 0))) xs i := fun i hi => by
        have hi' : i < xs.size := by rw [h1.size_eq, pairsOf_size]; exact hi
        have e := getElem?_pos xs i hi'
        have hin : xs[i] ∈ (pairsOf vs).toList := (Array.perm_iff_toList_perm.mp h1).mem_iff.mp (by simp)
        rw [pairsOf_toList] at hin
        obtain ⟨_, hm⟩ := mem_zip_self hin
        simp only [KK, e]
        show (tupK s.heap _).getD [] = (tupK _ _).getD []
        rw [sameK _ hm]
      rw [one i (by omega), one j hj]
      exact h2 i j hij hj
    generalize hf : sortedHeap (g.push (seqObj "list" vs.toArray 0)) (s.heap.objs.size + 1) vs (xs.map (·.2)) = h'
    obtain ⟨m, em⟩ : ∃ m, h'.get? (s.heap.objs.size + 1) = some (seqObj "list" (xs.map (·.2)) m) := by
      rw [← hf]
      unfold sortedHeap
      obtain ⟨e1, ho1⟩ : ∃ e1, ((g.push (seqObj "list" vs.toArray 0)).update (s.heap.objs.size + 1) (Obj.mapSeq fun _ => #[])).get? (s.heap.objs.size + 1) = some (seqObj "list" #[] e1) := ⟨_, get?_update_seq hoL (fun _ => #[])⟩
      exact ⟨_, get?_update_seq (Heap.get?_push_of_some _ (Heap.get?_push_of_some _ ho1)) (fun _ => xs.map (·.2))⟩
    have keep : ∀ b o, s.heap.get? b = some o → h'.get? b = some o := fun b o e => by
      have hb : b ≠ s.heap.objs.size + 1 := Nat.ne_of_lt (Nat.lt_succ_of_lt (Heap.lt_size e))
      rw [← hf]
      unfold sortedHeap
      exact (Heap.get?_update_other _ _ (Ne.symm hb)).trans (Heap.get?_push_of_some _ (Heap.get?_push_of_some _ ((Heap.get?_update_other _ _ (Ne.symm hb)).trans (ol b o e))))
    exact wpAny_pure ⟨_, rfl, q xs h' m h1 kk em keep⟩
end
end Sr
namespace L2
open PySem PySem.Spec PyProof.Rows
/-- tuples of ints: their address, their ints -/
abbrev TI2 := Addr × List Int
def refsV (ts : List TI2) : List V := ts.map fun t => .ref t.1
section
variable {X : Cx}
theorem zip_same {α β : Type} (f : α → β) : ∀ l : List α, (l.map f).zip (l.map f) = l.map fun t => (f t, f t)
  | [] => rfl
  | t :: l => by rw [List.map_cons, List.zip_cons_cons, zip_same f l, List.map_cons]
theorem vals_refs : ∀ {ts : List TI2} {us : List Value}, Vals (refsV ts) us → us = ts.map fun t => Value.ref t.1
  | [], us, r => by cases r; rfl
  | t :: ts, us, r => by
    cases r with
    | cons r1 r2 =>
      have e : _ = Value.ref t.1 := r1
      rw [e, vals_refs r2]
      rfl
theorem vals_of_refs : ∀ ts : List TI2, Vals (refsV ts) (ts.map fun t => Value.ref t.1)
  | [] => .nil
  | t :: ts => .cons rfl (vals_of_refs ts)
theorem call_sorted : CallR X (.builtin "sorted") (fun xs H Q => ∃ p ts, xs = [.ref p] ∧ SqL X.K H p (refsV ts) ∧ (∀ t ∈ ts, SqT X.K H t.1 (t.2.map V.int) ∧ t.2 ≠ []) ∧ ts.length < 64 ∧
    ∀ (l : Addr) (ts' : List TI2), H l = none → ts'.Perm ts → ts'.Pairwise (fun a b => HT.lexLt b.2 a.2 = false) → Q (.ref l) (upd H l (.lst (refsV ts')))) := by
  intro pins s σ H xs us Q I r h
  obtain ⟨p, ts, rfl, hq, ht, h64, q⟩ := h
  obtain ⟨u, rfl, ru⟩ := vals1 r
  cases ru
  obtain ⟨its, rv, pl, hz⟩ := I.list hq
  have ei := vals_refs rv
  subst ei
  have tup : ∀ t ∈ ts, ∃ vs, IsTup s.heap t.1 vs.toArray ∧ IntsAre vs t.2 := fun t hm => by
    obtain ⟨vs, r2, p2, _⟩ := I.tuple (ht t hm).1
    exact ⟨vs, p2, intsAre_of r2⟩
  have key : ∀ t ∈ ts, Sr.tupK s.heap (.ref t.1) = some t.2 := fun t hm => by
    obtain ⟨vs, p2, i2⟩ := tup t hm
    exact Sr.tupK_of p2 (by simpa using i2)
  have e0 : H (s.heap.objs.size + 1) = none := I.hok.fresh (Nat.le_succ _)
  refine Sr.sorted_tups (vs := ts.map fun t => Value.ref t.1) pl.isList (fun v hv => ?_) (fun v hv => ?_) (by rw [List.length_map]; exact h64) fun xs h' n hp hs hl hk => ?_
  · obtain ⟨t, hm, rfl⟩ := List.mem_map.mp hv
    obtain ⟨ta, tn⟩ := t
    obtain ⟨vs, p2, i2⟩ := tup (ta, tn) hm
    have hne := (ht (ta, tn) hm).2
    have i2 : IntsAre vs tn := i2
    cases i2 with
    | nil => exact absurd rfl hne
    | cons m tk r2 => exact ⟨ta, _, m, tk, _, rfl, p2, rfl⟩
  · obtain ⟨t, hm, rfl⟩ := List.mem_map.mp hv
    exact ⟨t.2, key t hm⟩
  · have pl2 : xs.toList.Perm ((ts.map fun t => Value.ref t.1).zip (ts.map fun t => Value.ref t.1)) := by rw [← pairsOf_toList]; exact Array.perm_iff_toList_perm.mp hp
    have ez : ((ts.map fun t => Value.ref t.1).zip (ts.map fun t => Value.ref t.1)) = ts.map fun t => (Value.ref t.1, Value.ref t.1) := by
      exact zip_same _ ts
    rw [ez] at pl2
    obtain ⟨ts', p1, e1⟩ := Sr.perm_map_inv pl2
    have eo : (xs.map (·.2)) = (ts'.map fun t => Value.ref t.1).toArray := by
      apply Array.toList_inj.mp
      rw [Array.toList_map, e1, List.map_map]
      rfl
    have hlen : xs.size = ts'.length := by
      have := congrArg List.length e1
      rw [List.length_map] at this
      simpa using this
    have srt : ts'.Pairwise (fun a b => HT.lexLt b.2 a.2 = false) := by
      rw [List.pairwise_iff_getElem]
      intro i j hi hj hij
      have h3 := hs i j (Nat.le_of_lt hij) (by rw [List.length_map, ← p1.length_eq]; exact hj)
      have kk : ∀ k (hk : k < ts'.length), KK (Sr.kT s.heap) xs k = ts'[k].2 := fun k hk' => by
        have hk2 : k < xs.size := by rw [hlen]; exact hk'
        have e := getElem?_pos xs k hk2
        have e2 : xs[k] = (Value.ref ts'[k].1, Value.ref ts'[k].1) := by
          have e3 : xs.toList[k]? = some (Value.ref ts'[k].1, Value.ref ts'[k].1) := by rw [e1, List.getElem?_map, List.getElem?_eq_getElem hk'] <;> rfl
          have e4 : xs.toList[k]? = some xs[k] := by rw [Array.getElem?_toList]; exact e
          rw [e4] at e3
          exact Option.some.inj e3
        simp only [KK, e, e2]
        show (Sr.tupK s.heap (Value.ref ts'[k].1)).getD [] = _
        rw [key _ (p1.mem_iff.mp (List.getElem_mem hk'))]
        rfl
      rw [kk i hi, kk j hj] at h3
      exact h3
    refine ⟨.ref (s.heap.objs.size + 1), _, I.laid (t' := s.toks) (o := .lst (refsV ts')) hk (Nat.le_succ _) ⟨?_, _, n, vals_of_refs ts', ?_⟩, rfl, q _ ts' e0 p1 srt⟩
    · unfold refsV
      rw [List.length_map, p1.length_eq]
      exact smallL (by omega)
    · rw [hl, eo]
end
end L2

/-! ### sum of a list of ints; a list turned about -/
namespace L2
open PySem PySem.Spec PyProof.Rows
section
variable {X : Cx}
theorem call_sum (hc : X.calm = true) : CallR X (.builtin "sum") (fun xs H Q => ∃ p ns, xs = [.ref p] ∧ SqL X.K H p (ns.map V.int) ∧ Q (.int (List.sum ns)) H) := by
  intro pins s σ H xs us Q I r h
  obtain ⟨p, ns, rfl, hq, q⟩ := h
  obtain ⟨u, rfl, ru⟩ := vals1 r
  cases ru
  obtain ⟨its, rv, pl, hz⟩ := I.list hq
  have hi : IntsAre its ns := intsAre_of rv
  obtain ⟨zs, e⟩ := (hi.allInts).items
  have hn : numsOf its = ns := hi.numsOf
  refine sum_intListG (I.ok.hd hc) (by rw [← e]; exact pl.isList) fun h' tk t' hk => ⟨.int (List.sum ns), H, I.kept hk, ⟨t', ?_⟩, q⟩
  have e2 : its.toArray.toList = (intItems zs).toList := by rw [e]
  have e3 : numsOf its = numsOf (intItems zs).toList := by rw [← e2]
  rw [nums_intItems] at e3
  rw [preSum_eq, List.take_of_length_le (by simp), ← hn, e3]
end
end L2
namespace L2
open PySem PySem.Spec PyProof.Rows
theorem pick_back (its : List Value) : slicePick its.toArray none none (some (-1)) = its.reverse.toArray := by
  unfold slicePick
  have e : sliceBounds none none (some (-1)) its.toArray.size = ((its.length : Int) - 1, -1, -1) := by
    simp [sliceBounds]
  rw [e]
  congr 1
  apply List.ext_getElem?
  intro i
  have hr : sliceRange ((its.length : Int) - 1) (-1) (-1) = (List.range its.length).map fun k => its.length - 1 - k := by
    unfold sliceRange
    have hc : (if (-1 : Int) > 0 then (if (its.length : Int) - 1 < -1 then ((-1) - ((its.length : Int) - 1) + (-1) - 1) / (-1) else 0)
        else (if (its.length : Int) - 1 > -1 then ((its.length : Int) - 1 - (-1) - (-1) - 1) / (-(-1)) else 0)) = (its.length : Int) := by
      rw [if_neg (by decide)]
      split
      · rw [show (-(-1) : Int) = 1 from rfl, Int.ediv_one]
        omega
      · omega
    simp only [hc, Int.toNat_natCast]
    apply List.map_congr_left
    intro k hk
    have := List.mem_range.mp hk
    omega
  rw [hr]
  have hf : (List.filterMap (fun x => its.toArray[x]?) ((List.range its.length).map fun k => its.length - 1 - k)) = its.reverse := by
    have h2 : ∀ n, n ≤ its.length → List.filterMap (fun x => its.toArray[x]?) ((List.range n).map fun k => its.length - 1 - k) = its.reverse.take n := by
      intro n
      induction n with
      | zero => intro _; rfl
      | succ n ih =>
        intro hn
        rw [List.range_succ, List.map_append, List.filterMap_append, ih (by omega), List.map_singleton]
        have hx : its.toArray[its.length - 1 - n]? = some its[its.length - 1 - n] := by
          rw [List.getElem?_toArray]
          exact List.getElem?_eq_getElem (by omega)
        rw [List.filterMap_cons, hx, List.filterMap_nil]
        rw [List.take_add_one, List.getElem?_reverse (by omega), List.getElem?_eq_getElem (by omega)]
        rfl
    rw [h2 its.length (Nat.le_refl _), List.take_of_length_le (by simp)]
  rw [hf]
theorem Vals.rev : ∀ {xs : List V} {us : List Value}, Vals xs us → Vals xs.reverse us.reverse
  | _, _, .nil => .nil
  | _, _, .cons r t => by
    rw [List.reverse_cons, List.reverse_cons]
    exact Vals.append (Vals.rev t) (.cons r .nil)
section
variable {X : Cx} {e st : Expr} {te tst : TE} {pos p2 : Pos}
def tRev (K : PySem.W.Frag) (te tst : TE) : TE := fun σ H Q => te σ H fun x H1 => tst σ H1 fun y H2 => ∃ a xs, x = .ref a ∧ y = .int (-1) ∧ SqL K H2 a xs ∧ ∀ p, H2 p = none → Q (.ref p) (upd H2 p (.lst xs.reverse))
/-- xs[::-1] -/
theorem pe_rev (he : PE X e te) (hs : PE X st tst) : PE X (.Subscript e (.Slice none none (some st) p2) pos) (tRev X.K te tst) := by
  intro pins s σ H Q I h
  refine Subscript_ (thn (he pins s σ H _ I h) fun v s1 ⟨x, H1, I1, r1, q1⟩ => ?_)
  refine wpAny_Slice ?_
  rw [evalPart_none, evalPart_some]
  refine wpAny_pure (wpAny_pure (thn (hs pins s1 σ H1 _ I1 q1) fun vs s3 ⟨y, H3, I3, r3, q3⟩ => ?_))
  obtain ⟨a, xs, rfl, rfl, hq, q⟩ := q3
  cases r1
  obtain ⟨t, rfl⟩ := r3
  have I4 : Inv X pins σ H3 { s3 with heap := s3.heap.push { cls := .type "slice", data := .fields #[.none, .none, .int (-1) t] } } := I3.kept (t' := s3.toks) fun b ob q => Heap.get?_push_of_some _ q
  obtain ⟨its, rv, ht, hz⟩ := I4.list hq
  have hlen := rv.length
  show wpAny (model X.prog X.w) X.A (subscriptTail e (.Slice none none (some st) p2) (.ref a) (.ref s3.heap.objs.size)) (EP X pins σ Q) X.xe { s3 with heap := s3.heap.push { cls := .type "slice", data := .fields #[.none, .none, .int (-1) t] } }
  refine tail_any (ops := [.ref a, .ref s3.heap.objs.size]) ht.isList.typeIs slot_list_getitem.lookup ?_ (by with_unfolding_all rfl)
  refine wpAny_getItem_list_slice ht.isList (Heap.IsSliceOf.new ..) .none .none (.int (-1) t) (by decide) ?_ (by rw [List.size_toArray]; omega)
  rw [pick_back]
  refine ⟨.ref _, _, I4.laid (t' := s3.toks) (o := .lst xs.reverse) (fun b ob q => Heap.get?_push_of_some _ q) (Nat.le_refl _) ?_, rfl, q _ (I4.hok.fresh (Nat.le_refl _))⟩
  exact ⟨by rw [List.length_reverse]; exact hz, _, 0, rv.rev, Heap.get?_push_size _ rfl⟩
end
end L2

/-! ### the rules with the written part named, so that they stand within a block too -/
namespace L2
open PySem PySem.Spec PyProof.Rows
section
variable {X : Cx} (K : PySem.W.Frag) (hK : X.K = K)
include hK
theorem kix_list : IxR X (rIxL K) := by subst hK; exact ix_list
theorem kix_tup : IxR X (rIxT K) := by subst hK; exact ix_tup
theorem ksl_list : SlR X (rSlL K) := by subst hK; exact sl_list
theorem ksl_tup : SlR X (rSlT K) := by subst hK; exact sl_tup
theorem kin_seq : OpR X (compareOp .In) (rIn K false) := by subst hK; exact op_in_seq
theorem knotIn_seq : OpR X (compareOp .NotIn) (rIn K true) := by subst hK; exact op_notIn_seq
theorem keqD (hu : X.A.units + 64 < cLine) : OpR X (compareOp .Eq) (rEqD K false) := by subst hK; exact op_eqD hu
theorem kneD (hu : X.A.units + 64 < cLine) : OpR X (compareOp .NotEq) (rEqD K true) := by subst hK; exact op_neD hu
def rLen (K : PySem.W.Frag) : List V → Hp → VK → Prop := fun xs H Q => ∃ p ys, xs = [.ref p] ∧ (SqL K H p ys ∨ SqT K H p ys) ∧ Q (.int ys.length) H
theorem klen_seq : CallR X (.builtin "len") (rLen K) := by subst hK; exact call_len_seq
def rIsi (K : PySem.W.Frag) : List V → Hp → VK → Prop := fun xs H Q => ∃ x n t b, xs = [x, .ty n] ∧ TyOf K H x t ∧ PySem.W.kitOne K t (.type n) = some b ∧ Q (.bl b) H
theorem kisinst : CallR X (.builtin "isinstance") (rIsi K) := by subst hK; exact call_isinst
def rListOf (K : PySem.W.Frag) : List V → Hp → VK → Prop := fun xs H Q => ∃ p ys, xs = [.ref p] ∧ (SqL K H p ys ∨ SqT K H p ys) ∧ ∀ l, H l = none → Q (.ref l) (upd H l (.lst ys))
theorem klist_of : CallR X (.type "list") (rListOf K) := by subst hK; exact call_list_of
def rSorted (K : PySem.W.Frag) : List V → Hp → VK → Prop := fun xs H Q => ∃ p ts, xs = [.ref p] ∧ SqL K H p (refsV ts) ∧ (∀ t ∈ ts, SqT K H t.1 (t.2.map V.int) ∧ t.2 ≠ []) ∧ ts.length < 64 ∧
    ∀ (l : Addr) (ts' : List TI2), H l = none → ts'.Perm ts → ts'.Pairwise (fun a b => HT.lexLt b.2 a.2 = false) → Q (.ref l) (upd H l (.lst (refsV ts')))
theorem ksorted : CallR X (.builtin "sorted") (rSorted K) := by subst hK; exact call_sorted
def rSum (K : PySem.W.Frag) : List V → Hp → VK → Prop := fun xs H Q => ∃ p ns, xs = [.ref p] ∧ SqL K H p (ns.map V.int) ∧ Q (.int (List.sum ns)) H
theorem ksum (hc : X.calm = true) : CallR X (.builtin "sum") (rSum K) := by subst hK; exact call_sum hc
theorem kpi_list {tg l : Expr} {tl : TE} (hl : PE X l tl) : PI X tg l (iList K tl) := by subst hK; exact pi_list hl
theorem kpi_tup {tg l : Expr} {tl : TE} (hl : PE X l tl) : PI X tg l (iTup K tl) := by subst hK; exact pi_tup hl
theorem kpi_enum {es : List Expr} {k1 : Nat} {tp : Pos} {e : Expr} {ta : TA} {p pos : Pos} (hg : Gl X "enumerate") (hm : X.mg "enumerate" = none) (ha : PA X [e] ta) (hs : starEach [e] X.env = (false, eval e X.env) :: starEach [] X.env := by rfl) :
    PI X (.Tuple es k1 tp) (.Call (.Name "enumerate" p) [e] [] pos) (iEnum K ta) := by subst hK; exact pi_enum hg hm ha hs
theorem kpg_tup {es : List Expr} {k : Nat} {t : TGs} {n : Nat} {pos : Pos} (hc : X.calm = true) (h : PGs X es t) (hn : (assignEach es X.env).length = n := by rfl) (hst : (assignEach es X.env).findIdx? (·.1) = none := by rfl) :
    PG X (.Tuple es k pos) (gTup K n t) := by subst hK; exact pg_tup hc h hn hst
theorem kpe_rev {e st : Expr} {te tst : TE} {pos p2 : Pos} (he : PE X e te) (hs : PE X st tst) : PE X (.Subscript e (.Slice none none (some st) p2) pos) (tRev K te tst) := by subst hK; exact pe_rev he hs
theorem kpe_bm {o e : Expr} {es : List Expr} {to : TE} {t : TA} {name : Str} {apos cpos : Pos} {T id : String} {r : V → List V → Hp → VK → Prop} (pa : PlainAttrs T) (slot : Slot T name id) (hty : typeOf (.builtin id) = pure (.type "method_descriptor")) (hm : MtR X id r) (ho : PE X o to) (ha : PA X (e :: es) t)
    (hbase : attributeBase o name X.env (eval o X.env) = eval o X.env := by rfl)
    (hfew : ((backTo cpos (starEach (e :: es) X.env)).all (fun x => !x.1) && (backToKw cpos (keywordEach [] X.env)).all (fun x => x.1.isSome)
      && decide ((e :: es).length + ([] : List Keyword).length + (if ([] : List Keyword).isEmpty then 0 else 1) < 30)) = true := by rfl)
    (hline : (apos.endLine == cpos.line) = true := by rfl) (hs : starEach (e :: es) X.env = (false, eval e X.env) :: starEach es X.env := by rfl) (hplain : (backTo cpos (starEach es X.env)).any (·.1) = false := by rfl) :
    PE X (.Call (.Attribute o name apos) (e :: es) [] cpos) (tBM K T r to t) := by subst hK; exact pe_bm pa slot hty hm ho ha hbase hfew hline hs hplain
theorem kpe_bm0 {o : Expr} {to : TE} {name : Str} {apos cpos : Pos} {T id : String} {r : V → List V → Hp → VK → Prop} (pa : PlainAttrs T) (slot : Slot T name id) (hty : typeOf (.builtin id) = pure (.type "method_descriptor")) (hm : MtR X id r) (ho : PE X o to)
    (hbase : attributeBase o name X.env (eval o X.env) = eval o X.env := by rfl) (hline : (apos.endLine == cpos.line) = true := by rfl) : PE X (.Call (.Attribute o name apos) [] [] cpos) (tBM0 K T r to) := by
  subst hK; exact pe_bm0 pa slot hty hm ho hbase hline
end
section
variable {X : Cx}
theorem mt_bitlen : MtR X "int.bit_length" (fun x xs H Q => ∃ i : Int, x = .int i ∧ xs = [] ∧ Q (.int (Builtin.Int.intBits i : Nat)) H) := by
  intro pins s σ H x xs v us Q I rx rs h
  obtain ⟨i, rfl, rfl, q⟩ := h
  obtain ⟨t, rfl⟩ := rx
  cases rs
  exact call_int_bit_length ⟨.int (Builtin.Int.intBits i : Nat), H, I.tok _, ⟨_, rfl⟩, q⟩
end
end L2

/-! teeth as bits: plain mathematics -/
namespace Mt
open PySem
def has (t o : Int) : Bool := decide (∀ k : Nat, k < 7 → o / 2 ^ k % 2 ≤ t / 2 ^ k % 2)
theorem int_bit (n k : Nat) : ((n : Int) / 2 ^ k % 2) = ((n / 2 ^ k % 2 : Nat) : Int) := by
  have e : ((2 : Int) ^ k) = ((2 ^ k : Nat) : Int) := by rw [Int.natCast_pow]; rfl
  rw [e]
  omega
theorem land_iff (t o : Nat) (ho : o < 128) : (t &&& o) = o ↔ ∀ k : Nat, k < 7 → o / 2 ^ k % 2 ≤ t / 2 ^ k % 2 := by
  constructor
  · intro h k _
    have e : (t &&& o).testBit k = o.testBit k := by rw [h]
    rw [Nat.testBit_and, Nat.testBit_eq_decide_div_mod_eq, Nat.testBit_eq_decide_div_mod_eq] at e
    have h1 : o / 2 ^ k % 2 < 2 := Nat.mod_lt _ (by decide)
    have h2 : t / 2 ^ k % 2 < 2 := Nat.mod_lt _ (by decide)
    by_cases c : o / 2 ^ k % 2 = 1
    · by_cases d : t / 2 ^ k % 2 = 1
      · omega
      · rw [decide_eq_true c, decide_eq_false d] at e
        cases e
    · omega
  · intro h
    apply Nat.eq_of_testBit_eq
    intro k
    rw [Nat.testBit_and, Nat.testBit_eq_decide_div_mod_eq, Nat.testBit_eq_decide_div_mod_eq]
    by_cases c : o / 2 ^ k % 2 = 1
    · by_cases hk : k < 7
      · have := h k hk
        have h2 : t / 2 ^ k % 2 < 2 := Nat.mod_lt _ (by decide)
        rw [decide_eq_true c, decide_eq_true (by omega)]
        rfl
      · have e : o / 2 ^ k = 0 := by
          apply Nat.div_eq_of_lt
          exact Nat.lt_of_lt_of_le ho (Nat.le_trans (show 128 ≤ 2 ^ 7 by decide) (Nat.pow_le_pow_right (by decide) (by omega)))
        rw [e] at c
        cases c
    · rw [decide_eq_false c, Bool.and_false]
theorem and_has {t o : Int} (ht : 0 ≤ t) (h0 : 0 ≤ o) (h1 : o < 128) : decide (Builtin.bitAnd t o = o) = has t o := by
  obtain ⟨a, rfl⟩ := Int.eq_ofNat_of_zero_le ht
  obtain ⟨b, rfl⟩ := Int.eq_ofNat_of_zero_le h0
  rw [PyProof.Rows.bitAnd_pp ht h0]
  unfold has
  rw [Int.toNat_natCast, Int.toNat_natCast]
  have q := land_iff a b (by omega)
  have e : (∀ k : Nat, k < 7 → (b : Int) / 2 ^ k % 2 ≤ (a : Int) / 2 ^ k % 2) ↔ ∀ k : Nat, k < 7 → b / 2 ^ k % 2 ≤ a / 2 ^ k % 2 := by
    constructor
    · intro h k hk
      have := h k hk
      rw [int_bit, int_bit] at this
      omega
    · intro h k hk
      rw [int_bit, int_bit]
      have := h k hk
      omega
  rw [decide_eq_decide, e, ← q]
  omega
theorem has_self (t : Int) : has t t = true := decide_eq_true fun _ _ => Int.le_refl _
theorem has_zero (t : Int) : has t 0 = true := decide_eq_true fun k _ => by
  rw [Int.zero_ediv]
  have := Int.emod_nonneg (t / 2 ^ k) (show (2 : Int) ≠ 0 by decide)
  omega
theorem bit127 : ∀ k : Nat, k < 7 → (127 : Int) / 2 ^ k % 2 = 1 := by decide
theorem has_all7 (o : Int) : has 127 o = true := decide_eq_true fun k hk => by
  rw [bit127 k hk]
  have := Int.emod_lt_of_pos (o / 2 ^ k) (show (0 : Int) < 2 by decide)
  omega
end Mt
namespace Mt
open PySem L2
/-- the first of the codes that has all of the teeth -/
def falls (cs : List Int) (t : Int) : Option Nat := cs.findIdx? fun c => has c t
def optV : Option Nat → V
  | none => .non
  | some i => .int i
theorem falls_some {cs : List Int} {t : Int} {i : Nat} {c : Int} (h : cs[i]? = some c) (hc : has c t = true) (hj : ∀ (j : Nat) c', j < i → cs[j]? = some c' → has c' t = false) : falls cs t = some i := by
  obtain ⟨hi, e⟩ := List.getElem?_eq_some_iff.mp h
  unfold falls
  rw [List.findIdx?_eq_some_iff_getElem]
  refine ⟨hi, by rw [e]; exact hc, fun j hji => ?_⟩
  rw [hj j cs[j] hji (List.getElem?_eq_getElem (by omega))]
  exact Bool.false_ne_true
theorem falls_none {cs : List Int} {t : Int} (hj : ∀ (j : Nat) c', j < cs.length → cs[j]? = some c' → has c' t = false) : falls cs t = none := by
  unfold falls
  rw [List.findIdx?_eq_none_iff]
  intro c hc
  obtain ⟨j, hjl, e⟩ := List.getElem_of_mem hc
  exact hj j c hjl (by rw [List.getElem?_eq_getElem hjl, e])
theorem falls_zero {c : Int} {cs : List Int} : falls (c :: cs) 0 = some 0 := falls_some (i := 0) (c := c) rfl (has_zero c) fun j _ h => absurd h (Nat.not_lt_zero _)
end Mt
namespace Mt
open PySem L2
/-- what a tuple (number, where) is -/
def TupAt (H : Hp) (x : V) (p : Nat × Option Nat) : Prop := ∃ t, x = .ref t ∧ H t = some (.tup [.int p.1, optV p.2])
theorem TupAt.same {H H' : Hp} {x : V} {p : Nat × Option Nat} (h : TupAt H x p) (s : Same H H') : TupAt H' x p := let ⟨t, e, h⟩ := h; ⟨t, e, s _ _ h⟩
def pairAt (cs : List Int) (i : Nat) : Nat × Option Nat := (i, falls cs (cs.getD i 0))
def pairs (cs : List Int) : List (Nat × Option Nat) := (List.range cs.length).map (pairAt cs)
/-- the wrong falls -/
def wf (cs : List Int) : List (Nat × Option Nat) := (pairs cs).filter fun p => !decide (V.int p.1 = optV p.2)
def optD : Option Nat → PyData
  | none => .none
  | some i => .int i
def pairD (p : Nat × Option Nat) : PyData := .tuple [.int p.1, optD p.2]
theorem den_opt {K : PySem.W.Frag} {H : Hp} (o : Option Nat) : Den K H (optV o) (optD o) := by
  cases o with
  | none => exact .non
  | some i => exact .int _
theorem denL_pairs {K : PySem.W.Frag} {H : Hp} : ∀ {xs : List V} {ps : List (Nat × Option Nat)}, Paired (TupAt H) xs ps → DenL K H xs (ps.map pairD)
  | _, _, .nil => .nil
  | _, _, .cons ⟨t, e, h⟩ r => by
    subst e
    exact .cons (.tup (SqT.of h) (.cons (.int _) (.cons (den_opt _) .nil))) (denL_pairs r)
theorem nb_pairs : ∀ ps : List (Nat × Option Nat), nbL (ps.map pairD) = true
  | [] => rfl
  | ⟨i, none⟩ :: r => by
    show (nb (pairD (i, none)) && nbL (r.map pairD)) = true
    rw [nb_pairs r]
    rfl
  | ⟨i, some j⟩ :: r => by
    show (nb (pairD (i, some j)) && nbL (r.map pairD)) = true
    rw [nb_pairs r]
    rfl
theorem depth_pairs : ∀ ps : List (Nat × Option Nat), PyData.depthAll (ps.map pairD) ≤ 1
  | [] => Nat.zero_le _
  | ⟨i, none⟩ :: r => Nat.max_le.mpr ⟨Nat.le_refl _, depth_pairs r⟩
  | ⟨i, some j⟩ :: r => Nat.max_le.mpr ⟨Nat.le_refl _, depth_pairs r⟩
abbrev dPairs (ps : List (Nat × Option Nat)) : PyData := .list (ps.map pairD)
theorem dpairs_depth (ps : List (Nat × Option Nat)) (e : PyData) : min (dPairs ps).depth e.depth ≤ 64 := by
  have q : (dPairs ps).depth = PyData.depthAll (ps.map pairD) + 1 := rfl
  have := depth_pairs ps
  omega
theorem paired_len {H : Hp} {xs : List V} {ps : List (Nat × Option Nat)} (h : Paired (TupAt H) xs ps) : xs.length = ps.length := Paired.length h
theorem paired_same {H H' : Hp} {xs : List V} {ps : List (Nat × Option Nat)} (h : Paired (TupAt H) xs ps) (s : Same H H') : Paired (TupAt H') xs ps := Paired.mapP h fun _ _ z => z.same s
/-- tuples are never written: what only changes lists keeps them -/
theorem paired_upd {H : Hp} {l : Addr} {o ys : HO} {xs : List V} {ps : List (Nat × Option Nat)} (h : Paired (TupAt H) xs ps) (hl : H l = some ys) (hn : ∀ z, ys ≠ .tup z) : Paired (TupAt (upd H l o)) xs ps :=
  Paired.mapP h fun x p ⟨t, e, ht⟩ => ⟨t, e, by rw [upd_ne (ne_of ht hl fun z => hn _ z.symm)]; exact ht⟩
theorem paired_new {H : Hp} {l : Addr} {o : HO} {xs : List V} {ps : List (Nat × Option Nat)} (h : Paired (TupAt H) xs ps) (hl : H l = none) : Paired (TupAt (upd H l o)) xs ps :=
  Paired.mapP h fun x p z => z.same (same_new hl o)
theorem paired_get {H : Hp} : ∀ {xs : List V} {ps : List (Nat × Option Nat)} {i : Nat} {x : V}, Paired (TupAt H) xs ps → xs[i]? = some x → ∃ p, ps[i]? = some p ∧ TupAt H x p
  | _, _, _, _, .nil, e => by simp at e
  | _, _, 0, _, .cons r _, e => by simp at e; subst e; exact ⟨_, rfl, r⟩
  | _, _, i + 1, x, .cons _ t, e => by
    obtain ⟨p, h1, h2⟩ := paired_get (i := i) (x := x) t (by simpa using e)
    exact ⟨p, by simpa using h1, h2⟩
theorem filt_pos {p : Nat × Option Nat} (h : (!decide (V.int p.1 = optV p.2)) = true) : List.filter (fun p : Nat × Option Nat => !decide (V.int p.1 = optV p.2)) [p] = [p] := by
  rw [List.filter_cons, if_pos h, List.filter_nil]
theorem filt_neg {p : Nat × Option Nat} (h : ¬ (!decide (V.int p.1 = optV p.2)) = true) : List.filter (fun p : Nat × Option Nat => !decide (V.int p.1 = optV p.2)) [p] = [] := by
  rw [List.filter_cons, if_neg h, List.filter_nil]
theorem take_range_succ {cs : List Int} {i : Nat} (h : i < cs.length) : (pairs cs).take (i + 1) = (pairs cs).take i ++ [pairAt cs i] := by
  unfold pairs
  rw [List.take_add_one, List.getElem?_map, List.getElem?_range h]
  rfl
end Mt
namespace Mt
open PySem L2
/-- how many teeth; the rank -/
def pc (c : Int) : Int := (([1, 2, 4, 8, 16, 32, 64] : List Int).map fun b => c / b % 2).sum
def rk (c : Int) : List Int := [pc c, c]
end Mt
namespace Mt
open PySem L2
theorem teeth_sum' : ∀ c : Fin 128, Builtin.Int.intBits (c.val : Int) ≤ 7 ∧ List.sum ((List.range (Builtin.Int.intBits (c.val : Int))).map fun k => Builtin.bitAnd ((c.val : Int) / 2 ^ k) 1) = pc (c.val : Int) := by decide +kernel
theorem teeth_sum {c : Int} (h0 : 0 ≤ c) (h1 : c < 128) : Builtin.Int.intBits c ≤ 7 ∧ List.sum ((List.range (Builtin.Int.intBits c)).map fun k => Builtin.bitAnd (c / 2 ^ k) 1) = pc c := by
  have h := teeth_sum' ⟨c.toNat, by omega⟩
  have e : ((c.toNat : Nat) : Int) = c := by omega
  simpa only [e] using h
/-- in the right order -/
def Right (rs : List Int) : Prop := rs.Pairwise fun a b => HT.lexLt (rk b) (rk a) = false
theorem lex2 {a b c d : Int} : HT.lexLt [a, b] [c, d] = true ↔ a < c ∨ (a = c ∧ b < d) := by
  show (if a = c then (if b = d then HT.lexLt [] [] else decide (b < d)) else decide (a < c)) = true ↔ _
  by_cases h : a = c
  · rw [if_pos h]
    by_cases h2 : b = d
    · rw [if_pos h2]
      exact ⟨fun z => (nomatch z), fun z => by omega⟩
    · rw [if_neg h2, decide_eq_true_iff]
      omega
  · rw [if_neg h, decide_eq_true_iff]
    omega
theorem right_le {a b : Int} (h : HT.lexLt (rk b) (rk a) = false) : pc a < pc b ∨ (pc a = pc b ∧ a ≤ b) := by
  have q : ¬ (pc b < pc a ∨ (pc b = pc a ∧ b < a)) := fun z => by
    have := lex2.mpr z
    rw [show HT.lexLt [pc b, b] [pc a, a] = false from h] at this
    cases this
  omega
theorem right_same : ∀ {xs ys : List Int}, xs.Perm ys → Right xs → Right ys → xs = ys
  | [], ys, p, _, _ => p.symm.eq_nil.symm
  | x :: xs, [], p, _, _ => absurd p.length_eq (by simp)
  | x :: xs, y :: ys, p, h1, h2 => by
    have hx : x ∈ y :: ys := p.mem_iff.mp List.mem_cons_self
    have hy : y ∈ x :: xs := p.mem_iff.mpr List.mem_cons_self
    have e : x = y := by
      rcases List.mem_cons.mp hx with e | hx
      · exact e
      · rcases List.mem_cons.mp hy with e | hy
        · exact e.symm
        · have a := right_le ((List.pairwise_cons.mp h2).1 x hx)
          have b := right_le ((List.pairwise_cons.mp h1).1 y hy)
          omega
    subst e
    rw [right_same (List.Perm.cons_inv p) (List.pairwise_cons.mp h1).2 (List.pairwise_cons.mp h2).2]
theorem pc_eq (c : Int) : pc c = c / 1 % 2 + (c / 2 % 2 + (c / 4 % 2 + (c / 8 % 2 + (c / 16 % 2 + (c / 32 % 2 + (c / 64 % 2 + 0)))))) := rfl
theorem has_bits {t o : Int} (h : has t o = true) : o / 1 % 2 ≤ t / 1 % 2 ∧ o / 2 % 2 ≤ t / 2 % 2 ∧ o / 4 % 2 ≤ t / 4 % 2 ∧ o / 8 % 2 ≤ t / 8 % 2 ∧ o / 16 % 2 ≤ t / 16 % 2 ∧ o / 32 % 2 ≤ t / 32 % 2 ∧ o / 64 % 2 ≤ t / 64 % 2 := by
  have h : ∀ k : Nat, k < 7 → o / 2 ^ k % 2 ≤ t / 2 ^ k % 2 := of_decide_eq_true h
  exact ⟨h 0 (by decide), h 1 (by decide), h 2 (by decide), h 3 (by decide), h 4 (by decide), h 5 (by decide), h 6 (by decide)⟩
theorem bits_of' : ∀ c : Fin 128, (c.val : Int) = (c.val : Int) / 1 % 2 + 2 * ((c.val : Int) / 2 % 2) + 4 * ((c.val : Int) / 4 % 2) + 8 * ((c.val : Int) / 8 % 2) + 16 * ((c.val : Int) / 16 % 2) + 32 * ((c.val : Int) / 32 % 2) + 64 * ((c.val : Int) / 64 % 2) := by decide +kernel
theorem bits_of {c : Int} (h : 0 ≤ c ∧ c < 128) : c = c / 1 % 2 + 2 * (c / 2 % 2) + 4 * (c / 4 % 2) + 8 * (c / 8 % 2) + 16 * (c / 16 % 2) + 32 * (c / 32 % 2) + 64 * (c / 64 % 2) := by
  have q := bits_of' ⟨c.toNat, by omega⟩
  have e : ((c.toNat : Nat) : Int) = c := by omega
  simpa only [e] using q
/-- all teeth of one with as many or more: it is the same -/
theorem has_same {t o : Int} (ht : 0 ≤ t ∧ t < 128) (ho : 0 ≤ o ∧ o < 128) (h : has t o = true) (hp : pc t ≤ pc o) : t = o := by
  obtain ⟨a0, a1, a2, a3, a4, a5, a6⟩ := has_bits h
  rw [pc_eq, pc_eq] at hp
  have b := bits_of ht
  have d := bits_of ho
  clear h ht ho
  rw [b, d]
  clear b d
  generalize t / 1 % 2 = t0 at *
  generalize t / 2 % 2 = t1 at *
  generalize t / 4 % 2 = t2 at *
  generalize t / 8 % 2 = t3 at *
  generalize t / 16 % 2 = t4 at *
  generalize t / 32 % 2 = t5 at *
  generalize t / 64 % 2 = t6 at *
  generalize o / 1 % 2 = o0 at *
  generalize o / 2 % 2 = o1 at *
  generalize o / 4 % 2 = o2 at *
  generalize o / 8 % 2 = o3 at *
  generalize o / 16 % 2 = o4 at *
  generalize o / 32 % 2 = o5 at *
  generalize o / 64 % 2 = o6 at *
  obtain rfl : t0 = o0 := by omega
  obtain rfl : t1 = o1 := by omega
  obtain rfl : t2 = o2 := by omega
  obtain rfl : t3 = o3 := by omega
  obtain rfl : t4 = o4 := by omega
  obtain rfl : t5 = o5 := by omega
  obtain rfl : t6 = o6 := by omega
  rfl
theorem right_falls {rs : List Int} (hn : rs.Nodup) (hb : ∀ c ∈ rs, 0 ≤ c ∧ c < 128) (hr : Right rs) {i : Nat} {c : Int} (hi : rs[i]? = some c) : falls rs c = some i := by
  refine falls_some hi (has_self c) fun j c' hj hc' => ?_
  cases e : has c' c with
  | false => rfl
  | true =>
    exfalso
    obtain ⟨hi', ei⟩ := List.getElem?_eq_some_iff.mp hi
    obtain ⟨hj', ej⟩ := List.getElem?_eq_some_iff.mp hc'
    have h1 := right_le (List.pairwise_iff_getElem.mp hr j i hj' hi' hj)
    rw [ei, ej] at h1
    have h2 := has_same (hb c' (List.mem_of_getElem? hc')) (hb c (List.mem_of_getElem? hi)) e (by omega)
    have h3 := List.pairwise_iff_getElem.mp hn j i hj' hi' hj
    rw [ei, ej] at h3
    exact h3 h2
theorem right_wf {rs : List Int} (hn : rs.Nodup) (hb : ∀ c ∈ rs, 0 ≤ c ∧ c < 128) (hr : Right rs) : wf rs = [] := by
  unfold wf
  rw [List.filter_eq_nil_iff]
  intro p hp
  unfold pairs at hp
  obtain ⟨i, hi, rfl⟩ := List.mem_map.mp hp
  have hi := List.mem_range.mp hi
  have e : rs[i]? = some rs[i] := List.getElem?_eq_getElem hi
  unfold pairAt
  rw [List.getD_eq_getElem?_getD, e]
  show ¬ (!decide (V.int i = optV (falls rs rs[i]))) = true
  rw [right_falls hn hb hr e]
  simp [optV]
end Mt

/-! ### sorted(list, key=def), where the def tells tuples of ints -/
namespace L2
open PySem PySem.Spec PyProof.Rows
section
variable {X : Cx} {pins : List (Addr × Obj)} {σ : St} {H : Hp} {s : Shared} {h' : Heap}
/-- an untracked record of ours is changed, and tracked from here on -/
theorem Inv.adopt {t' : Nat} {l : Addr} {o : HO} (I : Inv X pins σ H s) (k : ∀ b u, b ≠ l → s.heap.get? b = some u → h'.get? b = some u) (hf : FpOk X pins H l)
    (new : ObjOk X.prog X.w (upd H l o) h' l o) : Inv X pins σ (upd H l o) { s with heap := h', toks := t' } := by
  obtain ⟨f0, f1, f2, f3, f4, f5⟩ := hf
  have out : ∀ b, b ∉ [l] → b ≠ l := fun b hb z => hb (by simp [z])
  refine I.step (g' := s.gens) (d' := s.drawn) (ch := [l]) (fun b hb => ?_) (fun b u _ _ hc e _ => k b u (out b hc) e) (fun b u _ _ hc e _ => ⟨u.slots, k b u (out b hc) e⟩)
    (fun b u hc _ n => by rw [upd_ne (out b hc)]; exact n) (fun b u hc e => ⟨u, k b u (out b hc) e⟩) (fun b xs e => by rw [upd_ne (ne_of_none e f0)]; exact e) (fun b u xs e => by rw [upd_ne (ne_of_none e f0)]; exact e)
    (fun b ps e => ⟨#[], by rw [upd_ne (ne_of_none e f0), e]; simp⟩) (fun m hm => ?_) (fun b u e => ?_) I.bare
  · obtain rfl : b = l := by simpa using hb
    exact ⟨f3, f1, f4, f5⟩
  · obtain ⟨ob, es, ep, ho, r⟩ := hm
    exact ⟨ob, es, ep, k _ ob (Ne.symm f1) ho, r⟩
  · by_cases hb : b = l
    · subst hb
      rw [upd_same] at e
      cases e
      exact new
    · rw [upd_ne hb] at e
      refine (I.hok b u e).stay (fun c v hc q => k c v ?_ q) (fun c q => by rw [upd_ne (ne_of_none q f0)]; exact q) fun c xs q => by rw [upd_ne (ne_of_none q f0)]; exact q
      rcases hc with z | z
      · rw [z]; exact hb
      · exact ne_of_none z f0
/-- a def runs two steps below -/
theorem run_in2 {k : Nat} {f : Addr} {fd : FuncData} {ps : List Str} {sp : Sp} {E' : Value → Shared → Prop} {Q : VK} {us : List Value} {vs : List V} (F : FnOk X.prog X.w X.K X.mg X.base CX0 k f fd ps sp) (hr : Room (k + 2) X.A)
    (hb : Binds X.K fd ps []) (I : Inv X pins σ H s) (r : Vals vs us) (h : sp vs H Q E0) : wpAny (model X.prog X.w) X.A.in1.in1 (call (.ref f) us) (EP X pins σ Q) E' s := by
  have hl : (us ++ []).length = ps.length := by rw [List.append_nil, ← r.length]; exact F.len _ _ _ _ h
  have b := hb s us I.kIn hl
  rw [List.append_nil] at b
  refine wpAny_call (codeAny_mono (F.run X.A.in1.in1 X.stack s H ⟨us, []⟩ us vs Q E0 hr.in1.in1 I.env0.in1.in1 b r h) fun res s' hq => ?_)
  cases res with
  | error e => exact False.elim hq
  | ok fl =>
    cases fl with
    | ret u => exact I.after hq
    | next => exact False.elim hq
    | brk => exact False.elim hq
    | cont => exact False.elim hq
/-- the end of a sorting by keys -/
theorem sort_tail {prog : Program} {w : World} {A : Around} {E : Value → Shared → Prop} {a kS : Addr} {ks : List Value} {e e1 : Nat} {st : SortSt} {R : PySem.Fin → Shared → Prop} (hk : s.heap.get? kS = some (seqObj "list" ks.toArray e))
    (ha : s.heap.get? a = some (seqObj "list" #[] e1)) (hne : kS ≠ a) (hz : ks.length < 64) (hp : (arrOf st).size < 64) (hf : failedOf st = none)
    (q : ∀ c, ((s.heap.update kS (Obj.mapSeq fun _ => #[])).update a (Obj.mapSeq fun _ => (arrOf st).map (·.2))).get? a = some (seqObj "list" ((arrOf st).map (·.2)) c) →
      R (.done (.ret .none)) { s with heap := (s.heap.update kS (Obj.mapSeq fun _ => #[])).update a (Obj.mapSeq fun _ => (arrOf st).map (·.2)) }) :
    wpAny (model prog w) A (ksk_tail a false e1 (.ref kS) st) R E s := by
  have ha1 : (s.heap.update kS (Obj.mapSeq fun _ => (#[] : Array Value))).get? a = some (seqObj "list" #[] e1) := (Heap.get?_update_other _ _ hne).trans ha
  unfold ksk_tail
  dsimp only
  refine wpAny_bind (listUpdate_at hk rfl (wpAny_bind (wpAny_letGo (wpAny_bind (seqEpoch_at ha1 rfl (wpAny_bind (listUpdate_at ha1 rfl ?_ (Nat.zero_le _) ?_)))))) ?_ (Nat.zero_le _))
  · rw [hf]
    simp only [bne_self_eq_false, Bool.false_eq_true, if_false]
    exact wpAny_pure (q _ (get?_update_seq ha1 fun _ => (arrOf st).map (·.2)))
  · simp only [Bool.false_eq_true, if_false, Array.size_map]
    rw [sizeLine_eq]
    omega
  · rw [List.size_toArray, sizeLine_eq]
    omega
end
theorem zip_get {α β : Type} : ∀ {l : List α} {r : List β} {p : α × β}, p ∈ l.zip r → ∃ j : Nat, l[j]? = some p.1 ∧ r[j]? = some p.2
  | [], _, p, h => by simp at h
  | _ :: _, [], p, h => by simp at h
  | a :: l, b :: r, p, h => by
    rw [List.zip_cons_cons] at h
    rcases List.mem_cons.mp h with rfl | h
    · exact ⟨0, rfl, rfl⟩
    · obtain ⟨j, h1, h2⟩ := zip_get h
      exact ⟨j + 1, by simpa using h1, by simpa using h2⟩
/-- keys made: they are sorted with their items -/
theorem sort_end {prog : Program} {w : World} {A : Around} {E : Value → Shared → Prop} {s : Shared} {a kS : Addr} {ts : List Addr} {its : List Value} {e e1 : Nat} {R : PySem.Fin → Shared → Prop} (hk : s.heap.get? kS = some (seqObj "list" (ts.map Value.ref).toArray e))
    (ha : s.heap.get? a = some (seqObj "list" #[] e1)) (hne : kS ≠ a) (hlen : ts.length = its.length) (h64 : its.length < 64) (hh : ∀ v ∈ ts.map Value.ref, Sr.Head s.heap v) (hkk : ∀ v ∈ ts.map Value.ref, ∃ ns, Sr.tupK s.heap v = some ns)
    (q : ∀ (xs : Array Keyed) (c : Nat), xs.Perm ((ts.map Value.ref).toArray.zip its.toArray) → SortedToK (Sr.kT s.heap) xs its.length →
      ((s.heap.update kS (Obj.mapSeq fun _ => #[])).update a (Obj.mapSeq fun _ => xs.map (·.2))).get? a = some (seqObj "list" (xs.map (·.2)) c) →
      R (.done (.ret .none)) { s with heap := (s.heap.update kS (Obj.mapSeq fun _ => #[])).update a (Obj.mapSeq fun _ => xs.map (·.2)) }) :
    wpAny (model prog w) A (ksk_end a false its.toArray e1 (.ref kS) (ts.map Value.ref).toArray) R E s := by
  have hzs : ((ts.map Value.ref).toArray.zip its.toArray).size = its.length := by rw [Array.size_zip, List.size_toArray, List.size_toArray, List.length_map, hlen, Nat.min_self]
  have hkl : (ts.map Value.ref).length < 64 := by rw [List.length_map]; omega
  unfold ksk_end
  dsimp only
  simp only [Bool.false_eq_true, if_false]
  by_cases h2 : its.toArray.size < 2
  · rw [if_pos h2, if_pos h2]
    refine wpAny_bind (wpAny_pure ?_)
    rw [StateT.run_pure]
    refine wpAny_bind (wpAny_pure ?_)
    dsimp only
    refine sort_tail (st := SortSt.mk' general' ((ts.map Value.ref).toArray.zip its.toArray) #[] 7 none) hk ha hne hkl (by show Array.size _ < 64; rw [hzs]; exact h64) rfl fun c hc => q _ c (Array.Perm.refl _) (fun i j hij hj => ?_) hc
    rw [List.size_toArray] at h2
    have e : i = j := by omega
    rw [e]
    exact KeyOrd.kle_refl _
  · rw [if_neg h2, if_neg h2]
    rw [List.size_toArray] at h2
    have nev : ts.map Value.ref ≠ [] := fun z => by
      have := congrArg List.length z
      rw [List.length_map] at this
      simp at this
      subst this
      simp at hlen
      omega
    refine wpAny_bind (Sr.kind_tup hh nev ?_)
    have hK : KeysOf (Sr.kT s.heap) ((ts.map Value.ref).toArray.zip its.toArray) := fun p hp => by
      rw [ksk_zip] at hp
      obtain ⟨j, h1, _⟩ := zip_get hp
      exact hkk _ (List.mem_of_getElem? h1)
    refine wpAny_bind (wpAny_mono (Sr.sort_runs (κ := Sr.kT s.heap) (kd := tuples' true) (o := (ts.map Value.ref).toArray.zip its.toArray) (st := SortSt.mk' (tuples' true) ((ts.map Value.ref).toArray.zip its.toArray) #[] 7 none)
      (Q := fun _ u => (arrOf u).Perm ((ts.map Value.ref).toArray.zip its.toArray) ∧ failedOf u = none ∧ SortedToK (Sr.kT s.heap) (arrOf u) ((ts.map Value.ref).toArray.zip its.toArray).size) (Sr.tells_tup (s := s) true) hK ⟨Array.Perm.refl _, rfl, rfl, rfl⟩
      (by rw [hzs]; omega) (by rw [hzs]; exact h64) fun u h1 h2 h3 => ⟨h1, h2, h3⟩) ?_ fun _ _ z => z)
    rintro ⟨⟨⟩, u⟩ s' ⟨rfl, hp, hf, hs⟩
    dsimp only
    rw [hzs] at hs
    exact sort_tail hk ha hne hkl (by rw [hp.size_eq, hzs]; exact h64) hf fun c hc => q _ c hp hs hc
def rSortK (K : PySem.W.Frag) (sp : Sp) : V → Hp → VK → Prop := fun x H Q => ∃ (p : Addr) (xs : List V) (key : V → List Int), x = .ref p ∧ SqL K H p xs ∧ xs.length < 64 ∧ (∀ v, key v ≠ []) ∧
  (∀ v ∈ xs, ∀ H1, Same H H1 → sp [v] H1 (fun r H2 => Same H1 H2 ∧ ∃ t, r = .ref t ∧ H2 t = some (.tup ((key v).map V.int))) E0) ∧
  ∀ (l : Addr) (ys : List V) (H1 : Hp), H l = none → Same H H1 → H1 l = some (.lst ys) → ys.Perm xs → ys.Pairwise (fun a b => HT.lexLt (key b) (key a) = false) → Q (.ref l) H1
section
variable {X : Cx} {k : Nat} {f : Addr} {fd : FuncData} {ps : List Str} {sp : Sp}
/-- the keys stand -/
structure KeysAre (key : V → List Int) (H : Hp) (xs : List V) (ts : List Addr) : Prop where
  len : ts.length ≤ xs.length
  at_ : ∀ (j : Nat) t v, ts[j]? = some t → xs[j]? = some v → H t = some (.tup ((key v).map V.int))
theorem zip3 : ∀ (ts : List Addr) (xs : List V) (its : List Value), ts.length = its.length → xs.length = its.length → (ts.map Value.ref).zip its = (ts.zip (xs.zip its)).map fun z => (Value.ref z.1, z.2.2)
  | [], _, _, _, _ => by simp
  | _ :: _, _, [], h, _ => absurd h (by simp)
  | _ :: _, [], _ :: _, _, h => absurd h (by simp)
  | t :: ts, x :: xs, i :: its, h1, h2 => by
    have := zip3 ts xs its (by simpa using h1) (by simpa using h2)
    simp [this]
theorem zip3_mid : ∀ (ts : List Addr) (xs : List V) (its : List Value), ts.length = its.length → xs.length = its.length → (ts.zip (xs.zip its)).map (fun z => z.2.1) = xs
  | [], xs, its, h1, h2 => by
    have e : its.length = 0 := h1.symm
    have e2 : xs = [] := List.eq_nil_of_length_eq_zero (by omega)
    rw [e2]
    rfl
  | _ :: _, _, [], h, _ => absurd h (by simp)
  | _ :: _, [], _ :: _, _, h => absurd h (by simp)
  | t :: ts, x :: xs, i :: its, h1, h2 => by
    have := zip3_mid ts xs its (by simpa using h1) (by simpa using h2)
    simp [this]
theorem zip3_get {ts : List Addr} {xs : List V} {its : List Value} {z : Addr × V × Value} (h : z ∈ ts.zip (xs.zip its)) : ∃ j : Nat, ts[j]? = some z.1 ∧ xs[j]? = some z.2.1 ∧ its[j]? = some z.2.2 := by
  obtain ⟨j, h1, h2⟩ := zip_get h
  refine ⟨j, h1, ?_⟩
  rw [List.getElem?_zip_eq_some] at h2
  exact h2
theorem vals_back : ∀ {xs : List V} {us : List Value} {j : Nat} {u : Value}, Vals xs us → us[j]? = some u → ∃ v, xs[j]? = some v ∧ RelV v u
  | _, _, _, _, .nil, e => by simp at e
  | _, _, 0, _, .cons r _, e => by simp at e; subst e; exact ⟨_, rfl, r⟩
  | _, _, j + 1, u, .cons _ t, e => by
    obtain ⟨v, h1, h2⟩ := vals_back (j := j) (u := u) t (by simpa using e)
    exact ⟨v, by simpa using h1, h2⟩
theorem vals_of_rel : ∀ {xs : List (V × Value)}, (∀ p ∈ xs, RelV p.1 p.2) → Vals (xs.map (·.1)) (xs.map (·.2))
  | [], _ => .nil
  | p :: r, h => .cons (h p List.mem_cons_self) (vals_of_rel fun q hq => h q (List.mem_cons_of_mem _ hq))
theorem call_sortK {pins : List (Addr × Obj)} {σ : St} {H : Hp} {s : Shared} {Q : VK} {x : V} {u : Value} (F : FnOk X.prog X.w X.K X.mg X.base CX0 k f fd ps sp) (hr : Room (k + 2) X.A) (hb : Binds X.K fd ps [])
    (I : Inv X pins σ H s) (rx : RelV x u) (h : rSortK X.K sp x H Q) : wpAny (model X.prog X.w) X.A (call (.builtin "sorted") [u] [(Str.ofString "key", .ref f)]) (EP X pins σ Q) X.xe s := by
  obtain ⟨p, xs, key, rfl, hq, h64x, hne, hsp, q⟩ := h
  cases rx
  obtain ⟨its, rv, pl, hz⟩ := I.list hq
  have hlen := rv.length
  have h64 : its.length < 64 := by omega
  refine call_function_entry_kw kind_sorted plain_sorted entry_sorted (ksk_s1 _ _) ?_
  unfold Builtin.«sorted»
  refine wpAny_bind (m := checkCount "sorted" 1 1 _) (wpAny_pure (wpAny_bind (collect_list pl.isList (wpAny_bind (wpAny_newList ?_)))))
  generalize hg : (s.heap.push (seqObj "list" #[] 0)).update s.heap.objs.size (Obj.mapSeq (· ++ its.toArray)) = g
  have zg : g.objs.size = s.heap.objs.size + 1 := by rw [← hg, Heap.size_update, size_push']
  have og : ∀ b o, s.heap.get? b = some o → g.get? b = some o := fun b o e => by
    rw [← hg]
    exact (Heap.get?_update_other _ _ (Nat.ne_of_gt (Heap.lt_size e))).trans (Heap.get?_push_of_some _ e)
  show wpAny _ _ _ _ _ { s with heap := g.push (seqObj "list" its.toArray 0) }
  rw [zg]
  have hoL : (g.push (seqObj "list" its.toArray 0)).get? (s.heap.objs.size + 1) = some (seqObj "list" its.toArray 0) := by rw [← zg]; exact Heap.get?_push_size _ rfl
  have ol : ∀ b o, s.heap.get? b = some o → (g.push (seqObj "list" its.toArray 0)).get? b = some o := fun b o e => Heap.get?_push_of_some _ (og b o e)
  refine wpAny_bind (wpAny_holding (wpAny_call_entry_kw slot_list_sort ⟨_, hoL, rfl⟩ entry_list_sort ?_ (ksk_l1 _ _)))
  show wpAny (model X.prog X.w) X.A.in1.in1 (Builtin.«list.sort» ⟨[.ref (s.heap.objs.size + 1)], [(Str.ofString "key", .ref f)]⟩) _ _ _
  rw [ksk_t1]
  unfold ksk_tree
  refine wpAny_bind (listItems_at hoL rfl (wpAny_bind (listUpdate_at hoL rfl ?_)))
  obtain ⟨e1, ho1⟩ : ∃ e1, ((g.push (seqObj "list" its.toArray 0)).update (s.heap.objs.size + 1) (Obj.mapSeq fun _ => #[])).get? (s.heap.objs.size + 1) = some (seqObj "list" #[] e1) := ⟨_, get?_update_seq hoL (fun _ => #[])⟩
  refine wpAny_bind (seqEpoch_at ho1 rfl (wpAny_bind (wpAny_newTuple (wpAny_bind (wpAny_newList (wpAny_holding ?_))))))
  have zk : (((g.push (seqObj "list" its.toArray 0)).update (s.heap.objs.size + 1) (Obj.mapSeq fun _ => #[])).push (seqObj "tuple" its.toArray 0)).objs.size = s.heap.objs.size + 3 := by
    rw [size_push', Heap.size_update, size_push', zg]
  have hk0 : ((((g.push (seqObj "list" its.toArray 0)).update (s.heap.objs.size + 1) (Obj.mapSeq fun _ => #[])).push (seqObj "tuple" its.toArray 0)).push (seqObj "list" #[] 0)).get? (s.heap.objs.size + 3) = some (seqObj "list" #[] 0) := by
    rw [← zk]; exact Heap.get?_push_size _ rfl
  have ha0 : ((((g.push (seqObj "list" its.toArray 0)).update (s.heap.objs.size + 1) (Obj.mapSeq fun _ => #[])).push (seqObj "tuple" its.toArray 0)).push (seqObj "list" #[] 0)).get? (s.heap.objs.size + 1) = some (seqObj "list" #[] e1) :=
    Heap.get?_push_of_some _ (Heap.get?_push_of_some _ ho1)
  have o2 : ∀ b o, s.heap.get? b = some o → ((((g.push (seqObj "list" its.toArray 0)).update (s.heap.objs.size + 1) (Obj.mapSeq fun _ => #[])).push (seqObj "tuple" its.toArray 0)).push (seqObj "list" #[] 0)).get? b = some o := fun b o e =>
    Heap.get?_push_of_some _ (Heap.get?_push_of_some _ ((Heap.get?_update_other _ _ (Nat.ne_of_gt (Nat.lt_succ_of_lt (Heap.lt_size e)))).trans (ol b o e)))
  show wpAny (model X.prog X.w) X.A.in1.in1 (ksk_rest (s.heap.objs.size + 1) (.ref f) false its.toArray e1 (.ref (((g.push (seqObj "list" its.toArray 0)).update (s.heap.objs.size + 1) (Obj.mapSeq fun _ => #[])).push (seqObj "tuple" its.toArray 0)).objs.size)) _ _
    { s with heap := ((((g.push (seqObj "list" its.toArray 0)).update (s.heap.objs.size + 1) (Obj.mapSeq fun _ => #[])).push (seqObj "tuple" its.toArray 0)).push (seqObj "list" #[] 0)) }
  rw [zk]
  generalize hg2 : (((g.push (seqObj "list" its.toArray 0)).update (s.heap.objs.size + 1) (Obj.mapSeq fun _ => #[])).push (seqObj "tuple" its.toArray 0)).push (seqObj "list" #[] 0) = g2 at hk0 ha0 o2 ⊢
  have I2 : Inv X pins σ H { s with heap := g2 } := I.kept (t' := s.toks) o2
  have nL : H (s.heap.objs.size + 1) = none := I.hok.fresh (Nat.le_succ _)
  have nK : H (s.heap.objs.size + 3) = none := I.hok.fresh (by omega)
  have fL : ∀ {H1 : Hp}, H1 (s.heap.objs.size + 1) = none → FpOk X pins H1 (s.heap.objs.size + 1) := fun e => I.fpOk (Nat.le_succ _) e
  have fK : ∀ {H1 : Hp}, H1 (s.heap.objs.size + 3) = none → FpOk X pins H1 (s.heap.objs.size + 3) := fun e => I.fpOk (by omega) e
  have eKL : s.heap.objs.size + 3 ≠ s.heap.objs.size + 1 := by omega
  unfold ksk_rest
  refine wpAny_bind (wpAny_rule ?_)
  rw [List.forIn_toArray]
  refine wpAny_bind (ksk_fold (fun i s1 => ∃ (H1 : Hp) (ts : List Addr) (e : Nat), Inv X pins σ H1 s1 ∧ Same H H1 ∧ H1 (s.heap.objs.size + 1) = none ∧ H1 (s.heap.objs.size + 3) = none ∧ s1.heap.get? (s.heap.objs.size + 1) = some (seqObj "list" #[] e1) ∧
      s1.heap.get? (s.heap.objs.size + 3) = some (seqObj "list" (ts.map Value.ref).toArray e) ∧ ts.length = i ∧ KeysAre key H1 xs ts) its 0 { s with heap := g2 } ⟨H, [], 0, I2, Same.refl _, nL, nK, ha0, hk0, rfl, ⟨Nat.zero_le _, fun j t v e => by simp at e⟩⟩ ?_ ?_)
  · rintro j y s1 hy ⟨H1, ts, e, I1, hs1, n1, n3, hL1, hK1, htl, hks⟩
    rw [Nat.zero_add] at htl
    obtain ⟨v, hv, rvy⟩ := vals_back rv hy
    have hj : j < xs.length := (List.getElem?_eq_some_iff.mp hv).1
    have Ip := I1.pinned (fp := [s.heap.objs.size + 1, s.heap.objs.size + 3]) (fun b hb => by
      rcases List.mem_cons.mp hb with rfl | hb
      · exact fL n1
      · rw [List.mem_singleton.mp hb]; exact fK n3) (fun b hb => by
      rcases List.mem_cons.mp hb with rfl | hb
      · exact ⟨_, hL1, fun v z => by cases z⟩
      · rw [List.mem_singleton.mp hb]; exact ⟨_, hK1, fun v z => by cases z⟩)
    refine wpAny_bind (wpAny_attempt (wpAny_mono (run_in2 (E' := fun _ _ => False) F hr hb Ip (.cons rvy .nil) (hsp v (List.mem_of_getElem? hv) H1 hs1)) (fun r s2 he => ?_) fun _ _ z => z.elim))
    obtain ⟨rV, H2, Iq, rr, hs2, t, rfl, ht⟩ := he
    cases rr
    have pL := Iq.pin (s.heap.objs.size + 1, _) (List.mem_append_right _ (List.mem_append_right _ (mem_pinsAt List.mem_cons_self hL1)))
    have pK := Iq.pin (s.heap.objs.size + 3, _) (List.mem_append_right _ (List.mem_append_right _ (mem_pinsAt (List.mem_cons_of_mem _ List.mem_cons_self) hK1)))
    dsimp only
    have hK2 : s2.heap.get? (s.heap.objs.size + 3) = some (seqObj "list" (ts.map Value.ref).toArray e) := pK.1
    have hL2 : s2.heap.get? (s.heap.objs.size + 1) = some (seqObj "list" #[] e1) := pL.1
    refine wpAny_bind (listUpdate_at hK2 rfl ?_ (by rw [List.size_toArray, List.length_map, sizeLine_eq]; omega) (by rw [Array.size_push, List.size_toArray, List.length_map, sizeLine_eq]; omega))
    obtain ⟨f0, f1, f2, f3, f4, f5⟩ := fK pK.2.1
    obtain ⟨c2, hc2⟩ : ∃ c2, (s2.heap.update (s.heap.objs.size + 3) (Obj.mapSeq (·.push (.ref t)))).get? (s.heap.objs.size + 3) = some (seqObj "list" ((ts ++ [t]).map Value.ref).toArray c2) := by
      have e3 : (ts.map Value.ref).toArray.push (Value.ref t) = ((ts ++ [t]).map Value.ref).toArray := by simp
      have z := get?_update_seq hK2 (·.push (.ref t))
      simp only [e3] at z
      exact ⟨_, z⟩
    refine wpAny_pure ⟨rfl, H2, ts ++ [t], c2, Iq.unpinned.turned (it := s.heap.objs.size + 3) (t' := s2.toks) (fun b o hb e => (Heap.get?_update_other _ _ (Ne.symm hb)).trans e) f0 f1 f3 f4 f5, hs1.trans hs2, pL.2.1, pK.2.1,
      (Heap.get?_update_other _ _ eKL).trans hL2, hc2, by rw [List.length_append, htl, Nat.zero_add]; rfl, ?_⟩
    · refine ⟨by rw [List.length_append]; exact (by rw [htl]; exact hj), fun i t' v' e1' e2' => ?_⟩
      by_cases hi : i < ts.length
      · rw [List.getElem?_append_left hi] at e1'
        exact hs2 _ _ (hks.at_ i t' v' e1' e2')
      · have hi2 : i = ts.length := by
          have := (List.getElem?_eq_some_iff.mp e1').1
          rw [List.length_append] at this
          have : i < ts.length + 1 := this
          omega
        subst hi2
        rw [List.getElem?_append_right (Nat.le_refl _), Nat.sub_self] at e1'
        have e3 : t = t' := by simpa using e1'
        subst e3
        rw [htl, hv] at e2'
        cases e2'
        exact ht
  · rintro s1 ⟨H1, ts, e, I1, hs1, n1, n3, hL1, hK1, htl, hks⟩
    rw [Nat.zero_add] at htl
    refine wpAny_bind (listItems_at hK1 rfl ?_)
    have tup : ∀ (j : Nat) t v, ts[j]? = some t → xs[j]? = some v → ∃ vs, IsTup s1.heap t vs.toArray ∧ IntsAre vs (key v) := fun j t v h1 h2 => by
      obtain ⟨vs, r2, p2, _⟩ := I1.tuple (SqT.of (hks.at_ j t v h1 h2))
      exact ⟨vs, p2, intsAre_of r2⟩
    have tkey : ∀ (j : Nat) t v, ts[j]? = some t → xs[j]? = some v → Sr.tupK s1.heap (.ref t) = some (key v) := fun j t v h1 h2 => by
      obtain ⟨vs, p2, i2⟩ := tup j t v h1 h2
      exact Sr.tupK_of p2 (by simpa using i2)
    have mate : ∀ v ∈ ts.map Value.ref, ∃ (j : Nat) (t : Addr) (x : V), v = .ref t ∧ ts[j]? = some t ∧ xs[j]? = some x := fun v hv => by
      obtain ⟨t, ht, rfl⟩ := List.mem_map.mp hv
      obtain ⟨j, hj, e⟩ := List.getElem_of_mem ht
      exact ⟨j, t, xs[j]'(by omega), rfl, by rw [List.getElem?_eq_getElem hj, e], List.getElem?_eq_getElem (by omega)⟩
    refine sort_end hK1 hL1 eKL htl h64 (fun v hv => ?_) (fun v hv => ?_) fun ks c hp hsd hout => ?_
    · obtain ⟨j, t, x, rfl, h1, h2⟩ := mate v hv
      obtain ⟨vs, p2, i2⟩ := tup j t x h1 h2
      have hn := hne x
      generalize key x = kx at i2 hn
      cases i2 with
      | nil => exact absurd rfl hn
      | cons m tk r2 => exact ⟨t, _, m, tk, _, rfl, p2, rfl⟩
    · obtain ⟨j, t, x, rfl, h1, h2⟩ := mate v hv
      exact ⟨_, tkey j t x h1 h2⟩
    · have hz3 := zip3 ts xs its htl hlen
      have pl2 : ks.toList.Perm ((ts.zip (xs.zip its)).map fun z => (Value.ref z.1, z.2.2)) := by
        rw [← hz3, ← ksk_zip]
        have := Array.perm_iff_toList_perm.mp hp
        exact this
      obtain ⟨L, pL, eL⟩ := Sr.perm_map_inv pl2
      have at3 : ∀ z ∈ L, ∃ j : Nat, ts[j]? = some z.1 ∧ xs[j]? = some z.2.1 ∧ its[j]? = some z.2.2 := fun z hz => zip3_get (pL.mem_iff.mp hz)
      have hxs : (ts.zip (xs.zip its)).map (fun z => z.2.1) = xs := zip3_mid ts xs its htl hlen
      have hout' : (ks.map (·.2)) = (L.map fun z => z.2.2).toArray := by
        apply Array.toList_inj.mp
        rw [Array.toList_map, eL, List.map_map]
        rfl
      have hvals : Vals (L.map fun z => z.2.1) (L.map fun z => z.2.2) := by
        have h0 : ∀ p ∈ L.map (fun z => z.2), RelV p.1 p.2 := fun p hp => by
          obtain ⟨z, hz, rfl⟩ := List.mem_map.mp hp
          obtain ⟨j, _, h2, h3⟩ := at3 z hz
          obtain ⟨u, h4, h5⟩ := rv.get h2
          rw [h3] at h4
          cases h4
          exact h5
        have := vals_of_rel h0
        rw [List.map_map, List.map_map] at this
        exact this
      have hLl : L.length = its.length := by
        rw [pL.length_eq, List.length_zip, List.length_zip]
        omega
      have hksz : ks.size = L.length := by
        have := congrArg List.length eL
        rw [List.length_map] at this
        simpa using this
      have srt : (L.map fun z => z.2.1).Pairwise (fun a b => HT.lexLt (key b) (key a) = false) := by
        rw [List.pairwise_map, List.pairwise_iff_getElem]
        intro i j hi hj hij
        have h3 := hsd i j (Nat.le_of_lt hij) (by omega)
        have kk : ∀ m (hm : m < L.length), KK (Sr.kT s1.heap) ks m = key L[m].2.1 := fun m hm => by
          have hm2 : m < ks.size := by omega
          have e := getElem?_pos ks m hm2
          have e2 : ks[m] = (Value.ref L[m].1, L[m].2.2) := by
            have e3 : ks.toList[m]? = some (Value.ref L[m].1, L[m].2.2) := by rw [eL, List.getElem?_map, List.getElem?_eq_getElem hm] <;> rfl
            have e4 : ks.toList[m]? = some ks[m] := by rw [Array.getElem?_toList]; exact e
            rw [e4] at e3
            exact Option.some.inj e3
          obtain ⟨jj, h1, h2, _⟩ := at3 L[m] (List.getElem_mem hm)
          simp only [KK, e, e2]
          show (Sr.tupK s1.heap (Value.ref L[m].1)).getD [] = _
          rw [tkey jj _ _ h1 h2]
          rfl
        rw [kk i hi, kk j hj] at h3
        exact h3
      obtain ⟨f0, f1, f2, f3, f4, f5⟩ := fK n3
      have I3 : Inv X pins σ H1 { s1 with heap := s1.heap.update (s.heap.objs.size + 3) (Obj.mapSeq fun _ => #[]) } := I1.turned (it := s.heap.objs.size + 3) (t' := s1.toks) (fun b o hb e => (Heap.get?_update_other _ _ (Ne.symm hb)).trans e) f0 f1 f3 f4 f5
      have I4 := I3.adopt (t' := s1.toks) (l := s.heap.objs.size + 1) (o := .lst (L.map fun z => z.2.1)) (h' := (s1.heap.update (s.heap.objs.size + 3) (Obj.mapSeq fun _ => #[])).update (s.heap.objs.size + 1) (Obj.mapSeq fun _ => ks.map (·.2)))
        (fun b o hb e => (Heap.get?_update_other _ _ (Ne.symm hb)).trans e) (fL n1) ⟨smallL (by rw [List.length_map]; omega), L.map (fun z => z.2.2), c, hvals, by rw [hout, hout']⟩
      refine ⟨_, rfl, wpAny_pure ⟨_, rfl, .ref (s.heap.objs.size + 1), _, I4, rfl, ?_⟩⟩
      refine q _ _ _ nL (same_add hs1 n1) upd_same ?_ srt
      have := pL.map (fun z : Addr × V × Value => z.2.1)
      rw [hxs] at this
      exact this
/-- sorted(e, key=x) -/
theorem pe_sortK {j : Nat} {x : Str} {st : Stmt} {e : Expr} {te : TE} {p p2 pos kpos : Pos} (d : D X.K X.mg x st ps f fd) (F : FnOk X.prog X.w X.K X.mg X.base CX0 j f fd ps sp) (hr : Room k X.A) (hg : Gl X "sorted") (hm : X.mg "sorted" = none) (hgx : Gl X x) (he : PE X e te)
    (hjk : j + 2 ≤ k) (hdb : (x == ("__debug__" : Str)) = false) (h1 : backTo pos (starEach [e] X.env) = (false, eval e X.env) :: backTo pos (starEach [] X.env)) (h2 : (backTo pos (starEach [e] X.env)).any (·.1) = false) (h3 : starEach [e] X.env = (false, eval e X.env) :: starEach [] X.env) :
    PE X (.Call (.Name "sorted" p) [e] [⟨some "key", .Name x p2, kpos⟩] pos) (fun σ H Q => te σ H fun v H1 => rSortK X.K sp v H1 Q) := by
  intro pins s σ H Q I h
  refine wpAny_Call_Name_kw (ld_blt I hg hm bt_sorted ?_ (by decide) (by decide))
  refine callWith_kw (thn ((pa_cons he pa_nil h3) pos pins s σ H (fun vs H1 => match vs with | [v] => rSortK X.K sp v H1 Q | _ => False) I h) fun us s1 ⟨vs, H1, I1, r1, q1⟩ => ?_) h1 h2
  match vs, r1, q1 with
  | [], _, q1 => exact q1.elim
  | _ :: _ :: _, _, q1 => exact q1.elim
  | [v], r1, q1 =>
  obtain ⟨u, rfl, ru⟩ := vals1 r1
  refine thn ((pk_cons (pe_glob (v := .ref f) hgx d.mg rfl hdb) pk_nil) pos pins s1 σ H1 (fun zs H2 => zs = [.ref f] ∧ H2 = H1) I1 ⟨rfl, rfl⟩) fun ws s2 ⟨zs, H2, I2, rz, e1, e2⟩ => ?_
  subst e1 e2
  obtain ⟨w', rfl, rw'⟩ := vals1 rz
  cases rw'
  exact call_sortK F (hr.mono hjk) (.all d.ba) I2 ru q1
end
end L2

/-! ### sorted by keys, with the written part named -/
namespace L2
open PySem PySem.Spec PyProof.Rows
section
variable {X : Cx} (K : PySem.W.Frag) (hK : X.K = K)
include hK
theorem kpe_sortK {k j : Nat} {f : Addr} {fd : FuncData} {ps : List Str} {sp : Sp} {x : Str} {st : Stmt} {e : Expr} {te : TE} {p p2 pos kpos : Pos} (d : D X.K X.mg x st ps f fd) (F : FnOk X.prog X.w X.K X.mg X.base CX0 j f fd ps sp) (hr : Room k X.A) (hg : Gl X "sorted")
    (hm : X.mg "sorted" = none) (hgx : Gl X x) (he : PE X e te) (hjk : j + 2 ≤ k := by decide) (hdb : (x == ("__debug__" : Str)) = false := by decide)
    (h1 : backTo pos (starEach [e] X.env) = (false, eval e X.env) :: backTo pos (starEach [] X.env) := by rfl) (h2 : (backTo pos (starEach [e] X.env)).any (·.1) = false := by rfl) (h3 : starEach [e] X.env = (false, eval e X.env) :: starEach [] X.env := by rfl) :
    PE X (.Call (.Name "sorted" p) [e] [⟨some "key", .Name x p2, kpos⟩] pos) (fun σ H Q => te σ H fun v H1 => rSortK K sp v H1 Q) := by subst hK; exact pe_sortK d F hr hg hm hgx he hjk hdb h1 h2 h3
end
end L2
namespace L2
open PySem PySem.Spec PyProof.Rows
theorem cut_from (zs : List Int) (n : Nat) (h : n ≤ zs.length) : cutV (zs.map V.int) (some (n : Int)) none = (zs.drop n).map V.int := by
  unfold cutV
  rw [HT.sIx_none, HT.sIx_nat, List.length_map, Nat.min_eq_left h, ← List.map_drop, List.take_of_length_le]
  rw [List.length_map, List.length_drop]
  exact Nat.le_refl _
end L2

/-! ### range objects, sets of ints -/
namespace L2
open PySem PySem.Spec PyProof.Rows
section
variable {X : Cx}
theorem rng_has {prog : Program} {w : World} {A : Around} {E : Value → Shared → Prop} {s : Shared} {p : Addr} {lo hi i : Int} {t u v t' : Tok} {Q : Value → Shared → Prop}
    (ho : s.heap.get? p = some { cls := .type "range", data := .fields #[.int lo t, .int hi u, .int 1 v] }) (q : Q (.bool (decide (lo ≤ i ∧ i < hi))) s) :
    wpAny (model prog w) A (call (.builtin "range.__contains__") [.ref p, .int i t']) Q E s := by
  refine wpAny_call_entry PySem.F.slot_range_contains (show s.TypeIs (.ref p) "range" from ⟨_, ho, rfl⟩) PySem.F.entry_range_contains ?_ (PySem.F.args_range_contains_2 _ _)
  unfold Builtin.«range.__contains__»
  refine wpAny_bind (m := slotArgs "__contains__" 1 _) (wpAny_pure ?_)
  dsimp only [Builtin.Range.rangeExactInt?]
  refine wpAny_bind (wpAny_rule ?_)
  refine wpAny_bind ?_
  unfold Builtin.Range.rangeFields
  refine wpAny_bind (wpAny_field ho rfl rfl (wpAny_bind (wpAny_pure (wpAny_bind (wpAny_field ho rfl rfl (wpAny_bind (wpAny_pure (wpAny_bind (wpAny_field ho rfl rfl (wpAny_bind (wpAny_pure (wpAny_pure ?_))))))))))))
  have e : (Builtin.Range.rangePlace? lo hi 1 i).isSome = decide (lo ≤ i ∧ i < hi) := by
    unfold Builtin.Range.rangePlace?
    simp only [show (1 : Int) > 0 by decide, if_true, Int.emod_one, beq_self_eq_true, Bool.and_true]
    by_cases h : lo ≤ i ∧ i < hi
    · rw [if_pos (by simp [h]), decide_eq_true h]
      rfl
    · rw [if_neg (by simpa using h), decide_eq_false h]
      rfl
  dsimp only
  rw [e]
  exact wpAny_pure ⟨_, rfl, q⟩
theorem op_in_rng : OpR X (compareOp .In) (fun x y H Q => ∃ i p lo hi, x = .int i ∧ y = .ref p ∧ H p = some (.rng lo hi) ∧ Q (.bl (decide (lo ≤ i ∧ i < hi))) H) := by
  intro pins s σ H x y v u Q I rx ry h
  obtain ⟨i, p, lo, hi, rfl, rfl, hp, q⟩ := h
  obtain ⟨t, rfl⟩ := rx
  cases ry
  obtain ⟨t1, t2, t3, ho⟩ := I.hok p _ hp
  exact In_slot (show s.TypeIs (.ref p) "range" from ⟨_, ho, rfl⟩) PySem.F.slot_range_contains (rng_has ho (wpAny_truthy_bool ⟨.bl _, H, I, rfl, q⟩))
theorem op_notIn_rng : OpR X (compareOp .NotIn) (fun x y H Q => ∃ i p lo hi, x = .int i ∧ y = .ref p ∧ H p = some (.rng lo hi) ∧ Q (.bl (!decide (lo ≤ i ∧ i < hi))) H) := by
  intro pins s σ H x y v u Q I rx ry h
  obtain ⟨i, p, lo, hi, rfl, rfl, hp, q⟩ := h
  obtain ⟨t, rfl⟩ := rx
  cases ry
  obtain ⟨t1, t2, t3, ho⟩ := I.hok p _ hp
  exact NotIn_slot (show s.TypeIs (.ref p) "range" from ⟨_, ho, rfl⟩) PySem.F.slot_range_contains (rng_has ho (wpAny_truthy_bool ⟨.bl _, H, I, rfl, q⟩))
theorem call_rng1 : CallR X (.type "range") (fun xs H Q => ∃ j : Int, xs = [.int j] ∧ ∀ p, H p = none → Q (.ref p) (upd H p (.rng 0 j))) := by
  intro pins s σ H xs us Q I r h
  obtain ⟨j, rfl, q⟩ := h
  obtain ⟨u, rfl, t, rfl⟩ := vals1 r
  exact call_range_1 ⟨.ref s.heap.objs.size, _, I.laid (o := .rng 0 j) (fun b o e => Heap.get?_push_of_some _ e) (Nat.le_refl _) ⟨_, _, _, Heap.get?_push_size _ rfl⟩, rfl, q _ I.fresh⟩
theorem call_rng2 : CallR X (.type "range") (fun xs H Q => ∃ i j : Int, xs = [.int i, .int j] ∧ ∀ p, H p = none → Q (.ref p) (upd H p (.rng i j))) := by
  intro pins s σ H xs us Q I r h
  obtain ⟨i, j, rfl, q⟩ := h
  obtain ⟨u, w, rfl, ⟨t, rfl⟩, ⟨t', rfl⟩⟩ := vals2 r
  exact call_range_2 ⟨.ref s.heap.objs.size, _, I.laid (o := .rng i j) (fun b o e => Heap.get?_push_of_some _ e) (Nat.le_refl _) ⟨_, _, _, Heap.get?_push_size _ rfl⟩, rfl, q _ I.fresh⟩
theorem bt_range : bootBuiltins "range" = some (.type "range") := boot_range
/-- the members of a list, each once -/
def once (ns : List Int) : List Int := PyProof.Rows.firstMet (fun i => ns.getD i 0) ns.length
def rSet (K : PySem.W.Frag) : List V → Hp → VK → Prop := fun xs H Q => ∃ p ns, xs = [.ref p] ∧ SqL K H p (ns.map V.int) ∧ ns.length + 1 < scanBound ∧ ∀ l, H l = none → Q (.ref l) (upd H l (.set (fun k => (once ns).any (· == k)) (once ns).length))
theorem call_setI (hc : X.calm = true) : CallR X (.type "set") (rSet X.K) := by
  intro pins s σ H xs us Q I r h
  obtain ⟨p, ns, rfl, hq, hb, q⟩ := h
  obtain ⟨u, rfl, ru⟩ := vals1 r
  cases ru
  obtain ⟨its, rv, pl, hz⟩ := I.list hq
  have hi : IntsAre its ns := intsAre_of rv
  have hl : its.toArray.size = ns.length := by rw [List.size_toArray]; exact hi.length
  refine call_set_list (I.ok.hd hc) pl.isList (by simpa using hi) (by rw [hl]; exact hb) fun h' tk hS hk => ?_
  rw [hl] at hS
  exact ⟨.ref s.heap.objs.size, _, I.laid (o := .set (fun k => (once ns).any (· == k)) (once ns).length) (fun b o e => hk b o (Heap.lt_size e) e) (Nat.le_refl _) hS, rfl, q _ I.fresh⟩
theorem call_len_setR : CallR X (.builtin "len") (fun xs H Q => ∃ p S n, xs = [.ref p] ∧ H p = some (.set S n) ∧ Q (.int (n : Nat)) H) := by
  intro pins s σ H xs us Q I r h
  obtain ⟨p, S, n, rfl, hp, q⟩ := h
  obtain ⟨u, rfl, ru⟩ := vals1 r
  cases ru
  obtain ⟨o, es, ep, t, ho, hex, hd, _, _, hb, hf, hn⟩ := I.hok p _ hp
  have hz := fits_of_scanBound hb
  subst hn
  exact call_len_set ho hex hd hf (by rw [sizeLine_eq] at hz; omega) ⟨.int (es.size : Nat), H, I.tok _, ⟨_, rfl⟩, q⟩
end
section
variable {X : Cx} (K : PySem.W.Frag) (hK : X.K = K)
include hK
theorem kset (hc : X.calm = true) : CallR X (.type "set") (rSet K) := by subst hK; exact call_setI hc
end
end L2
namespace L2
open PySem PySem.Spec PyProof.Rows
theorem cut_from1 (zs : List Int) (n : Nat) (h : n < zs.length) : cutV (zs.map V.int) (some ((n : Int) + 1)) none = (zs.drop (n + 1)).map V.int := cut_from zs (n + 1) h
end L2
namespace Mt
open PySem L2
/-- no code stands behind one that has all its teeth -/
def Fit (cs : List Int) : Prop := ∀ (j k : Nat) c d, j < k → cs[j]? = some c → cs[k]? = some d → has c d = false
theorem falls_spec {cs : List Int} {t : Int} {i : Nat} (h : falls cs t = some i) : (∃ c, cs[i]? = some c ∧ has c t = true) ∧ ∀ (j : Nat) c, j < i → cs[j]? = some c → has c t = false := by
  unfold falls at h
  obtain ⟨hi, h1, h2⟩ := List.findIdx?_eq_some_iff_getElem.mp h
  refine ⟨⟨cs[i], List.getElem?_eq_getElem hi, h1⟩, fun j c hj hc => ?_⟩
  obtain ⟨hj', e⟩ := List.getElem?_eq_some_iff.mp hc
  have := h2 j hj
  rw [e] at this
  cases q : has c t with
  | false => rfl
  | true => exact absurd q this
theorem wf_nil_iff (cs : List Int) : wf cs = [] ↔ Fit cs := by
  unfold wf
  rw [List.filter_eq_nil_iff]
  constructor
  · intro h j k c d hjk hj hk
    obtain ⟨hk', ek⟩ := List.getElem?_eq_some_iff.mp hk
    have hm : pairAt cs k ∈ pairs cs := List.mem_map_of_mem (List.mem_range.mpr hk')
    have h1 := h _ hm
    have e : pairAt cs k = (k, falls cs d) := by
      unfold pairAt
      rw [List.getD_eq_getElem?_getD, hk]
      rfl
    rw [e] at h1
    have h2 : V.int (k : Int) = optV (falls cs d) := by
      have h3 : ¬ (!decide (V.int (k : Int) = optV (falls cs d))) = true := h1
      by_cases z : V.int (k : Int) = optV (falls cs d)
      · exact z
      · exact absurd (by rw [decide_eq_false z]; rfl) h3
    cases q : falls cs d with
    | none => rw [q] at h2; cases h2
    | some i =>
      rw [q] at h2
      have h4 : (k : Int) = (i : Int) := V.int.inj h2
      have h5 : i = k := by omega
      subst h5
      exact (falls_spec q).2 j c hjk hj
  · intro h p hp
    obtain ⟨i, hi, rfl⟩ := List.mem_map.mp hp
    have hi := List.mem_range.mp hi
    have e : cs[i]? = some cs[i] := List.getElem?_eq_getElem hi
    unfold pairAt
    rw [List.getD_eq_getElem?_getD, e]
    show ¬ (!decide (V.int i = optV (falls cs cs[i]))) = true
    rw [falls_some e (has_self _) fun j c hj hc => h j i c cs[i] hj hc e]
    simp [optV]
theorem eqv_pairs_nil (ps : List (Nat × Option Nat)) : PyData.eqv (dPairs ps) (dInts []) = decide (ps = []) := by
  cases ps with
  | nil => rfl
  | cons p r => rfl
theorem right_sub {xs ys : List Int} (h : xs.Sublist ys) (r : Right ys) : Right xs := List.Pairwise.sublist h r
theorem cut_has' : ∀ c : Fin 128, ∀ m : Fin 8, has (c.val : Int) ((c.val : Int) - (c.val : Int) % ([1, 2, 4, 8, 16, 32, 64, 128] : List Int).getD m.val 1) = true := by decide +kernel
theorem cut_has {c b : Int} (h0 : 0 ≤ c) (h1 : c < 128) (hb : b ∈ ([1, 2, 4, 8, 16, 32, 64, 128] : List Int)) : has c (c - c % b) = true := by
  obtain ⟨m, hm, e⟩ := List.getElem_of_mem hb
  have h := cut_has' ⟨c.toNat, by omega⟩ ⟨m, hm⟩
  have e1 : ((c.toNat : Nat) : Int) = c := by omega
  have e2 : ([1, 2, 4, 8, 16, 32, 64, 128] : List Int).getD m 1 = b := by rw [List.getD_eq_getElem?_getD, List.getElem?_eq_getElem hm, e]; rfl
  simp only [e1, e2] at h
  exact h
theorem falls_upto {cs : List Int} {t : Int} {i : Nat} {c : Int} (h : cs[i]? = some c) (hc : has c t = true) : ∃ j, falls cs t = some j ∧ j ≤ i := by
  cases q : falls cs t with
  | none =>
    unfold falls at q
    rw [List.findIdx?_eq_none_iff] at q
    have := q c (List.mem_of_getElem? h)
    rw [hc] at this
    cases this
  | some j =>
    refine ⟨j, rfl, ?_⟩
    by_cases z : j ≤ i
    · exact z
    · have := (falls_spec q).2 i c (by omega) h
      rw [hc] at this
      cases this
def moreI (c : Int) : Int := c + 64 * (1 - c / 64)
def lessI (c : Int) : Int := c % 64
theorem more_less' : ∀ c : Fin 128, ∀ k : Fin 7, (moreI c.val) / 2 ^ k.val % 2 = (if k.val = 6 then 1 else (lessI c.val) / 2 ^ k.val % 2) ∧ (k.val = 6 → (lessI c.val) / 2 ^ k.val % 2 = 0) := by decide +kernel
theorem more_less {c d : Int} (hc : 0 ≤ c ∧ c < 128) (hd : 0 ≤ d ∧ d < 128) : has (moreI c) (moreI d) = has (lessI c) (lessI d) := by
  have ec : ((c.toNat : Nat) : Int) = c := by omega
  have ed : ((d.toNat : Nat) : Int) = d := by omega
  unfold has
  rw [decide_eq_decide]
  have bc : ∀ k : Nat, k < 7 → (moreI c) / 2 ^ k % 2 = (if k = 6 then 1 else (lessI c) / 2 ^ k % 2) ∧ (k = 6 → (lessI c) / 2 ^ k % 2 = 0) := fun k hk => by
    have := more_less' ⟨c.toNat, by omega⟩ ⟨k, hk⟩
    simpa only [ec] using this
  have bd : ∀ k : Nat, k < 7 → (moreI d) / 2 ^ k % 2 = (if k = 6 then 1 else (lessI d) / 2 ^ k % 2) ∧ (k = 6 → (lessI d) / 2 ^ k % 2 = 0) := fun k hk => by
    have := more_less' ⟨d.toNat, by omega⟩ ⟨k, hk⟩
    simpa only [ed] using this
  constructor
  · intro h k hk
    have h1 := h k hk
    rw [(bc k hk).1, (bd k hk).1] at h1
    by_cases z : k = 6
    · rw [(bc k hk).2 z, (bd k hk).2 z]
      exact Int.le_refl _
    · rw [if_neg z, if_neg z] at h1
      exact h1
  · intro h k hk
    have h1 := h k hk
    rw [(bc k hk).1, (bd k hk).1]
    by_cases z : k = 6
    · rw [if_pos z, if_pos z]
      exact Int.le_refl _
    · rw [if_neg z, if_neg z]
      exact h1
theorem more_b {c : Int} (h : 0 ≤ c ∧ c < 128) : 0 ≤ moreI c ∧ moreI c < 128 := by unfold moreI; omega
theorem less_b {c : Int} (h : 0 ≤ c ∧ c < 128) : 0 ≤ lessI c ∧ lessI c < 128 := by unfold lessI; omega
theorem falls_more {cs : List Int} (hb : ∀ c ∈ cs, 0 ≤ c ∧ c < 128) {d : Int} (hd : 0 ≤ d ∧ d < 128) : falls (cs.map moreI) (moreI d) = falls (cs.map lessI) (lessI d) := by
  induction cs with
  | nil => rfl
  | cons c cs ih =>
    have ih := ih fun x hx => hb x (List.mem_cons_of_mem _ hx)
    unfold falls at ih ⊢
    rw [List.map_cons, List.map_cons, List.findIdx?_cons, List.findIdx?_cons, more_less (hb c List.mem_cons_self) hd, ih]
theorem wf_more {cs : List Int} (hb : ∀ c ∈ cs, 0 ≤ c ∧ c < 128) : wf (cs.map moreI) = wf (cs.map lessI) := by
  unfold wf pairs
  rw [List.length_map, List.length_map]
  congr 1
  apply List.map_congr_left
  intro i hi
  have hi := List.mem_range.mp hi
  have e : cs[i]? = some cs[i] := List.getElem?_eq_getElem hi
  unfold pairAt
  rw [List.getD_eq_getElem?_getD, List.getD_eq_getElem?_getD, List.getElem?_map, List.getElem?_map, e]
  show (i, falls (cs.map moreI) (moreI cs[i])) = (i, falls (cs.map lessI) (lessI cs[i]))
  rw [falls_more hb (hb _ (List.getElem_mem hi))]
end Mt

/-! ### texts: walked, sliced, joined; all(..) of a list of truths -/
namespace L2
open PySem PySem.Spec PyProof.Rows
/-- the text of one sign -/
def sg (c : Nat) : Str := ⟨#[c]⟩
/-- the signs of a text, one after another -/
def Its (x : Str) : It := ⟨fun i _ => i < x.cps.size, fun i H v H' => H' = H ∧ ∃ c, x.cps[i]? = some c ∧ v = .str (sg c), fun i _ => x.cps.size ≤ i⟩
theorem turn_str {P : Program} {w : World} {K : PySem.W.Frag} {tg : Expr} {ty : String} (it : Addr) (x : Str) (t : Tok) (hty : ty = "str_ascii_iterator" ∨ ty = "str_iterator") :
    Turn P w K tg (Its x) [it] it (fun i h => h.IsStrIter it ty x t i) where
  mem := by simp
  obj := fun i h st b hb => by
    obtain rfl : b = it := by simpa using hb
    obtain ⟨o, e, c, d⟩ := st
    exact ⟨o, e, fun v z => by rw [d] at z; cases z⟩
  keep := fun i h h' st k => by
    obtain ⟨o, e, r⟩ := st
    exact ⟨o, k it (by simp) o e, r⟩
  item := by
    intro X hP hw hK hc i pins s σ H E I hf st hg
    subst hP hw hK
    obtain ⟨f0, f1, f2, f3, f4, f5⟩ := hf it (by simp)
    have W : ∀ (Q : Option Value → Shared → Prop), (∀ v h' tk, SignAt x i v → h'.IsStrIter it ty x t (i + 1) → (∀ b o, b ∉ [it] → s.heap.get? b = some o → h'.get? b = some o) → Q (some v) { s with heap := h', toks := tk }) →
        wpAny (model X.prog X.w) X.A (pyNext (.ref it)) Q E s := by
      intro Q hQ
      rcases hty with rfl | rfl
      · exact (Walks.strAscii (prog := X.prog) (w := X.w) (I.ok.hd hc) it x t).item i s Q E hg st hQ
      · exact (Walks.strWide (prog := X.prog) (w := X.w) (I.ok.hd hc) it x t).item i s Q E hg st hQ
    refine W _ fun v h' tk hv st' kk => ?_
    obtain ⟨c, u, hcx, rfl⟩ := hv
    have I1 : Inv X pins σ H { s with heap := h', toks := tk } := I.turned (fun b o hb e => kk b o (by simpa using hb) e) f0 f1 f3 f4 f5
    obtain ⟨o, e, c', d⟩ := id st'
    exact ⟨_, rfl, go_of (s := { s with heap := h', toks := tk }) e c' d (by rcases hty with rfl | rfl <;> decide) ⟨.str (sg c), H, I1, ⟨u, rfl⟩, ⟨rfl, c, hcx, rfl⟩, st', fun b hb => (hf b hb).1⟩⟩
  done := by
    intro X hP hw hK hc i pins s σ H E I hf st hg
    subst hP hw hK
    obtain ⟨f0, f1, f2, f3, f4, f5⟩ := hf it (by simp)
    have hi : x.cps.size ≤ i := hg
    rcases hty with rfl | rfl
    · exact wpAny_pyNext_ascii_end (I.ok.hd hc) st (by simpa using hi) fun h' eb => ⟨rfl, I.turned (t' := s.toks) (fun b o hb e => eb b o hb e) f0 f1 f3 f4 f5⟩
    · exact wpAny_pyNext_wide_end (I.ok.hd hc) st (by simpa using hi) fun h' eb => ⟨rfl, I.turned (t' := s.toks) (fun b o hb e => eb b o hb e) f0 f1 f3 f4 f5⟩
  self := fun A i s Q E st h => by
    rcases hty with rfl | rfl
    · exact wpAny_pyIter_striter_ascii st h
    · exact wpAny_pyIter_striter_wide st h
section
variable {X : Cx} {tg : Expr}
def iStr (tl : TE) : TI := fun σ H R => tl σ H fun v H1 => ∃ x, v = .str x ∧ R (Its x) H1
theorem pi_str {l : Expr} {tl : TE} (hl : PE X l tl) : PI X tg l (iStr tl) := by
  intro pins s σ H R I h
  refine thn (hl pins s σ H _ I h) fun v s1 ⟨y, H1, I1, r1, q1⟩ => ?_
  obtain ⟨x, rfl, q⟩ := q1
  obtain ⟨t, rfl⟩ := r1
  have fin : ∀ (ty : String) (hty : ty = "str_ascii_iterator" ∨ ty = "str_iterator"), PIE X pins σ tg R (.ref s1.heap.objs.size) { s1 with heap := s1.heap.push { cls := .type ty, data := .fields #[.str x t, .int 0 0] } } := by
    intro ty hty
    refine ⟨s1.heap.objs.size, [s1.heap.objs.size], _, _, H1, rfl, I1.kept (t' := s1.toks) fun b o e => Heap.get?_push_of_some _ e, turn_str _ x t hty, ⟨_, Heap.get?_push_size _ rfl, rfl, rfl⟩, fun b hb => ?_, q⟩
    obtain rfl : b = s1.heap.objs.size := by simpa using hb
    exact I1.fpOk (Nat.le_refl _) (I1.hok.fresh (Nat.le_refl _))
  refine wpAny_pyIter_strU ?_
  unfold strIterType
  split
  · exact fin _ (.inl rfl)
  · exact fin _ (.inr rfl)
end
/-- over the signs of a text -/
theorem for_str {x : Str} {g : TG} {tb : TS} {D : Ends} {σ : St} {H : Hp} (Pv : Nat → St → Hp → Prop) (h0 : Pv 0 σ H)
    (hs : ∀ i c σ H, x.cps[i]? = some c → i < x.cps.size → Pv i σ H → g (.str (sg c)) σ H fun σ2 H2 => tb { D with nx := Pv (i + 1), ct := Pv (i + 1), bk := D.nx } σ2 H2) (hd : ∀ σ H, Pv x.cps.size σ H → D.nx σ H) :
    ∃ W : Nat → Nat → St → Hp → Prop, (∃ m, W 0 m σ H) ∧ ∀ i m σ H, W i m σ H →
      ((Its x).stop i H ∧ D.nx σ H) ∨ ((Its x).go i H ∧ ∃ N : St → Hp → Prop, (∀ σ' H', N σ' H' → ∃ m', m' < m ∧ W (i + 1) m' σ' H') ∧ ∀ v H', (Its x).yld i H v H' → g v σ H' fun σ2 H2 => tb { D with nx := N, ct := N, bk := D.nx } σ2 H2) := by
  refine ⟨fun i m σ H => m = x.cps.size - i ∧ i ≤ x.cps.size ∧ Pv i σ H, ⟨x.cps.size, by simp, Nat.zero_le _, h0⟩, ?_⟩
  rintro i m σ H ⟨rfl, hi, p⟩
  by_cases hlt : i < x.cps.size
  · refine .inr ⟨hlt, Pv (i + 1), fun σ' H' p' => ⟨x.cps.size - (i + 1), by omega, rfl, hlt, p'⟩, fun v H' y => ?_⟩
    obtain ⟨rfl, c, hc, rfl⟩ := y
    exact hs i c σ _ hc hlt p
  · have e : i = x.cps.size := by omega
    subst e
    exact .inl ⟨Nat.le_refl _, hd σ H p⟩
theorem comp_str {x : Str} {g : TG} {tc : TT} {te : TE} {D : Addr} {σ : St} {H : Hp} {Q : VK} (Pv : Nat → List V → St → Hp → Prop) (h0 : Pv 0 [] σ (upd H D (.lst [])))
    (hs : ∀ i c ys σ H, x.cps[i]? = some c → i < x.cps.size → Pv i ys σ H → g (.str (sg c)) σ H fun σ2 H4 => tc σ2 H4 fun b H5 => if b = true then te σ2 H5 (CNext D x.cps.size i Pv σ2) else CSkip x.cps.size i Pv σ2 H5)
    (hd : ∀ ys σ H, Pv x.cps.size ys σ H → Q (.ref D) H) : CompW (Its x) g tc te D Q σ H := by
  refine ⟨fun i m σ H => m = x.cps.size - i ∧ i ≤ x.cps.size ∧ ∃ ys, Pv i ys σ H, ⟨x.cps.size, by simp, Nat.zero_le _, [], h0⟩, ?_⟩
  rintro i m σ H ⟨rfl, hi, ys, p⟩
  by_cases hlt : i < x.cps.size
  · refine .inr ⟨hlt, fun v H' y => ?_⟩
    obtain ⟨rfl, c, hc, rfl⟩ := y
    exact hs i c ys σ _ hc hlt p
  · have e : i = x.cps.size := by omega
    subst e
    exact .inl ⟨Nat.le_refl _, hd ys σ H p⟩
section
variable {X : Cx}
theorem sl_str : SlR X (fun x lo hi H Q => ∃ z, x = .str z ∧ z.length ≤ sizeLine ∧ Q (.str (Txt.slice z lo hi)) H) := by
  intro pins s σ H x v vl vu lo hi sl Q I rx hs pl pu h
  obtain ⟨z, rfl, hz, q⟩ := h
  obtain ⟨t, rfl⟩ := rx
  refine ⟨"str", _, F.slot_str_getitem.lookup, typeIs_str _ _ _, ?_⟩
  have fin : ∀ (l u : Option (Int × Tok)), s.heap.IsSlice sl l u none → l.map (·.1) = lo → u.map (·.1) = hi → wpAny (model X.prog X.w) X.A (getItem (.str z t) (.ref sl)) (EP X pins σ Q) X.xe s := by
    rintro l u h1 rfl rfl
    refine wpAny_getItem_str_slice (l := l) (u := u) (st := none) h1 rfl ?_
    exact post_val_or_str ⟨Nat.le_trans (Txt.slice_le z _ _) hz, fun t' k => ⟨.str _, H, I.tok _, ⟨_, rfl⟩, q⟩⟩
  obtain ⟨o, e, c, d⟩ := hs
  cases pl with
  | none =>
    cases pu with
    | none => exact fin none none ⟨o, e, c, d⟩ rfl rfl
    | int j tj => exact fin none (some (j, tj)) ⟨o, e, c, d⟩ rfl rfl
  | int i ti =>
    cases pu with
    | none => exact fin (some (i, ti)) none ⟨o, e, c, d⟩ rfl rfl
    | int j tj => exact fin (some (i, ti)) (some (j, tj)) ⟨o, e, c, d⟩ rfl rfl
theorem strsAre_of : ∀ {ys : List Str} {us : List Value}, Vals (ys.map V.str) us → StrsAre us ys
  | [], _, r => by cases r; exact .nil
  | y :: ys, _, r => by
    cases r with
    | cons r1 r2 =>
      obtain ⟨t, rfl⟩ := r1
      exact .cons y t (strsAre_of r2)
def rJoin (K : PySem.W.Frag) : V → List V → Hp → VK → Prop := fun x xs H Q => ∃ (z : Str) (p : Addr) (ys : List Str), x = .str z ∧ xs = [.ref p] ∧ SqL K H p (ys.map V.str) ∧ (ys.map (·.length)).sum + ys.length * z.length ≤ 16777216 ∧ Q (.str (Txt.join z ys)) H
theorem mt_join : MtR X "str.join" (rJoin X.K) := by
  intro pins s σ H x xs v us Q I rx rs h
  obtain ⟨z, p, ys, rfl, rfl, hq, hb, q⟩ := h
  obtain ⟨t, rfl⟩ := rx
  obtain ⟨u, rfl, ru⟩ := vals1 rs
  cases ru
  obtain ⟨its, rv, pl, hz⟩ := I.list hq
  exact join_list pl.isList (by simpa using strsAre_of rv) hb fun t' k => ⟨.str _, H, I.tok _, ⟨_, rfl⟩, q⟩
def rAll (K : PySem.W.Frag) : List V → Hp → VK → Prop := fun xs H Q => ∃ (p : Addr) (bs : List Bool), xs = [.ref p] ∧ SqL K H p (bs.map V.bl) ∧ Q (.bl (bs.all id)) H
theorem call_all (hc : X.calm = true) : CallR X (.builtin "all") (rAll X.K) := by
  intro pins s σ H xs us Q I r h
  obtain ⟨p, bs, rfl, hq, q⟩ := h
  obtain ⟨u, rfl, ru⟩ := vals1 r
  cases ru
  obtain ⟨its, rv, pl, hz⟩ := I.list hq
  have hl : its.length = bs.length := by rw [← rv.length, List.length_map]
  obtain ⟨ol, hol, hoc⟩ := id pl.isList
  have hlt : p < s.heap.objs.size := Heap.lt_size hol
  refine call_all_walk (wpAny_pyIter_list pl.isList ?_)
  refine ⟨s.heap.objs.size, _, _, _, _, _, fun i => bs.getD i false, rfl, Walks.list (A := X.A.in1) (I.ok.hd hc) s.heap.objs.size p (Nat.ne_of_lt hlt) its.toArray, ⟨⟨_, Heap.get?_push_size _ rfl, rfl, rfl⟩, ol, Heap.get?_push_of_some _ hol, hoc⟩, fun i v s' Q' E' hv hQ => ?_, fun h' tk hk => ?_⟩
  · have hv' : its[i]? = some v := by simpa using hv
    obtain ⟨y, hy, ry⟩ := vals_back rv hv'
    rw [List.getElem?_map] at hy
    cases e : bs[i]? with
    | none => rw [e] at hy; cases hy
    | some b =>
      rw [e] at hy
      have hy' : V.bl b = y := Option.some.inj hy
      subst hy'
      cases ry
      have hQ : Q' (bs.getD i false) s' := hQ
      rw [List.getD_eq_getElem?_getD, e] at hQ
      exact wpAny_truthy_bool hQ
  · have e : (List.range its.toArray.size).all (fun i => bs.getD i false) = bs.all id := by
      rw [List.size_toArray, hl, Bool.eq_iff_iff, List.all_eq_true, List.all_eq_true]
      constructor
      · intro h b hb
        obtain ⟨i, hi, e⟩ := List.getElem_of_mem hb
        have := h i (List.mem_range.mpr hi)
        rw [List.getD_eq_getElem?_getD, List.getElem?_eq_getElem hi, e] at this
        exact this
      · intro h i hi
        have hi := List.mem_range.mp hi
        rw [List.getD_eq_getElem?_getD, List.getElem?_eq_getElem hi]
        exact h _ (List.getElem_mem hi)
    rw [e]
    exact ⟨.bl _, H, I.kept (fun b o e => hk b o (by simp; exact Nat.ne_of_lt (Heap.lt_size e)) (Heap.get?_push_of_some _ e)), rfl, q⟩
end
section
variable {X : Cx} (K : PySem.W.Frag) (hK : X.K = K)
include hK
theorem kall (hc : X.calm = true) : CallR X (.builtin "all") (rAll K) := by subst hK; exact call_all hc
theorem kmt_join : MtR X "str.join" (rJoin K) := by subst hK; exact mt_join
end
end L2

/-! ### cases: rows of (sign, width, teeth, many) -/
namespace Cs
open PySem L2
structure Row where
  s : Str
  w : Int
  t : Int
  n : Int
abbrev rowV (r : Row) : List V := [.str r.s, .int r.w, .int r.t, .int r.n]
def RowAt (H : Hp) (v : V) (r : Row) : Prop := ∃ a, v = .ref a ∧ H a = some (.tup (rowV r))
theorem RowAt.same {H H' : Hp} {v : V} {r : Row} (h : RowAt H v r) (s : Same H H') : RowAt H' v r := let ⟨a, e, h⟩ := h; ⟨a, e, s _ _ h⟩
theorem rows_same {H H' : Hp} {xs : List V} {rs : List Row} (h : Paired (RowAt H) xs rs) (s : Same H H') : Paired (RowAt H') xs rs := Paired.mapP h fun _ _ z => z.same s
theorem rows_upd {H : Hp} {l : Addr} {o ys : HO} {xs : List V} {rs : List Row} (h : Paired (RowAt H) xs rs) (hl : H l = some ys) (hn : ∀ z, ys ≠ .tup z) : Paired (RowAt (upd H l o)) xs rs :=
  Paired.mapP h fun x p ⟨t, e, ht⟩ => ⟨t, e, by rw [upd_ne (ne_of ht hl fun z => hn _ z.symm)]; exact ht⟩
theorem rows_len {H : Hp} {xs : List V} {rs : List Row} (h : Paired (RowAt H) xs rs) : xs.length = rs.length := Paired.length h
theorem pd_get {α β : Type} {F : α → β → Prop} : ∀ {xs : List α} {ys : List β} {i : Nat} {x : α}, Paired F xs ys → xs[i]? = some x → ∃ y, ys[i]? = some y ∧ F x y
  | _, _, _, _, .nil, e => by simp at e
  | _, _, 0, _, .cons r _, e => by simp at e; subst e; exact ⟨_, rfl, r⟩
  | _, _, i + 1, x, .cons _ t, e => by
    obtain ⟨p, h1, h2⟩ := pd_get (i := i) (x := x) t (by simpa using e)
    exact ⟨p, by simpa using h1, h2⟩
theorem pd_back {α β : Type} {F : α → β → Prop} : ∀ {xs : List α} {ys : List β} {i : Nat} {y : β}, Paired F xs ys → ys[i]? = some y → ∃ x, xs[i]? = some x ∧ F x y
  | _, _, _, _, .nil, e => by simp at e
  | _, _, 0, _, .cons r _, e => by simp at e; subst e; exact ⟨_, rfl, r⟩
  | _, _, i + 1, x, .cons _ t, e => by
    obtain ⟨p, h1, h2⟩ := pd_back (i := i) (y := x) t (by simpa using e)
    exact ⟨p, by simpa using h1, h2⟩
/-- the list at l holds these rows -/
def CaseAt (K : PySem.W.Frag) (H : Hp) (l : Addr) (rs : List Row) : Prop := ∃ xs, SqL K H l xs ∧ Paired (RowAt H) xs rs
theorem CaseAt.same {K : PySem.W.Frag} {H H' : Hp} {l : Addr} {rs : List Row} (h : CaseAt K H l rs) (s : Same H H') : CaseAt K H' l rs := let ⟨xs, h1, h2⟩ := h; ⟨xs, s.seq h1, rows_same h2 s⟩
/-- the number of a sign's channel -/
def place (rs : List Row) (x : Str) : Option Nat := rs.findIdx? fun r => decide (r.s = x)
theorem place_some {rs : List Row} {x : Str} {i : Nat} {r : Row} (h : rs[i]? = some r) (hx : r.s = x) (hj : ∀ (j : Nat) r', j < i → rs[j]? = some r' → r'.s ≠ x) : place rs x = some i := by
  obtain ⟨hi, e⟩ := List.getElem?_eq_some_iff.mp h
  unfold place
  rw [List.findIdx?_eq_some_iff_getElem]
  refine ⟨hi, by rw [e]; exact decide_eq_true hx, fun j hji => ?_⟩
  have := hj j rs[j] hji (List.getElem?_eq_getElem (by omega))
  rw [decide_eq_false this]
  exact Bool.false_ne_true
theorem place_none {rs : List Row} {x : Str} (hj : ∀ (j : Nat) r, j < rs.length → rs[j]? = some r → r.s ≠ x) : place rs x = none := by
  unfold place
  rw [List.findIdx?_eq_none_iff]
  intro r hr
  obtain ⟨j, hjl, e⟩ := List.getElem_of_mem hr
  exact decide_eq_false (hj j r hjl (by rw [List.getElem?_eq_getElem hjl, e]))
theorem place_spec {rs : List Row} {x : Str} {i : Nat} (h : place rs x = some i) : i < rs.length := by
  unfold place at h
  obtain ⟨hi, _⟩ := List.findIdx?_eq_some_iff_getElem.mp h
  exact hi
theorem strV {x y : Str} : decide (V.str x = V.str y) = decide (x = y) := by
  rw [decide_eq_decide]
  exact ⟨fun h => V.str.inj h, fun h => by rw [h]⟩
def rowD (r : Row) : PyData := .tuple [.str r.s, .int r.w, .int r.t, .int r.n]
theorem denL_rows {K : PySem.W.Frag} {H : Hp} : ∀ {xs : List V} {rs : List Row}, Paired (RowAt H) xs rs → (∀ r ∈ rs, PyData.canLay0 (.str r.s) = true) → DenL K H xs (rs.map rowD)
  | _, _, .nil, _ => .nil
  | _, _, .cons ⟨t, e, h⟩ r, c => by
    subst e
    exact .cons (.tup (SqT.of h) (.cons (.str _ (c _ List.mem_cons_self)) (.cons (.int _) (.cons (.int _) (.cons (.int _) .nil))))) (denL_rows r fun x hx => c x (List.mem_cons_of_mem _ hx))
theorem nb_rows : ∀ rs : List Row, nbL (rs.map rowD) = true
  | [] => rfl
  | r :: rs => by
    show (nb (rowD r) && nbL (rs.map rowD)) = true
    rw [nb_rows rs]
    rfl
theorem depth_rows : ∀ rs : List Row, PyData.depthAll (rs.map rowD) ≤ 1
  | [] => Nat.zero_le _
  | r :: rs => Nat.max_le.mpr ⟨Nat.le_refl _, depth_rows rs⟩
abbrev dRows (rs : List Row) : PyData := .list (rs.map rowD)
theorem drows_depth (rs : List Row) (e : PyData) : min (dRows rs).depth e.depth ≤ 64 := by
  have q : (dRows rs).depth = PyData.depthAll (rs.map rowD) + 1 := rfl
  have := depth_rows rs
  omega
/-- the signs, as codes -/
def signs : List Nat := "abcdefghijklmnopqrstuvwxyz.,-'".toList.map Char.toNat
theorem signs_lay : ∀ c ∈ signs, PyData.canLay0 (.str (sg c)) = true := by decide +kernel
theorem signs_cps : (Str.ofString "abcdefghijklmnopqrstuvwxyz.,-'").cps.toList = signs := by decide +kernel
theorem signs_at {i : Int} (h0 : 0 ≤ i) (h1 : i < 30) : ∃ c, c ∈ signs ∧ atI (Str.ofString "abcdefghijklmnopqrstuvwxyz.,-'").cps.toList i = some c := by
  rw [signs_cps]
  have hl : signs.length = 30 := by decide +kernel
  have hk : i.toNat < signs.length := by omega
  have ek : i = ((i.toNat : Nat) : Int) := by omega
  have q : atI signs ((i.toNat : Nat) : Int) = some signs[i.toNat] := atI_nat (List.getElem?_eq_getElem hk)
  rw [← ek] at q
  exact ⟨signs[i.toNat], List.getElem_mem hk, q⟩
theorem at_len {xs : List Nat} {i : Int} (h0 : 0 ≤ i) (h1 : i < (xs.length : Int)) : ∃ c, atI xs i = some c := by
  have hk : i.toNat < xs.length := by omega
  have ek : i = ((i.toNat : Nat) : Int) := by omega
  have q : atI xs ((i.toNat : Nat) : Int) = some xs[i.toNat] := atI_nat (List.getElem?_eq_getElem hk)
  rw [← ek] at q
  exact ⟨xs[i.toNat], q⟩
/-- can be set; the width of a word -/
def canSet (rs : List Row) (x : Str) : Bool := !decide (x = "") && x.cps.toList.all fun c => (place rs (sg c)).isSome
def wideAt (rs : List Row) (x : Str) : Int := match place rs x with
  | some i => match rs[i]? with
    | some r => r.w
    | none => 0
  | none => 0
def wideOf (rs : List Row) (x : Str) : Int := List.sum (x.cps.toList.map fun c => wideAt rs (sg c))
theorem wideAt_eq {rs : List Row} {x : Str} {k : Nat} (h : place rs x = some k) (hk : k < rs.length) : wideAt rs x = rs[k].w := by
  unfold wideAt
  rw [h]
  show (match rs[k]? with | some r => r.w | none => 0) = _
  rw [List.getElem?_eq_getElem hk]
theorem opt_some (o : Option Nat) : (!decide (Mt.optV o = V.non)) = o.isSome := by
  cases o with
  | none => rfl
  | some i => rfl
theorem all_map {α : Type} (f : α → Bool) (l : List α) : (l.map f).all id = l.all f := by
  rw [List.all_map]
  rfl
theorem sum_ones : ∀ {ss : List Str}, (∀ s ∈ ss, s.length = 1) → (ss.map (·.length)).sum = ss.length
  | [], _ => rfl
  | s :: ss, h => by
    rw [List.map_cons, List.sum_cons, h s List.mem_cons_self, sum_ones fun x hx => h x (List.mem_cons_of_mem _ hx), List.length_cons]
    omega
theorem str_empty {z : Str} (h : z.length = 0) : z = "" := by
  obtain ⟨a⟩ := z
  have h : a.size = 0 := h
  have e : a = #[] := Array.eq_empty_of_size_eq_zero h
  subst e
  rfl
theorem cut_any (zs : List Int) (lo hi : Option Int) : ∃ ms : List Int, cutV (zs.map V.int) lo hi = ms.map V.int ∧ ms.length ≤ zs.length := by
  unfold cutV
  rw [← List.map_drop, ← List.map_take]
  exact ⟨_, rfl, by rw [List.length_take, List.length_drop]; omega⟩
theorem none_in {α : Type} (f : α → Option Nat) : ∀ l : List α, (!inV .non (l.map fun c => Mt.optV (f c))) = l.all fun c => (f c).isSome
  | [] => rfl
  | c :: l => by
    have ih := none_in f l
    unfold inV at ih ⊢
    rw [List.map_cons, List.any_cons, List.all_cons, Bool.not_or, ih]
    cases f c <;> rfl
theorem flat_opts {α : Type} (f : α → Option Nat) : ∀ l : List α, (l.map fun c => Mt.optV (f c)).all flatV = true
  | [] => rfl
  | c :: l => by
    rw [List.map_cons, List.all_cons, flat_opts f l]
    cases f c <;> rfl
end Cs

/-! ### xs.remove(z) of a list of ints -/
namespace L2
open PySem PySem.Spec PyProof.Rows
section
variable {X : Cx}
def rRemove : V → List V → Hp → VK → Prop := fun x vs H Q => ∃ (l : Addr) (ns : List Int) (z : Int), x = .ref l ∧ vs = [.int z] ∧ H l = some (.lst (ns.map V.int)) ∧ z ∈ ns ∧ Q .non (upd H l (.lst ((ns.erase z).map V.int)))
theorem er_map : ∀ (l : List Int) (n : Nat), (l.eraseIdx n).map V.int = (l.map V.int).eraseIdx n
  | [], _ => rfl
  | _ :: _, 0 => rfl
  | a :: l, n + 1 => by
    show V.int a :: (l.eraseIdx n).map V.int = V.int a :: (l.map V.int).eraseIdx n
    rw [er_map l n]
def eqI (z : Int) : Value → Bool
  | .int i _ => i == z
  | _ => false
theorem mt_remove : MtM X "list.remove" rRemove := by
  intro pins s σ H x vs v us Q I rx rv h
  obtain ⟨l, ns, z, rfl, rfl, hH, hz, q⟩ := h
  cases rx
  obtain ⟨u, rfl, ru⟩ := rv.one
  obtain ⟨t, rfl⟩ := ru
  obtain ⟨zz, its, n, r, hl, e⟩ := I.lstM hH
  rw [List.length_map] at hl
  have at_ : ∀ (m : Nat) (hm : m < its.length), ∃ t', its[m] = .int (ns[m]'(by omega)) t' := fun m hm => by
    obtain ⟨u, hu, ru⟩ := r.get (i := m) (x := .int (ns[m]'(by omega))) (by rw [List.getElem?_map, List.getElem?_eq_getElem (by omega)]; rfl)
    rw [List.getElem?_eq_getElem hm] at hu
    obtain ⟨t', rfl⟩ := ru
    exact ⟨t', Option.some.inj hu⟩
  have hj : ns.idxOf z < ns.length := List.idxOf_lt_length_of_mem hz
  refine call_meets F.slot_list_remove ⟨_, e, rfl⟩ F.entry_list_remove (F.args_list_remove_2 _ _)
    (MeetsSeq.list_remove l its.toArray n (.int z t) (eqI z) (fun y hy => ?_) (ns.idxOf z) (by rw [List.size_toArray]; omega) ?_ (fun m hm hlt => ?_) (by rw [List.size_toArray, ← hl]; rw [List.length_map] at zz; exact zz)) ⟨e, ?_⟩
  · obtain ⟨m, hm, ey⟩ := List.getElem_of_mem (show y ∈ its by simpa using hy)
    obtain ⟨t', e'⟩ := at_ m hm
    rw [← ey, e']
    exact MeetsSeq.EqGives.int _ _ _ _
  · obtain ⟨t', e'⟩ := at_ (ns.idxOf z) (by omega)
    show eqI z its[ns.idxOf z] = true
    rw [e']
    show (ns[ns.idxOf z] == z) = true
    rw [List.getElem_idxOf hj]
    exact beq_self_eq_true z
  · have hm' : m < its.length := by simpa using hm
    obtain ⟨t', e'⟩ := at_ m hm'
    show eqI z its[m] = false
    rw [e']
    show (ns[m] == z) = false
    have := List.not_of_lt_findIdx (p := (· == z)) (xs := ns) (i := m) hlt
    cases h : (ns[m] == z) with
    | false => rfl
    | true => exact absurd h (by simpa using this)
  · have ee : (ns.erase z).map V.int = (ns.map V.int).eraseIdx (ns.idxOf z) := by
      rw [List.erase_eq_eraseIdx_of_idxOf rfl, er_map]
    rw [ee] at q
    refine ⟨.non, _, I.lset (its' := its.eraseIdx (ns.idxOf z)) hH e ?_ (r.eraseIdx _) ?_, rfl, q⟩
    · show its.toArray.eraseIdxIfInBounds _ = (its.eraseIdx _).toArray
      rw [List.eraseIdxIfInBounds_toArray]
    · have := List.length_eraseIdx_le (ns.map V.int) (ns.idxOf z)
      omega
end
end L2
namespace Mt
open PySem L2
theorem has_le {t o : Int} (ht : 0 ≤ t ∧ t < 128) (ho : 0 ≤ o ∧ o < 128) (h : has t o = true) : o ≤ t := by
  obtain ⟨a0, a1, a2, a3, a4, a5, a6⟩ := has_bits h
  have b := bits_of ht
  have d := bits_of ho
  clear h ht ho
  rw [b, d]
  clear b d
  generalize t / 1 % 2 = t0 at *
  generalize t / 2 % 2 = t1 at *
  generalize t / 4 % 2 = t2 at *
  generalize t / 8 % 2 = t3 at *
  generalize t / 16 % 2 = t4 at *
  generalize t / 32 % 2 = t5 at *
  generalize t / 64 % 2 = t6 at *
  omega
theorem least_of : ∀ {ls : List Int}, ls ≠ [] → ∃ m ∈ ls, ∀ o ∈ ls, m ≤ o
  | [], h => absurd rfl h
  | [a], _ => ⟨a, List.mem_cons_self, fun o ho => by rw [List.mem_singleton.mp ho]; exact Int.le_refl _⟩
  | a :: b :: r, _ => by
    obtain ⟨m, hm, hl⟩ := least_of (ls := b :: r) (by simp)
    by_cases h : a ≤ m
    · exact ⟨a, List.mem_cons_self, fun o ho => by
        rcases List.mem_cons.mp ho with rfl | ho
        · exact Int.le_refl _
        · exact Int.le_trans h (hl o ho)⟩
    · exact ⟨m, List.mem_cons_of_mem _ hm, fun o ho => by
        rcases List.mem_cons.mp ho with rfl | ho
        · omega
        · exact hl o ho⟩
/-- the others of which a code has all teeth -/
def under (ls : List Int) (c : Int) : List Int := ls.filter fun o => !decide (o = c) && has c o
theorem under_least {ls : List Int} (hne : ls ≠ []) (hb : ∀ c ∈ ls, 0 ≤ c ∧ c < 128) : ∃ c ∈ ls, under ls c = [] := by
  obtain ⟨m, hm, hl⟩ := least_of hne
  refine ⟨m, hm, ?_⟩
  unfold under
  rw [List.filter_eq_nil_iff]
  intro o ho h
  rw [Bool.and_eq_true] at h
  have h1 := has_le (hb m hm) (hb o ho) h.2
  have h2 := hl o ho
  have e : o = m := by omega
  rw [decide_eq_true e] at h
  exact absurd h.1 (by decide)
theorem under_nil {ls : List Int} {c o : Int} (h : under ls c = []) (ho : o ∈ ls) (hn : o ≠ c) : has c o = false := by
  unfold under at h
  rw [List.filter_eq_nil_iff] at h
  have := h o ho
  rw [decide_eq_false hn] at this
  cases q : has c o with
  | false => rfl
  | true => rw [q] at this; exact absurd rfl this
theorem fit_snoc {rs : List Int} {c : Int} (h : Fit rs) (hc : ∀ r ∈ rs, has r c = false) : Fit (rs ++ [c]) := by
  intro j k x y hjk hx hy
  by_cases hk : k < rs.length
  · rw [List.getElem?_append_left hk] at hy
    rw [List.getElem?_append_left (by omega)] at hx
    exact h j k x y hjk hx hy
  · have hk2 : k = rs.length := by
      have := (List.getElem?_eq_some_iff.mp hy).1
      rw [List.length_append] at this
      have : k < rs.length + 1 := this
      omega
    subst hk2
    rw [List.getElem?_append_right (Nat.le_refl _), Nat.sub_self] at hy
    have e : c = y := by simpa using hy
    subst e
    rw [List.getElem?_append_left hjk] at hx
    exact hc x (List.mem_of_getElem? hx)
theorem fit_falls {rs : List Int} (h : Fit rs) {i : Nat} {c : Int} (hi : rs[i]? = some c) : falls rs c = some i := falls_some hi (has_self c) fun j c' hj hc' => h j i c' c hj hc' hi
end Mt
namespace Mt
open PySem L2
/-- 0, 1, .. up to a number -/
def upto (n : Nat) : List Int := (List.range n).map fun (k : Nat) => (k : Int)
theorem upto_succ (n : Nat) : upto (n + 1) = upto n ++ [(n : Int)] := by
  unfold upto
  rw [List.range_succ, List.map_append]
  rfl
theorem upto_mem {n : Nat} {b : Int} (h : b ∈ upto n) : 0 ≤ b ∧ b < (n : Int) := by
  unfold upto at h
  obtain ⟨k, hk, rfl⟩ := List.mem_map.mp h
  have := List.mem_range.mp hk
  omega
theorem upto_len (n : Nat) : (upto n).length = n := by
  unfold upto
  rw [List.length_map, List.length_range]
/-- the teeth of a code, as sets -/
def subs (own : Int) : List Int := (upto (own.toNat + 1)).filter fun b => has own b
/-- the sets of broken teeth by which a matrix falls there -/
def sets (cs : List Int) (own : Int) (wh : Nat) : List Int := (subs own).filter fun b => decide (falls cs (own - b) = some wh)
theorem subs_mem {own b : Int} (h0 : 0 ≤ own) (h : b ∈ subs own) : 0 ≤ b ∧ b ≤ own := by
  unfold subs at h
  have := upto_mem (List.mem_filter.mp h).1
  omega
theorem subs_len {own : Int} (h : own < 128) : (subs own).length ≤ 128 := by
  have h1 : (subs own).length ≤ (upto (own.toNat + 1)).length := List.length_filter_le _ _
  rw [upto_len] at h1
  omega
theorem opt_is {o : Option Nat} {w : Nat} : decide (optV o = V.int (w : Int)) = decide (o = some w) := by
  rw [decide_eq_decide]
  cases o with
  | none => exact ⟨fun h => (by cases h), fun h => (by cases h)⟩
  | some i =>
    constructor
    · intro h
      have : (i : Int) = (w : Int) := V.int.inj h
      have : i = w := by omega
      rw [this]
    · intro h
      rw [Option.some.inj h]
      rfl
theorem filt1 {p : Int → Bool} {b : Int} (h : p b = true) : [b].filter p = [b] := by rw [List.filter_cons, if_pos h, List.filter_nil]
theorem filt0 {p : Int → Bool} {b : Int} (h : ¬ p b = true) : [b].filter p = [] := by rw [List.filter_cons, if_neg h, List.filter_nil]
end Mt
namespace Mt
open PySem L2
def optI : Option Int → V
  | none => .non
  | some i => .int i
/-- the fewest teeth among sets -/
def fewS (o : Option Int) (b : Int) : Option Int := match o with
  | none => some (pc b)
  | some m => if pc b < m then some (pc b) else some m
def fewest (cs : List Int) (own : Int) (wh : Nat) : Option Int := (sets cs own wh).foldl fewS none
theorem sets_eq (cs : List Int) (own : Int) (wh : Nat) : sets cs own wh = (upto (own.toNat + 1)).filter fun b => has own b && decide (falls cs (own - b) = some wh) := by
  unfold sets subs
  rw [List.filter_filter]
  congr 1
  funext b
  rw [Bool.and_comm]
theorem fewS_le {o : Option Int} {b m : Int} (h : fewS o b = some m) : m ≤ pc b := by
  unfold fewS at h
  cases o with
  | none => have := Option.some.inj h; omega
  | some k =>
    dsimp only at h
    by_cases z : pc b < k
    · rw [if_pos z] at h; have := Option.some.inj h; omega
    · rw [if_neg z] at h; have := Option.some.inj h; omega
theorem fewS_some (o : Option Int) (b : Int) : ∃ m, fewS o b = some m ∧ (∀ k, o = some k → m ≤ k) ∧ (m = pc b ∨ o = some m) := by
  cases o with
  | none => exact ⟨pc b, rfl, fun k h => (nomatch h), .inl rfl⟩
  | some k =>
    by_cases z : pc b < k
    · exact ⟨pc b, by show (if pc b < k then _ else _) = _; rw [if_pos z], fun j h => by rw [← Option.some.inj h]; omega, .inl rfl⟩
    · exact ⟨k, by show (if pc b < k then _ else _) = _; rw [if_neg z], fun j h => by rw [← Option.some.inj h]; omega, .inr rfl⟩
/-- what the fold tells: the least of those seen -/
theorem few_fold : ∀ (bs : List Int) (o : Option Int), (bs = [] ∧ bs.foldl fewS o = o) ∨ ∃ m, bs.foldl fewS o = some m ∧ (∀ b ∈ bs, m ≤ pc b) ∧ (∀ k, o = some k → m ≤ k) ∧ ((∃ b ∈ bs, pc b = m) ∨ o = some m)
  | [], o => .inl ⟨rfl, rfl⟩
  | b :: bs, o => by
    right
    rw [List.foldl_cons]
    obtain ⟨m1, h1, h2, h3⟩ := fewS_some o b
    have h4 := fewS_le h1
    rcases few_fold bs (fewS o b) with ⟨e, h⟩ | ⟨m, h, g1, g2, g3⟩
    · subst e
      refine ⟨m1, by rw [h, h1], fun x hx => by rw [List.mem_singleton.mp hx]; exact h4, h2, ?_⟩
      rcases h3 with h3 | h3
      · exact .inl ⟨b, List.mem_cons_self, h3.symm⟩
      · exact .inr h3
    · have hm : m ≤ m1 := g2 m1 h1
      refine ⟨m, h, fun x hx => ?_, fun k hk => Int.le_trans hm (h2 k hk), ?_⟩
      · rcases List.mem_cons.mp hx with rfl | hx
        · omega
        · exact g1 x hx
      · rcases g3 with ⟨x, hx, e⟩ | e
        · exact .inl ⟨x, List.mem_cons_of_mem _ hx, e⟩
        · rw [h1] at e
          have e' : m1 = m := Option.some.inj e
          rcases h3 with h3 | h3
          · exact .inl ⟨b, List.mem_cons_self, by omega⟩
          · exact .inr (by rw [h3, e'])
theorem fewest_none {cs : List Int} {own : Int} {wh : Nat} (h : sets cs own wh = []) : fewest cs own wh = none := by
  unfold fewest
  rw [h]
  rfl
theorem fewest_some {cs : List Int} {own : Int} {wh : Nat} (h : sets cs own wh ≠ []) : ∃ m, fewest cs own wh = some m ∧ (∀ b ∈ sets cs own wh, m ≤ pc b) ∧ ∃ b ∈ sets cs own wh, pc b = m := by
  unfold fewest
  rcases few_fold (sets cs own wh) none with ⟨e, _⟩ | ⟨m, h1, h2, _, h4⟩
  · exact absurd e h
  · refine ⟨m, h1, h2, ?_⟩
    rcases h4 with h4 | h4
    · exact h4
    · cases h4
theorem pc_nonneg (b : Int) : 0 ≤ pc b := by
  rw [pc_eq]
  omega
theorem fewest_own {cs : List Int} {own : Int} {ch : Nat} (hf : Fit cs) (hc : cs[ch]? = some own) (h0 : 0 ≤ own) : fewest cs own ch = some 0 := by
  have hz : (0 : Int) ∈ sets cs own ch := by
    unfold sets subs
    rw [List.mem_filter, List.mem_filter]
    refine ⟨⟨?_, has_zero own⟩, ?_⟩
    · unfold upto
      exact List.mem_map.mpr ⟨0, List.mem_range.mpr (by omega), rfl⟩
    · rw [Int.sub_zero]
      exact decide_eq_true (fit_falls hf hc)
  obtain ⟨m, h1, h2, b, hb, e⟩ := fewest_some (fun z => by rw [z] at hz; cases hz)
  have h3 := h2 0 hz
  have h4 : pc 0 = 0 := by decide
  have h5 := pc_nonneg b
  have : m = 0 := by omega
  rw [h1, this]
end Mt

/-! teeth bit by bit: what two have in common, what one lacks; the sets of broken teeth -/
namespace Mt
open PySem L2
theorem of_bits {x s0 s1 s2 s3 s4 s5 s6 : Int} (h : x = s0 + (2 * s1 + (4 * s2 + (8 * s3 + (16 * s4 + (32 * s5 + (64 * s6 + 0)))))))
    (h0 : 0 ≤ s0 ∧ s0 ≤ 1) (h1 : 0 ≤ s1 ∧ s1 ≤ 1) (h2 : 0 ≤ s2 ∧ s2 ≤ 1) (h3 : 0 ≤ s3 ∧ s3 ≤ 1) (h4 : 0 ≤ s4 ∧ s4 ≤ 1) (h5 : 0 ≤ s5 ∧ s5 ≤ 1) (h6 : 0 ≤ s6 ∧ s6 ≤ 1) :
    x / 1 % 2 = s0 ∧ x / 2 % 2 = s1 ∧ x / 4 % 2 = s2 ∧ x / 8 % 2 = s3 ∧ x / 16 % 2 = s4 ∧ x / 32 % 2 = s5 ∧ x / 64 % 2 = s6 ∧ 0 ≤ x ∧ x < 128 := by
  have st : ∀ (n r y s t : Int), 0 < n → x = r + n * y → 0 ≤ r → r < n → y = s + 2 * t → 0 ≤ s → s ≤ 1 → x / n % 2 = s := by
    intro n r y s t hn hx h1 h2 hy h3 h4
    have e : x / n = y := by
      rw [hx, Int.add_mul_ediv_left _ _ (by omega), Int.ediv_eq_zero_of_lt h1 h2, Int.zero_add]
    rw [e, hy]
    omega
  refine ⟨st 1 0 x s0 (s1 + 2 * s2 + 4 * s3 + 8 * s4 + 16 * s5 + 32 * s6) (by omega) (by omega) (by omega) (by omega) (by omega) (by omega) (by omega),
    st 2 s0 (s1 + 2 * (s2 + 2 * s3 + 4 * s4 + 8 * s5 + 16 * s6)) s1 _ (by omega) (by omega) (by omega) (by omega) rfl (by omega) (by omega),
    st 4 (s0 + 2 * s1) (s2 + 2 * (s3 + 2 * s4 + 4 * s5 + 8 * s6)) s2 _ (by omega) (by omega) (by omega) (by omega) rfl (by omega) (by omega),
    st 8 (s0 + 2 * s1 + 4 * s2) (s3 + 2 * (s4 + 2 * s5 + 4 * s6)) s3 _ (by omega) (by omega) (by omega) (by omega) rfl (by omega) (by omega),
    st 16 (s0 + 2 * s1 + 4 * s2 + 8 * s3) (s4 + 2 * (s5 + 2 * s6)) s4 _ (by omega) (by omega) (by omega) (by omega) rfl (by omega) (by omega),
    st 32 (s0 + 2 * s1 + 4 * s2 + 8 * s3 + 16 * s4) (s5 + 2 * s6) s5 _ (by omega) (by omega) (by omega) (by omega) rfl (by omega) (by omega),
    st 64 (s0 + 2 * s1 + 4 * s2 + 8 * s3 + 16 * s4 + 32 * s5) (s6 + 2 * 0) s6 _ (by omega) (by omega) (by omega) (by omega) rfl (by omega) (by omega), by omega, by omega⟩
theorem sum_filter (p : Int → Bool) : ∀ l : List Int, (l.filter p).sum = (l.map fun b => if p b then b else 0).sum
  | [] => rfl
  | b :: l => by
    rw [List.filter_cons, List.map_cons, List.sum_cons, ← sum_filter p l]
    by_cases h : p b = true
    · rw [if_pos h, if_pos h, List.sum_cons]
    · rw [if_neg h, if_neg h, Int.zero_add]
def bitsL : List Int := [1, 2, 4, 8, 16, 32, 64]
/-- the teeth that both have -/
def shared (a c : Int) : Int := (bitsL.filter fun b => decide (a / b % 2 = 1) && decide (c / b % 2 = 1)).sum
/-- the teeth that the other one lacks -/
def lacks (a c : Int) : Int := (bitsL.filter fun b => decide (a / b % 2 = 1) && decide (c / b % 2 = 0)).sum
theorem two (x : Int) : 0 ≤ x % 2 ∧ x % 2 ≤ 1 := by omega
def sb (p : Bool) : Int := if p then 1 else 0
theorem sb_b (p : Bool) : 0 ≤ sb p ∧ sb p ≤ 1 := by cases p <;> decide
theorem by_filter (p : Int → Bool) : (bitsL.filter p).sum = sb (p 1) + (2 * sb (p 2) + (4 * sb (p 4) + (8 * sb (p 8) + (16 * sb (p 16) + (32 * sb (p 32) + (64 * sb (p 64) + 0)))))) := by
  rw [sum_filter]
  show (if p 1 then (1 : Int) else 0) + ((if p 2 then (2 : Int) else 0) + ((if p 4 then (4 : Int) else 0) + ((if p 8 then (8 : Int) else 0) + ((if p 16 then (16 : Int) else 0) + ((if p 32 then (32 : Int) else 0) + ((if p 64 then (64 : Int) else 0) + 0)))))) = _
  have e : ∀ (b : Int) (q : Bool), (if q then b else 0) = b * sb q := fun b q => by cases q <;> simp [sb]
  rw [e 1, e 2, e 4, e 8, e 16, e 32, e 64, Int.one_mul]
/-- teeth, one by one -/
structure Bits (x : Int) (f : Int → Int) : Prop where
  at_ : ∀ b ∈ bitsL, x / b % 2 = f b
  lo : 0 ≤ x
  hi : x < 128
theorem bits_filter (p : Int → Bool) : Bits (bitsL.filter p).sum (fun b => sb (p b)) := by
  obtain ⟨a0, a1, a2, a3, a4, a5, a6, l, h⟩ := of_bits (by_filter p) (sb_b _) (sb_b _) (sb_b _) (sb_b _) (sb_b _) (sb_b _) (sb_b _)
  refine ⟨fun b hb => ?_, l, h⟩
  simp only [bitsL, List.mem_cons, List.not_mem_nil, or_false] at hb
  rcases hb with rfl | rfl | rfl | rfl | rfl | rfl | rfl
  · exact a0
  · exact a1
  · exact a2
  · exact a3
  · exact a4
  · exact a5
  · exact a6
theorem has_iff {t o : Int} : has t o = true ↔ ∀ b ∈ bitsL, o / b % 2 ≤ t / b % 2 := by
  unfold has
  rw [decide_eq_true_iff]
  constructor
  · intro h b hb
    simp only [bitsL, List.mem_cons, List.not_mem_nil, or_false] at hb
    rcases hb with rfl | rfl | rfl | rfl | rfl | rfl | rfl
    · exact h 0 (by decide)
    · exact h 1 (by decide)
    · exact h 2 (by decide)
    · exact h 3 (by decide)
    · exact h 4 (by decide)
    · exact h 5 (by decide)
    · exact h 6 (by decide)
  · intro h k hk
    match k, hk with
    | 0, _ => exact h 1 (by decide)
    | 1, _ => exact h 2 (by decide)
    | 2, _ => exact h 4 (by decide)
    | 3, _ => exact h 8 (by decide)
    | 4, _ => exact h 16 (by decide)
    | 5, _ => exact h 32 (by decide)
    | 6, _ => exact h 64 (by decide)
theorem has_trans {a b c : Int} (h1 : has a b = true) (h2 : has b c = true) : has a c = true :=
  has_iff.mpr fun k hk => Int.le_trans (has_iff.mp h2 k hk) (has_iff.mp h1 k hk)
theorem shared_bit (a c : Int) : ∀ b ∈ bitsL, shared a c / b % 2 = sb (decide (a / b % 2 = 1) && decide (c / b % 2 = 1)) := (bits_filter _).at_
theorem shared_le (a c : Int) : has a (shared a c) = true ∧ has c (shared a c) = true := by
  constructor
  · refine has_iff.mpr fun b hb => ?_
    rw [shared_bit a c b hb]
    have := two (a / b)
    by_cases h : a / b % 2 = 1
    · have := sb_b (decide (a / b % 2 = 1) && decide (c / b % 2 = 1)); omega
    · rw [decide_eq_false h]; show (0 : Int) ≤ _; omega
  · refine has_iff.mpr fun b hb => ?_
    rw [shared_bit a c b hb]
    have := two (c / b)
    by_cases h : c / b % 2 = 1
    · have := sb_b (decide (a / b % 2 = 1) && decide (c / b % 2 = 1)); omega
    · rw [decide_eq_false h, Bool.and_false]; show (0 : Int) ≤ _; omega
theorem shared_greatest {a c x : Int} (h1 : has a x = true) (h2 : has c x = true) : has (shared a c) x = true := by
  refine has_iff.mpr fun b hb => ?_
  rw [shared_bit a c b hb]
  have q1 := has_iff.mp h1 b hb
  have q2 := has_iff.mp h2 b hb
  have t1 := two (x / b)
  have t2 := two (a / b)
  have t3 := two (c / b)
  by_cases h : x / b % 2 = 0
  · have := sb_b (decide (a / b % 2 = 1) && decide (c / b % 2 = 1)); omega
  · have ha : a / b % 2 = 1 := by omega
    have hc : c / b % 2 = 1 := by omega
    rw [decide_eq_true ha, decide_eq_true hc]
    show _ ≤ (1 : Int)
    omega
theorem lin7 {a x a0 a1 a2 a3 a4 a5 a6 x0 x1 x2 x3 x4 x5 x6 : Int} (ha : a = a0 + 2 * a1 + 4 * a2 + 8 * a3 + 16 * a4 + 32 * a5 + 64 * a6) (hx : x = x0 + 2 * x1 + 4 * x2 + 8 * x3 + 16 * x4 + 32 * x5 + 64 * x6) :
    a - x = (a0 - x0) + (2 * (a1 - x1) + (4 * (a2 - x2) + (8 * (a3 - x3) + (16 * (a4 - x4) + (32 * (a5 - x5) + (64 * (a6 - x6) + 0)))))) := by omega
theorem dif2 {p q : Int} (hp : 0 ≤ p ∧ p ≤ 1) (hq : 0 ≤ q ∧ q ≤ 1) (h : q ≤ p) : 0 ≤ p - q ∧ p - q ≤ 1 := by omega
/-- teeth broken off -/
theorem sub_bit {a x : Int} (ha : 0 ≤ a ∧ a < 128) (hx : 0 ≤ x ∧ x < 128) (h : has a x = true) : Bits (a - x) (fun b => a / b % 2 - x / b % 2) := by
  have q := has_iff.mp h
  have q0 := q 1 (by decide)
  have q1 := q 2 (by decide)
  have q2 := q 4 (by decide)
  have q3 := q 8 (by decide)
  have q4 := q 16 (by decide)
  have q5 := q 32 (by decide)
  have q6 := q 64 (by decide)
  have ba := bits_of ha
  have bx := bits_of hx
  have e := lin7 ba bx
  have bd : ∀ b : Int, x / b % 2 ≤ a / b % 2 → 0 ≤ a / b % 2 - x / b % 2 ∧ a / b % 2 - x / b % 2 ≤ 1 := fun b hb => dif2 (two _) (two _) hb
  obtain ⟨r0, r1, r2, r3, r4, r5, r6, l, hh⟩ := of_bits e (bd 1 q0) (bd 2 q1) (bd 4 q2) (bd 8 q3) (bd 16 q4) (bd 32 q5) (bd 64 q6)
  refine ⟨fun b hb => ?_, l, hh⟩
  simp only [bitsL, List.mem_cons, List.not_mem_nil, or_false] at hb
  rcases hb with rfl | rfl | rfl | rfl | rfl | rfl | rfl
  · exact r0
  · exact r1
  · exact r2
  · exact r3
  · exact r4
  · exact r5
  · exact r6
theorem sub_has {a x : Int} (ha : 0 ≤ a ∧ a < 128) (hx : 0 ≤ x ∧ x < 128) (h : has a x = true) : has a (a - x) = true ∧ 0 ≤ a - x ∧ a - x < 128 := by
  have B := sub_bit ha hx h
  refine ⟨has_iff.mpr fun b hb => ?_, B.lo, B.hi⟩
  rw [B.at_ b hb]
  have := two (x / b)
  show a / b % 2 - x / b % 2 ≤ _
  omega
theorem shared_b (a c : Int) : 0 ≤ shared a c ∧ shared a c < 128 := ⟨(bits_filter _).lo, (bits_filter _).hi⟩
theorem upto_has {n : Nat} {b : Int} (h0 : 0 ≤ b) (h1 : b < (n : Int)) : b ∈ upto n := by
  unfold upto
  exact List.mem_map.mpr ⟨b.toNat, List.mem_range.mpr (by omega), by omega⟩
theorem subs_iff {own b : Int} (h : 0 ≤ own) : b ∈ subs own ↔ 0 ≤ b ∧ b ≤ own ∧ has own b = true := by
  unfold subs
  rw [List.mem_filter]
  constructor
  · rintro ⟨h1, h2⟩
    have := upto_mem h1
    exact ⟨this.1, by omega, h2⟩
  · rintro ⟨h1, h2, h3⟩
    exact ⟨upto_has h1 (by omega), h3⟩
theorem sets_iff {cs : List Int} {own b : Int} {wh : Nat} (h : 0 ≤ own) : b ∈ sets cs own wh ↔ 0 ≤ b ∧ b ≤ own ∧ has own b = true ∧ falls cs (own - b) = some wh := by
  unfold sets
  rw [List.mem_filter, subs_iff h, decide_eq_true_iff]
  constructor
  · rintro ⟨⟨h1, h2, h3⟩, h4⟩
    exact ⟨h1, h2, h3, h4⟩
  · rintro ⟨h1, h2, h3, h4⟩
    exact ⟨⟨h1, h2, h3⟩, h4⟩
/-- no channel ahead of that one has all of what both have in common -/
def Can (cs : List Int) (own cw : Int) (wh : Nat) : Prop := ∀ (k : Nat) c, k < wh → cs[k]? = some c → has c (shared own cw) = false
theorem falls_shared {cs : List Int} {own cw : Int} {wh : Nat} (hw : cs[wh]? = some cw) (h : Can cs own cw wh) : falls cs (shared own cw) = some wh :=
  falls_some hw (shared_le own cw).2 fun j c hj hc => h j c hj hc
theorem can_iff {cs : List Int} {own cw : Int} {wh : Nat} (ho : 0 ≤ own ∧ own < 128) (hw : cs[wh]? = some cw) : sets cs own wh ≠ [] ↔ Can cs own cw wh := by
  constructor
  · intro h k c hk hc
    obtain ⟨b, hb⟩ := List.exists_mem_of_ne_nil _ h
    obtain ⟨h1, h2, h3, h4⟩ := (sets_iff ho.1).mp hb
    obtain ⟨q1, q2, q3⟩ := sub_has ho ⟨h1, by omega⟩ h3
    obtain ⟨⟨c', hc', hh⟩, hn⟩ := falls_spec h4
    rw [hw] at hc'
    cases hc'
    have g := shared_greatest q1 hh
    cases z : has c (shared own cw) with
    | false => rfl
    | true =>
      have := hn k c hk hc
      rw [has_trans z g] at this
      cases this
  · intro h e
    have hsh := shared_b own cw
    have hle := (shared_le own cw).1
    obtain ⟨q1, q2, q3⟩ := sub_has ho hsh hle
    have hm : own - shared own cw ∈ sets cs own wh := (sets_iff ho.1).mpr ⟨q2, by omega, q1, by
      rw [show own - (own - shared own cw) = shared own cw by omega]
      exact falls_shared hw h⟩
    rw [e] at hm
    cases hm
/-- a channel behind that one left out: the same sets -/
theorem falls_erase {cs : List Int} {t : Int} {wh n : Nat} (hn : wh < n) : falls (cs.eraseIdx n) t = some wh ↔ falls cs t = some wh := by
  have at_ : ∀ j : Nat, j ≤ wh → (cs.eraseIdx n)[j]? = cs[j]? := fun j hj => by
    rw [List.getElem?_eraseIdx, if_pos (by omega)]
  constructor
  · intro h
    obtain ⟨⟨c, hc, hh⟩, hno⟩ := falls_spec h
    rw [at_ wh (Nat.le_refl _)] at hc
    exact falls_some hc hh fun j c' hj hc' => hno j c' hj (by rw [at_ j (by omega)]; exact hc')
  · intro h
    obtain ⟨⟨c, hc, hh⟩, hno⟩ := falls_spec h
    rw [← at_ wh (Nat.le_refl _)] at hc
    exact falls_some hc hh fun j c' hj hc' => hno j c' hj (by rw [← at_ j (by omega)]; exact hc')
theorem sets_erase {cs : List Int} {own : Int} {wh n : Nat} (hn : wh < n) : sets (cs.eraseIdx n) own wh = sets cs own wh := by
  unfold sets
  congr 1
  funext b
  rw [decide_eq_decide]
  exact falls_erase hn
theorem fit_sub {xs ys : List Int} (h : xs.Sublist ys) (f : Fit ys) : Fit xs := by
  have f' : ys.Pairwise fun a b => has a b = false := by
    rw [List.pairwise_iff_getElem]
    intro i j hi hj hij
    exact f i j _ _ hij (List.getElem?_eq_getElem hi) (List.getElem?_eq_getElem hj)
  have g := List.Pairwise.sublist h f'
  intro j k c d hjk hj hk
  obtain ⟨hj', ej⟩ := List.getElem?_eq_some_iff.mp hj
  obtain ⟨hk', ek⟩ := List.getElem?_eq_some_iff.mp hk
  have := List.pairwise_iff_getElem.mp g j k hj' hk' hjk
  rw [ej, ek] at this
  exact this
theorem fewest_iff {cs : List Int} {own : Int} {wh : Nat} : (fewest cs own wh).isSome = true ↔ sets cs own wh ≠ [] := by
  constructor
  · intro h e
    rw [fewest_none e] at h
    cases h
  · intro h
    obtain ⟨m, e, _⟩ := fewest_some h
    rw [e]
    rfl
end Mt

namespace L2
open PySem PySem.Spec PyProof.Rows

/-! ### lists of pairs as tables -/
section
variable {κ : Type} [DecidableEq κ]
def valV (kvs : List (κ × V)) (k : κ) : Option V := (kvs.find? fun kv => decide (kv.1 = k)).map (·.2)
/-- in its place, or at the end -/
def putK (kvs : List (κ × V)) (k : κ) (v : V) : List (κ × V) :=
  if (kvs.any fun kv => decide (kv.1 = k)) = true then kvs.map (fun kv => if kv.1 = k then (kv.1, v) else kv) else kvs ++ [(k, v)]
def dropK (kvs : List (κ × V)) (k : κ) : List (κ × V) := kvs.filter fun kv => decide (kv.1 ≠ k)

theorem valV_nil {k : κ} : valV ([] : List (κ × V)) k = none := rfl
theorem valV_pos {p : κ × V} {r : List (κ × V)} {k : κ} (e : p.1 = k) : valV (p :: r) k = some p.2 := by simp [valV, List.find?_cons, e]
theorem valV_neg {p : κ × V} {r : List (κ × V)} {k : κ} (e : ¬ p.1 = k) : valV (p :: r) k = valV r k := by simp [valV, List.find?_cons, e]
theorem valV_any (k : κ) : ∀ kvs : List (κ × V), (kvs.any fun kv => decide (kv.1 = k)) = (valV kvs k).isSome
  | [] => rfl
  | p :: r => by
    rw [List.any_cons]
    by_cases e : p.1 = k
    · simp only [valV_pos e, decide_eq_true e, Bool.true_or, Option.isSome_some]
    · rw [valV_neg e, decide_eq_false e, Bool.false_or]; exact valV_any k r
theorem valV_map (k j : κ) (y : V) : ∀ kvs : List (κ × V), valV (kvs.map fun kv => if kv.1 = k then (kv.1, y) else kv) j = (valV kvs j).map fun x => if j = k then y else x
  | [] => rfl
  | p :: r => by
    have ih := valV_map k j y r
    rw [List.map_cons]
    by_cases h : p.1 = k
    · rw [if_pos h]
      by_cases e : p.1 = j
      · rw [valV_pos (p := (p.1, y)) e, valV_pos e, Option.map_some, if_pos (e.symm.trans h)]
      · rw [valV_neg (p := (p.1, y)) e, valV_neg e, ih]
    · rw [if_neg h]
      by_cases e : p.1 = j
      · rw [valV_pos (p := p) e, valV_pos e, Option.map_some, if_neg (fun z => h (e.trans z))]
      · rw [valV_neg (p := p) e, valV_neg e, ih]
theorem valV_snoc (k j : κ) (y : V) : ∀ kvs : List (κ × V), valV kvs k = none → valV (kvs ++ [(k, y)]) j = if j = k then some y else valV kvs j
  | [], _ => by
    by_cases e : k = j
    · rw [if_pos e.symm]; exact valV_pos (p := (k, y)) e
    · rw [if_neg (fun z => e z.symm)]; exact valV_neg (p := (k, y)) e
  | p :: r, hn => by
    rw [List.cons_append]
    have hk : ¬ p.1 = k := fun z => by rw [valV_pos z] at hn; cases hn
    rw [valV_neg hk] at hn
    have ih := valV_snoc k j y r hn
    by_cases e : p.1 = j
    · rw [valV_pos e, valV_pos e, if_neg (fun z => hk (e.trans z))]
    · rw [valV_neg e, valV_neg e, ih]
theorem valV_put (kvs : List (κ × V)) (k j : κ) (y : V) : valV (putK kvs k y) j = if j = k then some y else valV kvs j := by
  unfold putK
  by_cases a : (kvs.any fun kv => decide (kv.1 = k)) = true
  · rw [if_pos a, valV_map]
    rw [valV_any] at a
    by_cases e : j = k
    · obtain ⟨x, hx⟩ := Option.isSome_iff_exists.mp a
      rw [if_pos e, e, hx, Option.map_some, if_pos rfl]
    · rw [if_neg e]
      cases valV kvs j with
      | none => rfl
      | some x => rw [Option.map_some, if_neg e]
  · rw [if_neg a]
    refine valV_snoc k j y kvs ?_
    rw [valV_any] at a
    cases q : valV kvs k with
    | none => rfl
    | some x => rw [q] at a; exact (a rfl).elim
theorem length_putK (kvs : List (κ × V)) (k : κ) (v : V) : (putK kvs k v).length ≤ kvs.length + 1 := by
  unfold putK
  split
  · rw [List.length_map]; omega
  · rw [List.length_append, List.length_cons, List.length_nil]; omega
theorem putK_new {kvs : List (κ × V)} {k : κ} (v : V) (h : valV kvs k = none) : putK kvs k v = kvs ++ [(k, v)] := by
  unfold putK
  rw [valV_any, h]
  exact if_neg (by decide)

theorem RelO.isSome_eq {o : Option V} {u : Option Value} (r : RelO o u) : o.isSome = u.isSome := by
  cases o with
  | none => cases u with
    | none => rfl
    | some _ => exact (show False from r).elim
  | some _ => cases u with
    | none => exact (show False from r).elim
    | some _ => rfl
theorem RelO.getD {o : Option V} {u : Option Value} {d : V} {d' : Value} (r : RelO o u) (rd : RelV d d') : RelV (o.getD d) (u.getD d') := by
  cases o with
  | none => cases u with
    | none => exact rd
    | some _ => exact (show False from r).elim
  | some _ => cases u with
    | none => exact (show False from r).elim
    | some _ => exact r

/-- raw tables of the same keys -/
theorem KV.val {kvs : List (κ × V)} {vs : List (κ × Value)} (r : KV kvs vs) (k : κ) : RelO (valV kvs k) (valueAt vs k) := by
  unfold KV at r
  induction r with
  | nil => exact True.intro
  | @cons p q ps qs h t ih =>
    obtain ⟨h1, h2⟩ := h
    by_cases e : p.1 = k
    · have e' : q.1 = k := h1.symm.trans e
      have b : valueAt (q :: qs) k = some q.2 := by simp [valueAt, List.find?_cons, e']
      rw [valV_pos e, b]; exact h2
    · have e' : ¬ q.1 = k := fun z => e (h1.trans z)
      have b : valueAt (q :: qs) k = valueAt qs k := by simp [valueAt, List.find?_cons, e']
      rw [valV_neg e, b]; exact ih
theorem KV.any {kvs : List (κ × V)} {vs : List (κ × Value)} (r : KV kvs vs) (k : κ) : (kvs.any fun kv => decide (kv.1 = k)) = vs.any fun kv => decide (kv.1 = k) := by
  unfold KV at r
  induction r with
  | nil => rfl
  | cons h t ih => rw [List.any_cons, List.any_cons, ih, h.1]
theorem KV.repl {kvs : List (κ × V)} {vs : List (κ × Value)} (r : KV kvs vs) (k : κ) {y : V} {u : Value} (ry : RelV y u) :
    KV (kvs.map fun kv => if kv.1 = k then (kv.1, y) else kv) (vs.map fun kv => if kv.1 = k then (kv.1, u) else kv) := by
  unfold KV at r ⊢
  induction r with
  | nil => exact .nil
  | @cons p q ps qs h t ih =>
    rw [List.map_cons, List.map_cons]
    refine .cons ?_ ih
    obtain ⟨h1, h2⟩ := h
    by_cases e : p.1 = k
    · rw [if_pos e, if_pos (h1.symm.trans e)]; exact ⟨h1, ry⟩
    · rw [if_neg e, if_neg (fun z => e (h1.trans z))]; exact ⟨h1, h2⟩
theorem KV.put {kvs : List (κ × V)} {vs : List (κ × Value)} (r : KV kvs vs) (k : κ) {y : V} {u : Value} (ry : RelV y u) : KV (putK kvs k y) (stored vs k u) := by
  unfold putK stored
  rw [r.any k]
  by_cases e : (vs.any fun kv => decide (kv.1 = k)) = true
  · rw [if_pos e, if_pos e]; exact r.repl k ry
  · rw [if_neg e, if_neg e]; exact Paired.snoc r ⟨rfl, ry⟩
theorem KV.drop {kvs : List (κ × V)} {vs : List (κ × Value)} (r : KV kvs vs) (k : κ) : KV (dropK kvs k) (without vs k) := by
  unfold KV at r ⊢
  unfold dropK without
  induction r with
  | nil => exact .nil
  | @cons p q ps qs h t ih =>
    obtain ⟨h1, h2⟩ := h
    rw [List.filter_cons, List.filter_cons]
    by_cases e : p.1 = k
    · have a : ¬ decide (p.1 ≠ k) = true := by simp [e]
      have b : ¬ decide (q.1 ≠ k) = true := by simp [h1.symm.trans e]
      rw [if_neg a, if_neg b]; exact ih
    · have e' : ¬ q.1 = k := fun z => e (h1.trans z)
      have a : decide (p.1 ≠ k) = true := by simp [e]
      have b : decide (q.1 ≠ k) = true := by simp [e']
      rw [if_pos a, if_pos b]; exact .cons ⟨h1, h2⟩ ih
theorem KV.keys {kvs : List (κ × V)} {vs : List (κ × Value)} (r : KV kvs vs) : kvs.map (·.1) = vs.map (·.1) := by
  unfold KV at r
  induction r with
  | nil => rfl
  | cons h t ih => rw [List.map_cons, List.map_cons, ih, h.1]
theorem KV.length {kvs : List (κ × V)} {vs : List (κ × Value)} (r : KV kvs vs) : kvs.length = vs.length := Paired.length r
theorem dropK_le (kvs : List (κ × V)) (k : κ) : (dropK kvs k).length ≤ kvs.length := List.length_filter_le _ _
end


/-! ### a tracked dict, its keys ints and texts or tuples of these -/
theorem kV_is {P : Program} {w : World} {k : Key} {u : Value} (r : RelV (kV k) u) : (mixKind P w).is k u = true := by
  cases k with
  | inl i => obtain ⟨t, e⟩ := (show ∃ t, u = Value.int i t from r); subst e; exact mixKind_int P w i t
  | inr x => obtain ⟨t, e⟩ := (show ∃ t, u = Value.str x t from r); subst e; exact mixKind_str P w x t
theorem kV_inj {a b : Key} (e : kV a = kV b) : a = b := by
  cases a with
  | inl i => cases b with
    | inl j => have e' : V.int i = V.int j := e; injection e' with e'; rw [e']
    | inr y => exact nomatch (show V.int i = V.str y from e)
  | inr x => cases b with
    | inl j => exact nomatch (show V.str x = V.int j from e)
    | inr y => have e' : V.str x = V.str y := e; injection e' with e'; rw [e']
theorem kVs_inj : ∀ {a b : List Key}, a.map kV = b.map kV → a = b
  | [], [], _ => rfl
  | [], _ :: _, e => by simp at e
  | _ :: _, [], e => by simp at e
  | x :: xs, y :: ys, e => by
    rw [List.map_cons, List.map_cons] at e
    injection e with e1 e2
    rw [kV_inj e1, kVs_inj e2]
theorem items_are {P : Program} {w : World} : ∀ {ks : List Key} {us : List Value}, Vals (ks.map kV) us → ItemsAre (mixKind P w) ks us
  | [], _, r => by rw [List.map_nil] at r; cases r; exact .nil
  | k :: ks, _, r => by
    rw [List.map_cons] at r
    cases r with
    | cons h t => exact .cons (kV_is h) (items_are t)

/-- raw entries of a dict with tuple keys -/
abbrev KT (H : Hp) : List (List Key × V) → List (List Key × Addr × Value) → Prop := Paired fun p q => p.1 = q.1 ∧ H q.2.1 = some (.tup (p.1.map kV)) ∧ RelV p.2 q.2.2
theorem KT.val {H : Hp} {kvs : List (List Key × V)} {xs : List (List Key × Addr × Value)} (r : KT H kvs xs) (k : List Key) : RelO (valV kvs k) ((atKey xs k).map (·.2)) := by
  induction r with
  | nil => exact True.intro
  | @cons p q ps qs h t ih =>
    obtain ⟨h1, _, h2⟩ := h
    by_cases e : p.1 = k
    · have e' : q.1 = k := h1.symm.trans e
      have b : atKey (q :: qs) k = some q.2 := by simp [atKey, List.find?_cons, e']
      rw [valV_pos e, b]; exact h2
    · have e' : ¬ q.1 = k := fun z => e (h1.trans z)
      have b : atKey (q :: qs) k = atKey qs k := by simp [atKey, List.find?_cons, e']
      rw [valV_neg e, b]; exact ih
theorem KT.repl {H : Hp} {kvs : List (List Key × V)} {xs : List (List Key × Addr × Value)} (r : KT H kvs xs) (k : List Key) {y : V} {u : Value} (ry : RelV y u) :
    KT H (kvs.map fun kv => if kv.1 = k then (kv.1, y) else kv) (xs.map (putAt k u)) := by
  induction r with
  | nil => exact .nil
  | @cons p q ps qs h t ih =>
    rw [List.map_cons, List.map_cons]
    refine .cons ?_ ih
    obtain ⟨h1, h2, h3⟩ := h
    unfold putAt
    by_cases e : p.1 = k
    · rw [if_pos e, if_pos (h1.symm.trans e)]; exact ⟨h1, h2, ry⟩
    · rw [if_neg e, if_neg (fun z => e (h1.trans z))]; exact ⟨h1, h2, h3⟩
theorem KT.put {H : Hp} {kvs : List (List Key × V)} {xs : List (List Key × Addr × Value)} (r : KT H kvs xs) (k : List Key) {b : Addr} {y : V} {u : Value} (hb : H b = some (.tup (k.map kV))) (ry : RelV y u) :
    KT H (putK kvs k y) (storedH xs k b u) := by
  have e : (kvs.any fun kv => decide (kv.1 = k)) = (atKey xs k).isSome := by
    rw [valV_any, (r.val k).isSome_eq, Option.isSome_map]
  unfold putK storedH
  rw [e]
  by_cases q : (atKey xs k).isSome = true
  · rw [if_pos q, if_pos q]; exact r.repl k ry
  · rw [if_neg q, if_neg q]; exact Paired.snoc r ⟨rfl, hb, ry⟩
theorem KT.keeps {H H' : Hp} {kvs : List (List Key × V)} {xs : List (List Key × Addr × Value)} (r : KT H kvs xs) (ht : ∀ b ys, H b = some (.tup ys) → H' b = some (.tup ys)) : KT H' kvs xs :=
  Paired.mapP r fun _ _ z => ⟨z.1, ht _ _ z.2.1, z.2.2⟩

section
variable {P : Program} {w : World} {H : Hp} {h : Heap} {a : Addr}
theorem rd_of {u : HO} (ok : HOk P w H h) (e : Rd H a u) : ObjOk P w H h a u := e.ok ok
theorem dk_rd {kvs : List (Key × V)} (ok : HOk P w H h) (e : Rd H a (.dK kvs)) : kvs.length ≤ sizeLine ∧ (a == sysModules) = false ∧ ∃ vs, KV kvs vs ∧ h.DictOf (mixKind P w) a vs :=
  show ObjOk P w H h a (.dK kvs) from rd_of ok e
theorem dk_of {kvs : List (Key × V)} (ok : HOk P w H h) (e : H a = some (.dK kvs)) : kvs.length ≤ sizeLine ∧ (a == sysModules) = false ∧ ∃ vs, KV kvs vs ∧ h.DictOf (mixKind P w) a vs := dk_rd ok (.inl e)
/-- a tracked tuple of ints and texts is a key -/
theorem key_of {ks : List Key} (ok : HOk P w H h) (e : H a = some (.tup (ks.map kV))) : (tupleKind (mixKind P w)).is h ks a := by
  obtain ⟨_, its, r, o, h1, h2, n, h3⟩ := (show ObjOk P w H h a (.tup (ks.map kV)) from ok a _ e)
  exact ⟨o, its.toArray, n, h1, h2, h3, by simpa using items_are r⟩
theorem dt_rd {kvs : List (List Key × V)} (ok : HOk P w H h) (e : Rd H a (.dT kvs)) : kvs.length ≤ sizeLine ∧ (a == sysModules) = false ∧
    ∃ xs, KT H kvs xs ∧ h.DictOfH (tupleKind (mixKind P w)) a xs := by
  obtain ⟨z, y, xs, r, o, es, ep, h1, h2, h3, h4, h5⟩ := (show ObjOk P w H h a (.dT kvs) from rd_of ok e)
  refine ⟨z, y, xs, r, o, es, ep, h1, h2, h3, h4, fun x hx => ?_, h5⟩
  have all : ∀ {l : List (List Key × V)} {m : List (List Key × Addr × Value)}, KT H l m → ∀ x ∈ m, (tupleKind (mixKind P w)).is h x.1 x.2.1 := by
    intro l m q
    induction q with
    | nil => intro x hx; exact nomatch hx
    | @cons p q ps qs hq t ih =>
      intro x hx
      rcases List.mem_cons.mp hx with e | hx
      · subst e
        exact key_of ok (by rw [← hq.1]; exact hq.2.1)
      · exact ih x hx
  exact all r x hx
theorem dt_of {kvs : List (List Key × V)} (ok : HOk P w H h) (e : H a = some (.dT kvs)) : kvs.length ≤ sizeLine ∧ (a == sysModules) = false ∧
    ∃ xs, KT H kvs xs ∧ h.DictOfH (tupleKind (mixKind P w)) a xs := dt_rd ok (.inl e)
end

/-- what the dict at a holds at the key y -/
def DGet (H : Hp) (a : Addr) (y : V) (r : Option V) : Prop :=
  (∃ kvs k, Rd H a (.dK kvs) ∧ y = kV k ∧ r = valV kvs k) ∨ ∃ kvs k b, Rd H a (.dT kvs) ∧ y = .ref b ∧ H b = some (.tup (k.map kV)) ∧ r = valV kvs k
/-- the heap behind a[y] = v -/
def DPut (H : Hp) (a : Addr) (y v : V) (H' : Hp) : Prop :=
  (∃ kvs k, H a = some (.dK kvs) ∧ y = kV k ∧ kvs.length < sizeLine ∧ H' = upd H a (.dK (putK kvs k v))) ∨
  ∃ kvs k b, H a = some (.dT kvs) ∧ y = .ref b ∧ H b = some (.tup (k.map kV)) ∧ kvs.length < sizeLine ∧ H' = upd H a (.dT (putK kvs k v))
theorem DGet.k {H : Hp} {a : Addr} {kvs : List (Key × V)} {k : Key} (e : H a = some (.dK kvs)) : DGet H a (kV k) (valV kvs k) := .inl ⟨kvs, k, .inl e, rfl, rfl⟩
theorem DGet.t {H : Hp} {a b : Addr} {kvs : List (List Key × V)} {k : List Key} (e : H a = some (.dT kvs)) (eb : H b = some (.tup (k.map kV))) : DGet H a (.ref b) (valV kvs k) := .inr ⟨kvs, k, b, .inl e, rfl, eb, rfl⟩
theorem DPut.k {H : Hp} {a : Addr} {kvs : List (Key × V)} {k : Key} {v : V} (e : H a = some (.dK kvs)) (hl : kvs.length < sizeLine) : DPut H a (kV k) v (upd H a (.dK (putK kvs k v))) := .inl ⟨kvs, k, e, rfl, hl, rfl⟩
theorem DPut.t {H : Hp} {a b : Addr} {kvs : List (List Key × V)} {k : List Key} {v : V} (e : H a = some (.dT kvs)) (eb : H b = some (.tup (k.map kV))) (hl : kvs.length < sizeLine) :
    DPut H a (.ref b) v (upd H a (.dT (putK kvs k v))) := .inr ⟨kvs, k, b, e, rfl, eb, hl, rfl⟩


section
variable {X : Cx} {pins : List (Addr × Obj)} {σ : St} {H : Hp} {s : Shared} {a : Addr} {y v : V} {u r : Value} {o : Option V} {A : Around} {E : Value → Shared → Prop}

theorem Inv.big (I : Inv X pins σ H s) : sysModules < s.heap.objs.size := by
  have h : mainGlobals < s.heap.objs.size := (I.mod.glob.keeps I.bk).lt
  exact Nat.lt_trans (by decide) h

/-- d[y], there -/
theorem d_getItem {Q : Value → Shared → Prop} (hu : A.units + 1 < cLine) (I : Inv X pins σ H s) (g : DGet H a y (some v)) (ry : RelV y u) (h : ∀ w' s', Inv X pins σ H s' → RelV v w' → Q w' s') :
    wpAny (model X.prog X.w) A (getItem (.ref a) u) Q E s := by
  rcases g with ⟨kvs, k, e, ey, l⟩ | ⟨kvs, k, b, e, ey, eb, l⟩
  · subst ey
    obtain ⟨z, hd, vs, rel, dd⟩ := dk_rd I.hok e
    obtain ⟨w', hw, rw'⟩ := RelO.some_of (v := v) (o := valueAt vs k) (by rw [l]; exact rel.val k)
    exact wpAny_getItem_of (kV_is ry) dd.mapOf hw (h w' _ (I.tok _) rw')
  · subst ey
    cases (show u = Value.ref b from ry)
    obtain ⟨z, hd, xs, rel, dd⟩ := dt_rd I.hok e
    obtain ⟨w', hw, rw'⟩ := RelO.some_of (v := v) (o := (atKey xs k).map (·.2)) (by rw [l]; exact rel.val k)
    obtain ⟨p, hp, hp2⟩ := Option.map_eq_some_iff.mp hw
    refine wpAny_getItem_heap (tupleKind_room_in1 hu) (key_of I.hok eb) dd hp ?_
    rw [hp2]
    exact h w' _ (I.tok _) rw'
/-- y in d -/
theorem d_in {Q : Value → Shared → Prop} (hu : A.units + 1 < cLine) (I : Inv X pins σ H s) (g : DGet H a y o) (ry : RelV y u) (h : ∀ s', Inv X pins σ H s' → Q (.bool o.isSome) s') :
    wpAny (model X.prog X.w) A (compareOp .In u (.ref a)) Q E s := by
  rcases g with ⟨kvs, k, e, ey, l⟩ | ⟨kvs, k, b, e, ey, eb, l⟩
  · subst ey
    obtain ⟨z, hd, vs, rel, dd⟩ := dk_rd I.hok e
    refine wpAny_in_of (kV_is ry) hd dd.mapOf ?_
    rw [← (rel.val k).isSome_eq, ← l]
    exact h _ (I.tok _)
  · subst ey
    cases (show u = Value.ref b from ry)
    obtain ⟨z, hd, xs, rel, dd⟩ := dt_rd I.hok e
    refine wpAny_in_heap (tupleKind_room_in1 hu) (key_of I.hok eb) hd dd ?_
    have q := (rel.val k).isSome_eq
    rw [Option.isSome_map] at q
    rw [← q, ← l]
    exact h _ (I.tok _)
theorem d_notIn {Q : Value → Shared → Prop} (hu : A.units + 1 < cLine) (I : Inv X pins σ H s) (g : DGet H a y o) (ry : RelV y u) (h : ∀ s', Inv X pins σ H s' → Q (.bool (!o.isSome)) s') :
    wpAny (model X.prog X.w) A (compareOp .NotIn u (.ref a)) Q E s := by
  rcases g with ⟨kvs, k, e, ey, l⟩ | ⟨kvs, k, b, e, ey, eb, l⟩
  · subst ey
    obtain ⟨z, hd, vs, rel, dd⟩ := dk_rd I.hok e
    refine wpAny_notIn_of (kV_is ry) hd dd.mapOf ?_
    rw [← (rel.val k).isSome_eq, ← l]
    exact h _ (I.tok _)
  · subst ey
    cases (show u = Value.ref b from ry)
    obtain ⟨z, hd, xs, rel, dd⟩ := dt_rd I.hok e
    refine wpAny_notIn_heap (tupleKind_room_in1 hu) (key_of I.hok eb) hd dd ?_
    have q := (rel.val k).isSome_eq
    rw [Option.isSome_map] at q
    rw [← q, ← l]
    exact h _ (I.tok _)
/-- a dict's object is replaced -/
theorem d_write {h' : Heap} {t' : Nat} {ob : HO} (I : Inv X pins σ H s) (mu : Mut (H a)) (hs : Heap.SameBut a s.heap h') (he : ∃ q, h'.get? a = some q) (new : ObjOk X.prog X.w (upd H a ob) h' a ob) :
    Inv X pins σ (upd H a ob) { s with heap := h', toks := t' } :=
  I.write (x := a) (e := a) mu (.inl rfl) (fun b q hb z => (hs.2 b hb).trans z) he new
theorem dk_new {P : Program} {w : World} {H' : Hp} {h' : Heap} {kvs : List (Key × V)} {vs : List (Key × Value)} (z : kvs.length ≤ sizeLine) (hd : (a == sysModules) = false) (rel : KV kvs vs) (dd : h'.DictOf (mixKind P w) a vs) :
    ObjOk P w H' h' a (.dK kvs) := ⟨z, hd, vs, rel, dd⟩
/-- d[y] = v -/
theorem d_setItem {H' : Hp} {Q : Unit → Shared → Prop} (hu : A.units + 1 < cLine) (I : Inv X pins σ H s) (g : DPut H a y v H') (ry : RelV y u) (rv : RelV v r) (h : ∀ s', Inv X pins σ H' s' → Q () s') :
    wpAny (model X.prog X.w) A (setItem (.ref a) u r) Q E s := by
  rcases g with ⟨kvs, k, e, ey, l, eH⟩ | ⟨kvs, k, b, e, ey, eb, l, eH⟩
  · subst ey eH
    obtain ⟨z, hd, vs, rel, dd⟩ := dk_of I.hok e
    have hz : vs.length ≤ sizeLine := by rw [← rel.length]; exact z
    have hl : (putK kvs k v).length ≤ sizeLine := by have := length_putK kvs k v; omega
    refine wpAny_setItem_pairs (hsz := hz) (kV_is ry) dd fun h' dd' hs => h _ ?_
    have he : ∃ q, h'.get? a = some q := let ⟨q, _, _, hq, _⟩ := dd'; ⟨q, hq⟩
    exact d_write I (by rw [e]; exact True.intro) hs he (dk_new hl hd (rel.put k rv) dd')
  · subst ey eH
    cases (show u = Value.ref b from ry)
    obtain ⟨z, hd, xs, rel, dd⟩ := dt_of I.hok e
    have hz : xs.length ≤ sizeLine := by rw [← Paired.length rel]; exact z
    have hl : (putK kvs k v).length ≤ sizeLine := by have := length_putK kvs k v; omega
    refine wpAny_setItem_heap (hsz := hz) (tupleKind_room_in1 hu) (key_of I.hok eb) dd fun h' dd' hs => h _ ?_
    obtain ⟨q, es, ep, hq, h2, h3, h4, _, h5⟩ := dd'
    refine d_write I (by rw [e]; exact True.intro) hs ⟨q, hq⟩ ⟨hl, hd, _, (rel.put k eb rv).keeps fun c ys ec => ?_, q, es, ep, hq, h2, h3, h4, h5⟩
    rw [upd_ne (ne_of ec e (fun z => nomatch z))]
    exact ec
end

section
variable {X : Cx} {pins : List (Addr × Obj)} {σ : St} {H : Hp} {s : Shared} {a : Addr} {kvs : List (Key × V)} {k : Key} {u : Value} {A : Around} {E : Value → Shared → Prop}
/-- del d[k] -/
theorem d_delItem {Q : Unit → Shared → Prop} (I : Inv X pins σ H s) (e : H a = some (.dK kvs)) (ry : RelV (kV k) u) (l : (valV kvs k).isSome = true) (h : ∀ s', Inv X pins σ (upd H a (.dK (dropK kvs k))) s' → Q () s') :
    wpAny (model X.prog X.w) A (delItem (.ref a) u) Q E s := by
  obtain ⟨z, hd, vs, rel, dd⟩ := dk_of I.hok e
  refine wpAny_delItem_slot dd.typeIs (by decide) PySem.F.slot_dict_delitem
    (call_meetsIn PySem.F.slot_dict_delitem dd.typeIs PySem.F.entry_dict_delitem (PySem.F.args_dict_delitem_2 _ _) (meets_dict_delitem_pairs (mixKind X.prog X.w) a (kV_is ry)) ⟨vs, dd, by rw [← rel.length]; exact z, by rw [← (rel.val k).isSome_eq]; exact l, fun h' dd' hs => h _ ?_⟩)
  have he : ∃ q, h'.get? a = some q := let ⟨q, _, _, hq, _⟩ := dd'; ⟨q, hq⟩
  exact d_write I (by rw [e]; exact True.intro) hs he (dk_new (Nat.le_trans (dropK_le kvs k) z) hd (rel.drop k) dd')
/-- d.pop(k[, x]), there -/
theorem d_pop {v : V} {more : List Value} {Q : Value → Shared → Prop} (I : Inv X pins σ H s) (e : H a = some (.dK kvs)) (ry : RelV (kV k) u) (l : valV kvs k = some v) (hm : more = [] ∨ ∃ x, more = [x])
    (h : ∀ w' s', Inv X pins σ (upd H a (.dK (dropK kvs k))) s' → RelV v w' → Q w' s') : wpAny (model X.prog X.w) A (call (.builtin "dict.pop") (.ref a :: u :: more)) Q E s := by
  obtain ⟨z, hd, vs, rel, dd⟩ := dk_of I.hok e
  obtain ⟨w', hw, rw'⟩ := RelO.some_of (v := v) (o := valueAt vs k) (by rw [← l]; exact rel.val k)
  have hp : (keyPart u).isSome = true := by
    cases k with
    | inl i => obtain ⟨t, q⟩ := (show ∃ t, u = Value.int i t from ry); subst q; rfl
    | inr x => obtain ⟨t, q⟩ := (show ∃ t, u = Value.str x t from ry); subst q; rfl
  have ha : argsOk "dict.pop" ⟨.ref a :: u :: more, []⟩ := by
    rcases hm with q | ⟨x, q⟩
    · subst q; exact PySem.F.args_dict_pop_2 _ _
    · subst q; exact PySem.F.args_dict_pop_3 _ _ _
  refine call_meetsIn PySem.F.slot_dict_pop dd.typeIs PySem.F.entry_dict_pop ha (meets_dict_pop_there (mixKind X.prog X.w) a (kV_is ry) more hm hp)
    ⟨vs, w', dd, by rw [← rel.length]; exact z, hw, fun h' dd' hs => h w' _ ?_ rw'⟩
  have he : ∃ q, h'.get? a = some q := let ⟨q, _, _, hq, _⟩ := dd'; ⟨q, hq⟩
  exact d_write I (by rw [e]; exact True.intro) hs he (dk_new (Nat.le_trans (dropK_le kvs k) z) hd (rel.drop k) dd')
/-- d.pop(k, x), not there -/
theorem d_popD {r : Value} {Q : Value → Shared → Prop} (I : Inv X pins σ H s) (e : H a = some (.dK kvs)) (ry : RelV (kV k) u) (l : valV kvs k = none) (h : ∀ s', Inv X pins σ H s' → Q r s') :
    wpAny (model X.prog X.w) A (call (.builtin "dict.pop") [.ref a, u, r]) Q E s := by
  obtain ⟨z, hd, vs, rel, dd⟩ := dk_of I.hok e
  have hn : valueAt vs k = none := RelO.none_of (by rw [← l]; exact rel.val k)
  have hp : (keyPart u).isSome = true := by
    cases k with
    | inl i => obtain ⟨t, q⟩ := (show ∃ t, u = Value.int i t from ry); subst q; rfl
    | inr x => obtain ⟨t, q⟩ := (show ∃ t, u = Value.str x t from ry); subst q; rfl
  exact call_meetsIn PySem.F.slot_dict_pop dd.typeIs PySem.F.entry_dict_pop (PySem.F.args_dict_pop_3 _ _ _) (meets_dict_pop_default (mixKind X.prog X.w) a (kV_is ry) hd hp r) ⟨vs, dd, hn, h _ (I.tok _)⟩
/-- d.clear() -/
theorem d_clear {Q : Value → Shared → Prop} (I : Inv X pins σ H s) (e : H a = some (.dK kvs)) (h : ∀ s', Inv X pins σ (upd H a (.dK [])) s' → Q .none s') : wpAny (model X.prog X.w) A (call (.builtin "dict.clear") [.ref a]) Q E s := by
  obtain ⟨z, hd, vs, rel, dd⟩ := dk_of I.hok e
  refine call_meetsIn PySem.F.slot_dict_clear dd.typeIs PySem.F.entry_dict_clear (PySem.F.args_dict_clear_1 _) (meets_dict_clear (mixKind X.prog X.w) a) ⟨vs, dd, by rw [← rel.length]; exact z, fun h' dd' hs => h _ ?_⟩
  have he : ∃ q, h'.get? a = some q := let ⟨q, _, _, hq, _⟩ := dd'; ⟨q, hq⟩
  exact d_write (t' := s.toks) I (by rw [e]; exact True.intro) hs he (dk_new (Nat.zero_le _) hd .nil dd')
/-- len(d) -/
theorem d_len {Q : Value → Shared → Prop} (I : Inv X pins σ H s) (e : Rd H a (.dK kvs)) (h : ∀ t s', Inv X pins σ H s' → Q (.int kvs.length t) s') : wpAny (model X.prog X.w) A (call (.builtin "len") [.ref a]) Q E s := by
  obtain ⟨z, hd, vs, rel, dd⟩ := dk_rd I.hok e
  refine call_len_dict hd dd (by rw [← rel.length]; rw [sizeLine_eq] at z; omega) ?_
  rw [← rel.length]
  exact h _ _ (I.tok _)
/-- if d -/
theorem d_truth {Q : Bool → Shared → Prop} (I : Inv X pins σ H s) (e : Rd H a (.dK kvs)) (h : ∀ s', Inv X pins σ H s' → Q (!kvs.isEmpty) s') : wpAny (model X.prog X.w) A (truthy (.ref a)) Q E s := by
  obtain ⟨z, hd, vs, rel, dd⟩ := dk_rd I.hok e
  refine wpAny_truthy_dict hd dd (by rw [← rel.length]; rw [sizeLine_eq] at z; omega) ?_
  have q : kvs.isEmpty = vs.isEmpty := by cases rel <;> rfl
  rw [← q]
  exact h _ (I.tok _)
end


/-! ### readings and rules -/
/-- the element of a subscription, not a slice -/
def NoSl (i : Expr) : Prop := ∀ ov iv, subscripted i false ov iv = operate [ov, iv] (getItem ov iv)
theorem subD_of {prog : Program} {w : World} {A : Around} {E : Value → Shared → Prop} {s : Shared} {env : Env} {value slice : Expr} {pos : Pos} {T id : String} {Q : Value → Shared → Prop}
    (hl : typeLookup (.type T) "__getitem__" = pure (some (.builtin id))) (hs : NoSl slice)
    (h : wpAny (model prog w) A (eval value env) (fun o s₁ => wpAny (model prog w) A (eval slice env) (fun i s₂ => s₂.TypeIs o T ∧ wpAny (model prog w) A (getItem o i) Q E s₂) E s₁) E s) :
    wpAny (model prog w) A (eval (.Subscript value slice pos) env) Q E s := by
  refine Subscript_ (wpAny_mono h (fun o s₁ h₁ => wpAny_mono h₁ (fun i s₂ h₂ => ?_) fun _ _ x => x) fun _ _ x => x)
  obtain ⟨hT, h₂⟩ := h₂
  unfold subscriptTail
  refine wpAny_bind ?_
  rw [getitemInPython_of_ne hT.not_modules]
  refine wpAny_bind (wpAny_specialOf hT hl ?_)
  have fin : wpAny (model prog w) A (subscripted slice false o i) (fun r s₃ => wpAny (model prog w) A (letTemporaryGo value o r >>= fun _ => pure r) Q E s₃) E s₂ := by
    rw [hs o i]
    exact wpAny_operating (wpAny_mono h₂ (fun r s₃ h₃ => wpAny_bind (wpAny_letTemporaryGo (wpAny_pure h₃))) fun _ _ x => x)
  first
    | exact wpAny_pure (wpAny_bind fin)
    | exact wpAny_bind (wpAny_pure (wpAny_bind fin))
    | exact wpAny_bind fin

theorem dict_typeIs {X : Cx} {pins : List (Addr × Obj)} {σ : St} {H : Hp} {s : Shared} {a : Addr} {y : V} {o : Option V} (I : Inv X pins σ H s) (g : DGet H a y o) : s.TypeIs (.ref a) "dict" := by
  rcases g with ⟨kvs, k, e, _, _⟩ | ⟨kvs, k, b, e, _, _, _⟩
  · obtain ⟨_, _, vs, _, dd⟩ := dk_rd I.hok e
    exact dd.typeIs
  · obtain ⟨_, _, xs, _, dd⟩ := dt_rd I.hok e
    exact dd.typeIs
theorem dict_noDict {X : Cx} {pins : List (Addr × Obj)} {σ : St} {H : Hp} {s : Shared} {a : Addr} {y : V} {o : Option V} (I : Inv X pins σ H s) (g : DGet H a y o) :
    ∀ b, Value.ref a = .ref b → ∃ ob, s.heap.get? b = some ob ∧ ob.dict = none := fun b q => by
  cases q
  rcases g with ⟨kvs, k, e, _, _⟩ | ⟨kvs, k, b, e, _, _, _⟩
  · obtain ⟨_, _, vs, _, ob, _, _, h1, h2, _⟩ := dk_rd I.hok e
    exact ⟨ob, h1, h2.2.1⟩
  · obtain ⟨_, _, xs, _, ob, _, _, h1, h2, _⟩ := dt_rd I.hok e
    exact ⟨ob, h1, h2.2.1⟩

/-- d[y] -/
def tDGet (td ty : TE) : TE := fun σ H Q => td σ H fun x H1 => ty σ H1 fun y H2 => ∃ a v, x = .ref a ∧ DGet H2 a y (some v) ∧ Q v H2
/-- y in d, y not in d -/
def tDIn (ty td : TE) : TE := fun σ H Q => ty σ H fun y H1 => td σ H1 fun x H2 => ∃ a o, x = .ref a ∧ DGet H2 a y o ∧ Q (.bl o.isSome) H2
def tDNotIn (ty td : TE) : TE := fun σ H Q => ty σ H fun y H1 => td σ H1 fun x H2 => ∃ a o, x = .ref a ∧ DGet H2 a y o ∧ Q (.bl (!o.isSome)) H2
/-- d[y] = v -/
def sDPut (td ty tv : TE) : TS := fun D σ H => tv σ H fun v H1 => td σ H1 fun x H2 => ty σ H2 fun y H3 => ∃ a H4, x = .ref a ∧ DPut H3 a y v H4 ∧ D.nx σ H4
/-- d[y] op= v -/
def sDAug (td ty tv : TE) (rd : V → V → Hp → VK → Prop) : TS := fun D σ H => td σ H fun x H1 => ty σ H1 fun y H2 => ∃ a v, x = .ref a ∧ DGet H2 a y (some v) ∧
  tv σ H2 fun y2 H3 => rd v y2 H3 fun z H4 => ∃ H5, DPut H4 a y z H5 ∧ D.nx σ H5
/-- del d[y] -/
def sDDel (td ty : TE) : TS := fun D σ H => td σ H fun x H1 => ty σ H1 fun y H2 => ∃ a kvs k, x = .ref a ∧ H2 a = some (.dK kvs) ∧ y = kV k ∧ (valV kvs k).isSome = true ∧ D.nx σ (upd H2 a (.dK (dropK kvs k)))

section
variable {X : Cx} {o i e value : Expr} {pos pos' tpos : Pos} {td ty tv : TE}
theorem pe_dget (hu : X.A.units + 1 < cLine) (ho : PE X o td) (hi : PE X i ty) (hs : NoSl i) : PE X (.Subscript o i pos) (tDGet td ty) := by
  intro pins s σ H Q I h
  refine subD_of PySem.F.slot_dict_getitem.lookup hs (thn (ho pins s σ H _ I h) fun u s1 ⟨x, H1, I1, rx, q1⟩ => thn (hi pins s1 σ H1 _ I1 q1) fun iv s2 ⟨y, H2, I2, ry, a, v, ex, g, q2⟩ => ?_)
  subst ex
  obtain rfl : u = Value.ref a := rx
  exact ⟨dict_typeIs I2 g, d_getItem hu I2 g ry fun w' s3 I3 rw' => ⟨v, H2, I3, rw', q2⟩⟩
theorem pc_din (hu : X.A.units + 1 < cLine) (hi : PE X i ty) (ho : PE X o td) : PC X .In i o (tDIn ty td) := by
  intro pins s σ H Q I h
  refine thn (hi pins s σ H _ I h) fun iv s1 ⟨y, H1, I1, ry, q1⟩ => thn (ho pins s1 σ H1 _ I1 q1) fun u s2 ⟨x, H2, I2, rx, a, ov, ex, g, q2⟩ => ?_
  subst ex
  obtain rfl : u = Value.ref a := rx
  exact d_in hu I2 g ry fun s3 I3 => ⟨.bl ov.isSome, H2, I3, rfl, q2⟩
theorem pc_dnotin (hu : X.A.units + 1 < cLine) (hi : PE X i ty) (ho : PE X o td) : PC X .NotIn i o (tDNotIn ty td) := by
  intro pins s σ H Q I h
  refine thn (hi pins s σ H _ I h) fun iv s1 ⟨y, H1, I1, ry, q1⟩ => thn (ho pins s1 σ H1 _ I1 q1) fun u s2 ⟨x, H2, I2, rx, a, ov, ex, g, q2⟩ => ?_
  subst ex
  obtain rfl : u = Value.ref a := rx
  exact d_notIn hu I2 g ry fun s3 I3 => ⟨.bl (!ov.isSome), H2, I3, rfl, q2⟩
theorem ps_dput (hu : X.A.units + 1 < cLine) (ho : PE X o td) (hi : PE X i ty) (hv : PE X value tv) (hs : swapsWith value (some (.Subscript o i pos')) pos.line X.env = pure false) :
    PS X (.Assign [.Subscript o i pos'] value pos) (sDPut td ty tv) := by
  intro pins s σ H D I h
  refine wpAny_Assign_Subscript (thn (hv pins s σ H _ I h) fun r s1 ⟨v, H1, I1, rv, q1⟩ => thn (ho pins s1 σ H1 _ I1 q1) fun u s2 ⟨x, H2, I2, rx, q2⟩ => thn (hi pins s2 σ H2 _ I2 q2) fun iv s3 ⟨y, H3, I3, ry, a, H4, ex, g, q3⟩ => ?_) hs
  subst ex
  obtain rfl : u = Value.ref a := rx
  exact d_setItem hu I3 g ry rv fun s4 I4 => ⟨σ, H4, I4, q3⟩
theorem ps_daug {op : Operator} {rd : V → V → Hp → VK → Prop} (hu : X.A.units + 1 < cLine) (ho : PE X o td) (hi : PE X i ty) (hv : PE X value tv) (hop : InOp X op rd)
    (ha : ∀ ov iv new, augStore i ov iv new = (do holding [new, ov, iv] (setItem ov iv new); release [new, ov, iv] []; pure .next)) : PS X (.AugAssign (.Subscript o i tpos) op value pos) (sDAug td ty tv rd) := by
  intro pins s σ H D I h
  refine wpAny_AugAssign_SubscriptAny (thn (ho pins s σ H _ I h) fun u s1 ⟨x, H1, I1, rx, q1⟩ => thn (hi pins s1 σ H1 _ I1 q1) fun iv s2 ⟨y, H2, I2, ry, a, v, ex, g, q2⟩ => ?_) ha
  subst ex
  obtain rfl : u = Value.ref a := rx
  refine d_getItem hu I2 g ry fun w' s3 I3 rw' => thn (hv pins s3 σ H2 _ I3 q2) fun w2 s4 ⟨y2, H3, I4, ry2, q3⟩ => thn (hop pins s4 σ H3 v y2 w' w2 _ I4 rw' ry2 q3) fun w3 s5 ⟨z, H4, I5, rz, H5, g5, q4⟩ => ?_
  exact d_setItem hu I5 g5 ry rz fun s6 I6 => ⟨σ, H5, I6, q4⟩
theorem ps_ddel (ho : PE X o td) (hi : PE X i ty) : PS X (.Delete [.Subscript o i tpos] pos) (sDDel td ty) := by
  intro pins s σ H D I h
  refine wpAny_Delete (wpAny_deleteEach_cons (wpAny_delete_Subscript (thn (ho pins s σ H _ I h) fun u s1 ⟨x, H1, I1, rx, q1⟩ => thn (hi pins s1 σ H1 _ I1 q1) fun iv s2 ⟨y, H2, I2, ry, a, kvs, k, ex, e, ey, l, q2⟩ => ?_)))
  subst ex ey
  obtain rfl : u = Value.ref a := rx
  exact d_delItem I2 e ry l fun s3 I3 => wpAny_deleteEach_nil ⟨σ, _, I3, q2⟩
end


/-! ### displays -/
theorem dk_empty {P : Program} {w : World} {H : Hp} (h : Heap) (hb : sysModules < h.objs.size) : ObjOk P w H (h.push { cls := .type "dict", data := .dict #[] }) h.objs.size (.dK []) :=
  ⟨Nat.zero_le _, beq_eq_false_iff_ne.mpr (Ne.symm (Nat.ne_of_lt hb)), [], .nil, Heap.DictOf.new h⟩
theorem dt_empty {P : Program} {w : World} {H : Hp} (h : Heap) (hb : sysModules < h.objs.size) : ObjOk P w H (h.push { cls := .type "dict", data := .dict #[] }) h.objs.size (.dT []) :=
  ⟨Nat.zero_le _, beq_eq_false_iff_ne.mpr (Ne.symm (Nat.ne_of_lt hb)), [], .nil, _, #[], 0, Heap.get?_push_size _ rfl, ⟨rfl, rfl, rfl⟩, rfl, rfl, List.nodup_nil⟩
/-- {}, to be a dict of the kind that is wanted -/
def tDNewK : TE := fun _ H Q => ∀ p, H p = none → Q (.ref p) (upd H p (.dK []))
def tDNewT : TE := fun _ H Q => ∀ p, H p = none → Q (.ref p) (upd H p (.dT []))
section
variable {X : Cx} {pos : Pos}
theorem pe_dnewK : PE X (.Dict [] [] pos) tDNewK := fun pins s σ H Q I h =>
  wpAny_Dict_empty ⟨.ref s.heap.objs.size, _, I.laid (a := s.heap.objs.size) (o := .dK []) (t' := s.toks) (fun _ _ q => Heap.get?_push_of_some _ q) (Nat.le_refl _) (dk_empty s.heap I.big), rfl, h _ (I.hok.fresh (Nat.le_refl _))⟩
theorem pe_dnewT : PE X (.Dict [] [] pos) tDNewT := fun pins s σ H Q I h =>
  wpAny_Dict_empty ⟨.ref s.heap.objs.size, _, I.laid (a := s.heap.objs.size) (o := .dT []) (t' := s.toks) (fun _ _ q => Heap.get?_push_of_some _ q) (Nat.le_refl _) (dt_empty s.heap I.big), rfl, h _ (I.hok.fresh (Nat.le_refl _))⟩
end

/-- the pairs of a display, from the left -/
def tPairs : List (TE × TE) → St → Hp → (List (V × V) → Hp → Prop) → Prop
  | [], _, H, Q => Q [] H
  | (tk, tv) :: r, σ, H, Q => tk σ H fun x H1 => tv σ H1 fun y H2 => tPairs r σ H2 fun ps H3 => Q ((x, y) :: ps) H3
abbrev VV : List (V × V) → List (Value × Value) → Prop := Paired fun p q => RelV p.1 q.1 ∧ RelV p.2 q.2
def PPs (X : Cx) (pos : Pos) (keys : List (Option Expr)) (values : List Expr) (trs : List (TE × TE)) : Prop :=
  ∀ (pins : List (Addr × Obj)) (s : Shared) (σ : St) (H : Hp) (Q : List (V × V) → Hp → Prop), Inv X pins σ H s → tPairs trs σ H Q →
    wpAny (model X.prog X.w) X.A (evalPairs (pairTrees keys values X.env pos)) (fun vs s' => ∃ ps H', Inv X pins σ H' s' ∧ VV ps vs ∧ Q ps H') X.xe s
theorem pps_nil {X : Cx} {pos : Pos} : PPs X pos [] [] [] := fun pins s σ H Q I h => pairTrees_nil_walk ⟨[], H, I, .nil, h⟩
theorem pps_cons {X : Cx} {pos : Pos} {k v : Expr} {ks : List (Option Expr)} {vs : List Expr} {tk tv : TE} {trs : List (TE × TE)} (hk : PE X k tk) (hv : PE X v tv) (hr : PPs X pos ks vs trs) :
    PPs X pos (some k :: ks) (v :: vs) ((tk, tv) :: trs) := fun pins s σ H Q I h =>
  pairTrees_cons_walk (thn (hk pins s σ H _ I h) fun u s1 ⟨x, H1, I1, rx, q1⟩ => thn (hv pins s1 σ H1 _ I1 q1) fun w2 s2 ⟨y, H2, I2, ry, q2⟩ =>
    thn (hr pins s2 σ H2 _ I2 q2) fun ws s3 ⟨ps, H3, I3, rel, q3⟩ => ⟨(x, y) :: ps, H3, I3, .cons ⟨rx, ry⟩ rel, q3⟩)

def mergeK (kvs more : List (Key × V)) : List (Key × V) := more.foldl (fun acc kv => putK acc kv.1 kv.2) kvs
theorem KV.merge : ∀ {more : List (Key × V)} {rs : List (Key × Value)} {kvs : List (Key × V)} {vs : List (Key × Value)}, KV more rs → KV kvs vs → KV (mergeK kvs more) (merged vs rs) := by
  intro more rs kvs vs r
  unfold KV at r
  induction r generalizing kvs vs with
  | nil => intro q; exact q
  | @cons p q ps qs h t ih =>
    intro r0
    have e : KV (putK kvs p.1 p.2) (stored vs q.1 q.2) := by
      have := r0.put p.1 h.2
      rw [← h.1]; exact this
    exact ih e
theorem length_mergeK : ∀ (more kvs : List (Key × V)), (mergeK kvs more).length ≤ kvs.length + more.length
  | [], kvs => by show kvs.length ≤ kvs.length + 0; omega
  | p :: r, kvs => by
    have h1 := length_mergeK r (putK kvs p.1 p.2)
    have h2 := length_putK kvs p.1 p.2
    show (mergeK (putK kvs p.1 p.2) r).length ≤ _
    rw [List.length_cons]; omega
theorem carries_of {P : Program} {w : World} : ∀ {kvs : List (Key × V)} {ws : List (Value × Value)}, VV (kvs.map fun kv => (kV kv.1, kv.2)) ws → ∃ rs, Carries (mixKind P w) ws rs ∧ KV kvs rs
  | [], _, r => by rw [List.map_nil] at r; cases r; exact ⟨[], True.intro, .nil⟩
  | p :: kvs, _, r => by
    rw [List.map_cons] at r
    cases r with
    | @cons a b as bs h t =>
      obtain ⟨rs, c, q⟩ := carries_of (P := P) (w := w) t
      obtain ⟨b1, b2⟩ := b
      exact ⟨(p.1, b2) :: rs, ⟨kV_is h.1, rfl, c⟩, .cons ⟨rfl, h.2⟩ q⟩
/-- {k: v, ..} with keys ints and texts; the new dict stands empty while the pairs are made -/
def tDisp (trs : List (TE × TE)) : TE := fun σ H Q => ∀ p, H p = none → tPairs trs σ (upd H p (.dK [])) fun ps H2 => H2 p = some (.dK []) ∧ ∃ kvs : List (Key × V), ps = kvs.map (fun kv => (kV kv.1, kv.2)) ∧ kvs.length ≤ 15 ∧ Q (.ref p) (upd H2 p (.dK (mergeK [] kvs)))
theorem pe_disp {X : Cx} {pos : Pos} {keys : List (Option Expr)} {values : List Expr} {trs : List (TE × TE)} (h : PPs X pos keys values trs) (hall : keys.all (·.isSome) = true) (hl : keys.length = values.length) (h0 : keys ≠ [])
    (h15 : keys.length ≤ 15) : PE X (.Dict keys values pos) (tDisp trs) := by
  intro pins s σ H Q I q
  have hn := I.hok.fresh (Nat.le_refl s.heap.objs.size)
  have I1 := I.laid (a := s.heap.objs.size) (o := .dK []) (h' := s.heap.push { cls := .type "dict", data := .dict #[] }) (t' := s.toks) (fun _ _ q => Heap.get?_push_of_some _ q) (Nat.le_refl _) (dk_empty s.heap I.big)
  refine wpAny_Dict_walk (knd := mixKind X.prog X.w) hall hl h0 h15 (thn (h pins _ σ _ _ I1 (q _ hn)) fun ws s2 ⟨ps, H2, I2, rel, e, kvs, ep, lk, q2⟩ => ?_)
  subst ep
  obtain ⟨rs, c, rk⟩ := carries_of (P := X.prog) (w := X.w) rel
  obtain ⟨z, hd, vs0, r0, dd⟩ := dk_of I2.hok e
  cases r0
  refine ⟨rs, c, dd, fun h' dd' hs => ⟨.ref s.heap.objs.size, _, ?_, rfl, q2⟩⟩
  have hz : (mergeK [] kvs).length ≤ sizeLine := by
    have h1 := length_mergeK kvs []
    rw [List.length_nil] at h1
    rw [sizeLine_eq]; omega
  have he : ∃ q, h'.get? s.heap.objs.size = some q := let ⟨q, _, _, hq, _⟩ := dd'; ⟨q, hq⟩
  exact d_write I2 (by rw [e]; exact True.intro) hs he (dk_new hz hd (rk.merge .nil) dd')


/-! ### methods -/
/-- a method call o.m(e) of a built-in, with one argument: what must be seen of the text -/
structure M1 (X : Cx) (o : Expr) (m : Str) (apos : Pos) (e : Expr) (cpos : Pos) : Prop where
  base : attributeBase o m X.env (eval o X.env) = eval o X.env
  few : ((backTo cpos (starEach [e] X.env)).all (fun x => !x.1) && (backToKw cpos (keywordEach [] X.env)).all (fun x => x.1.isSome)
    && decide (([e] : List Expr).length + ([] : List Keyword).length + (if ([] : List Keyword).isEmpty then 0 else 1) < 30)) = true
  line : (apos.endLine == cpos.line) = true
  trees : backTo cpos (starEach [e] X.env) = [(false, eval e X.env)]
structure M2 (X : Cx) (o : Expr) (m : Str) (apos : Pos) (e f : Expr) (cpos : Pos) : Prop where
  base : attributeBase o m X.env (eval o X.env) = eval o X.env
  few : ((backTo cpos (starEach [e, f] X.env)).all (fun x => !x.1) && (backToKw cpos (keywordEach [] X.env)).all (fun x => x.1.isSome)
    && decide (([e, f] : List Expr).length + ([] : List Keyword).length + (if ([] : List Keyword).isEmpty then 0 else 1) < 30)) = true
  line : (apos.endLine == cpos.line) = true
  trees : backTo cpos (starEach [e, f] X.env) = [(false, eval e X.env), (false, eval f X.env)]

/-- a is a dict, whatever its keys -/
def IsD (H : Hp) (a : Addr) : Prop := (∃ kvs, Rd H a (.dK kvs)) ∨ ∃ kvs, Rd H a (.dT kvs)
theorem isD_at {X : Cx} {pins : List (Addr × Obj)} {σ : St} {H : Hp} {s : Shared} {a : Addr} (I : Inv X pins σ H s) (d : IsD H a) :
    s.TypeIs (.ref a) "dict" ∧ (∀ b, Value.ref a = .ref b → ∃ ob, s.heap.get? b = some ob ∧ ob.dict = none) ∧ (a == sysModules) = false := by
  rcases d with ⟨kvs, e⟩ | ⟨kvs, e⟩
  · obtain ⟨_, hd, vs, _, dd⟩ := dk_rd I.hok e
    refine ⟨dd.typeIs, fun b q => ?_, hd⟩
    cases q
    obtain ⟨ob, _, _, h1, h2, _⟩ := dd
    exact ⟨ob, h1, h2.2.1⟩
  · obtain ⟨_, hd, xs, _, dd⟩ := dt_rd I.hok e
    refine ⟨dd.typeIs, fun b q => ?_, hd⟩
    cases q
    obtain ⟨ob, _, _, h1, h2, _⟩ := dd
    exact ⟨ob, h1, h2.2.1⟩

section
variable {X : Cx} {pins : List (Addr × Obj)} {σ : St} {H : Hp} {s : Shared} {a : Addr} {y d : V} {u r : Value} {o : Option V} {A : Around} {E : Value → Shared → Prop}
/-- d.get(y) -/
theorem d_get1 {Q : Value → Shared → Prop} (hu : A.units + 1 < cLine) (I : Inv X pins σ H s) (g : DGet H a y o) (ry : RelV y u) (h : ∀ w' s', Inv X pins σ H s' → RelV (o.getD .non) w' → Q w' s') :
    wpAny (model X.prog X.w) A (call (.builtin "dict.get") [.ref a, u]) Q E s := by
  rcases g with ⟨kvs, k, e, ey, l⟩ | ⟨kvs, k, b, e, ey, eb, l⟩
  · subst ey
    obtain ⟨z, hd, vs, rel, dd⟩ := dk_rd I.hok e
    refine call_meetsIn PySem.F.slot_dict_get dd.typeIs PySem.F.entry_dict_get (PySem.F.args_dict_get_2 _ _) (meets_dict_get (mixKind X.prog X.w) a (kV_is ry) hd) ⟨_, dd.mapOf, h _ _ (I.tok _) ?_⟩
    rw [l]
    exact (rel.val k).getD rfl
  · subst ey
    cases (show u = Value.ref b from ry)
    obtain ⟨z, hd, xs, rel, dd⟩ := dt_rd I.hok e
    refine call_meetsIn PySem.F.slot_dict_get dd.typeIs PySem.F.entry_dict_get (PySem.F.args_dict_get_2 _ _) (meetsH_dict_get (tupleKind (mixKind X.prog X.w)) a b hd) ⟨tupleKind_room_in1 hu, k, xs, key_of I.hok eb, dd, h _ _ (I.tok _) ?_⟩
    rw [l]
    exact (rel.val k).getD rfl
/-- d.get(y, x) -/
theorem d_get2 {Q : Value → Shared → Prop} (hu : A.units + 1 < cLine) (I : Inv X pins σ H s) (g : DGet H a y o) (ry : RelV y u) (rd : RelV d r) (h : ∀ w' s', Inv X pins σ H s' → RelV (o.getD d) w' → Q w' s') :
    wpAny (model X.prog X.w) A (call (.builtin "dict.get") [.ref a, u, r]) Q E s := by
  rcases g with ⟨kvs, k, e, ey, l⟩ | ⟨kvs, k, b, e, ey, eb, l⟩
  · subst ey
    obtain ⟨z, hd, vs, rel, dd⟩ := dk_rd I.hok e
    refine call_meetsIn PySem.F.slot_dict_get dd.typeIs PySem.F.entry_dict_get (PySem.F.args_dict_get_3 _ _ _) (meets_dict_get_default (mixKind X.prog X.w) a (kV_is ry) hd r) ⟨_, dd.mapOf, h _ _ (I.tok _) ?_⟩
    rw [l]
    exact (rel.val k).getD rd
  · subst ey
    cases (show u = Value.ref b from ry)
    obtain ⟨z, hd, xs, rel, dd⟩ := dt_rd I.hok e
    refine call_meetsIn PySem.F.slot_dict_get dd.typeIs PySem.F.entry_dict_get (PySem.F.args_dict_get_3 _ _ _) (meetsH_dict_get_default (tupleKind (mixKind X.prog X.w)) a b hd r) ⟨tupleKind_room_in1 hu, k, xs, key_of I.hok eb, dd, h _ _ (I.tok _) ?_⟩
    rw [l]
    exact (rel.val k).getD rd
end

def tDGet1 (td ty : TE) : TE := fun σ H Q => td σ H fun x H1 => ∃ a, x = .ref a ∧ IsD H1 a ∧ ty σ H1 fun y H2 => ∃ o, DGet H2 a y o ∧ Q (o.getD .non) H2
def tDGet2 (td ty tx : TE) : TE := fun σ H Q => td σ H fun x H1 => ∃ a, x = .ref a ∧ IsD H1 a ∧ ty σ H1 fun y H2 => tx σ H2 fun z H3 => ∃ o, DGet H3 a y o ∧ Q (o.getD z) H3
/-- d.pop(k): there; d.pop(k, x): there or not -/
def tDPop1 (td ty : TE) : TE := fun σ H Q => td σ H fun x H1 => ∃ a, x = .ref a ∧ IsD H1 a ∧ ty σ H1 fun y H2 => ∃ kvs k v, H2 a = some (.dK kvs) ∧ y = kV k ∧ valV kvs k = some v ∧ Q v (upd H2 a (.dK (dropK kvs k)))
def tDPop2 (td ty tx : TE) : TE := fun σ H Q => td σ H fun x H1 => ∃ a, x = .ref a ∧ IsD H1 a ∧ ty σ H1 fun y H2 => tx σ H2 fun z H3 => ∃ kvs k, H3 a = some (.dK kvs) ∧ y = kV k ∧
  (∀ v, valV kvs k = some v → Q v (upd H3 a (.dK (dropK kvs k)))) ∧ (valV kvs k = none → Q z H3)
section
variable {X : Cx} {o e f : Expr} {apos cpos : Pos} {td ty tx : TE}
theorem pe_dget1 (hu : X.A.units + 1 < cLine) (ho : PE X o td) (he : PE X e ty) (m : M1 X o "get" apos e cpos) : PE X (.Call (.Attribute o "get" apos) [e] [] cpos) (tDGet1 td ty) := by
  intro pins s σ H Q I h
  refine wpAny_Call_method m.base m.few m.line PySem.F.plainAttrs_dict PySem.F.slot_dict_get PySem.F.type_dict_get (thn (ho pins s σ H _ I h) fun u s1 ⟨x, H1, I1, rx, a, ex, d, q1⟩ => ?_)
  subst ex
  obtain rfl : u = Value.ref a := rx
  obtain ⟨t1, t2, _⟩ := isD_at I1 d
  refine ⟨t1, t2, ?_⟩
  rw [m.trees]
  refine Calls.callWith_builtin rfl (Calls.evalArgs_plain (Calls.spliced_cons (thn (he pins s1 σ H1 _ I1 q1) fun iv s2 ⟨y, H2, I2, ry, ov, g, q2⟩ => Calls.spliced_nil ?_)))
  exact d_get1 hu I2 g ry fun w' s3 I3 rw' => ⟨_, H2, I3, rw', q2⟩
theorem pe_dget2 (hu : X.A.units + 1 < cLine) (ho : PE X o td) (he : PE X e ty) (hf : PE X f tx) (m : M2 X o "get" apos e f cpos) : PE X (.Call (.Attribute o "get" apos) [e, f] [] cpos) (tDGet2 td ty tx) := by
  intro pins s σ H Q I h
  refine wpAny_Call_method m.base m.few m.line PySem.F.plainAttrs_dict PySem.F.slot_dict_get PySem.F.type_dict_get (thn (ho pins s σ H _ I h) fun u s1 ⟨x, H1, I1, rx, a, ex, d, q1⟩ => ?_)
  subst ex
  obtain rfl : u = Value.ref a := rx
  obtain ⟨t1, t2, _⟩ := isD_at I1 d
  refine ⟨t1, t2, ?_⟩
  rw [m.trees]
  refine Calls.callWith_builtin rfl (Calls.evalArgs_plain (Calls.spliced_cons (thn (he pins s1 σ H1 _ I1 q1) fun iv s2 ⟨y, H2, I2, ry, q2⟩ =>
    Calls.spliced_cons (thn (hf pins s2 σ H2 _ I2 q2) fun fv s3 ⟨z, H3, I3, rz, ov, g, q3⟩ => Calls.spliced_nil ?_))))
  exact d_get2 hu I3 g ry rz fun w' s4 I4 rw' => ⟨_, H3, I4, rw', q3⟩
theorem pe_dpop1 (ho : PE X o td) (he : PE X e ty) (m : M1 X o "pop" apos e cpos) : PE X (.Call (.Attribute o "pop" apos) [e] [] cpos) (tDPop1 td ty) := by
  intro pins s σ H Q I h
  refine wpAny_Call_method m.base m.few m.line PySem.F.plainAttrs_dict PySem.F.slot_dict_pop PySem.F.type_dict_pop (thn (ho pins s σ H _ I h) fun u s1 ⟨x, H1, I1, rx, a, ex, d, q1⟩ => ?_)
  subst ex
  obtain rfl : u = Value.ref a := rx
  obtain ⟨t1, t2, _⟩ := isD_at I1 d
  refine ⟨t1, t2, ?_⟩
  rw [m.trees]
  refine Calls.callWith_builtin rfl (Calls.evalArgs_plain (Calls.spliced_cons (thn (he pins s1 σ H1 _ I1 q1) fun iv s2 ⟨y, H2, I2, ry, kvs, k, v, ea, ey, l, q2⟩ => Calls.spliced_nil ?_)))
  subst ey
  exact d_pop I2 ea ry l (.inl rfl) fun w' s3 I3 rw' => ⟨v, _, I3, rw', q2⟩
theorem pe_dpop2 (ho : PE X o td) (he : PE X e ty) (hf : PE X f tx) (m : M2 X o "pop" apos e f cpos) : PE X (.Call (.Attribute o "pop" apos) [e, f] [] cpos) (tDPop2 td ty tx) := by
  intro pins s σ H Q I h
  refine wpAny_Call_method m.base m.few m.line PySem.F.plainAttrs_dict PySem.F.slot_dict_pop PySem.F.type_dict_pop (thn (ho pins s σ H _ I h) fun u s1 ⟨x, H1, I1, rx, a, ex, d, q1⟩ => ?_)
  subst ex
  obtain rfl : u = Value.ref a := rx
  obtain ⟨t1, t2, _⟩ := isD_at I1 d
  refine ⟨t1, t2, ?_⟩
  rw [m.trees]
  refine Calls.callWith_builtin rfl (Calls.evalArgs_plain (Calls.spliced_cons (thn (he pins s1 σ H1 _ I1 q1) fun iv s2 ⟨y, H2, I2, ry, q2⟩ =>
    Calls.spliced_cons (thn (hf pins s2 σ H2 _ I2 q2) fun fv s3 ⟨z, H3, I3, rz, kvs, k, ea, ey, q3, q4⟩ => Calls.spliced_nil ?_))))
  subst ey
  cases l : valV kvs k with
  | some v => exact d_pop I3 ea ry l (.inr ⟨fv, rfl⟩) fun w' s4 I4 rw' => ⟨v, _, I4, rw', q3 v l⟩
  | none => exact d_popD I3 ea ry l fun s4 I4 => ⟨z, H3, I4, rz, q4 l⟩
end

/-! ### dict(d): a copy -/
section
variable {X : Cx} {pins : List (Addr × Obj)} {σ : St} {H : Hp} {s : Shared} {a : Addr} {kvs : List (Key × V)} {A : Around} {E : Value → Shared → Prop}
theorem d_copyOf {Q : Value → Shared → Prop} (I : Inv X pins σ H s) (e : Rd H a (.dK kvs)) (h : ∀ p s', H p = none → Inv X pins σ (upd H p (.dK kvs)) s' → Q (.ref p) s') : wpAny (model X.prog X.w) A (call (.type "dict") [.ref a]) Q E s := by
  obtain ⟨z, hd, vs, rel, dd⟩ := dk_rd I.hok e
  refine kt_call_dict hd dd (by rw [← rel.length]; exact z) fun h' dd' hs => ?_
  refine h _ _ (I.hok.fresh (Nat.le_refl _)) (I.laid (a := s.heap.objs.size) (o := .dK kvs) (t' := s.toks) (fun b q hq => ?_) (Nat.le_refl _) (dk_new z (beq_eq_false_iff_ne.mpr (Ne.symm (Nat.ne_of_lt I.big))) rel dd'))
  exact (hs.2 b (Nat.ne_of_lt (Heap.lt_size hq))).trans (Heap.get?_push_of_some _ hq)
end


section
variable {X : Cx} {pins : List (Addr × Obj)} {σ : St} {H : Hp} {s : Shared} {a : Addr} {y : V} {u : Value} {A : Around} {E : Value → Shared → Prop}
/-- d[y], not there: a KeyError -/
theorem d_missing {Q : Value → Shared → Prop} (hu : A.units + 1 < cLine) (hh : A.handled = none) (I : Inv X pins σ H s) (g : DGet H a y none) (ry : RelV y u)
    (h : ∀ h' e t', Heap.NewExc s.heap h' e "KeyError" → E (.ref e) { s with heap := h', toks := t' }) : wpAny (model X.prog X.w) A (getItem (.ref a) u) Q E s := by
  rcases g with ⟨kvs, k, e, ey, l⟩ | ⟨kvs, k, b, e, ey, eb, l⟩
  · subst ey
    obtain ⟨z, hd, vs, rel, dd⟩ := dk_rd I.hok e
    have hn : valueAt vs k = none := RelO.none_of (by rw [l]; exact rel.val k)
    exact wpAny_getItem_missing_of (kV_is ry) hd hh dd.mapOf hn fun h' ex ne => h h' ex _ ne
  · subst ey
    cases (show u = Value.ref b from ry)
    obtain ⟨z, hd, xs, rel, dd⟩ := dt_rd I.hok e
    have hn : (atKey xs k).map (·.2) = none := RelO.none_of (by rw [l]; exact rel.val k)
    exact wpAny_getItem_missing_heap (tupleKind_room_in1 hu) (key_of I.hok eb) hd hh dd (Option.map_eq_none_iff.mp hn) fun h' ex ne => h h' ex _ ne
end
end L2

namespace L2
open PySem PySem.Spec PyProof.Rows
section
variable {X : Cx}
theorem call_lenD : CallR X (.builtin "len") (fun xs H Q => ∃ a kvs, xs = [V.ref a] ∧ H a = some (.dK kvs) ∧ Q (.int kvs.length) H) := by
  intro pins s σ H xs us Q I r h
  obtain ⟨a, kvs, rfl, ha, q⟩ := h
  obtain ⟨u, rfl, ru⟩ := vals1 r
  cases ru
  exact d_len I (.inl ha) fun t s' I' => ⟨.int kvs.length, H, I', ⟨t, rfl⟩, q⟩
end
/-! ### a dict's pairs: keys that differ -/
section
variable {κ : Type} [DecidableEq κ]
theorem valV_not {kvs : List (κ × V)} {k : κ} (h : valV kvs k = none) : ¬ k ∈ kvs.map (·.1) := by
  intro m
  obtain ⟨p, hp, e⟩ := List.mem_map.mp m
  have q : (kvs.any fun kv => decide (kv.1 = k)) = true := List.any_eq_true.mpr ⟨p, hp, decide_eq_true e⟩
  rw [valV_any, h] at q
  exact absurd q (by simp)
theorem valV_in {kvs : List (κ × V)} {k : κ} {v : V} (h : valV kvs k = some v) : k ∈ kvs.map (·.1) := by
  have q : (kvs.any fun kv => decide (kv.1 = k)) = true := by
    rw [valV_any, h]
    all_goals rfl
  obtain ⟨p, hp, e⟩ := List.any_eq_true.mp q
  exact List.mem_map.mpr ⟨p, hp, of_decide_eq_true e⟩
theorem nd_snoc : ∀ {l : List κ} {k : κ}, l.Nodup → ¬ k ∈ l → (l ++ [k]).Nodup
  | [], k, _, _ => by simp
  | a :: r, k, h, hk => by
    obtain ⟨h1, h2⟩ := List.nodup_cons.mp h
    show (a :: (r ++ [k])).Nodup
    refine List.nodup_cons.mpr ⟨fun m => ?_, nd_snoc h2 fun m => hk (List.mem_cons.mpr (Or.inr m))⟩
    rcases List.mem_append.mp m with q | q
    · exact h1 q
    · exact hk (List.mem_cons.mpr (Or.inl (List.mem_singleton.mp q).symm))
theorem nd_putK {kvs : List (κ × V)} {k : κ} (v : V) (hn : (kvs.map (·.1)).Nodup) (h : valV kvs k = none) : ((putK kvs k v).map (·.1)).Nodup := by
  rw [putK_new v h, List.map_append]
  exact nd_snoc hn (valV_not h)
theorem dropK_pos {p : κ × V} {r : List (κ × V)} {k : κ} (e : p.1 = k) : dropK (p :: r) k = dropK r k := by
  unfold dropK
  rw [List.filter_cons, if_neg (by simp [e])]
theorem dropK_neg {p : κ × V} {r : List (κ × V)} {k : κ} (e : ¬ p.1 = k) : dropK (p :: r) k = p :: dropK r k := by
  unfold dropK
  rw [List.filter_cons, if_pos (by simp [e])]
theorem dropK_no : ∀ {kvs : List (κ × V)} {k : κ}, ¬ k ∈ kvs.map (·.1) → dropK kvs k = kvs
  | [], _, _ => rfl
  | p :: r, k, h => by
    have h' : ¬ k ∈ r.map (·.1) := fun m => by
      obtain ⟨q, hq, e⟩ := List.mem_map.mp m
      exact h (List.mem_map.mpr ⟨q, List.mem_cons.mpr (Or.inr hq), e⟩)
    rw [dropK_neg fun e => h (List.mem_map.mpr ⟨p, List.mem_cons.mpr (Or.inl rfl), e⟩), dropK_no h']
theorem dropK_mem {kvs : List (κ × V)} {k : κ} {p : κ × V} (h : p ∈ dropK kvs k) : p ∈ kvs := (List.mem_filter.mp h).1
theorem nd_dropK : ∀ {kvs : List (κ × V)} {k : κ}, (kvs.map (·.1)).Nodup → ((dropK kvs k).map (·.1)).Nodup
  | [], _, _ => List.nodup_nil
  | p :: r, k, h => by
    have h : (p.1 :: r.map (·.1)).Nodup := h
    obtain ⟨h1, h2⟩ := List.nodup_cons.mp h
    by_cases e : p.1 = k
    · rw [dropK_pos e]
      exact nd_dropK h2
    · rw [dropK_neg e]
      show (p.1 :: (dropK r k).map (·.1)).Nodup
      refine List.nodup_cons.mpr ⟨fun m => h1 ?_, nd_dropK h2⟩
      obtain ⟨q, hq, eq⟩ := List.mem_map.mp m
      exact List.mem_map.mpr ⟨q, dropK_mem hq, eq⟩
theorem dropK_len : ∀ {kvs : List (κ × V)} {k : κ}, (kvs.map (·.1)).Nodup → k ∈ kvs.map (·.1) → (dropK kvs k).length + 1 = kvs.length
  | [], _, _, m => by simp at m
  | p :: r, k, h, m => by
    have h : (p.1 :: r.map (·.1)).Nodup := h
    have m : k = p.1 ∨ k ∈ r.map (·.1) := List.mem_cons.mp m
    obtain ⟨h1, h2⟩ := List.nodup_cons.mp h
    by_cases e : p.1 = k
    · subst e
      rw [dropK_pos rfl, dropK_no h1]
      all_goals rfl
    · have m' : k ∈ r.map (·.1) := m.resolve_left fun z => e z.symm
      have q := dropK_len h2 m'
      rw [dropK_neg e, List.length_cons, List.length_cons]
      omega
end
end L2

/-! ### widths kept in a dict by their signs -/
namespace Cs
open PySem L2
def wdict (rs : List Row) : List (Key × V) := rs.foldl (fun kvs r => putK kvs (.inr r.s) (.int r.w)) []
theorem wdict_snoc (rs : List Row) (r : Row) : wdict (rs ++ [r]) = putK (wdict rs) (.inr r.s) (.int r.w) := by
  unfold wdict
  rw [List.foldl_append]
  rfl
theorem wdict_at : ∀ (n : Nat) (rs : List Row), rs.length = n → (rs.map fun r => r.s).Nodup → ∀ r ∈ rs, valV (wdict rs) (.inr r.s) = some (.int r.w)
  | 0, rs, hn, _, r, hr => by
    rw [List.eq_nil_of_length_eq_zero hn] at hr
    cases hr
  | n + 1, rs, hn, hnd, r, hr => by
    obtain ⟨ys, y, rfl⟩ : ∃ ys y, rs = ys ++ [y] := ⟨rs.dropLast, rs.getLast (fun z => by rw [z] at hn; cases hn), (List.dropLast_concat_getLast _).symm⟩
    rw [List.map_append] at hnd
    have hd := List.nodup_append.mp hnd
    rw [wdict_snoc, valV_put]
    rcases List.mem_append.mp hr with h | h
    · have hne : (Sum.inr r.s : Key) ≠ Sum.inr y.s := fun z => by
        have e : r.s = y.s := Sum.inr.inj z
        exact hd.2.2 r.s (List.mem_map_of_mem h) y.s (by simp) e
      rw [if_neg hne]
      exact wdict_at n ys (by rw [List.length_append] at hn; exact Nat.succ.inj hn) hd.1 r h
    · rw [List.mem_singleton.mp h, if_pos rfl]
theorem wdict_len (rs : List Row) : (wdict rs).length ≤ rs.length := by
  have h : ∀ (n : Nat) (rs : List Row), rs.length = n → (wdict rs).length ≤ rs.length := by
    intro n
    induction n with
    | zero =>
      intro rs hn
      rw [List.eq_nil_of_length_eq_zero hn]
      exact Nat.le_refl _
    | succ n ih =>
      intro rs hn
      obtain ⟨ys, y, rfl⟩ : ∃ ys y, rs = ys ++ [y] := ⟨rs.dropLast, rs.getLast (fun z => by rw [z] at hn; cases hn), (List.dropLast_concat_getLast _).symm⟩
      have h1 := ih ys (by rw [List.length_append] at hn; exact Nat.succ.inj hn)
      rw [wdict_snoc, List.length_append]
      have h2 := length_putK (wdict ys) (Sum.inr y.s : Key) (V.int y.w)
      show _ ≤ ys.length + 1
      omega
  exact h rs.length rs rfl
/-- widths of words -/
def bodyOf (rs : List Row) (ws : List Str) : Int := List.sum (ws.map fun x => wideOf rs x)
theorem place_row {rs : List Row} {x : Str} {k : Nat} (h : place rs x = some k) : ∃ r, rs[k]? = some r ∧ r.s = x := by
  unfold place at h
  obtain ⟨hi, h1, _⟩ := List.findIdx?_eq_some_iff_getElem.mp h
  exact ⟨rs[k], List.getElem?_eq_getElem hi, of_decide_eq_true h1⟩
theorem wdict_wide {rs : List Row} (hnd : (rs.map fun r => r.s).Nodup) {x : Str} (h : (place rs x).isSome = true) : valV (wdict rs) (.inr x) = some (.int (wideAt rs x)) := by
  obtain ⟨k, hk⟩ := Option.isSome_iff_exists.mp h
  obtain ⟨r, hr, e⟩ := place_row hk
  obtain ⟨hkl, er⟩ := List.getElem?_eq_some_iff.mp hr
  rw [wideAt_eq hk hkl, er, ← e]
  exact wdict_at rs.length rs rfl hnd r (List.mem_of_getElem? hr)
end Cs
namespace L2
open PySem
theorem bt_min : bootBuiltins "min" = some (.builtin "min") := by decide +kernel
theorem bt_max : bootBuiltins "max" = some (.builtin "max") := by decide +kernel
end L2

/-! ### the least of a list of ints, with default=..; the greatest of one -/
namespace L2
open PySem PySem.Spec PyProof.Rows
def Least (g : Nat → Int) (n : Nat) (m : Int) : Prop := (∃ i, i < n ∧ g i = m) ∧ ∀ i, i < n → m ≤ g i
theorem Least.one {g : Nat → Int} : Least g 1 (g 0) := ⟨⟨0, by omega, rfl⟩, fun i hi => by
  have e : i = 0 := by omega
  subst e
  exact Int.le_refl _⟩
theorem Least.yes {g : Nat → Int} {n : Nat} {m : Int} (h : Least g n m) (hl : g n < m) : Least g (n + 1) (g n) := ⟨⟨n, by omega, rfl⟩, fun i hi => by
  by_cases e : i = n
  · subst e; exact Int.le_refl _
  · have := h.2 i (by omega)
    omega⟩
theorem Least.no {g : Nat → Int} {n : Nat} {m : Int} (h : Least g n m) (hl : ¬ g n < m) : Least g (n + 1) m := ⟨by obtain ⟨i, hi, e⟩ := h.1; exact ⟨i, by omega, e⟩, fun i hi => by
  by_cases e : i = n
  · subst e; omega
  · exact h.2 i (by omega)⟩
def Held (g : Nat → Int) (j : Nat) (arr : Array Value) : Prop := (j = 0 ∧ arr = #[]) ∨ ∃ m t, arr = #[.int m t, .int m t] ∧ Least g j m
def Told (g : Nat → Int) (n : Nat) (d v : Value) : Prop := (n = 0 ∧ v = d) ∨ ∃ m t, v = .int m t ∧ Least g n m
def bestObj (arr : Array Value) (c : Nat) : Obj := { cls := .type "list", dict := none, data := .seq arr c, slots := #[] }
section
variable {P : Program} {w : World} {A : Around} {R : Result → Shared → Prop} {it : Addr} {fp wr : List Addr} {n : Nat} {Pr : Nat → Value → Prop} {St : Nat → Heap → Prop}
theorem mnd_end (W : Walks P w A.in1 it fp wr n Pr St) (g : Nat → Int) (B : Addr) (hB : B ∉ fp) (d : Value) (s : Shared) (arr : Array Value) (c : Nat) (st : St n s.heap) (ho : s.heap.get? B = some (bestObj arr c)) (hh : Held g n arr)
    (q : ∀ v h' tk, Told g n d v → (∀ b o, b ∉ wr → b ≠ B → s.heap.get? b = some o → h'.get? b = some o) → R (.ok (.ret v)) { s with heap := h', toks := tk }) :
    codeAny (model P w) A (.builtin "min.loop" ⟨[.ref it, .none, .ref B], [(Str.ofString "default", d)]⟩) R s := by
  have hBw : B ∉ wr := fun h => hB (W.sub _ h)
  refine codeAny_builtin F.entry_min_loop ?_
  rw [Around.under_plainId F.plain_min_loop _]
  refine wpAny_bind (m := seqItems? (.ref B)) (wpAny_seqItems ho rfl ?_)
  rcases hh with ⟨rfl, rfl⟩ | ⟨m, t, rfl, hl⟩
  · refine wpAny_bind (m := tryCatch (pyNext (.ref it)) _) (wpAny_tryCatch (W.done s _ _ st fun h' tk hk => ?_))
    refine wpAny_bind (m := rule _) (wpAny_rule ?_)
    exact wpAny_pure (q d h' tk (.inl ⟨rfl, rfl⟩) fun b o hbw _ e => hk b o hbw e)
  · refine wpAny_bind (m := tryCatch (pyNext (.ref it)) _) (wpAny_tryCatch (W.done s _ _ st fun h' tk hk => ?_))
    have hB' := hk B _ hBw ho
    refine wpAny_bind (m := updateSeq B (fun _ => #[])) (wpAny_updateSeq hB' rfl (wpAny_bind (wpAny_letGo (wpAny_pure ?_))))
    exact q _ _ tk (.inr ⟨m, t, rfl, hl⟩) fun b o hbw hbS e => (Heap.get?_update_other _ _ (Ne.symm hbS)).trans (hk b o hbw e)
theorem mnd_loop (W : Walks P w A.in1 it fp wr n Pr St) (g : Nat → Int) (hg : ∀ (i : Nat) (v : Value), Pr i v → ∃ t, v = Value.int (g i) t) (B : Addr) (hB : B ∉ fp) (d : Value) :
    ∀ (k j : Nat) (s : Shared) (arr : Array Value) (c : Nat), n - j = k → j ≤ n → St j s.heap → s.heap.get? B = some (bestObj arr c) → Held g j arr →
    (∀ v h' tk, Told g n d v → (∀ b o, b ∉ wr → b ≠ B → s.heap.get? b = some o → h'.get? b = some o) → R (.ok (.ret v)) { s with heap := h', toks := tk }) →
    codeAny (model P w) A (.builtin "min.loop" ⟨[.ref it, .none, .ref B], [(Str.ofString "default", d)]⟩) R s := by
  have hBw : B ∉ wr := fun h => hB (W.sub _ h)
  have hnm : (toString "min" ++ toString ".loop" : String) = "min.loop" := by decide
  have hcmp := CmpOf.ints_lt (prog := P) (w := w) (A := A.in1) g hg
  intro k
  induction k with
  | zero =>
    intro j s arr c hk hj st ho hh q
    have e : j = n := by omega
    subst e
    exact mnd_end W g B hB d s arr c st ho hh q
  | succ k ih =>
    intro j s arr c hk hj st ho hh q
    have hlt : j < n := by omega
    refine codeAny_builtin F.entry_min_loop ?_
    rw [Around.under_plainId F.plain_min_loop _]
    refine wpAny_bind (m := seqItems? (.ref B)) (wpAny_seqItems ho rfl ?_)
    rcases hh with ⟨rfl, rfl⟩ | ⟨m, t, rfl, hl⟩
    · refine wpAny_bind (m := tryCatch (pyNext (.ref it)) _) (wpAny_tryCatch (W.item 0 s _ _ hlt st fun v h' tk hP st' hk' => ?_))
      have hB' := hk' B _ hBw ho
      obtain ⟨t, rfl⟩ := hg 0 v hP
      refine wpAny_bind (m := updateSeq B (fun _ => #[.int (g 0) t, .int (g 0) t])) (wpAny_updateSeq hB' rfl ?_)
      rw [hnm]
      refine wpAny_pure ⟨plainId_quiet F.plain_min_loop _, ih 1 _ _ _ (by omega) hlt (W.frame _ _ _ st' fun b hbf o e => ?_) (Heap.get?_update_self _ hB' rfl) (.inr ⟨g 0, t, rfl, .one⟩) fun v h2 tk2 ht2 hk2 => ?_⟩
      · exact (Heap.get?_update_other _ _ (fun h : B = b => hB (h ▸ hbf))).trans e
      · exact q v h2 tk2 ht2 fun b o hbw hbS e => hk2 b o hbw hbS ((Heap.get?_update_other _ _ (Ne.symm hbS)).trans (hk' b o hbw e))
    · refine wpAny_bind (m := tryCatch (pyNext (.ref it)) _) (wpAny_tryCatch (W.item j s _ _ hlt st fun v h' tk hP st' hk' => ?_))
      have hB' := hk' B _ hBw ho
      obtain ⟨t2, rfl⟩ := hg j v hP
      have cmp : ∀ (s1 : Shared) (Q : Value → Shared → Prop) (E : Value → Shared → Prop), Q (.bool (decide (g j < m))) s1 → wpAny (model P w) A.in1 (richCompare .Lt (.int (g j) t2) (.int m t)) Q E s1 := fun s1 Q E h =>
        richCompare_gives (op := .Lt) (typeIs_int s1 _ t2) (typeIs_int s1 _ t) F.slot_int_lt F.entry_int_lt (F.args_int_lt_2 _ _) (gives_int_lt _ _ t2 t) (fun x => nomatch x) h
      refine wpAny_bind (m := tryCatch (holding [_, _] (richCompare .Lt (.int (g j) t2) (.int m t) >>= _)) _) (wpAny_tryCatch (wpAny_holding (wpAny_bind (cmp _ _ _ ?_))))
      refine wpAny_bind (wpAny_holding (wpAny_truthy_bool ?_))
      refine wpAny_bind (wpAny_letGo (wpAny_pure ?_))
      by_cases hb : g j < m
      · rw [decide_eq_true hb]
        simp only [if_true]
        refine wpAny_bind (m := updateSeq B (fun _ => #[.int (g j) t2, .int (g j) t2])) (wpAny_updateSeq hB' rfl (wpAny_bind (wpAny_letGo ?_)))
        rw [hnm]
        refine wpAny_pure ⟨plainId_quiet F.plain_min_loop _, ih (j + 1) _ _ _ (by omega) hlt (W.frame _ _ _ st' fun b hbf o e => ?_) (Heap.get?_update_self _ hB' rfl) (.inr ⟨g j, t2, rfl, hl.yes hb⟩) fun v h2 tk2 ht2 hk2 => ?_⟩
        · exact (Heap.get?_update_other _ _ (fun h : B = b => hB (h ▸ hbf))).trans e
        · exact q v h2 tk2 ht2 fun b o hbw hbS e => hk2 b o hbw hbS ((Heap.get?_update_other _ _ (Ne.symm hbS)).trans (hk' b o hbw e))
      · rw [decide_eq_false hb]
        simp only [Bool.false_eq_true, if_false]
        refine wpAny_bind (wpAny_letGo ?_)
        rw [hnm]
        refine wpAny_pure ⟨plainId_quiet F.plain_min_loop _, ih (j + 1) _ _ _ (by omega) hlt st' hB' (.inr ⟨m, t, rfl, hl.no hb⟩) fun v h2 tk2 ht2 hk2 => ?_⟩
        exact q v h2 tk2 ht2 fun b o hbw hbS e => hk2 b o hbw hbS (hk' b o hbw e)
end
section
variable {P : Program} {w : World} {A : Around} {E : Value → Shared → Prop} {s : Shared}
theorem args_mnd (a d : Value) : argsOk "min" ⟨[a], [(Str.ofString "default", d)]⟩ := by unfold argsOk; kernel_rfl
theorem fn_tree_kw {id : String} {f : Builtin} {xs : List Value} {kw : List (Str × Value)} {Q : Value → Shared → Prop} (k1 : builtinKind id = none) (k2 : plainId id = true) (k3 : entryFor table id = some f) (k4 : argsOk id ⟨xs, kw⟩)
    (k5 : wpAny (model P w) A.in1 (f ⟨xs, kw⟩) (fun z s1 => match z with
      | .done y => (match (Except.ok y : Result) with | .ok (.ret v) => Q v s1 | .ok _ => False | .error e => E e s1)
      | .again y => y.quiet = true ∧ codeAny (model P w) A y (fun r s1 => match r with | .ok (.ret v) => Q v s1 | .ok _ => False | .error e => E e s1) s1) E s) :
    wpAny (model P w) A (call (.builtin id) xs kw) Q E s := by
  refine wpAny_call (codeAny_call_builtin k2 k3 ?_)
  simp only [checkBuiltinCall, k1]
  cases e : Manifest.signature? id with
  | none => exact wpAny_pure k5
  | some sg =>
    have k6 : Bind.checkArgs id sg ⟨xs, kw⟩ = pure () := by simpa only [argsOk, e] using k4
    simp only [k6]
    exact wpAny_pure k5
theorem mnd_call {l : Addr} {its : Array Value} {g : Nat → Int} {d : Value} {Q : Value → Shared → Prop} (hh : A.handled = none) (hl : s.heap.IsList l its) (hg : ∀ (i : Nat) (v : Value), its[i]? = some v → ∃ t, v = Value.int (g i) t)
    (q : ∀ v h' tk, Told g its.size d v → (∀ b o, s.heap.get? b = some o → h'.get? b = some o) → Q v { s with heap := h', toks := tk }) :
    wpAny (model P w) A (call (.builtin "min") [.ref l] [(Str.ofString "default", d)]) Q E s := by
  have hnm : (toString "min" ++ toString ".loop" : String) = "min.loop" := by decide
  have hlt : l < s.heap.objs.size := by obtain ⟨_, e, _⟩ := hl; exact Heap.lt_size e
  refine fn_tree_kw F.kind_min F.plain_min F.entry_min (args_mnd _ _) ?_
  refine wpAny_bind (m := Builtin.Builtins.bindParams "min" ["key", "default"] 0 ⟨[], [(Str.ofString "default", d)]⟩) (wpAny_of_eq (show Builtin.Builtins.bindParams "min" ["key", "default"] 0 ⟨[], [(Str.ofString "default", d)]⟩ = pure [none, some d] from rfl) ?_)
  refine wpAny_bind (wpAny_pure ?_)
  refine wpAny_bind (m := pyIter (.ref l)) (wpAny_pyIter_list hl ?_)
  refine wpAny_bind (wpAny_newObj_type ?_)
  rw [hnm]
  have hsz : (s.heap.push { cls := .type "list_iterator", data := .fields #[.ref l, .int 0 0] }).objs.size = s.heap.objs.size + 1 := Heap.size_push ..
  have W := Walks.list (prog := P) (w := w) (A := A.in1) hh s.heap.objs.size l (Nat.ne_of_lt hlt) its
  refine wpAny_pure ⟨plainId_quiet F.plain_min_loop _, mnd_loop W g hg _ ?_ d its.size 0 _ #[] 0 rfl (Nat.zero_le _) ?_ (Heap.get?_push_size _ rfl) (.inl ⟨rfl, rfl⟩) fun v h' tk ht hk => ?_⟩
  · rw [hsz]
    intro hm
    rcases List.mem_cons.mp hm with e | hm
    · exact Nat.succ_ne_self _ e
    · rcases List.mem_cons.mp hm with e | hm
      · exact absurd hlt (Nat.not_lt_of_le (Nat.le_trans (Nat.le_succ _) (Nat.le_of_eq e)))
      · cases hm
  · exact ⟨⟨_, Heap.get?_push_of_some _ (Heap.get?_push_size _ rfl), rfl, rfl⟩, (hl.push _).push _⟩
  · refine q v h' tk ht fun b o e => hk b o ?_ ?_ (Heap.get?_push_of_some _ (Heap.get?_push_of_some _ e))
    · intro hm
      rcases List.mem_cons.mp hm with e1 | hm
      · exact absurd (e1 ▸ Heap.lt_size e) (Nat.lt_irrefl _)
      · cases hm
    · rw [hsz]
      exact Nat.ne_of_lt (Nat.lt_succ_of_lt (Heap.lt_size e))
end
/-- the least of a list, or none of an empty one -/
def leastO : List Int → Option Int
  | [] => none
  | x :: r => some (r.foldl (fun a b => if b < a then b else a) x)
theorem least_fold : ∀ (r : List Int) (x : Int), (r.foldl (fun a b => if b < a then b else a) x = x ∨ r.foldl (fun a b => if b < a then b else a) x ∈ r) ∧ r.foldl (fun a b => if b < a then b else a) x ≤ x ∧ ∀ y ∈ r, r.foldl (fun a b => if b < a then b else a) x ≤ y
  | [], x => ⟨.inl rfl, Int.le_refl _, fun _ h => nomatch h⟩
  | z :: r, x => by
    obtain ⟨h1, h2, h3⟩ := least_fold r (if z < x then z else x)
    rw [List.foldl_cons]
    have hle : (if z < x then z else x) ≤ x ∧ (if z < x then z else x) ≤ z := by split <;> constructor <;> omega
    have heq : (if z < x then z else x) = x ∨ (if z < x then z else x) = z := by split <;> simp
    refine ⟨?_, by omega, fun y hy => ?_⟩
    · rcases h1 with h1 | h1
      · rcases heq with e | e
        · exact .inl (h1.trans e)
        · exact .inr (by rw [h1, e]; exact List.mem_cons_self)
      · exact .inr (List.mem_cons_of_mem _ h1)
    · rcases List.mem_cons.mp hy with rfl | hy
      · omega
      · exact h3 y hy
theorem leastO_some {xs : List Int} {m : Int} : leastO xs = some m ↔ m ∈ xs ∧ ∀ y ∈ xs, m ≤ y := by
  cases xs with
  | nil => exact ⟨fun h => (by cases h), fun h => absurd h.1 List.not_mem_nil⟩
  | cons x r =>
    obtain ⟨h1, h2, h3⟩ := least_fold r x
    have hmem : r.foldl (fun a b => if b < a then b else a) x ∈ x :: r := by
      rcases h1 with e | e
      · rw [e]; exact List.mem_cons_self
      · exact List.mem_cons_of_mem _ e
    have hall : ∀ y ∈ x :: r, r.foldl (fun a b => if b < a then b else a) x ≤ y := fun y hy => by
      rcases List.mem_cons.mp hy with rfl | hy
      · exact h2
      · exact h3 y hy
    constructor
    · intro h
      cases h
      exact ⟨hmem, hall⟩
    · intro ⟨h4, h5⟩
      have a1 := h5 _ hmem
      have a2 := hall _ h4
      show some _ = some m
      rw [show r.foldl (fun a b => if b < a then b else a) x = m by omega]
theorem leastO_none {xs : List Int} : leastO xs = none ↔ xs = [] := by
  cases xs with
  | nil => exact ⟨fun _ => rfl, fun _ => rfl⟩
  | cons x r => exact ⟨fun h => (by cases h), fun h => (by cases h)⟩
section
variable {X : Cx}
def rMinD (K : PySem.W.Frag) : V → Hp → VK → Prop := fun v H Q => ∃ a ns, v = .ref a ∧ SqL K H a (ns.map V.int) ∧ Q (Mt.optI (leastO ns)) H
theorem bt_min' : bootBuiltins "min" = some (.builtin "min") := by decide +kernel
theorem bt_max' : bootBuiltins "max" = some (.builtin "max") := by decide +kernel
/-- min(e, default=None) -/
theorem pe_minD {e : Expr} {te : TE} {p p2 pos kpos : Pos} {p0 : _} (hc : X.calm = true) (hg : Gl X "min") (hm : X.mg "min" = none) (he : PE X e te)
    (h1 : backTo pos (starEach [e] X.env) = (false, eval e X.env) :: backTo pos (starEach [] X.env) := by rfl) (h2 : (backTo pos (starEach [e] X.env)).any (·.1) = false := by rfl) (h3 : starEach [e] X.env = (false, eval e X.env) :: starEach [] X.env := by rfl) :
    PE X (.Call (.Name "min" p) [e] [⟨some "default", .Constant .none p0 p2, kpos⟩] pos) (fun σ H Q => te σ H fun v H1 => rMinD X.K v H1 Q) := by
  intro pins s σ H Q I h
  refine wpAny_Call_Name_kw (ld_blt I hg hm bt_min' ?_ (by decide) (by decide))
  refine callWith_kw (thn ((pa_cons he pa_nil h3) pos pins s σ H (fun vs H1 => match vs with | [v] => rMinD X.K v H1 Q | _ => False) I h) fun us s1 ⟨vs, H1, I1, r1, q1⟩ => ?_) h1 h2
  match vs, r1, q1 with
  | [], _, q1 => exact q1.elim
  | _ :: _ :: _, _, q1 => exact q1.elim
  | [v], r1, q1 =>
  obtain ⟨u, rfl, ru⟩ := vals1 r1
  refine thn ((pk_cons pe_non pk_nil) pos pins s1 σ H1 (fun zs H2 => zs = [.non] ∧ H2 = H1) I1 ⟨rfl, rfl⟩) fun ws s2 ⟨zs, H2, I2, rz, e1, e2⟩ => ?_
  subst e1 e2
  obtain ⟨w', rfl, rw'⟩ := vals1 rz
  cases rw'
  obtain ⟨a, ns, rfl, hq, q⟩ := q1
  cases ru
  obtain ⟨its, rv, pl, hz⟩ := I2.list hq
  have hi : IntsAre its ns := intsAre_of rv
  have hil := hi.length
  have at_ : ∀ (i : Nat) (v : Value), its.toArray[i]? = some v → ∃ t, v = Value.int (ns.getD i 0) t := fun i v e => by
    rw [List.getElem?_toArray] at e
    obtain ⟨x, h4, h5⟩ := vals_back rv e
    obtain ⟨z, rfl, h6⟩ := map_int_get h4
    rw [List.getD_eq_getElem?_getD, h6]
    exact h5
  refine mnd_call (g := fun i => ns.getD i 0) (d := .none) (I2.ok.hd hc) pl.isList at_ fun v h' tk ht hk => ?_
  rw [List.size_toArray, hil] at ht
  have val : ∃ v', RelV v' v ∧ v' = Mt.optI (leastO ns) := by
    rcases ht with ⟨e, rfl⟩ | ⟨m, t, rfl, ⟨i, hi', e⟩, hl⟩
    · have : ns = [] := List.length_eq_zero_iff.mp e
      subst this
      exact ⟨.non, rfl, rfl⟩
    · refine ⟨.int m, ⟨t, rfl⟩, ?_⟩
      have : leastO ns = some m := leastO_some.mpr ⟨?_, fun y hy => ?_⟩
      · rw [this]; rfl
      · have e : ns.getD i 0 = m := e
        rw [← e, List.getD_eq_getElem?_getD, List.getElem?_eq_getElem hi']
        exact List.getElem_mem hi'
      · obtain ⟨j, hj, rfl⟩ := List.getElem_of_mem hy
        have this : m ≤ ns.getD j 0 := hl j hj
        rw [List.getD_eq_getElem?_getD, List.getElem?_eq_getElem hj] at this
        exact this
  obtain ⟨v', rv', rfl⟩ := val
  exact ⟨_, H2, I2.kept hk, rv', q⟩
/-- max of a list of ints that is not empty -/
def greatO : List Int → Option Int
  | [] => none
  | x :: r => some (r.foldl (fun a b => if b > a then b else a) x)
theorem great_fold : ∀ (r : List Int) (x : Int), (r.foldl (fun a b => if b > a then b else a) x = x ∨ r.foldl (fun a b => if b > a then b else a) x ∈ r) ∧ x ≤ r.foldl (fun a b => if b > a then b else a) x ∧ ∀ y ∈ r, y ≤ r.foldl (fun a b => if b > a then b else a) x
  | [], x => ⟨.inl rfl, Int.le_refl _, fun _ h => nomatch h⟩
  | z :: r, x => by
    obtain ⟨h1, h2, h3⟩ := great_fold r (if z > x then z else x)
    rw [List.foldl_cons]
    have hle : x ≤ (if z > x then z else x) ∧ z ≤ (if z > x then z else x) := by split <;> constructor <;> omega
    have heq : (if z > x then z else x) = x ∨ (if z > x then z else x) = z := by split <;> simp
    refine ⟨?_, by omega, fun y hy => ?_⟩
    · rcases h1 with h1 | h1
      · rcases heq with e | e
        · exact .inl (h1.trans e)
        · exact .inr (by rw [h1, e]; exact List.mem_cons_self)
      · exact .inr (List.mem_cons_of_mem _ h1)
    · rcases List.mem_cons.mp hy with rfl | hy
      · omega
      · exact h3 y hy
theorem greatO_some {xs : List Int} {m : Int} : greatO xs = some m ↔ m ∈ xs ∧ ∀ y ∈ xs, y ≤ m := by
  cases xs with
  | nil => exact ⟨fun h => (by cases h), fun h => absurd h.1 List.not_mem_nil⟩
  | cons x r =>
    obtain ⟨h1, h2, h3⟩ := great_fold r x
    have hmem : r.foldl (fun a b => if b > a then b else a) x ∈ x :: r := by
      rcases h1 with e | e
      · rw [e]; exact List.mem_cons_self
      · exact List.mem_cons_of_mem _ e
    have hall : ∀ y ∈ x :: r, y ≤ r.foldl (fun a b => if b > a then b else a) x := fun y hy => by
      rcases List.mem_cons.mp hy with rfl | hy
      · exact h2
      · exact h3 y hy
    constructor
    · intro h
      cases h
      exact ⟨hmem, hall⟩
    · intro ⟨h4, h5⟩
      have a1 := h5 _ hmem
      have a2 := hall _ h4
      show some _ = some m
      rw [show r.foldl (fun a b => if b > a then b else a) x = m by omega]
theorem call_maxL (hc : X.calm = true) : CallR X (.builtin "max") (fun xs H Q => ∃ p ns m, xs = [.ref p] ∧ SqL X.K H p (ns.map V.int) ∧ greatO ns = some m ∧ Q (.int m) H) := by
  intro pins s σ H xs us Q I r h
  obtain ⟨p, ns, m, rfl, hq, hgr, q⟩ := h
  obtain ⟨u, rfl, ru⟩ := vals1 r
  cases ru
  obtain ⟨its, rv, pl, hz⟩ := I.list hq
  have hi : IntsAre its ns := intsAre_of rv
  obtain ⟨xs, e⟩ := hi.allInts.items
  have hns : ns = xs.toList.map (·.1) := by rw [← hi.numsOf, ← nums_intItems, ← e]
  obtain ⟨hm, hall⟩ := greatO_some.mp hgr
  have hsz : 0 < xs.size := by
    have h3 : 0 < ns.length := List.length_pos_of_mem hm
    rw [hns, List.length_map, Array.length_toList] at h3
    exact h3
  have pl2 := pl.isList
  rw [e] at pl2
  refine max_intList (I.ok.hd hc) pl2 hsz fun v h' tk hv hk => ?_
  obtain ⟨t, rfl⟩ := intItems_at hv
  obtain ⟨g1, g2⟩ := argBest_gt (numAt xs) (xs.size - 1)
  have e3 : numAt xs (argBest (fun i j => decide (numAt xs i > numAt xs j)) (xs.size - 1)) = m := by
    have a1 : numAt xs (argBest (fun i j => decide (numAt xs i > numAt xs j)) (xs.size - 1)) ∈ ns := by
      rw [hns, numAt_eq]; exact getD_mem (by rw [List.length_map, Array.length_toList]; omega)
    have a2 := hall _ a1
    have hm2 := hm
    rw [hns] at hm2
    obtain ⟨j, hj, ej⟩ := mem_getD hm2
    rw [List.length_map, Array.length_toList] at hj
    have a3 := g2 j (by omega)
    rw [numAt_eq, ej] at a3
    omega
  rw [e3]
  exact ⟨.int m, H, I.kept hk, ⟨t, rfl⟩, q⟩
end
section
variable {X : Cx} (K : PySem.W.Frag) (hK : X.K = K)
include hK
theorem kpe_minD {e : Expr} {te : TE} {p p2 pos kpos : Pos} {p0 : _} (hc : X.calm = true) (hg : Gl X "min") (hm : X.mg "min" = none) (he : PE X e te)
    (h1 : backTo pos (starEach [e] X.env) = (false, eval e X.env) :: backTo pos (starEach [] X.env) := by rfl) (h2 : (backTo pos (starEach [e] X.env)).any (·.1) = false := by rfl) (h3 : starEach [e] X.env = (false, eval e X.env) :: starEach [] X.env := by rfl) :
    PE X (.Call (.Name "min" p) [e] [⟨some "default", .Constant .none p0 p2, kpos⟩] pos) (fun σ H Q => te σ H fun v H1 => rMinD K v H1 Q) := by subst hK; exact pe_minD hc hg hm he h1 h2 h3
theorem kcall_maxL (hc : X.calm = true) : CallR X (.builtin "max") (fun xs H Q => ∃ p ns m, xs = [.ref p] ∧ SqL K H p (ns.map V.int) ∧ greatO ns = some m ∧ Q (.int m) H) := by subst hK; exact call_maxL hc
end
end L2

/-! ### a list or another one; lines, gaps and their costs -/
namespace L2
open PySem PySem.Spec PyProof.Rows
section
variable {X : Cx} {a b : Expr} {rest : List Expr} {pos : Pos} {ta tb : TE}
def tOrL (K : PySem.W.Frag) (ta tb : TE) : TE := fun σ H Q => ta σ H fun x H1 => ∃ l xs, x = .ref l ∧ SqL K H1 l xs ∧ ∃ M : V → Hp → Prop, (xs ≠ [] → M (.ref l) H1) ∧ (xs = [] → tb σ H1 M) ∧ ∀ v H2, M v H2 → Q v H2
/-- a or b, of a list -/
theorem pe_orL (ha : PE X a ta) (hb : PE X (.BoolOp .Or (b :: rest) pos) tb) : PE X (.BoolOp .Or (a :: b :: rest) pos) (tOrL X.K ta tb) := by
  intro pins s σ H Q I h
  refine BoolOp_or (thn (ha pins s σ H _ I h) fun v s1 ⟨x, H1, I1, r1, q1⟩ => ?_)
  obtain ⟨l, xs, rfl, hq, M, y1, y2, y3⟩ := q1
  cases r1
  obtain ⟨its, rv, pl, hz⟩ := I1.list hq
  have hlen := rv.length
  have hl63 := line63
  refine wpAny_truthy_list pl.isList (by rw [List.size_toArray]; omega) ?_
  cases xs with
  | nil =>
    have e : its = [] := List.eq_nil_of_length_eq_zero (by rw [← hlen]; rfl)
    subst e
    exact thn (hb pins _ σ H1 M (I1.tok _) (y2 rfl)) fun v s2 ⟨x, H2, I2, r2, q2⟩ => ⟨x, H2, I2, r2, y3 _ _ q2⟩
  | cons z zs =>
    have e : its.toArray.isEmpty = false := by
      cases its with
      | nil => cases hlen
      | cons u us => rfl
    rw [e]
    exact ⟨.ref l, H1, I1.tok _, rfl, y3 _ _ (y1 (fun z => nomatch z))⟩
end
section
variable {X : Cx} {a b : Expr} {rest : List Expr} {pos : Pos} {ta tb : TE} (K : PySem.W.Frag) (hK : X.K = K)
include hK
theorem kpe_orL (ha : PE X a ta) (hb : PE X (.BoolOp .Or (b :: rest) pos) tb) : PE X (.BoolOp .Or (a :: b :: rest) pos) (tOrL K ta tb) := by subst hK; exact pe_orL ha hb
end
theorem map_str_get {ws : List Str} {i : Nat} {y : V} (h : (ws.map V.str)[i]? = some y) : ∃ x, y = .str x ∧ ws[i]? = some x := by
  rw [List.getElem?_map] at h
  cases e : ws[i]? with
  | none => rw [e] at h; cases h
  | some z => rw [e] at h; exact ⟨z, (Option.some.inj h).symm, rfl⟩
theorem cut_map {α : Type} (f : α → V) (xs : List α) (a b : Nat) (h : b ≤ xs.length) : cutV (xs.map f) (some (a : Int)) (some (b : Int)) = ((xs.take b).drop a).map f := by
  unfold cutV
  rw [HT.sIx_nat, HT.sIx_nat, List.length_map, Nat.min_eq_left h, ← List.map_drop, ← List.map_take, List.drop_take]
  by_cases ha : a ≤ xs.length
  · rw [Nat.min_eq_left ha]
  · rw [Nat.min_eq_right (by omega), List.drop_of_length_le (Nat.le_refl _), List.drop_of_length_le (show xs.length ≤ a by omega)]
    simp
end L2
namespace Ln
open PySem L2
def misfit (sp m lo hi : Int) : Int := if m * hi < sp then sp - m * hi else if 0 < sp - m * lo then 0 else sp - m * lo
def cost (sp m lo ideal hi : Int) (last : Bool) : Option Int := if last = true ∧ 0 ≤ sp - m * ideal then some 0 else if misfit sp m lo hi = 0 then some ((sp - m * ideal) * (sp - m * ideal)) else none
theorem cost_zero {sp m lo ideal hi : Int} {last : Bool} (h1 : last = true) (h2 : 0 ≤ sp - m * ideal) : cost sp m lo ideal hi last = some 0 := if_pos ⟨h1, h2⟩
theorem misfit_iff {sp m lo hi : Int} (h : m * lo ≤ m * hi) : misfit sp m lo hi = 0 ↔ m * lo ≤ sp ∧ sp ≤ m * hi := by
  unfold misfit
  generalize m * lo = a at h ⊢
  generalize m * hi = b at h ⊢
  split
  · constructor <;> intro <;> omega
  · split <;> constructor <;> intro <;> omega
theorem cost_set {sp m lo ideal hi : Int} {last : Bool} (h : ¬ (last = true ∧ 0 ≤ sp - m * ideal)) (h2 : misfit sp m lo hi = 0) : cost sp m lo ideal hi last = some ((sp - m * ideal) * (sp - m * ideal)) := by
  unfold cost
  rw [if_neg h, if_pos h2]
theorem cost_not {sp m lo ideal hi : Int} {last : Bool} (h : ¬ (last = true ∧ 0 ≤ sp - m * ideal)) (h2 : ¬ misfit sp m lo hi = 0) : cost sp m lo ideal hi last = none := by
  unfold cost
  rw [if_neg h, if_neg h2]
theorem mul_up {m a b : Int} (hm : 0 ≤ m) (h : a ≤ b) : m * a ≤ m * b := Int.mul_le_mul_of_nonneg_left h hm
theorem mul_le' {m a : Int} (hm : 0 ≤ m) (hm2 : m ≤ 1000) (ha : 0 ≤ a) (ha2 : a ≤ 1000) : 0 ≤ m * a ∧ m * a ≤ 1000000 := by
  refine ⟨Int.mul_nonneg hm ha, ?_⟩
  have h1 : m * a ≤ m * 1000 := Int.mul_le_mul_of_nonneg_left ha2 hm
  omega
/-- of widths -/
def costW (zs : List Int) (ms lo ideal hi : Int) (last : Bool) : Option Int := cost (ms - List.sum zs) ((zs.length : Int) - 1) lo ideal hi last
/-- the six signs of the small cases -/
def abc : List Nat := [97, 98, 99, 100, 101, 102]
theorem abc_cps : (Str.ofString "abcdef").cps.toList = abc := by decide +kernel
theorem abc_lay : ∀ c ∈ abc, PyData.canLay0 (.str (sg c)) = true := by decide +kernel
theorem abc_nd : (abc.map sg).Nodup := by decide +kernel
theorem abc_at {i : Int} (h0 : 0 ≤ i) (h1 : i < 6) : ∃ c, c ∈ abc ∧ abc[i.toNat]? = some c ∧ atI (Str.ofString "abcdef").cps.toList i = some c := by
  rw [abc_cps]
  have hl : abc.length = 6 := rfl
  have hk : i.toNat < abc.length := by omega
  have ek : i = ((i.toNat : Nat) : Int) := by omega
  have q : atI abc ((i.toNat : Nat) : Int) = some abc[i.toNat] := atI_nat (List.getElem?_eq_getElem hk)
  rw [← ek] at q
  exact ⟨abc[i.toNat], List.getElem_mem hk, List.getElem?_eq_getElem hk, q⟩
structure AbcCase (rs : List Cs.Row) : Prop where
  sg : (rs.map fun r => r.s) = abc.map sg
  wd : ∀ r ∈ rs, 1 ≤ r.w ∧ r.w ≤ 100
theorem AbcCase.len {rs : List Cs.Row} (h : AbcCase rs) : rs.length = 6 := by
  have := congrArg List.length h.sg
  rwa [List.length_map, List.length_map] at this
theorem AbcCase.nd {rs : List Cs.Row} (h : AbcCase rs) : (rs.map fun r => r.s).Nodup := by rw [h.sg]; exact abc_nd
theorem AbcCase.place {rs : List Cs.Row} (h : AbcCase rs) {c : Nat} (hc : c ∈ abc) : (Cs.place rs (L2.sg c)).isSome = true := by
  have h1 : L2.sg c ∈ rs.map fun r => r.s := by rw [h.sg]; exact List.mem_map_of_mem hc
  obtain ⟨r, hr, e⟩ := List.mem_map.mp h1
  unfold Cs.place
  rw [List.findIdx?_isSome, List.any_eq_true]
  exact ⟨r, hr, decide_eq_true e⟩
theorem AbcCase.lay {rs : List Cs.Row} (h : AbcCase rs) : ∀ r ∈ rs, PyData.canLay0 (.str r.s) = true := fun r hr => by
  have h1 : r.s ∈ rs.map fun r => r.s := List.mem_map_of_mem (f := fun r => r.s) hr
  rw [h.sg] at h1
  obtain ⟨c, hc, e⟩ := List.mem_map.mp h1
  rw [← e]
  exact abc_lay c hc
theorem AbcCase.wide {rs : List Cs.Row} (h : AbcCase rs) (x : Str) : 0 ≤ Cs.wideAt rs x ∧ Cs.wideAt rs x ≤ 100 := by
  unfold Cs.wideAt
  split
  · rename_i i _
    split
    · rename_i r hr
      have := h.wd r (List.mem_of_getElem? hr)
      omega
    · omega
  · omega
/-- short words of these signs -/
def AbcWord (x : Str) : Prop := 1 ≤ x.length ∧ x.length ≤ 6 ∧ ∀ c ∈ x.cps.toList, c ∈ abc
theorem sum_bd : ∀ {zs : List Int} {B : Int}, 0 ≤ B → (∀ z ∈ zs, 0 ≤ z ∧ z ≤ B) → 0 ≤ List.sum zs ∧ List.sum zs ≤ zs.length * B
  | [], B, _, _ => ⟨Int.le_refl _, by simp⟩
  | z :: zs, B, h0, h => by
    obtain ⟨h1, h2⟩ := sum_bd (zs := zs) h0 fun y hy => h y (List.mem_cons_of_mem _ hy)
    obtain ⟨h3, h4⟩ := h z List.mem_cons_self
    rw [List.sum_cons, List.length_cons]
    refine ⟨by omega, ?_⟩
    have e : (((zs.length + 1 : Nat) : Int)) * B = zs.length * B + B := by
      rw [Int.natCast_add, Int.add_mul]
      show _ + 1 * B = _
      rw [Int.one_mul]
    omega
theorem wide_bd {rs : List Cs.Row} (h : AbcCase rs) {x : Str} (hx : AbcWord x) : 0 ≤ Cs.wideOf rs x ∧ Cs.wideOf rs x ≤ 600 := by
  unfold Cs.wideOf
  obtain ⟨h1, h2⟩ := sum_bd (zs := x.cps.toList.map fun c => Cs.wideAt rs (L2.sg c)) (B := 100) (by omega) fun z hz => by
    obtain ⟨c, _, rfl⟩ := List.mem_map.mp hz
    exact h.wide _
  have h3 : x.cps.size ≤ 6 := hx.2.1
  rw [List.length_map] at h2
  have h4 : x.cps.toList.length = x.cps.size := Array.length_toList
  omega
theorem body_bd {rs : List Cs.Row} (h : AbcCase rs) {ws : List Str} (hw : ∀ x ∈ ws, AbcWord x) : 0 ≤ Cs.bodyOf rs ws ∧ Cs.bodyOf rs ws ≤ ws.length * 600 := by
  unfold Cs.bodyOf
  have := sum_bd (zs := ws.map fun x => Cs.wideOf rs x) (B := 600) (by omega) fun z hz => by
    obtain ⟨x, hx, rfl⟩ := List.mem_map.mp hz
    exact wide_bd h (hw x hx)
  rw [List.length_map] at this
  exact this
/-- what can be asked of a word by a case -/
theorem abc_ok {rs : List Cs.Row} (h : AbcCase rs) {ws : List Str} (hw : ∀ x ∈ ws, AbcWord x) : ∀ x ∈ ws, x.length ≤ 1000 ∧ ∀ c ∈ x.cps.toList, (Cs.place rs (L2.sg c)).isSome = true := fun x hx =>
  ⟨by have := (hw x hx).2.1; omega, fun c hc => h.place ((hw x hx).2.2 c hc)⟩
theorem abc_words_lay {x : Str} (h : AbcWord x) : PyData.canLay0 (.str x) = true := by
  have h1 : ∀ c ∈ x.cps.toList, c ∈ abc := h.2.2
  show (x.cps.all fun c => decide (c < 0x110000)) = true
  rw [← Array.all_toList, List.all_eq_true]
  intro c hc
  have h2 := h1 c hc
  simp only [abc, List.mem_cons, List.not_mem_nil, or_false] at h2
  exact decide_eq_true (by omega)
abbrev dWords (ws : List Str) : PyData := .list (ws.map PyData.str)
theorem denL_texts {K : PySem.W.Frag} {H : Hp} : ∀ {ws : List Str}, (∀ x ∈ ws, PyData.canLay0 (.str x) = true) → DenL K H (ws.map V.str) (ws.map PyData.str)
  | [], _ => .nil
  | x :: ws, h => .cons (.str _ (h x List.mem_cons_self)) (denL_texts fun y hy => h y (List.mem_cons_of_mem _ hy))
theorem denL_words {K : PySem.W.Frag} {H : Hp} {ws : List Str} (h : ∀ x ∈ ws, AbcWord x) : DenL K H (ws.map V.str) (ws.map PyData.str) := denL_texts fun x hx => abc_words_lay (h x hx)
theorem nb_words : ∀ ws : List Str, nbL (ws.map PyData.str) = true
  | [] => rfl
  | x :: ws => by
    show (nb (PyData.str x) && nbL (ws.map PyData.str)) = true
    rw [nb_words ws]
    rfl
theorem dwords_depth' (ws : List Str) (e : PyData) (h : PyData.depthAll (ws.map PyData.str) = 0) : min (PyData.list (ws.map PyData.str)).depth e.depth ≤ 64 := by
  have q : (PyData.list (ws.map PyData.str)).depth = PyData.depthAll (ws.map PyData.str) + 1 := rfl
  omega
theorem depth_words : ∀ ws : List Str, PyData.depthAll (ws.map PyData.str) = 0
  | [] => rfl
  | x :: ws => by
    show max (PyData.str x).depth (PyData.depthAll (ws.map PyData.str)) = 0
    rw [depth_words ws]
    rfl
theorem dwords_depth (ws : List Str) (e : PyData) : min (dWords ws).depth e.depth ≤ 64 := dwords_depth' ws e (depth_words ws)
theorem body_app (rs : List Cs.Row) (a b : List Str) : Cs.bodyOf rs (a ++ b) = Cs.bodyOf rs a + Cs.bodyOf rs b := by
  unfold Cs.bodyOf
  rw [List.map_append, List.sum_append]
/-- a case and its words, as one datum -/
abbrev dBoth (rs : List Cs.Row) (ws : List Str) : PyData := .list [Cs.dRows rs, dWords ws]
theorem nb_both (rs : List Cs.Row) (ws : List Str) : nb (dBoth rs ws) = true := by
  show (nb (Cs.dRows rs) && (nb (dWords ws) && true)) = true
  have h1 : nb (Cs.dRows rs) = true := Cs.nb_rows rs
  have h2 : nb (dWords ws) = true := nb_words ws
  rw [h1, h2]
  rfl
theorem depth_both (rs : List Cs.Row) (ws : List Str) (e : PyData) : min (dBoth rs ws).depth e.depth ≤ 64 := by
  have q1 : (Cs.dRows rs).depth = PyData.depthAll (rs.map Cs.rowD) + 1 := rfl
  have q2 : (dWords ws).depth = PyData.depthAll (ws.map PyData.str) + 1 := rfl
  have q : (dBoth rs ws).depth = max (Cs.dRows rs).depth (max (dWords ws).depth 0) + 1 := rfl
  have := Cs.depth_rows rs
  have := depth_words ws
  omega
theorem den_both {K : PySem.W.Frag} {H : Hp} {a c p : Addr} {xs : List V} {rs : List Cs.Row} {ws : List Str} (h : SqL K H a [.ref c, .ref p]) (hc : SqL K H c xs) (hp : Paired (Cs.RowAt H) xs rs) (hl : ∀ r ∈ rs, PyData.canLay0 (.str r.s) = true) (hw : SqL K H p (ws.map V.str)) (ha : ∀ x ∈ ws, AbcWord x) :
    Den K H (.ref a) (dBoth rs ws) := .lst h (.cons (.lst hc (Cs.denL_rows hp hl)) (.cons (.lst hw (denL_words ha)) .nil))
/-- what is drawn: a case, words, a measure and gaps -/
structure Dr (H : Hp) (t : Addr) (xs : List V) (rs : List Cs.Row) (ws : List Str) (c p g : Addr) (ms lo ideal hi : Int) : Prop where
  tup : H t = some (.tup [.ref c, .ref p, .int ms, .ref g])
  cas : H c = some (.lst xs)
  row : Paired (Cs.RowAt H) xs rs
  abc : AbcCase rs
  wrd : H p = some (.lst (ws.map V.str))
  wok : ∀ x ∈ ws, AbcWord x
  wl1 : 1 ≤ ws.length
  wl2 : ws.length ≤ 63
  gap : H g = some (.tup [.int lo, .int ideal, .int hi])
  g0 : 0 ≤ lo
  g1 : lo ≤ ideal
  g2 : ideal ≤ hi
  g3 : hi ≤ 99
  m1 : 1 ≤ ms
  m2 : ms ≤ 2000
end Ln

/-! ### range with a step -/
namespace L2
open PySem PySem.Spec PyProof.Rows
def Its3 (lo st : Int) (n : Nat) : It := ⟨fun i _ => i < n, fun i H x H' => H' = H ∧ x = .int (lo + i * st), fun i _ => n ≤ i⟩
theorem turn_range3 {P : Program} {w : World} {K : PySem.W.Frag} {tg : Expr} (it : Addr) (lo st : Int) (n : Nat) : Turn P w K tg (Its3 lo st n) [it] it (fun i h => IsRangeIter h it (lo + (i : Nat) * st) ((n : Int) - (i : Nat)) st) where
  mem := by simp
  obj := fun i h q b hb => by
    have e : b = it := by simpa using hb
    subst e
    exact ⟨_, q, fun v z => by
      have z' : Data.fields _ = Data.cell v := z
      cases z'⟩
  keep := fun i h h' q k => k it (by simp) _ q
  item := by
    intro X hP hw hK hc i pins s σ H E I hf q hg
    subst hP hw hK
    obtain ⟨f0, f1, f2, f3, f4, f5⟩ := hf it (by simp)
    have W := Walks.range (prog := X.prog) (w := X.w) (I.ok.hd hc) it lo st n
    refine W.item i s _ _ hg q fun v h' tk hv q' kk => ?_
    obtain ⟨t, rfl⟩ := hv
    have I1 : Inv X pins σ H { s with heap := h', toks := tk } := I.turned (fun b o hb e => kk b o (by simpa using hb) e) f0 f1 f3 f4 f5
    exact ⟨_, rfl, go_of (s := { s with heap := h', toks := tk }) (n := "range_iterator") q' rfl rfl (by decide) ⟨.int (lo + i * st), H, I1, ⟨t, rfl⟩, ⟨rfl, rfl⟩, q', fun b hb => (hf b hb).1⟩⟩
  done := by
    intro X hP hw hK hc i pins s σ H E I hf q hg
    subst hP hw hK
    obtain ⟨f0, f1, f2, f3, f4, f5⟩ := hf it (by simp)
    exact wpAny_pyNext_range_end (I.ok.hd hc) q (by have : n ≤ i := hg; omega) fun h' eb => ⟨rfl, I.turned (t' := s.toks) (fun b o hb e => eb b o hb e) f0 f1 f3 f4 f5⟩
  self := fun _ _ _ _ _ q h => wpAny_pyIter_rangeiter q h
section
variable {X : Cx} {tg : Expr}
def size3 (a b c : Int) : Nat := (Builtin.Range.rangeSize a b c).toNat
theorem size3_nonneg (a b c : Int) (h : c ≠ 0) : 0 ≤ Builtin.Range.rangeSize a b c := by
  unfold Builtin.Range.rangeSize
  split
  · split
    · have := Int.ediv_nonneg (show 0 ≤ b - a - 1 by omega) (show 0 ≤ c by omega)
      omega
    · omega
  · split
    · have := Int.ediv_nonneg (show 0 ≤ a - b - 1 by omega) (show 0 ≤ -c by omega)
      omega
    · omega
theorem size3_down (n : Nat) : size3 ((n : Int) - 1) (-1) (-1) = n := by
  unfold size3 Builtin.Range.rangeSize
  rw [if_neg (by decide)]
  split
  · rw [show (-(-1) : Int) = 1 from rfl, Int.ediv_one]
    omega
  · omega
def iRng3 (ta : TA) : TI := fun σ H R => ta σ H fun vs H1 => ∃ i j k : Int, vs = [.int i, .int j, .int k] ∧ (-1000000 ≤ i ∧ i ≤ 1000000 ∧ -1000000 ≤ j ∧ j ≤ 1000000) ∧ (k ≠ 0 ∧ -1000 ≤ k ∧ k ≤ 1000) ∧ R (Its3 i k (size3 i j k)) H1
theorem small3 {i j k : Int} (h1 : -1000000 ≤ i) (h2 : i ≤ 1000000) (h3 : -1000000 ≤ j) (h4 : j ≤ 1000000) (h5 : k ≠ 0) (h6 : -1000 ≤ k) (h7 : k ≤ 1000) : Builtin.Range.small i j k = true := by
  have hn := size3_nonneg i j k h5
  have hu : Builtin.Range.rangeSize i j k ≤ 2000001 := by
    unfold Builtin.Range.rangeSize
    split
    · split
      · have := Int.ediv_le_self (b := k) (show 0 ≤ j - i - 1 by omega)
        omega
      · omega
    · split
      · have := Int.ediv_le_self (b := -k) (show 0 ≤ i - j - 1 by omega)
        omega
      · omega
  unfold Builtin.Range.small
  generalize Builtin.Range.rangeSize i j k = r at hn hu ⊢
  have e : (if k > 0 then Builtin.Range.rangeFitsLong (j + (k - 1)) else Builtin.Range.rangeFitsLong (j + (k + 1))) = true := by
    split <;> simp only [Builtin.Range.rangeFitsLong, Bool.and_eq_true, decide_eq_true_eq] <;> omega
  rw [e]
  simp only [Builtin.Range.rangeFitsLong, Bool.and_eq_true, Bool.or_true, decide_eq_true_eq, and_true]
  omega
theorem range_it3 {pins : List (Addr × Obj)} {σ : St} {H : Hp} {s : Shared} {R : It → Hp → Prop} {E : Value → Shared → Prop} {i j k : Int} {t u v : Tok} {tk : Nat} (I : Inv X pins σ H s) (hsm : Builtin.Range.small i j k = true) (hk : k ≠ 0)
    (q : R (Its3 i k (size3 i j k)) H) : wpAny (model X.prog X.w) X.A (pyIter (.ref s.heap.objs.size)) (PIE X pins σ tg R) E { s with heap := s.heap.push { cls := .type "range", data := .fields #[.int i t, .int j u, .int k v] }, toks := tk } := by
  refine wpAny_pyIter_range (IsRange.new ..) hsm ?_
  generalize hg : s.heap.push { cls := .type "range", data := .fields #[.int i t, .int j u, .int k v] } = g
  have I1 : Inv X pins σ H { s with heap := g, toks := tk } := I.kept fun b o e => by rw [← hg]; exact Heap.get?_push_of_some _ e
  refine ⟨g.objs.size, [g.objs.size], _, _, H, rfl, I1.kept (t' := tk) fun b o e => Heap.get?_push_of_some _ e, turn_range3 _ i k (size3 i j k), ?_, fun b hb => ?_, q⟩
  · have e1 : i + ((0 : Nat) : Int) * k = i := by simp
    have e2 : ((size3 i j k : Nat) : Int) - ((0 : Nat) : Int) = Builtin.Range.rangeSize i j k := by
      have := size3_nonneg i j k hk
      unfold size3
      omega
    show IsRangeIter _ _ (i + ((0 : Nat) : Int) * k) (((size3 i j k : Nat) : Int) - ((0 : Nat) : Int)) k
    rw [e1, e2]
    exact Heap.get?_push_size _ rfl
  · have e : b = g.objs.size := by simpa using hb
    subst e
    exact I1.fpOk (Nat.le_refl _) (I1.hok.fresh (Nat.le_refl _))
theorem pi_range3 {a b c : Expr} {ta : TA} {p pos : Pos} (hg : Gl X "range") (hm : X.mg "range" = none) (ha : PA X [a, b, c] ta) (hs : starEach [a, b, c] X.env = [(false, eval a X.env), (false, eval b X.env), (false, eval c X.env)] := by rfl) (hs2 : starEach [b, c] X.env = [(false, eval b X.env), (false, eval c X.env)] := by rfl) :
    PI X tg (.Call (.Name "range" p) [a, b, c] [] pos) (iRng3 ta) := by
  intro pins s σ H R I h
  refine Call_ (ld_blt I hg hm boot_range (PyProof.Rows.callWith_type1 (thn (ha pos pins s σ H _ I h) fun us s1 ⟨vs, H1, I1, r1, q1⟩ => ?_) (by rw [hs, hs2]) (by rw [hs2]; rfl)))
  obtain ⟨i, j, k, e, ⟨h1, h2, h3, h4⟩, ⟨h5, h6, h7⟩, q⟩ := q1
  subst e
  cases r1 with
  | cons r rr =>
    cases rr with
    | cons r' rr =>
      cases rr with
      | cons r'' rr =>
        cases rr
        obtain ⟨t, rfl⟩ := r
        obtain ⟨t', rfl⟩ := r'
        obtain ⟨t'', rfl⟩ := r''
        exact call_range_3 h5 (range_it3 I1 (small3 h1 h2 h3 h4 h5 h6 h7) h5 q) (Or.inl (PyProof.noPylong_small (by omega)))
end
theorem for_range3 {lo st : Int} {n : Nat} {g : TG} {tb : TS} {D : Ends} {σ : St} {H : Hp} (Pv : Nat → St → Hp → Prop) (h0 : Pv 0 σ H)
    (hs : ∀ i σ H, i < n → Pv i σ H → g (.int (lo + i * st)) σ H fun σ2 H2 => tb { D with nx := Pv (i + 1), ct := Pv (i + 1), bk := D.nx } σ2 H2) (hd : ∀ σ H, Pv n σ H → D.nx σ H) :
    ∃ W : Nat → Nat → St → Hp → Prop, (∃ m, W 0 m σ H) ∧ ∀ i m σ H, W i m σ H →
      ((Its3 lo st n).stop i H ∧ D.nx σ H) ∨ ((Its3 lo st n).go i H ∧ ∃ N : St → Hp → Prop, (∀ σ' H', N σ' H' → ∃ m', m' < m ∧ W (i + 1) m' σ' H') ∧ ∀ x H', (Its3 lo st n).yld i H x H' → g x σ H' fun σ2 H2 => tb { D with nx := N, ct := N, bk := D.nx } σ2 H2) := by
  refine ⟨fun i m σ H => m = n - i ∧ i ≤ n ∧ Pv i σ H, ⟨n, by simp, Nat.zero_le _, h0⟩, ?_⟩
  rintro i m σ H ⟨rfl, hi, p⟩
  by_cases hlt : i < n
  · refine .inr ⟨hlt, Pv (i + 1), fun σ' H' p' => ⟨n - (i + 1), by omega, rfl, hlt, p'⟩, fun x H' y => ?_⟩
    obtain ⟨e, y⟩ := y
    subst e y
    exact hs i σ _ hlt p
  · have e : i = n := by omega
    subst e
    exact .inl ⟨Nat.le_refl _, hd σ H p⟩
end L2

/-! ### lists of lines, their keys -/
namespace Lns
open PySem L2
/-- a list of texts at v, and not at the place `no` -/
def LineN (no : Addr) (H : Hp) (v : V) (ws : List Str) : Prop := ∃ p, v = .ref p ∧ p ≠ no ∧ H p = some (.lst (ws.map V.str))
theorem LineN.same {no : Addr} {H H' : Hp} {v : V} {ws : List Str} (h : LineN no H v ws) (s : Same H H') : LineN no H' v ws := let ⟨p, e, n, h⟩ := h; ⟨p, e, n, s _ _ h⟩
theorem lines_same {no : Addr} {H H' : Hp} {xs : List V} {ls : List (List Str)} (h : Paired (LineN no H) xs ls) (s : Same H H') : Paired (LineN no H') xs ls := Paired.mapP h fun _ _ z => z.same s
theorem lines_upd {no : Addr} {H : Hp} {o : HO} {xs : List V} {ls : List (List Str)} (h : Paired (LineN no H) xs ls) : Paired (LineN no (upd H no o)) xs ls :=
  Paired.mapP h fun _ _ ⟨p, e, n, z⟩ => ⟨p, e, n, by rw [upd_ne n]; exact z⟩
/-- to another place that holds none of the lines -/
theorem lines_to {no no2 : Addr} {H : Hp} {xs : List V} {ls : List (List Str)} (h : Paired (LineN no H) xs ls) (h2 : H no2 = none) : Paired (LineN no2 H) xs ls :=
  Paired.mapP h fun _ _ ⟨p, e, _, z⟩ => ⟨p, e, ne_of_none z h2, z⟩
theorem lines_len {no : Addr} {H : Hp} {xs : List V} {ls : List (List Str)} (h : Paired (LineN no H) xs ls) : xs.length = ls.length := Paired.length h
theorem pd_take {α β : Type} {F : α → β → Prop} : ∀ {xs : List α} {ys : List β} (n : Nat), Paired F xs ys → Paired F (xs.take n) (ys.take n)
  | _, _, 0, _ => .nil
  | _, _, _ + 1, .nil => .nil
  | _, _, n + 1, .cons r t => .cons r (pd_take n t)
theorem pd_drop {α β : Type} {F : α → β → Prop} : ∀ {xs : List α} {ys : List β} (n : Nat), Paired F xs ys → Paired F (xs.drop n) (ys.drop n)
  | _, _, 0, h => h
  | _, _, _ + 1, .nil => .nil
  | _, _, n + 1, .cons _ t => pd_drop n t
abbrev dLines (ls : List (List Str)) : PyData := .list (ls.map Ln.dWords)
theorem denL_lines {K : PySem.W.Frag} {no : Addr} {H : Hp} : ∀ {xs : List V} {ls : List (List Str)}, Paired (LineN no H) xs ls → (∀ l ∈ ls, ∀ x ∈ l, PyData.canLay0 (.str x) = true) → DenL K H xs (ls.map Ln.dWords)
  | _, _, .nil, _ => .nil
  | _, _, .cons ⟨p, e, _, h⟩ r, c => by
    subst e
    exact .cons (.lst (SqL.of h) (Ln.denL_texts fun x hx => c _ List.mem_cons_self x hx)) (denL_lines r fun l hl => c l (List.mem_cons_of_mem _ hl))
theorem nb_lines : ∀ ls : List (List Str), nbL (ls.map Ln.dWords) = true
  | [] => rfl
  | l :: ls => by
    show (nb (Ln.dWords l) && nbL (ls.map Ln.dWords)) = true
    have h : nb (Ln.dWords l) = true := Ln.nb_words l
    rw [nb_lines ls, h]
    rfl
theorem depth_lines : ∀ ls : List (List Str), PyData.depthAll (ls.map Ln.dWords) ≤ 1
  | [] => Nat.zero_le _
  | l :: ls => by
    show max (Ln.dWords l).depth (PyData.depthAll (ls.map Ln.dWords)) ≤ 1
    have q : (Ln.dWords l).depth = PyData.depthAll (l.map PyData.str) + 1 := rfl
    have := Ln.depth_words l
    have := depth_lines ls
    omega
theorem dlines_depth (ls : List (List Str)) (e : PyData) : min (dLines ls).depth e.depth ≤ 64 := by
  have q : (dLines ls).depth = PyData.depthAll (ls.map Ln.dWords) + 1 := rfl
  have := depth_lines ls
  omega
/-- texts, each with a blank behind -/
def preT : List Str → Str
  | [] => ""
  | x :: r => x ++ " " ++ preT r
theorem emp_app (x : Str) : ("" : Str) ++ x = x := by
  show (⟨(#[] : Array Nat) ++ x.cps⟩ : Str) = x
  rw [Array.empty_append]
theorem app_emp (x : Str) : x ++ ("" : Str) = x := by
  show (⟨x.cps ++ (#[] : Array Nat)⟩ : Str) = x
  rw [Array.append_empty]
theorem pre_snoc : ∀ (a : List Str) (x : Str), preT (a ++ [x]) = preT a ++ x ++ " "
  | [], x => by
    show x ++ " " ++ "" = "" ++ x ++ " "
    rw [app_emp, emp_app]
  | y :: a, x => by
    show y ++ " " ++ preT (a ++ [x]) = y ++ " " ++ preT a ++ x ++ " "
    rw [pre_snoc a x]
    simp only [Str.append_assoc]
/-- a line's text -/
def lineT (ws : List Str) : Str := Txt.join " " ws
theorem lineT_snoc : ∀ (a : List Str) (x : Str), lineT (a ++ [x]) = preT a ++ x
  | [], x => by
    show Txt.join " " [x] = "" ++ x
    rw [emp_app]
    unfold Txt.join
    rw [StrLaws.glued_eq_join]
    rfl
  | y :: a, x => by
    have ih := lineT_snoc a x
    have e : lineT (y :: (a ++ [x])) = y ++ " " ++ lineT (a ++ [x]) := by
      unfold lineT Txt.join
      rw [StrLaws.glued_eq_join, StrLaws.glued_eq_join]
      cases h : a ++ [x] with
      | nil => exact absurd h (by simp)
      | cons z r => rfl
    show lineT (y :: (a ++ [x])) = y ++ " " ++ preT a ++ x
    rw [e, ih]
    simp only [Str.append_assoc]
/-- the keys of lines -/
def keyT : List (List Str) → Str
  | [] => ""
  | l :: r => lineT l ++ "/" ++ keyT r
theorem key_app : ∀ (a b : List (List Str)), keyT (a ++ b) = keyT a ++ keyT b
  | [], b => (emp_app _).symm
  | l :: a, b => by
    show lineT l ++ "/" ++ keyT (a ++ b) = lineT l ++ "/" ++ keyT a ++ keyT b
    rw [key_app a b]
    simp only [Str.append_assoc]
theorem key_one (l : List Str) : keyT [l] = lineT l ++ "/" := app_emp _
theorem join_cat : ∀ ls : List (List Str), Txt.join "" (ls.map fun l => lineT l ++ "/") = keyT ls := by
  intro ls
  unfold Txt.join
  rw [StrLaws.glued_eq_join]
  induction ls with
  | nil => rfl
  | cons l r ih =>
    cases r with
    | nil => exact (key_one l).symm
    | cons l2 r =>
      show (lineT l ++ "/") ++ "" ++ Str.join "" ((l2 :: r).map fun l => lineT l ++ "/") = lineT l ++ "/" ++ keyT (l2 :: r)
      rw [ih, app_emp]
/-- lines of words that are not long -/
def Fit (ls : List (List Str)) : Prop := ls.length ≤ 100 ∧ ∀ l ∈ ls, l.length ≤ 100 ∧ ∀ x ∈ l, x.length ≤ 100
theorem sum_le {α : Type} (f : α → Nat) (B : Nat) : ∀ l : List α, (∀ x ∈ l, f x ≤ B) → (l.map f).sum ≤ l.length * B
  | [], _ => by simp
  | x :: l, h => by
    have h1 := h x List.mem_cons_self
    have h2 := sum_le f B l fun y hy => h y (List.mem_cons_of_mem _ hy)
    rw [List.map_cons, List.sum_cons, List.length_cons, Nat.succ_mul]
    omega
theorem sum_le' {α : Type} (f : α → Nat) (B N : Nat) (l : List α) (h : ∀ x ∈ l, f x ≤ B) (hn : l.length ≤ N) : (l.map f).sum ≤ N * B :=
  Nat.le_trans (sum_le f B l h) (Nat.mul_le_mul_right _ hn)
theorem line_small {l : List Str} (h1 : l.length ≤ 100) (h2 : ∀ x ∈ l, x.length ≤ 100) : (l.map (·.length)).sum + l.length * (Str.ofString " ").length ≤ 16777216 := by
  have a := sum_le' (fun x : Str => x.length) 100 100 l h2 h1
  have e : (Str.ofString " ").length = 1 := by decide
  rw [e]
  have a : (l.map (·.length)).sum ≤ 100 * 100 := a
  omega
theorem lineT_len {l : List Str} (h1 : l.length ≤ 100) (h2 : ∀ x ∈ l, x.length ≤ 100) : (lineT l).length ≤ 10100 := by
  have a := sum_le' (fun x : Str => x.length) 100 100 l h2 h1
  have a : (l.map (·.length)).sum ≤ 100 * 100 := a
  have b := StrLaws.join_length_le " " l
  have e : (Str.ofString " ").length = 1 := by decide
  unfold lineT Txt.join
  rw [StrLaws.glued_eq_join]
  have b : (Str.join " " l).length ≤ (l.map (·.length)).sum + l.length * (Str.ofString " ").length := b
  rw [e] at b
  omega
theorem keys_small {ls : List (List Str)} (h : Fit ls) : ((ls.map fun l => lineT l ++ "/").map (·.length)).sum + (ls.map fun l => lineT l ++ "/").length * (Str.ofString "").length ≤ 16777216 := by
  rw [List.map_map, List.length_map]
  have a := sum_le' ((fun x : Str => x.length) ∘ fun l => lineT l ++ "/") 10101 100 ls (fun l hl => by
    obtain ⟨h1, h2⟩ := h.2 l hl
    have := lineT_len h1 h2
    show (lineT l ++ "/").length ≤ 10101
    rw [Str.length_append]
    have e : (Str.ofString "/").length = 1 := by decide
    have e : ("/" : Str).length = 1 := e
    omega) h.1
  have e : (Str.ofString "").length = 0 := by decide
  rw [e]
  have a : (ls.map ((fun x : Str => x.length) ∘ fun l => lineT l ++ "/")).sum ≤ 100 * 10101 := a
  have a : (ls.map ((·.length) ∘ fun l => lineT l ++ "/")).sum ≤ 100 * 10101 := a
  omega
theorem keyT_len : ∀ {ls : List (List Str)}, (∀ l ∈ ls, l.length ≤ 100 ∧ ∀ x ∈ l, x.length ≤ 100) → (keyT ls).length ≤ ls.length * 10101
  | [], _ => by show (Str.ofString "").length ≤ _; decide
  | l :: r, h => by
    obtain ⟨h1, h2⟩ := h l List.mem_cons_self
    have a := lineT_len h1 h2
    have b := keyT_len fun l hl => h l (List.mem_cons_of_mem _ hl)
    show (lineT l ++ "/" ++ keyT r).length ≤ _
    rw [Str.length_append, Str.length_append, List.length_cons, Nat.succ_mul]
    have e : ("/" : Str).length = 1 := by decide
    omega
theorem preT_len : ∀ {ws : List Str}, (∀ x ∈ ws, x.length ≤ 6) → (preT ws).length ≤ ws.length * 7
  | [], _ => by show (Str.ofString "").length ≤ _; decide
  | x :: r, h => by
    have a := h x List.mem_cons_self
    have b := preT_len fun y hy => h y (List.mem_cons_of_mem _ hy)
    show (x ++ " " ++ preT r).length ≤ _
    rw [Str.length_append, Str.length_append, List.length_cons, Nat.succ_mul]
    have e : (" " : Str).length = 1 := by decide
    omega
/-- xs[:-1] -/
theorem cut_init {α : Type} (f : α → V) (ini : List α) (last : α) : cutV ((ini ++ [last]).map f) none (some (-1)) = ini.map f := by
  have e1 : ((ini ++ [last]).map f).length = ini.length + 1 := by rw [List.length_map, List.length_append]; rfl
  have h0 : HT.sIx (ini.length + 1) 0 none = 0 := rfl
  have h1 : HT.sIx (ini.length + 1) (ini.length + 1) (some (-1)) = ini.length := by
    unfold HT.sIx
    simp
    omega
  unfold cutV
  rw [e1, h0, h1, List.drop_zero, Nat.sub_zero, List.map_append]
  exact List.take_left' (by rw [List.length_map])
/-- xs[-1] -/
theorem at_last {α : Type} (f : α → V) (ini : List α) (last : α) : atI ((ini ++ [last]).map f) (-1) = some (f last) := by
  have e1 : ((ini ++ [last]).map f).length = ini.length + 1 := by rw [List.length_map, List.length_append]; rfl
  have h : ixN (ini.length + 1) (-1) = some ini.length := by
    unfold ixN
    rw [if_neg (by omega), if_pos (by omega)]
    congr 1
    omega
  unfold atI
  rw [e1, h]
  show ((ini ++ [last]).map f)[ini.length]? = _
  rw [List.map_append, List.getElem?_append_right (by rw [List.length_map]; exact Nat.le_refl _), List.length_map, Nat.sub_self]
  rfl
end Lns

/-! ### str.split by a text; good keys -/
namespace L2
open PySem PySem.Spec PyProof.Rows PySem.Builtin PySem.Builtin.Str
section
variable {X : Cx}
theorem vals_strs : ∀ (tk : Nat) (xs : List Str), Vals (xs.map V.str) (strsFrom tk xs)
  | _, [] => .nil
  | tk, x :: r => .cons ⟨tk, rfl⟩ (vals_strs (tk + 1) r)
theorem parts_len (x y : Str) : (partsBetween x (occurrences x y 0 x.length (x.length + 1)) y.length).length ≤ x.length + 2 := by
  unfold partsBetween
  have := StrLaws.occ_length_le x y 0 x.length (x.length + 1)
  simp only [List.length_map, List.length_zip, List.length_cons, List.length_append]
  omega
theorem split_len (x y : Str) : (Txt.split x y).length ≤ x.length + 2 := by
  have := parts_len x y
  unfold Txt.split
  split
  · show 1 ≤ _
    omega
  · split
    · show 1 ≤ _
      omega
    · exact this
def rSplit : V → List V → Hp → VK → Prop := fun x xs H Q => ∃ z y, x = .str z ∧ xs = [.str y] ∧ 1 ≤ y.length ∧ z.length ≤ 90000 ∧ ∀ D, H D = none → Q (.ref D) (upd H D (.lst ((Txt.split z y).map V.str)))
theorem mt_split : MtR X "str.split" rSplit := by
  intro pins s σ H v0 xs v us Q I rx rs h
  obtain ⟨x, y, rfl, rfl, hy1, hx, q⟩ := h
  obtain ⟨t, rfl⟩ := rx
  obtain ⟨u0, rfl, ru⟩ := vals1 rs
  obtain ⟨u, rfl⟩ := ru
  have hy : (y.length == 0) = false := by
    rw [beq_eq_false_iff_ne]
    omega
  have hl := parts_len x y
  have hq := q s.heap.objs.size I.fresh
  have hz : (Txt.split x y).length ≤ sizeLine := Nat.le_trans (split_len x y) (smallL (by omega))
  cases h1 : (decide (x.length < y.length) || decide (strKind x < strKind y))
  · cases hf : (occurrences x y 0 x.length (x.length + 1)).isEmpty
    · have e : Txt.split x y = partsBetween x (occurrences x y 0 x.length (x.length + 1)) y.length := by
        unfold Txt.split
        rw [if_neg (ne_true_of_eq_false h1), if_neg (ne_true_of_eq_false hf)]
      rw [e] at hq hz
      refine call_meets F.slot_str_split (typeIs_str _ _ _) F.entry_str_split (F.args_str_split_2 _ _) (meets_str_split_sep x y t u h1 hy hf (smallL (by omega)) hz) ?_
      exact ⟨.ref _, _, I.lnew (vals_strs _ _) (by rw [List.length_map]; exact hz), rfl, hq⟩
    · have e : Txt.split x y = [x] := by
        unfold Txt.split
        rw [if_neg (ne_true_of_eq_false h1), if_pos hf]
      rw [e] at hq
      exact call_meets F.slot_str_split (typeIs_str _ _ _) F.entry_str_split (F.args_str_split_2 _ _) (meets_str_split_not_found x y t u h1 hy hf)
        ⟨.ref _, _, I.lnew (t' := s.toks) (its := [.str x t]) (ys := [.str x]) (.cons ⟨t, rfl⟩ .nil) (by show 1 ≤ sizeLine; exact smallL (by omega)), rfl, hq⟩
  · have e : Txt.split x y = [x] := by
      unfold Txt.split
      rw [if_pos h1]
    rw [e] at hq
    exact call_meets F.slot_str_split (typeIs_str _ _ _) F.entry_str_split (F.args_str_split_2 _ _) (meets_str_split_cannot_occur x y t u h1)
      ⟨.ref _, _, I.lnew (t' := s.toks) (its := [.str x t]) (ys := [.str x]) (.cons ⟨t, rfl⟩ .nil) (by show 1 ≤ sizeLine; exact smallL (by omega)), rfl, hq⟩
end
end L2
namespace Lns
open PySem L2
/-- a text by its signs -/
theorem str_ext {x y : Str} (h : x.cps.toList = y.cps.toList) : x = y := Str.ext' (Array.toList_inj.mp h)
theorem app_list (x y : Str) : (x ++ y).cps.toList = x.cps.toList ++ y.cps.toList := by rw [Str.cps_append, Array.toList_append]
theorem free_eq {c : Nat} : ∀ {a b r s : List Nat}, c ∉ a → c ∉ b → a ++ c :: r = b ++ c :: s → a = b ∧ r = s
  | [], [], _, _, _, _, h => ⟨rfl, (List.cons.inj h).2⟩
  | [], y :: b, _, _, _, hb, h => absurd ((List.cons.inj h).1 ▸ List.mem_cons_self) hb
  | x :: a, [], _, _, ha, _, h => absurd ((List.cons.inj h).1 ▸ List.mem_cons_self) ha
  | x :: a, y :: b, _, _, ha, hb, h => by
    obtain ⟨h1, h2⟩ := List.cons.inj h
    obtain ⟨h3, h4⟩ := free_eq (fun z => ha (List.mem_cons_of_mem _ z)) (fun z => hb (List.mem_cons_of_mem _ z)) h2
    exact ⟨by rw [h1, h3], h4⟩
theorem free_ne {c : Nat} {a b r : List Nat} (ha : c ∉ a) (h : a = b ++ c :: r) : False := ha (h ▸ List.mem_append_right _ List.mem_cons_self)
theorem join_uniq (c : Nat) : ∀ (ps qs : List Str), ps ≠ [] → qs ≠ [] → (∀ p ∈ ps, c ∉ p.cps.toList) → (∀ p ∈ qs, c ∉ p.cps.toList) → Str.join ⟨#[c]⟩ ps = Str.join ⟨#[c]⟩ qs → ps = qs
  | [], _, h, _, _, _, _ => absurd rfl h
  | _, [], _, h, _, _, _ => absurd rfl h
  | [p], [q], _, _, _, _, h => by
    have h : p = q := h
    rw [h]
  | [p], q :: q2 :: qs, _, _, hp, _, h => by
    have h : p = q ++ ⟨#[c]⟩ ++ Str.join ⟨#[c]⟩ (q2 :: qs) := h
    have h := congrArg (fun z : Str => z.cps.toList) h
    simp only [app_list, List.append_assoc] at h
    exact (free_ne (hp p List.mem_cons_self) h).elim
  | p :: p2 :: ps, [q], _, _, _, hq, h => by
    have h : p ++ ⟨#[c]⟩ ++ Str.join ⟨#[c]⟩ (p2 :: ps) = q := h
    have h := congrArg (fun z : Str => z.cps.toList) h
    simp only [app_list, List.append_assoc] at h
    exact (free_ne (hq q List.mem_cons_self) h.symm).elim
  | p :: p2 :: ps, q :: q2 :: qs, _, _, hp, hq, h => by
    have h : p ++ ⟨#[c]⟩ ++ Str.join ⟨#[c]⟩ (p2 :: ps) = q ++ ⟨#[c]⟩ ++ Str.join ⟨#[c]⟩ (q2 :: qs) := h
    have h := congrArg (fun z : Str => z.cps.toList) h
    simp only [app_list, List.append_assoc] at h
    obtain ⟨h1, h2⟩ := free_eq (hp p List.mem_cons_self) (hq q List.mem_cons_self) h
    have ih := join_uniq c (p2 :: ps) (q2 :: qs) (by simp) (by simp) (fun x hx => hp x (List.mem_cons_of_mem _ hx)) (fun x hx => hq x (List.mem_cons_of_mem _ hx)) (str_ext h2)
    rw [str_ext h1, ih]
theorem split_ne (x y : Str) : Txt.split x y ≠ [] := by
  unfold Txt.split
  split
  · simp
  · split
    · simp
    · rw [StrLaws.partsBetween_eq]
      obtain ⟨p, r, e⟩ := StrLaws.partsFrom_ne x y.length 0 (Builtin.Str.occurrences x y 0 x.length (x.length + 1))
      rw [e]
      simp
/-- what is joined is split again -/
theorem split_join (c : Nat) {ps : List Str} (hne : ps ≠ []) (hf : ∀ p ∈ ps, c ∉ p.cps.toList) : Txt.split (Str.join ⟨#[c]⟩ ps) ⟨#[c]⟩ = ps :=
  join_uniq c _ _ (split_ne _ _) hne (StrLaws.split_free _ c) hf (StrLaws.join_split _ _)
/-- a word's signs are neither a blank nor a stroke -/
def Plain (x : Str) : Prop := 32 ∉ x.cps.toList ∧ 47 ∉ x.cps.toList
theorem lineT_join (ws : List Str) : lineT ws = Str.join ⟨#[32]⟩ ws := by
  unfold lineT Txt.join
  rw [StrLaws.glued_eq_join]
  rfl
theorem split_line {ws : List Str} (hne : ws ≠ []) (h : ∀ x ∈ ws, Plain x) : Txt.split (lineT ws) " " = ws := by
  rw [lineT_join]
  exact split_join 32 hne fun p hp => (h p hp).1
theorem line_free : ∀ {ws : List Str}, (∀ x ∈ ws, Plain x) → 47 ∉ (lineT ws).cps.toList := by
  intro ws h
  rw [lineT_join]
  induction ws with
  | nil => exact fun z => nomatch z
  | cons x r ih =>
    cases r with
    | nil => exact (h x List.mem_cons_self).2
    | cons y r =>
      show 47 ∉ (x ++ ⟨#[32]⟩ ++ Str.join ⟨#[32]⟩ (y :: r)).cps.toList
      rw [app_list, app_list]
      have := ih fun z hz => h z (List.mem_cons_of_mem _ hz)
      simp only [List.mem_append, not_or]
      exact ⟨⟨(h x List.mem_cons_self).2, by decide⟩, this⟩
theorem key_join : ∀ ls : List (List Str), keyT ls = Str.join ⟨#[47]⟩ (ls.map lineT ++ [Str.ofString ""])
  | [] => rfl
  | l :: r => by
    show lineT l ++ "/" ++ keyT r = Str.join ⟨#[47]⟩ (lineT l :: (r.map lineT ++ [Str.ofString ""]))
    rw [key_join r]
    cases h : r.map lineT ++ [Str.ofString ""] with
    | nil => exact absurd h (by simp)
    | cons z s => rfl
theorem split_keys {ls : List (List Str)} (h : ∀ l ∈ ls, ∀ x ∈ l, Plain x) : Txt.split (keyT ls) "/" = ls.map lineT ++ [Str.ofString ""] := by
  rw [key_join]
  refine split_join 47 (by simp) fun p hp => ?_
  rcases List.mem_append.mp hp with hp | hp
  · obtain ⟨l, hl, rfl⟩ := List.mem_map.mp hp
    exact line_free (h l hl)
  · rw [List.mem_singleton.mp hp]
    exact fun z => nomatch z
theorem at_end {α : Type} (ini : List α) (last : α) : atI (ini ++ [last]) (-1) = some last := by
  have h : ixN (ini.length + 1) (-1) = some ini.length := by
    unfold ixN
    rw [if_neg (by omega), if_pos (by omega)]
    congr 1
    omega
  unfold atI
  rw [List.length_append]
  show ((ixN (ini.length + 1) (-1)).bind _) = _
  rw [h]
  show (ini ++ [last])[ini.length]? = _
  rw [List.getElem?_append_right (Nat.le_refl _), Nat.sub_self]
  rfl
/-- a line that is new since H0 -/
def LineF (H0 : Hp) (no : Addr) (H : Hp) (v : V) (ws : List Str) : Prop := ∃ p, v = .ref p ∧ p ≠ no ∧ H0 p = none ∧ H p = some (.lst (ws.map V.str))
theorem LineF.n {H0 : Hp} {no : Addr} {H : Hp} {xs : List V} {ls : List (List Str)} (h : Paired (LineF H0 no H) xs ls) : Paired (LineN no H) xs ls := Paired.mapP h fun _ _ ⟨p, e, n, _, z⟩ => ⟨p, e, n, z⟩
theorem linesF_same {H0 : Hp} {no : Addr} {H H' : Hp} {xs : List V} {ls : List (List Str)} (h : Paired (LineF H0 no H) xs ls) (s : Same H H') : Paired (LineF H0 no H') xs ls := Paired.mapP h fun _ _ ⟨p, e, n, f, z⟩ => ⟨p, e, n, f, s _ _ z⟩
theorem linesF_upd {H0 : Hp} {no : Addr} {H : Hp} {o : HO} {xs : List V} {ls : List (List Str)} (h : Paired (LineF H0 no H) xs ls) : Paired (LineF H0 no (upd H no o)) xs ls :=
  Paired.mapP h fun _ _ ⟨p, e, n, f, z⟩ => ⟨p, e, n, f, by rw [upd_ne n]; exact z⟩
theorem linesF_len {H0 : Hp} {no : Addr} {H : Hp} {xs : List V} {ls : List (List Str)} (h : Paired (LineF H0 no H) xs ls) : xs.length = ls.length := Paired.length h
theorem linesF_new {H0 : Hp} {no : Addr} {H : Hp} {xs : List V} {ls : List (List Str)} {p : Addr} (h : Paired (LineF H0 no H) xs ls) (hp : H p = none) : V.ref p ∉ xs := by
  intro hm
  obtain ⟨i, hi, e⟩ := List.getElem_of_mem hm
  obtain ⟨_, _, p2, e2, _, _, z⟩ := Cs.pd_get h (List.getElem?_eq_getElem hi)
  rw [e] at e2
  cases e2
  rw [hp] at z
  cases z
theorem pd_app {α β : Type} {F : α → β → Prop} : ∀ {a c : List α} {b d : List β}, Paired F a b → Paired F c d → Paired F (a ++ c) (b ++ d)
  | _, _, _, _, .nil, h => h
  | _, _, _, _, .cons r t, h => .cons r (pd_app t h)
/-- a list of at most so many things, new since H0 -/
def ListF (H0 : Hp) (no : Addr) (B : Nat) (H : Hp) (v : V) : Prop := ∃ p ws, v = .ref p ∧ p ≠ no ∧ H0 p = none ∧ H p = some (.lst ws) ∧ ws.length ≤ B
theorem ListF.same {H0 : Hp} {no : Addr} {B : Nat} {H H' : Hp} {v : V} (h : ListF H0 no B H v) (s : Same H H') : ListF H0 no B H' v := let ⟨p, ws, e, n, f, z, b⟩ := h; ⟨p, ws, e, n, f, s _ _ z, b⟩
theorem listF_of {H0 : Hp} {no : Addr} {B : Nat} {H : Hp} : ∀ {xs : List V} {ls : List (List Str)}, Paired (LineF H0 no H) xs ls → (∀ x ∈ ls, x.length ≤ B) → ∀ v ∈ xs, ListF H0 no B H v
  | _, _, .nil, _, v, hv => nomatch hv
  | _, _, .cons ⟨p, e, n, f, z⟩ t, hb, v, hv => by
    rcases List.mem_cons.mp hv with h | h
    · subst h
      exact ⟨p, _, e, n, f, z, by rw [List.length_map]; exact hb _ List.mem_cons_self⟩
    · exact listF_of t (fun x hx => hb x (List.mem_cons_of_mem _ hx)) v h
theorem listF_push {H0 : Hp} {no : Addr} {B : Nat} {H : Hp} {p : Addr} {ws : List V} {x : V} {v : V} (hp : H p = some (.lst ws)) (hw : ws.length ≤ B) (hv : ListF H0 no B H v) : ListF H0 no (B + 1) (upd H p (.lst (ws ++ [x]))) v := by
  obtain ⟨q, us, e, n, f, z, b⟩ := hv
  by_cases h : q = p
  · subst h
    exact ⟨q, _, e, n, f, upd_same, by rw [List.length_append]; show ws.length + 1 ≤ _; omega⟩
  · exact ⟨q, us, e, n, f, by rw [upd_ne h]; exact z, by omega⟩
theorem linesF_push {H0 : Hp} {no : Addr} {H : Hp} {p : Addr} {o : HO} : ∀ {xs : List V} {ls : List (List Str)}, Paired (LineF H0 no H) xs ls → V.ref p ∉ xs → Paired (LineF H0 no (upd H p o)) xs ls
  | _, _, .nil, _ => .nil
  | _, _, .cons ⟨q, e, n, f, z⟩ t, h => by
    subst e
    exact .cons ⟨q, rfl, n, f, by rw [upd_ne (fun e => h (by rw [e]; exact List.mem_cons_self))]; exact z⟩ (linesF_push t fun hm => h (List.mem_cons_of_mem _ hm))
/-! good keys -/
def isS (c : Nat) : Bool := !decide (c = 32) && !decide (c = 47)
def okFrom (rs : List Cs.Row) : Bool → List Nat → Bool
  | _, [] => true
  | p, c :: r => if isS c = true then (Cs.place rs (sg c)).isSome && okFrom rs true r else p && okFrom rs false r
/-- whether the key with this number can stand behind those ahead -/
def goesOn (rs : List Cs.Row) (ks : List Nat) (i : Nat) : Bool :=
  match ks[i]? with
  | none => false
  | some c => if isS c = true then (Cs.place rs (sg c)).isSome else decide (0 < i) && (match ks[i - 1]? with | none => false | some d => isS d)
theorem ok_on {rs : List Cs.Row} : ∀ {ks : List Nat} {p : Bool}, okFrom rs p ks = true → ∀ (i : Nat) c, ks[i]? = some c →
    if isS c = true then (Cs.place rs (sg c)).isSome = true else (i = 0 ∧ p = true) ∨ ∃ j d, i = j + 1 ∧ ks[j]? = some d ∧ isS d = true
  | [], _, _, i, c, h => by simp at h
  | k :: r, p, ok, 0, c, h => by
    have h : k = c := by simpa using h
    subst h
    unfold okFrom at ok
    by_cases hs : isS k = true
    · rw [if_pos hs] at ok ⊢
      exact (Bool.and_eq_true_iff.mp ok).1
    · rw [if_neg hs] at ok ⊢
      exact .inl ⟨rfl, (Bool.and_eq_true_iff.mp ok).1⟩
  | k :: r, p, ok, i + 1, c, h => by
    have h : r[i]? = some c := by simpa using h
    unfold okFrom at ok
    by_cases hs : isS k = true
    · rw [if_pos hs] at ok
      have ih := ok_on (Bool.and_eq_true_iff.mp ok).2 i c h
      by_cases hc : isS c = true
      · rw [if_pos hc] at ih ⊢
        exact ih
      · rw [if_neg hc] at ih ⊢
        rcases ih with ⟨rfl, _⟩ | ⟨j, d, rfl, hj, hd⟩
        · exact .inr ⟨0, k, rfl, rfl, hs⟩
        · exact .inr ⟨j + 1, d, rfl, by simpa using hj, hd⟩
    · rw [if_neg hs] at ok
      have ih := ok_on (Bool.and_eq_true_iff.mp ok).2 i c h
      by_cases hc : isS c = true
      · rw [if_pos hc] at ih ⊢
        exact ih
      · rw [if_neg hc] at ih ⊢
        rcases ih with ⟨_, e⟩ | ⟨j, d, rfl, hj, hd⟩
        · cases e
        · exact .inr ⟨j + 1, d, rfl, by simpa using hj, hd⟩
theorem ok_goes {rs : List Cs.Row} {ks : List Nat} (ok : okFrom rs false ks = true) {i : Nat} (hi : i < ks.length) : goesOn rs ks i = true := by
  have h := ok_on ok i ks[i] (List.getElem?_eq_getElem hi)
  unfold goesOn
  rw [List.getElem?_eq_getElem hi]
  show (if isS ks[i] = true then _ else _) = true
  by_cases hs : isS ks[i] = true
  · rw [if_pos hs] at h ⊢
    exact h
  · rw [if_neg hs] at h ⊢
    rcases h with ⟨_, e⟩ | ⟨j, d, rfl, hj, hd⟩
    · cases e
    · rw [show j + 1 - 1 = j from rfl, hj]
      show (decide (0 < j + 1) && isS d) = true
      rw [hd]
      simp
theorem ok_word {rs : List Cs.Row} : ∀ {w : List Nat} {p : Bool} (r : List Nat), (∀ c ∈ w, isS c = true ∧ (Cs.place rs (sg c)).isSome = true) → okFrom rs p (w ++ r) = okFrom rs (p || !w.isEmpty) r
  | [], p, r, _ => by simp
  | c :: w, p, r, h => by
    obtain ⟨h1, h2⟩ := h c List.mem_cons_self
    have ih := ok_word (w := w) (p := true) r fun d hd => h d (List.mem_cons_of_mem _ hd)
    show okFrom rs p (c :: (w ++ r)) = _
    conv => lhs; unfold okFrom
    rw [if_pos h1, h2, ih]
    simp
/-- words that the case can set, with a sign at least -/
def Settable (rs : List Cs.Row) (x : Str) : Prop := 1 ≤ x.length ∧ ∀ c ∈ x.cps.toList, isS c = true ∧ (Cs.place rs (sg c)).isSome = true
theorem Settable.ne {rs : List Cs.Row} {x : Str} (h : Settable rs x) : (!x.cps.toList.isEmpty) = true := by
  have h1 := h.1
  unfold Str.length at h1
  cases e : x.cps.toList with
  | nil =>
    have : x.cps.toList.length = 0 := by rw [e]; rfl
    rw [Array.length_toList] at this
    omega
  | cons a b => rfl
theorem Settable.plain {rs : List Cs.Row} {x : Str} (h : Settable rs x) : Plain x := by
  constructor
  · intro z
    have := (h.2 _ z).1
    revert this
    decide
  · intro z
    have := (h.2 _ z).1
    revert this
    decide
theorem ok_line {rs : List Cs.Row} (r : List Nat) : ∀ {l : List Str} {p : Bool}, l ≠ [] → (∀ x ∈ l, Settable rs x) → okFrom rs p ((lineT l).cps.toList ++ r) = okFrom rs true r
  | [], _, h, _ => absurd rfl h
  | [x], p, _, h => by
    have hx := h x List.mem_cons_self
    rw [lineT_join]
    show okFrom rs p (x.cps.toList ++ r) = _
    rw [ok_word r hx.2, hx.ne]
    simp
  | x :: y :: l, p, _, h => by
    have hx := h x List.mem_cons_self
    have ih := ok_line r (l := y :: l) (p := false) (by simp) fun z hz => h z (List.mem_cons_of_mem _ hz)
    rw [lineT_join] at ih ⊢
    have e : (Str.join ⟨#[32]⟩ (x :: y :: l)).cps.toList ++ r = x.cps.toList ++ (32 :: ((Str.join ⟨#[32]⟩ (y :: l)).cps.toList ++ r)) := by
      show (x ++ ⟨#[32]⟩ ++ Str.join ⟨#[32]⟩ (y :: l)).cps.toList ++ r = _
      rw [app_list, app_list, List.append_assoc, List.append_assoc]
      rfl
    rw [e, ok_word _ hx.2, hx.ne]
    conv => lhs; unfold okFrom
    rw [if_neg (by decide), ih]
    simp
theorem ok_keys {rs : List Cs.Row} : ∀ {ls : List (List Str)} {p : Bool}, (∀ l ∈ ls, l ≠ [] ∧ ∀ x ∈ l, Settable rs x) → okFrom rs p (keyT ls).cps.toList = true
  | [], _, _ => rfl
  | l :: r, p, h => by
    obtain ⟨h1, h2⟩ := h l List.mem_cons_self
    have ih := ok_keys (ls := r) (p := false) fun z hz => h z (List.mem_cons_of_mem _ hz)
    have e : (keyT (l :: r)).cps.toList = (lineT l).cps.toList ++ (47 :: (keyT r).cps.toList) := by
      show (lineT l ++ "/" ++ keyT r).cps.toList = _
      rw [app_list, app_list, List.append_assoc]
      rfl
    rw [e, ok_line _ h1 h2]
    unfold okFrom
    rw [if_neg (by decide), ih]
    rfl
/-- the last key is a stroke -/
theorem keys_end : ∀ (ls : List (List Str)), ls ≠ [] → ∃ a, (keyT ls).cps.toList = a ++ [47]
  | [], h => absurd rfl h
  | [l], _ => ⟨(lineT l).cps.toList, by
      rw [key_one, app_list]
      rfl⟩
  | l :: l2 :: r, _ => by
    obtain ⟨a, e⟩ := keys_end (l2 :: r) (by simp)
    refine ⟨(lineT l ++ "/").cps.toList ++ a, ?_⟩
    show (lineT l ++ "/" ++ keyT (l2 :: r)).cps.toList = _
    rw [app_list, e, List.append_assoc]
end Lns

namespace Lw
open PySem L2
set_option maxHeartbeats 4000000
section

local macro_rules | `(tactic| walk_at "hk") => `(tactic| first | assumption | exact upd_same | exact same_new (by assumption) _ _ _ (by walk_at "hk"))
local macro_rules | `(tactic| walk_at "rd1") => `(tactic| first | refine ⟨_, rfl, ?_⟩ | refine ⟨_, _, rfl, rfl, ?_⟩ | refine ⟨_, _, _, _, rfl, rfl, SqL.of (by walk_at "hk"), (by assumption), ?_⟩ | refine And.intro rfl ?_ | refine And.intro (Nat.le_of_ble_eq_true rfl) ?_ | refine And.intro (by first | decide | omega) ?_ | refine And.intro ⟨by first | decide | omega, by first | decide | omega⟩ ?_ | refine And.intro (.inl ⟨by first | decide | omega, by first | decide | omega⟩) ?_ | refine And.intro (.inr ⟨by first | decide | omega, by first | decide | omega⟩) ?_ | refine ⟨_, _, rfl, SqT.of (by first | exact upd_same | assumption), rfl, ?_⟩)
local macro_rules | `(tactic| walk_at "rd") => `(tactic| repeat (walk_at "rd1"))
local macro_rules | `(tactic| walk_at "tg") => `(tactic| refine ⟨_, _, rfl, ?_⟩)
def top (i : Nat) : Stmt := PySem.Challenge.pw_linecaster_k34_keys_read.main.body.getD i (.Pass ⟨0, 0, 0, 0⟩)
abbrev s_channel_of : Stmt := top 4
theorem sc_channel_of : FnScope ["case", "sign", "number", "channel"] ["case", "sign"] (defScope s_channel_of) := ⟨rfl, rfl, rfl, by decide +kernel, rfl, by decide +kernel, by decide +kernel⟩
abbrev s_keys_of : Stmt := top 8
theorem sc_keys_of : FnScope ["lines"] ["lines"] (defScope s_keys_of) := ⟨rfl, rfl, rfl, by decide +kernel, rfl, by decide +kernel, by decide +kernel⟩
abbrev s_is_sign_key : Stmt := top 9
theorem sc_is_sign_key : FnScope ["key"] ["key"] (defScope s_is_sign_key) := ⟨rfl, rfl, rfl, by decide +kernel, rfl, by decide +kernel, by decide +kernel⟩
abbrev s_goes_on : Stmt := top 10
theorem sc_goes_on : FnScope ["case", "keys", "at"] ["case", "keys", "at"] (defScope s_goes_on) := ⟨rfl, rfl, rfl, by decide +kernel, rfl, by decide +kernel, by decide +kernel⟩
abbrev s_look_at_keys : Stmt := top 11
theorem sc_look_at_keys : FnScope ["case", "keys", "at"] ["case", "keys"] (defScope s_look_at_keys) := ⟨rfl, rfl, rfl, by decide +kernel, rfl, by decide +kernel, by decide +kernel⟩
abbrev s_lines_of : Stmt := top 12
theorem sc_lines_of : FnScope ["case", "keys"] ["case", "keys"] (defScope s_lines_of) := ⟨rfl, rfl, rfl, by decide +kernel, rfl, by decide +kernel, by decide +kernel⟩
abbrev s_law_cell_at : Stmt := top 14
theorem sc_law_cell_at : FnScope ["_law_script", "_law_k"] ["_law_script", "_law_k"] (defScope s_law_cell_at) := ⟨rfl, rfl, rfl, by decide +kernel, rfl, by decide +kernel, by decide +kernel⟩
abbrev s_law_mixed : Stmt := top 15
theorem sc_law_mixed : FnScope ["_law_cell", "_law_k"] ["_law_cell", "_law_k"] (defScope s_law_mixed) := ⟨rfl, rfl, rfl, by decide +kernel, rfl, by decide +kernel, by decide +kernel⟩
abbrev s_law_case : Stmt := top 16
theorem sc_law_case : FnScope ["_law_script", "_law_signs", "_law_first", "_law_case_here", "_law_k", "_law_number", "_law_sign", "_law_teeth", "_law_many"] ["_law_script"] (defScope s_law_case) := ⟨rfl, rfl, rfl, by decide +kernel, rfl, by decide +kernel, by decide +kernel⟩
abbrev s_law_word : Stmt := top 17
theorem sc_law_word : FnScope ["_law_case_here", "_law_number", "_law_most", "_law_word_here", "_law_k"] ["_law_case_here", "_law_number", "_law_most"] (defScope s_law_word) := ⟨rfl, rfl, rfl, by decide +kernel, rfl, by decide +kernel, by decide +kernel⟩
abbrev s_law_words : Stmt := top 18
theorem sc_law_words : FnScope ["_law_case_here", "_law_cells", "_law_k", "_law_most"] ["_law_case_here", "_law_cells", "_law_k", "_law_most"] (defScope s_law_words) := ⟨rfl, rfl, rfl, by decide +kernel, rfl, by decide +kernel, by decide +kernel⟩
abbrev s_law_are : Stmt := top 19
theorem sc_law_are : FnScope ["_law_found", "_law_due", "_law_line"] ["_law_found", "_law_due"] (defScope s_law_are) := ⟨rfl, rfl, rfl, by decide +kernel, rfl, by decide +kernel, by decide +kernel⟩
abbrev s_law : Stmt := top 20
theorem sc_law : FnScope ["_law_script", "_law_case_here", "_law_kept", "_law_lines", "_law_keys", "_law_k", "_law_line", "_law_found"] ["_law_script"] (defScope s_law) := ⟨rfl, rfl, rfl, by decide +kernel, rfl, by decide +kernel, by decide +kernel⟩
structure Ad where
  f_channel_of : Addr
  d_channel_of : FuncData
  f_keys_of : Addr
  d_keys_of : FuncData
  f_is_sign_key : Addr
  d_is_sign_key : FuncData
  f_goes_on : Addr
  d_goes_on : FuncData
  f_look_at_keys : Addr
  d_look_at_keys : FuncData
  f_lines_of : Addr
  d_lines_of : FuncData
  f_law_cell_at : Addr
  d_law_cell_at : FuncData
  f_law_mixed : Addr
  d_law_mixed : FuncData
  f_law_case : Addr
  d_law_case : FuncData
  f_law_word : Addr
  d_law_word : FuncData
  f_law_words : Addr
  d_law_words : FuncData
  f_law_are : Addr
  d_law_are : FuncData
  f_law : Addr
  d_law : FuncData
  t_GAP_KEY : Tok
  t_SEND_KEY : Tok
structure Tx (K : PySem.W.Frag) (mg : Str → Option Value) (a : Ad) : Prop where
  channel_of : D K mg "channel_of" s_channel_of ["case", "sign"] a.f_channel_of a.d_channel_of
  keys_of : D K mg "keys_of" s_keys_of ["lines"] a.f_keys_of a.d_keys_of
  is_sign_key : D K mg "is_sign_key" s_is_sign_key ["key"] a.f_is_sign_key a.d_is_sign_key
  goes_on : D K mg "goes_on" s_goes_on ["case", "keys", "at"] a.f_goes_on a.d_goes_on
  look_at_keys : D K mg "look_at_keys" s_look_at_keys ["case", "keys"] a.f_look_at_keys a.d_look_at_keys
  lines_of : D K mg "lines_of" s_lines_of ["case", "keys"] a.f_lines_of a.d_lines_of
  law_cell_at : D K mg "_law_cell_at" s_law_cell_at ["_law_script", "_law_k"] a.f_law_cell_at a.d_law_cell_at
  law_mixed : D K mg "_law_mixed" s_law_mixed ["_law_cell", "_law_k"] a.f_law_mixed a.d_law_mixed
  law_case : D K mg "_law_case" s_law_case ["_law_script"] a.f_law_case a.d_law_case
  law_word : D K mg "_law_word" s_law_word ["_law_case_here", "_law_number", "_law_most"] a.f_law_word a.d_law_word
  law_words : D K mg "_law_words" s_law_words ["_law_case_here", "_law_cells", "_law_k", "_law_most"] a.f_law_words a.d_law_words
  law_are : D K mg "_law_are" s_law_are ["_law_found", "_law_due"] a.f_law_are a.d_law_are
  law : D K mg "law" s_law ["_law_script"] a.f_law a.d_law
  g_GAP_KEY : mg "GAP_KEY" = some (.str " " a.t_GAP_KEY)
  g_SEND_KEY : mg "SEND_KEY" = some (.str "/" a.t_SEND_KEY)
  b_ValueError : mg "ValueError" = none
  b_enumerate : mg "enumerate" = none
  b_isinstance : mg "isinstance" = none
  b_len : mg "len" = none
  b_list : mg "list" = none
  b_min : mg "min" = none
  b_range : mg "range" = none
  b_str : mg "str" = none
abbrev lawLevel : Nat := 8
def sp_law_mixed : Sp := fun vs H Q _ => ∃ c k : Int, vs = [.int c, .int k] ∧ 0 ≤ k ∧ k ≤ 1000000 ∧ ∀ z, 0 ≤ z → z < 2147483629 → Q (.int z) H
theorem ok_law_mixed (T : Tx K mg a) : FnOk P w K mg base CX0 1 a.f_law_mixed a.d_law_mixed ["_law_cell", "_law_k"] sp_law_mixed := by
  refine T.law_mixed.fn.ok sc_law_mixed (fun vs H Q E h => ?_) (fun cdv A outer s H vs Q E hr h => ?_)
  · obtain ⟨c, k, rfl, _⟩ := h
    rfl
  obtain ⟨c, k, rfl, h0, h1, q⟩ := h
  refine ⟨_, (pss_one (ps_ret (pe_op op_mod (pe_op op_mul (pe_op op_add (pe_op op_mod (pv 0) (pe_op op_pow pe_int pe_int)) pe_int) (pe_op op_add pe_int (pe_op op_mul (pe_op op_mul pe_int (pv 1)) (pv 1)))) pe_int))), ?_⟩
  have e18 : (10 : Int) ^ (18 : Int).toNat = 1000000000000000000 := by decide
  have hc0 := Int.emod_nonneg c (show (1000000000000000000 : Int) ≠ 0 by decide)
  have hc1 := Int.emod_lt_of_pos c (show (0 : Int) < 1000000000000000000 by decide)
  refine ⟨_, rfl, ?_⟩
  refine ⟨_, _, rfl, rfl, ⟨by decide, by decide, by decide⟩, ?_⟩
  refine ⟨_, _, rfl, rfl, (by show (0 : Int) < (10 : Int) ^ (18 : Int).toNat; rw [e18]; decide), ?_⟩
  dsimp only
  rw [e18]
  refine ⟨_, _, rfl, rfl, ?_⟩
  refine ⟨_, rfl, ?_⟩
  refine ⟨_, _, rfl, rfl, .inl ⟨by decide, by decide⟩, ?_⟩
  refine ⟨_, rfl, ?_⟩
  refine ⟨_, _, rfl, rfl, .inl ⟨by omega, by omega⟩, ?_⟩
  refine ⟨_, _, rfl, rfl, ?_⟩
  refine ⟨_, _, rfl, rfl, .inl ⟨by omega, by omega⟩, ?_⟩
  refine ⟨_, _, rfl, rfl, (by show (0 : Int) < 2147483629; decide), ?_⟩
  exact q _ (Int.emod_nonneg _ (by decide)) (Int.emod_lt_of_pos _ (by decide))
end
end Lw
namespace Lw
open PySem L2
set_option maxHeartbeats 4000000
section
variable {P : Program} {w : World} {K : PySem.W.Frag} {mg : Str → Option Value} {base : Heap} {a : Ad}
local macro_rules | `(tactic| walk_at "hk") => `(tactic| first | assumption | exact upd_same | exact same_new (by assumption) _ _ _ (by walk_at "hk"))
local macro_rules | `(tactic| walk_at "rd1") => `(tactic| first | refine ⟨_, rfl, ?_⟩ | refine ⟨_, _, rfl, rfl, ?_⟩ | refine ⟨_, _, _, _, rfl, rfl, SqL.of (by walk_at "hk"), (by assumption), ?_⟩ | refine And.intro rfl ?_ | refine And.intro (Nat.le_of_ble_eq_true rfl) ?_ | refine And.intro (by first | decide | omega) ?_ | refine And.intro ⟨by first | decide | omega, by first | decide | omega⟩ ?_ | refine And.intro (.inl ⟨by first | decide | omega, by first | decide | omega⟩) ?_ | refine And.intro (.inr ⟨by first | decide | omega, by first | decide | omega⟩) ?_ | refine ⟨_, _, rfl, SqT.of (by first | exact upd_same | assumption), rfl, ?_⟩)
local macro_rules | `(tactic| walk_at "rd") => `(tactic| repeat (walk_at "rd1"))
local macro_rules | `(tactic| walk_at "tg") => `(tactic| refine ⟨_, _, rfl, ?_⟩)
/-- a word that the case can set, short -/
def WordOk (rs : List Cs.Row) (m : Nat) (x : Str) : Prop := 1 ≤ x.length ∧ x.length ≤ m ∧ ∀ c ∈ x.cps.toList, (Cs.place rs (sg c)).isSome = true
theorem place_mem {rs : List Cs.Row} {r : Cs.Row} (h : r ∈ rs) : (Cs.place rs r.s).isSome = true := by
  unfold Cs.place
  rw [List.findIdx?_isSome, List.any_eq_true]
  exact ⟨r, h, decide_eq_true rfl⟩
def sp_law_word (K : PySem.W.Frag) : Sp := fun vs H Q _ => ∃ (l : Addr) (n m : Int) (rs : List Cs.Row), vs = [.ref l, .int n, .int m] ∧ Cs.CaseAt K H l rs ∧ rs ≠ [] ∧ rs.length ≤ 1000 ∧ (∀ r ∈ rs, ∃ c ∈ Cs.signs, r.s = sg c) ∧ 0 ≤ n ∧ 1 ≤ m ∧ m ≤ 1000 ∧ ∀ x, WordOk rs m.toNat x → Q (.str x) H
theorem ok_law_word (T : Tx K mg a) : FnOk P w K mg base CX0 1 a.f_law_word a.d_law_word ["_law_case_here", "_law_number", "_law_most"] (sp_law_word K) := by
  refine T.law_word.fn.ok sc_law_word (fun vs H Q E h => ?_) (fun cdv A outer s H vs Q E hr h => ?_)
  · obtain ⟨l, n, m, rs, rfl, _⟩ := h
    rfl
  obtain ⟨l, n, m, rs, rfl, ⟨xs, hS, hp⟩, hne, hl, hsg, hn0, hm1, hm2, q⟩ := h
  refine ⟨_, (pss_cons (ps_set (i := 3) sc_law_word.nd rfl (Or.inl rfl) pe_str)
      (pss_cons (ps_for PassesOwn.never rfl (pi_range1 rfl T.b_range (pa_cons (pe_op op_add pe_int (pe_op op_mod (pv 1) (pv 2))) pa_nil)) (pg_name (i := 4) sc_law_word.nd rfl (Or.inl rfl)) (pss_one (ps_set (i := 3) sc_law_word.nd rfl (Or.inl rfl) (pe_op op_add_str (pv 3) (pe_ix (kix_tup K rfl) (pe_ix (kix_list K rfl) (pv 0) (pe_op op_mod (pe_op op_fdiv (pv 1) (pe_op op_add pe_int (pv 4))) (pe_callB (klen_seq K rfl) rfl T.b_len bt_len (pa_cons (pv 0) pa_nil))) (fun _ _ => rfl)) pe_int (fun _ _ => rfl))))))
      (pss_one (ps_ret (pv 3))))), ?_⟩
  have hxl := Cs.rows_len hp
  have hpos : 0 < rs.length := List.length_pos_iff.mpr hne
  have hx0 := Int.emod_nonneg n (show m ≠ 0 by omega)
  have hx1 := Int.emod_lt_of_pos n (show 0 < m by omega)
  refine ⟨_, rfl, ?_⟩
  refine ⟨_, rfl, ?_⟩
  refine ⟨_, _, rfl, rfl, (by show 0 < m; omega), ?_⟩
  refine ⟨_, _, rfl, rfl, ?_⟩
  refine ⟨_, rfl, (by show -(2 ^ 62) ≤ 1 + n % m; omega), (by show 1 + n % m < 2 ^ 62; omega), ?_⟩
  refine for_range (n := (1 + n % m).toNat) (fun i σ H2 => ∃ (x : Str) (v4 : Option V), σ = [some (.ref l), some (.int n), some (.int m), some (.str x), v4] ∧ H2 = H ∧ x.length = i ∧ ∀ c ∈ x.cps.toList, (Cs.place rs (sg c)).isSome = true)
    ⟨"", none, rfl, rfl, by decide, fun c h => by rw [show (Str.ofString "").cps.toList = [] by decide] at h; cases h⟩ ?_ ?_
  · rintro i σ H2 hi ⟨x, v4, rfl, rfl, hxlen, hxp⟩
    have hd0 := Int.ediv_nonneg hn0 (show (0 : Int) ≤ 7 + (0 + (i : Int)) by omega)
    have hy0 := Int.emod_nonneg (n / (7 + (0 + (i : Int)))) (show (xs.length : Int) ≠ 0 by omega)
    have hy1 := Int.emod_lt_of_pos (n / (7 + (0 + (i : Int)))) (show (0 : Int) < xs.length by omega)
    obtain ⟨k, hk⟩ := Int.eq_ofNat_of_zero_le hy0
    have hkl : k < xs.length := by omega
    obtain ⟨r, hri, t, et, ht⟩ := Cs.pd_get hp (List.getElem?_eq_getElem hkl)
    have hat : atI xs (k : Int) = some (.ref t) := by rw [← et]; exact atI_nat (List.getElem?_eq_getElem hkl)
    have hrm := List.mem_of_getElem? hri
    obtain ⟨c, _, ec⟩ := hsg r hrm
    refine ⟨_, rfl, ?_⟩
    refine ⟨_, rfl, ?_⟩
    refine ⟨_, rfl, ?_⟩
    refine ⟨_, rfl, ?_⟩
    refine ⟨_, _, rfl, rfl, ?_⟩
    refine ⟨_, _, rfl, rfl, ⟨by omega, by omega⟩, ?_⟩
    refine ⟨_, rfl, ?_⟩
    refine ⟨l, _, rfl, .inl hS, ?_⟩
    refine ⟨_, _, rfl, rfl, (by show (0 : Int) < _; omega), ?_⟩
    dsimp only
    rw [hk]
    refine ⟨l, _, _, _, rfl, rfl, hS, hat, ?_⟩
    refine ⟨t, _, _, _, rfl, rfl, SqT.of ht, rfl, ?_⟩
    refine ⟨_, _, rfl, rfl, smallL (by rw [ec]; show x.length + 1 ≤ _; omega), ?_⟩
    refine ⟨x ++ r.s, _, rfl, rfl, ?_, fun d hd => ?_⟩
    · rw [Str.length_append, ec, hxlen]
      rfl
    · rw [ec, Str.cps_append, Array.toList_append] at hd
      rcases List.mem_append.mp hd with h | h
      · exact hxp d h
      · have : d = c := by simpa [sg] using h
        rw [this, ← ec]
        exact place_mem hrm
  · rintro σ H2 ⟨x, v4, rfl, rfl, hxlen, hxp⟩
    refine ⟨_, rfl, ?_⟩
    exact q x ⟨by omega, by omega, hxp⟩
end
end Lw
namespace Lw
open PySem L2
set_option maxHeartbeats 4000000
section
variable {P : Program} {w : World} {K : PySem.W.Frag} {mg : Str → Option Value} {base : Heap} {a : Ad}
local macro_rules | `(tactic| walk_at "hk") => `(tactic| first | assumption | exact upd_same | exact same_new (by assumption) _ _ _ (by walk_at "hk"))
local macro_rules | `(tactic| walk_at "rd1") => `(tactic| first | refine ⟨_, rfl, ?_⟩ | refine ⟨_, _, rfl, rfl, ?_⟩ | refine ⟨_, _, _, _, rfl, rfl, SqL.of (by walk_at "hk"), (by assumption), ?_⟩ | refine And.intro rfl ?_ | refine And.intro (Nat.le_of_ble_eq_true rfl) ?_ | refine And.intro (by first | decide | omega) ?_ | refine And.intro ⟨by first | decide | omega, by first | decide | omega⟩ ?_ | refine And.intro (.inl ⟨by first | decide | omega, by first | decide | omega⟩) ?_ | refine And.intro (.inr ⟨by first | decide | omega, by first | decide | omega⟩) ?_ | refine ⟨_, _, rfl, SqT.of (by first | exact upd_same | assumption), rfl, ?_⟩)
local macro_rules | `(tactic| walk_at "rd") => `(tactic| repeat (walk_at "rd1"))
local macro_rules | `(tactic| walk_at "tg") => `(tactic| refine ⟨_, _, rfl, ?_⟩)
def sp_law_words (K : PySem.W.Frag) : Sp := fun vs H Q _ => ∃ (l p : Addr) (k m : Int) (rs : List Cs.Row) (ns : List Int), vs = [.ref l, .ref p, .int k, .int m] ∧ Cs.CaseAt K H l rs ∧ rs ≠ [] ∧ rs.length ≤ 1000 ∧ (∀ r ∈ rs, ∃ c ∈ Cs.signs, r.s = sg c) ∧ SqL K H p (ns.map V.int) ∧ ns.length ≤ 1000 ∧ 0 ≤ k ∧ k ≤ 1000 ∧ 1 ≤ m ∧ m ≤ 1000 ∧
  ∀ (r : Addr) (ws : List Str) H', H r = none → Same H H' → H' r = some (.lst (ws.map V.str)) → ws.length = ns.length → (∀ x ∈ ws, WordOk rs m.toNat x) → Q (.ref r) H'
theorem ok_law_words (T : Tx K mg a) : FnOk P w K mg base CX0 2 a.f_law_words a.d_law_words ["_law_case_here", "_law_cells", "_law_k", "_law_most"] (sp_law_words K) := by
  have G_law_word := ok_law_word (P := P) (w := w) (base := base) T
  have G_law_mixed := ok_law_mixed (P := P) (w := w) (base := base) T
  refine T.law_words.fn.ok sc_law_words (fun vs H Q E h => ?_) (fun cdv A outer s H vs Q E hr h => ?_)
  · obtain ⟨l, p, k, m, rs, ns, rfl, _⟩ := h
    rfl
  obtain ⟨l, p, k, m, rs, ns, rfl, hC, hne, hl, hsg, hN, hnl, hk0, hk1, hm1, hm2, q⟩ := h
  refine ⟨_, (pss_one (ps_ret (pe_compG rfl (pi_range1 rfl T.b_range (pa_cons (pe_callB (klen_seq K rfl) rfl T.b_len bt_len (pa_cons (pv 1) pa_nil)) pa_nil)) (BlkOk.of (N' := ["_law_case_here", "_law_cells", "_law_k", "_law_most", "_law_j"]) (ms := []) (k := 1) (by rfl)) (fun _ _ _ _ _ => (pg_name (i := 4) (show List.Nodup (["_law_case_here", "_law_cells", "_law_k", "_law_most", "_law_j"] : List Str) from by decide +kernel) rfl (Or.inl rfl))) (fun _ _ _ _ _ => pts_nil) (fun _ _ _ _ _ => (pcall T.law_word G_law_word hr rfl (pa_cons (pv 0) (pa_cons (pcall T.law_mixed G_law_mixed hr rfl (pa_cons (pe_ix (kix_list K rfl) (pv 1) (pv 4) (fun _ _ => rfl)) (pa_cons (pe_op op_add (pv 2) (pv 4)) pa_nil))) (pa_cons (pv 3) pa_nil)))))))), ?_⟩
  refine ⟨_, rfl, ?_⟩
  refine ⟨p, _, rfl, .inl hN, ?_⟩
  rw [List.length_map]
  refine ⟨_, rfl, by omega, by omega, fun D hD => ?_⟩
  refine comp_range (n := ns.length) (fun i ys σ H2 => ∃ (ws : List Str) (v4 : Option V), ys = ws.map V.str ∧ σ = [some (.ref l), some (.ref p), some (.int k), some (.int m), v4] ∧ Same H H2 ∧ H2 D = some (.lst ys) ∧ ws.length = i ∧ ∀ x ∈ ws, WordOk rs m.toNat x)
    ?_ ?_ ?_
  · exact ⟨[], none, rfl, rfl, same_new hD _, upd_same, rfl, fun x h => nomatch h⟩
  · rintro i ys σ H2 hi ⟨ws, v4, rfl, rfl, hs, hh, hwl, hw⟩
    have hni : ns[i]? = some ns[i] := List.getElem?_eq_getElem hi
    have hat : atI (ns.map V.int) (0 + (i : Int)) = some (.int ns[i]) := by rw [Int.zero_add]; exact atI_nat (by rw [List.getElem?_map, hni] <;> rfl)
    refine ⟨_, rfl, ?_⟩
    refine ⟨_, rfl, ?_⟩
    refine ⟨_, rfl, ?_⟩
    refine ⟨p, _, _, _, rfl, rfl, hs.seq hN, hat, ?_⟩
    refine ⟨_, rfl, ?_⟩
    refine ⟨_, rfl, ?_⟩
    refine ⟨_, _, rfl, rfl, ?_⟩
    refine ⟨_, _, rfl, by omega, by omega, fun z hz0 hz1 => ?_⟩
    refine ⟨_, rfl, ?_⟩
    refine ⟨l, z, m, rs, rfl, hC.same hs, hne, hl, hsg, hz0, hm1, hm2, fun x hx => ?_⟩
    refine cnext hi hh (by rw [List.length_map]; omega) ⟨ws ++ [x], _, by rw [List.map_append]; rfl, rfl, same_upd hs hD, upd_same, by rw [List.length_append, hwl]; rfl, fun y hy => ?_⟩
    rcases List.mem_append.mp hy with h | h
    · exact hw y h
    · rw [List.mem_singleton.mp h]
      exact hx
  · rintro ys σ H2 ⟨ws, v4, rfl, rfl, hs, hh, hwl, hw⟩
    exact q D ws H2 hD hs hh hwl hw
end
end Lw
namespace Lw
open PySem L2
set_option maxHeartbeats 4000000
section
variable {P : Program} {w : World} {K : PySem.W.Frag} {mg : Str → Option Value} {base : Heap} {a : Ad}
local macro_rules | `(tactic| walk_at "hk") => `(tactic| first | assumption | exact upd_same | exact same_new (by assumption) _ _ _ (by walk_at "hk"))
local macro_rules | `(tactic| walk_at "rd1") => `(tactic| first | refine ⟨_, rfl, ?_⟩ | refine ⟨_, _, rfl, rfl, ?_⟩ | refine ⟨_, _, _, _, rfl, rfl, SqL.of (by walk_at "hk"), (by assumption), ?_⟩ | refine And.intro rfl ?_ | refine And.intro (Nat.le_of_ble_eq_true rfl) ?_ | refine And.intro (by first | decide | omega) ?_ | refine And.intro ⟨by first | decide | omega, by first | decide | omega⟩ ?_ | refine And.intro (.inl ⟨by first | decide | omega, by first | decide | omega⟩) ?_ | refine And.intro (.inr ⟨by first | decide | omega, by first | decide | omega⟩) ?_ | refine ⟨_, _, rfl, SqT.of (by first | exact upd_same | assumption), rfl, ?_⟩)
local macro_rules | `(tactic| walk_at "rd") => `(tactic| repeat (walk_at "rd1"))
local macro_rules | `(tactic| walk_at "tg") => `(tactic| refine ⟨_, _, rfl, ?_⟩)
def sp_law_cell_at (K : PySem.W.Frag) : Sp := fun vs H Q _ => ∃ (l : Addr) (k : Int) (ns : List Int), vs = [.ref l, .int k] ∧ SqL K H l (ns.map V.int) ∧ 0 ≤ k ∧ ∀ z, Q (.int z) H
theorem ok_law_cell_at (T : Tx K mg a) : FnOk P w K mg base CX0 1 a.f_law_cell_at a.d_law_cell_at ["_law_script", "_law_k"] (sp_law_cell_at K) := by
  refine T.law_cell_at.fn.ok sc_law_cell_at (fun vs H Q E h => ?_) (fun cdv A outer s H vs Q E hr h => ?_)
  · obtain ⟨l, k, ns, rfl, _⟩ := h
    rfl
  obtain ⟨l, k, ns, rfl, hS, h0, q⟩ := h
  refine ⟨_, (pss_cons (ps_if (pt_cmpR op_lt (pv 1) (pe_callB (klen_seq K rfl) rfl T.b_len bt_len (pa_cons (pv 0) pa_nil)) (nomark _)) (pss_one (ps_ret (pe_ix (kix_list K rfl) (pv 0) (pv 1) (fun _ _ => rfl)))) pss_nil)
      (pss_one (ps_ret pe_int))), ?_⟩
  walk_at "rd"
  refine ⟨l, _, rfl, .inl hS, ?_⟩
  walk_at "rd"
  refine ite2 (fun c => ?_) (fun c => ?_)
  · have c' := of_decide_eq_true c
    rw [List.length_map] at c'
    walk_at "rd"
    exact ⟨l, _, _, _, rfl, rfl, hS, atI_getD h0 c', q _⟩
  · exact q _
end
end Lw
namespace Lw
open PySem L2
set_option maxHeartbeats 4000000
section
variable {P : Program} {w : World} {K : PySem.W.Frag} {mg : Str → Option Value} {base : Heap} {a : Ad}
local macro_rules | `(tactic| walk_at "hk") => `(tactic| first | assumption | exact upd_same | exact same_new (by assumption) _ _ _ (by walk_at "hk"))
local macro_rules | `(tactic| walk_at "rd1") => `(tactic| first | refine ⟨_, rfl, ?_⟩ | refine ⟨_, _, rfl, rfl, ?_⟩ | refine ⟨_, _, _, _, rfl, rfl, SqL.of (by walk_at "hk"), (by assumption), ?_⟩ | refine And.intro rfl ?_ | refine And.intro (Nat.le_of_ble_eq_true rfl) ?_ | refine And.intro (by first | decide | omega) ?_ | refine And.intro ⟨by first | decide | omega, by first | decide | omega⟩ ?_ | refine And.intro (.inl ⟨by first | decide | omega, by first | decide | omega⟩) ?_ | refine And.intro (.inr ⟨by first | decide | omega, by first | decide | omega⟩) ?_ | refine ⟨_, _, rfl, SqT.of (by first | exact upd_same | assumption), rfl, ?_⟩)
local macro_rules | `(tactic| walk_at "rd") => `(tactic| repeat (walk_at "rd1"))
local macro_rules | `(tactic| walk_at "tg") => `(tactic| refine ⟨_, _, rfl, ?_⟩)
def stepsI : List Int := [1, 7, 11, 13, 17, 19, 23, 29]
/-- a step coprime to 30 leads to another place each time -/
theorem steps_apart {a st i j : Int} (hst : st ∈ stepsI) (hi : 0 ≤ i ∧ i < 30) (hj : 0 ≤ j ∧ j < 30) (h : (a + st * i) % 30 = (a + st * j) % 30) : i = j := by
  simp only [stepsI, List.mem_cons, List.not_mem_nil, or_false] at hst
  rcases hst with rfl | rfl | rfl | rfl | rfl | rfl | rfl | rfl <;> omega
def signAt (i : Int) : Nat := Cs.signs.getD i.toNat 0
theorem signs_at2 {i : Int} (h0 : 0 ≤ i) (h1 : i < 30) : signAt i ∈ Cs.signs ∧ atI (Str.ofString "abcdefghijklmnopqrstuvwxyz.,-'").cps.toList i = some (signAt i) := by
  rw [Cs.signs_cps]
  have hl : Cs.signs.length = 30 := by decide +kernel
  have hk : i.toNat < Cs.signs.length := by omega
  have ek : i = ((i.toNat : Nat) : Int) := by omega
  have e : signAt i = Cs.signs[i.toNat] := by
    unfold signAt
    rw [List.getD_eq_getElem?_getD, List.getElem?_eq_getElem hk]
    rfl
  have q : atI Cs.signs ((i.toNat : Nat) : Int) = some Cs.signs[i.toNat] := atI_nat (List.getElem?_eq_getElem hk)
  rw [← ek] at q
  rw [e]
  exact ⟨List.getElem_mem hk, q⟩
theorem signAt_inj' : ∀ i j : Fin 30, signAt (i.val : Int) = signAt (j.val : Int) → i = j := by decide +kernel
theorem signAt_inj {i j : Int} (hi : 0 ≤ i ∧ i < 30) (hj : 0 ≤ j ∧ j < 30) (h : signAt i = signAt j) : i = j := by
  have e1 : ((i.toNat : Nat) : Int) = i := by omega
  have e2 : ((j.toNat : Nat) : Int) = j := by omega
  have := signAt_inj' ⟨i.toNat, by omega⟩ ⟨j.toNat, by omega⟩ (by simpa only [e1, e2] using h)
  have q := congrArg Fin.val this
  have q : i.toNat = j.toNat := q
  omega
theorem sg_inj {c d : Nat} (h : sg c = sg d) : c = d := by
  have := congrArg (fun s : Str => s.cps.toList) h
  simpa [sg] using this
/-- the rows' signs, by their places -/
theorem rows_apart {rs : List Cs.Row} {a st : Int} (hst : st ∈ stepsI) (hl : rs.length ≤ 30) (h : ∀ (j : Nat) r, rs[j]? = some r → r.s = sg (signAt ((a + st * (j : Int)) % 30))) : (rs.map fun r => r.s).Nodup := by
  rw [List.Nodup, List.pairwise_map, List.pairwise_iff_getElem]
  intro i j hi hj hij e
  rw [h i _ (List.getElem?_eq_getElem hi), h j _ (List.getElem?_eq_getElem hj)] at e
  have e1 := signAt_inj (by omega) (by omega) (sg_inj e)
  have e2 := steps_apart hst (by omega) (by omega) e1
  omega
def sp_law_case (K : PySem.W.Frag) : Sp := fun vs H Q _ => ∃ (l : Addr) (ns : List Int), vs = [.ref l] ∧ SqL K H l (ns.map V.int) ∧
  ∀ (r : Addr) (xs : List V) (rs : List Cs.Row) (H' : Hp), H r = none → Same H H' → H' r = some (.lst xs) → Paired (Cs.RowAt H') xs rs → 1 ≤ rs.length → rs.length ≤ 30 → (∀ x ∈ rs, ∃ c ∈ Cs.signs, x.s = sg c) → (rs.map fun x => x.s).Nodup → (∀ x ∈ rs, 1 ≤ x.w ∧ x.w ≤ 99) → Q (.ref r) H'
theorem ok_law_case (T : Tx K mg a) : FnOk P w K mg base CX0 2 a.f_law_case a.d_law_case ["_law_script"] (sp_law_case K) := by
  have G_law_cell_at := ok_law_cell_at (P := P) (w := w) (base := base) T
  have G_law_mixed := ok_law_mixed (P := P) (w := w) (base := base) T
  refine T.law_case.fn.ok sc_law_case (fun vs H Q E h => ?_) (fun cdv A outer s H vs Q E hr h => ?_)
  · obtain ⟨l, ns, rfl, _⟩ := h
    rfl
  obtain ⟨l, ns, rfl, hS, q⟩ := h
  refine ⟨_, (pss_cons (ps_set (i := 1) sc_law_case.nd rfl (Or.inl rfl) pe_str)
      (pss_cons (ps_set (i := 2) sc_law_case.nd rfl (Or.inl rfl) (pcall T.law_mixed G_law_mixed hr rfl (pa_cons (pcall T.law_cell_at G_law_cell_at hr rfl (pa_cons (pv 0) (pa_cons pe_int pa_nil))) (pa_cons pe_int pa_nil))))
      (pss_cons (ps_set (i := 3) sc_law_case.nd rfl (Or.inl rfl) (pe_lst pa_nil))
      (pss_cons (ps_for PassesOwn.never rfl (pi_range1 rfl T.b_range (pa_cons (pe_op op_add pe_int (pe_op op_mod (pcall T.law_mixed G_law_mixed hr rfl (pa_cons (pcall T.law_cell_at G_law_cell_at hr rfl (pa_cons (pv 0) (pa_cons pe_int pa_nil))) (pa_cons pe_int pa_nil))) pe_int)) pa_nil)) (pg_name (i := 4) sc_law_case.nd rfl (Or.inl rfl)) (pss_cons (ps_set (i := 5) sc_law_case.nd rfl (Or.inl rfl) (pcall T.law_mixed G_law_mixed hr rfl (pa_cons (pe_op op_add (pcall T.law_cell_at G_law_cell_at hr rfl (pa_cons (pv 0) (pa_cons (pe_op op_mod (pv 4) pe_int) pa_nil))) (pv 4)) (pa_cons (pe_op op_add (pv 4) pe_int) pa_nil))))
      (pss_cons (ps_set (i := 6) sc_law_case.nd rfl (Or.inl rfl) (pe_ix ix_str (pv 1) (pe_op op_mod (pe_op op_add (pv 2) (pe_op op_mul (pe_ix (kix_list K rfl) (pe_lst (pa_cons pe_int (pa_cons pe_int (pa_cons pe_int (pa_cons pe_int (pa_cons pe_int (pa_cons pe_int (pa_cons pe_int (pa_cons pe_int pa_nil))))))))) (pe_op op_mod (pe_op op_fdiv (pv 2) pe_int) pe_int) (fun _ _ => rfl)) (pv 4))) pe_int) (fun _ _ => rfl)))
      (pss_cons (ps_set (i := 7) sc_law_case.nd rfl (Or.inl rfl) (pe_op op_mod (pe_op op_add (pe_op op_fdiv (pv 2) pe_int) (pe_op op_mul (pe_op op_add (pe_op op_mul pe_int (pe_op op_mod (pe_op op_fdiv (pv 2) pe_int) pe_int)) pe_int) (pv 4))) pe_int))
      (pss_cons (ps_set (i := 8) sc_law_case.nd rfl (Or.inl rfl) (pe_op op_mul (pe_op op_mod (pe_op op_fdiv (pv 5) pe_int) pe_int) (pe_callB (call_min2 rfl) rfl T.b_min bt_min (pa_cons pe_int (pa_cons (pe_op op_mod (pe_op op_fdiv (pv 5) pe_int) pe_int) pa_nil)))))
      (pss_one (ps_expr (kpe_bm K rfl PySem.F.plainAttrs_list PySem.F.slot_list_append PySem.F.type_list_append mt_append (pv 3) (pa_cons (pe_tup (pa_cons (pv 6) (pa_cons (pe_op op_add pe_int (pe_op op_mod (pv 5) (pe_ix (kix_list K rfl) (pe_lst (pa_cons pe_int (pa_cons pe_int (pa_cons pe_int pa_nil)))) (pe_op op_mod (pe_op op_fdiv (pv 2) pe_int) pe_int) (fun _ _ => rfl)))) (pa_cons (pv 7) (pa_cons (pv 8) pa_nil))))) pa_nil)))))))))
      (pss_one (ps_ret (pv 3))))))), ?_⟩
  walk_at "rd"
  refine ⟨l, 0, ns, rfl, hS, by decide, fun c0 => ?_⟩
  walk_at "rd"
  refine ⟨_, _, rfl, by decide, by decide, fun f hf0 hf1 => ?_⟩
  walk_at "rd"
  intro rc hrc
  obtain ⟨st, hst, est⟩ := ints_mem (zs := [1, 7, 11, 13, 17, 19, 23, 29]) (i := f / 30 % 8) (by omega) (by show f / 30 % 8 < 8; omega)
  have hst' : 1 ≤ st ∧ st ≤ 29 := by simp at hst; omega
  obtain ⟨wd, hwd, ewd⟩ := ints_mem (zs := [3, 12, 99]) (i := f / 5 % 3) (by omega) (by show f / 5 % 3 < 3; omega)
  have hwd' : 3 ≤ wd ∧ wd ≤ 99 := by simp at hwd; omega
  have hs1 := same_new hrc (.lst [])
  walk_at "rd"
  refine ⟨l, 1, ns, rfl, hs1.seq hS, by decide, fun c1 => ?_⟩
  walk_at "rd"
  refine ⟨_, _, rfl, by decide, by decide, fun g hg0 hg1 => ?_⟩
  walk_at "rd"
  refine for_range (n := (1 + g % 30).toNat) (fun i σ H2 => ∃ (xs : List V) (rs : List Cs.Row) (v4 v5 v6 v7 v8 : Option V), σ = [some (.ref l), some (.str "abcdefghijklmnopqrstuvwxyz.,-'"), some (.int f), some (.ref rc), v4, v5, v6, v7, v8] ∧ Same H H2 ∧ H2 rc = some (.lst xs) ∧ Paired (Cs.RowAt H2) xs rs ∧ rs.length = i ∧ (∀ (j : Nat) r, rs[j]? = some r → r.s = sg (signAt ((f + st * (j : Int)) % 30))) ∧ ∀ x ∈ rs, 1 ≤ x.w ∧ x.w ≤ 99)
    ⟨[], [], none, none, none, none, none, rfl, hs1, upd_same, .nil, rfl, fun j r h => by simp at h, fun x h => nomatch h⟩ ?_ ?_
  · rintro i σ H2 hi ⟨xs, rs, v4, v5, v6, v7, v8, rfl, hs, hhc, hpd, hrl, hsg, hwb⟩
    have hi30 : (i : Int) < 30 := by omega
    obtain ⟨hcs, ec⟩ := signs_at2 (i := (f + st * (0 + (i : Int))) % 30) (by omega) (by omega)
    walk_at "rd"
    refine ⟨l, _, ns, rfl, hs.seq hS, by omega, fun c2 => ?_⟩
    walk_at "rd"
    refine ⟨_, _, rfl, by omega, by omega, fun z hz0 hz1 => ?_⟩
    walk_at "rd"
    intro p1 hp1
    walk_at "rd"
    refine ⟨_, _, _, rfl, rfl, by decide, ec, ?_⟩
    walk_at "rd"
    try refine ⟨_, _, rfl, ?_⟩
    walk_at "rd"
    have hsA := same_new hp1 (.lst [.int 1, .int 7, .int 11, .int 13, .int 17, .int 19, .int 23, .int 29])
    have hhA := hsA _ _ hhc
    refine ⟨.inl ⟨rfl, _, SqL.of hhA⟩, ?_⟩
    walk_at "rd"
    intro p2 hp2
    have hsB := same_add (o := .lst [.int 3, .int 12, .int 99]) hsA hp2
    have hz2 := Int.emod_nonneg z (show wd ≠ 0 by omega)
    have hz3 := Int.emod_lt_of_pos z (show 0 < wd by omega)
    walk_at "rd"
    intro t ht
    have hsC := same_add (o := .tup (Cs.rowV ⟨sg (signAt ((f + st * (0 + (i : Int))) % 30)), 1 + z % wd, (f / 240 + (2 * (f / 30000 % 64) + 1) * (0 + (i : Int))) % 128, z / 99 % 41 * (if z / 11 % 5 < 1 then z / 11 % 5 else 1)⟩)) hsB ht
    have hhC := hsC _ _ hhc
    have hxl := Cs.rows_len hpd
    refine ⟨rc, _, _, rfl, rfl, hhC, smallLt (by omega), ?_⟩
    refine ⟨xs ++ [.ref t], rs ++ [⟨sg (signAt ((f + st * (0 + (i : Int))) % 30)), 1 + z % wd, (f / 240 + (2 * (f / 30000 % 64) + 1) * (0 + (i : Int))) % 128, z / 99 % 41 * (if z / 11 % 5 < 1 then z / 11 % 5 else 1)⟩], _, _, _, _, _, rfl, same_upd (hs.trans hsC) hrc, upd_same, ?_, by rw [List.length_append, hrl]; rfl, fun j r hj => ?_, fun x hx => ?_⟩
    · refine Paired.snoc (Cs.rows_upd (Cs.rows_same hpd hsC) hhC (fun z e => by cases e)) ⟨t, rfl, ?_⟩
      rw [upd_ne (ne_of upd_same hhC (fun e => by cases e)), upd_same]
      rfl
    · by_cases hji : j < rs.length
      · rw [List.getElem?_append_left hji] at hj
        exact hsg j r hj
      · have hj2 := (List.getElem?_eq_some_iff.mp hj).1
        rw [List.length_append] at hj2
        have hj3 : j = rs.length := by
          have : j < rs.length + 1 := hj2
          omega
        subst hj3
        rw [List.getElem?_append_right (Nat.le_refl _), Nat.sub_self] at hj
        have hj : _ = r := Option.some.inj hj
        subst hj
        show sg (signAt ((f + st * (0 + (i : Int))) % 30)) = _
        rw [Int.zero_add, hrl]
    · rcases List.mem_append.mp hx with h | h
      · exact hwb x h
      · rw [List.mem_singleton.mp h]
        show 1 ≤ 1 + z % wd ∧ 1 + z % wd ≤ 99
        omega
  · rintro σ H2 ⟨xs, rs, v4, v5, v6, v7, v8, rfl, hs, hhc, hpd, hrl, hsg, hwb⟩
    refine ⟨_, rfl, ?_⟩
    refine q rc xs rs H2 hrc hs hhc hpd (by omega) (by omega) (fun x hx => ?_) (rows_apart hst (by omega) hsg) hwb
    obtain ⟨j, hj, e⟩ := List.getElem_of_mem hx
    rw [← e, hsg j _ (List.getElem?_eq_getElem hj)]
    exact ⟨_, (signs_at2 (by omega) (by omega)).1, rfl⟩
end
end Lw
namespace Lw
open PySem L2
set_option maxHeartbeats 4000000
section
variable {P : Program} {w : World} {K : PySem.W.Frag} {mg : Str → Option Value} {base : Heap} {a : Ad}
local macro_rules | `(tactic| walk_at "hk") => `(tactic| first | assumption | exact upd_same | exact same_new (by assumption) _ _ _ (by walk_at "hk"))
local macro_rules | `(tactic| walk_at "rd1") => `(tactic| first | refine ⟨_, rfl, ?_⟩ | refine ⟨_, _, rfl, rfl, ?_⟩ | refine ⟨_, _, _, _, rfl, rfl, SqL.of (by walk_at "hk"), (by assumption), ?_⟩ | refine And.intro rfl ?_ | refine And.intro (Nat.le_of_ble_eq_true rfl) ?_ | refine And.intro (by first | decide | omega) ?_ | refine And.intro ⟨by first | decide | omega, by first | decide | omega⟩ ?_ | refine And.intro (.inl ⟨by first | decide | omega, by first | decide | omega⟩) ?_ | refine And.intro (.inr ⟨by first | decide | omega, by first | decide | omega⟩) ?_ | refine ⟨_, _, rfl, SqT.of (by first | exact upd_same | assumption), rfl, ?_⟩)
local macro_rules | `(tactic| walk_at "rd") => `(tactic| repeat (walk_at "rd1"))
local macro_rules | `(tactic| walk_at "tg") => `(tactic| refine ⟨_, _, rfl, ?_⟩)
def sp_keys_of (K : PySem.W.Frag) : Sp := fun vs H Q _ => ∃ (p no : Addr) (xs : List V) (ls : List (List Str)), vs = [.ref p] ∧ SqL K H p xs ∧ Paired (Lns.LineN no H) xs ls ∧ Lns.Fit ls ∧ ∀ H', Same H H' → Q (.str (Lns.keyT ls)) H'
theorem ok_keys_of (T : Tx K mg a) : FnOk P w K mg base CX0 1 a.f_keys_of a.d_keys_of ["lines"] (sp_keys_of K) := by
  refine T.keys_of.fn.ok sc_keys_of (fun vs H Q E h => ?_) (fun cdv A outer s H vs Q E hr h => ?_)
  · obtain ⟨p, no, xs, ls, rfl, _⟩ := h
    rfl
  obtain ⟨p, no, xs, ls, rfl, hS, hp, hf, q⟩ := h
  have hxl := Lns.lines_len hp
  have hf1 := hf.1
  refine ⟨_, (pss_one (ps_ret (kpe_bm K rfl PySem.F.plainAttrs_str PySem.F.slot_str_join PySem.F.type_str_join (kmt_join K rfl) pe_str (pa_cons (pe_compG rfl (kpi_list K rfl (pv 0)) (BlkOk.of (N' := ["lines", "line"]) (ms := []) (k := 1) (by rfl)) (fun _ _ _ _ _ => (pg_name (i := 1) (show List.Nodup (["lines", "line"] : List Str) from by decide +kernel) rfl (Or.inl rfl))) (fun _ _ _ _ _ => pts_nil) (fun _ _ _ _ _ => (pe_op op_add_str (kpe_bm K rfl PySem.F.plainAttrs_str PySem.F.slot_str_join PySem.F.type_str_join (kmt_join K rfl) pe_str (pa_cons (pv 1) pa_nil)) (pe_glob (v := .str "/") rfl T.g_SEND_KEY ⟨_, rfl⟩)))) pa_nil)))), ?_⟩
  walk_at "rd"
  intro D hD
  refine comp_list (a := p) (xs := xs) (fun i ys σ H2 => ∃ (v2 : Option V), ys = ((ls.take i).map fun l => Lns.lineT l ++ "/").map V.str ∧ σ = [some (.ref p), v2] ∧ Same H H2 ∧ H2 D = some (.lst ys))
    ?_ ?_ ?_ ?_
  · exact ⟨none, rfl, rfl, same_new hD _, upd_same⟩
  · rintro i ys σ H2 hi ⟨v2, _, _, hs, _⟩
    exact hs.seq hS
  · rintro i x ys σ H2 hx hil ⟨v2, rfl, rfl, hs, hh⟩
    obtain ⟨l, hl, p2, rfl, _, hp2⟩ := Cs.pd_get hp hx
    obtain ⟨hl1, hl2⟩ := hf.2 l (List.mem_of_getElem? hl)
    have hll := Lns.lineT_len hl1 hl2
    walk_at "rd"
    refine ⟨_, p2, l, rfl, rfl, SqL.of (hs _ _ hp2), Lns.line_small hl1 hl2, ?_⟩
    walk_at "rd"
    refine ⟨smallL ?_, ?_⟩
    · have e : (Str.ofString "/").length = 1 := by decide
      have e2 : (Txt.join (Str.ofString " ") l).length ≤ 10100 := hll
      omega
    refine cnext hil hh ?_ ⟨_, ?_, rfl, same_upd hs hD, upd_same⟩
    · rw [List.length_map, List.length_map, List.length_take]
      omega
    · rw [List.take_add_one, hl, List.map_append, List.map_append]
      rfl
  · rintro ys σ H2 ⟨v2, rfl, rfl, hs, hh⟩
    rw [hxl, List.take_of_length_le (Nat.le_refl _)] at hh
    refine ⟨_, D, _, rfl, rfl, SqL.of hh, Lns.keys_small hf, ?_⟩
    have e := Lns.join_cat ls
    have q := q _ hs
    rw [← e] at q
    exact q
end
end Lw
namespace Lw
open PySem L2
set_option maxHeartbeats 4000000
section
variable {P : Program} {w : World} {K : PySem.W.Frag} {mg : Str → Option Value} {base : Heap} {a : Ad}
local macro_rules | `(tactic| walk_at "hk") => `(tactic| first | assumption | exact upd_same | exact same_new (by assumption) _ _ _ (by walk_at "hk"))
local macro_rules | `(tactic| walk_at "rd1") => `(tactic| first | refine ⟨_, rfl, ?_⟩ | refine ⟨_, _, rfl, rfl, ?_⟩ | refine ⟨_, _, _, _, rfl, rfl, SqL.of (by walk_at "hk"), (by assumption), ?_⟩ | refine And.intro rfl ?_ | refine And.intro (Nat.le_of_ble_eq_true rfl) ?_ | refine And.intro (by first | decide | omega) ?_ | refine And.intro ⟨by first | decide | omega, by first | decide | omega⟩ ?_ | refine And.intro (.inl ⟨by first | decide | omega, by first | decide | omega⟩) ?_ | refine And.intro (.inr ⟨by first | decide | omega, by first | decide | omega⟩) ?_ | refine ⟨_, _, rfl, SqT.of (by first | exact upd_same | assumption), rfl, ?_⟩)
local macro_rules | `(tactic| walk_at "rd") => `(tactic| repeat (walk_at "rd1"))
local macro_rules | `(tactic| walk_at "tg") => `(tactic| refine ⟨_, _, rfl, ?_⟩)
def sp_channel_of (K : PySem.W.Frag) : Sp := fun vs H Q _ => ∃ (l : Addr) (x : Str) (rs : List Cs.Row), vs = [.ref l, .str x] ∧ Cs.CaseAt K H l rs ∧ ∀ H', Same H H' → Q (Mt.optV (Cs.place rs x)) H'
theorem ok_channel_of (T : Tx K mg a) : FnOk P w K mg base CX0 1 a.f_channel_of a.d_channel_of ["case", "sign"] (sp_channel_of K) := by
  refine T.channel_of.fn.ok sc_channel_of (fun vs H Q E h => ?_) (fun cdv A outer s H vs Q E hr h => ?_)
  · obtain ⟨l, x, rs, rfl, _⟩ := h
    rfl
  obtain ⟨l, x, rs, rfl, ⟨xs, hS, hp⟩, q⟩ := h
  refine ⟨_, (pss_cons (ps_for PassesOwn.never rfl (kpi_enum K rfl rfl T.b_enumerate (pa_cons (pv 0) pa_nil)) (kpg_tup K rfl (n := 2) rfl (pgs_cons (pg_name (i := 2) sc_channel_of.nd rfl (Or.inl rfl)) (pgs_cons (pg_name (i := 3) sc_channel_of.nd rfl (Or.inl rfl)) pgs_nil))) (pss_one (ps_if (pt_cmpR op_eq (pe_ix (kix_tup K rfl) (pv 3) pe_int (fun _ _ => rfl)) (pv 1) (nomark _)) (pss_one (ps_ret (pv 2))) pss_nil)))
      (pss_one (ps_ret pe_non))), ?_⟩
  walk_at "rd"
  try refine ⟨⟨_, hS⟩, ?_⟩
  refine for_enum (a := l) (xs := xs) (fun i σ H2 => ∃ (v1 v2 : Option V), σ = [some (.ref l), some (.str x), v1, v2] ∧ Same H H2 ∧ ∀ (j : Nat) r, j < i → rs[j]? = some r → r.s ≠ x)
    ⟨none, none, rfl, Same.refl _, fun j _ h => absurd h (Nat.not_lt_zero _)⟩ (fun i σ H2 _ ⟨_, _, _, hs, _⟩ => hs.seq hS) ?_ ?_
  · rintro i y p σ H2 hy ⟨v1, v2, rfl, hs, hb⟩ hpn
    obtain ⟨r, hri, t, rfl, ht⟩ := Cs.pd_get hp hy
    have hs2 := same_add (o := .tup [.int i, .ref t]) hs hpn
    have ht2 := hs2 _ _ ht
    walk_at "rd"
    walk_at "tg"
    walk_at "tg"
    walk_at "rd"
    refine ⟨t, _, _, _, rfl, rfl, SqT.of ht2, rfl, ?_⟩
    walk_at "rd"
    rw [Cs.strV]
    by_cases e : r.s = x
    · rw [decide_eq_true e]
      refine iteT ?_
      walk_at "rd"
      have := q _ hs2
      rw [Cs.place_some hri e hb] at this
      exact this
    · rw [decide_eq_false e]
      refine iteF ?_
      refine ⟨_, _, rfl, hs2, fun j r' hj hr' => ?_⟩
      by_cases z : j = i
      · subst z
        rw [hri] at hr'
        cases hr'
        exact e
      · exact hb j r' (by omega) hr'
  · rintro σ H2 ⟨v1, v2, rfl, hs, hb⟩
    have := q _ hs
    rw [Cs.place_none (fun j r hj => hb j r (by rw [Cs.rows_len hp]; exact hj))] at this
    exact this
end
end Lw
namespace Lw
open PySem L2
set_option maxHeartbeats 4000000
section
variable {P : Program} {w : World} {K : PySem.W.Frag} {mg : Str → Option Value} {base : Heap} {a : Ad}
local macro_rules | `(tactic| walk_at "hk") => `(tactic| first | assumption | exact upd_same | exact same_new (by assumption) _ _ _ (by walk_at "hk"))
local macro_rules | `(tactic| walk_at "rd1") => `(tactic| first | refine ⟨_, rfl, ?_⟩ | refine ⟨_, _, rfl, rfl, ?_⟩ | refine ⟨_, _, _, _, rfl, rfl, SqL.of (by walk_at "hk"), (by assumption), ?_⟩ | refine And.intro rfl ?_ | refine And.intro (Nat.le_of_ble_eq_true rfl) ?_ | refine And.intro (by first | decide | omega) ?_ | refine And.intro ⟨by first | decide | omega, by first | decide | omega⟩ ?_ | refine And.intro (.inl ⟨by first | decide | omega, by first | decide | omega⟩) ?_ | refine And.intro (.inr ⟨by first | decide | omega, by first | decide | omega⟩) ?_ | refine ⟨_, _, rfl, SqT.of (by first | exact upd_same | assumption), rfl, ?_⟩)
local macro_rules | `(tactic| walk_at "rd") => `(tactic| repeat (walk_at "rd1"))
local macro_rules | `(tactic| walk_at "tg") => `(tactic| refine ⟨_, _, rfl, ?_⟩)
theorem sgV {c d : Nat} : decide (V.str (sg c) = V.str (sg d)) = decide (c = d) := by
  rw [Cs.strV, decide_eq_decide]
  exact ⟨fun h => sg_inj h, fun h => by rw [h]⟩
def sp_is_sign_key : Sp := fun vs H Q _ => ∃ c : Nat, vs = [.str (sg c)] ∧ Q (.bl (Lns.isS c)) H
theorem ok_is_sign_key (T : Tx K mg a) : FnOk P w K mg base CX0 1 a.f_is_sign_key a.d_is_sign_key ["key"] sp_is_sign_key := by
  refine T.is_sign_key.fn.ok sc_is_sign_key (fun vs H Q E h => ?_) (fun cdv A outer s H vs Q E hr h => ?_)
  · obtain ⟨c, rfl, _⟩ := h
    rfl
  obtain ⟨c, rfl, q⟩ := h
  have e1 : decide (V.str (sg c) = V.str (Str.ofString " ")) = decide (c = 32) := sgV (d := 32)
  have e2 : decide (V.str (sg c) = V.str (Str.ofString "/")) = decide (c = 47) := sgV (d := 47)
  unfold Lns.isS at q
  refine ⟨_, (pss_one (ps_ret (pe_and (pe_cmpR op_ne (pv 0) (pe_glob (v := .str " ") rfl T.g_GAP_KEY ⟨_, rfl⟩) (nomark _)) (pe_one (pe_cmpR op_ne (pv 0) (pe_glob (v := .str "/") rfl T.g_SEND_KEY ⟨_, rfl⟩) (nomark _)))))), ?_⟩
  walk_at "rd"
  rw [e1]
  cases h32 : decide (c = 32) with
  | true =>
    rw [h32] at q
    exact q
  | false =>
    rw [h32] at q
    refine iteT ?_
    walk_at "rd"
    rw [e2]
    exact q
end
end Lw
namespace Lw
open PySem L2
set_option maxHeartbeats 4000000
section
variable {P : Program} {w : World} {K : PySem.W.Frag} {mg : Str → Option Value} {base : Heap} {a : Ad}
local macro_rules | `(tactic| walk_at "hk") => `(tactic| first | assumption | exact upd_same | exact same_new (by assumption) _ _ _ (by walk_at "hk"))
local macro_rules | `(tactic| walk_at "rd1") => `(tactic| first | refine ⟨_, rfl, ?_⟩ | refine ⟨_, _, rfl, rfl, ?_⟩ | refine ⟨_, _, _, _, rfl, rfl, SqL.of (by walk_at "hk"), (by assumption), ?_⟩ | refine And.intro rfl ?_ | refine And.intro (Nat.le_of_ble_eq_true rfl) ?_ | refine And.intro (by first | decide | omega) ?_ | refine And.intro ⟨by first | decide | omega, by first | decide | omega⟩ ?_ | refine And.intro (.inl ⟨by first | decide | omega, by first | decide | omega⟩) ?_ | refine And.intro (.inr ⟨by first | decide | omega, by first | decide | omega⟩) ?_ | refine ⟨_, _, rfl, SqT.of (by first | exact upd_same | assumption), rfl, ?_⟩)
local macro_rules | `(tactic| walk_at "rd") => `(tactic| repeat (walk_at "rd1"))
local macro_rules | `(tactic| walk_at "tg") => `(tactic| refine ⟨_, _, rfl, ?_⟩)
def sp_goes_on (K : PySem.W.Frag) : Sp := fun vs H Q _ => ∃ (l : Addr) (x : Str) (i : Nat) (rs : List Cs.Row), vs = [.ref l, .str x, .int (i : Int)] ∧ Cs.CaseAt K H l rs ∧ x.length ≤ 90000 ∧ i < x.cps.toList.length ∧ ∀ H', Same H H' → Q (.bl (Lns.goesOn rs x.cps.toList i)) H'
theorem ok_goes_on (T : Tx K mg a) : FnOk P w K mg base CX0 2 a.f_goes_on a.d_goes_on ["case", "keys", "at"] (sp_goes_on K) := by
  have G_is_sign_key := ok_is_sign_key (P := P) (w := w) (base := base) T
  have G_channel_of := ok_channel_of (P := P) (w := w) (base := base) T
  refine T.goes_on.fn.ok sc_goes_on (fun vs H Q E h => ?_) (fun cdv A outer s H vs Q E hr h => ?_)
  · obtain ⟨l, x, i, rs, rfl, _⟩ := h
    rfl
  obtain ⟨l, x, i, rs, rfl, hC, hx, hi, q⟩ := h
  have hxs : x.length ≤ sizeLine := smallL (by omega)
  have ec : atI x.cps.toList (i : Int) = some x.cps.toList[i] := atI_nat (List.getElem?_eq_getElem hi)
  unfold Lns.goesOn at q
  rw [List.getElem?_eq_getElem hi] at q
  generalize x.cps.toList[i] = c at ec q
  have q : ∀ H', Same H H' → Q (.bl (if Lns.isS c = true then (Cs.place rs (sg c)).isSome else decide (0 < i) && (match x.cps.toList[i - 1]? with | none => false | some d => Lns.isS d))) H' := q
  refine ⟨_, (pss_cons (ps_if (pt_val (pcall T.is_sign_key G_is_sign_key hr rfl (pa_cons (pe_ix ix_str (pv 1) (pv 2) (fun _ _ => rfl)) pa_nil))) (pss_one (ps_ret (pe_cmp (pc_notN (pcall T.channel_of G_channel_of hr rfl (pa_cons (pv 0) (pa_cons (pe_ix ix_str (pv 1) (pv 2) (fun _ _ => rfl)) pa_nil))))))) pss_nil)
      (pss_one (ps_ret (pe_and (pe_cmpR op_gt (pv 2) pe_int (nomark _)) (pe_one (pcall T.is_sign_key G_is_sign_key hr rfl (pa_cons (pe_ix ix_str (pv 1) (pe_op op_sub (pv 2) pe_int) (fun _ _ => rfl)) pa_nil))))))), ?_⟩
  walk_at "rd"
  refine ⟨_, _, _, rfl, rfl, hxs, ec, ?_⟩
  walk_at "rd"
  try refine ⟨_, rfl, ?_⟩
  cases hs : Lns.isS c with
  | true =>
    rw [hs] at q
    refine iteT ?_
    walk_at "rd"
    refine ⟨_, _, _, rfl, rfl, hxs, ec, ?_⟩
    walk_at "rd"
    refine ⟨l, sg c, rs, rfl, hC, fun H1 hs1 => ?_⟩
    have e : (!decide (Mt.optV (Cs.place rs (sg c)) = V.non)) = (Cs.place rs (sg c)).isSome := by
      cases Cs.place rs (sg c) <;> rfl
    have q := q H1 hs1
    rw [if_pos rfl, ← e] at q
    exact q
  | false =>
    rw [hs] at q
    refine iteF ?_
    walk_at "rd"
    have q := q H (Same.refl _)
    rw [if_neg (by decide)] at q
    cases i with
    | zero =>
      refine iteF ?_
      exact q
    | succ j =>
      have hj : j < x.cps.toList.length := by omega
      have ec2 : atI x.cps.toList (((j + 1 : Nat) : Int) - 1) = some x.cps.toList[j] := by
        rw [show (((j + 1 : Nat) : Int) - 1) = ((j : Nat) : Int) by omega]
        exact atI_nat (List.getElem?_eq_getElem hj)
      rw [show j + 1 - 1 = j from rfl, List.getElem?_eq_getElem hj] at q
      have e0 : decide ((0 : Int) < ((j + 1 : Nat) : Int)) = true := decide_eq_true (by omega)
      rw [e0]
      refine iteT ?_
      walk_at "rd"
      refine ⟨_, _, _, rfl, rfl, hxs, ec2, ?_⟩
      walk_at "rd"
      have q : Q (.bl (decide (0 < j + 1) && Lns.isS x.cps.toList[j])) H := q
      rw [show decide (0 < j + 1) = true from decide_eq_true (by omega), Bool.true_and] at q
      exact q
end
end Lw
namespace Lw
open PySem L2
set_option maxHeartbeats 4000000
section
variable {P : Program} {w : World} {K : PySem.W.Frag} {mg : Str → Option Value} {base : Heap} {a : Ad}
local macro_rules | `(tactic| walk_at "hk") => `(tactic| first | assumption | exact upd_same | exact same_new (by assumption) _ _ _ (by walk_at "hk"))
local macro_rules | `(tactic| walk_at "rd1") => `(tactic| first | refine ⟨_, rfl, ?_⟩ | refine ⟨_, _, rfl, rfl, ?_⟩ | refine ⟨_, _, _, _, rfl, rfl, SqL.of (by walk_at "hk"), (by assumption), ?_⟩ | refine And.intro rfl ?_ | refine And.intro (Nat.le_of_ble_eq_true rfl) ?_ | refine And.intro (by first | decide | omega) ?_ | refine And.intro ⟨by first | decide | omega, by first | decide | omega⟩ ?_ | refine And.intro (.inl ⟨by first | decide | omega, by first | decide | omega⟩) ?_ | refine And.intro (.inr ⟨by first | decide | omega, by first | decide | omega⟩) ?_ | refine ⟨_, _, rfl, SqT.of (by first | exact upd_same | assumption), rfl, ?_⟩)
local macro_rules | `(tactic| walk_at "rd") => `(tactic| repeat (walk_at "rd1"))
local macro_rules | `(tactic| walk_at "tg") => `(tactic| refine ⟨_, _, rfl, ?_⟩)
def sp_look_at_keys (K : PySem.W.Frag) : Sp := fun vs H Q _ => ∃ (l : Addr) (x : Str) (rs : List Cs.Row), vs = [.ref l, .str x] ∧ Cs.CaseAt K H l rs ∧ x.length ≤ 90000 ∧ Lns.okFrom rs false x.cps.toList = true ∧ (x.cps.toList = [] ∨ ∃ a, x.cps.toList = a ++ [47]) ∧ ∀ H', Same H H' → Q .non H'
theorem ok_look_at_keys (T : Tx K mg a) : FnOk P w K mg base CX0 3 a.f_look_at_keys a.d_look_at_keys ["case", "keys"] (sp_look_at_keys K) := by
  have G_goes_on := ok_goes_on (P := P) (w := w) (base := base) T
  refine T.look_at_keys.fn.ok sc_look_at_keys (fun vs H Q E h => ?_) (fun cdv A outer s H vs Q E hr h => ?_)
  · obtain ⟨l, x, rs, rfl, _⟩ := h
    rfl
  obtain ⟨l, x, rs, rfl, hC, hx, hok, hend, q⟩ := h
  have hxs : x.length ≤ sizeLine := smallL (by omega)
  have hxl : x.cps.toList.length = x.length := Array.length_toList
  refine ⟨_, (pss_cons (ps_for PassesOwn.never rfl (pi_range1 rfl T.b_range (pa_cons (pe_callB call_len_str rfl T.b_len bt_len (pa_cons (pv 1) pa_nil)) pa_nil)) (pg_name (i := 2) sc_look_at_keys.nd rfl (Or.inl rfl)) (pss_one (ps_if (pt_not (pt_val (pcall T.goes_on G_goes_on hr rfl (pa_cons (pv 0) (pa_cons (pv 1) (pa_cons (pv 2) pa_nil)))))) (pss_one ps_never) pss_nil)))
      (pss_one (ps_if (PW.pt (pw_and (pt_cmpR op_ne (pv 1) pe_str (nomark _)) (pw_and1 (pt_cmpR op_ne (pe_ix ix_str (pv 1) (pe_un un_neg pe_int) (fun _ _ => rfl)) (pe_glob (v := .str "/") rfl T.g_SEND_KEY ⟨_, rfl⟩) (nomark _))))) (pss_one ps_never) pss_nil))), ?_⟩
  walk_at "rd"
  refine for_range (n := x.length) (fun i σ H2 => ∃ v2 : Option V, σ = [some (.ref l), some (.str x), v2] ∧ Same H H2) ⟨none, rfl, Same.refl _⟩ ?_ ?_
  · rintro i σ H2 hi ⟨v2, rfl, hs⟩
    walk_at "rd"
    refine ⟨l, x, i, rs, by rw [Int.zero_add]; rfl, hC.same hs, hx, by omega, fun H3 hs3 => ?_⟩
    rw [Lns.ok_goes hok (by omega)]
    refine ⟨_, rfl, ?_⟩
    refine iteF ?_
    exact ⟨_, rfl, hs.trans hs3⟩
  · rintro σ H2 ⟨v2, rfl, hs⟩
    walk_at "rd"
    rcases hend with he | ⟨a0, he⟩
    · have ex : x = "" := Lns.str_ext he
      subst ex
      have e1 : (!decide (V.str (Str.ofString "") = V.str (Str.ofString ""))) = false := by rw [decide_eq_true rfl]; rfl
      rw [e1]
      try refine iteF ?_
      exact q H2 hs
    · have hne : x ≠ "" := fun e => by
        rw [e] at he
        have h := congrArg List.length he
        rw [List.length_append] at h
        have h : 0 = a0.length + 1 := h
        omega
      have e1 : (!decide (V.str x = V.str (Str.ofString ""))) = true := by rw [Cs.strV, decide_eq_false hne]; rfl
      rw [e1]
      try refine iteT ?_
      have ec : atI x.cps.toList (-1) = some 47 := by
        rw [he]
        exact Lns.at_end a0 47
      walk_at "rd"
      refine ⟨_, _, _, rfl, rfl, hxs, ec, ?_⟩
      walk_at "rd"
      have e2 : (!decide (V.str ({ cps := #[47] } : Str) = V.str (Str.ofString "/"))) = false := by rw [show (Str.ofString "/") = ({ cps := #[47] } : Str) from rfl, decide_eq_true rfl]; rfl
      rw [e2]
      try refine iteF ?_
      exact q H2 hs
end
end Lw
namespace Lw
open PySem L2
set_option maxHeartbeats 4000000
section
variable {P : Program} {w : World} {K : PySem.W.Frag} {mg : Str → Option Value} {base : Heap} {a : Ad}
local macro_rules | `(tactic| walk_at "hk") => `(tactic| first | assumption | exact upd_same | exact same_new (by assumption) _ _ _ (by walk_at "hk"))
local macro_rules | `(tactic| walk_at "rd1") => `(tactic| first | refine ⟨_, rfl, ?_⟩ | refine ⟨_, _, rfl, rfl, ?_⟩ | refine ⟨_, _, _, _, rfl, rfl, SqL.of (by walk_at "hk"), (by assumption), ?_⟩ | refine And.intro rfl ?_ | refine And.intro (Nat.le_of_ble_eq_true rfl) ?_ | refine And.intro (by first | decide | omega) ?_ | refine And.intro ⟨by first | decide | omega, by first | decide | omega⟩ ?_ | refine And.intro (.inl ⟨by first | decide | omega, by first | decide | omega⟩) ?_ | refine And.intro (.inr ⟨by first | decide | omega, by first | decide | omega⟩) ?_ | refine ⟨_, _, rfl, SqT.of (by first | exact upd_same | assumption), rfl, ?_⟩)
local macro_rules | `(tactic| walk_at "rd") => `(tactic| repeat (walk_at "rd1"))
local macro_rules | `(tactic| walk_at "tg") => `(tactic| refine ⟨_, _, rfl, ?_⟩)
def sp_lines_of (K : PySem.W.Frag) : Sp := fun vs H Q _ => ∃ (l : Addr) (rs : List Cs.Row) (ls : List (List Str)), vs = [.ref l, .str (Lns.keyT ls)] ∧ Cs.CaseAt K H l rs ∧ (Lns.keyT ls).length ≤ 90000 ∧ (∀ x ∈ ls, (Lns.lineT x).length ≤ 90000) ∧ ls.length ≤ 1000 ∧ (∀ x ∈ ls, x ≠ [] ∧ ∀ y ∈ x, Lns.Settable rs y) ∧
  ∀ (D : Addr) (zs : List V) H', H D = none → Same H H' → H' D = some (.lst zs) → Paired (Lns.LineF H D H') zs ls → zs.Nodup → Q (.ref D) H'
theorem ok_lines_of (T : Tx K mg a) : FnOk P w K mg base CX0 4 a.f_lines_of a.d_lines_of ["case", "keys"] (sp_lines_of K) := by
  have G_look_at_keys := ok_look_at_keys (P := P) (w := w) (base := base) T
  refine T.lines_of.fn.ok sc_lines_of (fun vs H Q E h => ?_) (fun cdv A outer s H vs Q E hr h => ?_)
  · obtain ⟨l, rs, ls, rfl, _⟩ := h
    rfl
  obtain ⟨l, rs, ls, rfl, hC, hk, hll, hl, hset, q⟩ := h
  have hplain : ∀ x ∈ ls, ∀ y ∈ x, Lns.Plain y := fun x hx y hy => ((hset x hx).2 y hy).plain
  have hend : (Lns.keyT ls).cps.toList = [] ∨ ∃ a, (Lns.keyT ls).cps.toList = a ++ [47] := by
    by_cases e : ls = []
    · rw [e]
      exact .inl rfl
    · exact .inr (Lns.keys_end ls e)
  refine ⟨_, (pss_cons (ps_expr (pcall T.look_at_keys G_look_at_keys hr rfl (pa_cons (pv 0) (pa_cons (pv 1) pa_nil))))
      (pss_one (ps_ret (pe_compG rfl (kpi_list K rfl (pe_slice (ksl_list K rfl) (kpe_bm K rfl PySem.F.plainAttrs_str PySem.F.slot_str_split PySem.F.type_str_split mt_split (pv 1) (pa_cons (pe_glob (v := .str "/") rfl T.g_SEND_KEY ⟨_, rfl⟩) pa_nil)) po_none (po_some (pe_un un_neg pe_int)))) (BlkOk.of (N' := ["case", "keys", "line"]) (ms := []) (k := 1) (by rfl)) (fun _ _ _ _ _ => (pg_name (i := 2) (show List.Nodup (["case", "keys", "line"] : List Str) from by decide +kernel) rfl (Or.inl rfl))) (fun _ _ _ _ _ => pts_nil) (fun _ _ _ _ _ => (kpe_bm K rfl PySem.F.plainAttrs_str PySem.F.slot_str_split PySem.F.type_str_split mt_split (pv 2) (pa_cons (pe_glob (v := .str " ") rfl T.g_GAP_KEY ⟨_, rfl⟩) pa_nil))))))), ?_⟩
  walk_at "rd"
  refine ⟨l, _, rs, rfl, hC, hk, Lns.ok_keys hset, hend, fun H1 hs1 => ?_⟩
  walk_at "rd"
  intro p2 hp2
  rw [Lns.split_keys hplain]
  have hs2 := same_new hp2 (.lst ((ls.map Lns.lineT ++ [Str.ofString ""]).map V.str))
  have h22 : upd H1 p2 (.lst ((ls.map Lns.lineT ++ [Str.ofString ""]).map V.str)) p2 = some (.lst ((ls.map Lns.lineT ++ [Str.ofString ""]).map V.str)) := upd_same
  generalize upd H1 p2 (.lst ((ls.map Lns.lineT ++ [Str.ofString ""]).map V.str)) = H2 at hs2 h22 ⊢
  walk_at "rd"
  refine ⟨p2, _, rfl, SqL.of h22, fun p3 hp3 => ?_⟩
  rw [show cutV ((ls.map Lns.lineT ++ [Str.ofString ""]).map V.str) none (some (-1)) = (ls.map Lns.lineT).map V.str from Lns.cut_init V.str _ _]
  have hs3 := same_new hp3 (.lst ((ls.map Lns.lineT).map V.str))
  have h33 : upd H2 p3 (.lst ((ls.map Lns.lineT).map V.str)) p3 = some (.lst ((ls.map Lns.lineT).map V.str)) := upd_same
  generalize upd H2 p3 (.lst ((ls.map Lns.lineT).map V.str)) = H3 at hs3 h33 ⊢
  have hs03 := hs1.trans (hs2.trans hs3)
  refine ⟨p3, rfl, ⟨_, SqL.of h33⟩, fun D hD => ?_⟩
  refine comp_list (a := p3) (xs := (ls.map Lns.lineT).map V.str) (fun j zs σ H6 => ∃ (v2 : Option V), σ = [some (.ref l), some (.str (Lns.keyT ls)), v2] ∧ Same H3 H6 ∧ H6 D = some (.lst zs) ∧ Paired (Lns.LineF H D H6) zs (ls.take j) ∧ zs.Nodup)
    ?_ ?_ ?_ ?_
  · exact ⟨none, rfl, same_new hD _, upd_same, .nil, .nil⟩
  · rintro j zs σ H6 hj ⟨_, _, hs, _⟩
    exact hs.seq (SqL.of h33)
  · rintro j x zs σ H6 hx hjl ⟨v2, rfl, hs, hh, hz, hnd⟩
    rw [List.getElem?_map, List.getElem?_map] at hx
    obtain ⟨y, hy, rfl⟩ := Option.map_eq_some_iff.mp hx
    obtain ⟨w0, hw0, rfl⟩ := Option.map_eq_some_iff.mp hy
    have hwm := List.mem_of_getElem? hw0
    have hzl := Lns.linesF_len hz
    rw [List.length_take] at hzl
    have hlw := hll w0 hwm
    walk_at "rd"
    intro pn hpn
    rw [Lns.split_line (hset w0 hwm).1 (hplain w0 hwm)]
    have hsn := same_new hpn (.lst (w0.map V.str))
    have hDn : pn ≠ D := fun e => by rw [e, hh] at hpn; cases hpn
    refine cnext hjl (hsn _ _ hh) (by omega) ⟨_, rfl, same_upd (hs.trans hsn) hD, upd_same, ?_, ?_⟩
    · rw [List.take_add_one, hw0]
      exact Paired.snoc (Lns.linesF_upd (Lns.linesF_same hz hsn)) ⟨pn, rfl, hDn, hs03.free (hs.free hpn), by rw [upd_ne hDn]; exact upd_same⟩
    · rw [List.nodup_append]
      refine ⟨hnd, by simp, fun a ha b hb => ?_⟩
      rw [List.mem_singleton.mp hb]
      exact fun e => Lns.linesF_new hz hpn (e ▸ ha)
  · rintro zs σ H6 ⟨v2, rfl, hs6, hh6, hz6, hnd⟩
    rw [List.length_map, List.length_map, List.take_of_length_le (Nat.le_refl _)] at hz6
    exact q D zs H6 (hs03.free hD) (hs03.trans hs6) hh6 hz6 hnd
end
end Lw
namespace Lw
open PySem L2
set_option maxHeartbeats 4000000
section
variable {P : Program} {w : World} {K : PySem.W.Frag} {mg : Str → Option Value} {base : Heap} {a : Ad}
local macro_rules | `(tactic| walk_at "hk") => `(tactic| first | assumption | exact upd_same | exact same_new (by assumption) _ _ _ (by walk_at "hk"))
local macro_rules | `(tactic| walk_at "rd1") => `(tactic| first | refine ⟨_, rfl, ?_⟩ | refine ⟨_, _, rfl, rfl, ?_⟩ | refine ⟨_, _, _, _, rfl, rfl, SqL.of (by walk_at "hk"), (by assumption), ?_⟩ | refine And.intro rfl ?_ | refine And.intro (Nat.le_of_ble_eq_true rfl) ?_ | refine And.intro (by first | decide | omega) ?_ | refine And.intro ⟨by first | decide | omega, by first | decide | omega⟩ ?_ | refine And.intro (.inl ⟨by first | decide | omega, by first | decide | omega⟩) ?_ | refine And.intro (.inr ⟨by first | decide | omega, by first | decide | omega⟩) ?_ | refine ⟨_, _, rfl, SqT.of (by first | exact upd_same | assumption), rfl, ?_⟩)
local macro_rules | `(tactic| walk_at "rd") => `(tactic| repeat (walk_at "rd1"))
local macro_rules | `(tactic| walk_at "tg") => `(tactic| refine ⟨_, _, rfl, ?_⟩)
theorem kit_ss {K : PySem.W.Frag} : PySem.W.kitOne K (.type "str") (.type "str") = some true := by rfl
theorem cutv_take {xs : List V} {z : Int} {n : Nat} (h : z = (n : Int)) : cutV xs none (some z) = xs.take n := by
  subst h
  unfold cutV
  rw [HT.sIx_none, HT.sIx_nat, List.drop_zero, Nat.sub_zero, Nat.min_def]
  split
  · rfl
  · rw [List.take_of_length_le (Nat.le_refl _), List.take_of_length_le (by omega)]
theorem cutv_drop {xs : List V} {z : Int} {n : Nat} (h : z = (n : Int)) (hn : n ≤ xs.length) : cutV xs (some z) none = xs.drop n := by
  subst h
  unfold cutV
  rw [HT.sIx_none, HT.sIx_nat, Nat.min_eq_left hn]
  exact List.take_of_length_le (by rw [List.length_drop]; exact Nat.le_refl _)
theorem cutv_from1 {xs : List V} : cutV xs (some 1) none = xs.drop 1 := by
  cases xs with
  | nil => rfl
  | cons x r => exact cutv_drop (n := 1) rfl (by show 1 ≤ r.length + 1; omega)
theorem size6 {b : Int} {i : Nat} (h : i < size3 2 b 6) : 2 + (i : Int) * 6 < b := by
  unfold size3 Builtin.Range.rangeSize at h
  rw [if_pos (by decide)] at h
  split at h
  · omega
  · simp at h
theorem word_lay {rs : List Cs.Row} (hsg : ∀ r ∈ rs, ∃ c ∈ Cs.signs, r.s = sg c) {m : Nat} {x : Str} (h : WordOk rs m x) : PyData.canLay0 (.str x) = true := by
  show (x.cps.all fun c => decide (c < 0x110000)) = true
  rw [← Array.all_toList, List.all_eq_true]
  intro c hc
  obtain ⟨k, hk⟩ := Option.isSome_iff_exists.mp (h.2.2 c hc)
  obtain ⟨r, hr, e⟩ := Cs.place_row hk
  obtain ⟨d, hd, e2⟩ := hsg r (List.mem_of_getElem? hr)
  have e3 : c = d := sg_inj (e.symm.trans e2)
  have lt : ∀ d ∈ Cs.signs, d < 0x110000 := by decide +kernel
  exact decide_eq_true (e3 ▸ lt d hd)
/-- a line of one to six short words that the case can set -/
def LineOk (rs : List Cs.Row) (l : List Str) : Prop := l ≠ [] ∧ l.length ≤ 6 ∧ ∀ x ∈ l, WordOk rs 6 x
theorem lines_fit {rs : List Cs.Row} {ls : List (List Str)} (h : ∀ x ∈ ls, LineOk rs x) (hl : ls.length ≤ 100) : Lns.Fit ls :=
  ⟨hl, fun l hm => by
    obtain ⟨_, h2, h3⟩ := h l hm
    exact ⟨by omega, fun x hx => Nat.le_trans (h3 x hx).2.1 (by decide)⟩⟩
theorem cut_line {ns : List Int} {a m : Int} (h0 : 0 ≤ a) (h1 : a < (ns.length : Int)) (hm : 0 ≤ m ∧ m < 6) : ∃ ms : List Int, cutV (ns.map V.int) (some a) (some (a + 1 + m)) = ms.map V.int ∧ 1 ≤ ms.length ∧ ms.length ≤ 6 := by
  obtain ⟨a', rfl⟩ := Int.eq_ofNat_of_zero_le h0
  obtain ⟨m', rfl⟩ := Int.eq_ofNat_of_zero_le hm.1
  have e : (a' : Int) + 1 + (m' : Int) = ((a' + 1 + m' : Nat) : Int) := by omega
  refine ⟨(ns.drop (HT.sIx ns.length 0 (some (a' : Int)))).take (HT.sIx ns.length ns.length (some ((a' + 1 + m' : Nat) : Int)) - HT.sIx ns.length 0 (some (a' : Int))), ?_, ?_, ?_⟩
  · rw [e]
    unfold cutV
    rw [List.length_map, List.map_take, List.map_drop]
  · rw [HT.sIx_nat, HT.sIx_nat, List.length_take, List.length_drop]
    omega
  · rw [HT.sIx_nat, HT.sIx_nat, List.length_take, List.length_drop]
    omega
theorem line_len {rs : List Cs.Row} {l : List Str} (h : LineOk rs l) : (Lns.lineT l).length ≤ 42 := by
  obtain ⟨_, h1, h2⟩ := h
  have a := Lns.sum_le' (fun x : Str => x.length) 6 6 l (fun x hx => (h2 x hx).2.1) h1
  have a : (l.map (·.length)).sum ≤ 6 * 6 := a
  have b := StrLaws.join_length_le " " l
  have e : (Str.ofString " ").length = 1 := by decide
  unfold Lns.lineT Txt.join
  rw [StrLaws.glued_eq_join]
  have b : (Str.join " " l).length ≤ (l.map (·.length)).sum + l.length * (Str.ofString " ").length := b
  rw [e] at b
  omega
theorem key_len {rs : List Cs.Row} : ∀ {ls : List (List Str)}, (∀ l ∈ ls, LineOk rs l) → (Lns.keyT ls).length ≤ ls.length * 43
  | [], _ => by show (Str.ofString "").length ≤ _; decide
  | l :: r, h => by
    have a := line_len (h l List.mem_cons_self)
    have b := key_len fun l hl => h l (List.mem_cons_of_mem _ hl)
    show (Lns.lineT l ++ "/" ++ Lns.keyT r).length ≤ _
    rw [Str.length_append, Str.length_append, List.length_cons, Nat.succ_mul]
    have e : ("/" : Str).length = 1 := by decide
    omega
end
end Lw
namespace Lw
open PySem L2
set_option maxHeartbeats 4000000
section
variable {P : Program} {w : World} {K : PySem.W.Frag} {mg : Str → Option Value} {base : Heap} {a : Ad}
local macro_rules | `(tactic| walk_at "hk") => `(tactic| first | assumption | exact upd_same | exact same_new (by assumption) _ _ _ (by walk_at "hk"))
local macro_rules | `(tactic| walk_at "rd1") => `(tactic| first | refine ⟨_, rfl, ?_⟩ | refine ⟨_, _, rfl, rfl, ?_⟩ | refine ⟨_, _, _, _, rfl, rfl, SqL.of (by walk_at "hk"), (by assumption), ?_⟩ | refine And.intro rfl ?_ | refine And.intro (Nat.le_of_ble_eq_true rfl) ?_ | refine And.intro (by first | decide | omega) ?_ | refine And.intro ⟨by first | decide | omega, by first | decide | omega⟩ ?_ | refine And.intro (.inl ⟨by first | decide | omega, by first | decide | omega⟩) ?_ | refine And.intro (.inr ⟨by first | decide | omega, by first | decide | omega⟩) ?_ | refine ⟨_, _, rfl, SqT.of (by first | exact upd_same | assumption), rfl, ?_⟩)
local macro_rules | `(tactic| walk_at "rd") => `(tactic| repeat (walk_at "rd1"))
local macro_rules | `(tactic| walk_at "tg") => `(tactic| refine ⟨_, _, rfl, ?_⟩)
def sp_law_are (K : PySem.W.Frag) : Sp := fun vs H Q _ => ∃ (f d no no2 : Addr) (xs ys : List V) (ls : List (List Str)), vs = [.ref f, .ref d] ∧ H f = some (.lst xs) ∧ Paired (Lns.LineN no H) xs ls ∧ SqL K H d ys ∧ Paired (Lns.LineN no2 H) ys ls ∧ (∀ x ∈ ls, ∀ y ∈ x, PyData.canLay0 (.str y) = true) ∧ ∀ H', Same H H' → Q (.bl true) H'
theorem ok_law_are (T : Tx K mg a) : FnOk P w K mg base CX0 1 a.f_law_are a.d_law_are ["_law_found", "_law_due"] (sp_law_are K) := by
  refine T.law_are.fn.ok sc_law_are (fun vs H Q E h => ?_) (fun cdv A outer s H vs Q E hr h => ?_)
  · obtain ⟨f, d, no, no2, xs, ys, ls, rfl, _⟩ := h
    rfl
  obtain ⟨f, d, no, no2, xs, ys, ls, rfl, hF0, hpf, hD, hpd, lay, q⟩ := h
  have hF : SqL K H f xs := SqL.of hF0
  refine ⟨_, (pss_cons (ps_if (PW.pt (pw_or (pt_not (pt_val (pe_callB (kisinst K rfl) rfl T.b_isinstance bt_isinstance (pa_cons (pv 0) (pa_cons (pe_bltn (v := .ty "list") rfl T.b_list bt_list rfl) pa_nil))))) (pw_or1 (pt_cmpR (kneD K rfl hr.units) (pv 0) (pv 1) (nomark _))))) (pss_one (ps_ret pe_bl)) pss_nil)
      (pss_cons (ps_for PassesOwn.never rfl (kpi_list K rfl (pv 0)) (pg_name (i := 2) sc_law_are.nd rfl (Or.inl rfl)) (pss_one (ps_if (PW.pt (pw_or (pt_not (pt_val (pe_callB (kisinst K rfl) rfl T.b_isinstance bt_isinstance (pa_cons (pv 2) (pa_cons (pe_bltn (v := .ty "list") rfl T.b_list bt_list rfl) pa_nil))))) (pw_or1 (pt_cmpR (kneD K rfl hr.units) (pe_compG rfl (kpi_list K rfl (pv 2)) (BlkOk.of (N' := ["_law_found", "_law_due", "_law_line", "_law_word_here"]) (ms := []) (k := 1) (by rfl)) (fun _ _ _ _ _ => (pg_name (i := 3) (show List.Nodup (["_law_found", "_law_due", "_law_line", "_law_word_here"] : List Str) from by decide +kernel) rfl (Or.inl rfl))) (fun _ _ _ _ _ => (pts_one (pt_not (pt_val (pe_callB (kisinst K rfl) rfl T.b_isinstance bt_isinstance (pa_cons (pv 3) (pa_cons (pe_bltn (v := .ty "str") rfl T.b_str bt_str rfl) pa_nil))))))) (fun _ _ _ _ _ => (pv 3))) (pe_lst pa_nil) (nomark _))))) (pss_one (ps_ret pe_bl)) pss_nil)))
      (pss_one (ps_ret pe_bl)))), ?_⟩
  walk_at "rd"
  refine ⟨_, _, _, _, rfl, .lst hF0, kit_ll, ?_⟩
  refine ⟨_, rfl, ?_⟩
  refine iteF ?_
  walk_at "rd"
  refine ⟨Lns.dLines ls, Lns.dLines ls, .lst hF (Lns.denL_lines hpf lay), .lst hD (Lns.denL_lines hpd lay), Lns.dlines_depth _ _, ?_⟩
  rw [eqv_refl (show nb (Lns.dLines ls) = true from Lns.nb_lines ls)]
  walk_at "rd"
  try refine iteF ?_
  walk_at "rd"
  refine ⟨⟨_, hF⟩, ?_⟩
  refine for_list (a := f) (xs := xs) (fun i σ H2 => ∃ v2 : Option V, σ = [some (.ref f), some (.ref d), v2] ∧ Same H H2) ⟨none, rfl, Same.refl _⟩ (fun i σ H2 _ ⟨_, _, hs⟩ => hs.seq hF) ?_ ?_
  · rintro i y σ H2 hy ⟨v2, rfl, hs⟩
    obtain ⟨w0, hw0, p, rfl, _, hp⟩ := Cs.pd_get hpf hy
    walk_at "rd"
    refine ⟨_, _, _, _, rfl, .lst (hs _ _ hp), kit_ll, ?_⟩
    refine ⟨_, rfl, ?_⟩
    refine iteF ?_
    walk_at "rd"
    refine ⟨⟨_, SqL.of (hs _ _ hp)⟩, fun D hD => ?_⟩
    refine comp_list (a := p) (xs := w0.map V.str) (fun j zs σ H6 => ∃ (v3 : Option V), σ = [some (.ref f), some (.ref d), some (.ref p), v3] ∧ Same H2 H6 ∧ H6 D = some (.lst zs) ∧ zs = [])
      ?_ ?_ ?_ ?_
    · exact ⟨none, rfl, same_new hD _, upd_same, rfl⟩
    · rintro j zs σ H6 hj ⟨_, _, hs6, _⟩
      exact (hs.trans hs6).seq (SqL.of hp)
    · rintro j x zs σ H6 hx hjl ⟨v3, rfl, hs6, hh6, rfl⟩
      rw [List.getElem?_map] at hx
      obtain ⟨y, hy, rfl⟩ := Option.map_eq_some_iff.mp hx
      walk_at "rd"
      refine ⟨_, _, _, _, rfl, .str _, kit_ss, ?_⟩
      refine ⟨_, rfl, ?_⟩
      refine iteF ?_
      exact cskip hjl ⟨_, rfl, hs6, hh6, rfl⟩
    · rintro zs σ H6 ⟨v3, rfl, hs6, hh6, rfl⟩
      walk_at "rd"
      intro p7 hp7
      have hs7 := same_new hp7 (.lst [])
      refine ⟨PyData.list [], PyData.list [], .lst (SqL.of (hs7 _ _ hh6)) .nil, .lst (SqL.of upd_same) .nil, by decide, ?_⟩
      rw [eqv_refl (show nb (PyData.list []) = true from rfl)]
      walk_at "rd"
      try refine iteF ?_
      first | exact ⟨_, rfl, hs.trans (hs6.trans hs7)⟩ | exact hs.trans (hs6.trans hs7)
  · rintro σ H2 ⟨v2, rfl, hs⟩
    walk_at "rd"
    exact q _ hs
end
end Lw
namespace Lw
open PySem L2
set_option maxHeartbeats 4000000
section
variable {P : Program} {w : World} {K : PySem.W.Frag} {mg : Str → Option Value} {base : Heap} {a : Ad}
local macro_rules | `(tactic| walk_at "hk") => `(tactic| first | assumption | exact upd_same | exact same_new (by assumption) _ _ _ (by walk_at "hk"))
local macro_rules | `(tactic| walk_at "rd1") => `(tactic| first | refine ⟨_, rfl, ?_⟩ | refine ⟨_, _, rfl, rfl, ?_⟩ | refine ⟨_, _, _, _, rfl, rfl, SqL.of (by walk_at "hk"), (by assumption), ?_⟩ | refine And.intro rfl ?_ | refine And.intro (Nat.le_of_ble_eq_true rfl) ?_ | refine And.intro (by first | decide | omega) ?_ | refine And.intro ⟨by first | decide | omega, by first | decide | omega⟩ ?_ | refine And.intro (.inl ⟨by first | decide | omega, by first | decide | omega⟩) ?_ | refine And.intro (.inr ⟨by first | decide | omega, by first | decide | omega⟩) ?_ | refine ⟨_, _, rfl, SqT.of (by first | exact upd_same | assumption), rfl, ?_⟩)
local macro_rules | `(tactic| walk_at "rd") => `(tactic| repeat (walk_at "rd1"))
local macro_rules | `(tactic| walk_at "tg") => `(tactic| refine ⟨_, _, rfl, ?_⟩)
theorem settable {rs : List Cs.Row} (hsg : ∀ r ∈ rs, ∃ c ∈ Cs.signs, r.s = sg c) {m : Nat} {x : Str} (h : WordOk rs m x) : Lns.Settable rs x := by
  refine ⟨h.1, fun c hc => ⟨?_, h.2.2 c hc⟩⟩
  obtain ⟨k, hk⟩ := Option.isSome_iff_exists.mp (h.2.2 c hc)
  obtain ⟨r, hr, e⟩ := Cs.place_row hk
  obtain ⟨d, hd, e2⟩ := hsg r (List.mem_of_getElem? hr)
  have e3 : c = d := sg_inj (e.symm.trans e2)
  have lt : ∀ d ∈ Cs.signs, Lns.isS d = true := by decide +kernel
  exact e3 ▸ lt d hd
def sp_law (K : PySem.W.Frag) : Sp := fun vs H Q _ => ∃ (a : Addr) (ns : List Int), vs = [.ref a] ∧ SqL K H a (ns.map V.int) ∧ ns.length ≤ 63 ∧ ∀ H', Q (.bl true) H'
theorem ok_law (T : Tx K mg a) : FnOk P w K mg base CX0 lawLevel a.f_law a.d_law ["_law_script"] (sp_law K) := by
  have G_law_case := ok_law_case (P := P) (w := w) (base := base) T
  have G_law_words := ok_law_words (P := P) (w := w) (base := base) T
  have G_law_mixed := ok_law_mixed (P := P) (w := w) (base := base) T
  have G_lines_of := ok_lines_of (P := P) (w := w) (base := base) T
  have G_law_are := ok_law_are (P := P) (w := w) (base := base) T
  have G_keys_of := ok_keys_of (P := P) (w := w) (base := base) T
  refine T.law.fn.ok sc_law (fun vs H Q E h => ?_) (fun cdv A outer s H vs Q E hr h => ?_)
  · obtain ⟨l, ns, rfl, _⟩ := h
    rfl
  obtain ⟨l, ns, rfl, hS, hl, q⟩ := h
  refine ⟨_, (pss_cons (ps_set (i := 1) sc_law.nd rfl (Or.inl rfl) (pcall T.law_case G_law_case hr rfl (pa_cons (pv 0) pa_nil)))
      (pss_cons (ps_set (i := 2) sc_law.nd rfl (Or.inl rfl) (pe_callTy (klist_of K rfl) rfl T.b_list bt_list (pa_cons (pv 1) pa_nil)))
      (pss_cons (ps_set (i := 3) sc_law.nd rfl (Or.inl rfl) (pe_lst pa_nil))
      (pss_cons (ps_set (i := 4) sc_law.nd rfl (Or.inl rfl) pe_str)
      (pss_cons (ps_for PassesOwn.never rfl (pi_range3 rfl T.b_range (pa_cons pe_int (pa_cons (pe_callB (call_min2 rfl) rfl T.b_min bt_min (pa_cons (pe_callB (klen_seq K rfl) rfl T.b_len bt_len (pa_cons (pv 0) pa_nil)) (pa_cons pe_int pa_nil))) (pa_cons pe_int pa_nil)))) (pg_name (i := 5) sc_law.nd rfl (Or.inl rfl)) (pss_cons (ps_set (i := 6) sc_law.nd rfl (Or.inl rfl) (pcall T.law_words G_law_words hr rfl (pa_cons (pv 1) (pa_cons (pe_slice (ksl_list K rfl) (pv 0) (po_some (pv 5)) (po_some (pe_op op_add (pe_op op_add (pv 5) pe_int) (pe_op op_mod (pe_op op_fdiv (pcall T.law_mixed G_law_mixed hr rfl (pa_cons (pe_ix (kix_list K rfl) (pv 0) (pv 5) (fun _ _ => rfl)) (pa_cons (pv 5) pa_nil))) pe_int) pe_int)))) (pa_cons (pv 5) (pa_cons pe_int pa_nil))))))
      (pss_cons (ps_expr (kpe_bm K rfl PySem.F.plainAttrs_list PySem.F.slot_list_append PySem.F.type_list_append mt_append (pv 3) (pa_cons (pv 6) pa_nil)))
      (pss_one (ps_set (i := 4) sc_law.nd rfl (Or.inl rfl) (pe_op op_add_str (pe_op op_add_str (pv 4) (kpe_bm K rfl PySem.F.plainAttrs_str PySem.F.slot_str_join PySem.F.type_str_join (kmt_join K rfl) pe_str (pa_cons (pv 6) pa_nil))) pe_str))))))
      (pss_cons (ps_cut (ps_if (pt_cmpR op_eq (pe_op op_mod (pe_callB (klen_seq K rfl) rfl T.b_len bt_len (pa_cons (pv 0) pa_nil)) pe_int) pe_int (nomark _)) (pss_cons (ps_set (i := 3) sc_law.nd rfl (Or.inl rfl) (pe_op op_cat (pv 3) (pv 3)))
      (pss_one (ps_set (i := 4) sc_law.nd rfl (Or.inl rfl) (pe_op op_add_str (pv 4) (pv 4))))) pss_nil))
      (pss_cons (ps_set (i := 7) sc_law.nd rfl (Or.inl rfl) (pcall T.lines_of G_lines_of hr rfl (pa_cons (pv 1) (pa_cons (pv 4) pa_nil))))
      (pss_cons (ps_if (PW.pt (pw_or (pt_not (pt_val (pcall T.law_are G_law_are hr rfl (pa_cons (pv 7) (pa_cons (pv 3) pa_nil))))) (pw_or1 (pt_cmpR op_ne (pcall T.keys_of G_keys_of hr rfl (pa_cons (pv 7) pa_nil)) (pv 4) (nomark _))))) (pss_one (ps_ret pe_bl)) pss_nil)
      (pss_cons (ps_for PassesOwn.never rfl (kpi_list K rfl (pe_slice (ksl_list K rfl) (pv 7) po_none (po_some pe_int))) (pg_name (i := 6) sc_law.nd rfl (Or.inl rfl)) (pss_one (ps_expr (kpe_bm K rfl PySem.F.plainAttrs_list PySem.F.slot_list_append PySem.F.type_list_append mt_append (pv 6) (pa_cons pe_str pa_nil)))))
      (pss_cons (ps_if (pt_cmpR (kneD K rfl hr.units) (pe_slice (ksl_list K rfl) (pv 7) (po_some pe_int) po_none) (pe_slice (ksl_list K rfl) (pv 3) (po_some pe_int) po_none) (nomark _)) (pss_one (ps_ret pe_bl)) pss_nil)
      (pss_cons (ps_for PassesOwn.never rfl (kpi_list K rfl (pv 7)) (pg_name (i := 6) sc_law.nd rfl (Or.inl rfl)) (pss_one (ps_expr (kpe_bm K rfl PySem.F.plainAttrs_list PySem.F.slot_list_append PySem.F.type_list_append mt_append (pv 6) (pa_cons pe_str pa_nil)))))
      (pss_cons (ps_expr (kpe_bm K rfl PySem.F.plainAttrs_list PySem.F.slot_list_append PySem.F.type_list_append mt_append (pv 7) (pa_cons (pe_lst pa_nil) pa_nil)))
      (pss_one (ps_ret (pe_and (pcall T.law_are G_law_are hr rfl (pa_cons (pcall T.lines_of G_lines_of hr rfl (pa_cons (pv 1) (pa_cons (pv 4) pa_nil))) (pa_cons (pv 3) pa_nil))) (pe_and (pe_cmpR (keqD K rfl hr.units) (pcall T.lines_of G_lines_of hr rfl (pa_cons (pv 1) (pa_cons pe_str pa_nil))) (pe_lst pa_nil) (nomark _)) (pe_one (pe_cmpR (keqD K rfl hr.units) (pv 1) (pv 2) (nomark _))))))))))))))))))), ?_⟩
  walk_at "rd"
  refine ⟨l, ns, rfl, hS, fun c xs rs H1 hc0 hs1 hc1 hpd hr1 hr2 hsg hnd hwd => ?_⟩
  have hrne : rs ≠ [] := fun z => by rw [z] at hr1; exact absurd hr1 (by decide)
  have hxl := Cs.rows_len hpd
  walk_at "rd"
  refine ⟨_, _, rfl, .inl (SqL.of hc1), fun kp hkp => ?_⟩
  have hs1b := same_new hkp (.lst xs)
  have hk1 : upd H1 kp (.lst xs) kp = some (.lst xs) := upd_same
  generalize upd H1 kp (.lst xs) = H1b at hs1b hk1 ⊢
  walk_at "rd"
  intro ll hll
  have hs2 := same_new hll (.lst [])
  have h2l : upd H1b ll (.lst []) ll = some (.lst []) := upd_same
  generalize upd H1b ll (.lst []) = H2 at hs2 h2l ⊢
  walk_at "rd"
  refine ⟨l, _, rfl, .inl (((hs1.trans hs1b).trans hs2).seq hS), ?_⟩
  rw [List.length_map]
  walk_at "rd"
  refine ⟨_, _, rfl, ?_⟩
  have hmm : (if (62 : Int) < (ns.length : Int) then (62 : Int) else (ns.length : Int)) ≤ ns.length ∧ 0 ≤ (if (62 : Int) < (ns.length : Int) then (62 : Int) else (ns.length : Int)) ∧ (if (62 : Int) < (ns.length : Int) then (62 : Int) else (ns.length : Int)) ≤ 62 := by split <;> omega
  walk_at "rd"
  refine ⟨_, _, _, rfl, ⟨by omega, by omega, by omega, by omega⟩, ⟨by decide, by decide, by decide⟩, ?_⟩
  have hsz : size3 2 (if (62 : Int) < (ns.length : Int) then (62 : Int) else (ns.length : Int)) 6 ≤ 10 := by
    unfold size3 Builtin.Range.rangeSize
    rw [if_pos (by decide)]
    generalize (if (62 : Int) < (ns.length : Int) then (62 : Int) else (ns.length : Int)) = mm at hmm ⊢
    split <;> omega
  refine for_range3 (lo := 2) (st := 6) (n := size3 2 (if (62 : Int) < (ns.length : Int) then (62 : Int) else (ns.length : Int)) 6) (fun i σ H5 => ∃ (ys : List V) (ls : List (List Str)) (v4 v5 : Option V), σ = [some (.ref l), some (.ref c), some (.ref kp), some (.ref ll), some (.str (Lns.keyT ls)), v4, v5, none] ∧ Same H1b H5 ∧ H5 ll = some (.lst ys) ∧ Paired (Lns.LineN ll H5) ys ls ∧ ls.length = i ∧ ∀ x ∈ ls, LineOk rs x)
    ⟨[], [], none, none, rfl, hs2, h2l, .nil, rfl, fun x h => nomatch h⟩ ?_ ?_
  · rintro i σ H5 hi ⟨ys, ls, v4, v5, rfl, hs5, hl5, hp5, hi5, hok5⟩
    have hlt := size6 hi
    have hi10 : i < 10 := by omega
    have hS5 := ((hs1.trans hs1b).trans hs5).seq hS
    obtain ⟨zk, hzkm, ezk⟩ := ints_mem (zs := ns) (i := 2 + (i : Int) * 6) (by omega) (by omega)
    walk_at "rd"
    refine ⟨l, _, _, _, rfl, rfl, hS5, ezk, ?_⟩
    walk_at "rd"
    refine ⟨_, _, rfl, by omega, by omega, fun zz hzz0 hzz1 => ?_⟩
    walk_at "rd"
    have hmo : 0 ≤ zz / 6 % 6 ∧ zz / 6 % 6 < 6 := by omega
    obtain ⟨ms, ecut, hms1, hms6⟩ := cut_line (ns := ns) (a := 2 + (i : Int) * 6) (m := zz / 6 % 6) (by omega) (by omega) hmo
    refine ⟨l, _, rfl, hS5, fun p6 hp6 => ?_⟩
    rw [ecut]
    have hs6 := same_new hp6 (.lst (ms.map V.int))
    have h66 : upd H5 p6 (.lst (ms.map V.int)) p6 = some (.lst (ms.map V.int)) := upd_same
    generalize upd H5 p6 (.lst (ms.map V.int)) = H6 at hs6 h66 ⊢
    have hs16 := hs5.trans hs6
    walk_at "rd"
    refine ⟨c, p6, _, 6, rs, ms, rfl, ⟨xs, SqL.of ((hs1b.trans hs16) _ _ hc1), Cs.rows_same hpd (hs1b.trans hs16)⟩, hrne, by omega, hsg, SqL.of h66, by omega, by omega, by omega, by decide, by decide, fun pl us H7 hpl0 hs7 hpl hul huk => ?_⟩
    have hs57 := hs6.trans hs7
    have hs17 := hs16.trans hs7
    have hl7 := hs57 _ _ hl5
    have hp7 := Lns.lines_same hp5 hs57
    have hll7 : pl ≠ ll := fun e => by
      have h6l := hs6 _ _ hl5
      rw [← e, hpl0] at h6l
      cases h6l
    have hysl := Lns.lines_len hp5
    have hune : us ≠ [] := fun z => by rw [z] at hul; have hul : 0 = ms.length := hul; omega
    have hlok : LineOk rs us := ⟨hune, by omega, huk⟩
    obtain ⟨ini, last, rfl⟩ : ∃ ini last, us = ini ++ [last] := ⟨us.dropLast, us.getLast hune, (List.dropLast_concat_getLast hune).symm⟩
    walk_at "rd"
    refine ⟨.inl ⟨rfl, _, SqL.of hl7⟩, ?_⟩
    walk_at "rd"
    refine ⟨ll, _, _, rfl, rfl, hl7, smallLt (by omega), ?_⟩
    have hs18 : Same H1b (upd H7 ll (.lst (ys ++ [.ref pl]))) := same_upd hs17 hll
    have h8l : upd H7 ll (.lst (ys ++ [.ref pl])) ll = some (.lst (ys ++ [.ref pl])) := upd_same
    have h8p : upd H7 ll (.lst (ys ++ [.ref pl])) pl = some (.lst ((ini ++ [last]).map V.str)) := by rw [upd_ne hll7]; exact hpl
    have hp8 : Paired (Lns.LineN ll (upd H7 ll (.lst (ys ++ [.ref pl])))) (ys ++ [.ref pl]) (ls ++ [ini ++ [last]]) := Paired.snoc (Lns.lines_upd hp7) ⟨pl, rfl, hll7, h8p⟩
    generalize upd H7 ll (.lst (ys ++ [.ref pl])) = H8 at hs18 h8l h8p hp8 ⊢
    walk_at "rd"
    have hkl := key_len hok5
    have hlen := line_len hlok
    refine ⟨_, pl, ini ++ [last], rfl, rfl, SqL.of h8p, Lns.line_small (by omega) (fun x hx => Nat.le_trans (huk x hx).2.1 (by decide)), ?_⟩
    walk_at "rd"
    have hlen2 : (Txt.join (Str.ofString " ") (ini ++ [last])).length ≤ 42 := hlen
    refine ⟨smallL (by omega), ?_⟩
    walk_at "rd"
    refine ⟨smallL ?_, ?_⟩
    · rw [Str.length_append]
      have e : (Str.ofString "/").length = 1 := by decide
      omega
    refine ⟨ys ++ [.ref pl], ls ++ [ini ++ [last]], some (.int (2 + (i : Int) * 6)), some (.ref pl), ?_, hs18, h8l, hp8, by rw [List.length_append, hi5]; rfl, fun x hx => ?_⟩
    · rw [Lns.key_app, Lns.key_one]
      have e : Lns.keyT ls ++ (Lns.lineT (ini ++ [last]) ++ "/") = Lns.keyT ls ++ Lns.lineT (ini ++ [last]) ++ "/" := by simp only [Str.append_assoc]
      rw [e]
      rfl
    · rcases List.mem_append.mp hx with h | h
      · exact hok5 x h
      · rw [List.mem_singleton.mp h]
        exact hlok
  · rintro σ H5 ⟨ys, ls, v4, v5, rfl, hs5, hl5, hp5, hi5, hok5⟩
    have hkl := key_len hok5
    have hysl := Lns.lines_len hp5
    have hk5 := hs5 _ _ hk1
    have hS5 := ((hs1.trans hs1b).trans hs5).seq hS
    walk_at "rd"
    refine ⟨fun σ H6 => ∃ (l2 no : Addr) (ys : List V) (ls : List (List Str)) (v4 v5 : Option V), σ = [some (.ref l), some (.ref c), some (.ref kp), some (.ref l2), some (.str (Lns.keyT ls)), v4, v5, none] ∧ Same H1b H6 ∧ H6 l2 = some (.lst ys) ∧ Paired (Lns.LineN no H6) ys ls ∧ ls.length ≤ 20 ∧ ∀ x ∈ ls, LineOk rs x, ?_, ?_⟩
    · walk_at "rd"
      refine ⟨l, _, rfl, .inl hS5, ?_⟩
      rw [List.length_map]
      walk_at "rd"
      refine ite2 (fun _ => ?_) (fun _ => ?_)
      · walk_at "rd"
        refine ⟨ll, ll, ys, ys, rfl, rfl, hl5, hl5, smallL (by omega), fun p6 hp6 => ?_⟩
        walk_at "rd"
        refine ⟨smallL (by omega), ?_⟩
        refine ⟨p6, ll, ys ++ ys, ls ++ ls, v4, v5, by rw [Lns.key_app]; rfl, same_add hs5 hp6, upd_same, Lns.pd_app (Lns.lines_same hp5 (same_new hp6 _)) (Lns.lines_same hp5 (same_new hp6 _)), by rw [List.length_append]; omega, fun x hx => (List.mem_append.mp hx).elim (hok5 x) (hok5 x)⟩
      · exact ⟨ll, ll, ys, ls, v4, v5, rfl, hs5, hl5, hp5, by omega, hok5⟩
    · rintro σ H6 ⟨l2, no, ys, ls, v4, v5, rfl, hs6, hl6, hp6, hi6, hok6⟩
      have hs16 := hs1b.trans hs6
      have hset : ∀ x ∈ ls, x ≠ [] ∧ ∀ y ∈ x, Lns.Settable rs y := fun x hx => ⟨(hok6 x hx).1, fun y hy => settable hsg ((hok6 x hx).2.2 y hy)⟩
      have hkl := key_len hok6
      have hC6 : Cs.CaseAt K H6 c rs := ⟨xs, SqL.of (hs16 _ _ hc1), Cs.rows_same hpd hs16⟩
      have lay : ∀ x ∈ ls, ∀ y ∈ x, PyData.canLay0 (.str y) = true := fun x hx y hy => word_lay hsg ((hok6 x hx).2.2 y hy)
      walk_at "rd"
      refine ⟨c, rs, ls, rfl, hC6, by omega, fun x hx => Nat.le_trans (line_len (hok6 x hx)) (by decide), by omega, hset, fun D zs H8 hD hs8 hh8 hz8 hnd => ?_⟩
      walk_at "rd"
      refine ⟨D, l2, D, no, zs, ys, ls, rfl, hh8, Lns.LineF.n hz8, SqL.of (hs8 _ _ hl6), Lns.lines_same hp6 hs8, lay, fun H9 hs9 => ?_⟩
      have hfit : Lns.Fit ls := lines_fit hok6 (by omega)
      have hh9 := hs9 _ _ hh8
      have hz9 := Lns.linesF_same hz8 hs9
      have hzl := Lns.linesF_len hz8
      refine ⟨_, rfl, ?_⟩
      refine iteF ?_
      walk_at "rd"
      refine ⟨D, D, zs, ls, rfl, SqL.of hh9, Lns.LineF.n hz9, hfit, fun H10 hs10 => ?_⟩
      walk_at "rd"
      have e1 : (!decide (V.str (Lns.keyT ls) = V.str (Lns.keyT ls))) = false := by rw [decide_eq_true rfl]; rfl
      rw [e1]
      have hs610 := hs8.trans (hs9.trans hs10)
      have hh10 := hs10 _ _ hh9
      have hz10 := Lns.linesF_same hz9 hs10
      have hall10 : ∀ v ∈ zs, Lns.ListF H6 D 100 H10 v := Lns.listF_of hz10 fun x hx => by
        have := (hok6 x hx).2.1
        omega
      try refine iteF ?_
      walk_at "rd"
      refine ⟨D, _, rfl, SqL.of hh10, fun p11 hp11 => ?_⟩
      rw [show cutV zs none (some 1) = zs.take 1 from cutv_take rfl]
      have hs11 := same_new hp11 (.lst (zs.take 1))
      have h1111 : upd H10 p11 (.lst (zs.take 1)) p11 = some (.lst (zs.take 1)) := upd_same
      have hpne : ∀ v ∈ zs, v ≠ .ref p11 := fun v hv e => Lns.linesF_new hz10 hp11 (e ▸ hv)
      generalize upd H10 p11 (.lst (zs.take 1)) = H11 at hs11 h1111 ⊢
      have hs611 := hs610.trans hs11
      refine ⟨p11, rfl, ⟨_, SqL.of h1111⟩, ?_⟩
      refine for_list (a := p11) (xs := zs.take 1) (fun i σ H12 => ∃ v6 : Option V, σ = [some (.ref l), some (.ref c), some (.ref kp), some (.ref l2), some (.str (Lns.keyT ls)), v4, v6, some (.ref D)] ∧ Same H6 H12 ∧ H12 D = some (.lst zs) ∧ H12 p11 = some (.lst (zs.take 1)) ∧ Paired (Lns.LineF H6 D H12) (zs.drop 1) (ls.drop 1) ∧ ∀ v ∈ zs, Lns.ListF H6 D (100 + i) H12 v)
        ⟨_, rfl, hs611, hs11 _ _ hh10, h1111, Lns.pd_drop 1 (Lns.linesF_same hz10 hs11), fun v hv => (hall10 v hv).same hs11⟩ (fun i σ H12 _ ⟨_, _, _, _, h, _⟩ => SqL.of h) ?_ ?_
      · rintro i x σ H12 hx ⟨v6, rfl, hs12, hD12, hp12, hz12, hall12⟩
        have hxm : x ∈ zs := List.mem_of_mem_take (List.mem_of_getElem? hx)
        obtain ⟨p, us, rfl, hpD, hp6', hpu, hul⟩ := hall12 x hxm
        have hi0 : i = 0 := by
          have h := (List.getElem?_eq_some_iff.mp hx).1
          rw [List.length_take] at h
          omega
        subst hi0
        have hnot : V.ref p ∉ zs.drop 1 := by
          have h0 : zs[0]? = some (.ref p) := by
            have h := hx
            rw [List.getElem?_take] at h
            simpa using h
          cases zs with
          | nil => simp at h0
          | cons z r =>
            have h0 : z = .ref p := by simpa using h0
            rw [← h0]
            exact (List.nodup_cons.mp hnd).1
        walk_at "rd"
        refine ⟨.inl ⟨rfl, _, SqL.of hpu⟩, ?_⟩
        walk_at "rd"
        refine ⟨p, _, _, rfl, rfl, hpu, smallLt (by omega), ?_⟩
        refine ⟨_, rfl, same_upd hs12 hp6', by rw [upd_ne hpD.symm]; exact hD12, by rw [upd_ne (fun e => hpne _ hxm (by rw [e]))]; exact hp12, Lns.linesF_push hz12 hnot, fun v hv => Lns.listF_push hpu hul (hall12 v hv)⟩
      · rintro σ H12 ⟨v6, rfl, hs12, hD12, hp12, hz12, hall12⟩
        have hl12 := hs12 _ _ hl6
        have hp12' := Lns.lines_same hp6 hs12
        have hall12 : ∀ v ∈ zs, Lns.ListF H6 D 101 H12 v := fun v hv => by
          obtain ⟨p, us, e, n, f, z, b⟩ := hall12 v hv
          rw [List.length_take] at b
          exact ⟨p, us, e, n, f, z, by omega⟩
        walk_at "rd"
        refine ⟨D, _, rfl, SqL.of hD12, fun p13 hp13 => ?_⟩
        rw [cutv_from1]
        have hs13 := same_new hp13 (.lst (zs.drop 1))
        have h13 : upd H12 p13 (.lst (zs.drop 1)) p13 = some (.lst (zs.drop 1)) := upd_same
        generalize upd H12 p13 (.lst (zs.drop 1)) = H13 at hs13 h13 ⊢
        walk_at "rd"
        refine ⟨l2, _, rfl, SqL.of (hs13 _ _ hl12), fun p14 hp14 => ?_⟩
        rw [cutv_from1]
        have hs14 := same_new hp14 (.lst (ys.drop 1))
        have h14 : upd H13 p14 (.lst (ys.drop 1)) p14 = some (.lst (ys.drop 1)) := upd_same
        generalize upd H13 p14 (.lst (ys.drop 1)) = H14 at hs14 h14 ⊢
        have hs1214 := hs13.trans hs14
        have lay1 : ∀ x ∈ ls.drop 1, ∀ y ∈ x, PyData.canLay0 (.str y) = true := fun x hx => lay x (List.mem_of_mem_drop hx)
        refine ⟨Lns.dLines (ls.drop 1), Lns.dLines (ls.drop 1), .lst (SqL.of (hs14 _ _ h13)) (Lns.denL_lines (Lns.LineF.n (Lns.linesF_same hz12 hs1214)) lay1), .lst (SqL.of h14) (Lns.denL_lines (Lns.pd_drop 1 (Lns.lines_same hp12' hs1214)) lay1), Lns.dlines_depth _ _, ?_⟩
        rw [eqv_refl (show nb (Lns.dLines (ls.drop 1)) = true from Lns.nb_lines _)]
        walk_at "rd"
        try refine iteF ?_
        walk_at "rd"
        have hs614 := hs12.trans hs1214
        have hD14 := hs1214 _ _ hD12
        refine ⟨⟨_, SqL.of hD14⟩, ?_⟩
        refine for_list (a := D) (xs := zs) (fun i σ H15 => ∃ v6 : Option V, σ = [some (.ref l), some (.ref c), some (.ref kp), some (.ref l2), some (.str (Lns.keyT ls)), v4, v6, some (.ref D)] ∧ Same H6 H15 ∧ H15 D = some (.lst zs) ∧ ∀ v ∈ zs, Lns.ListF H6 D (101 + i) H15 v)
          ⟨_, rfl, hs614, hD14, fun v hv => (hall12 v hv).same hs1214⟩ (fun i σ H15 _ ⟨_, _, _, h, _⟩ => SqL.of h) ?_ ?_
        · rintro i x σ H15 hx ⟨v6', rfl, hs15, hD15, hall15⟩
          have hxm : x ∈ zs := List.mem_of_getElem? hx
          have hi := (List.getElem?_eq_some_iff.mp hx).1
          obtain ⟨p, us, rfl, hpD, hp6', hpu, hul⟩ := hall15 x hxm
          walk_at "rd"
          refine ⟨.inl ⟨rfl, _, SqL.of hpu⟩, ?_⟩
          walk_at "rd"
          refine ⟨p, _, _, rfl, rfl, hpu, smallLt (by omega), ?_⟩
          exact ⟨_, rfl, same_upd hs15 hp6', by rw [upd_ne hpD.symm]; exact hD15, fun v hv => Lns.listF_push hpu hul (hall15 v hv)⟩
        · rintro σ H15 ⟨v6', rfl, hs15, hD15, hall15⟩
          walk_at "rd"
          refine ⟨.inl ⟨rfl, _, SqL.of hD15⟩, ?_⟩
          walk_at "rd"
          intro p16 hp16
          have hs16' := same_new hp16 (.lst [])
          have hD16 := hs16' _ _ hD15
          generalize upd H15 p16 (.lst []) = H16 at hs16' hD16 ⊢
          walk_at "rd"
          refine ⟨D, _, _, rfl, rfl, hD16, smallLt (by omega), ?_⟩
          have hs617 : Same H6 (upd H16 D (.lst (zs ++ [.ref p16]))) := same_upd (hs15.trans hs16') hD
          generalize upd H16 D (.lst (zs ++ [.ref p16])) = H17 at hs617 ⊢
          walk_at "rd"
          refine ⟨c, rs, ls, rfl, hC6.same hs617, by omega, fun x hx => Nat.le_trans (line_len (hok6 x hx)) (by decide), by omega, hset, fun D2 zs2 H18 hD2 hs18 hh18 hz18 hnd2 => ?_⟩
          have hs618 := hs617.trans hs18
          walk_at "rd"
          refine ⟨D2, l2, D2, no, zs2, ys, ls, rfl, hh18, Lns.LineF.n hz18, SqL.of (hs618 _ _ hl6), Lns.lines_same hp6 hs618, lay, fun H19 hs19 => ?_⟩
          have hs619 := hs618.trans hs19
          walk_at "rd"
          try refine iteT ?_
          walk_at "rd"
          refine ⟨c, rs, [], rfl, hC6.same hs619, by decide, (fun x hx => nomatch hx), by decide, (fun x hx => nomatch hx), fun D3 zs3 H20 hD3 hs20 hh20 hz20 hnd3 => ?_⟩
          have hs620 := hs619.trans hs20
          obtain rfl : zs3 = [] := by cases hz20; rfl
          walk_at "rd"
          intro p21 hp21
          have hs21 := same_new hp21 (.lst [])
          have hs621 := hs620.trans hs21
          have hs121 := hs16.trans hs621
          refine ⟨PyData.list [], PyData.list [], .lst (SqL.of (hs21 _ _ hh20)) .nil, .lst (SqL.of upd_same) .nil, by decide, ?_⟩
          rw [eqv_refl (show nb (PyData.list []) = true from rfl)]
          walk_at "rd"
          try refine iteT ?_
          walk_at "rd"
          have layR : ∀ r ∈ rs, PyData.canLay0 (.str r.s) = true := fun r hr => by
            obtain ⟨d, hd, e⟩ := hsg r hr
            rw [e]
            exact Cs.signs_lay d hd
          refine ⟨Cs.dRows rs, Cs.dRows rs, .lst (SqL.of (hs121 _ _ hc1)) (Cs.denL_rows (Cs.rows_same hpd hs121) layR), .lst (SqL.of ((hs6.trans hs621) _ _ hk1)) (Cs.denL_rows (Cs.rows_same hpd hs121) layR), Cs.drows_depth _ _, ?_⟩
          rw [eqv_refl (show nb (Cs.dRows rs) = true from Cs.nb_rows rs)]
          exact q _
end
end Lw
namespace Lw
open PySem L2
set_option maxHeartbeats 4000000
section
variable {P : Program} {w : World} {K : PySem.W.Frag} {mg : Str → Option Value} {base : Heap} {a : Ad}
local macro_rules | `(tactic| walk_at "hk") => `(tactic| first | assumption | exact upd_same | exact same_new (by assumption) _ _ _ (by walk_at "hk"))
local macro_rules | `(tactic| walk_at "rd1") => `(tactic| first | refine ⟨_, rfl, ?_⟩ | refine ⟨_, _, rfl, rfl, ?_⟩ | refine ⟨_, _, _, _, rfl, rfl, SqL.of (by walk_at "hk"), (by assumption), ?_⟩ | refine And.intro rfl ?_ | refine And.intro (Nat.le_of_ble_eq_true rfl) ?_ | refine And.intro (by first | decide | omega) ?_ | refine And.intro ⟨by first | decide | omega, by first | decide | omega⟩ ?_ | refine And.intro (.inl ⟨by first | decide | omega, by first | decide | omega⟩) ?_ | refine And.intro (.inr ⟨by first | decide | omega, by first | decide | omega⟩) ?_ | refine ⟨_, _, rfl, SqT.of (by first | exact upd_same | assumption), rfl, ?_⟩)
local macro_rules | `(tactic| walk_at "rd") => `(tactic| repeat (walk_at "rd1"))
local macro_rules | `(tactic| walk_at "tg") => `(tactic| refine ⟨_, _, rfl, ?_⟩)
theorem txt_mk {K : PySem.W.Frag} {h : Heap} {mg : Str → Option Value} (X : K.In h) (G : h.Ns mainGlobals mg)
    {f0 : Addr} {od0 an0 : Option Addr} {sl0 : Array (Option Value)} {oc0 kV0 dc0 pm0 cd0 ct0 : Value} {f1 : Addr} {od1 an1 : Option Addr} {sl1 : Array (Option Value)} {oc1 kV1 dc1 pm1 cd1 ct1 : Value} {f2 : Addr} {od2 an2 : Option Addr} {sl2 : Array (Option Value)} {oc2 kV2 dc2 pm2 cd2 ct2 : Value} {f3 : Addr} {od3 an3 : Option Addr} {sl3 : Array (Option Value)} {oc3 kV3 dc3 pm3 cd3 ct3 : Value} {f4 : Addr} {od4 an4 : Option Addr} {sl4 : Array (Option Value)} {oc4 kV4 dc4 pm4 cd4 ct4 : Value} {f5 : Addr} {od5 an5 : Option Addr} {sl5 : Array (Option Value)} {oc5 kV5 dc5 pm5 cd5 ct5 : Value} {f6 : Addr} {od6 an6 : Option Addr} {sl6 : Array (Option Value)} {oc6 kV6 dc6 pm6 cd6 ct6 : Value} {f7 : Addr} {od7 an7 : Option Addr} {sl7 : Array (Option Value)} {oc7 kV7 dc7 pm7 cd7 ct7 : Value} {f8 : Addr} {od8 an8 : Option Addr} {sl8 : Array (Option Value)} {oc8 kV8 dc8 pm8 cd8 ct8 : Value} {f9 : Addr} {od9 an9 : Option Addr} {sl9 : Array (Option Value)} {oc9 kV9 dc9 pm9 cd9 ct9 : Value} {f10 : Addr} {od10 an10 : Option Addr} {sl10 : Array (Option Value)} {oc10 kV10 dc10 pm10 cd10 ct10 : Value} {f11 : Addr} {od11 an11 : Option Addr} {sl11 : Array (Option Value)} {oc11 kV11 dc11 pm11 cd11 ct11 : Value} {f12 : Addr} {od12 an12 : Option Addr} {sl12 : Array (Option Value)} {oc12 kV12 dc12 pm12 cd12 ct12 : Value}
    (a0 : PySem.W.nsIn K mainGlobals "channel_of" = some (some (.ref f0))) (l0 : K.lookup f0 = some ⟨oc0, od0, .func (PySem.W.fnOf "channel_of" "channel_of" (defArgs s_channel_of) (defBody s_channel_of) (defScope s_channel_of) .none kV0 dc0 pm0 an0 cd0 ct0), sl0⟩) (c0 : PySem.W.codeIn K cd0 "channel_of" = true) (k0 : PySem.W.keepIn K (.ref f0) = true)
    (a1 : PySem.W.nsIn K mainGlobals "keys_of" = some (some (.ref f1))) (l1 : K.lookup f1 = some ⟨oc1, od1, .func (PySem.W.fnOf "keys_of" "keys_of" (defArgs s_keys_of) (defBody s_keys_of) (defScope s_keys_of) .none kV1 dc1 pm1 an1 cd1 ct1), sl1⟩) (c1 : PySem.W.codeIn K cd1 "keys_of" = true) (k1 : PySem.W.keepIn K (.ref f1) = true)
    (a2 : PySem.W.nsIn K mainGlobals "is_sign_key" = some (some (.ref f2))) (l2 : K.lookup f2 = some ⟨oc2, od2, .func (PySem.W.fnOf "is_sign_key" "is_sign_key" (defArgs s_is_sign_key) (defBody s_is_sign_key) (defScope s_is_sign_key) .none kV2 dc2 pm2 an2 cd2 ct2), sl2⟩) (c2 : PySem.W.codeIn K cd2 "is_sign_key" = true) (k2 : PySem.W.keepIn K (.ref f2) = true)
    (a3 : PySem.W.nsIn K mainGlobals "goes_on" = some (some (.ref f3))) (l3 : K.lookup f3 = some ⟨oc3, od3, .func (PySem.W.fnOf "goes_on" "goes_on" (defArgs s_goes_on) (defBody s_goes_on) (defScope s_goes_on) .none kV3 dc3 pm3 an3 cd3 ct3), sl3⟩) (c3 : PySem.W.codeIn K cd3 "goes_on" = true) (k3 : PySem.W.keepIn K (.ref f3) = true)
    (a4 : PySem.W.nsIn K mainGlobals "look_at_keys" = some (some (.ref f4))) (l4 : K.lookup f4 = some ⟨oc4, od4, .func (PySem.W.fnOf "look_at_keys" "look_at_keys" (defArgs s_look_at_keys) (defBody s_look_at_keys) (defScope s_look_at_keys) .none kV4 dc4 pm4 an4 cd4 ct4), sl4⟩) (c4 : PySem.W.codeIn K cd4 "look_at_keys" = true) (k4 : PySem.W.keepIn K (.ref f4) = true)
    (a5 : PySem.W.nsIn K mainGlobals "lines_of" = some (some (.ref f5))) (l5 : K.lookup f5 = some ⟨oc5, od5, .func (PySem.W.fnOf "lines_of" "lines_of" (defArgs s_lines_of) (defBody s_lines_of) (defScope s_lines_of) .none kV5 dc5 pm5 an5 cd5 ct5), sl5⟩) (c5 : PySem.W.codeIn K cd5 "lines_of" = true) (k5 : PySem.W.keepIn K (.ref f5) = true)
    (a6 : PySem.W.nsIn K mainGlobals "_law_cell_at" = some (some (.ref f6))) (l6 : K.lookup f6 = some ⟨oc6, od6, .func (PySem.W.fnOf "_law_cell_at" "_law_cell_at" (defArgs s_law_cell_at) (defBody s_law_cell_at) (defScope s_law_cell_at) .none kV6 dc6 pm6 an6 cd6 ct6), sl6⟩) (c6 : PySem.W.codeIn K cd6 "_law_cell_at" = true) (k6 : PySem.W.keepIn K (.ref f6) = true)
    (a7 : PySem.W.nsIn K mainGlobals "_law_mixed" = some (some (.ref f7))) (l7 : K.lookup f7 = some ⟨oc7, od7, .func (PySem.W.fnOf "_law_mixed" "_law_mixed" (defArgs s_law_mixed) (defBody s_law_mixed) (defScope s_law_mixed) .none kV7 dc7 pm7 an7 cd7 ct7), sl7⟩) (c7 : PySem.W.codeIn K cd7 "_law_mixed" = true) (k7 : PySem.W.keepIn K (.ref f7) = true)
    (a8 : PySem.W.nsIn K mainGlobals "_law_case" = some (some (.ref f8))) (l8 : K.lookup f8 = some ⟨oc8, od8, .func (PySem.W.fnOf "_law_case" "_law_case" (defArgs s_law_case) (defBody s_law_case) (defScope s_law_case) .none kV8 dc8 pm8 an8 cd8 ct8), sl8⟩) (c8 : PySem.W.codeIn K cd8 "_law_case" = true) (k8 : PySem.W.keepIn K (.ref f8) = true)
    (a9 : PySem.W.nsIn K mainGlobals "_law_word" = some (some (.ref f9))) (l9 : K.lookup f9 = some ⟨oc9, od9, .func (PySem.W.fnOf "_law_word" "_law_word" (defArgs s_law_word) (defBody s_law_word) (defScope s_law_word) .none kV9 dc9 pm9 an9 cd9 ct9), sl9⟩) (c9 : PySem.W.codeIn K cd9 "_law_word" = true) (k9 : PySem.W.keepIn K (.ref f9) = true)
    (a10 : PySem.W.nsIn K mainGlobals "_law_words" = some (some (.ref f10))) (l10 : K.lookup f10 = some ⟨oc10, od10, .func (PySem.W.fnOf "_law_words" "_law_words" (defArgs s_law_words) (defBody s_law_words) (defScope s_law_words) .none kV10 dc10 pm10 an10 cd10 ct10), sl10⟩) (c10 : PySem.W.codeIn K cd10 "_law_words" = true) (k10 : PySem.W.keepIn K (.ref f10) = true)
    (a11 : PySem.W.nsIn K mainGlobals "_law_are" = some (some (.ref f11))) (l11 : K.lookup f11 = some ⟨oc11, od11, .func (PySem.W.fnOf "_law_are" "_law_are" (defArgs s_law_are) (defBody s_law_are) (defScope s_law_are) .none kV11 dc11 pm11 an11 cd11 ct11), sl11⟩) (c11 : PySem.W.codeIn K cd11 "_law_are" = true) (k11 : PySem.W.keepIn K (.ref f11) = true)
    (a12 : PySem.W.nsIn K mainGlobals "law" = some (some (.ref f12))) (l12 : K.lookup f12 = some ⟨oc12, od12, .func (PySem.W.fnOf "law" "law" (defArgs s_law) (defBody s_law) (defScope s_law) .none kV12 dc12 pm12 an12 cd12 ct12), sl12⟩) (c12 : PySem.W.codeIn K cd12 "law" = true) (k12 : PySem.W.keepIn K (.ref f12) = true)
    {t_GAP_KEY : Tok} (y_GAP_KEY : PySem.W.nsIn K mainGlobals "GAP_KEY" = some (some (.str " " t_GAP_KEY)))
    {t_SEND_KEY : Tok} (y_SEND_KEY : PySem.W.nsIn K mainGlobals "SEND_KEY" = some (some (.str "/" t_SEND_KEY)))
    (z_ValueError : PySem.W.nsIn K mainGlobals "ValueError" = some none)
    (z_enumerate : PySem.W.nsIn K mainGlobals "enumerate" = some none)
    (z_isinstance : PySem.W.nsIn K mainGlobals "isinstance" = some none)
    (z_len : PySem.W.nsIn K mainGlobals "len" = some none)
    (z_list : PySem.W.nsIn K mainGlobals "list" = some none)
    (z_min : PySem.W.nsIn K mainGlobals "min" = some none)
    (z_range : PySem.W.nsIn K mainGlobals "range" = some none)
    (z_str : PySem.W.nsIn K mainGlobals "str" = some none)
    : ∃ a : Ad, Tx K mg a := by
  have D0 : D K mg "channel_of" s_channel_of ["case", "sign"] f0 _ := ⟨fun_mk l0 c0 k0, fun us hl => match us, hl with | [_, _], _ => rfl, PySem.W.mg_of X G a0⟩
  have D1 : D K mg "keys_of" s_keys_of ["lines"] f1 _ := ⟨fun_mk l1 c1 k1, fun us hl => match us, hl with | [_], _ => rfl, PySem.W.mg_of X G a1⟩
  have D2 : D K mg "is_sign_key" s_is_sign_key ["key"] f2 _ := ⟨fun_mk l2 c2 k2, fun us hl => match us, hl with | [_], _ => rfl, PySem.W.mg_of X G a2⟩
  have D3 : D K mg "goes_on" s_goes_on ["case", "keys", "at"] f3 _ := ⟨fun_mk l3 c3 k3, fun us hl => match us, hl with | [_, _, _], _ => rfl, PySem.W.mg_of X G a3⟩
  have D4 : D K mg "look_at_keys" s_look_at_keys ["case", "keys"] f4 _ := ⟨fun_mk l4 c4 k4, fun us hl => match us, hl with | [_, _], _ => rfl, PySem.W.mg_of X G a4⟩
  have D5 : D K mg "lines_of" s_lines_of ["case", "keys"] f5 _ := ⟨fun_mk l5 c5 k5, fun us hl => match us, hl with | [_, _], _ => rfl, PySem.W.mg_of X G a5⟩
  have D6 : D K mg "_law_cell_at" s_law_cell_at ["_law_script", "_law_k"] f6 _ := ⟨fun_mk l6 c6 k6, fun us hl => match us, hl with | [_, _], _ => rfl, PySem.W.mg_of X G a6⟩
  have D7 : D K mg "_law_mixed" s_law_mixed ["_law_cell", "_law_k"] f7 _ := ⟨fun_mk l7 c7 k7, fun us hl => match us, hl with | [_, _], _ => rfl, PySem.W.mg_of X G a7⟩
  have D8 : D K mg "_law_case" s_law_case ["_law_script"] f8 _ := ⟨fun_mk l8 c8 k8, fun us hl => match us, hl with | [_], _ => rfl, PySem.W.mg_of X G a8⟩
  have D9 : D K mg "_law_word" s_law_word ["_law_case_here", "_law_number", "_law_most"] f9 _ := ⟨fun_mk l9 c9 k9, fun us hl => match us, hl with | [_, _, _], _ => rfl, PySem.W.mg_of X G a9⟩
  have D10 : D K mg "_law_words" s_law_words ["_law_case_here", "_law_cells", "_law_k", "_law_most"] f10 _ := ⟨fun_mk l10 c10 k10, fun us hl => match us, hl with | [_, _, _, _], _ => rfl, PySem.W.mg_of X G a10⟩
  have D11 : D K mg "_law_are" s_law_are ["_law_found", "_law_due"] f11 _ := ⟨fun_mk l11 c11 k11, fun us hl => match us, hl with | [_, _], _ => rfl, PySem.W.mg_of X G a11⟩
  have D12 : D K mg "law" s_law ["_law_script"] f12 _ := ⟨fun_mk l12 c12 k12, fun us hl => match us, hl with | [_], _ => rfl, PySem.W.mg_of X G a12⟩
  exact ⟨⟨f0, _, f1, _, f2, _, f3, _, f4, _, f5, _, f6, _, f7, _, f8, _, f9, _, f10, _, f11, _, f12, _, t_GAP_KEY, t_SEND_KEY⟩, ⟨D0, D1, D2, D3, D4, D5, D6, D7, D8, D9, D10, D11, D12, PySem.W.mg_of X G y_GAP_KEY, PySem.W.mg_of X G y_SEND_KEY, PySem.W.mg_none_of X G z_ValueError, PySem.W.mg_none_of X G z_enumerate, PySem.W.mg_none_of X G z_isinstance, PySem.W.mg_none_of X G z_len, PySem.W.mg_none_of X G z_list, PySem.W.mg_none_of X G z_min, PySem.W.mg_none_of X G z_range, PySem.W.mg_none_of X G z_str⟩⟩
end
end Lw
open PySem PySem.W PyProof.Rows
set_option maxRecDepth 100000 in
set_option maxHeartbeats 0 in
theorem PySem.Challenge.cw_linecaster_k34_keys_read_holds : PySem.Challenge.rw_linecaster_k34_keys_read.Holds := by
  w_on; o_law; k_head; (case hw => w_witness2)
  k_fill
  refine L2.walk_ofK (l := PySem.Challenge.rw_linecaster_k34_keys_read) (n := 63) (k := Lw.lawLevel) (x := "_law_script") (CX := L2.CX0) (sp := Lw.sp_law) rfl (by decide) rfl ⟨rfl, by decide, by decide⟩ (fun w h Y => PySem.W.kIn_of Y) ?F ?S ?C
  case F =>
    intro w mg fa h KX G hmg
    have T : ∃ a : Lw.Ad, Lw.Tx (L2.KOf KX) mg a := by
      dsimp only [L2.KOf]
      refine' Lw.txt_mk KX G ?a0 ?l0 ?c0 ?k0 ?a1 ?l1 ?c1 ?k1 ?a2 ?l2 ?c2 ?k2 ?a3 ?l3 ?c3 ?k3 ?a4 ?l4 ?c4 ?k4 ?a5 ?l5 ?c5 ?k5 ?a6 ?l6 ?c6 ?k6 ?a7 ?l7 ?c7 ?k7 ?a8 ?l8 ?c8 ?k8 ?a9 ?l9 ?c9 ?k9 ?a10 ?l10 ?c10 ?k10 ?a11 ?l11 ?c11 ?k11 ?a12 ?l12 ?c12 ?k12 ?y_GAP_KEY ?y_SEND_KEY ?z_ValueError ?z_enumerate ?z_isinstance ?z_len ?z_list ?z_min ?z_range ?z_str
      (case a0 => k_is)
      (case l0 => k_is)
      (case c0 => k_is)
      (case k0 => k_is)
      (case a1 => k_is)
      (case l1 => k_is)
      (case c1 => k_is)
      (case k1 => k_is)
      (case a2 => k_is)
      (case l2 => k_is)
      (case c2 => k_is)
      (case k2 => k_is)
      (case a3 => k_is)
      (case l3 => k_is)
      (case c3 => k_is)
      (case k3 => k_is)
      (case a4 => k_is)
      (case l4 => k_is)
      (case c4 => k_is)
      (case k4 => k_is)
      (case a5 => k_is)
      (case l5 => k_is)
      (case c5 => k_is)
      (case k5 => k_is)
      (case a6 => k_is)
      (case l6 => k_is)
      (case c6 => k_is)
      (case k6 => k_is)
      (case a7 => k_is)
      (case l7 => k_is)
      (case c7 => k_is)
      (case k7 => k_is)
      (case a8 => k_is)
      (case l8 => k_is)
      (case c8 => k_is)
      (case k8 => k_is)
      (case a9 => k_is)
      (case l9 => k_is)
      (case c9 => k_is)
      (case k9 => k_is)
      (case a10 => k_is)
      (case l10 => k_is)
      (case c10 => k_is)
      (case k10 => k_is)
      (case a11 => k_is)
      (case l11 => k_is)
      (case c11 => k_is)
      (case k11 => k_is)
      (case a12 => k_is)
      (case l12 => k_is)
      (case c12 => k_is)
      (case k12 => k_is)
      (case y_GAP_KEY => k_is)
      (case y_SEND_KEY => k_is)
      (case z_ValueError => k_is)
      (case z_enumerate => k_is)
      (case z_isinstance => k_is)
      (case z_len => k_is)
      (case z_list => k_is)
      (case z_min => k_is)
      (case z_range => k_is)
      (case z_str => k_is)
    obtain ⟨a, T⟩ := T
    have e0 := hmg.symm.trans T.law.mg
    cases e0
    exact ⟨_, fun s u => .of_eq (T.law.ba [u] rfl), fun base kb nb => Lw.ok_law T⟩
  case S => exact fun K H a ns hl hO hS => ⟨a, ns, rfl, hS, hl, fun _ => rfl⟩
  case C => exact fun _ _ _ _ z => z
