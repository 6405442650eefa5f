import PyProof.Rows.All
import Wide.All
import OpenK.AllK
import Wide.FinOn
import Lean
import PyProof.EqAt
import PyProof.EqKinds
import PyProof.TupleCall
import PyProof.P3Eq
import PyProof.NeData
import PyProof.Rows.SortShellK
import PySem.Challenge.RW_linecaster_k40_broken_matrices_told
set_option Elab.async false
set_option linter.all false
set_option maxRecDepth 100000
namespace L2
open PySem PySem.Spec PyProof.Rows
abbrev Key := Sum Int Str
def keyIs : Key → Value → Bool
  | .inl k, v => Value.isInt k v
  | .inr x, v => Value.isStrOf x v
def keyH (w : World) : Key → Int
  | .inl k => hashInt k
  | .inr x => hashStr w x
theorem keyIs_shape : ∀ {k : Key} {v : Value}, keyIs k v = true → (∃ i t, k = Sum.inl i ∧ v = Value.int i t) ∨ (∃ x t, k = Sum.inr x ∧ v = Value.str x t)
  | .inl i, v, h => by
    obtain ⟨t, e⟩ := Value.isInt_shape (k := i) (v := v) h
    exact .inl ⟨i, t, rfl, e⟩
  | .inr x, v, h => by
    obtain ⟨t, e⟩ := Value.isStrOf_shape (x := x) (v := v) h
    exact .inr ⟨x, t, rfl, e⟩
theorem key_ll (a b : Int) : decide ((Sum.inl a : Key) = Sum.inl b) = (a == b) := by
  by_cases e : a = b
  · subst e; simp
  · have h : ¬ (Sum.inl a : Key) = Sum.inl b := fun q => e (Sum.inl.inj q)
    rw [decide_eq_false h]
    exact (beq_eq_false_iff_ne.mpr e).symm
theorem key_rr (a b : Str) : decide ((Sum.inr a : Key) = Sum.inr b) = decide (a = b) := by
  by_cases e : a = b
  · subst e; simp
  · have h : ¬ (Sum.inr a : Key) = Sum.inr b := fun q => e (Sum.inr.inj q)
    rw [decide_eq_false h, decide_eq_false e]
theorem key_lr (a : Int) (b : Str) : decide ((Sum.inl a : Key) = Sum.inr b) = false := decide_eq_false (fun q => nomatch q)
theorem key_rl (a : Str) (b : Int) : decide ((Sum.inr a : Key) = Sum.inl b) = false := decide_eq_false (fun q => nomatch q)
def mixKind (prog : Program) (w : World) : PySem.KeyKind prog w Key where
  is := keyIs
  hash := keyH w
  inj := fun v a b ha hb => by
    rcases keyIs_shape ha with ⟨i, t, rfl, rfl⟩ | ⟨x, t, rfl, rfl⟩
    · rcases keyIs_shape hb with ⟨j, u, rfl, e⟩ | ⟨y, u, rfl, e⟩
      · injection e with e1 _; rw [e1]
      · exact nomatch e
    · rcases keyIs_shape hb with ⟨j, u, rfl, e⟩ | ⟨y, u, rfl, e⟩
      · exact nomatch e
      · injection e with e1 _; rw [e1]
  byValue := fun k v h => by
    rcases keyIs_shape h with ⟨i, t, rfl, rfl⟩ | ⟨x, t, rfl, rfl⟩ <;> rfl
  pyHash := fun hv h => by
    rcases keyIs_shape hv with ⟨i, t, rfl, rfl⟩ | ⟨x, t, rfl, rfl⟩
    · exact wpAny_pyHash_int h
    · exact wpAny_pyHash_str h
  eqBool := fun hu hv h => by
    rcases keyIs_shape hu with ⟨i, t, rfl, rfl⟩ | ⟨x, t, rfl, rfl⟩
    · rcases keyIs_shape hv with ⟨j, u, rfl, rfl⟩ | ⟨y, u, rfl, rfl⟩
      · rw [key_ll] at h; exact wpAny_eqBool_int h
      · rw [key_lr] at h; exact SeqAt.EqAt.int_str i t y u _ _ _ _ h
    · rcases keyIs_shape hv with ⟨j, u, rfl, rfl⟩ | ⟨y, u, rfl, rfl⟩
      · rw [key_rl] at h; exact SeqAt.EqAt.str_int x t j u _ _ _ _ h
      · rw [key_rr] at h; exact wpAny_eqBool_str h
  «strs» := fun k x t v h => by
    rcases keyIs_shape h with ⟨i, u, rfl, e⟩ | ⟨y, u, rfl, e⟩
    · exact nomatch e
    · injection e with e1 _
      subst e1
      cases v <;> rfl
end L2
namespace L2
open PySem PySem.Spec PyProof.Rows
inductive V where
  | non | bl (b : Bool) | int (i : Int) | str (x : Str) | byt (b : Array UInt8) | flt (b : UInt64) | ref (a : Addr) | ty (n : String)
  deriving DecidableEq
def RelV : V → Value → Prop
  | .non, u => u = Value.none
  | .bl b, u => u = Value.bool b
  | .int i, u => ∃ t, u = Value.int i t
  | .str x, u => ∃ t, u = Value.str x t
  | .byt b, u => ∃ t, u = Value.bytes b t
  | .flt b, u => ∃ t, u = Value.float b t
  | .ref a, u => u = Value.ref a
  | .ty n, u => u = Value.type n
abbrev Vals : List V → List Value → Prop := Paired RelV
theorem Vals.length {xs : List V} {us : List Value} (r : Vals xs us) : xs.length = us.length := Paired.length r
theorem Vals.get : ∀ {xs : List V} {us : List Value} {i : Nat} {x : V}, Vals xs us → xs[i]? = some x → ∃ u, us[i]? = some u ∧ RelV x u
  | _, _, _, _, .nil, e => by simp at e
  | _, _, 0, _, .cons r _, e => by simp at e; subst e; exact ⟨_, rfl, r⟩
  | _, _, i + 1, x, .cons _ t, e => by
    obtain ⟨u, h1, h2⟩ := Vals.get (i := i) (x := x) t (by simpa using e)
    exact ⟨u, by simpa using h1, h2⟩
theorem Vals.set {x : V} {u : Value} (r : RelV x u) : ∀ {xs : List V} {us : List Value} (i : Nat), Vals xs us → Vals (xs.set i x) (us.set i u)
  | _, _, _, .nil => .nil
  | _, _, 0, .cons _ t => .cons r t
  | _, _, i + 1, .cons q t => .cons q (Vals.set r i t)
theorem Vals.append : ∀ {xs ys : List V} {us ws : List Value}, Vals xs us → Vals ys ws → Vals (xs ++ ys) (us ++ ws)
  | _, _, _, _, .nil, s => s
  | _, _, _, _, .cons r t, s => .cons r (Vals.append t s)
theorem Vals.take : ∀ {xs : List V} {us : List Value} (n : Nat), Vals xs us → Vals (xs.take n) (us.take n)
  | _, _, 0, _ => .nil
  | _, _, _ + 1, .nil => .nil
  | _, _, n + 1, .cons r t => .cons r (Vals.take n t)
theorem Vals.drop : ∀ {xs : List V} {us : List Value} (n : Nat), Vals xs us → Vals (xs.drop n) (us.drop n)
  | _, _, 0, r => r
  | _, _, _ + 1, .nil => .nil
  | _, _, n + 1, .cons _ t => Vals.drop n t
def RelO : Option V → Option Value → Prop
  | some v, some u => RelV v u
  | none, none => True
  | _, _ => False
def KV {κ : Type} : List (κ × V) → List (κ × Value) → Prop := Paired fun (p : κ × V) (q : κ × Value) => p.1 = q.1 ∧ RelV p.2 q.2
def kV : Key → V
  | .inl i => .int i
  | .inr x => .str x
inductive HO where
  | lst (xs : List V)
  | tup (xs : List V)
  | dK (kvs : List (Key × V)) | dT (kvs : List (List Key × V))
  | set (S : Int → Bool) (n : Nat)
  | ins (C dx : Addr) (fs : List (Str × V))
  | own (x : Addr)
  | xd (fs : List (Str × V))
  | met (f x : Addr)
  | rng (lo hi : Int)
  | frz (o : Obj) (u : HO)
  | tbl (ps : Array Value)
  | ext (φ : Heap → Prop)
abbrev Hp := Addr → Option HO
def upd (H : Hp) (a : Addr) (o : HO) : Hp := fun b => if b = a then some o else H b
theorem upd_same {H : Hp} {a : Addr} {o : HO} : upd H a o a = some o := by unfold upd; rw [if_pos rfl]
theorem upd_ne {H : Hp} {a b : Addr} {o : HO} (h : b ≠ a) : upd H a o b = H b := by unfold upd; rw [if_neg h]
theorem ne_of {H : Hp} {a b : Addr} {o u : HO} (h : H a = some o) (h' : H b = some u) (d : o ≠ u) : a ≠ b := by
  intro e; subst e; rw [h] at h'; exact d (Option.some.inj h')
theorem ne_of_none {H : Hp} {a b : Addr} {o : HO} (h : H a = some o) (h' : H b = none) : a ≠ b := by
  intro e; subst e; rw [h] at h'; cases h'
section
variable (P : Program) (w : World)
def ObjOk (H : Hp) (h : Heap) (a : Addr) : HO → Prop
  | .lst xs => xs.length ≤ sizeLine ∧ ∃ (its : List Value) (n : Nat), Vals xs its ∧ h.get? a = some { cls := .type "list", data := .seq its.toArray n }
  | .tup xs => xs.length ≤ sizeLine ∧ ∃ its : List Value, Vals xs its ∧ IsTup h a its.toArray
  | .dK kvs => kvs.length ≤ sizeLine ∧ (a == sysModules) = false ∧ ∃ vs, KV kvs vs ∧ h.DictOf (mixKind P w) a vs
  | .dT kvs => kvs.length ≤ sizeLine ∧ (a == sysModules) = false ∧ ∃ xs : List (List Key × Addr × Value),
      Paired (fun (p : List Key × V) (q : List Key × Addr × Value) => p.1 = q.1 ∧ H q.2.1 = some (.tup (p.1.map kV)) ∧ RelV p.2 q.2.2) kvs xs ∧
      ∃ o es ep, h.get? a = some o ∧ o.ExactDict ∧ o.data = .dict es ep ∧ es.toList = xs.map (entryOfKey (tupleKind (mixKind P w))) ∧ (xs.map (·.1)).Nodup
  | .set S n => h.SetOf (intKind P w) a S n
  | .ins C dx fs => H dx = some (.own a) ∧ fs.length ≤ 1000 ∧ dx ≠ a ∧ h.get? a = some (PySem.W.instObj C dx) ∧
      ∃ mA, h.Ns1 dx mA ∧ (∀ f, RelO (fs.lookup f) (mA f)) ∧ PySem.Within mA (fs.map (·.1))
  | .own _ => ∃ o, h.get? a = some o
  | .xd fs => ∃ mA, h.Ns1 a mA ∧ ∀ f, RelO (fs.lookup f) (mA f)
  | .rng lo hi => ∃ t u v, h.get? a = some { cls := .type "range", data := .fields #[.int lo t, .int hi u, .int 1 v] }
  | .frz o u => h.get? a = some o ∧ ObjOk H h a u
  | .tbl ps => h.get? a = some { cls := .none, data := .fields ps }
  | .met f x => h.get? a = some (PySem.W.methodObj (.ref f) (.ref x))
  | .ext φ => φ h ∧ (∃ o, h.get? a = some o) ∧ ∀ h1 h2 : Heap, φ h1 → (∀ o, h1.get? a = some o → h2.get? a = some o) → φ h2
def HOk (H : Hp) (h : Heap) : Prop := ∀ a o, H a = some o → ObjOk P w H h a o
end
section
variable {P : Program} {w : World} {H H' : Hp} {h h' : Heap} {a : Addr} {o : HO}
theorem ObjOk.lt (x : ObjOk P w H h a o) : a < h.objs.size := by
  cases o with
  | lst xs => obtain ⟨_, _, _, _, e⟩ := x; exact Heap.lt_size e
  | tup xs => obtain ⟨_, _, _, p⟩ := x; exact p.lt
  | dK kvs => obtain ⟨_, _, _, _, o, _, _, e, _⟩ := x; exact Heap.lt_size e
  | dT kvs => obtain ⟨_, _, _, _, o, _, _, e, _⟩ := x; exact Heap.lt_size e
  | set S n => obtain ⟨o, _, _, _, e, _⟩ := x; exact Heap.lt_size e
  | ins C dx fs => obtain ⟨_, _, _, e, _⟩ := x; exact Heap.lt_size e
  | own y => obtain ⟨_, e⟩ := x; exact Heap.lt_size e
  | xd fs => obtain ⟨_, ⟨_, _, _, e, _⟩, _⟩ := x; exact Heap.lt_size e
  | rng lo hi => obtain ⟨_, _, _, e⟩ := x; exact Heap.lt_size e
  | frz ob u => obtain ⟨e, _⟩ := x; exact Heap.lt_size e
  | tbl ps => exact Heap.lt_size (show h.get? a = some _ from x)
  | met f y => exact Heap.lt_size (show h.get? a = some _ from x)
  | ext φ => obtain ⟨_, ⟨_, e⟩, _⟩ := x; exact Heap.lt_size e
theorem Paired.mapP {α β : Type} {F G : α → β → Prop} : ∀ {l₁ : List α} {l₂ : List β}, Paired F l₁ l₂ → (∀ a b, F a b → G a b) → Paired G l₁ l₂
  | _, _, .nil, _ => .nil
  | _, _, .cons r t, f => .cons (f _ _ r) (Paired.mapP t f)
theorem ObjOk.stay (x : ObjOk P w H h a o) (k : ∀ b u, (b = a ∨ H b = some (.own a)) → h.get? b = some u → h'.get? b = some u)
    (ho : ∀ b, H b = some (.own a) → H' b = some (.own a)) (ht : ∀ b xs, H b = some (.tup xs) → H' b = some (.tup xs)) : ObjOk P w H' h' a o := by
  induction o with
  | lst xs => obtain ⟨z, its, n, r, e⟩ := x; exact ⟨z, its, n, r, k _ _ (.inl rfl) e⟩
  | tup xs => obtain ⟨z, its, r, ob, e, c⟩ := x; exact ⟨z, its, r, ob, k _ _ (.inl rfl) e, c⟩
  | dK kvs => obtain ⟨z, y, vs, r, ob, es, ep, e, c⟩ := x; exact ⟨z, y, vs, r, ob, es, ep, k _ _ (.inl rfl) e, c⟩
  | dT kvs =>
    obtain ⟨z, y, xs, r, ob, es, ep, e, c⟩ := x
    exact ⟨z, y, xs, Paired.mapP r fun p q z => ⟨z.1, ht _ _ z.2.1, z.2.2⟩, ob, es, ep, k _ _ (.inl rfl) e, c⟩
  | set S n => obtain ⟨ob, es, ep, t, e, c⟩ := x; exact ⟨ob, es, ep, t, k _ _ (.inl rfl) e, c⟩
  | ins C dx fs =>
    obtain ⟨d, z, ne, e, mA, ⟨od, es, ep, e2, c⟩, r⟩ := x
    exact ⟨ho _ d, z, ne, k _ _ (.inl rfl) e, mA, ⟨od, es, ep, k _ _ (.inr d) e2, c⟩, r⟩
  | own y => obtain ⟨ob, e⟩ := x; exact ⟨ob, k _ _ (.inl rfl) e⟩
  | xd fs => obtain ⟨mA, ⟨od, es, ep, e, c⟩, r⟩ := x; exact ⟨mA, ⟨od, es, ep, k _ _ (.inl rfl) e, c⟩, r⟩
  | rng lo hi => obtain ⟨t, u, v, e⟩ := x; exact ⟨t, u, v, k _ _ (.inl rfl) e⟩
  | frz ob u ih => obtain ⟨e, q⟩ := x; exact ⟨k _ _ (.inl rfl) e, ih q⟩
  | tbl ps =>
    have e : h.get? a = some { cls := .none, data := .fields ps } := x
    show h'.get? a = some { cls := .none, data := .fields ps }
    exact k a _ (.inl rfl) e
  | met f y =>
    have e : h.get? a = some (PySem.W.methodObj (.ref f) (.ref y)) := x
    show h'.get? a = some (PySem.W.methodObj (.ref f) (.ref y))
    exact k a _ (.inl rfl) e
  | ext φ => obtain ⟨p, ⟨o, e⟩, st⟩ := x; exact ⟨st _ _ p fun o q => k _ _ (.inl rfl) q, ⟨o, k _ _ (.inl rfl) e⟩, st⟩
theorem HOk.lt (x : HOk P w H h) (e : H a = some o) : a < h.objs.size := (x a o e).lt
theorem HOk.fresh (x : HOk P w H h) (e : h.objs.size ≤ a) : H a = none := by
  cases q : H a with
  | none => rfl
  | some u => exact absurd (Nat.lt_of_lt_of_le (x.lt q) e) (Nat.lt_irrefl _)
theorem HOk.kept (x : HOk P w H h) (k : ∀ b u, h.get? b = some u → h'.get? b = some u) : HOk P w H h' := fun a o e =>
  (x a o e).stay (fun b u _ q => k b u q) (fun _ q => q) fun _ _ q => q
theorem HOk.laid (x : HOk P w H h) (k : ∀ b u, h.get? b = some u → h'.get? b = some u) (hp : h.objs.size ≤ a) (new : ObjOk P w (upd H a o) h' a o) : HOk P w (upd H a o) h' := fun b u e => by
  have hn := x.fresh hp
  by_cases hb : b = a
  · subst hb; rw [upd_same] at e; cases e; exact new
  · rw [upd_ne hb] at e
    exact (x b u e).stay (fun c v _ q => k c v q) (fun c q => by rw [upd_ne (ne_of_none q hn)]; exact q) fun c xs q => by rw [upd_ne (ne_of_none q hn)]; exact q
end
def Rd (H : Hp) (a : Addr) (u : HO) : Prop := H a = some u ∨ ∃ o, H a = some (.frz o u)
theorem Rd.of {H : Hp} {a : Addr} {u : HO} (h : H a = some u) : Rd H a u := .inl h
theorem Rd.ok {P : Program} {w : World} {H : Hp} {h : Heap} {a : Addr} {u : HO} (r : Rd H a u) (x : HOk P w H h) : ObjOk P w H h a u := by
  rcases r with r | ⟨o, r⟩
  · exact x a u r
  · obtain ⟨_, q⟩ := x a _ r
    exact q
def Mut : Option HO → Prop
  | some (.lst _) => True
  | some (.dK _) => True
  | some (.dT _) => True
  | some (.set _ _) => True
  | some (.ins _ _ _) => True
  | some (.ext _) => True
  | _ => False
section
variable {P : Program} {w : World} {H : Hp} {h h' : Heap} {x e : Addr} {o' : HO}
theorem HOk.write (ok : HOk P w H h) (mu : Mut (H x)) (he : e = x ∨ H e = some (.own x)) (k : ∀ b u, b ≠ e → h.get? b = some u → h'.get? b = some u) (heo : ∃ u, h'.get? e = some u)
    (new : ObjOk P w (upd H x o') h' x o') : HOk P w (upd H x o') h' := fun b u q => by
  have nown : ∀ c y, H c = some (.own y) → c ≠ x := fun c y r z => by subst z; rw [r] at mu; exact mu
  have ntup : ∀ c xs, H c = some (.tup xs) → c ≠ x := fun c xs r z => by subst z; rw [r] at mu; exact mu
  by_cases hb : b = x
  · subst hb; rw [upd_same] at q; cases q; exact new
  · rw [upd_ne hb] at q
    by_cases hbe : b = e
    · have q' : H b = some (.own x) := by
        rcases he with z | z
        · exact absurd (hbe.trans z) hb
        · rw [hbe]; exact z
      rw [q] at q'; cases q'
      obtain ⟨v, hv⟩ := heo
      exact ⟨v, by rw [hbe]; exact hv⟩
    · refine (ok b u q).stay (fun c v hc r => k c v ?_ r) (fun c r => by rw [upd_ne (nown c b r)]; exact r) fun c xs r => by rw [upd_ne (ntup c xs r)]; exact r
      rcases hc with rfl | hc
      · exact hbe
      · rintro rfl
        rcases he with z | z
        · exact nown c b hc z
        · rw [hc] at z; cases z; exact hb rfl
end
structure Un (fs ex : List Addr) (H H' : Hp) (h h' : Heap) : Prop where
  keep : ∀ b o, h.get? b = some o → H b = none → b ∉ fs → b ∉ ex → h'.get? b = some o
  slot : ∀ b o, h.get? b = some o → H b = none → b ∈ fs → b ∉ ex → ∃ sl, h'.get? b = some { o with slots := sl }
  free : ∀ b o, h.get? b = some o → H b = none → b ∉ ex → H' b = none
  there : ∀ b o, h.get? b = some o → b ∉ ex → ∃ o', h'.get? b = some o'
  tups : ∀ b xs, H b = some (.tup xs) → H' b = some (.tup xs)
  frzs : ∀ b o u, H b = some (.frz o u) → H' b = some (.frz o u)
  tbls : ∀ b ps, H b = some (.tbl ps) → ∃ more, H' b = some (.tbl (ps ++ more))
section
variable {fs fs' ex ex' : List Addr} {H H1 H2 : Hp} {h h1 h2 h' : Heap} {a x e : Addr} {o : HO}
theorem Un.any (u : Un fs ex H H1 h h1) {b : Addr} {ob : Obj} (q : h.get? b = some ob) (n : H b = none) (hx : b ∉ ex) : ∃ sl, h1.get? b = some { ob with slots := sl } := by
  by_cases hb : b ∈ fs
  · exact u.slot b ob q n hb hx
  · exact ⟨ob.slots, u.keep b ob q n hb hx⟩
theorem Un.trans (a : Un fs ex H H1 h h1) (b : Un fs ex H1 H2 h1 h2) : Un fs ex H H2 h h2 where
  keep := fun c ob q n hc hx => b.keep c ob (a.keep c ob q n hc hx) (a.free c ob q n hx) hc hx
  slot := fun c ob q n hc hx => by
    obtain ⟨sl, e1⟩ := a.slot c ob q n hc hx
    obtain ⟨sl', e2⟩ := b.slot c _ e1 (a.free c ob q n hx) hc hx
    exact ⟨sl', e2⟩
  free := fun c ob q n hx => by
    obtain ⟨o', e1⟩ := a.there c ob q hx
    exact b.free c o' e1 (a.free c ob q n hx) hx
  there := fun c ob q hx => by
    obtain ⟨o', e1⟩ := a.there c ob q hx
    exact b.there c o' e1 hx
  tups := fun c xs q => b.tups c xs (a.tups c xs q)
  frzs := fun c ob xs q => b.frzs c ob xs (a.frzs c ob xs q)
  tbls := fun c ps q => by
    obtain ⟨m1, e1⟩ := a.tbls c ps q
    obtain ⟨m2, e2⟩ := b.tbls c _ e1
    exact ⟨m1 ++ m2, by rw [e2, Array.append_assoc]⟩
theorem Un.kept (k : ∀ b u, h.get? b = some u → h'.get? b = some u) : Un fs ex H H h h' :=
  ⟨fun b ob q _ _ _ => k b ob q, fun b ob q _ _ _ => ⟨ob.slots, k b ob q⟩, fun _ _ _ n _ => n, fun b ob q _ => ⟨ob, k b ob q⟩, fun _ _ q => q, fun _ _ _ q => q, fun _ ps q => ⟨#[], by rw [q]; simp⟩⟩
theorem Un.refl : Un fs ex H H h h := Un.kept fun _ _ q => q
theorem Un.laid (k : ∀ b u, h.get? b = some u → h'.get? b = some u) (hp : h.objs.size ≤ a) (hn : H a = none) : Un fs ex H (upd H a o) h h' where
  keep := fun b u q _ _ _ => k b u q
  slot := fun b u q _ _ _ => ⟨u.slots, k b u q⟩
  free := fun b u q n _ => by rw [upd_ne (Nat.ne_of_lt (Nat.lt_of_lt_of_le (Heap.lt_size q) hp))]; exact n
  there := fun b u q _ => ⟨u, k b u q⟩
  tups := fun b xs q => by rw [upd_ne (ne_of_none q hn)]; exact q
  frzs := fun b u xs q => by rw [upd_ne (ne_of_none q hn)]; exact q
  tbls := fun b ps q => ⟨#[], by rw [upd_ne (ne_of_none q hn), q]; simp⟩
theorem Un.write (mu : Mut (H x)) (he : e = x ∨ H e = some (.own x)) (k : ∀ b u, b ≠ e → h.get? b = some u → h'.get? b = some u) (heo : ∃ u, h'.get? e = some u) : Un fs ex H (upd H x o) h h' := by
  have hx : ∀ b, H b = none → b ≠ x := fun b n z => by subst z; rw [n] at mu; exact mu
  have hb : ∀ b, H b = none → b ≠ e := fun b n z => by
    subst z
    rcases he with r | r
    · exact hx b n r
    · rw [n] at r; cases r
  have hm : ∀ b u, H b = some u → ¬ Mut (some u) → b ≠ x := fun b u q nm z => by subst z; rw [q] at mu; exact nm mu
  refine ⟨fun b u q n _ _ => k b u (hb b n) q, fun b u q n _ _ => ⟨u.slots, k b u (hb b n) q⟩, fun b u q n _ => by rw [upd_ne (hx b n)]; exact n, fun b u q _ => ?_,
    fun b xs q => by rw [upd_ne (hm b _ q fun z => z)]; exact q, fun b u xs q => by rw [upd_ne (hm b _ q fun z => z)]; exact q, fun b ps q => ⟨#[], by rw [upd_ne (hm b _ q fun z => z), q]; simp⟩⟩
  by_cases hbe : b = e
  · subst hbe; exact heo
  · exact ⟨u, k b u hbe q⟩
end
def trk (h : Heap) (H : Hp) : List Addr := (List.range h.objs.size).filter fun a => (H a).isSome
def hidT (h : Heap) (H : Hp) : Heap := PySem.W.hideAll h (trk h H)
theorem hidT_size (h : Heap) (H : Hp) : (hidT h H).objs.size = h.objs.size := PySem.W.hideAll_size _ _
theorem hidT_get {h : Heap} {H : Hp} {b : Addr} {o : Obj} (e : h.get? b = some o) (n : H b = none) : (hidT h H).get? b = some o :=
  PySem.W.hideAll_get _ e fun hm => by
    have q : (H b).isSome = true := (List.mem_filter.mp hm).2
    rw [n] at q; simp at q
theorem of_hidT {h : Heap} {H : Hp} {b : Addr} {o : Obj} (e : (hidT h H).get? b = some o) : h.get? b = some o ∧ H b = none := by
  have e' : h.get? b = some o := PySem.W.of_hideAll (trk h H) e
  refine ⟨e', ?_⟩
  cases q : H b with
  | none => rfl
  | some x =>
    have hm : b ∈ trk h H := List.mem_filter.mpr ⟨List.mem_range.mpr (Heap.lt_size e'), by simp [q]⟩
    have z : (hidT h H).get? b = none := PySem.W.hideAll_none (trk h H) hm
    rw [z] at e; cases e
def allNews (g h : Heap) (L : Addr) : List (Addr × Obj) := (List.range h.objs.size).filterMap fun a => if a = L ∨ (g.get? a).isSome = true then none else (h.get? a).map fun o => (a, o)
def rest (g h : Heap) (L d : Addr) : List (Addr × Obj) := (allNews g h L).filter fun p => decide (p.1 ≠ d)
end L2
namespace L2
open PySem PySem.Spec PyProof.Rows
structure Mod (K : PySem.W.Frag) (mg : Str → Option Value) (base : Heap) : Prop where
  kin : K.In base
  glob : base.Ns mainGlobals mg
  blt : ∃ mb, base.Ns builtinsNs mb ∧ ∀ x : Str, x ≠ "__name__" → mb x = bootBuiltins x
  nolimit : base.NoLimit
structure Cx where
  prog : Program
  w : World
  K : PySem.W.Frag
  mg : Str → Option Value
  base : Heap
  A : Around
  N : List Str
  s₀ : Shared
  H₀ : Hp
  env : Env
  outer : List Env
  stack : List Env
  ex : List Addr
  fn : Str → Bool
  calm : Bool
  pn : List (Addr × Obj)
  xe : Value → Shared → Prop
def frs (l : List Env) : List Addr := l.filterMap (·.frame)
abbrev Cx.fs (X : Cx) : List Addr := frs X.outer
def Vis (sc : Scope) (x : Str) : Prop := sc.names.lookup x = some .local ∨ sc.names.lookup x = some .cell ∨ sc.names.lookup x = some .free
def Loc (sc : Scope) (x : Str) : Prop := sc.names.lookup x = some .local ∨ sc.names.lookup x = some .cell
def Look (env : Env) (h : Heap) (m : Str → Option Value) (x : Str) (u : Value) : Prop :=
  (env.kindOf x = some .local ∧ m x = some u) ∨ ((env.kindOf x = some .cell ∨ env.kindOf x = some .free) ∧ ∃ c, env.cells.lookup x = some c ∧ h.IsCell c (some u))
structure Cx.Ok (X : Cx) : Prop where
  mod : Mod X.K X.mg X.base
  kind : X.env.scope.kind = .function
  glob : X.env.globals = mainGlobals
  blt : X.env.builtins = builtinsNs
  above : X.s₀.heap.objs.size ≤ X.env.locals
  inj : ∀ x y c, X.env.cells.lookup x = some c → X.env.cells.lookup y = some c → x = y
  has : ∀ x, (X.env.kindOf x = some .cell ∨ X.env.kindOf x = some .free) → ∃ c, X.env.cells.lookup x = some c
  cab : ∀ x c, X.fn x = true → X.env.cells.lookup x = some c → X.s₀.heap.objs.size ≤ c
  hd : X.calm = true → X.A.handled = none
  frames : X.A.frames = some X.stack
  stk : X.stack = X.outer ∨ (X.stack = X.env :: X.outer ∧ X.env.frame = some X.env.locals)
  exf : ∀ b ∈ X.ex, b ≠ X.env.locals ∧ ∀ x c, X.env.cells.lookup x = some c → c ≠ b
  bs : ∀ b o, X.base.get? b = some o → X.s₀.heap.get? b = some o ∧ X.H₀ b = none
  bsz : X.base.objs.size ≤ X.s₀.heap.objs.size
  noex : ∀ b o, X.base.get? b = some o → b ∉ X.ex
  exfs : ∀ b ∈ X.ex, b ∉ X.fs
  funs : X.s₀.heap.FunFrames X.base X.outer
  frf : ∀ b ∈ X.fs, X.H₀ b = none
structure Inv (X : Cx) (pins : List (Addr × Obj)) (σ : List (Option V)) (H : Hp) (s : Shared) : Prop where
  ok : X.Ok
  os : s.os = X.s₀.os
  bare : AllBare s.gens
  base : Un X.fs X.ex X.H₀ H X.s₀.heap s.heap
  loc : ∃ m, s.heap.Ns X.env.locals m ∧ ∀ (i : Nat) (x : Str) (v : V), X.N[i]? = some x → σ[i]? = some (some v) → Vis X.env.scope x → ∃ u, RelV v u ∧ Look X.env s.heap m x u
  cell : ∀ x c, X.env.cells.lookup x = some c → ∃ v, s.heap.IsCell c v
  free : H X.env.locals = none
  freeC : ∀ x c, X.env.cells.lookup x = some c → H c = none
  pin : ∀ p ∈ X.pn ++ pins, s.heap.get? p.1 = some p.2 ∧ H p.1 = none ∧ p.1 ≠ X.env.locals ∧ p.1 ∉ X.fs ∧ ∀ v, p.2.data ≠ .cell v
  hok : HOk X.prog X.w H s.heap
  len : σ.length = X.N.length
section
variable {X : Cx} {pins : List (Addr × Obj)} {σ : List (Option V)} {H H' : Hp} {s : Shared} {h' : Heap}
theorem Cx.Ok.nofr (ok : X.Ok) {b : Addr} {o : Obj} (e : X.base.get? b = some o) : b ∉ X.fs := fun hb => by
  have := (ok.funs.mem hb).1
  rw [e] at this; cases this
theorem Inv.bs (I : Inv X pins σ H s) : ∀ b o, X.base.get? b = some o → s.heap.get? b = some o ∧ H b = none := fun b o e =>
  ⟨I.base.keep b o (I.ok.bs b o e).1 (I.ok.bs b o e).2 (I.ok.nofr e) (I.ok.noex b o e), I.base.free b o (I.ok.bs b o e).1 (I.ok.bs b o e).2 (I.ok.noex b o e)⟩
theorem Inv.bk (I : Inv X pins σ H s) : ∀ b o, X.base.get? b = some o → s.heap.get? b = some o := fun b o e => (I.bs b o e).1
theorem Inv.mod (I : Inv X pins σ H s) : Mod X.K X.mg X.base := I.ok.mod
theorem Inv.kIn (I : Inv X pins σ H s) : X.K.In s.heap := I.ok.mod.kin.keeps I.bk
theorem Inv.nolimit (I : Inv X pins σ H s) : s.heap.NoLimit := I.ok.mod.nolimit.keeps I.bk
theorem Inv.fr (I : Inv X pins σ H s) : ∃ m, Fr X.base X.env.locals s.heap m :=
  let ⟨m, hn, _⟩ := I.loc
  ⟨m, hn, I.bk, Nat.le_trans I.ok.bsz I.ok.above⟩
theorem Inv.lt (I : Inv X pins σ H s) : X.env.locals < s.heap.objs.size := let ⟨_, hn, _⟩ := I.loc; hn.lt
theorem Inv.sz (I : Inv X pins σ H s) : X.s₀.heap.objs.size ≤ s.heap.objs.size := Nat.le_trans I.ok.above (Nat.le_of_lt I.lt)
theorem Inv.nofs (I : Inv X pins σ H s) {a : Addr} (h : s.heap.objs.size ≤ a) : a ∉ X.fs := fun hb => by
  obtain ⟨_, o, ho, _⟩ := I.ok.funs.mem hb
  exact absurd (Nat.lt_of_lt_of_le (Heap.lt_size ho) (Nat.le_trans I.sz h)) (Nat.lt_irrefl _)
theorem Inv.cne (I : Inv X pins σ H s) : ∀ x c, X.env.cells.lookup x = some c → c ≠ X.env.locals := fun x c e z => by
  obtain ⟨v, o, ho, hd⟩ := I.cell x c e
  obtain ⟨m, ⟨o', es, ep, ho', hd', _⟩, _⟩ := I.loc
  rw [z, ho'] at ho; cases ho; rw [hd'] at hd; cases hd
theorem Inv.funs (I : Inv X pins σ H s) : s.heap.FunFrames X.base X.outer := by
  have all : ∀ (l : List Env), (∀ b ∈ frs l, b ∈ X.fs) → X.s₀.heap.FunFrames X.base l → s.heap.FunFrames X.base l := by
    intro l
    induction l with
    | nil => intro _ _; trivial
    | cons env r ih =>
      intro hs hl
      obtain ⟨hk, ⟨L, o, hf, hn, ho, hd⟩, hr⟩ := hl
      have hL : L ∈ X.fs := hs L (by unfold frs; rw [List.filterMap_cons, hf]; exact List.mem_cons_self)
      obtain ⟨sl, e⟩ := I.base.slot L o ho (I.ok.frf L hL) hL fun z => I.ok.exfs L z hL
      exact ⟨hk, ⟨L, _, hf, hn, e, hd⟩, ih (fun b hb => hs b (by unfold frs; rw [List.filterMap_cons, hf]; exact List.mem_cons_of_mem _ hb)) hr⟩
  exact all X.outer (fun _ hb => hb) I.ok.funs
theorem Inv.stack (I : Inv X pins σ H s) : s.heap.FunFrames X.base X.stack := by
  rcases I.ok.stk with e | ⟨e, hf⟩
  · rw [e]; exact I.funs
  · rw [e]
    obtain ⟨m, hn, _⟩ := I.loc
    refine .cons (by rw [I.ok.kind]; decide) hf hn ?_ I.funs
    exact Heap.get?_none_of_le (Nat.le_trans I.ok.bsz I.ok.above)
theorem Inv.stkSub (I : Inv X pins σ H s) : ∀ b ∈ frs X.stack, b ∈ X.env.locals :: X.fs := fun b hb => by
  rcases I.ok.stk with e | ⟨e, hf⟩
  · rw [e] at hb; exact List.mem_cons_of_mem _ hb
  · rw [e] at hb
    unfold frs at hb
    rw [List.filterMap_cons, hf] at hb
    exact hb
theorem Inv.stkFree (I : Inv X pins σ H s) : ∀ b ∈ frs X.stack, H b = none := fun b hb => by
  rcases List.mem_cons.mp (I.stkSub b hb) with e | hb
  · rw [e]; exact I.free
  · obtain ⟨_, o, ho, _⟩ := I.ok.funs.mem hb
    exact I.base.free b o ho (I.ok.frf b hb) fun z => I.ok.exfs b z hb
theorem Inv.step {g' : Array GenState} {t' : Nat} {d' : Drawn} {ch : List Addr} (I : Inv X pins σ H s)
    (hch : ∀ b ∈ ch, (b ∈ X.ex ∨ X.s₀.heap.objs.size ≤ b) ∧ b ≠ X.env.locals ∧ (∀ x c, X.env.cells.lookup x = some c → c ≠ b) ∧ ∀ p ∈ X.pn ++ pins, p.1 ≠ b)
    (keep : ∀ b o, b ≠ X.env.locals → b ∉ X.fs → b ∉ ch → s.heap.get? b = some o → H b = none → h'.get? b = some o)
    (slot : ∀ b o, b ≠ X.env.locals → b ∈ X.fs → b ∉ ch → s.heap.get? b = some o → H b = none → ∃ sl, h'.get? b = some { o with slots := sl }) (free : ∀ b o, b ∉ ch → s.heap.get? b = some o → H b = none → H' b = none)
    (there : ∀ b o, b ∉ ch → s.heap.get? b = some o → ∃ o', h'.get? b = some o')
    (tups : ∀ b xs, H b = some (.tup xs) → H' b = some (.tup xs)) (frzs : ∀ b o u, H b = some (.frz o u) → H' b = some (.frz o u)) (tbls : ∀ b ps, H b = some (.tbl ps) → ∃ more, H' b = some (.tbl (ps ++ more)))
    (ns : ∀ m, s.heap.Ns X.env.locals m → h'.Ns X.env.locals m) (hok : HOk X.prog X.w H' h') (hg : AllBare g') :
    Inv X pins σ H' { s with heap := h', gens := g', drawn := d', toks := t' } := by
  have neL : ∀ b o, X.s₀.heap.get? b = some o → b ≠ X.env.locals := fun b o e => Nat.ne_of_lt (Nat.lt_of_lt_of_le (Heap.lt_size e) I.ok.above)
  have neC : ∀ b o, X.s₀.heap.get? b = some o → b ∉ X.ex → b ∉ ch := fun b o e hx hb => by
    rcases (hch b hb).1 with z | z
    · exact hx z
    · exact absurd (Nat.lt_of_lt_of_le (Heap.lt_size e) z) (Nat.lt_irrefl _)
  have cellK : ∀ x c, X.env.cells.lookup x = some c → ∀ v, s.heap.IsCell c v → h'.IsCell c v := fun x c e v ⟨o, ho, hd⟩ => by
    have nch : c ∉ ch := fun z => (hch c z).2.2.1 x c e rfl
    by_cases hc : c ∈ X.fs
    · obtain ⟨sl, q⟩ := slot c o (I.cne x c e) hc nch ho (I.freeC x c e)
      exact ⟨_, q, hd⟩
    · exact ⟨o, keep c o (I.cne x c e) hc nch ho (I.freeC x c e), hd⟩
  refine ⟨I.ok, I.os, hg, ⟨fun b o e n hb hx => ?_, fun b o e n hb hx => ?_, fun b o e n hx => ?_, fun b o e hx => ?_, fun b xs e => tups b xs (I.base.tups b xs e), fun b o xs e => frzs b o xs (I.base.frzs b o xs e), fun b ps e => ?_⟩, ?_, fun x c e => ?_, ?_, fun x c e => ?_, fun p hp => ?_, hok, I.len⟩
  · exact keep b o (neL b o e) hb (neC b o e hx) (I.base.keep b o e n hb hx) (I.base.free b o e n hx)
  · obtain ⟨sl, e1⟩ := I.base.slot b o e n hb hx
    obtain ⟨sl', e2⟩ := slot b _ (neL b o e) hb (neC b o e hx) e1 (I.base.free b o e n hx)
    exact ⟨sl', e2⟩
  · obtain ⟨o', e1⟩ := I.base.there b o e hx
    exact free b o' (neC b o e hx) e1 (I.base.free b o e n hx)
  · obtain ⟨o', e1⟩ := I.base.there b o e hx
    exact there b o' (neC b o e hx) e1
  · obtain ⟨m1, e1⟩ := I.base.tbls b ps e
    obtain ⟨m2, e2⟩ := tbls b _ e1
    exact ⟨m1 ++ m2, by rw [e2, Array.append_assoc]⟩
  · obtain ⟨m, hn, hl⟩ := I.loc
    refine ⟨m, ns m hn, fun i x v e1 e2 e3 => ?_⟩
    obtain ⟨u, r, l⟩ := hl i x v e1 e2 e3
    refine ⟨u, r, ?_⟩
    rcases l with l | ⟨k, c, e, z⟩
    · exact .inl l
    · exact .inr ⟨k, c, e, cellK x c e _ z⟩
  · obtain ⟨v, z⟩ := I.cell x c e
    exact ⟨v, cellK x c e v z⟩
  · obtain ⟨m, ⟨o, _, _, ho, _⟩, _⟩ := I.loc
    exact free _ o (fun z => (hch _ z).2.1 rfl) ho I.free
  · obtain ⟨v, o, ho, hd⟩ := I.cell x c e
    exact free c o (fun z => (hch c z).2.2.1 x c e rfl) ho (I.freeC x c e)
  · obtain ⟨e, n, ne, nf, d⟩ := I.pin p hp
    have nch : p.1 ∉ ch := fun z => (hch p.1 z).2.2.2 p hp rfl
    exact ⟨keep p.1 p.2 ne nf nch e n, free p.1 p.2 nch e n, ne, nf, d⟩
theorem Inv.un {t' : Nat} (I : Inv X pins σ H s) (u : Un X.fs [] H H' s.heap h') (hok : HOk X.prog X.w H' h') : Inv X pins σ H' { s with heap := h', toks := t' } := by
  obtain ⟨m, ⟨o, es, ep, ho, r⟩, _⟩ := id I.loc
  obtain ⟨sl, hL⟩ := u.any ho I.free (by simp)
  exact I.step (g' := s.gens) (d' := s.drawn) (ch := []) (fun _ z => nomatch z) (fun b o _ hb _ e n => u.keep b o e n hb (by simp)) (fun b o _ hb _ e n => u.slot b o e n hb (by simp)) (fun b o _ e n => u.free b o e n (by simp)) (fun b o _ e => u.there b o e (by simp)) u.tups u.frzs u.tbls (fun m' hm => by
    obtain ⟨o', es', ep', ho', r'⟩ := hm
    rw [ho] at ho'; cases ho'
    exact ⟨_, es', ep', hL, r'⟩) hok I.bare
theorem Inv.call {g' : Array GenState} {t' : Nat} {d' : Drawn} {ch : List Addr} (I : Inv X pins σ H s) (u : Un (frs X.stack) ch H H' s.heap h') (hok : HOk X.prog X.w H' h') (hg : AllBare g')
    (hch : ∀ b ∈ ch, (b ∈ X.ex ∨ X.s₀.heap.objs.size ≤ b) ∧ b ≠ X.env.locals ∧ (∀ x c, X.env.cells.lookup x = some c → c ≠ b) ∧ ∀ p ∈ X.pn ++ pins, p.1 ≠ b) :
    Inv X pins σ H' { s with heap := h', gens := g', drawn := d', toks := t' } := by
  obtain ⟨m, ⟨o, es, ep, ho, r⟩, _⟩ := id I.loc
  obtain ⟨sl, hL⟩ := u.any ho I.free fun z => (hch _ z).2.1 rfl
  exact I.step (ch := ch) hch (fun b o hL hb hc e n => u.keep b o e n (fun z => (List.mem_cons.mp (I.stkSub b z)).elim hL hb) hc) (fun b o _ _ hc e n => u.any e n hc) (fun b o hc e n => u.free b o e n hc) (fun b o hc e => u.there b o e hc) u.tups u.frzs u.tbls (fun m' hm => by
    obtain ⟨o', es', ep', ho', r'⟩ := hm
    rw [ho] at ho'; cases ho'
    exact ⟨_, es', ep', hL, r'⟩) hok hg
theorem Inv.turned {t' : Nat} {it : Addr} (I : Inv X pins σ H s) (k : ∀ b o, b ≠ it → s.heap.get? b = some o → h'.get? b = some o) (hn : H it = none) (hL : it ≠ X.env.locals)
    (h1 : it ∈ X.ex ∨ X.s₀.heap.objs.size ≤ it) (h2 : ∀ x c, X.env.cells.lookup x = some c → c ≠ it) (h3 : ∀ p ∈ X.pn ++ pins, p.1 ≠ it) : Inv X pins σ H { s with heap := h', toks := t' } := by
  have nit : ∀ b u, H b = some u → b ≠ it := fun b u e z => by rw [z, hn] at e; cases e
  refine I.step (g' := s.gens) (d' := s.drawn) (ch := [it]) (fun b hb => ?_) (fun b o _ _ hc e _ => k b o (fun z => hc (by simp [z])) e) (fun b o _ _ hc e _ => ⟨o.slots, k b o (fun z => hc (by simp [z])) e⟩) (fun _ _ _ _ n => n)
    (fun b o hc e => ⟨o, k b o (fun z => hc (by simp [z])) e⟩) (fun _ _ e => e) (fun _ _ _ e => e) (fun b ps e => ⟨#[], by rw [e]; simp⟩) (fun m hm => ?_) (fun b u e => ?_) I.bare
  · have e : b = it := by simpa using hb
    subst e
    exact ⟨h1, hL, h2, h3⟩
  · obtain ⟨o, es, ep, ho, r⟩ := hm
    exact ⟨o, es, ep, k _ o (Ne.symm hL) ho, r⟩
  · refine (I.hok b u e).stay (fun c v hc q => k c v ?_ q) (fun _ q => q) fun _ _ q => q
    rcases hc with z | z
    · rw [z]; exact nit b u e
    · exact nit c _ z
theorem Inv.tok (I : Inv X pins σ H s) (t : Nat) : Inv X pins σ H { s with toks := t } := I.un (h' := s.heap) (t' := t) Un.refl I.hok
theorem Inv.kept {t' : Nat} (I : Inv X pins σ H s) (k : ∀ b u, s.heap.get? b = some u → h'.get? b = some u) : Inv X pins σ H { s with heap := h', toks := t' } := I.un (Un.kept k) (I.hok.kept k)
theorem Inv.laid {a : Addr} {o : HO} {t' : Nat} (I : Inv X pins σ H s) (k : ∀ b u, s.heap.get? b = some u → h'.get? b = some u) (hp : s.heap.objs.size ≤ a) (new : ObjOk X.prog X.w (upd H a o) h' a o) :
    Inv X pins σ (upd H a o) { s with heap := h', toks := t' } := I.un (Un.laid k hp (I.hok.fresh hp)) (I.hok.laid k hp new)
theorem Inv.write {x e : Addr} {o : HO} {t' : Nat} (I : Inv X pins σ H s) (mu : Mut (H x)) (he : e = x ∨ H e = some (.own x)) (k : ∀ b u, b ≠ e → s.heap.get? b = some u → h'.get? b = some u) (heo : ∃ u, h'.get? e = some u)
    (new : ObjOk X.prog X.w (upd H x o) h' x o) : Inv X pins σ (upd H x o) { s with heap := h', toks := t' } := I.un (Un.write mu he k heo) (I.hok.write mu he k heo new)
theorem Inv.pins_of {pins' : List (Addr × Obj)} (I : Inv X pins σ H s) (h : ∀ p ∈ pins', s.heap.get? p.1 = some p.2 ∧ H p.1 = none ∧ p.1 ≠ X.env.locals ∧ p.1 ∉ X.fs ∧ ∀ v, p.2.data ≠ .cell v) : Inv X pins' σ H s :=
  ⟨I.ok, I.os, I.bare, I.base, I.loc, I.cell, I.free, I.freeC, fun p hp => (List.mem_append.mp hp).elim (fun z => I.pin p (List.mem_append_left _ z)) (h p), I.hok, I.len⟩
theorem nodup_ix {N : List Str} (hN : N.Nodup) {i j : Nat} {x : Str} (a : N[i]? = some x) (b : N[j]? = some x) : i = j := by
  obtain ⟨h1, e1⟩ := List.getElem?_eq_some_iff.mp a
  obtain ⟨h2, e2⟩ := List.getElem?_eq_some_iff.mp b
  exact (List.getElem_inj hN).mp (e1.trans e2.symm)
theorem store_ok2 {M : Model} {A : Around} {E : Value → Shared → Prop} {i : Nat} {x : Str} {v : V} {u : Value} {Q : Unit → Shared → Prop} (I : Inv X pins σ H s) (hN : X.N.Nodup) (hi : X.N[i]? = some x) (hx : Loc X.env.scope x) (r : RelV v u)
    (h : ∀ s', Inv X pins (σ.set i (some v)) H s' → (∃ a, Heap.SameBut a s.heap s'.heap ∧ (a = X.env.locals ∨ X.env.cells.lookup x = some a)) → Q () s') (hf : X.fn x = true ∨ X.env.scope.names.lookup x = some .local := by first | exact .inl rfl | exact .inr rfl | assumption) : wpAny M A (storeName X.env x u) Q E s := by
  obtain ⟨m, hn, hl⟩ := id I.loc
  have hcls : (X.env.scope.kind == .class || (X.env.scope.kind == .module && X.env.locals != X.env.globals)) = false := by rw [I.ok.kind]; rfl
  have hiσ : i < σ.length := by rw [I.len]; exact (List.getElem?_eq_some_iff.mp hi).1
  have cne := I.cne
  have tracked : ∀ {a : Addr} {h' : Heap}, (∃ o, s.heap.get? a = some o ∧ H a = none) → Heap.SameBut a s.heap h' → HOk X.prog X.w H h' := fun {a h'} ha hs b ob e => by
    obtain ⟨_, _, hfree⟩ := ha
    refine (I.hok b ob e).stay (fun c w' hc q => (hs.2 c ?_).trans q) (fun _ q => q) fun _ _ q => q
    rintro rfl
    rcases hc with rfl | hc
    · rw [hfree] at e; cases e
    · rw [hfree] at hc; cases hc
  rcases hx with hk | hk
  · refine wpAny_storeName_local hk hn (fun h' hn' hs => ?_) hcls
    obtain ⟨oL, _, _, hoL, _⟩ := id hn
    refine h _ ⟨I.ok, I.os, I.bare, ⟨fun b o e n hb hx => ?_, fun b o e n hb hx => ?_, I.base.free, fun b o e hx => ?_, I.base.tups, I.base.frzs, I.base.tbls⟩, ⟨_, hn', fun j y v' e1 e2 e3 => ?_⟩, fun y c e => ?_, I.free, I.freeC, fun p hp => ?_, tracked ⟨oL, hoL, I.free⟩ hs, by simpa using I.len⟩ ⟨_, hs, .inl rfl⟩
    · exact (hs.2 b (Nat.ne_of_lt (Nat.lt_of_lt_of_le (Heap.lt_size e) I.ok.above))).trans (I.base.keep b o e n hb hx)
    · obtain ⟨sl, e1⟩ := I.base.slot b o e n hb hx
      exact ⟨sl, (hs.2 b (Nat.ne_of_lt (Nat.lt_of_lt_of_le (Heap.lt_size e) I.ok.above))).trans e1⟩
    · obtain ⟨o', e1⟩ := I.base.there b o e hx
      exact ⟨o', (hs.2 b (Nat.ne_of_lt (Nat.lt_of_lt_of_le (Heap.lt_size e) I.ok.above))).trans e1⟩
    · by_cases hj : j = i
      · subst hj
        rw [hi] at e1; cases e1
        rw [List.getElem?_set_self hiσ] at e2
        cases e2
        exact ⟨u, r, .inl ⟨hk, by simp⟩⟩
      · rw [List.getElem?_set_ne (Ne.symm hj)] at e2
        obtain ⟨u', r', q⟩ := hl j y v' e1 e2 e3
        refine ⟨u', r', ?_⟩
        rcases q with ⟨k, e⟩ | ⟨k, c, e, z⟩
        · refine .inl ⟨k, ?_⟩
          have : y ≠ x := fun e => hj (nodup_ix hN e1 (e ▸ hi))
          simp [this, e]
        · exact .inr ⟨k, c, e, z.sameBut hs (cne y c e)⟩
    · obtain ⟨w', z⟩ := I.cell y c e
      exact ⟨w', z.sameBut hs (cne y c e)⟩
    · obtain ⟨e, n, ne, nf, d⟩ := I.pin p hp
      exact ⟨(hs.2 p.1 ne).trans e, n, ne, nf, d⟩
  · have hfn : X.fn x = true := by
      rcases hf with z | z
      · exact z
      · rw [z] at hk; cases hk
    obtain ⟨c, hc⟩ := I.ok.has x (.inl hk)
    obtain ⟨w', z⟩ := I.cell x c hc
    refine wpAny_storeName_cell I.ok.kind hk hc z (fun h' hc' hs => ?_)
    obtain ⟨oc, hoc, hocd⟩ := id z
    refine h { s with heap := h' } ⟨I.ok, I.os, I.bare, ⟨fun b o e n hb hx => ?_, fun b o e n hb hx => ?_, I.base.free, fun b o e hx => ?_, I.base.tups, I.base.frzs, I.base.tbls⟩, ⟨m, hn.sameBut hs (Ne.symm (cne x c hc)), fun j y v' e1 e2 e3 => ?_⟩, fun y c' e => ?_, I.free, I.freeC, fun p hp => ?_, tracked ⟨oc, hoc, I.freeC x c hc⟩ hs, by simpa using I.len⟩ ⟨c, hs, .inr hc⟩
    · exact (hs.2 b (Nat.ne_of_lt (Nat.lt_of_lt_of_le (Heap.lt_size e) (I.ok.cab x c hfn hc)))).trans (I.base.keep b o e n hb hx)
    · obtain ⟨sl, e1⟩ := I.base.slot b o e n hb hx
      exact ⟨sl, (hs.2 b (Nat.ne_of_lt (Nat.lt_of_lt_of_le (Heap.lt_size e) (I.ok.cab x c hfn hc)))).trans e1⟩
    · obtain ⟨o', e1⟩ := I.base.there b o e hx
      exact ⟨o', (hs.2 b (Nat.ne_of_lt (Nat.lt_of_lt_of_le (Heap.lt_size e) (I.ok.cab x c hfn hc)))).trans e1⟩
    · by_cases hj : j = i
      · subst hj
        rw [hi] at e1; cases e1
        rw [List.getElem?_set_self hiσ] at e2
        cases e2
        exact ⟨u, r, .inr ⟨.inl hk, c, hc, hc'⟩⟩
      · rw [List.getElem?_set_ne (Ne.symm hj)] at e2
        obtain ⟨u', r', q⟩ := hl j y v' e1 e2 e3
        refine ⟨u', r', ?_⟩
        rcases q with q | ⟨k, c', e, z'⟩
        · exact .inl q
        · refine .inr ⟨k, c', e, z'.sameBut hs ?_⟩
          rintro rfl
          exact hj (nodup_ix hN e1 (I.ok.inj _ _ _ e hc ▸ hi))
    · by_cases hcc : c' = c
      · subst hcc; exact ⟨_, hc'⟩
      · obtain ⟨w2, z2⟩ := I.cell y c' e
        exact ⟨w2, z2.sameBut hs hcc⟩
    · obtain ⟨e, n, ne, nf, d⟩ := I.pin p hp
      refine ⟨(hs.2 p.1 ?_).trans e, n, ne, nf, d⟩
      intro q
      rw [q, hoc] at e
      have q' : oc = p.2 := Option.some.inj e
      exact d w' (by rw [← q']; exact hocd)
theorem store_ok {M : Model} {A : Around} {E : Value → Shared → Prop} {i : Nat} {x : Str} {v : V} {u : Value} {Q : Unit → Shared → Prop} (I : Inv X pins σ H s) (hN : X.N.Nodup) (hi : X.N[i]? = some x) (hx : Loc X.env.scope x) (r : RelV v u)
    (h : ∀ s', Inv X pins (σ.set i (some v)) H s' → Q () s') (hf : X.fn x = true ∨ X.env.scope.names.lookup x = some .local := by first | exact .inl rfl | exact .inr rfl | assumption) : wpAny M A (storeName X.env x u) Q E s :=
  store_ok2 I hN hi hx r (fun s' I' _ => h s' I') hf
theorem Inv.call' {s' : Shared} {ch : List Addr} (I : Inv X pins σ H s) (ho : s'.os = s.os) (u : Un (frs X.stack) ch H H' s.heap s'.heap) (hok : HOk X.prog X.w H' s'.heap) (hg : AllBare s'.gens)
    (hch : ∀ b ∈ ch, (b ∈ X.ex ∨ X.s₀.heap.objs.size ≤ b) ∧ b ≠ X.env.locals ∧ (∀ x c, X.env.cells.lookup x = some c → c ≠ b) ∧ ∀ p ∈ X.pn ++ pins, p.1 ≠ b) : Inv X pins σ H' s' := by
  obtain ⟨h', g', d', t', o'⟩ := s'
  have e : o' = s.os := ho
  subst e
  exact I.call (g' := g') (t' := t') (d' := d') u hok hg hch
end
abbrev XK := Value → Option Addr → Hp → Prop
abbrev St := List (Option V)
abbrev VK := V → Hp → Prop
abbrev TE := St → Hp → VK → Prop
abbrev TT := St → Hp → (Bool → Hp → Prop) → Prop
abbrev TA := St → Hp → (List V → Hp → Prop) → Prop
structure Ends where
  nx : St → Hp → Prop
  rt : VK
  bk : St → Hp → Prop := fun _ _ => False
  ct : St → Hp → Prop := fun _ _ => False
abbrev TS := Ends → St → Hp → Prop
def EP (X : Cx) (pins : List (Addr × Obj)) (σ : St) (Q : VK) (u : Value) (s' : Shared) : Prop := ∃ v H', Inv X pins σ H' s' ∧ RelV v u ∧ Q v H'
def TP (X : Cx) (pins : List (Addr × Obj)) (σ : St) (Q : Bool → Hp → Prop) (b : Bool) (s' : Shared) : Prop := ∃ H', Inv X pins σ H' s' ∧ Q b H'
def AP (X : Cx) (pins : List (Addr × Obj)) (σ : St) (Q : List V → Hp → Prop) (us : List Value) (s' : Shared) : Prop := ∃ vs H', Inv X pins σ H' s' ∧ Vals vs us ∧ Q vs H'
def SP (X : Cx) (pins : List (Addr × Obj)) (D : Ends) (f : Flow) (s' : Shared) : Prop :=
  match f with
  | .next => ∃ σ' H', Inv X pins σ' H' s' ∧ D.nx σ' H'
  | .brk => ∃ σ' H', Inv X pins σ' H' s' ∧ D.bk σ' H'
  | .cont => ∃ σ' H', Inv X pins σ' H' s' ∧ D.ct σ' H'
  | .ret u => ∃ v σ' H', Inv X pins σ' H' s' ∧ RelV v u ∧ D.rt v H'
def PE (X : Cx) (e : Expr) (t : TE) : Prop :=
  ∀ (pins : List (Addr × Obj)) (s : Shared) (σ : St) (H : Hp) (Q : VK), Inv X pins σ H s → t σ H Q → wpAny (model X.prog X.w) X.A (eval e X.env) (EP X pins σ Q) X.xe s
def PT (X : Cx) (e : Expr) (t : TT) : Prop :=
  ∀ (pins : List (Addr × Obj)) (s : Shared) (σ : St) (H : Hp) (Q : Bool → Hp → Prop), Inv X pins σ H s → t σ H Q → wpAny (model X.prog X.w) X.A (isTrue e X.env (eval e X.env)) (TP X pins σ Q) X.xe s
def PW (X : Cx) (e : Expr) (t : TT) : Prop :=
  ∀ (whole : Sem Value) (pins : List (Addr × Obj)) (s : Shared) (σ : St) (H : Hp) (Q : Bool → Hp → Prop), Inv X pins σ H s → t σ H Q → wpAny (model X.prog X.w) X.A (isTrue e X.env whole) (TP X pins σ Q) X.xe s
theorem PW.pt {X : Cx} {e : Expr} {t : TT} (h : PW X e t) : PT X e t := h _
def PA (X : Cx) (es : List Expr) (t : TA) : Prop :=
  ∀ (pos : Pos) (pins : List (Addr × Obj)) (s : Shared) (σ : St) (H : Hp) (Q : List V → Hp → Prop), Inv X pins σ H s → t σ H Q → wpAny (model X.prog X.w) X.A (spliced (backTo pos (starEach es X.env))) (AP X pins σ Q) X.xe s
def PS (X : Cx) (st : Stmt) (t : TS) : Prop :=
  ∀ (pins : List (Addr × Obj)) (s : Shared) (σ : St) (H : Hp) (D : Ends), Inv X pins σ H s → t D σ H → wpAny (model X.prog X.w) X.A (exec st X.env) (SP X pins D) X.xe s
def PSs (X : Cx) (st : List Stmt) (t : TS) : Prop :=
  ∀ (pins : List (Addr × Obj)) (s : Shared) (σ : St) (H : Hp) (D : Ends), Inv X pins σ H s → t D σ H → wpAny (model X.prog X.w) X.A (execs st X.env) (SP X pins D) X.xe s
theorem thn {α : Type} {t : Sem α} {Q Q' : α → Shared → Prop} {M : Model} {A : Around} {E : Value → Shared → Prop} {s : Shared} (h : wpAny M A t Q E s) (hQ : ∀ a s, Q a s → Q' a s) : wpAny M A t Q' E s := wpAny_mono h hQ fun _ _ x => x
end L2
namespace L2
open PySem PySem.Spec PyProof.Rows
section
variable {X : Cx}
theorem bin {a b : Expr} {ta tb : TE} (ha : PE X a ta) (hb : PE X b tb) {pins : List (Addr × Obj)} {s : Shared} {σ : St} {H : Hp} {R : V → V → Hp → Prop} (I : Inv X pins σ H s) (h : ta σ H fun x H1 => tb σ H1 fun y H2 => R x y H2)
    {α : Type} {Q : α → Shared → Prop} {f : Value → Value → Sem α}
    (hf : ∀ v u s2 x y H2, Inv X pins σ H2 s2 → RelV x v → RelV y u → R x y H2 → wpAny (model X.prog X.w) X.A (f v u) Q X.xe s2) :
    wpAny (model X.prog X.w) X.A (eval a X.env) (fun v s₁ => wpAny (model X.prog X.w) X.A (eval b X.env) (fun u s₂ => wpAny (model X.prog X.w) X.A (f v u) Q X.xe s₂) X.xe s₁) X.xe s := by
  refine thn (ha pins s σ H _ I h) fun v s1 ⟨x, H1, I1, r1, q1⟩ => ?_
  refine thn (hb pins s1 σ H1 _ I1 q1) fun u s2 ⟨y, H2, I2, r2, q2⟩ => ?_
  exact hf v u s2 x y H2 I2 r1 r2 q2
def tVar (i : Nat) : TE := fun σ H Q => ∃ v, σ[i]? = some (some v) ∧ Q v H
def tC (v : V) : TE := fun _ H Q => Q v H
theorem pe_var {i : Nat} {x : Str} {pos : Pos} (hN : X.N[i]? = some x) (hv : Vis X.env.scope x) (hd : (x == ("__debug__" : Str)) = false := by decide) (hcd : (x == ("__classdict__" : Str)) = false := by decide) : PE X (.Name x pos) (tVar i) := by
  intro pins s σ H Q I h
  obtain ⟨v, e, h⟩ := h
  obtain ⟨m, hn, hl⟩ := I.loc
  obtain ⟨u, r, l⟩ := hl i x v hN e hv
  have fin : EP X pins σ Q u s := ⟨v, H, I, r, h⟩
  rcases l with ⟨hk, hm⟩ | ⟨hk, c, hc, hcell⟩
  · exact wpAny_Name (wpAny_loadName_local I.ok.kind hk hn hm fin) hd
  · rcases hk with hk | hk
    · exact wpAny_Name (wpAny_loadName_cell I.ok.kind hk hc hcell fin) hd
    · exact wpAny_Name (wpAny_loadName_free I.ok.kind hk hc hcell fin hcd) hd
theorem pe_int {i j pos} : PE X (.Constant (.int i) j pos) (tC (.int i)) := fun _ _ _ H _ I h => wpAny_Constant_int ⟨.int i, H, I.tok _, ⟨_, rfl⟩, h⟩
theorem pe_bl {b j pos} : PE X (.Constant (.bool b) j pos) (tC (.bl b)) := fun _ _ _ H _ I h => Constant_bool ⟨.bl b, H, I, rfl, h⟩
theorem pe_non {j pos} : PE X (.Constant .none j pos) (tC .non) := fun _ _ _ H _ I h => Constant_none ⟨.non, H, I, rfl, h⟩
theorem pe_str {x j pos} : PE X (.Constant (.str x) j pos) (tC (.str x)) := fun _ _ _ H _ I h => Calls.Constant_str ⟨.str x, H, I.tok _, ⟨_, rfl⟩, h⟩
def Gl (X : Cx) (x : Str) : Prop := X.env.kindOf x = some .globalImplicit
theorem ld_glob {E : Value → Shared → Prop} {pins : List (Addr × Obj)} {s : Shared} {σ : St} {H : Hp} {x : Str} {u : Value} {pos : Pos} {Q : Value → Shared → Prop} (I : Inv X pins σ H s) (hg : Gl X x) (hm : X.mg x = some u) (h : Q u s)
    (hd : (x == ("__debug__" : Str)) = false := by decide) : wpAny (model X.prog X.w) X.A (eval (.Name x pos) X.env) Q E s :=
  Calls.Name_function_global I.ok.kind hg (Calls.loadGlobal_global (by rw [I.ok.glob]; exact I.mod.glob.keeps I.bk) hm h) hd
theorem ld_blt {E : Value → Shared → Prop} {pins : List (Addr × Obj)} {s : Shared} {σ : St} {H : Hp} {x : Str} {u : Value} {pos : Pos} {Q : Value → Shared → Prop} (I : Inv X pins σ H s) (hg : Gl X x) (hm : X.mg x = none) (hv : bootBuiltins x = some u) (h : Q u s)
    (hn : x ≠ "__name__" := by decide) (hd : (x == ("__debug__" : Str)) = false := by decide) : wpAny (model X.prog X.w) X.A (eval (.Name x pos) X.env) Q E s := by
  obtain ⟨mb, h1, h2⟩ := I.mod.blt
  exact Calls.Name_function_global I.ok.kind hg (Calls.loadGlobal_builtin (by rw [I.ok.glob]; exact I.mod.glob.keeps I.bk) hm (by rw [I.ok.blt]; exact h1.keeps I.bk) ((h2 x hn).trans hv) h) hd
theorem pe_glob {x : Str} {v : V} {u : Value} {pos : Pos} (hg : Gl X x) (hm : X.mg x = some u) (r : RelV v u) (hd : (x == ("__debug__" : Str)) = false := by decide) : PE X (.Name x pos) (tC v) :=
  fun _ _ _ H _ I h => ld_glob I hg hm ⟨v, H, I, r, h⟩ hd
theorem pe_bltn {x : Str} {v : V} {u : Value} {pos : Pos} (hg : Gl X x) (hm : X.mg x = none) (hv : bootBuiltins x = some u) (r : RelV v u) (hn : x ≠ "__name__" := by decide) (hd : (x == ("__debug__" : Str)) = false := by decide) : PE X (.Name x pos) (tC v) :=
  fun _ _ _ H _ I h => ld_blt I hg hm hv ⟨v, H, I, r, h⟩ hn hd
def t2I (ta tb : TE) (k : Int → Int → Hp → Prop) : St → Hp → Prop := fun σ H => ta σ H fun x H1 => tb σ H1 fun y H2 => ∃ i j, x = .int i ∧ y = .int j ∧ k i j H2
def tAdd (ta tb : TE) : TE := fun σ H Q => t2I ta tb (fun i j H2 => Q (.int (i + j)) H2) σ H
def tSub (ta tb : TE) : TE := fun σ H Q => t2I ta tb (fun i j H2 => Q (.int (i - j)) H2) σ H
def tMul (ta tb : TE) : TE := fun σ H Q => t2I ta tb (fun i j H2 => (-(2 ^ 64) < i ∧ i < 2 ^ 64) ∧ Q (.int (i * j)) H2) σ H
variable {a b : Expr} {ta tb : TE} {pos : Pos}
def PC (X : Cx) (op : CmpOp) (a b : Expr) (t : TE) : Prop :=
  ∀ (pins : List (Addr × Obj)) (s : Shared) (σ : St) (H : Hp) (Q : VK), Inv X pins σ H s → t σ H Q →
    wpAny (model X.prog X.w) X.A (eval a X.env) (fun v s₁ => wpAny (model X.prog X.w) X.A (eval b X.env) (fun u s₂ => wpAny (model X.prog X.w) X.A (compareOp op v u) (EP X pins σ Q) X.xe s₂) X.xe s₁) X.xe s
theorem nobehind (b : Expr) {op : CmpOp} (h : op ≠ .In) (h2 : op ≠ .NotIn) : behindInMarks op b = false := by
  have e1 : (op == CmpOp.In) = false := by cases op <;> first | rfl | exact absurd rfl h
  have e2 : (op == CmpOp.NotIn) = false := by cases op <;> first | rfl | exact absurd rfl h2
  cases b <;> simp [behindInMarks, e1, e2]
def tCmp (p : Int → Int → Bool) (ta tb : TE) : TE := fun σ H Q => t2I ta tb (fun i j H2 => Q (.bl (p i j)) H2) σ H
abbrev tLt : TE → TE → TE := tCmp fun i j => decide (i < j)
abbrev tLe : TE → TE → TE := tCmp fun i j => decide (i ≤ j)
abbrev tGt : TE → TE → TE := tCmp fun i j => decide (j < i)
abbrev tGe : TE → TE → TE := tCmp fun i j => decide (j ≤ i)
abbrev tEqI : TE → TE → TE := tCmp fun i j => decide (i = j)
abbrev tNeI : TE → TE → TE := tCmp fun i j => !decide (i = j)
def tIsN (ta : TE) : TE := fun σ H Q => ta σ H fun x H1 => Q (.bl (decide (x = .non))) H1
def tNotN (ta : TE) : TE := fun σ H Q => ta σ H fun x H1 => Q (.bl (!decide (x = .non))) H1
theorem RelV.none_iff {x : V} {v : Value} (r : RelV x v) : (v == Value.none) = decide (x = .non) := by
  cases x with
  | non => cases r; rfl
  | bl _ => cases r; rfl
  | int _ => obtain ⟨t, rfl⟩ := r; rfl
  | str _ => obtain ⟨t, rfl⟩ := r; rfl
  | byt _ => obtain ⟨t, rfl⟩ := r; rfl
  | flt _ => obtain ⟨t, rfl⟩ := r; rfl
  | ref _ => cases r; rfl
  | ty _ => cases r; rfl
theorem pc_isN {j pos'} (ha : PE X a ta) : PC X .Is a (.Constant .none j pos') (tIsN ta) := by
  intro pins s σ H Q I h
  refine thn (ha pins s σ H _ I h) fun v s1 ⟨x, H1, I1, r1, q1⟩ => ?_
  exact Constant_none (is_none_gen ⟨.bl _, H1, I1, by rw [r1.none_iff]; rfl, q1⟩)
def tB (t : TE) : TT := fun σ H Q => t σ H fun x H1 => ∃ c, x = .bl c ∧ Q c H1
theorem pt_cmp {op : CmpOp} {t : TE} (h : PC X op a b t) (h1 : behindInMarks op b = false := by first | exact nobehind _ (by decide) (by decide) | rfl) : PT X (.Compare a [op] [b] pos) (tB t) := by
  intro pins s σ H Q I hw
  refine wpAny_isTrue_Compare1 (thn (h pins s σ H _ I hw) fun v s1 h1 => thn h1 fun u s2 h2 => thn h2 fun c s3 ⟨x, H1, I1, r1, q1⟩ => ?_) h1
  obtain ⟨d, rfl, q⟩ := q1
  cases r1
  exact wpAny_truthy_bool ⟨H1, I1, q⟩
theorem pt_val {e : Expr} {t : TE} (h : PE X e t) (he : ∀ whole, isTrue e X.env whole = (do let v ← whole; standAt e.pos; holding [v] (truthy v)) := by intro _; rfl) : PT X e (tB t) := by
  intro pins s σ H Q I hw
  refine isTrue_plain (thn (h pins s σ H _ I hw) fun v s1 ⟨x, H1, I1, r1, q1⟩ => ?_) (he _)
  obtain ⟨d, rfl, q⟩ := q1
  cases r1
  exact wpAny_truthy_bool ⟨H1, I1, q⟩
variable {tA tB' : TT} {rest : List Expr}
def tAnd (t u : TT) : TT := fun σ H Q => t σ H fun c H1 => if c = true then u σ H1 Q else Q false H1
def tOr (t u : TT) : TT := fun σ H Q => t σ H fun c H1 => if c = true then Q true H1 else u σ H1 Q
def tNot (t : TT) : TT := fun σ H Q => t σ H fun c H1 => Q (!c) H1
theorem pw_or1 (ha : PT X a tA) : PW X (.BoolOp .Or [a] pos) tA := by
  intro wh pins s σ H Q I h
  refine isTrue_or (thn (ha pins s σ H Q I h) fun c s1 e => ?_)
  cases c with
  | false => exact isTrue_or_nil e
  | true => exact e
theorem pw_or (ha : PT X a tA) (hb : PW X (.BoolOp .Or (b :: rest) pos) tB') : PW X (.BoolOp .Or (a :: b :: rest) pos) (tOr tA tB') := by
  intro wh pins s σ H Q I h
  refine isTrue_or (thn (ha pins s σ H _ I h) fun c s1 ⟨H1, I1, q1⟩ => ?_)
  cases c with
  | true => exact ⟨H1, I1, q1⟩
  | false => exact hb wh pins s1 σ H1 Q I1 q1
theorem pt_not (ha : PT X a tA) : PT X (.UnaryOp .Not a pos) (tNot tA) := by
  intro pins s σ H Q I h
  exact isTrue_not (ha pins s σ H (fun c H1 => Q (!c) H1) I h)
def tAndV (ta tb : TE) : TE := fun σ H Q => ta σ H fun x H1 => ∃ c, x = .bl c ∧ if c = true then tb σ H1 Q else Q (.bl false) H1
def tOrV (ta tb : TE) : TE := fun σ H Q => ta σ H fun x H1 => ∃ c, x = .bl c ∧ if c = true then Q (.bl true) H1 else tb σ H1 Q
def tNotV (ta : TE) : TE := fun σ H Q => ta σ H fun x H1 => ∃ c, x = .bl c ∧ Q (.bl (!c)) H1
theorem pe_one {op} {t : TE} (h : PE X a t) : PE X (.BoolOp op [a] pos) t := fun pins s σ H Q I hw => BoolOp_one (h pins s σ H Q I hw)
theorem pe_and (ha : PE X a ta) (hb : PE X (.BoolOp .And (b :: rest) pos) tb) : PE X (.BoolOp .And (a :: b :: rest) pos) (tAndV ta tb) := by
  intro pins s σ H Q I h
  refine BoolOp_and (thn (ha pins s σ H _ I h) fun v s1 ⟨x, H1, I1, r1, q1⟩ => ?_)
  obtain ⟨c, rfl, q1⟩ := q1
  cases r1
  refine wpAny_truthy_bool ?_
  cases c with
  | true => exact hb pins s1 σ H1 Q I1 q1
  | false => exact ⟨.bl false, H1, I1, rfl, q1⟩
def tIf (t : TT) (ta tb : TE) : TE := fun σ H Q => t σ H fun c H1 => if c = true then ta σ H1 Q else tb σ H1 Q
theorem pe_ifExp {c : Expr} (hc : PT X c tA) (ha : PE X a ta) (hb : PE X b tb) : PE X (.IfExp c a b pos) (tIf tA ta tb) := by
  intro pins s σ H Q I h
  refine wpAny_IfExp (thn (hc pins s σ H _ I h) fun d s1 ⟨H1, I1, q1⟩ => ?_)
  cases d with
  | true => exact ha pins s1 σ H1 Q I1 q1
  | false => exact hb pins s1 σ H1 Q I1 q1
end
end L2
namespace L2
open PySem PySem.Spec PyProof.Rows
def SqL (K : PySem.W.Frag) (H : Hp) (a : Addr) (xs : List V) : Prop :=
  Rd H a (.lst xs) ∨
    ∃ (o : Obj) (its : Array Value) (n : Nat), K.lookup a = some o ∧ o.cls = .type "list" ∧ o.dict = none ∧ o.data = .seq its n ∧ its.size ≤ sizeLine ∧ Vals xs its.toList
def SqT (K : PySem.W.Frag) (H : Hp) (a : Addr) (xs : List V) : Prop :=
  Rd H a (.tup xs) ∨
    ∃ (o : Obj) (its : Array Value) (n : Nat), K.lookup a = some o ∧ o.cls = .type "tuple" ∧ o.data = .seq its n ∧ its.size ≤ sizeLine ∧ Vals xs its.toList
def absV : Value → Option V
  | .none => some .non
  | .bool b => some (.bl b)
  | .int i _ => some (.int i)
  | .str x _ => some (.str x)
  | .bytes b _ => some (.byt b)
  | .float b _ => some (.flt b)
  | .ref a => some (.ref a)
  | .type n => some (.ty n)
  | _ => none
theorem RelV.abs {x : V} {u : Value} (r : RelV x u) : absV u = some x := by
  cases x with
  | non => cases r; rfl
  | bl _ => cases r; rfl
  | int _ => obtain ⟨t, rfl⟩ := r; rfl
  | str _ => obtain ⟨t, rfl⟩ := r; rfl
  | byt _ => obtain ⟨t, rfl⟩ := r; rfl
  | flt _ => obtain ⟨t, rfl⟩ := r; rfl
  | ref _ => cases r; rfl
  | ty _ => cases r; rfl
theorem RelV.inj {x y : V} {u : Value} (r : RelV x u) (q : RelV y u) : x = y := Option.some.inj (r.abs.symm.trans q.abs)
theorem Vals.inj : ∀ {xs ys : List V} {us : List Value}, Vals xs us → Vals ys us → xs = ys
  | _, _, _, .nil, .nil => rfl
  | _, _, _, .cons r t, .cons r' t' => by rw [r.inj r', Vals.inj t t']
section
variable {X : Cx} {pins : List (Addr × Obj)} {σ : St} {H : Hp} {s : Shared} {a : Addr} {xs ys : List V}
theorem SqL.of {K : PySem.W.Frag} (h : H a = some (.lst xs)) : SqL K H a xs := .inl (.inl h)
theorem SqT.of {K : PySem.W.Frag} (h : H a = some (.tup xs)) : SqT K H a xs := .inl (.inl h)
theorem Inv.list (I : Inv X pins σ H s) (h : SqL X.K H a xs) : ∃ its : List Value, Vals xs its ∧ PlainL s.heap a its.toArray ∧ xs.length ≤ sizeLine := by
  rcases h with h | ⟨o, its, n, hk, hc, hd, hs, hz, r⟩
  · obtain ⟨z, its, n, r, e⟩ := h.ok I.hok
    exact ⟨its, r, ⟨_, n, e, rfl, rfl, rfl⟩, z⟩
  · refine ⟨its.toList, r, ⟨o, n, I.kIn a o hk, hc, hd, by simpa using hs⟩, ?_⟩
    have e := r.length
    simp only [Array.length_toList] at e
    omega
theorem Inv.tuple (I : Inv X pins σ H s) (h : SqT X.K H a xs) : ∃ its : List Value, Vals xs its ∧ IsTup s.heap a its.toArray ∧ xs.length ≤ sizeLine := by
  rcases h with h | ⟨o, its, n, hk, hc, hs, hz, r⟩
  · obtain ⟨z, its, r, p⟩ := h.ok I.hok
    exact ⟨its, r, p, z⟩
  · refine ⟨its.toList, r, ⟨o, I.kIn a o hk, hc, n, by simpa using hs⟩, ?_⟩
    have e := r.length
    simp only [Array.length_toList] at e
    omega
theorem Inv.list_inj (I : Inv X pins σ H s) (h : SqL X.K H a xs) (h' : SqL X.K H a ys) : xs = ys := by
  obtain ⟨its, r, ⟨o, n, e, _, _, d⟩, _⟩ := I.list h
  obtain ⟨its', r', ⟨o', n', e', _, _, d'⟩, _⟩ := I.list h'
  rw [e] at e'; cases e'
  rw [d] at d'
  injection d' with d1 _
  have : its = its' := by simpa using congrArg Array.toList d1
  subst this
  exact r.inj r'
end
abbrev Cx.wish (X : Cx) (E : Value → Shared → Prop) : Cx := { X with xe := E }
abbrev Cx.nox (X : Cx) : Cx := X.wish fun _ _ => False
theorem Cx.Ok.wish {X : Cx} (ok : X.Ok) (E : Value → Shared → Prop) : (X.wish E).Ok :=
  ⟨ok.mod, ok.kind, ok.glob, ok.blt, ok.above, ok.inj, ok.has, ok.cab, ok.hd, ok.frames, ok.stk, ok.exf, ok.bs, ok.bsz, ok.noex, ok.exfs, ok.funs, ok.frf⟩
theorem Cx.Ok.unwish {X : Cx} {E : Value → Shared → Prop} (ok : (X.wish E).Ok) : X.Ok :=
  ⟨ok.mod, ok.kind, ok.glob, ok.blt, ok.above, ok.inj, ok.has, ok.cab, ok.hd, ok.frames, ok.stk, ok.exf, ok.bs, ok.bsz, ok.noex, ok.exfs, ok.funs, ok.frf⟩
section
variable {X : Cx} {pins : List (Addr × Obj)} {σ : St} {H : Hp} {s : Shared} {E : Value → Shared → Prop}
theorem Inv.wish (I : Inv X pins σ H s) (E : Value → Shared → Prop) : Inv (X.wish E) pins σ H s := ⟨I.ok.wish E, I.os, I.bare, I.base, I.loc, I.cell, I.free, I.freeC, I.pin, I.hok, I.len⟩
theorem Inv.unwish (I : Inv (X.wish E) pins σ H s) : Inv X pins σ H s := ⟨I.ok.unwish, I.os, I.bare, I.base, I.loc, I.cell, I.free, I.freeC, I.pin, I.hok, I.len⟩
theorem SP.unwish {D : Ends} {f : Flow} {s' : Shared} (h : SP (X.wish E) pins D f s') : SP X pins D f s' := by
  cases f with
  | next => obtain ⟨σ', H', I, q⟩ := h; exact ⟨σ', H', I.unwish, q⟩
  | brk => obtain ⟨σ', H', I, q⟩ := h; exact ⟨σ', H', I.unwish, q⟩
  | cont => obtain ⟨σ', H', I, q⟩ := h; exact ⟨σ', H', I.unwish, q⟩
  | ret u => obtain ⟨v, σ', H', I, r, q⟩ := h; exact ⟨v, σ', H', I.unwish, r, q⟩
theorem PSs.nox {st : List Stmt} {t : TS} (h : PSs X.nox st t) : PSs X st t := fun pins s σ H D I hw =>
  wpAny_mono (h pins s σ H D (I.wish _) hw) (fun _ _ q => q.unwish) fun _ _ z => False.elim z
end
section
variable {X : Cx} {st : Stmt} {rest : List Stmt} {t u : TS} {e : Expr} {te : TE} {pos : Pos}
def tNext : TS := fun D σ H => D.nx σ H
def tSeq (t u : TS) : TS := fun D σ H => t { D with nx := u D } σ H
theorem pss_nil : PSs X [] tNext := fun _ _ σ H _ I h => wpAny_execs_nil ⟨σ, H, I, h⟩
theorem pss_cons (h1 : PS X st t) (h2 : PSs X rest u) : PSs X (st :: rest) (tSeq t u) := by
  intro pins s σ H D I h
  refine wpAny_execs_cons (thn (h1 pins s σ H { D with nx := u D } I h) fun f s1 q => ?_)
  cases f with
  | next =>
    obtain ⟨σ', H', I', q⟩ := q
    exact h2 pins s1 σ' H' D I' q
  | ret v => exact q
  | brk => exact q
  | cont => exact q
theorem pss_one (h1 : PS X st t) : PSs X [st] t := by
  intro pins s σ H D I h
  refine wpAny_execs_cons (thn (h1 pins s σ H D I h) fun f s1 q => ?_)
  cases f with
  | next => exact wpAny_execs_nil q
  | ret v => exact q
  | brk => exact q
  | cont => exact q
def tBreak : TS := fun D σ H => D.bk σ H
def tCont : TS := fun D σ H => D.ct σ H
theorem Inv.quiet {pins : List (Addr × Obj)} {σ : St} {H : Hp} {s : Shared} (I : Inv X pins σ H s) : interactive X.env = false := by simp [interactive, I.ok.kind]
def tDrop (te : TE) : TS := fun D σ H => te σ H fun _ H1 => D.nx σ H1
theorem ps_expr (he : PE X e te) (hs : swapsWith e none pos.line X.env = pure false := by rfl) : PS X (.Expr e pos) (tDrop te) := by
  intro pins s σ H D I h
  exact wpAny_Expr_any (thn (he pins s σ H _ I h) fun v s1 ⟨x, H1, I1, r1, q1⟩ => ⟨σ, H1, I1, q1⟩) I.quiet hs
def tRet (te : TE) : TS := fun D σ H => te σ H D.rt
theorem ps_ret (he : PE X e te) : PS X (.Return (some e) pos) (tRet te) := by
  intro pins s σ H D I h
  exact wpAny_Return_some (thn (he pins s σ H _ I h) fun v s1 ⟨x, H1, I1, r1, q1⟩ => ⟨x, σ, H1, I1, r1, q1⟩)
def tRetN : TS := fun D _ H => D.rt .non H
def tIfS (c : TT) (t u : TS) : TS := fun D σ H => c σ H fun b H1 => if b = true then t D σ H1 else u D σ H1
theorem ps_if {c : Expr} {a b : List Stmt} {tc : TT} (hc : PT X c tc) (ha : PSs X a t) (hb : PSs X b u) : PS X (.If c a b pos) (tIfS tc t u) := by
  intro pins s σ H D I h
  refine wpAny_If (thn (hc pins s σ H _ I h) fun d s1 ⟨H1, I1, q1⟩ => ?_)
  cases d with
  | true => exact ha pins s1 σ H1 D I1 q1
  | false => exact hb pins s1 σ H1 D I1 q1
def tNever : TS := fun _ _ _ => False
end
abbrev TG := V → St → Hp → (St → Hp → Prop) → Prop
abbrev TGs := List V → St → Hp → (St → Hp → Prop) → Prop
def PG (X : Cx) (target : Expr) (t : TG) : Prop :=
  ∀ (pins : List (Addr × Obj)) (s : Shared) (σ : St) (H : Hp) (v : V) (u : Value) (Q : St → Hp → Prop), Inv X pins σ H s → RelV v u → t v σ H Q →
    wpAny (model X.prog X.w) X.A (assign target X.env u) (fun _ s' => ∃ σ' H', Inv X pins σ' H' s' ∧ Q σ' H') X.xe s
def PGs (X : Cx) (ts : List Expr) (t : TGs) : Prop :=
  ∀ (pins : List (Addr × Obj)) (s : Shared) (σ : St) (H : Hp) (vs : List V) (us : List Value) (Q : St → Hp → Prop), Inv X pins σ H s → Vals vs us → t vs σ H Q →
    wpAny (model X.prog X.w) X.A (assignInOrder ((assignEach ts X.env).map (·.2)) us) (fun _ s' => ∃ σ' H', Inv X pins σ' H' s' ∧ Q σ' H') X.xe s
abbrev TSet := V → V → V → Hp → (Hp → Prop) → Prop
def PSet (X : Cx) (t : TSet) : Prop :=
  ∀ (pins : List (Addr × Obj)) (s : Shared) (σ : St) (H : Hp) (o i v : V) (ov iv u : Value) (Q : Hp → Prop), Inv X pins σ H s → RelV o ov → RelV i iv → RelV v u → t o i v H Q →
    wpAny (model X.prog X.w) X.A (setItem ov iv u) (fun _ s' => ∃ H', Inv X pins σ H' s' ∧ Q H') X.xe s
abbrev TIp := V → V → Hp → VK → Prop
def PIp (X : Cx) (op : Operator) (t : TIp) : Prop :=
  ∀ (pins : List (Addr × Obj)) (s : Shared) (σ : St) (H : Hp) (x y : V) (v u : Value) (Q : VK), Inv X pins σ H s → RelV x v → RelV y u → t x y H Q →
    wpAny (model X.prog X.w) X.A (inplaceOp op v u) (EP X pins σ Q) X.xe s
section
variable {X : Cx} {pos : Pos}
def gName (i : Nat) : TG := fun v σ H Q => Q (σ.set i (some v)) H
theorem pg_name {i : Nat} {x : Str} (hN : X.N.Nodup) (hi : X.N[i]? = some x) (hx : Loc X.env.scope x) (hf : X.fn x = true ∨ X.env.scope.names.lookup x = some .local := by first | exact .inl rfl | exact .inr rfl | assumption) : PG X (.Name x pos) (gName i) := by
  intro pins s σ H v u Q I r h
  exact wpAny_assign_Name (store_ok I hN hi hx r (fun s' I' => ⟨_, H, I', h⟩) hf)
def gNil : TGs := fun vs σ H Q => vs = [] ∧ Q σ H
def gCons (t : TG) (u : TGs) : TGs := fun vs σ H Q => ∃ v r, vs = v :: r ∧ t v σ H fun σ' H' => u r σ' H' Q
theorem pgs_nil : PGs X [] gNil := by
  intro pins s σ H vs us Q I r h
  obtain ⟨e, h⟩ := h
  subst e
  cases r
  exact assignInOrder_nil ⟨σ, H, I, h⟩
theorem pgs_cons {e : Expr} {es : List Expr} {t : TG} {u : TGs} (h1 : PG X e t) (h2 : PGs X es u)
    (hs : (assignEach (e :: es) X.env).map (·.2) = assign e X.env :: (assignEach es X.env).map (·.2) := by rfl) : PGs X (e :: es) (gCons t u) := by
  intro pins s σ H vs us Q I r h
  obtain ⟨v, vr, e1, h⟩ := h
  subst e1
  cases r with
  | cons r rr =>
    rw [hs]
    refine assignInOrder_cons (thn (h1 pins s σ H _ _ _ I r h) fun _ s1 ⟨σ1, H1, I1, q1⟩ => ?_)
    exact h2 pins s1 σ1 H1 _ _ Q I1 rr q1
def gTup (K : PySem.W.Frag) (n : Nat) (t : TGs) : TG := fun v σ H Q => ∃ a xs, v = .ref a ∧ SqT K H a xs ∧ xs.length = n ∧ t xs σ H Q
theorem pg_tup {es : List Expr} {k : Nat} {t : TGs} {n : Nat} (hc : X.calm = true) (h : PGs X es t)
    (hn : (assignEach es X.env).length = n := by rfl) (hst : (assignEach es X.env).findIdx? (·.1) = none := by rfl) : PG X (.Tuple es k pos) (gTup X.K n t) := by
  intro pins s σ H v u Q I r hw
  obtain ⟨a, xs, e1, hq, hl, hw⟩ := hw
  subst e1
  cases r
  obtain ⟨its, rv, ht, hz⟩ := I.tuple hq
  refine assign_Tuple_tuple (I.ok.hd hc) ht (by simp [hn, ← hl, rv.length]) hst fun h' hx => ?_
  have I1 : Inv X pins σ H { s with heap := h' } := I.kept (t' := s.toks) fun b o e => hx b o (Nat.ne_of_lt (Heap.lt_size e)) e
  exact h pins _ σ H xs _ Q I1 (by simpa using rv) hw
def gSub (to ti : TE) (t : TSet) : TG := fun v σ H Q => to σ H fun o H1 => ti σ H1 fun i H2 => t o i v H2 fun H3 => Q σ H3
theorem pg_sub {o i : Expr} {to ti : TE} {t : TSet} (ho : PE X o to) (hi : PE X i ti) (hs : PSet X t)
    (ha : ∀ v, assign (.Subscript o i pos) X.env v = (do
      let ov ← holding [v] (eval o X.env)
      let iv ← holding [v, ov] (eval i X.env)
      standAt pos
      holding [v, ov, iv] (setItem ov iv v)
      release [v, ov, iv] []) := by intro _; rfl) : PG X (.Subscript o i pos) (gSub to ti t) := by
  intro pins s σ H v u Q I r h
  rw [ha]
  refine wpAny_bind (wpAny_holding (thn (ho pins s σ H _ I h) fun ov s1 ⟨x, H1, I1, r1, q1⟩ => ?_))
  refine wpAny_bind (wpAny_holding (thn (hi pins s1 σ H1 _ I1 q1) fun iv s2 ⟨y, H2, I2, r2, q2⟩ => ?_))
  refine wpAny_bind (wpAny_standAt (wpAny_bind (wpAny_holding (thn (hs pins s2 σ H2 x y v ov iv u _ I2 r1 r2 r q2) fun _ s3 ⟨H3, I3, q3⟩ => ?_))))
  exact wpAny_release ⟨σ, H3, I3, q3⟩
def tAsg (te : TE) (g : TG) : TS := fun D σ H => te σ H fun x H1 => g x σ H1 D.nx
theorem ps_asg {tg e : Expr} {te : TE} {g : TG} (he : PE X e te) (hg : PG X tg g) (hs : swapsWithSole [tg] e pos.line X.env = pure false := by rfl) (hw : swappedStores [tg] e X.env = pure none := by rfl)
    (h1 : (assignEach [tg] X.env).map (·.2) = [assign tg X.env] := by rfl) : PS X (.Assign [tg] e pos) (tAsg te g) := by
  intro pins s σ H D I h
  refine wpAny_Assign_stores (thn (he pins s σ H _ I h) fun v s1 ⟨x, H1, I1, r1, q1⟩ => ?_) hs hw
  rw [h1]
  exact thn (hg pins s1 σ H1 x v _ I1 r1 q1) fun _ s2 q => q
theorem ps_set {i : Nat} {x : Str} {e : Expr} {te : TE} {pos' : Pos} (hN : X.N.Nodup) (hi : X.N[i]? = some x) (hx : Loc X.env.scope x) (he : PE X e te) (hs : swapsWith e (some (.Name x pos')) pos.line X.env = pure false := by rfl) (hf : X.fn x = true ∨ X.env.scope.names.lookup x = some .local := by first | exact .inl rfl | exact .inr rfl | assumption) :
    PS X (.Assign [.Name x pos'] e pos) (tAsg te (gName i)) := by
  intro pins s σ H D I h
  refine wpAny_Assign_Name (thn (he pins s σ H _ I h) fun v s1 ⟨y, H1, I1, r1, q1⟩ => ?_) hs
  exact store_ok I1 hN hi hx r1 (fun s2 I2 => ⟨_, H1, I2, q1⟩) hf
def tPar (i j : Nat) (ta : TA) : TS := fun D σ H => ta σ H fun vs H1 => ∃ v w, vs = [v, w] ∧ D.nx ((σ.set i (some v)).set j (some w)) H1
def tAug (i : Nat) (te : TE) (ti : TIp) : TS := fun D σ H => ∃ x, σ[i]? = some (some x) ∧ te σ H fun y H1 => ti x y H1 fun z H2 => D.nx (σ.set i (some z)) H2
def tAugS (to ti te : TE) (tget : V → V → Hp → VK → Prop) (tip : TIp) (tset : TSet) : TS := fun D σ H => to σ H fun o H1 => ti σ H1 fun i H2 => tget o i H2 fun x H3 => te σ H3 fun y H4 => tip x y H4 fun z H5 => tset o i z H5 fun H6 => D.nx σ H6
def PGet (X : Cx) (t : V → V → Hp → VK → Prop) : Prop :=
  ∀ (pins : List (Addr × Obj)) (s : Shared) (σ : St) (H : Hp) (o i : V) (ov iv : Value) (Q : VK), Inv X pins σ H s → RelV o ov → RelV i iv → t o i H Q →
    wpAny (model X.prog X.w) X.A (getItem ov iv) (EP X pins σ Q) X.xe s
def ipI (f : Int → Int → Int) : TIp := fun x y H Q => ∃ i j, x = .int i ∧ y = .int j ∧ Q (.int (f i j)) H
end
section
variable {X : Cx} {pos : Pos}
def tWhile (c : TT) (tb : TS) : TS := fun D σ H => ∃ W : Nat → St → Hp → Prop, (∃ m, W m σ H) ∧ ∀ m σ H, W m σ H →
  c σ H fun b H1 => if b = true then ∃ N : St → Hp → Prop, (∀ σ' H', N σ' H' → ∃ m', m' < m ∧ W m' σ' H') ∧ tb { D with nx := N, ct := N, bk := D.nx } σ H1 else D.nx σ H1
theorem ps_while {c : Expr} {body : List Stmt} {tc : TT} {tb : TS} (hp : PassesOwn (model X.prog X.w) X.A X.env X.xe) (hc : PT X c tc) (hb : PSs X body tb) : PS X (.While c body [] pos) (tWhile tc tb) := by
  intro pins s σ H D I h
  obtain ⟨W, ⟨m0, w0⟩, turn⟩ := h
  refine wpAny_While (codeAny_whileLoop (fun n s' => ∃ σ' H', Inv X pins σ' H' s' ∧ W n σ' H') ?_ m0 ⟨σ, H, I, w0⟩)
  rintro n s1 ⟨σ1, H1, I1, w1⟩
  refine wpAny_passesOwn hp (thn (hc pins s1 σ1 H1 _ I1 (turn n σ1 H1 w1)) fun b s2 ⟨H2, I2, q2⟩ => ?_)
  cases b with
  | true =>
    obtain ⟨N, hN, q2⟩ := q2
    rw [if_pos rfl]
    refine wpAny_passesOwn hp (thn (hb pins s2 σ1 H2 _ I2 q2) fun f s3 q3 => ?_)
    cases f with
    | next =>
      obtain ⟨σ3, H3, I3, n3⟩ := q3
      obtain ⟨m', hm, w3⟩ := hN σ3 H3 n3
      exact ⟨m', hm, σ3, H3, I3, w3⟩
    | cont =>
      obtain ⟨σ3, H3, I3, n3⟩ := q3
      obtain ⟨m', hm, w3⟩ := hN σ3 H3 n3
      exact ⟨m', hm, σ3, H3, I3, w3⟩
    | brk => exact q3
    | ret v => exact q3
  | false =>
    rw [if_neg Bool.false_ne_true]
    exact wpAny_execs_nil ⟨σ1, H2, I2, q2⟩
end
structure It where
  go : Nat → Hp → Prop
  yld : Nat → Hp → V → Hp → Prop
  stop : Nat → Hp → Prop
def FpOk (X : Cx) (pins : List (Addr × Obj)) (H : Hp) (b : Addr) : Prop :=
  H b = none ∧ b ≠ X.env.locals ∧ b ∉ X.fs ∧ (b ∈ X.ex ∨ X.s₀.heap.objs.size ≤ b) ∧ (∀ x c, X.env.cells.lookup x = some c → c ≠ b) ∧ ∀ p ∈ X.pn ++ pins, p.1 ≠ b
theorem Inv.fpOk {X : Cx} {pins : List (Addr × Obj)} {σ : St} {H H' : Hp} {s : Shared} {b : Addr} (I : Inv X pins σ H s) (hb : s.heap.objs.size ≤ b) (hn : H' b = none) : FpOk X pins H' b := by
  refine ⟨hn, Nat.ne_of_gt (Nat.lt_of_lt_of_le I.lt hb), I.nofs hb, .inr (Nat.le_trans I.sz hb), fun x c e z => ?_, fun p hp z => ?_⟩
  · obtain ⟨v, q⟩ := I.cell x c e
    exact absurd (Nat.lt_of_lt_of_le q.lt (by rw [z]; exact hb)) (Nat.lt_irrefl _)
  · exact absurd (Nat.lt_of_lt_of_le (Heap.lt_size (I.pin p hp).1) (by rw [z]; exact hb)) (Nat.lt_irrefl _)
structure Turn (P : Program) (w : World) (K : PySem.W.Frag) (tg : Expr) (J : It) (fp : List Addr) (it : Addr) (tn : Nat → Heap → Prop) : Prop where
  mem : it ∈ fp
  obj : ∀ i h, tn i h → ∀ b ∈ fp, ∃ o, h.get? b = some o ∧ ∀ v, o.data ≠ .cell v
  keep : ∀ i h h', tn i h → (∀ b ∈ fp, ∀ o, h.get? b = some o → h'.get? b = some o) → tn i h'
  item : ∀ (X : Cx), X.prog = P → X.w = w → X.K = K → X.calm = true → ∀ (i : Nat) (pins : List (Addr × Obj)) (s : Shared) (σ : St) (H : Hp) (E : Value → Shared → Prop), Inv X pins σ H s → (∀ b ∈ fp, FpOk X pins H b) → tn i s.heap → J.go i H →
    wpAny (model P w) X.A (pyNext (.ref it)) (fun r s1 => ∃ u, r = some u ∧
      wpAny (model P w) X.A (letOwnedTupleGo tg (.ref it) u) (fun _ s2 => ∃ x H', Inv X pins σ H' s2 ∧ RelV x u ∧ J.yld i H x H' ∧ tn (i + 1) s2.heap ∧ ∀ b ∈ fp, H' b = none) E s1) E s
  done : ∀ (X : Cx), X.prog = P → X.w = w → X.K = K → X.calm = true → ∀ (i : Nat) (pins : List (Addr × Obj)) (s : Shared) (σ : St) (H : Hp) (E : Value → Shared → Prop), Inv X pins σ H s → (∀ b ∈ fp, FpOk X pins H b) → tn i s.heap → J.stop i H →
    wpAny (model P w) X.A (pyNext (.ref it)) (fun r s1 => r = none ∧ Inv X pins σ H s1) E s
  self : ∀ (A : Around) (i : Nat) (s : Shared) (Q : Value → Shared → Prop) (E : Value → Shared → Prop), tn i s.heap → Q (.ref it) s → wpAny (model P w) A (pyIter (.ref it)) Q E s
abbrev TI := St → Hp → (It → Hp → Prop) → Prop
def PIE (X : Cx) (pins : List (Addr × Obj)) (σ : St) (tg : Expr) (R : It → Hp → Prop) (itv : Value) (s2 : Shared) : Prop :=
  ∃ (it : Addr) (fp : List Addr) (tn : Nat → Heap → Prop) (J : It) (H' : Hp), itv = .ref it ∧ Inv X pins σ H' s2 ∧ Turn X.prog X.w X.K tg J fp it tn ∧ tn 0 s2.heap ∧ (∀ b ∈ fp, FpOk X pins H' b) ∧ R J H'
def PI (X : Cx) (tg iter : Expr) (wi : TI) : Prop :=
  ∀ (pins : List (Addr × Obj)) (s : Shared) (σ : St) (H : Hp) (R : It → Hp → Prop), Inv X pins σ H s → wi σ H R →
    wpAny (model X.prog X.w) X.A (eval iter X.env) (fun v s1 => wpAny (model X.prog X.w) X.A (pyIter v) (PIE X pins σ tg R) X.xe s1) X.xe s
theorem go_of {M : Model} {A : Around} {E : Value → Shared → Prop} {s : Shared} {tg : Expr} {it : Addr} {u : Value} {o : Obj} {n : String} {vs : Array Value} {Q : Unit → Shared → Prop} (ho : s.heap.get? it = some o) (hc : o.cls = .type n) (hd : o.data = .fields vs)
    (hn : ["enumerate", "zip", "dict_itemiterator", "dict_reverseitemiterator", "odict_iterator", "itertools.zip_longest", "itertools.pairwise"].contains n = false) (hQ : Q () s) : wpAny M A (letOwnedTupleGo tg (.ref it) u) Q E s := by
  unfold letOwnedTupleGo
  cases tg <;> first
    | exact wpAny_pure hQ
    | (cases u <;> first
        | exact wpAny_pure hQ
        | (refine wpAny_bind (wpAny_load ho ?_)
           rw [hc, hd]
           show wpAny M A (if (["enumerate", "zip", "dict_itemiterator", "dict_reverseitemiterator", "odict_iterator", "itertools.zip_longest", "itertools.pairwise"].contains n && vs[0]? == some (rawInt _)) = true then _ else _) Q E s
           rw [if_neg (by intro h; rw [hn, Bool.false_and] at h; cases h)]
           exact wpAny_pure hQ))
def Itl (K : PySem.W.Frag) (a : Addr) : It :=
  ⟨fun i H => ∃ xs x, SqL K H a xs ∧ xs[i]? = some x, fun i H x H' => H' = H ∧ ∀ xs, SqL K H a xs → xs[i]? = some x, fun i H => ∃ xs, SqL K H a xs ∧ xs.length ≤ i⟩
def Itt (K : PySem.W.Frag) (a : Addr) : It :=
  ⟨fun i H => ∃ xs x, SqT K H a xs ∧ xs[i]? = some x, fun i H x H' => H' = H ∧ ∀ xs, SqT K H a xs → xs[i]? = some x, fun i H => ∃ xs, SqT K H a xs ∧ xs.length ≤ i⟩
def Itr (lo : Int) (n : Nat) : It := ⟨fun i _ => i < n, fun i H x H' => H' = H ∧ x = .int (lo + i), fun i _ => n ≤ i⟩
theorem turn_list {P : Program} {w : World} {K : PySem.W.Frag} {tg : Expr} (a it : Addr) : Turn P w K tg (Itl K a) [it] it (fun i h => h.IsListIter it a i) where
  mem := by simp
  obj := fun i h st b hb => by
    have e : b = it := by simpa using hb
    subst e
    obtain ⟨o, e, c, d⟩ := st
    exact ⟨o, e, fun v z => by rw [d] at z; cases z⟩
  keep := fun i h h' st k => st.at fun o e => k it (by simp) o e
  item := by
    intro X hP hw hK hc i pins s σ H E I hf st hg
    subst hP hw hK
    obtain ⟨xs, x, hq, hx⟩ := hg
    obtain ⟨its, rv, p, hz⟩ := I.list hq
    obtain ⟨u, hu, ru⟩ := rv.get hx
    obtain ⟨f0, f1, f2, f3, f4, f5⟩ := hf it (by simp)
    refine wpAny_pyNext_list_item st p.isList (x := u) (by simpa using hu) fun h' st' sb => ?_
    have I1 : Inv X pins σ H { s with heap := h' } := I.turned (t' := s.toks) (fun b o hb e => (sb.2 b hb).trans e) f0 f1 f3 f4 f5
    obtain ⟨o, e, c, d⟩ := id st'
    exact ⟨u, rfl, go_of (s := { s with heap := h' }) e c d (by decide) ⟨x, H, I1, ru, ⟨rfl, fun ys hy => by rw [I.list_inj hy hq]; exact hx⟩, st', fun b hb => (hf b hb).1⟩⟩
  done := by
    intro X hP hw hK hc i pins s σ H E I hf st hg
    subst hP hw hK
    obtain ⟨xs, hq, hx⟩ := hg
    obtain ⟨its, rv, p, hz⟩ := I.list hq
    obtain ⟨f0, f1, f2, f3, f4, f5⟩ := hf it (by simp)
    have hl := rv.length
    exact wpAny_pyNext_list_end (I.ok.hd hc) st p.isList (by simp; omega) fun h' eb => ⟨rfl, I.turned (t' := s.toks) (fun b o hb e => eb b o hb e) f0 f1 f3 f4 f5⟩
  self := fun _ _ _ _ _ st h => wpAny_pyIter_listiter st h
theorem turn_range {P : Program} {w : World} {K : PySem.W.Frag} {tg : Expr} (it : Addr) (lo : Int) (n : Nat) : Turn P w K tg (Itr lo n) [it] it (fun i h => IsRangeIter h it (lo + (i : Nat) * 1) ((n : Int) - (i : Nat)) 1) where
  mem := by simp
  obj := fun i h st b hb => by
    have e : b = it := by simpa using hb
    subst e
    exact ⟨_, st, fun v z => by
      have z' : Data.fields _ = Data.cell v := z
      cases z'⟩
  keep := fun i h h' st k => k it (by simp) _ st
  item := by
    intro X hP hw hK hc i pins s σ H E I hf st hg
    subst hP hw hK
    obtain ⟨f0, f1, f2, f3, f4, f5⟩ := hf it (by simp)
    have W := Walks.range (prog := X.prog) (w := X.w) (I.ok.hd hc) it lo 1 n
    refine W.item i s _ _ hg st fun v h' tk hv st' kk => ?_
    obtain ⟨t, rfl⟩ := hv
    have I1 : Inv X pins σ H { s with heap := h', toks := tk } := I.turned (fun b o hb e => kk b o (by simpa using hb) e) f0 f1 f3 f4 f5
    refine ⟨_, rfl, go_of (s := { s with heap := h', toks := tk }) (n := "range_iterator") st' rfl rfl (by decide) ⟨.int (lo + i), H, I1, ⟨t, ?_⟩, ⟨rfl, rfl⟩, st', fun b hb => (hf b hb).1⟩⟩
    rw [Int.mul_one]
  done := by
    intro X hP hw hK hc i pins s σ H E I hf st hg
    subst hP hw hK
    obtain ⟨f0, f1, f2, f3, f4, f5⟩ := hf it (by simp)
    exact wpAny_pyNext_range_end (I.ok.hd hc) st (by have : n ≤ i := hg; omega) fun h' eb => ⟨rfl, I.turned (t' := s.toks) (fun b o hb e => eb b o hb e) f0 f1 f3 f4 f5⟩
  self := fun _ _ _ _ _ st h => wpAny_pyIter_rangeiter st h
end L2
namespace L2
open PySem PySem.Spec PyProof.Rows
section
variable {X : Cx} {tg : Expr}
def iList (K : PySem.W.Frag) (tl : TE) : TI := fun σ H R => tl σ H fun x H1 => ∃ a, x = .ref a ∧ (∃ xs, SqL K H1 a xs) ∧ R (Itl K a) H1
def iTup (K : PySem.W.Frag) (tl : TE) : TI := fun σ H R => tl σ H fun x H1 => ∃ a, x = .ref a ∧ (∃ xs, SqT K H1 a xs) ∧ R (Itt K a) H1
theorem pi_list {l : Expr} {tl : TE} (hl : PE X l tl) : PI X tg l (iList X.K tl) := by
  intro pins s σ H R I h
  refine thn (hl pins s σ H _ I h) fun v s1 ⟨x, H1, I1, r1, q1⟩ => ?_
  obtain ⟨a, e, ⟨xs, hq⟩, q⟩ := q1
  subst e
  cases r1
  obtain ⟨its, rv, p, hz⟩ := I1.list hq
  refine wpAny_pyIter_list p.isList ?_
  refine ⟨s1.heap.objs.size, [s1.heap.objs.size], _, _, H1, rfl, I1.kept (t' := s1.toks) fun b o e => Heap.get?_push_of_some _ e, turn_list a _, ⟨_, Heap.get?_push_size _ rfl, rfl, rfl⟩, fun b hb => ?_, q⟩
  have e : b = s1.heap.objs.size := by simpa using hb
  subst e
  exact I1.fpOk (Nat.le_refl _) (I1.hok.fresh (Nat.le_refl _))
theorem range_it {pins : List (Addr × Obj)} {σ : St} {H : Hp} {s : Shared} {R : It → Hp → Prop} {E : Value → Shared → Prop} {lo hi : Int} {t u v : Tok} {tk : Nat} (I : Inv X pins σ H s) (h1 : -(2 ^ 62) ≤ lo) (h2 : lo < 2 ^ 62) (h3 : -(2 ^ 62) ≤ hi) (h4 : hi < 2 ^ 62)
    (q : R (Itr lo (hi - lo).toNat) H) : wpAny (model X.prog X.w) X.A (pyIter (.ref s.heap.objs.size)) (PIE X pins σ tg R) E { s with heap := s.heap.push { cls := .type "range", data := .fields #[.int lo t, .int hi u, .int 1 v] }, toks := tk } := by
  refine wpAny_pyIter_range (IsRange.new ..) (small_one h1 h2 h3 h4) ?_
  have I1 : Inv X pins σ H { s with heap := s.heap.push { cls := .type "range", data := .fields #[.int lo t, .int hi u, .int 1 v] }, toks := tk } := I.kept fun b o e => Heap.get?_push_of_some _ e
  refine ⟨(s.heap.push { cls := .type "range", data := .fields #[.int lo t, .int hi u, .int 1 v] }).objs.size, [(s.heap.push { cls := .type "range", data := .fields #[.int lo t, .int hi u, .int 1 v] }).objs.size], _, _, H, rfl,
    I1.kept (t' := tk) fun b o e => Heap.get?_push_of_some _ e, turn_range _ lo (hi - lo).toNat, ?_, fun b hb => ?_, q⟩
  · have e1 : lo + ((0 : Nat) : Int) * 1 = lo := by simp
    have e2 : (((hi - lo).toNat : Nat) : Int) - ((0 : Nat) : Int) = Builtin.Range.rangeSize lo hi 1 := by rw [rangeSize_one]; split <;> omega
    show IsRangeIter _ _ (lo + ((0 : Nat) : Int) * 1) ((((hi - lo).toNat : Nat) : Int) - ((0 : Nat) : Int)) 1
    rw [e1, e2]
    exact Heap.get?_push_size _ rfl
  · have e : b = (s.heap.push { cls := .type "range", data := .fields #[.int lo t, .int hi u, .int 1 v] }).objs.size := by simpa using hb
    subst e
    exact I1.fpOk (Nat.le_refl _) (I1.hok.fresh (Nat.le_refl _))
def iRng1 (ta : TA) : TI := fun σ H R => ta σ H fun vs H1 => ∃ j : Int, vs = [.int j] ∧ -(2 ^ 62) ≤ j ∧ j < 2 ^ 62 ∧ R (Itr 0 j.toNat) H1
def iRng2 (ta : TA) : TI := fun σ H R => ta σ H fun vs H1 => ∃ i j : Int, vs = [.int i, .int j] ∧ (-(2 ^ 62) ≤ i ∧ i < 2 ^ 62 ∧ -(2 ^ 62) ≤ j ∧ j < 2 ^ 62) ∧ R (Itr i (j - i).toNat) H1
theorem pi_range1 {a : Expr} {ta : TA} {p pos : Pos} (hg : Gl X "range") (hm : X.mg "range" = none) (ha : PA X [a] ta) (hs : starEach [a] X.env = [(false, eval a X.env)] := by rfl) : PI X tg (.Call (.Name "range" p) [a] [] pos) (iRng1 ta) := by
  intro pins s σ H R I h
  refine Call_ (ld_blt I hg hm boot_range (PyProof.Rows.callWith_type1 (thn (ha pos pins s σ H _ I h) fun us s1 ⟨vs, H1, I1, r1, q1⟩ => ?_) hs rfl))
  obtain ⟨j, e, q1, q2, q⟩ := q1
  subst e
  cases r1 with
  | cons r rr =>
    cases rr
    obtain ⟨t, rfl⟩ := r
    exact call_range_1 (range_it I1 (by omega) (by omega) q1 q2 (by simpa using q))
def tFor (wi : TI) (g : TG) (tb : TS) : TS := fun D σ H => wi σ H fun J H1 => ∃ W : Nat → Nat → St → Hp → Prop, (∃ m, W 0 m σ H1) ∧ ∀ i m σ H, W i m σ H →
  (J.stop i H ∧ D.nx σ H) ∨ (J.go i H ∧ ∃ N : St → Hp → Prop, (∀ σ' H', N σ' H' → ∃ m', m' < m ∧ W (i + 1) m' σ' H') ∧ ∀ x H', J.yld i H x H' → g x σ H' fun σ2 H2 => tb { D with nx := N, ct := N, bk := D.nx } σ2 H2)
def pinsAt (fp : List Addr) (h : Heap) : List (Addr × Obj) := fp.filterMap fun b => (h.get? b).map fun o => (b, o)
theorem mem_pinsAt {fp : List Addr} {h : Heap} {b : Addr} {o : Obj} (hb : b ∈ fp) (e : h.get? b = some o) : (b, o) ∈ pinsAt fp h := List.mem_filterMap.mpr ⟨b, hb, by rw [e]; rfl⟩
theorem of_pinsAt {fp : List Addr} {h : Heap} {p : Addr × Obj} (hp : p ∈ pinsAt fp h) : p.1 ∈ fp ∧ h.get? p.1 = some p.2 := by
  obtain ⟨b, hb, e⟩ := List.mem_filterMap.mp hp
  cases q : h.get? b with
  | none => rw [q] at e; cases e
  | some o =>
    rw [q] at e
    have e' : (b, o) = p := Option.some.inj e
    subst e'
    exact ⟨hb, q⟩
theorem Inv.pinned {pins : List (Addr × Obj)} {σ : St} {H : Hp} {s : Shared} {fp : List Addr} (I : Inv X pins σ H s) (hf : ∀ b ∈ fp, FpOk X pins H b) (ho : ∀ b ∈ fp, ∃ o, s.heap.get? b = some o ∧ ∀ v, o.data ≠ .cell v) : Inv X (pins ++ pinsAt fp s.heap) σ H s :=
  I.pins_of fun p hp => (List.mem_append.mp hp).elim (fun z => I.pin p (List.mem_append_right _ z)) fun z => by
    obtain ⟨hb, e⟩ := of_pinsAt z
    obtain ⟨f0, f1, f2, _⟩ := hf p.1 hb
    obtain ⟨o, e', d⟩ := ho p.1 hb
    rw [e] at e'; cases e'
    exact ⟨e, f0, f1, f2, d⟩
theorem Inv.unpinned {pins pl : List (Addr × Obj)} {σ : St} {H : Hp} {s : Shared} (I : Inv X (pins ++ pl) σ H s) : Inv X pins σ H s := I.pins_of fun p hp => I.pin p (List.mem_append_right _ (List.mem_append_left _ hp))
theorem ps_for {iter : Expr} {body : List Stmt} {wi : TI} {g : TG} {tb : TS} {pos : Pos} (hp : PassesOwn (model X.prog X.w) X.A X.env X.xe) (hc : X.calm = true) (hi : PI X tg iter wi) (hg : PG X tg g) (hb : PSs X body tb)
    (hs : ∀ x, foldedSetIterable iter X.env x = pure x := by intro _; rfl) : PS X (.For tg iter body [] pos) (tFor wi g tb) := by
  intro pins s σ H D I h
  refine wpAny_For (thn (hi pins s σ H _ I h) fun v s1 h1 => thn h1 fun itv s2 h2 => ?_) hs
  obtain ⟨it, fp, tn, J, H2, e, I2, T, st2, f2, W, ⟨m0, w0⟩, turn⟩ := h2
  subst e
  have stat : ∀ {H' : Hp}, (∀ b ∈ fp, H' b = none) → ∀ b ∈ fp, FpOk X pins H' b := fun hn b hb => ⟨hn b hb, (f2 b hb).2⟩
  refine codeAny_forLoop_any (fun n s' => ∃ i σ' H', Inv X pins σ' H' s' ∧ tn i s'.heap ∧ (∀ b ∈ fp, H' b = none) ∧ W i n σ' H') ?_ m0 ⟨0, σ, H2, I2, st2, fun b hb => (f2 b hb).1, w0⟩
  rintro n s3 ⟨i, σ3, H3, I3, st3, fr3, w3⟩
  rcases turn i n σ3 H3 w3 with ⟨stop, qn⟩ | ⟨go, N, hN, step⟩
  · refine wpAny_passesOwn hp (thn (T.done X rfl rfl rfl hc i pins s3 σ3 H3 X.xe I3 (stat fr3) st3 stop) fun r s4 ⟨hr, I4⟩ => ?_)
    subst hr
    exact wpAny_execs_nil ⟨σ3, H3, I4, qn⟩
  · refine wpAny_passesOwn hp (thn (T.item X rfl rfl rfl hc i pins s3 σ3 H3 X.xe I3 (stat fr3) st3 go) fun r s4 ⟨u, hr, h4⟩ => ?_)
    subst hr
    refine wpAny_passesOwn hp (thn h4 fun _ s5 ⟨x, H5, I5, r5, y5, st5, fr5⟩ => ?_)
    have I5' := I5.pinned (stat fr5) (T.obj _ _ st5)
    refine wpAny_passesOwn hp (thn (hg _ s5 σ3 H5 x u _ I5' r5 (step x H5 y5)) fun _ s6 ⟨σ6, H6, I6, q6⟩ => ?_)
    refine wpAny_passesOwn hp (thn (hb _ s6 σ6 H6 _ I6 q6) fun f s7 q7 => ?_)
    have again : ∀ {σ7 : St} {H7 : Hp}, Inv X (pins ++ pinsAt fp s5.heap) σ7 H7 s7 → N σ7 H7 → ∃ m, m < n ∧ ∃ i σ' H', Inv X pins σ' H' s7 ∧ tn i s7.heap ∧ (∀ b ∈ fp, H' b = none) ∧ W i m σ' H' := fun {σ7 H7} I7 n7 => by
      obtain ⟨m', hm, w7⟩ := hN σ7 H7 n7
      refine ⟨m', hm, i + 1, σ7, H7, I7.unpinned, T.keep _ _ _ st5 fun b hb o e => (I7.pin (b, o) (List.mem_append_right _ (List.mem_append_right _ (mem_pinsAt hb e)))).1, fun b hb => ?_, w7⟩
      obtain ⟨o, e, d⟩ := T.obj _ _ st5 b hb
      exact (I7.pin (b, o) (List.mem_append_right _ (List.mem_append_right _ (mem_pinsAt hb e)))).2.1
    cases f with
    | next => obtain ⟨σ7, H7, I7, n7⟩ := q7; exact again I7 n7
    | cont => obtain ⟨σ7, H7, I7, n7⟩ := q7; exact again I7 n7
    | brk => obtain ⟨σ7, H7, I7, q7⟩ := q7; exact ⟨σ7, H7, I7.unpinned, q7⟩
    | ret v => obtain ⟨x7, σ7, H7, I7, r7, q7⟩ := q7; exact ⟨x7, σ7, H7, I7.unpinned, r7, q7⟩
end
theorem for_list {K : PySem.W.Frag} {a : Addr} {xs : List V} {g : TG} {tb : TS} {D : Ends} {σ : St} {H : Hp} (Pv : Nat → St → Hp → Prop) (h0 : Pv 0 σ H) (hl : ∀ i σ H, i ≤ xs.length → Pv i σ H → SqL K H a xs)
    (hs : ∀ i x σ H, xs[i]? = some x → Pv i σ H → g x σ H fun σ2 H2 => tb { D with nx := Pv (i + 1), ct := Pv (i + 1), bk := D.nx } σ2 H2) (hd : ∀ σ H, Pv xs.length σ H → D.nx σ H) :
    ∃ W : Nat → Nat → St → Hp → Prop, (∃ m, W 0 m σ H) ∧ ∀ i m σ H, W i m σ H →
      ((Itl K a).stop i H ∧ D.nx σ H) ∨ ((Itl K a).go i H ∧ ∃ N : St → Hp → Prop, (∀ σ' H', N σ' H' → ∃ m', m' < m ∧ W (i + 1) m' σ' H') ∧ ∀ x H', (Itl K a).yld i H x H' → g x σ H' fun σ2 H2 => tb { D with nx := N, ct := N, bk := D.nx } σ2 H2) := by
  refine ⟨fun i m σ H => m = xs.length - i ∧ i ≤ xs.length ∧ Pv i σ H, ⟨xs.length, by simp, Nat.zero_le _, h0⟩, ?_⟩
  rintro i m σ H ⟨rfl, hi, p⟩
  have q := hl i σ H hi p
  by_cases hlt : i < xs.length
  · refine .inr ⟨⟨xs, xs[i], q, by simp [hlt]⟩, Pv (i + 1), fun σ' H' p' => ⟨xs.length - (i + 1), by omega, rfl, hlt, p'⟩, fun x H' y => ?_⟩
    obtain ⟨e, y⟩ := y
    subst e
    exact hs i x σ _ (y xs q) p
  · have e : i = xs.length := by omega
    subst e
    exact .inl ⟨⟨xs, q, Nat.le_refl _⟩, hd σ H p⟩
theorem for_range {lo : Int} {n : Nat} {g : TG} {tb : TS} {D : Ends} {σ : St} {H : Hp} (Pv : Nat → St → Hp → Prop) (h0 : Pv 0 σ H)
    (hs : ∀ i σ H, i < n → Pv i σ H → g (.int (lo + i)) σ H fun σ2 H2 => tb { D with nx := Pv (i + 1), ct := Pv (i + 1), bk := D.nx } σ2 H2) (hd : ∀ σ H, Pv n σ H → D.nx σ H) :
    ∃ W : Nat → Nat → St → Hp → Prop, (∃ m, W 0 m σ H) ∧ ∀ i m σ H, W i m σ H →
      ((Itr lo n).stop i H ∧ D.nx σ H) ∨ ((Itr lo n).go i H ∧ ∃ N : St → Hp → Prop, (∀ σ' H', N σ' H' → ∃ m', m' < m ∧ W (i + 1) m' σ' H') ∧ ∀ x H', (Itr lo n).yld i H x H' → g x σ H' fun σ2 H2 => tb { D with nx := N, ct := N, bk := D.nx } σ2 H2) := by
  refine ⟨fun i m σ H => m = n - i ∧ i ≤ n ∧ Pv i σ H, ⟨n, by simp, Nat.zero_le _, h0⟩, ?_⟩
  rintro i m σ H ⟨rfl, hi, p⟩
  by_cases hlt : i < n
  · refine .inr ⟨hlt, Pv (i + 1), fun σ' H' p' => ⟨n - (i + 1), by omega, rfl, hlt, p'⟩, fun x H' y => ?_⟩
    obtain ⟨e, y⟩ := y
    subst e y
    exact hs i σ _ hlt p
  · have e : i = n := by omega
    subst e
    exact .inl ⟨Nat.le_refl _, hd σ H p⟩
end L2
namespace L2
open PySem PySem.Spec PyProof.Rows
abbrev R2 := V → V → Hp → VK → Prop
def OpR (X : Cx) (f : Value → Value → Sem Value) (r : R2) : Prop :=
  ∀ (pins : List (Addr × Obj)) (s : Shared) (σ : St) (H : Hp) (x y : V) (v u : Value) (Q : VK), Inv X pins σ H s → RelV x v → RelV y u → r x y H Q →
    wpAny (model X.prog X.w) X.A (f v u) (EP X pins σ Q) X.xe s
def UnR (X : Cx) (f : Value → Sem Value) (r : V → Hp → VK → Prop) : Prop :=
  ∀ (pins : List (Addr × Obj)) (s : Shared) (σ : St) (H : Hp) (x : V) (v : Value) (Q : VK), Inv X pins σ H s → RelV x v → r x H Q →
    wpAny (model X.prog X.w) X.A (f v) (EP X pins σ Q) X.xe s
def CallR (X : Cx) (f : Value) (r : List V → Hp → VK → Prop) : Prop :=
  ∀ (pins : List (Addr × Obj)) (s : Shared) (σ : St) (H : Hp) (xs : List V) (us : List Value) (Q : VK), Inv X pins σ H s → Vals xs us → r xs H Q →
    wpAny (model X.prog X.w) X.A (call f us) (EP X pins σ Q) X.xe s
def TruR (X : Cx) (r : V → Hp → (Bool → Hp → Prop) → Prop) : Prop :=
  ∀ (pins : List (Addr × Obj)) (s : Shared) (σ : St) (H : Hp) (x : V) (v : Value) (Q : Bool → Hp → Prop), Inv X pins σ H s → RelV x v → r x H Q →
    wpAny (model X.prog X.w) X.A (truthy v) (TP X pins σ Q) X.xe s
def tOp (r : R2) (ta tb : TE) : TE := fun σ H Q => ta σ H fun x H1 => tb σ H1 fun y H2 => r x y H2 Q
def tUn (r : V → Hp → VK → Prop) (ta : TE) : TE := fun σ H Q => ta σ H fun x H1 => r x H1 Q
def rI (C : Int → Int → Prop) (g : Int → Int → V) : R2 := fun x y H Q => ∃ i j, x = .int i ∧ y = .int j ∧ C i j ∧ Q (g i j) H
def rI0 (g : Int → Int → V) : R2 := fun x y H Q => ∃ i j, x = .int i ∧ y = .int j ∧ Q (g i j) H
def rU (g : Int → V) : V → Hp → VK → Prop := fun x H Q => ∃ i, x = .int i ∧ Q (g i) H
section
variable {X : Cx} {a b c : Expr} {ta tb tc : TE} {pos : Pos}
theorem binT (ha : PE X a ta) (hb : PE X b tb) {pins : List (Addr × Obj)} {s : Shared} {σ : St} {H : Hp} {R : V → V → Hp → Prop} (I : Inv X pins σ H s)
    (h : ta σ H fun x H1 => tb σ H1 fun y H2 => R x y H2) {Q : Value → Shared → Prop} {f : Value → Value → Sem Value}
    (hf : ∀ v u s2 x y H2, Inv X pins σ H2 s2 → RelV x v → RelV y u → R x y H2 → wpAny (model X.prog X.w) X.A (f v u) Q X.xe s2) :
    wpAny (model X.prog X.w) X.A (eval a X.env) (fun v s₁ => wpAny (model X.prog X.w) X.A (eval b X.env) (fun u s₂ => wpAny (model X.prog X.w) X.A (f v u) Q X.xe s₂) X.xe s₁) X.xe s := by
  refine thn (ha pins s σ H _ I h) fun v s1 ⟨x, H1, I1, r1, q1⟩ => ?_
  refine thn (hb pins s1 σ H1 _ I1 q1) fun u s2 ⟨y, H2, I2, r2, q2⟩ => ?_
  exact hf v u s2 x y H2 I2 r1 r2 q2
theorem pe_op {op : Operator} {r : R2} (ho : OpR X (binaryOp op) r) (ha : PE X a ta) (hb : PE X b tb) : PE X (.BinOp a op b pos) (tOp r ta tb) := by
  intro pins s σ H Q I h
  exact wpAny_BinOp (binT ha hb I h fun v u s2 x y H2 I2 rx ry q => ho pins s2 σ H2 x y v u Q I2 rx ry q)
theorem pe_un {op : UnaryOp} {r : V → Hp → VK → Prop} (ho : UnR X (unaryOp op) r) (ha : PE X a ta) : PE X (.UnaryOp op a pos) (tUn r ta) := by
  intro pins s σ H Q I h
  exact UnaryOp_ (thn (ha pins s σ H _ I h) fun v s1 ⟨x, H1, I1, r1, q1⟩ => ho pins s1 σ H1 x v Q I1 r1 q1)
theorem opI {f : Value → Value → Sem Value} {C : Int → Int → Prop} {g : Int → Int → Int}
    (rule : ∀ (i j : Int) (t u : Tok) (s : Shared) (Q : Value → Shared → Prop) (E : Value → Shared → Prop), C i j → Q (.int (g i j) s.toks) { s with toks := s.toks + 1 } → wpAny (model X.prog X.w) X.A (f (.int i t) (.int j u)) Q E s) :
    OpR X f (rI C fun i j => .int (g i j)) := by
  intro pins s σ H x y v u Q I rx ry h
  obtain ⟨i, j, rfl, rfl, hc, q⟩ := h
  obtain ⟨t, rfl⟩ := rx
  obtain ⟨t', rfl⟩ := ry
  exact rule i j t t' s _ _ hc ⟨.int (g i j), H, I.tok _, ⟨_, rfl⟩, q⟩
theorem opI0 {f : Value → Value → Sem Value} {g : Int → Int → Int}
    (rule : ∀ (i j : Int) (t u : Tok) (s : Shared) (Q : Value → Shared → Prop) (E : Value → Shared → Prop), Q (.int (g i j) s.toks) { s with toks := s.toks + 1 } → wpAny (model X.prog X.w) X.A (f (.int i t) (.int j u)) Q E s) :
    OpR X f (rI0 fun i j => .int (g i j)) := by
  intro pins s σ H x y v u Q I rx ry h
  obtain ⟨i, j, rfl, rfl, q⟩ := h
  obtain ⟨t, rfl⟩ := rx
  obtain ⟨t', rfl⟩ := ry
  exact rule i j t t' s _ _ ⟨.int (g i j), H, I.tok _, ⟨_, rfl⟩, q⟩
theorem opB0 {f : Value → Value → Sem Value} {g : Int → Int → Bool}
    (rule : ∀ (i j : Int) (t u : Tok) (s : Shared) (Q : Value → Shared → Prop) (E : Value → Shared → Prop), Q (.bool (g i j)) s → wpAny (model X.prog X.w) X.A (f (.int i t) (.int j u)) Q E s) :
    OpR X f (rI0 fun i j => .bl (g i j)) := by
  intro pins s σ H x y v u Q I rx ry h
  obtain ⟨i, j, rfl, rfl, q⟩ := h
  obtain ⟨t, rfl⟩ := rx
  obtain ⟨t', rfl⟩ := ry
  exact rule i j t t' s _ _ ⟨.bl (g i j), H, I, rfl, q⟩
def CDiv (i j : Int) : Prop := 0 < j ∧ j < 1073741824
def CDivN (i j : Int) : Prop := j ≠ 0 ∧ j.natAbs < 1073741824
def CPow (i j : Int) : Prop := 0 ≤ j ∧ j ≤ 1000000 ∧ i.natAbs < 2 ^ 64
def CMul (i j : Int) : Prop := (-(2 ^ 64) < i ∧ i < 2 ^ 64) ∨ (-(2 ^ 64) < j ∧ j < 2 ^ 64)
theorem CMul.ok {i j : Int} (h : CMul i j) : IntMulOk i j := by
  rcases h with ⟨h1, h2⟩ | ⟨h1, h2⟩
  · exact .of_left (intBits_le_64 h1 h2)
  · exact .of_right (intBits_le_64 h1 h2)
theorem op_add : OpR X (binaryOp .Add) (rI0 fun i j => .int (i + j)) := opI0 fun _ _ _ _ _ _ _ q => add_int q
theorem op_sub : OpR X (binaryOp .Sub) (rI0 fun i j => .int (i - j)) := opI0 fun _ _ _ _ _ _ _ q => sub_int q
theorem op_mul : OpR X (binaryOp .Mult) (rI CMul fun i j => .int (i * j)) := opI fun _ _ _ _ _ _ _ hc q => mul_int q hc.ok
theorem op_fdiv : OpR X (binaryOp .FloorDiv) (rI CDiv fun i j => .int (i / j)) := opI fun i j _ _ _ _ _ hc q => by
  have h1 : (0 : Int) < j := hc.1
  have h2 : j < 1073741824 := hc.2
  exact floordiv_int (by omega) (by rw [Int.fdiv_eq_ediv_of_nonneg i (by omega)]; exact q) (.inl (PyProof.noPylong_small (by omega)))
theorem op_mod : OpR X (binaryOp .Mod) (rI (fun _ j => 0 < j) fun i j => .int (i % j)) := opI fun i j _ _ _ _ _ hc q => by
  have h1 : (0 : Int) < j := hc
  exact mod_int' (by omega) (by rw [Int.fmod_eq_emod_of_nonneg i (by omega)]; exact q)
theorem op_and : OpR X (binaryOp .BitAnd) (rI0 fun i j => .int (Builtin.bitAnd i j)) := opI0 fun _ _ _ _ _ _ _ q => and_int q
theorem unI {f : Value → Sem Value} {g : Int → Int}
    (rule : ∀ (i : Int) (t : Tok) (s : Shared) (Q : Value → Shared → Prop) (E : Value → Shared → Prop), Q (.int (g i) s.toks) { s with toks := s.toks + 1 } → wpAny (model X.prog X.w) X.A (f (.int i t)) Q E s) :
    UnR X f (rU fun i => .int (g i)) := by
  intro pins s σ H x v Q I rx h
  obtain ⟨i, rfl, q⟩ := h
  obtain ⟨t, rfl⟩ := rx
  exact rule i t s _ _ ⟨.int (g i), H, I.tok _, ⟨_, rfl⟩, q⟩
theorem un_neg : UnR X (unaryOp .USub) (rU fun i => .int (-i)) := unI fun _ _ _ _ _ q => neg_int q
end
def scal : V → V → Bool
  | .non, .non => true | .non, .int _ => true | .int _, .non => true | .non, .bl _ => true | .bl _, .non => true | .non, .str _ => true | .str _, .non => true
  | .int _, .int _ => true | .bl _, .bl _ => true | .str _, .str _ => true | .byt _, .byt _ => true
  | .int _, .str _ => true | .str _, .int _ => true | .bl _, .str _ => true | .str _, .bl _ => true
  | _, _ => false
def rEq : R2 := fun x y H Q => scal x y = true ∧ Q (.bl (decide (x = y))) H
def rNe : R2 := fun x y H Q => scal x y = true ∧ Q (.bl (!decide (x = y))) H
theorem dec_int {i j : Int} : decide (V.int i = V.int j) = (i == j) := by
  rw [Bool.eq_iff_iff]
  simp
theorem dec_bl {i j : Bool} : decide (V.bl i = V.bl j) = (i == j) := by
  rw [Bool.eq_iff_iff]
  simp
theorem dec_str {i j : Str} : decide (V.str i = V.str j) = (i == j) := by
  rw [Bool.eq_iff_iff]
  simp
theorem dec_byt {i j : Array UInt8} : decide (V.byt i = V.byt j) = (i.toList == j.toList) := by
  rw [Bool.eq_iff_iff]
  cases i
  cases j
  simp
section
variable {X : Cx} {a b c : Expr} {ta tb tc : TE} {pos : Pos}
theorem fin_bl {pins : List (Addr × Obj)} {σ : St} {H : Hp} {s : Shared} {Q : VK} {k k' : Bool} (I : Inv X pins σ H s) (q : Q (.bl k) H) (e : k = k') : EP X pins σ Q (.bool k') s := by
  subst e
  exact ⟨.bl k, H, I, rfl, q⟩
theorem op_eq : OpR X (compareOp .Eq) rEq := by
  intro pins s σ H x y v u Q I rx ry h
  obtain ⟨hs, q⟩ := h
  cases x with
  | non =>
    cases rx
    cases y with
    | non => cases ry; exact PySem.EqNone.eq_none_none (fin_bl I q (by simp))
    | bl j => cases ry; exact PySem.EqNone.eq_none_bool (fin_bl I q (by simp))
    | int j => obtain ⟨t', rfl⟩ := ry; exact PySem.EqNone.eq_none_int (fin_bl I q (by simp))
    | str j => obtain ⟨t', rfl⟩ := ry; exact PySem.EqNone.eq_none_str (fin_bl I q (by simp))
    | _ => exact absurd (show false = true from hs) Bool.false_ne_true
  | bl i =>
    cases rx
    cases y with
    | non => cases ry; exact PySem.EqNone.eq_bool_none (fin_bl I q (by simp))
    | bl j => cases ry; exact eq_bool (fin_bl I q dec_bl)
    | str j => obtain ⟨t', rfl⟩ := ry; exact PySem.EqMixed.eq_bool_str (fin_bl I q (by simp))
    | _ => exact absurd (show false = true from hs) Bool.false_ne_true
  | int i =>
    obtain ⟨t, rfl⟩ := rx
    cases y with
    | non => cases ry; exact PySem.EqNone.eq_int_none (fin_bl I q (by simp))
    | int j => obtain ⟨t', rfl⟩ := ry; exact eq_int (fin_bl I q dec_int)
    | str j => obtain ⟨t', rfl⟩ := ry; exact PySem.EqMixed.eq_int_str (fin_bl I q (by simp))
    | _ => exact absurd (show false = true from hs) Bool.false_ne_true
  | str i =>
    obtain ⟨t, rfl⟩ := rx
    cases y with
    | non => cases ry; exact PySem.EqNone.eq_str_none (fin_bl I q (by simp))
    | bl j => cases ry; exact PySem.EqMixed.eq_str_bool (fin_bl I q (by simp))
    | int j => obtain ⟨t', rfl⟩ := ry; exact PySem.EqMixed.eq_str_int (fin_bl I q (by simp))
    | str j => obtain ⟨t', rfl⟩ := ry; exact eq_str (fin_bl I q dec_str)
    | _ => exact absurd (show false = true from hs) Bool.false_ne_true
  | byt i =>
    obtain ⟨t, rfl⟩ := rx
    cases y with
    | byt j => obtain ⟨t', rfl⟩ := ry; exact PySem.W.eq_bytes (fin_bl I q dec_byt)
    | _ => exact absurd (show false = true from hs) Bool.false_ne_true
  | _ => cases y <;> exact absurd (show false = true from hs) Bool.false_ne_true
theorem op_ne : OpR X (compareOp .NotEq) rNe := by
  intro pins s σ H x y v u Q I rx ry h
  obtain ⟨hs, q⟩ := h
  cases x with
  | non =>
    cases rx
    cases y with
    | non => cases ry; exact PySem.EqNone.ne_none_none (fin_bl I q (by simp))
    | bl j => cases ry; exact PySem.EqNone.ne_none_bool (fin_bl I q (by simp))
    | int j => obtain ⟨t', rfl⟩ := ry; exact PySem.EqNone.ne_none_int (fin_bl I q (by simp))
    | str j => obtain ⟨t', rfl⟩ := ry; exact PySem.EqNone.ne_none_str (fin_bl I q (by simp))
    | _ => exact absurd (show false = true from hs) Bool.false_ne_true
  | bl i =>
    cases rx
    cases y with
    | non => cases ry; exact PySem.EqNone.ne_bool_none (fin_bl I q (by simp))
    | bl j => cases ry; exact ne_bool (fin_bl I q (congrArg not dec_bl))
    | str j => obtain ⟨t', rfl⟩ := ry; exact PySem.EqMixed.ne_bool_str (fin_bl I q (by simp))
    | _ => exact absurd (show false = true from hs) Bool.false_ne_true
  | int i =>
    obtain ⟨t, rfl⟩ := rx
    cases y with
    | non => cases ry; exact PySem.EqNone.ne_int_none (fin_bl I q (by simp))
    | int j => obtain ⟨t', rfl⟩ := ry; exact ne_int (fin_bl I q (congrArg not dec_int))
    | str j => obtain ⟨t', rfl⟩ := ry; exact PySem.EqMixed.ne_int_str (fin_bl I q (by simp))
    | _ => exact absurd (show false = true from hs) Bool.false_ne_true
  | str i =>
    obtain ⟨t, rfl⟩ := rx
    cases y with
    | non => cases ry; exact PySem.EqNone.ne_str_none (fin_bl I q (by simp))
    | bl j => cases ry; exact PySem.EqMixed.ne_str_bool (fin_bl I q (by simp))
    | int j => obtain ⟨t', rfl⟩ := ry; exact PySem.EqMixed.ne_str_int (fin_bl I q (by simp))
    | str j => obtain ⟨t', rfl⟩ := ry; exact ne_str (fin_bl I q (congrArg not dec_str))
    | _ => exact absurd (show false = true from hs) Bool.false_ne_true
  | byt i =>
    obtain ⟨t, rfl⟩ := rx
    cases y with
    | byt j => obtain ⟨t', rfl⟩ := ry; exact PySem.W.ne_bytes (fin_bl I q (congrArg not dec_byt))
    | _ => exact absurd (show false = true from hs) Bool.false_ne_true
  | _ => cases y <;> exact absurd (show false = true from hs) Bool.false_ne_true
theorem op_lt : OpR X (compareOp .Lt) (rI0 fun i j => .bl (decide (i < j))) := opB0 fun _ _ _ _ _ _ _ q => lt_int q
theorem op_le : OpR X (compareOp .LtE) (rI0 fun i j => .bl (decide (i ≤ j))) := opB0 fun _ _ _ _ _ _ _ q => le_int q
theorem op_gt : OpR X (compareOp .Gt) (rI0 fun i j => .bl (decide (j < i))) := opB0 fun _ _ _ _ _ _ _ q => gt_int q
theorem op_ge : OpR X (compareOp .GtE) (rI0 fun i j => .bl (decide (j ≤ i))) := opB0 fun _ _ _ _ _ _ _ q => ge_int q
def isObj : HO → Bool
  | .lst _ => true
  | .ins _ _ _ => true
  | _ => false
theorem nomark (b : Expr) {op : CmpOp} (h : op ≠ .In := by decide) (h2 : op ≠ .NotIn := by decide) : behindInMarks op b = false := by
  have e1 : (op == CmpOp.In) = false := by cases op <;> first | rfl | exact absurd rfl h
  have e2 : (op == CmpOp.NotIn) = false := by cases op <;> first | rfl | exact absurd rfl h2
  cases b <;> simp [behindInMarks, e1, e2]
theorem pe_cmpR {op : CmpOp} {r : R2} (ho : OpR X (compareOp op) r) (ha : PE X a ta) (hb : PE X b tb) (hm : behindInMarks op b = false) : PE X (.Compare a [op] [b] pos) (tOp r ta tb) := by
  intro pins s σ H Q I h
  exact wpAny_Compare1 (binT ha hb I h fun v u s2 x y H2 I2 rx ry q => ho pins s2 σ H2 x y v u Q I2 rx ry q) hm
def tTest (t : TE) : TT := fun σ H Q => t σ H fun x H' => ∃ k, x = .bl k ∧ Q k H'
theorem pt_cmpR {op : CmpOp} {r : R2} (ho : OpR X (compareOp op) r) (ha : PE X a ta) (hb : PE X b tb) (hm : behindInMarks op b = false) : PT X (.Compare a [op] [b] pos) (tTest (tOp r ta tb)) := by
  intro pins s σ H Q I h
  refine wpAny_isTrue_Compare1 (thn (ha pins s σ H _ I h) fun v s1 ⟨x, H1, I1, r1, q1⟩ => thn (hb pins s1 σ H1 _ I1 q1) fun u s2 ⟨y, H2, I2, r2, q2⟩ =>
    thn (ho pins s2 σ H2 x y v u _ I2 r1 r2 q2) fun c s3 ⟨z, H3, I3, r3, k, e, q3⟩ => ?_) hm
  subst e
  cases r3
  exact wpAny_truthy_bool ⟨H3, I3, q3⟩
def tChain (r r' : R2) (ta tb tc : TE) : TE := fun σ H Q => ta σ H fun x H1 => tb σ H1 fun y H2 => r x y H2 fun z H3 => ∃ k, z = .bl k ∧
  (if k = true then tc σ H3 fun w' H4 => r' y w' H4 Q else Q (.bl false) H3)
theorem pt_chain {op op' : CmpOp} {r r' : R2} (ho : OpR X (compareOp op) r) (ho' : OpR X (compareOp op') r') (ha : PE X a ta) (hb : PE X b tb) (hc : PE X c tc)
    (hm : lastMarks [op, op'] [b, c] = false := by with_unfolding_all rfl) : PT X (.Compare a [op, op'] [b, c] pos) (tTest (tChain r r' ta tb tc)) := by
  intro pins s σ H Q I h
  refine isTrue_chain (thn (ha pins s σ H _ I h) fun v s1 ⟨x, H1, I1, r1, q1⟩ => test_link (thn (hb pins s1 σ H1 _ I1 q1) fun u s2 ⟨y, H2, I2, r2, q2⟩ =>
    thn (ho pins s2 σ H2 x y v u _ I2 r1 r2 q2) fun d s3 ⟨z, H3, I3, r3, k, e, q3⟩ => ?_)) hm
  subst e
  cases r3
  refine wpAny_truthy_bool ?_
  cases k with
  | false =>
    obtain ⟨k', e', q'⟩ := q3
    cases e'
    exact ite_ff ⟨H3, I3, q'⟩
  | true =>
    refine ite_tt (test_last (thn (hc pins s3 σ H3 _ I3 q3) fun w' s4 ⟨z', H4, I4, r4, q4⟩ => thn (ho' pins s4 σ H4 y z' u w' _ I4 r2 r4 q4) fun d' s5 ⟨z2, H5, I5, r5, k2, e2, q5⟩ => ?_))
    subst e2
    cases r5
    exact wpAny_truthy_bool ⟨H5, I5, q5⟩
def TruV (K : PySem.W.Frag) (x : V) (H : Hp) (k : Bool) : Prop :=
  match x with
  | .non => k = false
  | .bl b => k = b
  | .int i => k = (i != 0)
  | .str y => y.length ≤ sizeLine ∧ k = ((y.length : Int) != 0)
  | .byt y => y.size ≤ sizeLine ∧ k = ((y.size : Int) != 0)
  | .ref p => (∃ xs, SqL K H p xs ∧ k = !xs.isEmpty) ∨ (∃ xs, SqT K H p xs ∧ k = !xs.isEmpty) ∨ ∃ kvs, H p = some (.dK kvs) ∧ k = !kvs.isEmpty
  | _ => False
theorem line63 : (sizeLine : Nat) < 2 ^ 63 := by rw [sizeLine_eq]; decide
def PlainIxT (b : Expr) : Prop := ∀ o i, subscripted b false o i = operate [o, i] (getItem o i)
theorem vals1 {x : V} {us : List Value} (r : Vals [x] us) : ∃ u, us = [u] ∧ RelV x u := by
  cases r with
  | cons r1 r2 => cases r2; exact ⟨_, rfl, r1⟩
theorem vals2 {x y : V} {us : List Value} (r : Vals [x, y] us) : ∃ u w', us = [u, w'] ∧ RelV x u ∧ RelV y w' := by
  cases r with
  | cons r1 r2 =>
    cases r2 with
    | cons r3 r4 => cases r4; exact ⟨_, _, rfl, r1, r3⟩
theorem call_int1 : CallR X (.type "int") (fun xs H Q => (∃ i, xs = [.int i] ∧ Q (.int i) H) ∨ ∃ k, xs = [.bl k] ∧ Q (.int (if k then 1 else 0)) H) := by
  intro pins s σ H xs us Q I r h
  rcases h with ⟨i, rfl, q⟩ | ⟨k, rfl, q⟩
  · obtain ⟨u, rfl, t, rfl⟩ := vals1 r
    exact call_int_int ⟨.int i, H, I, ⟨_, rfl⟩, q⟩
  · obtain ⟨u, rfl, r1⟩ := vals1 r
    cases r1
    exact call_int_bool ⟨.int (if k then 1 else 0), H, I.tok _, ⟨_, rfl⟩, q⟩
def LenV (K : PySem.W.Frag) (x : V) (H : Hp) (n : Nat) : Prop :=
  match x with
  | .str y => y.length ≤ sizeLine ∧ n = y.length
  | .byt y => y.size ≤ sizeLine ∧ n = y.size
  | .ref p => (∃ xs, SqL K H p xs ∧ n = xs.length) ∨ ∃ xs, SqT K H p xs ∧ n = xs.length
  | _ => False
end
end L2
namespace L2
open PySem PySem.Spec PyProof.Rows
structure ObjM (h : Heap) (x dx C : Addr) (mA : Str → Option Value) : Prop where
  obj : h.get? x = some (PySem.W.instObj C dx)
  ns : h.Ns1 dx mA
  ne : dx ≠ x
theorem lookIn_ns {h : Heap} {dx : Addr} {mA : Str → Option Value} (n : h.Ns1 dx mA) : ∃ od, h.get? dx = some od ∧ ∀ name, PySem.W.lookIn name od = some (mA name) := by
  obtain ⟨o, es, ep, ho, hd, hk, _, hm⟩ := n
  refine ⟨o, ho, fun name => ?_⟩
  have e := hm name
  unfold nsFind findBy at e
  rw [← Array.find?_toList] at e
  unfold PySem.W.lookIn
  rw [hd]
  dsimp only
  split
  · rename_i y q
    rw [q] at e
    exact congrArg some e
  · rename_i q
    rw [q] at e
    have a : es.toList.any (·.refKey) = false := by
      rw [List.any_eq_false]
      intro y hy
      obtain ⟨z, t, hkey⟩ := hk y (Array.mem_toList_iff.mp hy)
      simp [DictEntry.refKey, hkey]
    have a' : ¬ es.toList.any (·.refKey) = true := by rw [a]; exact Bool.false_ne_true
    rw [if_neg a']
    exact congrArg some e
theorem ObjM.look {h : Heap} {x dx C : Addr} {mA : Str → Option Value} (I : ObjM h x dx C mA) : ∃ od, PySem.W.InstAt h x (PySem.W.instObj C dx) C (some od) ∧ ∀ name, PySem.W.lookIn name od = some (mA name) :=
  let ⟨od, ho, hl⟩ := lookIn_ns I.ns
  ⟨od, ⟨I.obj, rfl, rfl, ho⟩, hl⟩
section
variable {prog : Program} {w : World} {A : Around} {E : Value → Shared → Prop} {s : Shared} {K : PySem.W.Frag} {x dx C f : Addr} {mA : Str → Option Value} {name : Str} {v : Value}
end
def putF (f : Str) (v : V) : List (Str × V) → List (Str × V)
  | [] => [(f, v)]
  | (g, x) :: r => if g = f then (g, v) :: r else (g, x) :: putF f v r
theorem RelO.some_of {v : V} {o : Option Value} (r : RelO (some v) o) : ∃ u, o = some u ∧ RelV v u := by
  cases o with
  | none => exact (show False from r).elim
  | some u => exact ⟨u, rfl, r⟩
theorem handed_of {v : V} {u : Value} (r : RelV v u) : PySem.W.handedIn u = true := by
  cases v with
  | non => cases (show u = Value.none from r); rfl
  | bl b => cases (show u = Value.bool b from r); rfl
  | int i => obtain ⟨t, e⟩ := (show ∃ t, u = Value.int i t from r); cases e; rfl
  | str x => obtain ⟨t, e⟩ := (show ∃ t, u = Value.str x t from r); cases e; rfl
  | byt b => obtain ⟨t, e⟩ := (show ∃ t, u = Value.bytes b t from r); cases e; rfl
  | flt b => obtain ⟨t, e⟩ := (show ∃ t, u = Value.float b t from r); cases e; rfl
  | ref a => cases (show u = Value.ref a from r); rfl
  | ty n => cases (show u = Value.type n from r); rfl
section
variable {P : Program} {w : World} {H H' : Hp} {h h' : Heap} {a C dx : Addr} {fs fs' : List (Str × V)}
theorem ins_get (hok : HOk P w H h) (e : H a = some (.ins C dx fs)) : ∃ mA, ObjM h a dx C mA ∧ (∀ f, RelO (fs.lookup f) (mA f)) ∧ PySem.Within mA (fs.map (·.1)) ∧ fs.length ≤ 1000 ∧ H dx = some (.own a) := by
  obtain ⟨d, z, ne, ob, mA, n, r, q⟩ := (show ObjOk P w H h a (.ins C dx fs) from hok a _ e)
  exact ⟨mA, ⟨ob, n, ne⟩, r, q, z, d⟩
end
structure Cls (K : PySem.W.Frag) (C : Addr) : Prop where
  pg : PySem.W.plainGet K C Str.empty = true
  hd : PySem.W.hasDictIn K C = true
  po : PySem.W.plainOver K C = true
  sa : PySem.W.findIn K (.ref C) "__setattr__" = some (some (.builtin "object.__setattr__"))
theorem Cls.get {K : PySem.W.Frag} {C : Addr} (c : Cls K C) (f : Str) : PySem.W.plainGet K C f = true := c.pg
def NoAttr (K : PySem.W.Frag) (C : Addr) (f : Str) : Prop := PySem.W.findIn K (.ref C) f = some none
structure Con (K : PySem.W.Frag) (C : Addr) (f : Str) (v : V) (u : Value) : Prop where
  at_ : PySem.W.findIn K (.ref C) f = some (some u)
  rel : RelV v u
  get : PySem.W.specialIn K u "__get__" = some none
  cp : PySem.W.copiedNames.contains f = false
structure Meth (K : PySem.W.Frag) (C : Addr) (m : Str) (f : Addr) : Prop where
  at_ : PySem.W.findIn K (.ref C) m = some (some (.ref f))
  fn : PySem.W.isFn K (.ref f) = true
  kp : PySem.W.keepIn K (.ref f) = true
section
variable {X : Cx} {pins : List (Addr × Obj)} {σ : St} {H : Hp} {s : Shared} {a C dx : Addr} {fs : List (Str × V)} {f : Str} {v : V} {A : Around} {E : Value → Shared → Prop}
theorem attr_of {prog : Program} {w : World} {env : Env} {e : Expr} {f : Str} {pos : Pos} {s : Shared} {Q : Value → Shared → Prop} (hb : attributeBase e f env (eval e env) = eval e env)
    (h : wpAny (model prog w) A (eval e env) (fun o s₁ => wpAny (model prog w) A (getAttr o f true) Q E s₁) E s) : wpAny (model prog w) A (eval (.Attribute e f pos) env) Q E s :=
  Attribute_any_ h (by rw [arm_eval_Attribute, hb])
end
def tFld (K : PySem.W.Frag) (ta : TE) (f : Str) : TE := fun σ H Q => ta σ H fun x H1 => ∃ a C dx fs v, x = .ref a ∧ H1 a = some (.ins C dx fs) ∧ Cls K C ∧ NoAttr K C f ∧ fs.lookup f = some v ∧ Q v H1
def tCon (K : PySem.W.Frag) (ta : TE) (f : Str) : TE := fun σ H Q => ta σ H fun x H1 => ∃ a C dx fs v u, x = .ref a ∧ H1 a = some (.ins C dx fs) ∧ Cls K C ∧ Con K C f v u ∧ fs.lookup f = none ∧ Q v H1
def sFld (K : PySem.W.Frag) (ta tv : TE) (f : Str) : TS := fun D σ H => tv σ H fun y H1 => ta σ H1 fun x H2 => ∃ a C dx fs, x = .ref a ∧ H2 a = some (.ins C dx fs) ∧ Cls K C ∧ NoAttr K C f ∧ fs.length < 1000 ∧
  D.nx σ (upd H2 a (.ins C dx (putF f y fs)))
def InOp (X : Cx) (op : Operator) (rd : V → V → Hp → VK → Prop) : Prop :=
  ∀ (pins : List (Addr × Obj)) (s : Shared) (σ : St) (H : Hp) (x y : V) (u v : Value) (Q : VK), Inv X pins σ H s → RelV x u → RelV y v → rd x y H Q → wpAny (model X.prog X.w) X.A (inplaceOp op u v) (EP X pins σ Q) X.xe s
def sFldAug (K : PySem.W.Frag) (ta tv : TE) (rd : V → V → Hp → VK → Prop) (f : Str) : TS := fun D σ H => ta σ H fun x H1 => ∃ a C dx fs v, x = .ref a ∧ H1 a = some (.ins C dx fs) ∧ Cls K C ∧ NoAttr K C f ∧ fs.lookup f = some v ∧
  tv σ H1 fun y H2 => rd v y H2 fun z H3 => ∃ dx' fs', H3 a = some (.ins C dx' fs') ∧ fs'.length < 1000 ∧ D.nx σ (upd H3 a (.ins C dx' (putF f z fs')))
section
variable {X : Cx} {o e value : Expr} {f : Str} {pos pos' tpos : Pos} {ta tv : TE}
def rAdd : V → V → Hp → VK → Prop := fun x y H Q => ∃ i j, x = .int i ∧ y = .int j ∧ Q (.int (i + j)) H
def rSub : V → V → Hp → VK → Prop := fun x y H Q => ∃ i j, x = .int i ∧ y = .int j ∧ Q (.int (i - j)) H
end
section
variable {X : Cx} {pins : List (Addr × Obj)} {σ : St} {H : Hp} {s : Shared} {A : Around} {E : Value → Shared → Prop} {Q : Value → Shared → Prop} {c : Value} {b : Bool}
inductive TyOf (K : PySem.W.Frag) (H : Hp) : V → Value → Prop where
  | non : TyOf K H .non (.type "NoneType")
  | bl (x : Bool) : TyOf K H (.bl x) (.type "bool")
  | int (i : Int) : TyOf K H (.int i) (.type "int")
  | str (x : Str) : TyOf K H (.str x) (.type "str")
  | flt (x : UInt64) : TyOf K H (.flt x) (.type "float")
  | lst {a : Addr} {xs : List V} (e : H a = some (.lst xs)) : TyOf K H (.ref a) (.type "list")
  | frz {a : Addr} {o : Obj} {xs : List V} (e : H a = some (.frz o (.lst xs))) : TyOf K H (.ref a) (.type "list")
  | tup {a : Addr} {xs : List V} (e : H a = some (.tup xs)) : TyOf K H (.ref a) (.type "tuple")
  | dK {a : Addr} {kvs : List (Key × V)} (e : H a = some (.dK kvs)) : TyOf K H (.ref a) (.type "dict")
  | dT {a : Addr} {kvs : List (List Key × V)} (e : H a = some (.dT kvs)) : TyOf K H (.ref a) (.type "dict")
  | ins {a C dx : Addr} {fs : List (Str × V)} (e : H a = some (.ins C dx fs)) (cl : Cls K C) (ha : PySem.W.findIn K (.ref C) "__class__" = some (some (.builtin "object.__class__")))
      (hn : PySem.W.specialIn K (.builtin "object.__class__") "__get__" = some (some (.builtin "getset_descriptor.__get__"))) (htk : PySem.W.takesIn K (.builtin "object.__class__") = some true)
      (hm : PySem.W.mroIn K C (.type "object") = some true) : TyOf K H (.ref a) (.ref C)
theorem isinst_ok {x : V} {u t : Value} (I : Inv X pins σ H s) (rx : RelV x u) (ty : TyOf X.K H x t) (e : PySem.W.kitOne X.K t c = some b) (h : ∀ tk, Q (.bool b) { s with toks := tk }) :
    wpAny (model X.prog X.w) A (call (.builtin "isinstance") [u, c]) Q E s := by
  cases ty with
  | non => cases (show u = Value.none from rx); exact PySem.W.kia_one PySem.W.kitx_none I.kIn True.intro e (fun z => nomatch z) h
  | bl y => cases (show u = Value.bool y from rx); exact PySem.W.kia_one PySem.W.kitx_bool I.kIn True.intro e (fun z => nomatch z) h
  | int i => obtain ⟨t, q⟩ := (show ∃ t, u = Value.int i t from rx); cases q; exact PySem.W.kia_one PySem.W.kitx_int I.kIn True.intro e (fun z => nomatch z) h
  | str y => obtain ⟨t, q⟩ := (show ∃ t, u = Value.str y t from rx); cases q; exact PySem.W.kia_one PySem.W.kitx_str I.kIn True.intro e (fun z => nomatch z) h
  | flt y => obtain ⟨t, q⟩ := (show ∃ t, u = Value.float y t from rx); cases q; exact PySem.W.kia_one PySem.W.kitx_float I.kIn True.intro e (fun z => nomatch z) h
  | @lst a xs ea =>
    cases (show u = Value.ref a from rx)
    obtain ⟨_, _, n, _, h1⟩ := (show ObjOk X.prog X.w H s.heap a (.lst xs) from I.hok a _ ea)
    exact PySem.W.kia_one PySem.W.kitx_list I.kIn ⟨_, h1, rfl⟩ e (fun z => nomatch z) h
  | @frz a ob xs ea =>
    cases (show u = Value.ref a from rx)
    obtain ⟨_, _, _, n, _, h1⟩ := (show ObjOk X.prog X.w H s.heap a (.frz ob (.lst xs)) from I.hok a _ ea)
    exact PySem.W.kia_one PySem.W.kitx_list I.kIn ⟨_, h1, rfl⟩ e (fun z => nomatch z) h
  | @tup a xs ea =>
    cases (show u = Value.ref a from rx)
    obtain ⟨_, _, _, p⟩ := (show ObjOk X.prog X.w H s.heap a (.tup xs) from I.hok a _ ea)
    obtain ⟨o, h1, h2, _⟩ := p
    exact PySem.W.kia_one PySem.W.kitx_tuple I.kIn ⟨o, h1, h2⟩ e (fun z => nomatch z) h
  | @dK a kvs ea =>
    cases (show u = Value.ref a from rx)
    obtain ⟨_, _, vs, _, p⟩ := (show ObjOk X.prog X.w H s.heap a (.dK kvs) from I.hok a _ ea)
    obtain ⟨o, es, ep, h1, h2, _⟩ := p
    exact PySem.W.kia_one PySem.W.kitx_dict I.kIn ⟨o, h1, h2.1⟩ e (fun z => nomatch z) h
  | @dT a kvs ea =>
    cases (show u = Value.ref a from rx)
    obtain ⟨_, _, xs, _, o, es, ep, h1, h2, _⟩ := (show ObjOk X.prog X.w H s.heap a (.dT kvs) from I.hok a _ ea)
    exact PySem.W.kia_one PySem.W.kitx_dict I.kIn ⟨o, h1, h2.1⟩ e (fun z => nomatch z) h
  | @ins a C dx fs ea cl ha hn htk hm =>
    cases (show u = Value.ref a from rx)
    obtain ⟨mA, O, _⟩ := ins_get I.hok ea
    obtain ⟨od, J, _⟩ := O.look
    exact PySem.W.kia_one (PySem.W.kitx_own (cl.get _) cl.hd ha hn htk hm) I.kIn J e (fun z => nomatch z) h
end
end L2
namespace L2
open PySem PySem.Spec PyProof.Rows
structure Room (k : Nat) (A : Around) : Prop where
  hd : A.handled = none
  dp : A.depth + 3 * k + 5 < recursionLimit
  un : A.units + 16 * k + 200 < cLine
theorem Room.mono {j k : Nat} {A : Around} (r : Room k A) (h : j ≤ k) : Room j A := ⟨r.hd, by have := r.dp; omega, by have := r.un; omega⟩
theorem Room.deeper {k : Nat} {A : Around} (r : Room (k + 1) A) (env : Env) : Room k (A.deeper env) :=
  ⟨r.hd, by have := r.dp; show A.depth + 1 + 3 * k + 5 < _; omega, by have := r.un; show A.units + 3 + 16 * k + 200 < _; omega⟩
theorem make_depth {A : Around} {C : Addr} {us : List Value} {kw : List (Str × Value)} : (A.under (.builtin "type.__call__" ⟨.ref C :: us, kw⟩)).depth = A.depth + 1 := by
  first | rfl | simp [Around.under, Code.weight, Code.isCreation, Code.isGuard, Code.isCaller, Code.frames, Code.isFrame, guardIds]
theorem make_units {A : Around} {C : Addr} {us : List Value} {kw : List (Str × Value)} : (A.under (.builtin "type.__call__" ⟨.ref C :: us, kw⟩)).units = A.units + 1 := by
  first | rfl | simp [Around.under, Code.cUnits, Code.frames, Code.isFrame]
theorem Room.make {k : Nat} {A : Around} (r : Room (k + 1) A) (C : Addr) (us : List Value) (kw : List (Str × Value)) : Room k (A.under (.builtin "type.__call__" ⟨.ref C :: us, kw⟩)) :=
  ⟨r.hd, by have := r.dp; rw [make_depth]; omega, by have := r.un; rw [make_units]; omega⟩
theorem Room.depth {k : Nat} {A : Around} (r : Room k A) : A.depth < recursionLimit := by have := r.dp; omega
theorem Room.units {k : Nat} {A : Around} (r : Room k A) : A.units + 64 < cLine := by have := r.un; omega
def tNil : TA := fun _ H Q => Q [] H
def tCons (ta : TE) (tr : TA) : TA := fun σ H Q => ta σ H fun x H1 => tr σ H1 fun xs H2 => Q (x :: xs) H2
section
variable {X : Cx} {e : Expr} {es : List Expr} {te : TE} {t : TA} {pos : Pos}
theorem pa_nil : PA X [] tNil := fun _ _ _ _ H Q I h => Calls.spliced_nil ⟨[], H, I, .nil, h⟩
theorem pa_cons (ha : PE X e te) (hr : PA X es t) (hs : starEach (e :: es) X.env = (false, eval e X.env) :: starEach es X.env := by rfl) : PA X (e :: es) (tCons te t) := by
  intro pos pins s σ H Q I h
  rw [hs]
  show wpAny _ _ (spliced ((false, eval e X.env) :: backTo pos (starEach es X.env))) _ _ s
  refine Calls.spliced_cons (thn (ha pins s σ H _ I h) fun u s1 ⟨x, H1, I1, r1, q1⟩ => ?_)
  exact thn (hr pos pins s1 σ H1 _ I1 q1) fun us s2 ⟨xs, H2, I2, r2, q2⟩ => ⟨x :: xs, H2, I2, .cons r1 r2, q2⟩
def tTup (t : TA) : TE := fun σ H Q => t σ H fun xs H1 => xs.length ≤ sizeLine ∧ ∀ p, H1 p = none → Q (.ref p) (upd H1 p (.tup xs))
def tLst (t : TA) : TE := fun σ H Q => t σ H fun xs H1 => xs.length ≤ sizeLine ∧ ∀ p, H1 p = none → Q (.ref p) (upd H1 p (.lst xs))
theorem pe_tup {x1} (h : PA X es t) : PE X (.Tuple es x1 pos) (tTup t) := by
  intro pins s σ H Q I hq
  refine wpAny_Tuple_spliced (thn (h pos pins s σ H _ I hq) fun us s1 ⟨xs, H1, I1, r, z, q⟩ => ⟨by rw [← r.length]; exact z, ?_⟩)
  have hf : H1 s1.heap.objs.size = none := I1.hok.fresh (Nat.le_refl _)
  refine ⟨.ref s1.heap.objs.size, upd H1 s1.heap.objs.size (.tup xs), I1.laid (t' := s1.toks) (fun b u e => Heap.get?_push_of_some _ e) (Nat.le_refl _) ?_, rfl, q _ hf⟩
  exact ⟨z, us, r, ⟨_, Heap.get?_push_size _ rfl, rfl, _, rfl⟩⟩
theorem pe_lst (h : PA X es t) : PE X (.List es pos) (tLst t) := by
  intro pins s σ H Q I hq
  refine wpAny_List_spliced (thn (h pos pins s σ H _ I hq) fun us s1 ⟨xs, H1, I1, r, z, q⟩ => ⟨by rw [← r.length]; exact z, ?_⟩)
  have hf : H1 s1.heap.objs.size = none := I1.hok.fresh (Nat.le_refl _)
  refine ⟨.ref s1.heap.objs.size, upd H1 s1.heap.objs.size (.lst xs), I1.laid (t' := s1.toks) (fun b u e => Heap.get?_push_of_some _ e) (Nat.le_refl _) ?_, rfl, q _ hf⟩
  exact ⟨z, us, 0, r, Heap.get?_push_size _ rfl⟩
end
abbrev Sp := List V → Hp → VK → XK → Prop
abbrev CXT := List Env → Hp → Shared → XK → Value → Shared → Prop
structure Env0 (P : Program) (w : World) (K : PySem.W.Frag) (mg : Str → Option Value) (base : Heap) (A : Around) (outer : List Env) (s : Shared) (H : Hp) : Prop where
  frames : A.frames = some outer
  mod : Mod K mg base
  bs : ∀ b o, base.get? b = some o → s.heap.get? b = some o ∧ H b = none
  bsz : base.objs.size ≤ s.heap.objs.size
  funs : s.heap.FunFrames base outer
  frf : ∀ b ∈ frs outer, H b = none
  hok : HOk P w H s.heap
  bare : AllBare s.gens
def CE (outer : List Env) (P : Program) (w : World) (H : Hp) (s : Shared) (Q : VK) (u : Value) (s' : Shared) : Prop :=
  ∃ v H', s'.os = s.os ∧ AllBare s'.gens ∧ Un (frs outer) [] H H' s.heap s'.heap ∧ HOk P w H' s'.heap ∧ RelV v u ∧ Q v H'
def CR (CX : CXT) (outer : List Env) (P : Program) (w : World) (H : Hp) (s : Shared) (Q : VK) (E : XK) (r : Result) (s' : Shared) : Prop :=
  match r with
  | .ok (.ret u) => CE outer P w H s Q u s'
  | .ok _ => False
  | .error e => CX outer H s E e s'
structure FnOk (P : Program) (w : World) (K : PySem.W.Frag) (mg : Str → Option Value) (base : Heap) (CX : CXT) (k : Nat) (f : Addr) (fd : FuncData) (ps : List Str) (sp : Sp) : Prop where
  len : ∀ vs H Q E, sp vs H Q E → vs.length = ps.length
  run : ∀ (A : Around) (outer : List Env) (s : Shared) (H : Hp) (args : Args) (us : List Value) (vs : List V) (Q : VK) (E : XK), Room k A → Env0 P w K mg base A outer s H → BindsTo s fd args (ps.zip us) → Vals vs us → sp vs H Q E →
    codeAny (model P w) A (.call (.ref f) args) (CR CX outer P w H s Q E) s
theorem FnOk.mono {P : Program} {w : World} {K : PySem.W.Frag} {mg : Str → Option Value} {base : Heap} {CX : CXT} {j k : Nat} {f : Addr} {fd : FuncData} {ps : List Str} {sp : Sp} (F : FnOk P w K mg base CX j f fd ps sp) (h : j ≤ k) :
    FnOk P w K mg base CX k f fd ps sp := ⟨F.len, fun A outer s H args us vs Q E hr => F.run A outer s H args us vs Q E (hr.mono h)⟩
theorem Env0.make {P : Program} {w : World} {K : PySem.W.Frag} {mg : Str → Option Value} {base : Heap} {A : Around} {outer : List Env} {s : Shared} {H : Hp} (e : Env0 P w K mg base A outer s H) (C : Addr) (us : List Value) (kw : List (Str × Value)) :
    Env0 P w K mg base (A.under (.builtin "type.__call__" ⟨.ref C :: us, kw⟩)) outer s H := ⟨by first | exact e.frames | (simpa [Around.under, Code.envs, Code.isFrame, pushEnvs] using e.frames), e.mod, e.bs, e.bsz, e.funs, e.frf, e.hok, e.bare⟩
section
variable {X : Cx} {pins : List (Addr × Obj)} {σ : St} {H : Hp} {s s' : Shared}
theorem Inv.env0 (I : Inv X pins σ H s) : Env0 X.prog X.w X.K X.mg X.base X.A X.stack s H :=
  ⟨I.ok.frames, I.ok.mod, I.bs, Nat.le_trans I.ok.bsz I.sz, I.stack, I.stkFree, I.hok, I.bare⟩
theorem Inv.after {Q : VK} {u : Value} (I : Inv X pins σ H s) (h : CE X.stack X.prog X.w H s Q u s') : EP X pins σ Q u s' := by
  obtain ⟨v, H', os, bare, un, hok, r, q⟩ := h
  obtain ⟨hh, g, d, t, os'⟩ := s'
  obtain rfl : os' = s.os := os
  exact ⟨v, H', I.call (h' := hh) (g' := g) (d' := d) (t' := t) (ch := []) un hok bare (fun b z => absurd z (by simp)), r, q⟩
end
def tCall (sp : Sp) (dvs : List V) (E : XK) (t : TA) : TE := fun σ H Q => t σ H fun vs H1 => sp (vs ++ dvs) H1 Q E
def tMeth (C : Addr) (m : Str) (sp : Sp) (dvs : List V) (E : XK) (ta : TE) (t : TA) : TE := fun σ H Q => ta σ H fun x H1 => ∃ a dx fs, x = .ref a ∧ H1 a = some (.ins C dx fs) ∧ fs.lookup m = none ∧
  t σ H1 fun vs H2 => sp (x :: (vs ++ dvs)) H2 Q E
def tMake (C : Addr) (sp : Sp) (dvs : List V) (E : XK) (t : TA) : TE := fun σ H Q => t σ H fun vs H1 => ∀ x dx, H1 x = none → H1 dx = none → dx ≠ x →
  sp (.ref x :: (vs ++ dvs)) (upd (upd H1 dx (.own x)) x (.ins C dx [])) (fun v H2 => v = .non ∧ Q (.ref x) H2) E
def Binds (K : PySem.W.Frag) (fd : FuncData) (ps : List Str) (ds : List Value) : Prop :=
  ∀ (s : Shared) (us : List Value), K.In s.heap → (us ++ ds).length = ps.length → BindsTo s fd ⟨us, []⟩ (ps.zip (us ++ ds))
theorem Binds.all {K : PySem.W.Frag} {fd : FuncData} {ps : List Str} (h : ∀ us : List Value, us.length = ps.length → bindArgs fd ⟨us, []⟩ = pure (ps.zip us)) : Binds K fd ps [] := fun s us _ hl => by
  rw [List.append_nil] at hl ⊢
  exact .of_eq (h us hl)
def Passes (CX : CXT) (X : Cx) (E : XK) : Prop := ∀ (pins : List (Addr × Obj)) (σ : St) (H : Hp) (s : Shared) (e : Value) (s' : Shared), Inv X pins σ H s → CX X.stack H s E e s' → X.xe e s'
section
variable {X : Cx} {CX : CXT} {k : Nat} {f C : Addr} {fd : FuncData} {ps : List Str} {sp : Sp} {dvs : List V} {ds : List Value} {E : XK} {x m : Str} {p pos apos : Pos} {e o : Expr} {es : List Expr} {ta : TE} {t : TA}
theorem run_fn {pins : List (Addr × Obj)} {σ : St} {H : Hp} {s : Shared} {Q : VK} {us : List Value} {vs : List V} (F : FnOk X.prog X.w X.K X.mg X.base CX k f fd ps sp) (hr : Room k X.A) (hb : Binds X.K fd ps ds) (hd : Vals dvs ds) (hx : Passes CX X E)
    (I : Inv X pins σ H s) (r : Vals vs us) (h : sp (vs ++ dvs) H Q E) : wpAny (model X.prog X.w) X.A (call (.ref f) us) (EP X pins σ Q) X.xe s := by
  have r2 : Vals (vs ++ dvs) (us ++ ds) := r.append hd
  have hl : (us ++ ds).length = ps.length := by rw [← r2.length]; exact F.len _ _ _ _ h
  refine wpAny_call (codeAny_mono (F.run X.A X.stack s H ⟨us, []⟩ (us ++ ds) (vs ++ dvs) Q E hr I.env0 (hb s us I.kIn hl) r2 h) fun r s' hq => ?_)
  cases r with
  | error e => exact hx pins σ H s e s' I hq
  | ok fl =>
    cases fl with
    | ret u => exact I.after hq
    | next => exact False.elim hq
    | brk => exact False.elim hq
    | cont => exact False.elim hq
theorem pe_call (F : FnOk X.prog X.w X.K X.mg X.base CX k f fd ps sp) (hr : Room k X.A) (hg : Gl X x) (hm : X.mg x = some (.ref f)) (hk : PySem.W.keepIn X.K (.ref f) = true) (hb : Binds X.K fd ps ds) (hd : Vals dvs ds) (hx : Passes CX X E)
    (ha : PA X (e :: es) t) (hdb : (x == ("__debug__" : Str)) = false := by decide) (he : starEach (e :: es) X.env = (false, eval e X.env) :: starEach es X.env := by rfl) (hpl : (backTo pos (starEach es X.env)).any (·.1) = false := by rfl) :
    PE X (.Call (.Name x p) (e :: es) [] pos) (tCall sp dvs E t) := by
  intro pins s σ H Q I h
  refine wpAny_Call_Name_kw (ld_glob I hg hm ?_ hdb)
  refine PySem.W.callWith_K (h₀ := X.base) I.ok.mod.kin hk (thn (ha pos pins s σ H _ I h) fun us s1 ⟨vs, H1, I1, r, q⟩ => ⟨I1.kIn, ?_⟩) he hpl
  exact run_fn F hr hb hd hx I1 r q
structure Mk (K : PySem.W.Frag) (C f : Addr) : Prop where
  makes : PySem.W.makesIn K C = true
  init : PySem.W.findIn K (.ref C) "__init__" = some (some (.ref f))
  fn : PySem.W.isFn K (.ref f) = true
  kp : PySem.W.keepIn K (.ref C) = true
end
def PK (X : Cx) (kws : List Keyword) (t : TA) : Prop :=
  ∀ (pos : Pos) (pins : List (Addr × Obj)) (s : Shared) (σ : St) (H : Hp) (Q : List V → Hp → Prop), Inv X pins σ H s → t σ H Q → wpAny (model X.prog X.w) X.A (evalAll ((backToKw pos (keywordEach kws X.env)).map (·.2))) (AP X pins σ Q) X.xe s
section
variable {X : Cx} {CX : CXT} {k : Nat} {f C : Addr} {fd : FuncData} {ps ks : List Str} {sp : Sp} {E : XK} {x m : Str} {p pos apos kpos : Pos} {e o : Expr} {es : List Expr} {kws : List Keyword} {te ta : TE} {t tk : TA} {nm : Option Str}
structure KBinds (K : PySem.W.Frag) (fd : FuncData) (ps ks : List Str) (g : List Value → List Value → List Value) (gV : List V → List V → List V) : Prop where
  to : ∀ (s : Shared) (us ws : List Value), K.In s.heap → (g us ws).length = ps.length → BindsTo s fd ⟨us, ks.zip ws⟩ (ps.zip (g us ws))
  rel : ∀ {vs : List V} {us : List Value} {zs : List V} {ws : List Value}, Vals vs us → Vals zs ws → Vals (gV vs zs) (g us ws)
def tCallK (sp : Sp) (gV : List V → List V → List V) (E : XK) (t tk : TA) : TE := fun σ H Q => t σ H fun vs H1 => tk σ H1 fun zs H2 => sp (gV vs zs) H2 Q E
variable {g : List Value → List Value → List Value} {gV : List V → List V → List V}
end
structure FnScope (N P : List Str) (sc : Scope) : Prop where
  kind : sc.kind = .function
  co : sc.isCoroutine = false
  gen : sc.isGenerator = false
  nd : N.Nodup
  pre : N.take P.length = P
  par : ∀ x ∈ P, sc.names.lookup x = some .local ∨ sc.names.lookup x = some .cell
  nofree : ∀ y ∈ sc.names, y.2 ≠ .free
theorem bindL_out {kindOf : Str → Option NameKind} {x : Str} : ∀ {binds : List (Str × Value)} {m : Str → Option Value}, (∀ v, (x, v) ∉ binds) → bindL kindOf binds m x = m x
  | [], _, _ => rfl
  | (n, v) :: r, m, h => by
    unfold bindL
    rw [bindL_out fun w hw => h w (List.mem_cons_of_mem _ hw)]
    split
    · have : x ≠ n := by rintro rfl; exact h v List.mem_cons_self
      simp [this]
    · rfl
theorem bindC_out {kindOf : Str → Option NameKind} {x : Str} : ∀ {binds : List (Str × Value)} {m : Str → Option Value}, (∀ v, (x, v) ∉ binds) → bindC kindOf binds m x = m x
  | [], _, _ => rfl
  | (n, v) :: r, m, h => by
    unfold bindC
    rw [bindC_out fun w hw => h w (List.mem_cons_of_mem _ hw)]
    split
    · rfl
    · have : x ≠ n := by rintro rfl; exact h v List.mem_cons_self
      simp [this]
theorem bindL_get {kindOf : Str → Option NameKind} {x : Str} {v : Value} : ∀ {P : List Str} {vs : List Value} {i : Nat} {m : Str → Option Value}, P.Nodup → P[i]? = some x → vs[i]? = some v → kindOf x = some .local →
    bindL kindOf (P.zip vs) m x = some v
  | [], _, _, _, _, h, _, _ => by simp at h
  | _ :: _, [], _, _, _, _, h, _ => by simp at h
  | p :: P, w :: vs, 0, m, nd, h1, h2, hk => by
    simp at h1 h2; subst h1; subst h2
    show bindL kindOf ((p, w) :: P.zip vs) m p = _
    unfold bindL
    rw [bindL_out fun v hv => (List.nodup_cons.mp nd).1 (List.of_mem_zip hv).1, if_pos hk]
    simp
  | p :: P, w :: vs, i + 1, m, nd, h1, h2, hk => by
    show bindL kindOf ((p, w) :: P.zip vs) m x = _
    unfold bindL
    exact bindL_get (i := i) (List.nodup_cons.mp nd).2 (by simpa using h1) (by simpa using h2) hk
theorem bindC_get {kindOf : Str → Option NameKind} {x : Str} {v : Value} : ∀ {P : List Str} {vs : List Value} {i : Nat} {m : Str → Option Value}, P.Nodup → P[i]? = some x → vs[i]? = some v → kindOf x ≠ some .local →
    bindC kindOf (P.zip vs) m x = some v
  | [], _, _, _, _, h, _, _ => by simp at h
  | _ :: _, [], _, _, _, _, h, _ => by simp at h
  | p :: P, w :: vs, 0, m, nd, h1, h2, hk => by
    simp at h1 h2; subst h1; subst h2
    show bindC kindOf ((p, w) :: P.zip vs) m p = _
    unfold bindC
    rw [bindC_out fun v hv => (List.nodup_cons.mp nd).1 (List.of_mem_zip hv).1, if_neg hk]
    simp
  | p :: P, w :: vs, i + 1, m, nd, h1, h2, hk => by
    show bindC kindOf ((p, w) :: P.zip vs) m x = _
    unfold bindC
    exact bindC_get (i := i) (List.nodup_cons.mp nd).2 (by simpa using h1) (by simpa using h2) hk
def start (N : List Str) (vs : List V) : St := vs.map some ++ List.replicate (N.length - vs.length) none
def cxOf (CX : CXT) (P : Program) (w : World) (K : PySem.W.Frag) (mg : Str → Option Value) (base : Heap) (N : List Str) (qual : Str) (scope : Scope) (f : Addr) (cd : Value) (A : Around) (outer : List Env) (s : Shared) (H : Hp) (E : XK) : Cx where
  prog := P
  w := w
  K := K
  mg := mg
  base := base
  A := A.deeper (envOfC qual scope s.heap.objs.size f cd)
  N := N
  s₀ := s
  H₀ := H
  env := envOfC qual scope s.heap.objs.size f cd
  outer := outer
  stack := envOfC qual scope s.heap.objs.size f cd :: outer
  ex := []
  calm := true
  fn := fun _ => true
  pn := []
  xe := fun e s' => wpAny (model P w) (A.deeper (envOfC qual scope s.heap.objs.size f cd)) (leaving (envOfC qual scope s.heap.objs.size f cd) e) (fun _ s'' => CX outer H s E e s'') (fun e' s'' => CX outer H s E e' s'') s'
theorem cell_has {sc : Scope} {n : Nat} {x : Str} (h : sc.names.lookup x = some .cell) : ∃ c, (cellsFrom n sc.names []).lookup x = some c := by
  have q := PySem.W.cellsFrom_some sc.names n [] (.inl h)
  exact Option.isSome_iff_exists.mp q
theorem inv_start {CX : CXT} {P : Program} {w : World} {K : PySem.W.Frag} {mg : Str → Option Value} {base : Heap} {N ps : List Str} {qual : Str} {scope : Scope} {f : Addr} {cd : Value} {A : Around} {outer : List Env} {s s1 : Shared} {H : Hp} {E : XK} {us : List Value} {vs : List V}
    (S : FnScope N ps scope) (hd : A.handled = none) (e0 : Env0 P w K mg base A outer s H) (hl : vs.length = ps.length) (r : Vals vs us)
    (x : InCallC s s.heap.objs.size (bindL (envOfC qual scope s.heap.objs.size f cd).kindOf (ps.zip us) fun _ => none) (cellsFrom (s.heap.objs.size + 1) scope.names []) (bindC (envOfC qual scope s.heap.objs.size f cd).kindOf (ps.zip us) fun _ => none) s1) :
    Inv (cxOf CX P w K mg base N qual scope f cd A outer s H E) [] (start N vs) H s1 := by
  have hpl : ps.length ≤ N.length := by have := congrArg List.length S.pre; rw [List.length_take] at this; omega
  obtain ⟨h1, tk, rfl, hk⟩ := x.done
  have noA : ∀ b : Addr, b ∉ (cxOf CX P w K mg base N qual scope f cd A outer s H E).ex := fun b z => absurd (show b ∈ ([] : List Addr) from z) (by simp)
  refine ⟨⟨e0.mod, S.kind, rfl, rfl, Nat.le_refl _, fun y z c h1 h2 => ?_, fun y hy => ?_, fun y c _ h => ?_, fun _ => hd, Around.frames_deeper e0.frames, .inr ⟨rfl, rfl⟩, fun b z => absurd z (noA b), e0.bs, e0.bsz, fun b _ _ => noA b, fun b z => absurd z (noA b), e0.funs, e0.frf⟩,
    rfl, e0.bare, Un.kept hk, ⟨_, x.toInCall.ns, fun i y v h1 h2 h3 => ?_⟩, fun y c h => ⟨_, x.cell y c h⟩, e0.hok.fresh (Nat.le_refl _), fun y c h => ?_, fun p hp => absurd (show p ∈ ([] : List (Addr × Obj)) from hp) (by simp), e0.hok.kept hk, ?_⟩
  · exact name_of_addr x.apart (PySem.mem_of_lookup h1) (PySem.mem_of_lookup h2)
  · have hy : scope.names.lookup y = some .cell ∨ scope.names.lookup y = some .free := hy
    rcases hy with hy | hy
    · exact cell_has hy
    · exact absurd rfl (S.nofree _ (PySem.mem_of_lookup hy))
  · exact Nat.le_of_lt (x.above y c (PySem.mem_of_lookup h))
  · have hi : i < vs.length := by
      unfold start at h2
      by_cases hi : i < vs.length
      · exact hi
      · rw [List.getElem?_append_right (by simpa using hi)] at h2
        rw [List.getElem?_replicate] at h2
        split at h2 <;> cases h2
    have ha : vs[i]? = some v := by
      unfold start at h2
      rw [List.getElem?_append_left (by simpa using hi), List.getElem?_map] at h2
      cases e : vs[i]? with
      | none => rw [e] at h2; cases h2
      | some a => rw [e] at h2; cases h2; rfl
    obtain ⟨u, hu, rv⟩ := r.get ha
    have hp : ps[i]? = some y := by
      rw [← S.pre, List.getElem?_take_of_lt (by omega)]; exact h1
    have ndP : ps.Nodup := by rw [← S.pre]; exact S.nd.sublist (List.take_sublist _ _)
    refine ⟨u, rv, ?_⟩
    rcases S.par y (List.mem_of_getElem? hp) with k | k
    · exact .inl ⟨k, bindL_get ndP hp hu k⟩
    · obtain ⟨c, e⟩ := cell_has (n := s.heap.objs.size + 1) k
      refine .inr ⟨.inl k, c, e, ?_⟩
      have q := x.cell y c e
      rw [bindC_get ndP hp hu (by show scope.names.lookup y ≠ _; rw [k]; decide)] at q
      exact q
  · exact e0.hok.fresh (Nat.le_of_lt (x.above y c (PySem.mem_of_lookup h)))
  · unfold start
    show _ = N.length
    rw [List.length_append, List.length_map, List.length_replicate]
    omega
theorem fn_of {CX : CXT} {P : Program} {w : World} {K : PySem.W.Frag} {mg : Str → Option Value} {base : Heap} {k : Nat} {f : Addr} {name qual : Str} {params : Arguments} {body : List Stmt} {scope : Scope} {dV kV doc pm cdv ct oc : Value} {an od : Option Addr}
    {osl : Array (Option Value)} {N ps : List Str} {sp : Sp} (lk : K.lookup f = some ⟨oc, od, .func (PySem.W.fnOf name qual params body scope dV kV doc pm an cdv ct), osl⟩) (hcd : PySem.W.codeIn K cdv qual = true) (S : FnScope N ps scope)
    (len : ∀ vs H Q E, sp vs H Q E → vs.length = ps.length)
    (hbody : ∀ (A : Around) (outer : List Env) (s : Shared) (H : Hp) (vs : List V) (Q : VK) (E : XK), Room k (A.deeper (envOfC qual scope s.heap.objs.size f cdv)) → sp vs H Q E →
      ∃ t, PSs (cxOf CX P w K mg base N qual scope f cdv A outer s H E) body t ∧ t { nx := fun _ H' => Q .non H', rt := Q } (start N vs) H) :
    FnOk P w K mg base CX (k + 1) f (PySem.W.fnOf name qual params body scope dV kV doc pm an cdv ct) ps sp := by
  refine ⟨len, fun A outer s H args us vs Q E hr e0 hb r hsp => ?_⟩
  have hl := len _ _ _ _ hsp
  have KX : K.In s.heap := e0.mod.kin.keeps fun b o e => (e0.bs b o e).1
  have lim : s.heap.NoLimit := e0.mod.nolimit.keeps fun b o e => (e0.bs b o e).1
  have hkind : ∀ y ∈ ps.zip us, scope.names.lookup y.1 = some .local ∨ (scope.names.lookup y.1 = some .cell ∧ ((cellsFrom (s.heap.objs.size + 1) scope.names []).lookup y.1).isSome = true) := fun ⟨n, v⟩ hy => by
    rcases S.par n (List.of_mem_zip hy).1 with q | q
    · exact .inl q
    · exact .inr ⟨q, PySem.W.cellsFrom_some _ _ _ (.inl q)⟩
  refine codeAny_call_function hr.depth (KX _ _ lk) rfl S.co S.gen rfl (PySem.W.codeRec_of KX hcd) (hb _ _ _ _ ?_)
  refine wpAny_newFunctionEnv_cells S.kind hkind fun env he s1 x => ?_
  subst he
  refine ⟨lim.keeps x.toInCall.keep, codeAny_func ?_⟩
  obtain ⟨t, ht, hq⟩ := hbody A outer s H vs Q E (hr.deeper _) hsp
  have I : Inv (cxOf CX P w K mg base N qual scope f cdv A outer s H E) [] (start N vs) H s1 := inv_start S hr.hd e0 hl r x
  refine wpAny_mono (ht [] s1 (start N vs) H _ I hq) (fun fl s' hs => ?_) fun e s' hs => hs
  have fin : ∀ {σ' : St} {H' : Hp} {v : V} {u : Value}, Inv (cxOf CX P w K mg base N qual scope f cdv A outer s H E) [] σ' H' s' → RelV v u → Q v H' → CE outer P w H s Q u s' :=
    fun {σ' H' v u} J rv q => ⟨v, H', J.os, J.bare, J.base, J.hok, rv, q⟩
  cases fl with
  | ret u =>
    obtain ⟨v, σ', H', J, rv, q⟩ := hs
    exact fin J rv q
  | next =>
    obtain ⟨σ', H', J, q⟩ := hs
    exact fin (v := V.non) (u := Value.none) J rfl q
  | brk =>
    obtain ⟨_, _, _, q⟩ := hs
    exact False.elim q
  | cont =>
    obtain ⟨_, _, _, q⟩ := hs
    exact False.elim q
end L2
namespace L2
open PySem PySem.Spec PyProof.Rows
section
variable {X : Cx} {x : Str} {p pos : Pos} {e : Expr} {es : List Expr} {t : TA} {id T : String} {r : List V → Hp → VK → Prop}
def tCB (r : List V → Hp → VK → Prop) (t : TA) : TE := fun σ H Q => t σ H fun vs H1 => r vs H1 Q
theorem pe_callB (hc : CallR X (.builtin id) r) (hg : Gl X x) (hm : X.mg x = none) (hv : bootBuiltins x = some (.builtin id)) (ha : PA X (e :: es) t) (hn : x ≠ "__name__" := by decide) (hdb : (x == ("__debug__" : Str)) = false := by decide)
    (he : starEach (e :: es) X.env = (false, eval e X.env) :: starEach es X.env := by rfl) (hpl : (backTo pos (starEach es X.env)).any (·.1) = false := by rfl) : PE X (.Call (.Name x p) (e :: es) [] pos) (tCB r t) := by
  intro pins s σ H Q I h
  refine wpAny_Call_Name_kw (ld_blt I hg hm hv ?_ hn hdb)
  exact PyProof.Rows.callWith_builtin1 (thn (ha pos pins s σ H _ I h) fun us s1 ⟨vs, H1, I1, r1, q1⟩ => hc pins s1 σ H1 vs us Q I1 r1 q1) he hpl
theorem pe_callTy (hc : CallR X (.type T) r) (hg : Gl X x) (hm : X.mg x = none) (hv : bootBuiltins x = some (.type T)) (ha : PA X (e :: es) t) (hn : x ≠ "__name__" := by decide) (hdb : (x == ("__debug__" : Str)) = false := by decide)
    (he : starEach (e :: es) X.env = (false, eval e X.env) :: starEach es X.env := by rfl) (hpl : (backTo pos (starEach es X.env)).any (·.1) = false := by rfl) : PE X (.Call (.Name x p) (e :: es) [] pos) (tCB r t) := by
  intro pins s σ H Q I h
  refine wpAny_Call_Name_kw (ld_blt I hg hm hv ?_ hn hdb)
  exact PyProof.Rows.callWith_type1 (thn (ha pos pins s σ H _ I h) fun us s1 ⟨vs, H1, I1, r1, q1⟩ => hc pins s1 σ H1 vs us Q I1 r1 q1) he hpl
end
end L2
namespace HT
open PySem PyProof.Rows
def lexLt : List Int → List Int → Bool
  | [], [] => false
  | [], _ :: _ => true
  | _ :: _, [] => false
  | x :: xs, y :: ys => if x = y then lexLt xs ys else decide (x < y)
theorem lexLt_cons (x y : Int) (xs ys : List Int) : lexLt (x :: xs) (y :: ys) = if x = y then lexLt xs ys else decide (x < y) := rfl
theorem rcLt_int (A : Around) (s : Shared) (a : Int) (t : Tok) (c : Int) (u : Tok) (prog : Program) (w : World) (E : Value → Shared → Prop) (Q : Value → Shared → Prop) (h : Q (.bool (decide (a < c))) s) :
    wpAny (model prog w) A (richCompare .Lt (.int a t) (.int c u)) Q E s :=
  (PyProof.Rows.lt_int h : wpAny (model prog w) A (compareOp .Lt (.int a t) (.int c u)) Q E s)
section
open PySem.SeqAt
open PySem.AutoSeq1 (wpAny_loadPart')
open PySem.MeetsSeq PySem.MeetsSeq2 PySem.MeetsSeq3
end
section
variable {prog : Program} {w : World} {A : Around} {E : Value → Shared → Prop} {s : Shared}
def sIx (n d : Nat) : Option Int → Nat
  | none => d
  | some v => if v < 0 then (v + (n : Int)).toNat else min v.toNat n
end
end HT
namespace L2
open PySem PySem.Spec PyProof.Rows
abbrev TO := St → Hp → (Option Int → Hp → Prop) → Prop
def PO (X : Cx) (e : Option Expr) (t : TO) : Prop :=
  ∀ (pins : List (Addr × Obj)) (s : Shared) (σ : St) (H : Hp) (Q : Option Int → Hp → Prop), Inv X pins σ H s → t σ H Q →
    wpAny (model X.prog X.w) X.A (evalPart e X.env) (fun u s' => ∃ o H', Inv X pins σ H' s' ∧ IsPart u o ∧ Q o H') X.xe s
def tNoPart : TO := fun _ H Q => Q none H
def tPart (t : TE) : TO := fun σ H Q => t σ H fun x H1 => ∃ i, x = .int i ∧ Q (some i) H1
theorem intsAre_of {ns : List Int} : ∀ {us : List Value}, Vals (ns.map V.int) us → IntsAre us ns := by
  induction ns with
  | nil => intro us r; rw [List.map_nil] at r; cases r; exact .nil
  | cons n ns ih =>
    intro us r
    rw [List.map_cons] at r
    cases r with
    | cons r1 r2 =>
      obtain ⟨t, e⟩ := r1
      subst e
      exact .cons n t (ih r2)
section
variable {X : Cx} {e : Expr} {te : TE} {lo hi : Option Expr} {tl th : TO} {pos p2 : Pos}
theorem po_some (h : PE X e te) : PO X (some e) (tPart te) := by
  intro pins s σ H Q I hw
  rw [evalPart_some]
  refine thn (h pins s σ H _ I hw) fun u s1 ⟨x, H1, I1, r1, q1⟩ => ?_
  obtain ⟨i, rfl, q⟩ := q1
  obtain ⟨t, rfl⟩ := r1
  exact ⟨some i, H1, I1, .int i t, q⟩
def SlR (X : Cx) (r : V → Option Int → Option Int → Hp → VK → Prop) : Prop :=
  ∀ (pins : List (Addr × Obj)) (s : Shared) (σ : St) (H : Hp) (x : V) (v vl vu : Value) (lo hi : Option Int) (sl : Addr) (Q : VK), Inv X pins σ H s → RelV x v → s.heap.IsSliceOf sl vl vu .none → IsPart vl lo → IsPart vu hi → r x lo hi H Q →
    ∃ T id, typeLookup (.type T) "__getitem__" = pure (some (.builtin id)) ∧ s.TypeIs v T ∧ wpAny (model X.prog X.w) X.A (getItem v (.ref sl)) (EP X pins σ Q) X.xe s
def tSl (r : V → Option Int → Option Int → Hp → VK → Prop) (te : TE) (tl th : TO) : TE := fun σ H Q => te σ H fun x H1 => tl σ H1 fun l H2 => th σ H2 fun u H3 => r x l u H3 Q
theorem pe_slice {r : V → Option Int → Option Int → Hp → VK → Prop} (hr : SlR X r) (he : PE X e te) (hl : PO X lo tl) (hu : PO X hi th) : PE X (.Subscript e (.Slice lo hi none p2) pos) (tSl r te tl th) := by
  intro pins s σ H Q I h
  refine Subscript_ (thn (he pins s σ H _ I h) fun v s1 ⟨x, H1, I1, r1, q1⟩ => ?_)
  refine wpAny_Slice (thn (hl pins s1 σ H1 _ I1 q1) fun vl s2 ⟨l, H2, I2, pl, q2⟩ => thn (hu pins s2 σ H2 _ I2 q2) fun vu s3 ⟨u, H3, I3, pu, q3⟩ => ?_)
  rw [evalPart_none]
  refine wpAny_pure ?_
  have I4 : Inv X pins σ H3 { s3 with heap := s3.heap.push { cls := .type "slice", data := .fields #[vl, vu, .none] } } := I3.kept (t' := s3.toks) fun b ob q => Heap.get?_push_of_some _ q
  obtain ⟨T, id, hT, ht, hg⟩ := hr pins { s3 with heap := s3.heap.push { cls := .type "slice", data := .fields #[vl, vu, .none] } } σ H3 x v vl vu l u s3.heap.objs.size Q I4 r1 (Heap.IsSliceOf.new ..) pl pu q3
  show wpAny (model X.prog X.w) X.A (subscriptTail e (.Slice lo hi none p2) v (.ref s3.heap.objs.size)) (EP X pins σ Q) X.xe { s3 with heap := s3.heap.push { cls := .type "slice", data := .fields #[vl, vu, .none] } }
  exact tail_any (ops := [.ref s3.heap.objs.size, v]) ht hT hg (by with_unfolding_all rfl)
def cutV (xs : List V) (lo hi : Option Int) : List V := (xs.drop (HT.sIx xs.length 0 lo)).take (HT.sIx xs.length xs.length hi - HT.sIx xs.length 0 lo)
theorem cutV_length (xs : List V) (lo hi : Option Int) : (cutV xs lo hi).length ≤ xs.length := by
  unfold cutV
  rw [List.length_take, List.length_drop]
  omega
def rSlT (K : PySem.W.Frag) : V → Option Int → Option Int → Hp → VK → Prop := fun x lo hi H Q => ∃ a xs, x = .ref a ∧ SqT K H a xs ∧
  ¬ (HT.sIx xs.length 0 lo = 0 ∧ HT.sIx xs.length xs.length hi = xs.length) ∧ ∀ p, H p = none → Q (.ref p) (upd H p (.tup (cutV xs lo hi)))
def rLtT (K : PySem.W.Frag) : R2 := fun x y H Q => ∃ a b ns ms, x = .ref a ∧ y = .ref b ∧ SqT K H a (ns.map V.int) ∧ SqT K H b (ms.map V.int) ∧ Q (.bl (HT.lexLt ns ms)) H
def rCatT (K : PySem.W.Frag) : R2 := fun x y H Q => ∃ a b xs ys, x = .ref a ∧ y = .ref b ∧ SqT K H a xs ∧ SqT K H b ys ∧ xs ≠ [] ∧ xs.length + ys.length ≤ sizeLine ∧
  (ys = [] → Q (.ref a) H) ∧ (ys ≠ [] → ∀ p, H p = none → Q (.ref p) (upd H p (.tup (xs ++ ys))))
end
end L2
namespace L2
open PySem PySem.Spec PyProof.Rows
def ixN (n : Nat) (i : Int) : Option Nat := if 0 ≤ i then (if i < n then some i.toNat else none) else if -(n : Int) ≤ i then some (i + n).toNat else none
def atI {α : Type} (xs : List α) (i : Int) : Option α := (ixN xs.length i).bind fun j => xs[j]?
theorem ixN_seq {n : Nat} {i : Int} {j : Nat} (h : ixN n i = some j) : seqIndex? i n = some j ∧ j < n ∧ -(n : Int) ≤ i ∧ i < n := by
  unfold ixN at h
  by_cases h0 : 0 ≤ i
  · rw [if_pos h0] at h
    by_cases h1 : i < n
    · rw [if_pos h1] at h
      have e : i.toNat = j := Option.some.inj h
      exact ⟨by rw [seqIndex_of h0 h1, e], by omega, by omega, h1⟩
    · rw [if_neg h1] at h; cases h
  · rw [if_neg h0] at h
    by_cases h1 : -(n : Int) ≤ i
    · rw [if_pos h1] at h
      have e : (i + n).toNat = j := Option.some.inj h
      exact ⟨by rw [seqIndex_neg (by omega) h1, e], by omega, h1, by omega⟩
    · rw [if_neg h1] at h; cases h
theorem atI_get {α : Type} {xs : List α} {i : Int} {v : α} (h : atI xs i = some v) : ∃ j, seqIndex? i xs.length = some j ∧ xs[j]? = some v ∧ j < xs.length ∧ -(xs.length : Int) ≤ i ∧ i < xs.length := by
  unfold atI at h
  cases e : ixN xs.length i with
  | none => rw [e] at h; cases h
  | some j =>
    rw [e] at h
    obtain ⟨h1, h2, h3, h4⟩ := ixN_seq e
    exact ⟨j, h1, h, h2, h3, h4⟩
theorem atI_nat {α : Type} {xs : List α} {j : Nat} {v : α} (h : xs[j]? = some v) : atI xs (j : Int) = some v := by
  have hj : j < xs.length := (List.getElem?_eq_some_iff.mp h).1
  have e : ixN xs.length (j : Int) = some j := by
    unfold ixN
    rw [if_pos (by omega), if_pos (by omega)]; simp
  unfold atI; rw [e]; exact h
def PlainIx (b : Expr) : Prop := ∀ o i, subscripted b false o i = operate [o, i] (getItem o i)
def IxR (X : Cx) (r : R2) : Prop :=
  ∀ (value slice : Expr) (pins : List (Addr × Obj)) (s : Shared) (σ : St) (H : Hp) (x y : V) (v u : Value) (Q : VK), Inv X pins σ H s → RelV x v → RelV y u → r x y H Q →
    subscripted slice false v u = operate [v, u] (getItem v u) → wpAny (model X.prog X.w) X.A (subscriptTail value slice v u) (EP X pins σ Q) X.xe s
def MtR (X : Cx) (id : String) (r : V → List V → Hp → VK → Prop) : Prop :=
  ∀ (pins : List (Addr × Obj)) (s : Shared) (σ : St) (H : Hp) (x : V) (xs : List V) (v : Value) (us : List Value) (Q : VK), Inv X pins σ H s → RelV x v → Vals xs us → r x xs H Q →
    wpAny (model X.prog X.w) X.A (call (.builtin id) (v :: us)) (EP X pins σ Q) X.xe s
section
variable {X : Cx} {a b : Expr} {ta tb : TE} {pos : Pos}
theorem pe_ix {r : R2} (hr : IxR X r) (ha : PE X a ta) (hb : PE X b tb) (hs : PlainIx b) : PE X (.Subscript a b pos) (tOp r ta tb) := by
  intro pins s σ H Q I h
  exact Subscript_ (binT ha hb I h fun v u s2 x y H2 I2 rx ry q => hr a b pins s2 σ H2 x y v u Q I2 rx ry q (hs _ _))
def rIxL (K : PySem.W.Frag) : R2 := fun x y H Q => ∃ p xs i v, x = .ref p ∧ y = .int i ∧ SqL K H p xs ∧ atI xs i = some v ∧ Q v H
def rIxT (K : PySem.W.Frag) : R2 := fun x y H Q => ∃ p xs i v, x = .ref p ∧ y = .int i ∧ SqT K H p xs ∧ atI xs i = some v ∧ Q v H
def rIxS : R2 := fun x y H Q => ∃ z i c, x = .str z ∧ y = .int i ∧ z.length ≤ sizeLine ∧ atI z.cps.toList i = some c ∧ Q (.str ⟨#[c]⟩) H
theorem ix_list : IxR X (rIxL X.K) := by
  intro value slice pins s σ H x y v u Q I rx ry h hs
  obtain ⟨p, xs, i, z, rfl, rfl, hq, he, q⟩ := h
  cases rx
  obtain ⟨t, rfl⟩ := ry
  obtain ⟨its, r, pl, hz⟩ := I.list hq
  obtain ⟨j, h1, h2, h3, h4, h5⟩ := atI_get he
  obtain ⟨w, ew, rw'⟩ := r.get h2
  have hl := r.length
  have hn := line63
  have fin : EP X pins σ Q w s := ⟨z, H, I, rw', q⟩
  by_cases h0 : 0 ≤ i
  · have hj : i.toNat = j := by
      rw [seqIndex_of h0 h5] at h1
      exact Option.some.inj h1
    exact item_listR pl.isList h0 (by omega) (by rw [hj]; simpa using ew) fin hs
  · have hj : (i + (its.toArray.size : Int)).toNat = j := by
      rw [seqIndex_neg (by omega) h4] at h1
      rw [List.size_toArray, ← hl]
      exact Option.some.inj h1
    exact subscriptTail_builtinR (x := w) pl.isList.typeIs slot_list_getitem.lookup
      (wpAny_getItem_list_neg (Q := fun r s' => r = w ∧ EP X pins σ Q r s') pl.isList (by omega) (by rw [List.size_toArray] <;> omega) (by omega) (by rw [hj]; simpa using ew) ⟨rfl, fin⟩) hs
theorem ix_tup : IxR X (rIxT X.K) := by
  intro value slice pins s σ H x y v u Q I rx ry h hs
  obtain ⟨p, xs, i, z, rfl, rfl, hq, he, q⟩ := h
  cases rx
  obtain ⟨t, rfl⟩ := ry
  obtain ⟨its, r, pl, hz⟩ := I.tuple hq
  obtain ⟨j, h1, h2, h3, h4, h5⟩ := atI_get he
  obtain ⟨w, ew, rw'⟩ := r.get h2
  have hl := r.length
  have hn := line63
  have fin : EP X pins σ Q w s := ⟨z, H, I, rw', q⟩
  exact subscriptTail_builtinR (x := w) pl.typeIs slot_tuple_getitem.lookup
    (getItem_tuple (j := j) (Q := fun r s' => r = w ∧ EP X pins σ Q r s') pl (by omega) (by omega) (by rw [List.size_toArray, ← hl]; exact h1) (by simpa using ew) ⟨rfl, fin⟩) hs
theorem ix_str : IxR X rIxS := by
  intro value slice pins s σ H x y v u Q I rx ry h hs
  obtain ⟨z, i, c, rfl, rfl, hz, he, q⟩ := h
  obtain ⟨t, rfl⟩ := rx
  obtain ⟨t', rfl⟩ := ry
  obtain ⟨j, h1, h2, h3, h4, h5⟩ := atI_get he
  have hl : z.cps.toList.length = z.length := by simp [Str.length]
  rw [hl] at h1 h4 h5
  have hn := line63
  exact tail_any (typeIs_str s z t) slot_str_getitem.lookup (getItem_str (c := c) (by
    have e1 : decide (i < -(2 ^ 63 : Int)) = false := decide_eq_false (by omega)
    have e2 : decide (i ≥ 2 ^ 63) = false := decide_eq_false (by omega)
    rw [e1, e2, Bool.or_false]) (by rw [h1]; simpa using h2) ⟨.str ⟨#[c]⟩, H, I.tok _, ⟨_, rfl⟩, q⟩) hs
def rIx (K : PySem.W.Frag) : R2 := fun x y H Q => rIxL K x y H Q ∨ rIxT K x y H Q ∨ rIxS x y H Q
theorem mapSeq_set (its : List Value) (n j : Nat) (u : Value) : Obj.mapSeq (·.setIfInBounds j u) { cls := .type "list", data := .seq its.toArray n } = { cls := .type "list", data := .seq (its.set j u).toArray n } := by
  simp [Obj.mapSeq]
theorem Inv.lst {pins : List (Addr × Obj)} {σ : St} {H : Hp} {s : Shared} {p : Addr} {xs : List V} (I : Inv X pins σ H s) (h : H p = some (.lst xs)) :
    ∃ (its : List Value) (n : Nat), Vals xs its ∧ s.heap.get? p = some { cls := .type "list", data := .seq its.toArray n } ∧ xs.length ≤ sizeLine := by
  obtain ⟨z, its, n, r, e⟩ := I.hok p _ h
  exact ⟨its, n, r, e, z⟩
theorem Inv.lstUpd {pins : List (Addr × Obj)} {σ : St} {H : Hp} {s : Shared} {p : Addr} {xs ys : List V} {its its' : List Value} {n n' : Nat} {f : Obj → Obj} (I : Inv X pins σ H s) (h : H p = some (.lst xs))
    (ho : s.heap.get? p = some { cls := .type "list", data := .seq its.toArray n }) (hf : f { cls := .type "list", data := .seq its.toArray n } = { cls := .type "list", data := .seq its'.toArray n' }) (r : Vals ys its') (hz : ys.length ≤ sizeLine) (t : Nat) :
    Inv X pins σ (upd H p (.lst ys)) { s with heap := s.heap.update p f, toks := t } := by
  have e : (s.heap.update p f).get? p = some { cls := .type "list", data := .seq its'.toArray n' } := by
    rw [Heap.get?_update_self f ho (by rw [hf] <;> rfl), hf]
  refine I.write (x := p) (e := p) (by rw [h]; trivial) (.inl rfl) (fun b u hb q => (Heap.get?_update_other _ _ (Ne.symm hb)).trans q) ⟨_, e⟩ ?_
  exact ⟨hz, its', n', r, e⟩
def rSetL : V → V → V → Hp → (Hp → Prop) → Prop := fun o i v H Q => ∃ p xs k j, o = .ref p ∧ i = .int k ∧ H p = some (.lst xs) ∧ ixN xs.length k = some j ∧ Q (upd H p (.lst (xs.set j v)))
theorem set_list : PSet X rSetL := by
  intro pins s σ H o i v ov iv u Q I ro ri rv h
  obtain ⟨p, xs, k, j, rfl, rfl, hp, hj, q⟩ := h
  cases ro
  obtain ⟨t, rfl⟩ := ri
  obtain ⟨its, n, r, ho, hz⟩ := I.lst hp
  obtain ⟨h1, h2, h3, h4⟩ := ixN_seq hj
  have hl := r.length
  have hn := line63
  have I' : Inv X pins σ (upd H p (.lst (xs.set j v))) { s with heap := s.heap.update p (Obj.mapSeq (·.setIfInBounds j u)) } :=
    I.lstUpd hp ho (mapSeq_set its n j u) (r.set rv j) (by rw [List.length_set]; exact hz) s.toks
  by_cases h0 : 0 ≤ k
  · have hk : k.toNat = j := by
      rw [seqIndex_of h0 h4] at h1
      exact Option.some.inj h1
    exact PySem.W.ki_setAt ho h0 (by omega) (by rw [List.size_toArray, ← hl]; exact h4) (by rw [hk]; exact ⟨_, I', q⟩)
  · have hk : (k + (its.toArray.size : Int)).toNat = j := by
      rw [seqIndex_neg (by omega) h3] at h1
      rw [List.size_toArray, ← hl]
      exact Option.some.inj h1
    exact PySem.W.ki_setBack ho (by omega) (by rw [List.size_toArray, ← hl]; exact h3) (by omega) (by rw [hk]; exact ⟨_, I', q⟩)
theorem slice_bounds (lo hi : Option Int) (n : Nat) : (sliceBounds lo hi none n).1 = ((HT.sIx n 0 lo : Nat) : Int) ∧ (sliceBounds lo hi none n).2.1 = ((HT.sIx n n hi : Nat) : Int) ∧ (sliceBounds lo hi none n).2.2 = 1 := by
  refine ⟨?_, ?_, rfl⟩
  · cases lo with
    | none => simp [sliceBounds, HT.sIx]
    | some i =>
      simp only [sliceBounds, HT.sIx, Option.getD_none, show (1 : Int) > 0 by decide, if_true]
      by_cases h : i < 0
      · simp only [h, if_true] <;> omega
      · simp only [h, if_false] <;> omega
  · cases hi with
    | none => simp [sliceBounds, HT.sIx]
    | some i =>
      simp only [sliceBounds, HT.sIx, Option.getD_none, show (1 : Int) > 0 by decide, if_true]
      by_cases h : i < 0
      · simp only [h, if_true] <;> omega
      · simp only [h, if_false] <;> omega
theorem slicePick_cut (its : List Value) (lo hi : Option Int) : slicePick its.toArray lo hi none = ((its.drop (HT.sIx its.length 0 lo)).take (HT.sIx its.length its.length hi - HT.sIx its.length 0 lo)).toArray := by
  obtain ⟨h1, h2, h3⟩ := slice_bounds lo hi its.toArray.size
  unfold slicePick
  rw [h1, h2, h3]
  simp only [sliceRange_one, pick_run, List.size_toArray] <;> rfl
def rSlL (K : PySem.W.Frag) : V → Option Int → Option Int → Hp → VK → Prop := fun x lo hi H Q => ∃ a xs, x = .ref a ∧ SqL K H a xs ∧ ∀ p, H p = none → Q (.ref p) (upd H p (.lst (cutV xs lo hi)))
theorem sl_list : SlR X (rSlL X.K) := by
  intro pins s σ H x v vl vu lo hi sl Q I rx hs pl pu h
  obtain ⟨a, xs, rfl, hx, q⟩ := h
  cases rx
  obtain ⟨its, r, ht, hz⟩ := I.list hx
  have hlen := r.length
  refine ⟨"list", _, slot_list_getitem.lookup, ht.isList.typeIs, ?_⟩
  refine wpAny_getItem_list_slice ht.isList hs pl pu .none (by simp) ?_ (by rw [List.size_toArray] <;> omega)
  rw [slicePick_cut, ← hlen]
  refine ⟨.ref s.heap.objs.size, _, I.laid (t' := s.toks) (o := .lst (cutV xs lo hi)) (fun b ob q => Heap.get?_push_of_some _ q) (Nat.le_refl _) ?_, rfl, q _ (I.hok.fresh (Nat.le_refl _))⟩
  exact ⟨Nat.le_trans (cutV_length xs lo hi) hz, _, 0, (r.drop (HT.sIx xs.length 0 lo)).take (HT.sIx xs.length xs.length hi - HT.sIx xs.length 0 lo), Heap.get?_push_size _ rfl⟩
def flatV : V → Bool
  | .non => true
  | .bl _ => true
  | .int _ => true
  | .str _ => true
  | _ => false
def eqV : V → V → Bool
  | .non, .non => true
  | .bl a, .bl b => a == b
  | .bl a, .int b => (if a then 1 else 0) == b
  | .int a, .bl b => a == (if b then 1 else 0)
  | .int a, .int b => a == b
  | .str a, .str b => a == b
  | _, _ => false
theorem eqAt_V {A : Around} {s : Shared} {y x : V} {u v : Value} (ry : RelV y u) (rx : RelV x v) (fy : flatV y = true) (fx : flatV x = true) : SeqAt.EqAt A s u v (eqV y x) := by
  cases y with
  | non =>
    cases ry
    cases x with
    | non => cases rx; exact SeqAt.EqAt.same _
    | bl b => cases rx; exact SeqAt.EqAt.none_bool b
    | int b => obtain ⟨t, rfl⟩ := rx; exact SeqAt.EqAt.none_int b t
    | str b => obtain ⟨t, rfl⟩ := rx; exact SeqAt.EqAt.none_str b t
    | _ => exact absurd (show false = true from fx) Bool.false_ne_true
  | bl a =>
    cases ry
    cases x with
    | non => cases rx; exact SeqAt.EqAt.bool_none a
    | bl b => cases rx; exact SeqAt.EqAt.bool_bool a b
    | int b => obtain ⟨t, rfl⟩ := rx; exact SeqAt.EqAt.bool_int a b t
    | str b => obtain ⟨t, rfl⟩ := rx; exact SeqAt.EqAt.bool_str a b t
    | _ => exact absurd (show false = true from fx) Bool.false_ne_true
  | int a =>
    obtain ⟨t', rfl⟩ := ry
    cases x with
    | non => cases rx; exact SeqAt.EqAt.int_none a t'
    | bl b => cases rx; exact SeqAt.EqAt.int_bool a t' b
    | int b => obtain ⟨t, rfl⟩ := rx; exact SeqAt.EqAt.int_int a t' b t
    | str b => obtain ⟨t, rfl⟩ := rx; exact SeqAt.EqAt.int_str a t' b t
    | _ => exact absurd (show false = true from fx) Bool.false_ne_true
  | str a =>
    obtain ⟨t', rfl⟩ := ry
    cases x with
    | non => cases rx; exact SeqAt.EqAt.str_none a t'
    | bl b => cases rx; exact SeqAt.EqAt.str_bool a t' b
    | int b => obtain ⟨t, rfl⟩ := rx; exact SeqAt.EqAt.str_int a t' b t
    | str b => obtain ⟨t, rfl⟩ := rx; exact SeqAt.EqAt.str_str a t' b t
    | _ => exact absurd (show false = true from fx) Bool.false_ne_true
  | _ => exact absurd (show false = true from fy) Bool.false_ne_true
def eqU (x : V) (u : Value) : Bool := match u with
  | .none => eqV .non x
  | .bool b => eqV (.bl b) x
  | .int i _ => eqV (.int i) x
  | .str z _ => eqV (.str z) x
  | _ => false
theorem eqU_of {x y : V} {u : Value} (r : RelV y u) (f : flatV y = true) : eqU x u = eqV y x := by
  cases y with
  | non => cases r; rfl
  | bl b => cases r; rfl
  | int i => obtain ⟨t, rfl⟩ := r; rfl
  | str z => obtain ⟨t, rfl⟩ := r; rfl
  | _ => exact absurd (show false = true from f) Bool.false_ne_true
theorem any_eqU {x : V} : ∀ {xs : List V} {us : List Value}, Vals xs us → xs.all flatV = true → us.any (eqU x) = xs.any fun y => eqV y x
  | _, _, .nil, _ => rfl
  | y :: xs, u :: us, .cons r t, f => by
    rw [List.all_cons, Bool.and_eq_true] at f
    rw [List.any_cons, List.any_cons, eqU_of r f.1, any_eqU t f.2]
theorem mem_eqAt {A : Around} {s : Shared} {x : V} {v : Value} (rx : RelV x v) (fx : flatV x = true) : ∀ {xs : List V} {us : List Value}, Vals xs us → xs.all flatV = true → ∀ u ∈ us, SeqAt.EqAt A s u v (eqU x u)
  | _, _, .nil, _ => fun u hu => by cases hu
  | y :: xs, u :: us, .cons r t, f => fun u' hu => by
    rw [List.all_cons, Bool.and_eq_true] at f
    rcases List.mem_cons.mp hu with rfl | hu
    · rw [eqU_of r f.1]; exact eqAt_V r rx f.1 fx
    · exact mem_eqAt rx fx t f.2 u' hu
def inV (x : V) (xs : List V) : Bool := xs.any fun y => eqV y x
def rIn (K : PySem.W.Frag) (neg : Bool) : R2 := fun x y H Q => ∃ p xs, y = .ref p ∧ (SqL K H p xs ∨ SqT K H p xs) ∧ flatV x = true ∧ xs.all flatV = true ∧ Q (.bl (if neg then !inV x xs else inV x xs)) H
theorem op_in_seq : OpR X (compareOp .In) (rIn X.K false) := by
  intro pins s σ H x y v u Q I rx ry h
  obtain ⟨p, xs, rfl, hq, fx, fs, q⟩ := h
  cases ry
  rcases hq with hq | hq
  · obtain ⟨its, r, pl, hz⟩ := I.list hq
    refine SeqAt.in_listAt (eqU x) pl.isList (fun w hw => mem_eqAt rx fx r fs w (by simpa using hw)) ⟨.bl _, H, I, rfl, ?_⟩
    rw [show its.toArray.any (eqU x) = its.any (eqU x) by simp, any_eqU r fs]
    exact q
  · obtain ⟨its, r, pl, hz⟩ := I.tuple hq
    refine SeqAt.in_tupleAt (eqU x) pl (fun w hw => mem_eqAt rx fx r fs w (by simpa using hw)) ⟨.bl _, H, I, rfl, ?_⟩
    rw [show its.toArray.any (eqU x) = its.any (eqU x) by simp, any_eqU r fs]
    exact q
theorem call_len_seq : CallR X (.builtin "len") (fun xs H Q => ∃ p ys, xs = [.ref p] ∧ (SqL X.K H p ys ∨ SqT X.K H p ys) ∧ Q (.int ys.length) H) := by
  intro pins s σ H xs us Q I r h
  obtain ⟨p, ys, rfl, hq, q⟩ := h
  obtain ⟨u, rfl, rx⟩ := vals1 r
  cases rx
  have hn := line63
  rcases hq with hq | hq
  · obtain ⟨its, r', pl, hz⟩ := I.list hq
    have hlen := r'.length
    exact Calls.call_len_list pl.isList (by simp only [List.size_toArray] <;> omega) ⟨.int ys.length, H, I.tok _, ⟨s.toks + 1, by rw [List.size_toArray, hlen]⟩, q⟩
  · obtain ⟨its, r', pl, hz⟩ := I.tuple hq
    have hlen := r'.length
    exact len_tuple pl (by simp only [List.size_toArray] <;> omega) ⟨.int ys.length, H, I.tok _, ⟨s.toks + 1, by rw [List.size_toArray, hlen]⟩, q⟩
theorem call_list_of : CallR X (.type "list") (fun xs H Q => ∃ p ys, xs = [.ref p] ∧ (SqL X.K H p ys ∨ SqT X.K H p ys) ∧ ∀ l, H l = none → Q (.ref l) (upd H l (.lst ys))) := by
  intro pins s σ H xs us Q I r h
  obtain ⟨p, ys, rfl, hq, q⟩ := h
  obtain ⟨u, rfl, rx⟩ := vals1 r
  cases rx
  have fin : ∀ (its : List Value), Vals ys its → ys.length ≤ sizeLine → ∀ (h' : Heap) (c' : Nat), (∀ b o', s.heap.get? b = some o' → h'.get? b = some o') →
      h'.get? s.heap.objs.size = some { cls := .type "list", dict := none, data := .seq its.toArray c', slots := #[] } → EP X pins σ Q (.ref s.heap.objs.size) { s with heap := h' } := fun its r' hz h' c' kp e =>
    ⟨.ref s.heap.objs.size, _, I.laid (t' := s.toks) kp (Nat.le_refl _) (show ObjOk X.prog X.w _ h' _ (.lst ys) from ⟨hz, its, c', r', e⟩), rfl, q _ (I.hok.fresh (Nat.le_refl _))⟩
  rcases hq with hq | hq
  · obtain ⟨its, r', pl, hz⟩ := I.list hq
    have hlen := r'.length
    obtain ⟨o, ho, hc, n, hd⟩ := pl.isList
    exact call_list_seq p (.inl rfl) ho hc hd (fun h' c' kp e => fin its r' hz h' c' kp e) (by simp only [List.size_toArray] <;> omega)
  · obtain ⟨its, r', pl, hz⟩ := I.tuple hq
    have hlen := r'.length
    obtain ⟨o, ho, hc, n, hd⟩ := pl
    exact call_list_seq p (.inr rfl) ho hc hd (fun h' c' kp e => fin its r' hz h' c' kp e) (by simp only [List.size_toArray] <;> omega)
def tyV (K : PySem.W.Frag) (T : String) (x : V) (H : Hp) : Prop := match x with
  | .str _ => T = "str"
  | .int _ => T = "int"
  | .ref p => (T = "list" ∧ ∃ xs, SqL K H p xs) ∨ (T = "tuple" ∧ ∃ o, K.lookup p = some o ∧ o.cls = .type "tuple" ∧ o.dict = none) ∨
      (T = "dict" ∧ ((∃ kvs, H p = some (.dK kvs)) ∨ ∃ kvs, H p = some (.dT kvs))) ∨ (T = "set" ∧ ∃ S n, H p = some (.set S n))
  | _ => False
theorem tyV_is {pins : List (Addr × Obj)} {σ : St} {H : Hp} {s : Shared} {T : String} {x : V} {v : Value} (I : Inv X pins σ H s) (r : RelV x v) (ty : tyV X.K T x H) :
    s.TypeIs v T ∧ ∀ a, v = .ref a → ∃ ob, s.heap.get? a = some ob ∧ ob.dict = none := by
  cases x with
  | str z =>
    obtain ⟨t, rfl⟩ := r
    cases (show T = "str" from ty)
    exact ⟨typeIs_str s z t, fun _ e => nomatch e⟩
  | int i =>
    obtain ⟨t, rfl⟩ := r
    cases (show T = "int" from ty)
    exact ⟨typeIs_int s i t, fun _ e => nomatch e⟩
  | ref p =>
    cases r
    rcases ty with ⟨rfl, xs, hq⟩ | ⟨rfl, o, hk, hc, hd⟩ | ⟨rfl, hk⟩ | ⟨rfl, S, n, hk⟩
    · obtain ⟨its, _, pl, _⟩ := I.list hq
      refine ⟨pl.isList.typeIs, fun a e => ?_⟩
      cases e
      obtain ⟨o, n, e, c, hd, _⟩ := pl
      exact ⟨o, e, hd⟩
    · refine ⟨⟨o, I.kIn p o hk, hc⟩, fun a e => ?_⟩
      cases e
      exact ⟨o, I.kIn _ o hk, hd⟩
    · have z : ∃ o, s.heap.get? p = some o ∧ o.ExactDict := by
        rcases hk with ⟨kvs, hk⟩ | ⟨kvs, hk⟩
        · obtain ⟨_, _, _, _, o, _, _, e, ex, _⟩ := I.hok p _ hk
          exact ⟨o, e, ex⟩
        · obtain ⟨_, _, _, _, o, _, _, e, ex, _⟩ := I.hok p _ hk
          exact ⟨o, e, ex⟩
      obtain ⟨o, e, ex⟩ := z
      refine ⟨⟨o, e, ex.1⟩, fun a e2 => ?_⟩
      cases e2
      exact ⟨o, e, ex.2.1⟩
    · obtain ⟨o, _, _, _, e, ex, _⟩ := I.hok p _ hk
      refine ⟨⟨o, e, ex.1⟩, fun a e2 => ?_⟩
      cases e2
      exact ⟨o, e, ex.2.1⟩
  | _ => exact False.elim ty
def tBM0 (K : PySem.W.Frag) (T : String) (r : V → List V → Hp → VK → Prop) (to : TE) : TE := fun σ H Q => to σ H fun x H1 => tyV K T x H1 ∧ r x [] H1 Q
def tBM (K : PySem.W.Frag) (T : String) (r : V → List V → Hp → VK → Prop) (to : TE) (t : TA) : TE := fun σ H Q => to σ H fun x H1 => tyV K T x H1 ∧ t σ H1 fun xs H2 => r x xs H2 Q
variable {o e : Expr} {es : List Expr} {to : TE} {t : TA} {name : Str} {apos cpos : Pos} {T id : String} {r : V → List V → Hp → VK → Prop}
theorem pe_bm0 (pa : PlainAttrs T) (slot : Slot T name id) (hty : typeOf (.builtin id) = pure (.type "method_descriptor")) (hm : MtR X id r) (ho : PE X o to)
    (hbase : attributeBase o name X.env (eval o X.env) = eval o X.env := by rfl) (hline : (apos.endLine == cpos.line) = true := by rfl) : PE X (.Call (.Attribute o name apos) [] [] cpos) (tBM0 X.K T r to) := by
  intro pins s σ H Q I h
  refine wpAny_Call_method0_late hbase hline (thn (ho pins s σ H _ I h) fun v s1 ⟨x, H1, I1, r1, ty, q1⟩ => ?_)
  obtain ⟨h1, h2⟩ := tyV_is I1 r1 ty
  exact ⟨T, id, pa, slot, hty, h1, h2, Calls.callWith_builtin rfl (PySem.evalArgs_none (hm pins s1 σ H1 x [] v [] Q I1 r1 .nil q1))⟩
theorem pe_bm (pa : PlainAttrs T) (slot : Slot T name id) (hty : typeOf (.builtin id) = pure (.type "method_descriptor")) (hm : MtR X id r) (ho : PE X o to) (ha : PA X (e :: es) t)
    (hbase : attributeBase o name X.env (eval o X.env) = eval o X.env := by rfl)
    (hfew : ((backTo cpos (starEach (e :: es) X.env)).all (fun x => !x.1) && (backToKw cpos (keywordEach [] X.env)).all (fun x => x.1.isSome)
      && decide ((e :: es).length + ([] : List Keyword).length + (if ([] : List Keyword).isEmpty then 0 else 1) < 30)) = true := by rfl)
    (hline : (apos.endLine == cpos.line) = true := by rfl) (hs : starEach (e :: es) X.env = (false, eval e X.env) :: starEach es X.env := by rfl) (hplain : (backTo cpos (starEach es X.env)).any (·.1) = false := by rfl) :
    PE X (.Call (.Attribute o name apos) (e :: es) [] cpos) (tBM X.K T r to t) := by
  intro pins s σ H Q I h
  refine wpAny_Call_method_late hbase hfew hline rfl (thn (ho pins s σ H _ I h) fun v s1 ⟨x, H1, I1, r1, ty, q1⟩ => ?_)
  obtain ⟨h1, h2⟩ := tyV_is I1 r1 ty
  refine ⟨T, id, pa, slot, hty, h1, h2, ?_⟩
  have hA := ha cpos pins s1 σ H1 _ I1 q1
  rw [hs] at hA ⊢
  refine Calls.callWith_builtin (by show (false || (backTo cpos (starEach es X.env)).any (·.1)) = false; rw [hplain] <;> rfl) (Calls.evalArgs_plain ?_)
  exact thn hA fun us s2 ⟨vs, H2, I2, r2, q2⟩ => hm pins s2 σ H2 x vs v us Q I2 r1 r2 q2
end
end L2
namespace L2
open PySem PySem.Spec PyProof.Rows
def MtM (X : Cx) (id : String) (r : V → List V → Hp → VK → Prop) : Prop :=
  ∀ (pins : List (Addr × Obj)) (s : Shared) (σ : St) (H : Hp) (x : V) (xs : List V) (v : Value) (us : List Value) (Q : VK), Inv X pins σ H s → RelV x v → Vals xs us → r x xs H Q →
    wpAny (model X.prog X.w) X.A (call (.builtin id) (v :: us)) (EP X pins σ Q) X.xe s
theorem Vals.one : ∀ {x : V} {us : List Value}, Vals [x] us → ∃ u, us = [u] ∧ RelV x u
  | _, _, .cons r .nil => ⟨_, rfl, r⟩
theorem Vals.two : ∀ {x y : V} {us : List Value}, Vals [x, y] us → ∃ u v, us = [u, v] ∧ RelV x u ∧ RelV y v
  | _, _, _, .cons r (.cons q .nil) => ⟨_, _, rfl, r, q⟩
theorem Vals.zero : ∀ {us : List Value}, Vals [] us → us = []
  | _, .nil => rfl
theorem Vals.dropLast {xs : List V} {us : List Value} (h : Vals xs us) : Vals xs.dropLast us.dropLast := by
  induction h with
  | nil => exact .nil
  | cons r t ih =>
    cases t with
    | nil => exact .nil
    | cons q t' => exact .cons r ih
theorem Vals.eraseIdx : ∀ {xs : List V} {us : List Value} (i : Nat), Vals xs us → Vals (xs.eraseIdx i) (us.eraseIdx i)
  | _, _, _, .nil => .nil
  | _, _, 0, .cons _ t => t
  | _, _, i + 1, .cons r t => .cons r (Vals.eraseIdx i t)
theorem Vals.rep {xs : List V} {us : List Value} (h : Vals xs us) : ∀ k : Nat, Vals (List.replicate k xs).flatten (List.replicate k us).flatten
  | 0 => .nil
  | k + 1 => by
    rw [List.replicate_succ, List.replicate_succ, List.flatten_cons, List.flatten_cons]
    exact Vals.append h (Vals.rep h k)
theorem erase_last {α : Type} (l : List α) : l.eraseIdx (l.length - 1) = l.dropLast := by
  induction l with
  | nil => rfl
  | cons a r ih =>
    cases r with
    | nil => rfl
    | cons b r =>
      have e : (a :: b :: r).length - 1 = ((b :: r).length - 1) + 1 := by
        have h1 : (a :: b :: r).length = r.length + 2 := rfl
        have h2 : (b :: r).length = r.length + 1 := rfl
        omega
      rw [e, List.eraseIdx_cons_succ, ih]
      all_goals rfl
theorem foldl_rep (its : List Value) : ∀ (k : Nat) (acc : List Value),
    List.foldl (fun x1 x2 => x1 ++ x2) acc.toArray (List.replicate k its.toArray) = (acc ++ (List.replicate k its).flatten).toArray
  | 0, acc => by simp
  | k + 1, acc => by
    have e : acc.toArray ++ its.toArray = (acc ++ its).toArray := by simp
    have e2 : (acc ++ its) ++ (List.replicate k its).flatten = acc ++ (List.replicate (k + 1) its).flatten := by
      rw [List.replicate_succ, List.flatten_cons, List.append_assoc]
    rw [← e2, ← foldl_rep its k (acc ++ its), ← e, List.replicate_succ, List.foldl_cons]
section
variable {X : Cx} {pins : List (Addr × Obj)} {σ : St} {H : Hp} {s : Shared} {l b : Addr} {xs ys zs : List V}
theorem Inv.lset {its its' : List Value} {n : Nat} {f : Array Value → Array Value} {t' : Nat} (I : Inv X pins σ H s) (hH : H l = some (.lst xs))
    (e : s.heap.get? l = some { cls := .type "list", data := .seq its.toArray n }) (hf : f its.toArray = its'.toArray) (hv : Vals ys its') (hz : ys.length ≤ sizeLine) :
    Inv X pins σ (upd H l (.lst ys)) { s with heap := s.heap.update l (Obj.mapSeq f), toks := t' } := by
  have q := PySem.IsL.update e f
  rw [hf] at q
  refine I.write (x := l) (e := l) (by rw [hH]; exact trivial) (.inl rfl) (fun b' u hb hu => (Heap.get?_update_other s.heap (Obj.mapSeq f) (Ne.symm hb)).trans hu) ⟨_, q⟩ ?_
  exact ⟨hz, its', _, hv, q⟩
theorem Inv.lnew {its : List Value} {t' : Nat} (I : Inv X pins σ H s) (hv : Vals ys its) (hz : ys.length ≤ sizeLine) :
    Inv X pins σ (upd H s.heap.objs.size (.lst ys)) { s with heap := s.heap.push { cls := .type "list", data := .seq its.toArray }, toks := t' } :=
  I.laid (fun _ _ q => Heap.get?_push_of_some _ q) (Nat.le_refl _) ⟨hz, its, 0, hv, Heap.get?_push_size _ rfl⟩
theorem Inv.fresh (I : Inv X pins σ H s) : H s.heap.objs.size = none := I.hok.fresh (Nat.le_refl _)
theorem Inv.lstM (I : Inv X pins σ H s) (hH : H l = some (.lst xs)) : xs.length ≤ sizeLine ∧ ∃ (its : List Value) (n : Nat), Vals xs its ∧ xs.length = its.length ∧ s.heap.get? l = some { cls := .type "list", data := .seq its.toArray n } := by
  obtain ⟨z, its, n, r, e⟩ := I.hok l _ hH
  exact ⟨z, its, n, r, r.length, e⟩
theorem notLongL {n : Nat} (h : n ≤ sizeLine) : Builtin.List.listTooLong n = false := by
  unfold Builtin.List.listTooLong
  exact decide_eq_false (by omega)
end
section
variable {X : Cx}
def rAppend : V → List V → Hp → VK → Prop := fun x vs H Q => ∃ l xs y, x = .ref l ∧ vs = [y] ∧ H l = some (.lst xs) ∧ xs.length < sizeLine ∧ Q .non (upd H l (.lst (xs ++ [y])))
theorem mt_append : MtM X "list.append" rAppend := by
  intro pins s σ H x vs v us Q I rx rv h
  obtain ⟨l, xs, y, rfl, rfl, hH, hz, q⟩ := h
  cases rx
  obtain ⟨u, rfl, ru⟩ := rv.one
  obtain ⟨z, its, n, r, hl, e⟩ := I.lstM hH
  refine call_meets F.slot_list_append ⟨_, e, rfl⟩ F.entry_list_append (F.args_list_append_2 _ _) (PySem.list_append l its.toArray n u (by rw [List.size_toArray]; omega)) ⟨e, ?_⟩
  refine ⟨.non, _, I.lset (its' := its ++ [u]) hH e (by simp) (r.append (.cons ru .nil)) ?_, rfl, q⟩
  rw [List.length_append, List.length_singleton]
  omega
def rExtend : V → List V → Hp → VK → Prop := fun x vs H Q => ∃ l b xs zs, x = .ref l ∧ vs = [.ref b] ∧ H l = some (.lst xs) ∧ H b = some (.lst zs) ∧ xs.length + zs.length ≤ sizeLine ∧ Q .non (upd H l (.lst (xs ++ zs)))
theorem mt_extend : MtM X "list.extend" rExtend := by
  intro pins s σ H x vs v us Q I rx rv h
  obtain ⟨l, b, xs, zs, rfl, rfl, hH, hB, hz, q⟩ := h
  cases rx
  obtain ⟨u, rfl, ru⟩ := rv.one
  cases ru
  obtain ⟨z, its, n, r, hl, e⟩ := I.lstM hH
  obtain ⟨z2, its2, n2, r2, hl2, e2⟩ := I.lstM hB
  have hsz : its.toArray.size + its2.toArray.size ≤ sizeLine := by rw [List.size_toArray, List.size_toArray]; omega
  have hlong : ¬ (!its.toArray.isEmpty && Builtin.List.listTooLong (its.toArray.size + its2.toArray.size)) = true := by
    rw [notLongL hsz, Bool.and_false]
    exact Bool.false_ne_true
  refine call_meets F.slot_list_extend ⟨_, e, rfl⟩ F.entry_list_extend (F.args_list_extend_2 _ _)
    (AutoSeq1.list_extend_list_list_0 l its.toArray n b its2.toArray n2 hlong (by rw [List.size_toArray]; omega) (by omega)) ⟨e, e2, ?_⟩
  refine ⟨.non, _, I.lset (its' := its ++ its2) hH e (by simp) (r.append r2) ?_, rfl, q⟩
  rw [List.length_append]
  omega
def rPop : V → List V → Hp → VK → Prop := fun x vs H Q => ∃ l xs y, x = .ref l ∧ vs = [] ∧ H l = some (.lst xs) ∧ xs[xs.length - 1]? = some y ∧ Q y (upd H l (.lst xs.dropLast))
theorem mt_pop : MtM X "list.pop" rPop := by
  intro pins s σ H x vs v us Q I rx rv h
  obtain ⟨l, xs, y, rfl, rfl, hH, hy, q⟩ := h
  cases rx
  have hus := rv.zero
  subst hus
  obtain ⟨z, its, n, r, hl, e⟩ := I.lstM hH
  obtain ⟨u, hu, ru⟩ := r.get hy
  have hy' : its.toArray[its.toArray.size - 1]? = some u := by
    show its.toArray[its.length - 1]? = some u
    rw [← Array.getElem?_toList, ← hl]
    exact hu
  refine call_meets F.slot_list_pop ⟨_, e, rfl⟩ F.entry_list_pop (F.args_list_pop_1 _) (MeetsSeq.list_pop_last l its.toArray n u hy' (by rw [List.size_toArray]; omega)) ⟨e, ?_⟩
  refine ⟨y, _, I.lset (its' := its.dropLast) hH e ?_ r.dropLast ?_, ru, q⟩
  · show its.toArray.eraseIdxIfInBounds (its.toArray.size - 1) = its.dropLast.toArray
    rw [List.size_toArray, List.eraseIdxIfInBounds_toArray, erase_last]
  · rw [List.length_dropLast]
    omega
def rPopAt : V → List V → Hp → VK → Prop := fun x vs H Q => ∃ l xs i k y, x = .ref l ∧ vs = [.int i] ∧ H l = some (.lst xs) ∧ -(2 ^ 63) ≤ i ∧ i < 2 ^ 63 ∧ seqIndex? i xs.length = some k ∧ xs[k]? = some y ∧ Q y (upd H l (.lst (xs.eraseIdx k)))
def rReverse : V → List V → Hp → VK → Prop := fun x vs H Q => ∃ l xs, x = .ref l ∧ vs = [] ∧ H l = some (.lst xs) ∧ Q .non (upd H l (.lst xs.reverse))
def rClear : V → List V → Hp → VK → Prop := fun x vs H Q => ∃ l xs, x = .ref l ∧ vs = [] ∧ H l = some (.lst xs) ∧ Q .non (upd H l (.lst []))
theorem mt_clear : MtM X "list.clear" rClear := by
  intro pins s σ H x vs v us Q I rx rv h
  obtain ⟨l, xs, rfl, rfl, hH, q⟩ := h
  cases rx
  have hus := rv.zero
  subst hus
  obtain ⟨z, its, n, r, hl, e⟩ := I.lstM hH
  refine call_meets F.slot_list_clear ⟨_, e, rfl⟩ F.entry_list_clear (F.args_list_clear_1 _) (AutoSeq1.list_clear_list_0 l its.toArray n (by rw [List.size_toArray]; omega)) ⟨e, ?_⟩
  exact ⟨.non, _, I.lset (its' := []) (ys := []) hH e rfl .nil (Nat.zero_le _), rfl, q⟩
def rCat : R2 := fun x y H Q => ∃ l b xs zs, x = .ref l ∧ y = .ref b ∧ H l = some (.lst xs) ∧ H b = some (.lst zs) ∧ xs.length + zs.length ≤ sizeLine ∧ ∀ p, H p = none → Q (.ref p) (upd H p (.lst (xs ++ zs)))
theorem op_cat : OpR X (binaryOp .Add) rCat := by
  intro pins s σ H x y v u Q I rx ry h
  obtain ⟨l, b, xs, zs, rfl, rfl, hH, hB, hz, q⟩ := h
  cases rx
  cases ry
  obtain ⟨z, its, n, r, hl, e⟩ := I.lstM hH
  obtain ⟨z2, its2, n2, r2, hl2, e2⟩ := I.lstM hB
  refine PySem.P.add_list e e2 ?_ (by rw [List.size_toArray, List.size_toArray]; omega)
  have ea : its.toArray ++ its2.toArray = (its ++ its2).toArray := by simp
  rw [ea]
  exact ⟨.ref _, _, I.lnew (t' := s.toks) (r.append r2) (by rw [List.length_append]; omega), rfl, q _ I.fresh⟩
def rRep : R2 := fun x y H Q => ∃ l k xs, x = .ref l ∧ y = .int k ∧ H l = some (.lst xs) ∧ -(2 ^ 63) ≤ k ∧ k < 2 ^ 63 ∧ xs.length * k.toNat ≤ sizeLine ∧
  ∀ p, H p = none → Q (.ref p) (upd H p (.lst (List.replicate k.toNat xs).flatten))
theorem len_rep {α : Type} (xs : List α) (k : Nat) : (List.replicate k xs).flatten.length = k * xs.length := by
  induction k with
  | zero => simp
  | succ k ih => rw [List.replicate_succ, List.flatten_cons, List.length_append, ih, Nat.succ_mul, Nat.add_comm]
theorem op_rep : OpR X (binaryOp .Mult) rRep := by
  intro pins s σ H x y v u Q I rx ry h
  obtain ⟨l, k, xs, rfl, rfl, hH, h1, h2, hz, q⟩ := h
  cases rx
  obtain ⟨t, rfl⟩ := ry
  obtain ⟨z, its, n, r, hl, e⟩ := I.lstM hH
  have hlen : its.toArray.size * k.toNat ≤ sizeLine := by rw [List.size_toArray, ← hl]; exact hz
  have hcap : ¬ its.toArray.size * k.toNat > (2 ^ 63 - 1) / 8 := by
    have : (sizeLine : Nat) ≤ (2 ^ 63 - 1) / 8 := by decide
    omega
  have hfit : ¬ (!Builtin.List.listFitsIndex k) = true := by
    rw [fitsIndex_both h1 h2]
    exact Bool.false_ne_true
  have hlong : ¬ Builtin.List.listTooLong (its.toArray.size * k.toNat) = true := by
    rw [notLongL hlen]
    exact Bool.false_ne_true
  have hnew : List.foldl (fun x1 x2 => x1 ++ x2) #[] (List.replicate (if its.toArray.isEmpty = true then 0 else k.toNat) its.toArray) = (List.replicate k.toNat its).flatten.toArray := by
    have f0 : ∀ m : Nat, List.foldl (fun x1 x2 => x1 ++ x2) #[] (List.replicate m its.toArray) = (List.replicate m its).flatten.toArray := fun m => by
      have := foldl_rep its m []
      rw [List.nil_append] at this
      exact this
    rw [f0]
    cases its with
    | nil => simp
    | cons a r' => rw [if_neg (by simp)]
  refine wpAny_binaryOp_repeat_ref (T := "list") (U := "int") (by decide) ⟨_, e, rfl⟩ (fun s' => typeIs_int s' k t) noFill_list_mul F.fills_int_mul F.slot_int_rmul repeat_list F.slot_int_index.lookup
    (call_meets F.slot_int_rmul (typeIs_int s k t) F.entry_int_rmul (F.args_int_rmul_2 _ _) (int___rmul___int_list k t l its.toArray n)
      ⟨e, rfl, ⟨_, e, rfl⟩, call_meets F.slot_list_mul ⟨_, e, rfl⟩ F.entry_list_mul (F.args_list_mul_2 _ _) (AutoListH.list___mul___list_int_3 l its.toArray n k t hfit hcap hlong) ⟨e, ?_⟩⟩)
  rw [hnew]
  exact ⟨.ref _, _, I.lnew (t' := s.toks) (r.rep k.toNat) (by rw [len_rep, Nat.mul_comm]; exact hz), rfl, q _ I.fresh⟩
end
section
variable {prog : Program} {w : World} {A : Around} {E : Value → Shared → Prop} {s : Shared}
set_option maxRecDepth 100000 in
end
section
variable {X : Cx}
end
end L2
namespace Att
open PySem PySem.W PySem.Calls PyProof.Rows
theorem ints_of_wellAll {P : Params} {h : Heap} : ∀ (ns : List Int) (vs : List Value), WellAll P h vs (ns.map WData.int) → IntsAre vs ns := by
  intro ns
  induction ns with
  | nil =>
    intro vs w
    rw [List.map_nil] at w
    cases w
    exact .nil
  | cons n ns ih =>
    intro vs w
    rw [List.map_cons] at w
    cases w with
    | cons a b =>
      cases a
      exact .cons _ _ (ih _ b)
theorem script_of {l : OpenLaw} {n : Nat} (hn : l.most = some n) {P : Params} {h : Heap} {args : List WData} {vals : List Value}
    (hpre : l.row.toRowW.claim.pre args = true) (hwl : WellAll P h vals args) :
    ∃ a vs ns, vals = [Value.ref a] ∧ args = [WData.list (ns.map WData.int)] ∧ h.get? a = some { cls := .type "list", data := .seq vs.toArray } ∧ IntsAre vs ns ∧ ns.length ≤ n := by
  have hsh : WShape.hasAll [] args [.list .int] = true := (pre_splitW hpre).1
  have hc : l.pre.holds [] { args := args } = true := (pre_splitW hpre).2
  obtain ⟨d, r, rfl, h1, h2⟩ := hasAllW_cons hsh
  obtain rfl := hasAllW_nil h2
  obtain ⟨xs, rfl, h3⟩ := hasW_list h1
  obtain ⟨ns, rfl⟩ := items_int h3
  have hlen : ns.length ≤ n := by
    unfold OpenLaw.pre at hc
    have h4 : (WTm.not (.lt (.lit (.int (n : Int))) (.len (.arg 0)))).holds [] { args := [.list (ns.map .int)] } = true := by
      have h4 := (holds_andW hc).1
      rw [hn] at h4
      exact h4
    have h5 := condW_of h4 (w_not (w_lt w_lit (w_len_list (w_arg rfl))))
    rw [List.length_map] at h5
    refine Nat.le_of_not_lt fun q => ?_
    have q' : (n : Int) < ((ns.length : Nat) : Int) := by omega
    first
      | (rw [decide_eq_true q'] at h5; exact absurd h5 (by decide))
      | (simp at h5; omega)
  cases hwl with
  | cons w1 w2 =>
    cases w2
    cases w1 with
    | list ho hall => exact ⟨_, _, ns, rfl, rfl, ho, ints_of_wellAll ns _ hall, hlen⟩
theorem post_true (l : OpenLaw) (args : List WData) : l.row.toRowW.claim.post args (.bool true) args = true :=
  postW_of (r := l.row.toRowW) (X := (true == true))
    (show WShape.has [] (.bool true) .bool = true by first | rfl | decide | simp [WShape.has, WShape.arms, WShape.armsAll])
    (show (WTm.eq .res (.lit (.bool true))).value [] { args := args, res := some (.bool true), after := args } = some (.bool (true == true)) from w_eq_bool (w_res rfl) w_lit) rfl
theorem attach_call {l : OpenLaw} {n : Nat} {q : Program} {loose : List Str} {XP : (Str → Option Value) → Heap → Prop} {YP : World → Heap → Prop} {d : DefRec}
    (hn : l.most = some n) (hdf : d.params.defaults = [])
    (call : ∀ (w : World) (s₀ s₁ : Shared) (mg mb : Str → Option Value) (fa : Addr) (o : Obj) (pm cd doc : Value) (a : Addr) (vs : List Value) (ns : List Int),
      Ground q loose [] XP w s₀ mg mb s₁.heap → YP w s₁.heap →
      s₁.heap.get? fa = some o → o.data = .func (docDef d.name d.params d.body d.scope pm cd doc) → s₁.heap.CodeRec cd d.name → mg d.name = some (.ref fa) →
      s₁.heap.get? a = some { cls := .type "list", data := .seq vs.toArray } → IntsAre vs ns → ns.length ≤ n → s₁.gens = #[] →
      codeAny (model l.prog w) callerA (.call (.ref fa) ⟨[.ref a], []⟩) (fun r s' => r = .ok (.ret (.bool true)) ∧ OldK s₁.heap s'.heap ∧ s'.os = s₁.os ∧ AllBare s'.gens) s₁) :
    WalkO q loose XP YP l.row.toRowW d [] (fun f vs => PySem.call f vs) := by
  intro w s₀ s₁ mg mb G Y fa o pm cd doc dV kV ho hd hcd hD hmg hg args vals as hpre hlay hrd hwl hlo
  obtain rfl : dV = .none := Dflts.none hD hdf
  obtain rfl : kV = .none := Dflts.noKw hD
  obtain ⟨a, vs, ns, rfl, rfl, hobj, hints, hlen⟩ := script_of hn hpre hwl
  refine enter_call (codeAny_mono (call w s₀ s₁ mg mb fa o pm cd doc a vs ns G Y ho (fd_plain hd) hcd hmg hobj hints hlen hg) fun r s' hq => ?_)
  obtain ⟨rfl, h2, h3, h4⟩ := hq
  exact ⟨.inl ⟨.bool true, .bool true, [], rfl, fun _ => rfl, .bool true, post_true l _, fun _ => ⟨List.Pairwise.nil, fun _ hm => (nomatch hm)⟩⟩, h2, h3, h4⟩
section
variable {prog : Program} {w : World} {A : Around} {E : Value → Shared → Prop} {s : Shared} {K : Frag}
def noObjs (h : Heap) : Heap := { h with objs := #[] }
def ledger (h : Heap) (L d : Addr) : List (Addr × Obj) := (List.range h.objs.size).filterMap fun a => if a = L ∨ a = d then none else (h.get? a).map fun o => (a, o)
end
end Att
namespace L2
open PySem PySem.Spec PyProof.Rows
theorem vals_ints : ∀ {vs : List Value} {ns : List Int}, IntsAre vs ns → Vals (ns.map V.int) vs
  | _, _, .nil => .nil
  | _, _, .cons n t h => .cons ⟨t, rfl⟩ (vals_ints h)
def Only (H : Hp) : Prop := ∀ b, H b = none ∨ ∃ o xs, H b = some (.frz o (.lst xs))
theorem law_call {P : Program} {w : World} {K : PySem.W.Frag} {mg mb : Str → Option Value} {CX : CXT} {k : Nat} {fa a : Addr} {fd : FuncData} {x : Str} {sp : Sp} {s₁ : Shared} {vs : List Value} {ns : List Int}
    (KX : K.In s₁.heap) (hns : s₁.heap.Ns mainGlobals mg) (hb : s₁.heap.Ns builtinsNs mb) (hbb : ∀ x : Str, x ≠ "__name__" → mb x = bootBuiltins x) (hlim : s₁.heap.NoLimit) (hg : s₁.gens = #[])
    (ha : s₁.heap.get? a = some { cls := .type "list", data := .seq vs.toArray }) (hi : IntsAre vs ns) (hl : ns.length ≤ sizeLine) (hr : Room k callerA)
    (F : ∀ base : Heap, K.In base → base.Ns mainGlobals mg → FnOk P w K mg base CX k fa fd [x] sp) (hbind : ∀ (s : Shared) (u : Value), BindsTo s fd ⟨[u], []⟩ [(x, u)])
    (hsp : ∀ H : Hp, Only H → SqL K H a (ns.map V.int) → sp [.ref a] H (fun v _ => v = .bl true) fun _ _ _ => False)
    (hCX : ∀ H e s', CX [] H s₁ (fun _ _ _ => False) e s' → False) :
    codeAny (model P w) callerA (.call (.ref fa) ⟨[.ref a], []⟩) (fun r s' => r = .ok (.ret (.bool true)) ∧ OldK s₁.heap s'.heap ∧ s'.os = s₁.os ∧ AllBare s'.gens) s₁ := by
  have rv := vals_ints hi
  have lenV := hi.length
  have core : ∀ H : Hp, Only H → SqL K H a (ns.map V.int) → HOk P w H s₁.heap → (∀ b, H b ≠ none → b = a) → (H a ≠ none → K.lookup a = none) →
      codeAny (model P w) callerA (.call (.ref fa) ⟨[.ref a], []⟩) (fun r s' => r = .ok (.ret (.bool true)) ∧ OldK s₁.heap s'.heap ∧ s'.os = s₁.os ∧ AllBare s'.gens) s₁ := by
    intro H hO hS hok hA hK
    have base_of : ∀ {b : Addr} {o : Obj}, s₁.heap.get? b = some o → H b = none → (hidT s₁.heap H).get? b = some o := fun e n => hidT_get e n
    have noA : ∀ {b : Addr} {o : Obj} {es : Array DictEntry} {ep : Nat}, s₁.heap.get? b = some o → o.data = .dict es ep → H b = none := fun {b o es ep} e d => by
      cases q : H b with
      | none => rfl
      | some u =>
        have e' : b = a := hA b (by rw [q]; simp)
        subst e'
        rw [ha] at e; cases e
        have d' : Data.seq vs.toArray _ = Data.dict es ep := d
        cases d'
    have nsK : ∀ {b : Addr} {m : Str → Option Value}, s₁.heap.Ns b m → (hidT s₁.heap H).Ns b m := fun {b m} ⟨o, es, ep, e, d, r⟩ => ⟨o, es, ep, base_of e (noA e d), d, r⟩
    have hKb : K.In (hidT s₁.heap H) := fun b o e => base_of (KX b o e) (by
      cases q : H b with
      | none => rfl
      | some u =>
        have e' : b = a := hA b (by rw [q]; simp)
        subst e'
        rw [hK (by rw [q]; simp)] at e; cases e)
    have hM : Mod K mg (hidT s₁.heap H) := ⟨hKb, nsK hns, ⟨mb, nsK hb, hbb⟩, let ⟨mc, h1, h2⟩ := hlim; ⟨mc, nsK h1, h2⟩⟩
    have e0 : Env0 P w K mg (hidT s₁.heap H) callerA [] s₁ H := ⟨rfl, hM, fun b o e => of_hidT e, Nat.le_of_eq (hidT_size _ _), trivial, fun b hb => absurd (show b ∈ ([] : List Addr) from hb) (by simp), hok, .of_eq hg⟩
    refine codeAny_mono ((F _ hKb (nsK hns)).run callerA [] s₁ H ⟨[.ref a], []⟩ [.ref a] [.ref a] _ _ hr e0 (hbind s₁ (.ref a)) (.cons rfl .nil) (hsp H hO hS)) fun r s' h => ?_
    cases r with
    | error e => exact (hCX H e s' h).elim
    | ok fl =>
      cases fl with
      | next => exact False.elim h
      | brk => exact False.elim h
      | cont => exact False.elim h
      | ret u =>
        obtain ⟨v, H', os, bare, un, hok', r', q⟩ := h
        have q' : v = .bl true := q
        subst q'
        obtain rfl : u = Value.bool true := r'
        refine ⟨rfl, OldK.of_keep fun b o e => ?_, os, bare⟩
        cases q : H b with
        | none => exact un.keep b o e q (by intro z; exact absurd (show b ∈ ([] : List Addr) from z) (by simp)) (by simp)
        | some u =>
          rcases hO b with z | ⟨ob, xs, z⟩
          · rw [q] at z; cases z
          · have z2 := un.frzs b ob _ z
            obtain ⟨e1, _⟩ := hok b _ z
            obtain ⟨e2, _⟩ := hok' b _ z2
            rw [e] at e1; cases e1
            exact e2
  cases hk : K.lookup a with
  | some o =>
    have e := KX a o hk
    rw [ha] at e
    cases e
    refine core (fun _ => none) (fun _ => .inl rfl) (.inr ⟨_, vs.toArray, _, hk, rfl, rfl, rfl, by rw [List.size_toArray, lenV]; exact hl, by simpa using rv⟩) (fun b u z => by have z' : (none : Option HO) = some u := z; cases z') (fun b z => absurd rfl z) fun z => absurd rfl z
  | none =>
    refine core (fun b => if b = a then some (.frz { cls := .type "list", data := .seq vs.toArray } (.lst (ns.map V.int))) else none) (fun b => ?_) (.inl (.inr ⟨{ cls := .type "list", data := .seq vs.toArray }, if_pos rfl⟩)) (fun b u z => ?_) (fun b z => ?_) fun _ => hk
    · by_cases hb : b = a
      · exact .inr ⟨_, _, if_pos hb⟩
      · exact .inl (if_neg hb)
    · by_cases hb : b = a
      · have z' := (if_pos hb).symm.trans z
        cases z'
        subst hb
        exact ⟨ha, by rw [List.length_map]; exact hl, vs, _, rv, ha⟩
      · have z' := (if_neg hb).symm.trans z
        cases z'
    · by_cases hb : b = a
      · exact hb
      · exact absurd (if_neg hb) z
end L2
namespace L2
open PySem PySem.Spec PyProof.Rows
abbrev KOf {K : PySem.W.Frag} {h : Heap} (_ : K.In h) : PySem.W.Frag := K
theorem walk_of {l : PySem.W.OpenLaw} {n k : Nat} {q : Program} {loose : List Str} {XP : (Str → Option Value) → Heap → Prop} {YP : World → Heap → Prop} {d : DefRec} {K : Params → PySem.W.Frag} {CX : World → CXT} {sp : World → Sp} {x : Str}
    (hn : l.most = some n) (hn2 : n ≤ sizeLine) (hdf : d.params.defaults = []) (hr : Room k callerA)
    (hY : ∀ (w : World) (h : Heap), YP w h → (K w.params).In h)
    (F : ∀ (w : World) (mg : Str → Option Value) (fa : Addr) (h : Heap), (K w.params).In h → h.Ns mainGlobals mg → mg d.name = some (.ref fa) →
      ∃ fd : FuncData, (∀ (s : Shared) (u : Value), BindsTo s fd ⟨[u], []⟩ [(x, u)]) ∧
        ∀ base : Heap, (K w.params).In base → base.Ns mainGlobals mg → FnOk l.prog w (K w.params) mg base (CX w) k fa fd [x] (sp w))
    (hsp : ∀ (w : World) (H : Hp) (a : Addr) (ns : List Int), ns.length ≤ n → Only H → SqL (K w.params) H a (ns.map V.int) → sp w [.ref a] H (fun v _ => v = .bl true) fun _ _ _ => False)
    (hCX : ∀ (w : World) (H : Hp) (s : Shared) (e : Value) (s' : Shared), CX w [] H s (fun _ _ _ => False) e s' → False) :
    PySem.W.WalkO q loose XP YP l.row.toRowW d [] (fun f vs => PySem.call f vs) := by
  refine Att.attach_call hn hdf fun w s₀ s₁ mg mb fa o pm cd doc a vs ns G Y ho hd hcd hmg hobj hints hlen hg => ?_
  have KX := hY w _ Y
  obtain ⟨fd, hb, hF⟩ := F w mg fa _ KX G.T.g hmg
  exact law_call KX G.T.g G.T.b G.T.builtins G.T.nolimit hg hobj hints (Nat.le_trans hlen hn2) hr hF hb (fun H hO hS => hsp w H a ns hlen hO hS) fun H e s' => hCX w H s₁ e s'
theorem walk_ofK {l : PySem.W.OpenLaw} {n k : Nat} {q : Program} {loose : List Str} {XP : (Str → Option Value) → Heap → Prop} {YP : World → Heap → Prop} {d : DefRec} {K : Params → PySem.W.Frag} {CX : CXT} {sp : PySem.W.Frag → Sp} {x : Str}
    (hn : l.most = some n) (hn2 : n ≤ sizeLine) (hdf : d.params.defaults = []) (hr : Room k callerA)
    (hY : ∀ (w : World) (h : Heap), YP w h → (K w.params).In h)
    (F : ∀ (w : World) (mg : Str → Option Value) (fa : Addr) (h : Heap), (K w.params).In h → h.Ns mainGlobals mg → mg d.name = some (.ref fa) →
      ∃ fd : FuncData, (∀ (s : Shared) (u : Value), BindsTo s fd ⟨[u], []⟩ [(x, u)]) ∧
        ∀ base : Heap, (K w.params).In base → base.Ns mainGlobals mg → FnOk l.prog w (K w.params) mg base CX k fa fd [x] (sp (K w.params)))
    (hsp : ∀ (K : PySem.W.Frag) (H : Hp) (a : Addr) (ns : List Int), ns.length ≤ n → Only H → SqL K H a (ns.map V.int) → sp K [.ref a] H (fun v _ => v = .bl true) fun _ _ _ => False)
    (hCX : ∀ (H : Hp) (s : Shared) (e : Value) (s' : Shared), CX [] H s (fun _ _ _ => False) e s' → False) :
    PySem.W.WalkO q loose XP YP l.row.toRowW d [] (fun f vs => PySem.call f vs) :=
  walk_of (K := K) (CX := fun _ => CX) (sp := fun w => sp (K w.params)) hn hn2 hdf hr hY F (fun w H a ns h1 h2 h3 => hsp (K w.params) H a ns h1 h2 h3) fun _ H s e s' => hCX H s e s'
end L2
namespace L2
open PySem PySem.Spec PyProof.Rows
def inClass (s : Stmt) (j : Nat) : Stmt := match s with
  | .ClassDef _ _ _ body _ _ _ _ _ _ _ => body.getD j (.Pass ⟨0, 0, 0, 0⟩)
  | _ => .Pass ⟨0, 0, 0, 0⟩
def defArgs (s : Stmt) : Arguments := match s with
  | .FunctionDef _ a _ _ _ _ _ _ _ _ => a
  | _ => { posonlyargs := [], args := [], vararg := none, kwonlyargs := [], kw_defaults := [], kwarg := none, defaults := [] }
def defBody (s : Stmt) : List Stmt := match s with
  | .FunctionDef _ _ b _ _ _ _ _ _ _ => b
  | _ => []
def defScope (s : Stmt) : Scope := match s with
  | .FunctionDef _ _ _ _ _ _ sc _ _ _ => sc
  | _ => { kind := .function, names := [], isGenerator := false, isCoroutine := false }
abbrev CX0 : CXT := fun _ _ _ _ _ _ => False
abbrev E0 : XK := fun _ _ _ => False
theorem pass0 {X : Cx} : Passes CX0 X E0 := fun _ _ _ _ _ _ _ h => h.elim
structure Fun (K : PySem.W.Frag) (x qual : Str) (st : Stmt) (f : Addr) (fd : FuncData) : Prop where
  ex : ∃ (oc : Value) (od : Option Addr) (kV doc pm : Value) (an : Option Addr) (cdv ct : Value) (osl : Array (Option Value)),
    fd = PySem.W.fnOf x qual (defArgs st) (defBody st) (defScope st) .none kV doc pm an cdv ct ∧ K.lookup f = some ⟨oc, od, .func fd, osl⟩ ∧ PySem.W.codeIn K cdv qual = true
  kp : PySem.W.keepIn K (.ref f) = true
section
variable {P : Program} {w : World} {K : PySem.W.Frag} {mg : Str → Option Value} {base : Heap}
theorem Fun.ok {x qual : Str} {st : Stmt} {f : Addr} {fd : FuncData} {N ps : List Str} {k : Nat} {sp : Sp} (F : Fun K x qual st f fd) (S : FnScope N ps (defScope st)) (len : ∀ vs H Q E, sp vs H Q E → vs.length = ps.length)
    (hbody : ∀ (cdv : Value) (A : Around) (outer : List Env) (s : Shared) (H : Hp) (vs : List V) (Q : VK) (E : XK), Room k (A.deeper (envOfC qual (defScope st) s.heap.objs.size f cdv)) → sp vs H Q E →
      ∃ t, PSs (cxOf CX0 P w K mg base N qual (defScope st) f cdv A outer s H E).nox (defBody st) t ∧ t { nx := fun _ H' => Q .non H', rt := Q } (start N vs) H) : FnOk P w K mg base CX0 (k + 1) f fd ps sp := by
  obtain ⟨oc, od, kV, doc, pm, an, cdv, ct, osl, rfl, lk, hcd⟩ := F.ex
  refine fn_of lk hcd S len fun A outer s H vs Q E hr hsp => ?_
  obtain ⟨t, h, q⟩ := hbody cdv A outer s H vs Q E hr hsp
  exact ⟨t, h.nox, q⟩
theorem Fun.binds {x qual : Str} {st : Stmt} {f : Addr} {fd : FuncData} {ps : List Str} (F : Fun K x qual st f fd)
    (h : ∀ (kV doc pm : Value) (an : Option Addr) (cdv ct : Value) (us : List Value), us.length = ps.length → bindArgs (PySem.W.fnOf x qual (defArgs st) (defBody st) (defScope st) .none kV doc pm an cdv ct) ⟨us, []⟩ = pure (ps.zip us)) : Binds K fd ps [] := by
  obtain ⟨oc, od, kV, doc, pm, an, cdv, ct, osl, rfl, lk, hcd⟩ := F.ex
  exact .all (h kV doc pm an cdv ct)
theorem fun_mk {x qual : Str} {st : Stmt} {f : Addr} {oc : Value} {od an : Option Addr} {osl : Array (Option Value)} {kV doc pm cdv ct : Value} (l : K.lookup f = some ⟨oc, od, .func (PySem.W.fnOf x qual (defArgs st) (defBody st) (defScope st) .none kV doc pm an cdv ct), osl⟩)
    (c : PySem.W.codeIn K cdv qual = true) (k : PySem.W.keepIn K (.ref f) = true) : Fun K x qual st f (PySem.W.fnOf x qual (defArgs st) (defBody st) (defScope st) .none kV doc pm an cdv ct) := ⟨⟨oc, od, kV, doc, pm, an, cdv, ct, osl, rfl, l, c⟩, k⟩
end
section
variable {X : Cx}
theorem pv (i : Nat) {x : Str} {pos : Pos} (hN : X.N[i]? = some x := by rfl) (hv : Vis X.env.scope x := by first | exact Or.inl rfl | exact Or.inr (Or.inl rfl) | exact Or.inr (Or.inr rfl)) (hd : (x == ("__debug__" : Str)) = false := by decide)
    (hcd : (x == ("__classdict__" : Str)) = false := by decide) : PE X (.Name x pos) (tVar i) := pe_var hN hv hd hcd
end
theorem iteF {A B : Prop} (h : B) : if false = true then A else B := by
  rw [if_neg Bool.false_ne_true]
  exact h
theorem iteT {A B : Prop} (h : A) : if true = true then A else B := by
  rw [if_pos rfl]
  exact h
theorem ite2 {c A B : Prop} [Decidable c] (h1 : c → A) (h2 : ¬ c → B) : if c then A else B := by
  by_cases h : c
  · rw [if_pos h]
    exact h1 h
  · rw [if_neg h]
    exact h2 h
def Same (H H' : Hp) : Prop := ∀ b o, H b = some o → H' b = some o
theorem Same.refl (H : Hp) : Same H H := fun _ _ h => h
theorem Same.trans {H H1 H2 : Hp} (a : Same H H1) (b : Same H1 H2) : Same H H2 := fun c o h => b c o (a c o h)
theorem Same.free {H H' : Hp} (e : Same H H') {l : Addr} (h : H' l = Option.none) : H l = Option.none := by
  cases q : H l with
  | none => rfl
  | some o =>
    rw [e l o q] at h
    cases h
theorem Same.seq {K : PySem.W.Frag} {H H' : Hp} {a : Addr} {xs : List V} (e : Same H H') (h : SqL K H a xs) : SqL K H' a xs := by
  rcases h with (h | ⟨o, h⟩) | h
  · exact .inl (.inl (e _ _ h))
  · exact .inl (.inr ⟨o, e _ _ h⟩)
  · exact .inr h
end L2
set_option maxHeartbeats 4000000
namespace L2
open PySem PySem.Spec PyProof.Rows
structure D (K : PySem.W.Frag) (mg : Str → Option Value) (x : Str) (st : Stmt) (ps : List Str) (f : Addr) (fd : FuncData) : Prop where
  fn : Fun K x x st f fd
  ba : ∀ us : List Value, us.length = ps.length → bindArgs fd ⟨us, []⟩ = pure (ps.zip us)
  mg : mg x = some (.ref f)
section
variable {X : Cx} {k j : Nat} {f : Addr} {fd : FuncData} {ps : List Str} {sp : Sp} {x : Str} {st : Stmt} {p pos : Pos} {e : Expr} {es : List Expr} {t : TA}
theorem pcall (d : D X.K X.mg x st ps f fd) (F : FnOk X.prog X.w X.K X.mg X.base CX0 j f fd ps sp) (hr : Room k X.A) (hg : Gl X x) (ha : PA X (e :: es) t) (hjk : j ≤ k := by decide) (hdb : (x == ("__debug__" : Str)) = false := by decide)
    (he : starEach (e :: es) X.env = (false, eval e X.env) :: starEach es X.env := by rfl) (hpl : (backTo pos (starEach es X.env)).any (·.1) = false := by rfl) :
    PE X (.Call (.Name x p) (e :: es) [] pos) (tCall sp [] E0 t) :=
  pe_call (F.mono hjk) hr hg d.mg d.fn.kp (.all d.ba) .nil pass0 ha hdb he hpl
end
theorem bt_len : bootBuiltins "len" = some (.builtin "len") := PySem.boot_len
theorem bt_isinstance : bootBuiltins "isinstance" = some (.builtin "isinstance") := by decide +kernel
theorem bt_sorted : bootBuiltins "sorted" = some (.builtin "sorted") := by decide +kernel
theorem bt_bool : bootBuiltins "bool" = some (.type "bool") := by decide +kernel
theorem bt_int : bootBuiltins "int" = some (.type "int") := by decide +kernel
theorem bt_list : bootBuiltins "list" = some (.type "list") := by decide +kernel
theorem bt_ValueError : bootBuiltins "ValueError" = some (.type "ValueError") := by decide +kernel
section
variable {X : Cx}
theorem call_isinst : CallR X (.builtin "isinstance") (fun xs H Q => ∃ x n t b, xs = [x, .ty n] ∧ TyOf X.K H x t ∧ PySem.W.kitOne X.K t (.type n) = some b ∧ Q (.bl b) H) := by
  intro pins s σ H xs us Q I r h
  obtain ⟨x, n, t, b, rfl, ty, e, q⟩ := h
  obtain ⟨u, w', rfl, rx, rt⟩ := vals2 r
  cases rt
  exact isinst_ok I rx ty e fun tk => ⟨.bl b, H, I.tok _, rfl, q⟩
theorem kit_ll {K : PySem.W.Frag} : PySem.W.kitOne K (.type "list") (.type "list") = some true := by rfl
theorem kit_ib {K : PySem.W.Frag} : PySem.W.kitOne K (.type "int") (.type "bool") = some false := by rfl
end
end L2
namespace L2
open PySem PySem.Spec PyProof.Rows
theorem decV {i j : Int} : decide (V.int i = V.int j) = decide (i = j) := by
  rw [decide_eq_decide]
  exact ⟨fun h => V.int.inj h, fun h => by rw [h]⟩
theorem same_new {H : Hp} {p : Addr} (h : H p = none) (o : HO) : Same H (upd H p o) := fun b u q => by rw [upd_ne (ne_of_none q h)]; exact q
theorem same_upd {H H1 : Hp} {p : Addr} {o : HO} (s : Same H H1) (h : H p = none) : Same H (upd H1 p o) := fun b u q => by rw [upd_ne (ne_of_none q h)]; exact s b u q
theorem same_add {H H1 : Hp} {p : Addr} {o : HO} (s : Same H H1) (h : H1 p = none) : Same H (upd H1 p o) := same_upd s (s.free h)
theorem ints_at {B : Int} {zs : List Int} (h : ∀ z ∈ zs, 0 ≤ z ∧ z < B) {i : Int} (h0 : 0 ≤ i) (h1 : i < (zs.length : Int)) : ∃ z, atI (zs.map V.int) i = some (.int z) ∧ 0 ≤ z ∧ z < B := by
  have hk : i.toNat < zs.length := by omega
  have ek : i = ((i.toNat : Nat) : Int) := by omega
  refine ⟨zs[i.toNat], ?_, h _ (List.getElem_mem hk)⟩
  have q : atI (zs.map V.int) ((i.toNat : Nat) : Int) = some (.int zs[i.toNat]) := atI_nat (by rw [List.getElem?_map, List.getElem?_eq_getElem hk] <;> rfl)
  rw [← ek] at q
  exact q
theorem atI_getD {zs : List Int} {i : Int} (h0 : 0 ≤ i) (h1 : i < (zs.length : Int)) : atI (zs.map V.int) i = some (.int (zs.getD i.toNat 0)) := by
  have hk : i.toNat < zs.length := by omega
  have ek : i = ((i.toNat : Nat) : Int) := by omega
  have q : atI (zs.map V.int) ((i.toNat : Nat) : Int) = some (.int zs[i.toNat]) := atI_nat (by rw [List.getElem?_map, List.getElem?_eq_getElem hk] <;> rfl)
  rw [← ek] at q
  rw [q, List.getD_eq_getElem?_getD, List.getElem?_eq_getElem hk] <;> rfl
theorem map_int_get {zs : List Int} {i : Nat} {y : V} (h : (zs.map V.int)[i]? = some y) : ∃ z, y = .int z ∧ zs[i]? = some z := by
  rw [List.getElem?_map] at h
  cases e : zs[i]? with
  | none => rw [e] at h; cases h
  | some z => rw [e] at h; exact ⟨z, (Option.some.inj h).symm, rfl⟩
theorem smallL {n : Nat} (h : n ≤ 100000) : n ≤ sizeLine := Nat.le_trans h (by decide)
theorem smallLt {n : Nat} (h : n ≤ 100000) : n < sizeLine := Nat.lt_of_le_of_lt h (by decide)
end L2
namespace L2
open PySem PySem.Spec PyProof.Rows
def tCut (t : TS) : TS := fun D σ H => ∃ M : St → Hp → Prop, t { D with nx := M } σ H ∧ ∀ σ' H', M σ' H' → D.nx σ' H'
theorem ps_cut {X : Cx} {st : Stmt} {t : TS} (h : PS X st t) : PS X st (tCut t) := by
  intro pins s σ H D I hw
  obtain ⟨M, h1, h2⟩ := hw
  refine thn (h pins s σ H _ I h1) fun f s1 q => ?_
  cases f with
  | next => obtain ⟨σ', H', I', m⟩ := q; exact ⟨σ', H', I', h2 σ' H' m⟩
  | ret v => exact q
  | brk => exact q
  | cont => exact q
end L2
namespace L2
open PySem PySem.Spec PyProof.Rows
section
variable {X : Cx} {pins : List (Addr × Obj)} {σ : St} {H : Hp} {s : Shared} {h' : Heap}
theorem Inv.turnLay {t' : Nat} {ch : List Addr} {l : Addr} {o : HO} (I : Inv X pins σ H s) (k : ∀ b u, b ∉ ch → s.heap.get? b = some u → h'.get? b = some u) (hf : ∀ b ∈ ch, FpOk X pins H b)
    (hp : s.heap.objs.size ≤ l) (new : ObjOk X.prog X.w (upd H l o) h' l o) : Inv X pins σ (upd H l o) { s with heap := h', toks := t' } := by
  have hn := I.hok.fresh hp
  have nch : ∀ b u, H b = some u → b ∉ ch := fun b u e z => by rw [(hf b z).1] at e; cases e
  refine I.step (g' := s.gens) (d' := s.drawn) (ch := ch) (fun b hb => ?_) (fun b u _ _ hc e _ => k b u hc e) (fun b u _ _ hc e _ => ⟨u.slots, k b u hc e⟩)
    (fun b u _ e n => ?_) (fun b u hc e => ⟨u, k b u hc e⟩) (fun b xs e => ?_) (fun b u xs e => ?_) (fun b ps e => ⟨#[], ?_⟩) (fun m hm => ?_) (fun b u e => ?_) I.bare
  · obtain ⟨f0, f1, f2, f3, f4, f5⟩ := hf b hb
    exact ⟨f3, f1, f4, f5⟩
  · rw [upd_ne (Nat.ne_of_lt (Nat.lt_of_lt_of_le (Heap.lt_size e) hp))]
    exact n
  · rw [upd_ne (ne_of_none e hn)]
    exact e
  · rw [upd_ne (ne_of_none e hn)]
    exact e
  · rw [upd_ne (ne_of_none e hn), e]
    simp
  · obtain ⟨ob, es, ep, ho, r⟩ := hm
    exact ⟨ob, es, ep, k _ ob (fun z => (hf _ z).2.1 rfl) ho, r⟩
  · by_cases hb : b = l
    · subst hb
      rw [upd_same] at e
      cases e
      exact new
    · rw [upd_ne hb] at e
      refine (I.hok b u e).stay (fun c v hc q => k c v ?_ q) (fun c q => by rw [upd_ne (ne_of_none q hn)]; exact q) fun c xs q => by rw [upd_ne (ne_of_none q hn)]; exact q
      rcases hc with z | z
      · rw [z]; exact nch b u e
      · exact nch c _ z
end
def Ite (K : PySem.W.Frag) (a : Addr) : It :=
  ⟨fun i H => ∃ xs x, SqL K H a xs ∧ xs[i]? = some x, fun i H v H' => ∃ t x, v = .ref t ∧ H t = none ∧ (∀ xs, SqL K H a xs → xs[i]? = some x) ∧ H' = upd H t (.tup [.int i, x]), fun i H => ∃ xs, SqL K H a xs ∧ xs.length ≤ i⟩
theorem turn_enum {P : Program} {w : World} {K : PySem.W.Frag} {es : List Expr} {k1 : Nat} {tp : Pos} (a e it : Addr) (hne : e ≠ it) :
    Turn P w K (.Tuple es k1 tp) (Ite K a) [e, it] e (fun i h => (∃ old, IsEnum h e it (i : Nat) old) ∧ h.IsListIter it a i) where
  mem := by simp
  obj := fun i h st b hb => by
    obtain ⟨⟨old, e1⟩, o, e2, c, d⟩ := st
    have z : b = e ∨ b = it := by simpa using hb
    rcases z with rfl | rfl
    · refine ⟨_, e1, fun v z => ?_⟩
      have z' : Data.fields _ = Data.cell v := z
      cases z'
    · exact ⟨o, e2, fun v z => by rw [d] at z; cases z⟩
  keep := fun i h h' st k => ⟨let ⟨old, e1⟩ := st.1; ⟨old, k e (by simp) _ e1⟩, st.2.at fun o e => k it (by simp) o e⟩
  item := by
    intro X hP hw hK hc i pins s σ H E I hf st hg
    subst hP hw hK
    obtain ⟨xs, x, hq, hx⟩ := hg
    obtain ⟨its, rv, p, hz⟩ := I.list hq
    obtain ⟨u, hu, ru⟩ := rv.get hx
    obtain ⟨⟨old, he⟩, hit⟩ := st
    have heL : e < s.heap.objs.size := Heap.lt_size he
    refine wpAny_pyNext_enum_item he hit p.isList (x := u) (by simpa using hu) hne fun h1 heo hit1 ht1 hz1 hk1 => ⟨_, rfl, ?_⟩
    refine wpAny_letOwnedTupleGo_enum heo fun h2 he2 hs2 => ?_
    replace hs2 : Heap.SameBut e h1 h2 := hs2
    have ht2 : h2.get? s.heap.objs.size = some { cls := .type "tuple", data := .seq #[.int i s.toks, u] } := (hs2.2 _ (Nat.ne_of_gt heL)).trans ht1
    have kk : ∀ b o, b ∉ [e, it] → s.heap.get? b = some o → h2.get? b = some o := fun b o hb q => by
      have h1 : b ≠ e := fun z => hb (by simp [z])
      have h2 : b ≠ it := fun z => hb (by simp [z])
      exact (hs2.2 b h1).trans (hk1 b o h1 h2 q)
    have hn : H s.heap.objs.size = none := I.hok.fresh (Nat.le_refl _)
    have I2 : Inv X pins σ (upd H s.heap.objs.size (.tup [.int i, x])) { s with heap := h2, toks := s.toks + 1 } :=
      I.turnLay kk hf (Nat.le_refl _) ⟨Nat.le_of_ble_eq_true rfl, [.int i s.toks, u], .cons ⟨_, rfl⟩ (.cons ru .nil), ⟨_, ht2, rfl, 0, rfl⟩⟩
    refine ⟨.ref s.heap.objs.size, _, I2, rfl, ⟨_, x, rfl, hn, fun ys hy => by rw [I.list_inj hy hq]; exact hx, rfl⟩, ⟨⟨u, ?_⟩, hit1.extBut hs2.extBut (Ne.symm hne)⟩, fun b hb => ?_⟩
    · have e1 : ((i + 1 : Nat) : Int) = (i : Int) + 1 := by omega
      rw [e1]
      exact he2
    · rw [upd_ne]
      · exact (hf b hb).1
      · have z : b = e ∨ b = it := by simpa using hb
        obtain ⟨oi, hoi, _⟩ := hit
        rcases z with rfl | rfl
        · exact Nat.ne_of_lt heL
        · exact Nat.ne_of_lt (Heap.lt_size hoi)
  done := by
    intro X hP hw hK hc i pins s σ H E I hf st hg
    subst hP hw hK
    obtain ⟨xs, hq, hx⟩ := hg
    obtain ⟨its, rv, p, hz⟩ := I.list hq
    obtain ⟨f0, f1, f2, f3, f4, f5⟩ := hf it (by simp)
    obtain ⟨⟨old, he⟩, hit⟩ := st
    have hl := rv.length
    exact wpAny_pyNext_enum_end (I.ok.hd hc) he hit p.isList (by simp; omega) fun h' eb => ⟨rfl, I.turned (t' := s.toks) (fun b o hb e => eb b o hb e) f0 f1 f3 f4 f5⟩
  self := fun _ _ _ _ _ st h => let ⟨⟨_, e1⟩, _⟩ := st; wpAny_pyIter_enum e1 h
theorem bt_enumerate : bootBuiltins "enumerate" = some (.type "enumerate") := by decide +kernel
section
variable {X : Cx} {es : List Expr} {k1 : Nat} {tp : Pos}
def iEnum (K : PySem.W.Frag) (ta : TA) : TI := fun σ H R => ta σ H fun vs H1 => ∃ a, vs = [.ref a] ∧ (∃ xs, SqL K H1 a xs) ∧ R (Ite K a) H1
theorem pi_enum {a : Expr} {ta : TA} {p pos : Pos} (hg : Gl X "enumerate") (hm : X.mg "enumerate" = none) (ha : PA X [a] ta) (hs : starEach [a] X.env = (false, eval a X.env) :: starEach [] X.env := by rfl) :
    PI X (.Tuple es k1 tp) (.Call (.Name "enumerate" p) [a] [] pos) (iEnum X.K ta) := by
  intro pins s σ H R I h
  refine wpAny_Call_Name_kw (ld_blt I hg hm bt_enumerate ?_)
  refine PyProof.Rows.callWith_type1 (thn (ha pos pins s σ H _ I h) fun us s1 ⟨vs, H1, I1, r1, q1⟩ => ?_) hs (by rfl)
  obtain ⟨l, rfl, ⟨xs, hq⟩, q⟩ := q1
  obtain ⟨u, rfl, ru⟩ := vals1 r1
  cases ru
  obtain ⟨its, rv, pl, hz⟩ := I1.list hq
  refine call_enumerate_list pl.isList fun h' he hit hsz hk => ?_
  refine wpAny_pyIter_enum he ?_
  refine ⟨s1.heap.objs.size + 1, [s1.heap.objs.size + 1, s1.heap.objs.size], _, _, H1, rfl, I1.kept (t' := s1.toks) hk, turn_enum l _ s1.heap.objs.size (Nat.succ_ne_self _), ⟨⟨.none, he⟩, hit⟩, fun b hb => ?_, q⟩
  have z : b = s1.heap.objs.size + 1 ∨ b = s1.heap.objs.size := by simpa using hb
  have hge : s1.heap.objs.size ≤ b := by rcases z with rfl | rfl <;> omega
  exact I1.fpOk hge (I1.hok.fresh hge)
end
theorem for_enum {K : PySem.W.Frag} {a : Addr} {xs : List V} {g : TG} {tb : TS} {D : Ends} {σ : St} {H : Hp} (Pv : Nat → St → Hp → Prop) (h0 : Pv 0 σ H) (hl : ∀ i σ H, i ≤ xs.length → Pv i σ H → SqL K H a xs)
    (hs : ∀ i x t σ H, xs[i]? = some x → Pv i σ H → H t = none → g (.ref t) σ (upd H t (.tup [.int i, x])) fun σ2 H2 => tb { D with nx := Pv (i + 1), ct := Pv (i + 1), bk := D.nx } σ2 H2) (hd : ∀ σ H, Pv xs.length σ H → D.nx σ H) :
    ∃ W : Nat → Nat → St → Hp → Prop, (∃ m, W 0 m σ H) ∧ ∀ i m σ H, W i m σ H →
      ((Ite K a).stop i H ∧ D.nx σ H) ∨ ((Ite K a).go i H ∧ ∃ N : St → Hp → Prop, (∀ σ' H', N σ' H' → ∃ m', m' < m ∧ W (i + 1) m' σ' H') ∧ ∀ x H', (Ite K a).yld i H x H' → g x σ H' fun σ2 H2 => tb { D with nx := N, ct := N, bk := D.nx } σ2 H2) := by
  refine ⟨fun i m σ H => m = xs.length - i ∧ i ≤ xs.length ∧ Pv i σ H, ⟨xs.length, by simp, Nat.zero_le _, h0⟩, ?_⟩
  rintro i m σ H ⟨rfl, hi, p⟩
  have q := hl i σ H hi p
  by_cases hlt : i < xs.length
  · refine .inr ⟨⟨xs, xs[i], q, by simp [hlt]⟩, Pv (i + 1), fun σ' H' p' => ⟨xs.length - (i + 1), by omega, rfl, hlt, p'⟩, fun v H' y => ?_⟩
    obtain ⟨t, x, rfl, hn, hx, rfl⟩ := y
    exact hs i x t σ _ (hx xs q) p hn
  · have e : i = xs.length := by omega
    subst e
    exact .inl ⟨⟨xs, q, Nat.le_refl _⟩, hd σ H p⟩
end L2
namespace L2
open PySem PySem.Spec PyProof.Rows
mutual
inductive Den (K : PySem.W.Frag) (H : Hp) : V → PyData → Prop
  | non : Den K H .non .none
  | bl (b : Bool) : Den K H (.bl b) (.bool b)
  | int (i : Int) : Den K H (.int i) (.int i)
  | str (x : Str) : PyData.canLay0 (.str x) = true → Den K H (.str x) (.str x)
  | lst {a xs ds} : SqL K H a xs → DenL K H xs ds → Den K H (.ref a) (.list ds)
  | tup {a xs ds} : SqT K H a xs → DenL K H xs ds → Den K H (.ref a) (.tuple ds)
inductive DenL (K : PySem.W.Frag) (H : Hp) : List V → List PyData → Prop
  | nil : DenL K H [] []
  | cons {x xs d ds} : Den K H x d → DenL K H xs ds → DenL K H (x :: xs) (d :: ds)
end
section
variable {X : Cx} {pins : List (Addr × Obj)} {σ : St} {H : Hp} {s : Shared}
mutual
theorem den_reads (I : Inv X pins σ H s) : ∀ (d : PyData) (v : V) (u : Value), Den X.K H v d → RelV v u → ∃ as, Reads s.heap u d as
  | .none, v, u, h, r => by cases h; cases r; exact ⟨_, .none⟩
  | .bool b, v, u, h, r => by cases h; cases r; exact ⟨_, .bool b⟩
  | .int i, v, u, h, r => by cases h; obtain ⟨t, rfl⟩ := r; exact ⟨_, .int i t⟩
  | .str x, v, u, h, r => by cases h; obtain ⟨t, rfl⟩ := r; exact ⟨_, .str x t⟩
  | .list ds, v, u, h, r => by
    cases h with
    | lst hq hl =>
      cases r
      obtain ⟨its, rv, ⟨o, n, e, c, _, d⟩, _⟩ := I.list hq
      obtain ⟨as, q⟩ := denL_reads I ds _ _ hl rv
      exact ⟨_, .list e c d (by simpa using q)⟩
  | .tuple ds, v, u, h, r => by
    cases h with
    | tup hq hl =>
      cases r
      obtain ⟨its, rv, ⟨o, e, c, n, d⟩, _⟩ := I.tuple hq
      obtain ⟨as, q⟩ := denL_reads I ds _ _ hl rv
      exact ⟨_, .tuple e c d (by simpa using q)⟩
  | .dict _, v, u, h, r => by cases h
theorem denL_reads (I : Inv X pins σ H s) : ∀ (ds : List PyData) (xs : List V) (us : List Value), DenL X.K H xs ds → Vals xs us → ∃ as, ReadsAll s.heap us ds as
  | [], xs, us, h, r => by cases h; cases r; exact ⟨_, .nil⟩
  | d :: ds, xs, us, h, r => by
    cases h with
    | cons h1 h2 =>
      cases r with
      | cons r1 r2 =>
        obtain ⟨a1, q1⟩ := den_reads I d _ _ h1 r1
        obtain ⟨a2, q2⟩ := denL_reads I ds _ _ h2 r2
        exact ⟨_, .cons q1 q2⟩
end
mutual
theorem den_lay {K : PySem.W.Frag} : ∀ (d : PyData) (v : V), Den K H v d → d.canLay0 = true
  | .none, v, h => rfl
  | .bool b, v, h => rfl
  | .int i, v, h => rfl
  | .str x, v, h => by cases h with | str _ q => exact q
  | .list ds, v, h => by cases h with | lst _ q => exact denL_lay ds _ q
  | .tuple ds, v, h => by cases h with | tup _ q => exact denL_lay ds _ q
  | .dict _, v, h => by cases h
theorem denL_lay {K : PySem.W.Frag} : ∀ (ds : List PyData) (xs : List V), DenL K H xs ds → PyData.canLayAll0 ds = true
  | [], xs, h => rfl
  | d :: ds, xs, h => by
    cases h with
    | cons h1 h2 =>
      show (PyData.canLay0 d && PyData.canLayAll0 ds) = true
      rw [den_lay d _ h1, denL_lay ds _ h2]
      rfl
end
def rEqD (K : PySem.W.Frag) (neg : Bool) : R2 := fun x y H Q => ∃ d e, Den K H x d ∧ Den K H y e ∧ min d.depth e.depth ≤ 64 ∧ Q (.bl (if neg then !PyData.eqv d e else PyData.eqv d e)) H
theorem op_eqD (hu : X.A.units + 64 < cLine) : OpR X (compareOp .Eq) (rEqD X.K false) := by
  intro pins s σ H x y v u Q I rx ry h
  obtain ⟨d, e, hd, he, hz, q⟩ := h
  obtain ⟨as, ra⟩ := den_reads I d _ _ hd rx
  obtain ⟨bs, rb⟩ := den_reads I e _ _ he ry
  exact PySem.SeqAt.eqOverData X.prog X.w X.A X.xe s v u d e as bs _ ra rb (den_lay d _ hd) (den_lay e _ he) (by omega) ⟨.bl _, H, I, rfl, q⟩
theorem op_neD (hu : X.A.units + 64 < cLine) : OpR X (compareOp .NotEq) (rEqD X.K true) := by
  intro pins s σ H x y v u Q I rx ry h
  obtain ⟨d, e, hd, he, hz, q⟩ := h
  obtain ⟨as, ra⟩ := den_reads I d _ _ hd rx
  obtain ⟨bs, rb⟩ := den_reads I e _ _ he ry
  exact PySem.SeqAt.neOverData X.prog X.w X.A X.xe s v u d e as bs _ ra rb (den_lay d _ hd) (den_lay e _ he) (by omega) ⟨.bl _, H, I, rfl, q⟩
end
mutual
def nb : PyData → Bool
  | .none | .int _ | .str _ => true
  | .bool _ | .dict _ => false
  | .list xs | .tuple xs => nbL xs
def nbL : List PyData → Bool
  | [] => true
  | x :: xs => nb x && nbL xs
end
mutual
theorem eqv_iff : ∀ (d e : PyData), nb d = true → nb e = true → (PyData.eqv d e = true ↔ d = e)
  | .none, e, _, h => by cases e <;> first | (simp [PyData.eqv]; done) | cases h
  | .int i, e, _, h => by cases e <;> first | (simp [PyData.eqv]; done) | cases h
  | .str i, e, _, h => by cases e <;> first | (simp [PyData.eqv]; done) | cases h
  | .bool _, _, h, _ => by cases h
  | .dict _, _, h, _ => by cases h
  | .list xs, e, h1, h => by
    cases e with
    | list ys =>
      have q := eqvL_iff xs ys h1 h
      show PyData.eqvAll xs ys = true ↔ _
      rw [q]
      exact ⟨fun z => by rw [z], fun z => PyData.list.inj z⟩
    | none => simp [PyData.eqv]
    | int _ => simp [PyData.eqv]
    | str _ => simp [PyData.eqv]
    | tuple _ => simp [PyData.eqv]
    | bool _ => cases h
    | dict _ => cases h
  | .tuple xs, e, h1, h => by
    cases e with
    | tuple ys =>
      have q := eqvL_iff xs ys h1 h
      show PyData.eqvAll xs ys = true ↔ _
      rw [q]
      exact ⟨fun z => by rw [z], fun z => PyData.tuple.inj z⟩
    | none => simp [PyData.eqv]
    | int _ => simp [PyData.eqv]
    | str _ => simp [PyData.eqv]
    | list _ => simp [PyData.eqv]
    | bool _ => cases h
    | dict _ => cases h
theorem eqvL_iff : ∀ (xs ys : List PyData), nbL xs = true → nbL ys = true → (PyData.eqvAll xs ys = true ↔ xs = ys)
  | [], [], _, _ => by simp [PyData.eqvAll]
  | [], _ :: _, _, _ => by simp [PyData.eqvAll]
  | _ :: _, [], _, _ => by simp [PyData.eqvAll]
  | x :: xs, y :: ys, h1, h2 => by
    have a : nb x = true ∧ nbL xs = true := by
      have : (nb x && nbL xs) = true := h1
      simpa using this
    have b : nb y = true ∧ nbL ys = true := by
      have : (nb y && nbL ys) = true := h2
      simpa using this
    have q1 := eqv_iff x y a.1 b.1
    have q2 := eqvL_iff xs ys a.2 b.2
    show (PyData.eqv x y && PyData.eqvAll xs ys) = true ↔ _
    rw [Bool.and_eq_true, q1, q2]
    simp
end
theorem eqv_refl {d : PyData} (h : nb d = true) : PyData.eqv d d = true := (eqv_iff d d h h).mpr rfl
abbrev dInts (zs : List Int) : PyData := .list (zs.map .int)
end L2
namespace L2
open PySem PySem.Spec PyProof.Rows
section
variable {prog : Program} {w : World} {A : Around} {R : Result → Shared → Prop} {s : Shared}
theorem compLoop_any {elt target iter : Expr} {ifs : List Expr} {scope : Scope} {pos : Pos} {it acc : Value} {env : Env} (I : Nat → Shared → Prop)
    (turn : ∀ n s, I n s → wpAny (model prog w) A (pyNext it) (fun r s1 => match r with
      | none => R (.ok .next) s1
      | some v => wpAny (model prog w) A (letOwnedTupleGo target it v) (fun _ s1' => wpAny (model prog w) A (assign target env v) (fun _ s2 =>
          wpAny (model prog w) A (forIn ifs true fun c r => if r = true then do let ok ← isTrue c env (eval c env); pure (ForInStep.yield ok) else pure (ForInStep.yield r)) (fun ok s3 =>
            if ok = true then wpAny (model prog w) A (eval elt env) (fun x s4 =>
              wpAny (model prog w) A (call (.builtin "list.append") [acc, x]) (fun _ s5 => ∃ m, m < n ∧ I m s5) (fun _ _ => False) s4) (fun _ _ => False) s3
            else ∃ m, m < n ∧ I m s3) (fun _ _ => False) s2) (fun _ _ => False) s1') (fun _ _ => False) s1) (fun _ _ => False) s)
    (n : Nat) (h : I n s) :
    codeAny (model prog w) A (.compLoop (.ListComp elt [⟨target, iter, ifs, 0⟩] scope pos) 0 it acc env) R s := by
  refine codeAny_loop rfl I (fun n s hI => ?_) n h
  show wpAny _ A ((compTurn (.ListComp elt [⟨target, iter, ifs, 0⟩] scope pos) 0 it acc env).onRaise (fun x => do noteFrame x env; theTreesLotGoes x)) _ _ s
  refine wpAny_noted ?_
  rw [compTurn_list]
  refine wpAny_bind (wpAny_standAt (wpAny_bind (wpAny_mono (turn n s hI) (fun r s1 h1 => ?_) fun _ _ h' => False.elim h')))
  cases r with
  | none => exact wpAny_pure h1
  | some v =>
    refine wpAny_bind (wpAny_mono h1 (fun _ s1' h1' => ?_) fun _ _ h' => False.elim h')
    refine wpAny_bind (wpAny_mono h1' (fun _ s2 h2 => wpAny_bind (wpAny_mono h2 (fun ok s3 h3 => ?_) fun _ _ h' => False.elim h')) fun _ _ h' => False.elim h')
    cases ok with
    | false => exact wpAny_pure ⟨rfl, h3⟩
    | true =>
      exact wpAny_bind (wpAny_bind (wpAny_mono h3 (fun x s4 h4 => wpAny_bind (wpAny_mono h4 (fun _ s5 h5 => wpAny_pure (wpAny_pure ⟨rfl, h5⟩)) fun _ _ h' => False.elim h')) fun _ _ h' => False.elim h'))
end
def closeFrom (env : Env) : List (Str × NameKind) → List (Str × Addr) → List (Str × Addr)
  | [], acc => acc
  | (n, k) :: r, acc => if (k == .free) = true then closeFrom env r ((n, (env.cells.lookup n).getD 0) :: acc) else closeFrom env r acc
theorem closeFrom_mem {env : Env} (P : Str → Addr → Prop) : ∀ (names : List (Str × NameKind)) (acc : List (Str × Addr)), (∀ x ∈ names, x.2 = .free → ∃ c, env.cells.lookup x.1 = some c) → (∀ n c, (n, c) ∈ acc → P n c) →
    (∀ n c, env.cells.lookup n = some c → P n c) → ∀ n c, (n, c) ∈ closeFrom env names acc → P n c
  | [], acc, _, ha, _, n, c, h => ha n c h
  | (m, k) :: r, acc, hf, ha, hp, n, c, h => by
    unfold closeFrom at h
    split at h
    · rename_i hk
      refine closeFrom_mem P r _ (fun x hx => hf x (List.mem_cons_of_mem _ hx)) (fun n' c' h' => ?_) hp n c h
      rcases List.mem_cons.mp h' with e | h'
      · obtain ⟨c0, e0⟩ := hf (m, k) List.mem_cons_self (eq_of_beq hk)
        injection e with e1 e2
        subst e1 e2
        rw [e0]
        exact hp _ _ e0
      · exact ha n' c' h'
    · exact closeFrom_mem P r acc (fun x hx => hf x (List.mem_cons_of_mem _ hx)) ha hp n c h
theorem closeFrom_acc {env : Env} : ∀ (names : List (Str × NameKind)) (acc : List (Str × Addr)) (x : Str × Addr), x ∈ acc → x ∈ closeFrom env names acc
  | [], _, _, h => h
  | (m, k) :: r, acc, x, h => by
    unfold closeFrom
    split
    · exact closeFrom_acc r _ x (List.mem_cons_of_mem _ h)
    · exact closeFrom_acc r _ x h
theorem closeFrom_has {env : Env} : ∀ (names : List (Str × NameKind)) (acc : List (Str × Addr)) (x : Str), (x, NameKind.free) ∈ names → ∃ c, (x, c) ∈ closeFrom env names acc
  | [], _, _, h => nomatch h
  | (m, k) :: r, acc, x, h => by
    unfold closeFrom
    rcases List.mem_cons.mp h with e | h
    · injection e with e1 e2
      subst e1 e2
      rw [if_pos (by decide)]
      exact ⟨_, closeFrom_acc r _ _ List.mem_cons_self⟩
    · split
      · exact closeFrom_has r _ x h
      · exact closeFrom_has r _ x h
theorem closureFor_eq {scope : Scope} {env : Env} (hf : ∀ x ∈ scope.names, x.2 = .free → ∃ c, env.cells.lookup x.1 = some c) : closureFor scope env = pure (closeFrom env scope.names []) := by
  have go : ∀ (names : List (Str × NameKind)) (acc : List (Str × Addr)), (∀ x ∈ names, x.2 = .free → ∃ c, env.cells.lookup x.1 = some c) →
      (forIn names acc fun (x : Str × NameKind) (r : List (Str × Addr)) => (match x with
        | (name, kind) => if (kind == NameKind.free) = true then do
            let a ← cellOf env name
            pure (ForInStep.yield ((name, a) :: r))
          else pure (ForInStep.yield r) : Sem (ForInStep (List (Str × Addr))))) = pure (closeFrom env names acc) := by
    intro names
    induction names with
    | nil => intro acc _; rw [List.forIn_nil]; rfl
    | cons x r ih =>
      intro acc hf
      obtain ⟨n, k⟩ := x
      rw [List.forIn_cons]
      unfold closeFrom
      by_cases hk : (k == NameKind.free) = true
      · obtain ⟨c, e⟩ := hf (n, k) List.mem_cons_self (eq_of_beq hk)
        simp only [hk, if_true]
        have e2 : cellOf env n = pure c := by unfold cellOf; rw [e]
        rw [e2, e]
        simp only [pure_bind, Option.getD_some]
        exact ih _ fun x hx => hf x (List.mem_cons_of_mem _ hx)
      · simp only [hk, if_false]
        exact ih _ fun x hx => hf x (List.mem_cons_of_mem _ hx)
  simp only [closureFor]
  have := go scope.names [] hf
  first
    | exact this
    | (simp only [bind_pure]; exact this)
    | (rw [this]; rfl)
theorem cellsFrom_app : ∀ (names : List (Str × NameKind)) (n : Nat) (acc : List (Str × Addr)), cellsFrom n names acc = cellsFrom n names [] ++ acc
  | [], _, _ => rfl
  | (m, k) :: r, n, acc => by
    unfold cellsFrom
    split
    · rw [cellsFrom_app r (n + 1) ((m, n) :: acc), cellsFrom_app r (n + 1) [(m, n)], List.append_assoc]
      rfl
    · exact cellsFrom_app r n acc
theorem cellsFrom_src : ∀ (names : List (Str × NameKind)) (n : Nat) (acc : List (Str × Addr)) (x : Str × Addr), x ∈ cellsFrom n names acc → (x.1, NameKind.cell) ∈ names ∨ x ∈ acc
  | [], _, _, _, h => .inr h
  | (m, k) :: r, n, acc, x, h => by
    unfold cellsFrom at h
    split at h
    · rename_i hk
      rcases cellsFrom_src r _ _ x h with q | q
      · exact .inl (List.mem_cons_of_mem _ q)
      · rcases List.mem_cons.mp q with e | q
        · rw [e, eq_of_beq hk]
          exact .inl List.mem_cons_self
        · exact .inr q
    · rcases cellsFrom_src r _ _ x h with q | q
      · exact .inl (List.mem_cons_of_mem _ q)
      · exact .inr q
theorem lookup_app {α : Type} (x : Str) : ∀ (l r : List (Str × α)), (l ++ r).lookup x = (l.lookup x).or (r.lookup x)
  | [], r => by simp
  | (k, v) :: l, r => by
    rw [List.cons_append, List.lookup_cons, List.lookup_cons]
    cases hb : x == k with
    | true => rfl
    | false => exact lookup_app x l r
theorem lookup_some_of_mem {α : Type} {x : Str} : ∀ {l : List (Str × α)} {c : α}, (x, c) ∈ l → ∃ c', l.lookup x = some c'
  | (k, v) :: l, c, h => by
    rw [List.lookup_cons]
    cases hb : x == k with
    | true => exact ⟨v, rfl⟩
    | false =>
      rcases List.mem_cons.mp h with e | h
      · injection e with e1 e2
        subst e1
        rw [beq_self_eq_true] at hb
        cases hb
      · exact lookup_some_of_mem h
theorem lookup_relabel {scope : Scope} {env : Env} {x : Str} {k : NameKind} (h : (relabel scope env).names.lookup x = some k) : ∃ k0, scope.names.lookup x = some k0 ∧ (k = k0 ∨ (k = .cell ∧ k0 = .free)) := by
  have go : ∀ names : List (Str × NameKind), (names.map fun (n, k) => if (k == NameKind.free && env.scope.kind == .function && env.kindOf n == some .cell) then (n, NameKind.cell) else (n, k)).lookup x = some k →
      ∃ k0, names.lookup x = some k0 ∧ (k = k0 ∨ (k = .cell ∧ k0 = .free)) := by
    intro names
    induction names with
    | nil => intro h; cases h
    | cons y r ih =>
      obtain ⟨n, k1⟩ := y
      intro h
      replace h : List.lookup x ((if (k1 == NameKind.free && env.scope.kind == .function && env.kindOf n == some .cell) = true then (n, NameKind.cell) else (n, k1)) :: (r.map fun (n, k) => if (k == NameKind.free && env.scope.kind == .function && env.kindOf n == some .cell) then (n, NameKind.cell) else (n, k))) = some k := h
      by_cases hc : (k1 == NameKind.free && env.scope.kind == .function && env.kindOf n == some .cell) = true
      · rw [if_pos hc] at h
        rw [List.lookup_cons] at h ⊢
        cases hb : x == n with
        | true =>
          rw [hb] at h
          have e : NameKind.cell = k := Option.some.inj h
          simp only [Bool.and_eq_true] at hc
          exact ⟨k1, rfl, .inr ⟨e.symm, eq_of_beq hc.1.1⟩⟩
        | false => rw [hb] at h; exact ih h
      · rw [if_neg hc] at h
        rw [List.lookup_cons] at h ⊢
        cases hb : x == n with
        | true =>
          rw [hb] at h
          have e : k1 = k := Option.some.inj h
          exact ⟨k1, rfl, .inl e.symm⟩
        | false => rw [hb] at h; exact ih h
  exact go _ h
def blkEnv (scope : Scope) (env : Env) (C : Addr) (cells : List (Str × Addr)) : Env :=
  { scope := relabel scope env, locals := C, globals := env.globals, cells := cells, qual := env.qual, func := none, code := env.code, frame := env.frame, builtins := env.builtins }
def blkCx (X : Cx) (N' : List Str) (scope : Scope) (C : Addr) (cells : List (Str × Addr)) (s₀ : Shared) (H₀ : Hp) (ex : List Addr) : Cx :=
  { X with N := N', s₀ := s₀, H₀ := H₀, env := blkEnv scope X.env C cells, outer := X.stack, stack := X.stack, ex := ex, fn := fun x => scope.names.lookup x == some .cell, pn := [], xe := fun _ _ => False }
def blkSt (ms : List Nat) (k : Nat) (σ : St) : St := ms.foldl (fun σ i => σ.set i none) σ ++ List.replicate k none
theorem unset_len (ms : List Nat) : ∀ σ : St, (ms.foldl (fun σ i => σ.set i none) σ).length = σ.length := by
  induction ms with
  | nil => intro σ; rfl
  | cons m ms ih => intro σ; rw [List.foldl_cons, ih, List.length_set]
theorem unset_get (ms : List Nat) : ∀ (σ : St) (i : Nat) (v : V), (ms.foldl (fun σ i => σ.set i none) σ)[i]? = some (some v) → σ[i]? = some (some v) ∧ i ∉ ms := by
  induction ms with
  | nil => intro σ i v h; exact ⟨h, by simp⟩
  | cons m ms ih =>
    intro σ i v h
    rw [List.foldl_cons] at h
    obtain ⟨h1, h2⟩ := ih _ i v h
    by_cases e : m = i
    · subst e
      rw [List.getElem?_set] at h1
      split at h1
      · split at h1 <;> cases h1
      · exact absurd rfl ‹_›
    · rw [List.getElem?_set_ne e] at h1
      exact ⟨h1, by simp only [List.mem_cons, not_or]; exact ⟨fun z => e z.symm, h2⟩⟩
structure BlkOk (X : Cx) (N' : List Str) (scope : Scope) (ms : List Nat) (k : Nat) : Prop where
  kind : scope.kind = .function
  uniq : ∀ x ∈ scope.names, scope.names.lookup x.1 = some x.2
  free : ∀ x ∈ scope.names, x.2 = .free → X.env.kindOf x.1 = some .cell ∨ X.env.kindOf x.1 = some .free
  len : N'.length = X.N.length + k
  pre : ∀ i : Nat, i < X.N.length → N'[i]? = X.N[i]?
  vis : ∀ i : Nat, i < X.N.length → i ∉ ms → ∀ x k', N'[i]? = some x → scope.names.lookup x = some k' → k' = .local ∨ k' = .cell ∨ k' = .free → k' = .free
section
variable {X : Cx} {pins : List (Addr × Obj)} {σ : St} {H : Hp} {s : Shared}
theorem wp_blkEnv {M : Model} {A : Around} {E : Value → Shared → Prop} {scope : Scope} {globals : Addr} {cl : List (Str × Addr)} {qual : Str} {env : Env} {Q : Env → Shared → Prop}
    (hQ : Q { scope := scope, locals := s.heap.objs.size, globals := globals, cells := cellsFrom (s.heap.objs.size + 1) scope.names cl, qual := qual, func := none, code := env.code, frame := env.frame, builtins := env.builtins }
      { s with heap := pushCells (s.heap.push { cls := .type "dict", data := .dict #[] }) scope.names }) :
    wpAny M A (newFunctionEnv scope globals cl [] qual none .none (some env)) Q E s := by
  simp only [newFunctionEnv, Option.isSome_some, if_true]
  refine wpAny_bind (wpAny_alloc ?_)
  refine wpAny_bind (wpAny_layCells _ (fun name kind cells => by cases hkc : kind == NameKind.cell <;> simp [hkc]) _ _ _ _ ?_)
  rw [show ({ s with heap := s.heap.push { cls := .type "dict", data := .dict #[] } } : Shared).heap.objs.size = s.heap.objs.size + 1 from Heap.size_push ..]
  rw [List.forIn_nil]
  exact wpAny_bind (wpAny_pure (wpAny_pure hQ))
theorem inv_blk {N' : List Str} {scope : Scope} {ms : List Nat} {k : Nat} {ex : List Addr} (I : Inv X pins σ H s) (B : BlkOk X N' scope ms k) (hex : ∀ b ∈ ex, FpOk X pins H b ∧ b < s.heap.objs.size) :
    Inv (blkCx X N' scope s.heap.objs.size (cellsFrom (s.heap.objs.size + 1) scope.names (closeFrom X.env scope.names [])) s H ex) [] (blkSt ms k σ) H
      { s with heap := pushCells (s.heap.push { cls := .type "dict", data := .dict #[] }) scope.names } := by
  have hfree : ∀ x ∈ scope.names, x.2 = .free → ∃ c, X.env.cells.lookup x.1 = some c := fun x hx hk => I.ok.has x.1 (B.free x hx hk)
  have keep : ∀ b o, s.heap.get? b = some o → (pushCells (s.heap.push { cls := .type "dict", data := .dict #[] }) scope.names).get? b = some o := fun b o e => pushCells_keeps _ _ b o (Heap.get?_push_of_some _ e)
  have own := cellsFrom_ok scope.names (s.heap.push { cls := .type "dict", data := .dict #[] }) (s.heap.objs.size + 1) [] ⟨fun _ _ hm => (nomatch hm), List.Pairwise.nil⟩ (by rw [Heap.size_push]; exact Nat.le_refl _)
  rw [Heap.size_push] at own
  have clm : ∀ n c, (n, c) ∈ closeFrom X.env scope.names [] → X.env.cells.lookup n = some c := closeFrom_mem (fun n c => X.env.cells.lookup n = some c) scope.names [] hfree (fun _ _ h => nomatch h) fun _ _ h => h
  have clt : ∀ n (c : Addr), X.env.cells.lookup n = some c → @LT.lt Nat instLTNat c s.heap.objs.size := fun n c e => by obtain ⟨v, q⟩ := I.cell n c e; exact q.lt
  have look : ∀ x c, (cellsFrom (s.heap.objs.size + 1) scope.names (closeFrom X.env scope.names [])).lookup x = some c →
      ((x, c) ∈ cellsFrom (s.heap.objs.size + 1) scope.names [] ∧ s.heap.objs.size + 1 ≤ c) ∨ (X.env.cells.lookup x = some c ∧ @LT.lt Nat instLTNat c s.heap.objs.size) := fun x c e => by
    rw [cellsFrom_app, lookup_app] at e
    cases q : (cellsFrom (s.heap.objs.size + 1) scope.names []).lookup x with
    | some c' =>
      rw [q] at e
      have e' : c' = c := Option.some.inj e
      subst e'
      exact .inl ⟨mem_of_lookup q, (own.empty x c' (mem_of_lookup q)).2⟩
    | none =>
      rw [q] at e
      have e2 := clm x c (mem_of_lookup e)
      exact .inr ⟨e2, clt x c e2⟩
  have hasL : ∀ x, scope.names.lookup x = some .cell ∨ scope.names.lookup x = some .free → ∃ c, (cellsFrom (s.heap.objs.size + 1) scope.names (closeFrom X.env scope.names [])).lookup x = some c := fun x hx => by
    rw [cellsFrom_app, lookup_app]
    cases q : (cellsFrom (s.heap.objs.size + 1) scope.names []).lookup x with
    | some c' => exact ⟨c', rfl⟩
    | none =>
      rcases hx with hx | hx
      · obtain ⟨c, e⟩ := cell_has (n := s.heap.objs.size + 1) hx
        rw [q] at e; cases e
      · obtain ⟨c, hc⟩ := closeFrom_has (env := X.env) scope.names [] x (PySem.mem_of_lookup hx)
        exact lookup_some_of_mem hc
  have Ir := I.lt
  refine ⟨⟨I.ok.mod, B.kind, I.ok.glob, I.ok.blt, Nat.le_refl _, fun x y c hx hy => ?_, fun x hx => ?_, fun x c hf hx => ?_, I.ok.hd, I.ok.frames, .inl rfl, fun b hb => ?_, I.bs, Nat.le_trans I.ok.bsz I.sz, fun b o e hb => ?_, fun b hb hfs => ?_, I.stack, I.stkFree⟩,
    rfl, I.bare, Un.kept keep, ⟨fun _ => none, ?_, fun i x v h1 h2 h3 => ?_⟩, fun x c hx => ?_, ?_, fun x c hx => ?_, fun p hp => absurd (show p ∈ ([] : List (Addr × Obj)) from hp) (by simp), I.hok.kept keep, ?_⟩
  · rcases look x c hx with ⟨m1, l1⟩ | ⟨m1, l1⟩
    · rcases look y c hy with ⟨m2, l2⟩ | ⟨m2, l2⟩
      · exact name_of_addr own.apart m1 m2
      · omega
    · rcases look y c hy with ⟨m2, l2⟩ | ⟨m2, l2⟩
      · omega
      · exact I.ok.inj x y c m1 m2
  · have hx : (relabel scope X.env).names.lookup x = some .cell ∨ (relabel scope X.env).names.lookup x = some .free := hx
    rcases hx with hx | hx
    · obtain ⟨k0, e, z | ⟨_, z⟩⟩ := lookup_relabel hx
      · exact hasL x (.inl (by rw [e, ← z]))
      · exact hasL x (.inr (by rw [e, z]))
    · obtain ⟨k0, e, z | ⟨z, _⟩⟩ := lookup_relabel hx
      · exact hasL x (.inr (by rw [e, ← z]))
      · cases z
  · show s.heap.objs.size ≤ c
    have hf : (scope.names.lookup x == some .cell) = true := hf
    have hf' : scope.names.lookup x = some .cell := eq_of_beq hf
    have hx : (cellsFrom (s.heap.objs.size + 1) scope.names (closeFrom X.env scope.names [])).lookup x = some c := hx
    rw [cellsFrom_app, lookup_app] at hx
    obtain ⟨c', e⟩ := cell_has (n := s.heap.objs.size + 1) hf'
    rw [e] at hx
    have z : c' = c := Option.some.inj hx
    subst z
    exact Nat.le_of_succ_le (own.empty x c' (mem_of_lookup e)).2
  · obtain ⟨_, hlt⟩ := hex b hb
    refine ⟨Nat.ne_of_lt hlt, fun x c hx z => ?_⟩
    subst z
    have hlt' : @LT.lt Nat instLTNat c s.heap.objs.size := hlt
    rcases look x c hx with ⟨_, l1⟩ | ⟨m1, _⟩
    · omega
    · obtain ⟨⟨_, _, _, _, f4, _⟩, _⟩ := hex c hb
      exact f4 x c m1 rfl
  · obtain ⟨⟨_, _, _, f3, _, _⟩, _⟩ := hex b hb
    rcases f3 with z | z
    · exact I.ok.noex b o e z
    · have h1 : @LT.lt Nat instLTNat b X.base.objs.size := Heap.lt_size e
      have h2 := I.ok.bsz
      have h3 : @LE.le Nat instLENat X.s₀.heap.objs.size b := z
      omega
  · obtain ⟨⟨_, f1, f2, _, _, _⟩, _⟩ := hex b hb
    rcases List.mem_cons.mp (I.stkSub b hfs) with z | z
    · exact f1 z
    · exact f2 z
  · exact (Heap.Ns.new s.heap (.type "dict")).keeps (pushCells_keeps _ _)
  · have hi : i < X.N.length := by
      by_cases hi : i < X.N.length
      · exact hi
      · exfalso
        unfold blkSt at h2
        have hl : (ms.foldl (fun σ i => σ.set i none) σ).length = X.N.length := by rw [unset_len, I.len]
        rw [List.getElem?_append_right (by omega), List.getElem?_replicate] at h2
        split at h2 <;> cases h2
    have h2' : (ms.foldl (fun σ i => σ.set i none) σ)[i]? = some (some v) := by
      unfold blkSt at h2
      have hl : (ms.foldl (fun σ i => σ.set i none) σ).length = X.N.length := by rw [unset_len, I.len]
      rw [List.getElem?_append_left (by omega)] at h2
      exact h2
    obtain ⟨h4, h5⟩ := unset_get ms σ i v h2'
    have h1' : N'[i]? = some x := h1
    have hXN : X.N[i]? = some x := by rw [← B.pre i hi]; exact h1'
    have h3 : (relabel scope X.env).names.lookup x = some .local ∨ (relabel scope X.env).names.lookup x = some .cell ∨ (relabel scope X.env).names.lookup x = some .free := h3
    have fr : scope.names.lookup x = some .free := by
      have go : ∀ k', (relabel scope X.env).names.lookup x = some k' → k' = .local ∨ k' = .cell ∨ k' = .free → scope.names.lookup x = some .free := fun k' e hk => by
        obtain ⟨k0, e0, z | ⟨_, z⟩⟩ := lookup_relabel e
        · have := B.vis i hi h5 x k0 h1' e0 (z ▸ hk)
          rw [e0, this]
        · rw [e0, z]
      rcases h3 with h3 | h3 | h3
      · exact go _ h3 (.inl rfl)
      · exact go _ h3 (.inr (.inl rfl))
      · exact go _ h3 (.inr (.inr rfl))
    have hk := B.free (x, .free) (PySem.mem_of_lookup fr) rfl
    obtain ⟨m, hn, hl⟩ := I.loc
    obtain ⟨u, r, l⟩ := hl i x v hXN h4 (.inr hk)
    refine ⟨u, r, .inr ⟨?_, ?_⟩⟩
    · rcases h3 with h3 | h3
      · exfalso
        obtain ⟨k0, e0, z | ⟨z, _⟩⟩ := lookup_relabel h3
        · rw [fr] at e0; cases e0; cases z
        · cases z
      · exact h3
    · rcases l with ⟨hloc, _⟩ | ⟨_, c, hc, hcell⟩
      · rcases hk with hk | hk
        · rw [hk] at hloc; cases hloc
        · rw [hk] at hloc; cases hloc
      · refine ⟨c, ?_, hcell.keeps keep⟩
        obtain ⟨c2, e2⟩ := hasL x (.inr fr)
        have e2' : (cellsFrom (s.heap.objs.size + 1) scope.names (closeFrom X.env scope.names [])).lookup x = some c2 := e2
        rcases look x c2 e2' with ⟨m1, _⟩ | ⟨m1, _⟩
        · exfalso
          rcases cellsFrom_src scope.names _ _ _ m1 with q | q
          · have := B.uniq _ q
            rw [fr] at this
            cases this
          · cases q
        · rw [hc] at m1
          have z : c = c2 := Option.some.inj m1
          rw [z]
          exact e2
  · rcases look x c hx with ⟨m1, _⟩ | ⟨m1, _⟩
    · exact ⟨none, (own.empty x c m1).1⟩
    · obtain ⟨v, q⟩ := I.cell x c m1
      exact ⟨v, q.keeps keep⟩
  · exact I.hok.fresh (Nat.le_refl _)
  · rcases look x c hx with ⟨_, l1⟩ | ⟨m1, _⟩
    · exact I.hok.fresh (by omega)
    · exact I.freeC x c m1
  · show (blkSt ms k σ).length = N'.length
    unfold blkSt
    rw [List.length_append, unset_len, List.length_replicate, I.len, B.len]
end
end L2
namespace L2
open PySem PySem.Spec PyProof.Rows
def tTrue : TT := fun _ H Q => Q true H
def CompW (J : It) (g : TG) (tc : TT) (te : TE) (D : Addr) (Q : VK) (σ0 : St) (H0 : Hp) : Prop := ∃ W : Nat → Nat → St → Hp → Prop, (∃ m, W 0 m σ0 (upd H0 D (.lst []))) ∧
  ∀ i m σ' H2, W i m σ' H2 → (J.stop i H2 ∧ Q (.ref D) H2) ∨ (J.go i H2 ∧ ∀ x H3, J.yld i H2 x H3 → g x σ' H3 fun σ2 H4 => tc σ2 H4 fun b H5 =>
    if b = true then te σ2 H5 fun v H6 => ∃ ys, H6 D = some (.lst ys) ∧ ys.length < sizeLine ∧ ∃ m', m' < m ∧ W (i + 1) m' σ2 (upd H6 D (.lst (ys ++ [v])))
    else ∃ m', m' < m ∧ W (i + 1) m' σ2 H5)
def tComp (wi : TI) (g : TG) (tc : TT) (te : TE) (ms : List Nat) (k : Nat) : TE := fun σ H Q => wi σ H fun J H1 => ∀ D, H1 D = none → CompW J g tc te D Q (blkSt ms k σ) H1
def PTs (X : Cx) (ifs : List Expr) (t : TT) : Prop :=
  ∀ (pins : List (Addr × Obj)) (s : Shared) (σ : St) (H : Hp) (Q : Bool → Hp → Prop), Inv X pins σ H s → t σ H Q →
    wpAny (model X.prog X.w) X.A (forIn ifs true fun c r => if r = true then do let ok ← isTrue c X.env (eval c X.env); pure (ForInStep.yield ok) else pure (ForInStep.yield r)) (TP X pins σ Q) X.xe s
section
variable {X : Cx}
theorem pts_nil : PTs X [] tTrue := fun pins s σ H Q I h => wpAny_tests_nil ⟨H, I, h⟩
theorem comp_core {elt target iter : Expr} {ifs : List Expr} {scope : Scope} {pos : Pos} {p : Pos} {wi : TI} {g : TG} {tc : TT} {te : TE} {N' : List Str} {ms : List Nat} {k : Nat} {use : Option (Value → Sem Unit)}
    {Q : Value → Shared → Prop} {pins : List (Addr × Obj)} {s : Shared} {σ : St} {H : Hp} {Qv : VK} (hcalm : X.calm = true) (hi : PI X target iter wi)
    (B : BlkOk X N' scope ms k) (hg : ∀ C cells s₀ H₀ ex, PG (blkCx X N' scope C cells s₀ H₀ ex) target g) (hc : ∀ C cells s₀ H₀ ex, PTs (blkCx X N' scope C cells s₀ H₀ ex) ifs tc)
    (he : ∀ C cells s₀ H₀ ex, PE (blkCx X N' scope C cells s₀ H₀ ex) elt te) (hs : ∀ x, foldedSetIterable iter X.env x = pure x) (I : Inv X pins σ H s) (hw : tComp wi g tc te ms k σ H Qv)
    (hpost : ∀ (D : Addr) (H' : Hp) (s' : Shared) (C : Addr) (m : Str → Option Value), Inv X pins σ H' s' → s'.heap.Ns C m → H' C = none → C ≠ X.env.locals → X.s₀.heap.objs.size ≤ C →
      (∀ x c, X.env.cells.lookup x = some c → c ≠ C) → (∀ p ∈ X.pn ++ pins, p.1 ≠ C) → Qv (.ref D) H' → compPost (model X.prog X.w) X.A X.xe use Q (.ref D) C (.ok .next) s') :
    wpAny (model X.prog X.w) X.A (comprehension (.ListComp elt [⟨target, iter, ifs, 0⟩] scope pos) scope X.env p (newList []) false (eval iter X.env) use) Q X.xe s := by
  have hfree : ∀ x ∈ scope.names, x.2 = .free → ∃ c, X.env.cells.lookup x.1 = some c := fun x hx hk => I.ok.has x.1 (B.free x hx hk)
  refine wpAny_comprehension_free (use := use) rfl hs (closureFor_eq hfree) B.kind (fun x hx hl => by rw [B.uniq x hx, hl]) ?_
  refine thn (hi pins s σ H _ I hw) fun v s1 h1 => thn h1 fun itv s2 h2 => ?_
  obtain ⟨it, fp, tn, J, H2, rfl, I2, T, st2, f2, h2⟩ := h2
  refine wpAny_newObj_type ?_
  have I3 : Inv X pins σ (upd H2 s2.heap.objs.size (.lst [])) { s2 with heap := s2.heap.push { cls := .type "list", data := .seq ([] : List Value).toArray } } := I2.lnew (t' := s2.toks) .nil (Nat.zero_le _)
  obtain ⟨W, ⟨m0, w0⟩, turn⟩ := h2 s2.heap.objs.size I2.fresh
  have hfp3 : ∀ b ∈ fp, FpOk X pins (upd H2 s2.heap.objs.size (.lst [])) b ∧ b < (s2.heap.push { cls := .type "list", data := .seq ([] : List Value).toArray }).objs.size := fun b hb => by
    obtain ⟨o, e, _⟩ := T.obj _ _ st2 b hb
    have hlt := Heap.lt_size e
    obtain ⟨f0, fr⟩ := f2 b hb
    refine ⟨⟨by rw [upd_ne (Nat.ne_of_lt hlt)]; exact f0, fr⟩, ?_⟩
    rw [Heap.size_push]
    exact Nat.lt_succ_of_lt hlt
  generalize hs3 : ({ s2 with heap := s2.heap.push { cls := .type "list", data := .seq ([] : List Value).toArray } } : Shared) = s3 at I3
  have hh3 : s2.heap.push { cls := .type "list", data := .seq ([] : List Value).toArray } = s3.heap := by rw [← hs3]
  rw [hh3] at hfp3
  refine wp_blkEnv ?_
  have I4 := inv_blk I3 B hfp3
  have st4 : tn 0 (pushCells (s3.heap.push { cls := .type "dict", data := .dict #[] }) scope.names) := T.keep _ _ _ st2 fun b hb o e => pushCells_keeps _ _ b o (Heap.get?_push_of_some _ (by rw [← hh3]; exact Heap.get?_push_of_some _ e))
  have fr4 : ∀ b ∈ fp, upd H2 s2.heap.objs.size (.lst []) b = none := fun b hb => (hfp3 b hb).1.1
  generalize hs4 : ({ s3 with heap := pushCells (s3.heap.push { cls := .type "dict", data := .dict #[] }) scope.names } : Shared) = s4 at I4
  have hh4 : pushCells (s3.heap.push { cls := .type "dict", data := .dict #[] }) scope.names = s4.heap := by rw [← hs4]
  rw [hh4] at st4
  have stat : ∀ {H' : Hp} {pn' : List (Addr × Obj)}, pn' = [] → (∀ b ∈ fp, H' b = none) → ∀ b ∈ fp, FpOk (blkCx X N' scope s3.heap.objs.size (cellsFrom (s3.heap.objs.size + 1) scope.names (closeFrom X.env scope.names [])) s3 (upd H2 s2.heap.objs.size (.lst [])) fp) pn' H' b := fun hp hn b hb => by
    obtain ⟨x1, x2⟩ := I4.ok.exf b hb
    exact ⟨hn b hb, x1, I4.ok.exfs b hb, .inl hb, x2, fun p hp' => by rw [hp] at hp'; exact absurd (show p ∈ ([] : List (Addr × Obj)) from hp') (by simp)⟩
  have loop : ∀ it' : Value, it' = .ref it → codeAny (model X.prog X.w) X.A (.compLoop (.ListComp elt [⟨target, iter, ifs, 0⟩] scope pos) 0 it' (.ref s2.heap.objs.size) (blkEnv scope X.env s3.heap.objs.size (cellsFrom (s3.heap.objs.size + 1) scope.names (closeFrom X.env scope.names []))))
      (compPost (model X.prog X.w) X.A X.xe use Q (.ref s2.heap.objs.size) s3.heap.objs.size) s4 := by
    rintro it' rfl
    refine compLoop_any (fun n s' => ∃ i σ' H', Inv (blkCx X N' scope s3.heap.objs.size (cellsFrom (s3.heap.objs.size + 1) scope.names (closeFrom X.env scope.names [])) s3 (upd H2 s2.heap.objs.size (.lst [])) fp) [] σ' H' s' ∧ tn i s'.heap ∧ (∀ b ∈ fp, H' b = none) ∧ W i n σ' H') ?_ m0 ⟨0, _, _, I4, st4, fr4, w0⟩
    rintro n s5 ⟨i, σ5, H5, I5, st5, fr5, w5⟩
    rcases turn i n σ5 H5 w5 with ⟨stop, q⟩ | ⟨go, step⟩
    · refine thn (T.done (blkCx X N' scope s3.heap.objs.size (cellsFrom (s3.heap.objs.size + 1) scope.names (closeFrom X.env scope.names [])) s3 (upd H2 s2.heap.objs.size (.lst [])) fp) rfl rfl rfl hcalm i [] s5 σ5 H5 (fun _ _ => False) I5 (stat rfl fr5) st5 stop) fun r s6 ⟨hr, I6⟩ => ?_
      subst hr
      have I7 : Inv X pins σ H5 s6 := I3.call' I6.os I6.base I6.hok I6.bare fun b hb => by
        obtain ⟨⟨_, f1, _, f3, f4, f5⟩, _⟩ := hfp3 b hb
        exact ⟨f3, f1, f4, f5⟩
      obtain ⟨m, hn, _⟩ := I6.loc
      have l3 := I3.lt
      refine hpost _ H5 s6 _ m I7 hn I6.free (Nat.ne_of_gt l3) I3.sz (fun x c e z => ?_) (fun p hp z => ?_) q
      · obtain ⟨v, hv⟩ := I3.cell x c e
        have := hv.lt
        rw [z] at this
        exact Nat.lt_irrefl _ this
      · have := Heap.lt_size (I3.pin p hp).1
        rw [z] at this
        exact Nat.lt_irrefl _ this
    · refine thn (T.item (blkCx X N' scope s3.heap.objs.size (cellsFrom (s3.heap.objs.size + 1) scope.names (closeFrom X.env scope.names [])) s3 (upd H2 s2.heap.objs.size (.lst [])) fp) rfl rfl rfl hcalm i [] s5 σ5 H5 (fun _ _ => False) I5 (stat rfl fr5) st5 go) fun r s6 ⟨u, hr, h6⟩ => ?_
      subst hr
      refine thn h6 fun _ s7 ⟨x, H7, I7, r7, y7, st7, fr7⟩ => ?_
      have I7' := I7.pinned (stat rfl fr7) (T.obj _ _ st7)
      refine thn (hg _ _ _ _ _ _ s7 σ5 H7 x u _ I7' r7 (step x H7 y7)) fun _ s8 ⟨σ8, H8, I8, q8⟩ => ?_
      refine thn (hc _ _ _ _ _ _ s8 σ8 H8 _ I8 q8) fun b s9 ⟨H9, I9, q9⟩ => ?_
      have again : ∀ {σ' : St} {H' : Hp} {s' : Shared}, Inv (blkCx X N' scope s3.heap.objs.size (cellsFrom (s3.heap.objs.size + 1) scope.names (closeFrom X.env scope.names [])) s3 (upd H2 s2.heap.objs.size (.lst [])) fp) ([] ++ pinsAt fp s7.heap) σ' H' s' →
          (∃ m', m' < n ∧ W (i + 1) m' σ' H') → ∃ m, m < n ∧ ∃ i σ'' H'', Inv (blkCx X N' scope s3.heap.objs.size (cellsFrom (s3.heap.objs.size + 1) scope.names (closeFrom X.env scope.names [])) s3 (upd H2 s2.heap.objs.size (.lst [])) fp) [] σ'' H'' s' ∧ tn i s'.heap ∧ (∀ b ∈ fp, H'' b = none) ∧ W i m σ'' H'' := fun {σ' H' s'} I' ⟨m', hm, w'⟩ => by
        refine ⟨m', hm, i + 1, σ', H', I'.unpinned, T.keep _ _ _ st7 fun b hb o e => (I'.pin (b, o) (List.mem_append_right _ (List.mem_append_right _ (mem_pinsAt hb e)))).1, fun b hb => ?_, w'⟩
        obtain ⟨o, e, d⟩ := T.obj _ _ st7 b hb
        exact (I'.pin (b, o) (List.mem_append_right _ (List.mem_append_right _ (mem_pinsAt hb e)))).2.1
      cases b with
      | false =>
        rw [if_neg Bool.false_ne_true] at q9 ⊢
        exact again I9 q9
      | true =>
        rw [if_pos rfl] at q9 ⊢
        refine thn (he _ _ _ _ _ _ s9 σ8 H9 _ I9 q9) fun y s10 ⟨vy, H10, I10, r10, ys, hys, hz, q10⟩ => ?_
        refine thn (mt_append _ s10 σ8 H10 (.ref s2.heap.objs.size) [vy] (.ref s2.heap.objs.size) [y] (fun _ H' => H' = upd H10 s2.heap.objs.size (.lst (ys ++ [vy]))) I10 rfl (.cons r10 .nil) ⟨_, ys, vy, rfl, rfl, hys, hz, rfl⟩) fun _ s11 ⟨_, H11, I11, _, e11⟩ => ?_
        subst e11
        exact again I11 q10
  have fin := codeAny_compStart_list (loop _ rfl) (T.self _ 0 s4 _ _ st4 (loop _ rfl))
  exact fin
theorem pe_compG {elt target iter : Expr} {ifs : List Expr} {scope : Scope} {pos : Pos} {wi : TI} {g : TG} {tc : TT} {te : TE} {N' : List Str} {ms : List Nat} {k : Nat} (hcalm : X.calm = true) (hi : PI X target iter wi)
    (B : BlkOk X N' scope ms k) (hg : ∀ C cells s₀ H₀ ex, PG (blkCx X N' scope C cells s₀ H₀ ex) target g) (hc : ∀ C cells s₀ H₀ ex, PTs (blkCx X N' scope C cells s₀ H₀ ex) ifs tc)
    (he : ∀ C cells s₀ H₀ ex, PE (blkCx X N' scope C cells s₀ H₀ ex) elt te) (hs : ∀ x, foldedSetIterable iter X.env x = pure x := by intro _; rfl) :
    PE X (.ListComp elt [⟨target, iter, ifs, 0⟩] scope pos) (tComp wi g tc te ms k) := by
  intro pins s σ H Q I h
  rw [eval_ListComp]
  refine comp_core (use := none) (Qv := Q) hcalm hi B hg hc he hs I h fun D H' s' C m I' hn f0 f1 f3 f4 f5 q => ?_
  exact ⟨m, hn, fun h' sb => ⟨.ref D, H', I'.turned (t' := s'.toks) (fun b o hb e => (sb.2 b hb).trans e) f0 f1 (.inr f3) f4 f5, rfl, q⟩⟩
theorem ps_setC {i : Nat} {x : Str} {px : Pos} {spos : Pos} {elt target iter : Expr} {ifs : List Expr} {scope : Scope} {pos : Pos} {wi : TI} {g : TG} {tc : TT} {te : TE} {N' : List Str} {ms : List Nat} {k : Nat} (hN : X.N.Nodup) (hx : X.N[i]? = some x) (hl : Loc X.env.scope x)
    (hcalm : X.calm = true) (hi : PI X target iter wi) (B : BlkOk X N' scope ms k) (hg : ∀ C cells s₀ H₀ ex, PG (blkCx X N' scope C cells s₀ H₀ ex) target g) (hc : ∀ C cells s₀ H₀ ex, PTs (blkCx X N' scope C cells s₀ H₀ ex) ifs tc)
    (he : ∀ C cells s₀ H₀ ex, PE (blkCx X N' scope C cells s₀ H₀ ex) elt te) (hsw : swapsWith (.ListComp elt [⟨target, iter, ifs, 0⟩] scope pos) (some (.Name x px)) spos.line X.env = pure true := by rfl) (hs : ∀ x, foldedSetIterable iter X.env x = pure x := by intro _; rfl)
    (hf : X.fn x = true ∨ X.env.scope.names.lookup x = some .local := by first | exact .inl rfl | exact .inr rfl | assumption) :
    PS X (.Assign [.Name x px] (.ListComp elt [⟨target, iter, ifs, 0⟩] scope pos) spos) (tAsg (tComp wi g tc te ms k) (gName i)) := by
  intro pins s σ H D I h
  rw [exec_Assign_Name_used _ _ _ _ hsw]
  refine wpAny_bind (wpAny_standAt (wpAny_bind ?_))
  show wpAny _ X.A (do let _ ← comprehension (.ListComp elt [⟨target, iter, ifs, 0⟩] scope pos) scope X.env _ (newList []) false (eval iter X.env) (some (assign (.Name x px) X.env))) _ _ s
  refine wpAny_bind (wpAny_mono (comp_core (use := some (assign (.Name x px) X.env)) (Q := fun _ s' => ∃ σ' H', Inv X pins σ' H' s' ∧ D.nx σ' H') hcalm hi B hg hc he hs I h fun Da H' s' C m I' hn f0 f1 f3 f4 f5 q => ?_)
    (fun _ s' hq => wpAny_pure (wpAny_pure hq)) fun _ _ e => e)
  show wpAny _ X.A (assign (.Name x px) X.env (.ref Da)) _ _ s'
  refine wpAny_assign_Name (store_ok2 I' hN hx hl (v := .ref Da) rfl (fun s'' I'' ⟨b, sb, hb⟩ => ?_) hf)
  have hCb : C ≠ b := by
    rcases hb with z | z
    · rw [z]; exact f1
    · exact fun e => f4 x b z e.symm
  refine ⟨m, hn.sameBut sb hCb, fun h' sb' => ⟨_, H', I''.turned (t' := s''.toks) (fun b o hb e => (sb'.2 b hb).trans e) f0 f1 (.inr f3) f4 f5, q⟩⟩
end
end L2
namespace L2
open PySem PySem.Spec PyProof.Rows
def blkB (N : List Str) (lk : Str → Option NameKind) (N' : List Str) (scope : Scope) (ms : List Nat) (k : Nat) : Bool :=
  scope.kind == .function && (scope.names.all fun x => scope.names.lookup x.1 == some x.2) && (scope.names.all fun x => !(x.2 == .free) || lk x.1 == some .cell || lk x.1 == some .free) &&
  N'.length == N.length + k && (N'.take N.length == N) &&
  (List.range N.length).all fun i => ms.contains i || (match N'[i]? with | none => true | some x => match scope.names.lookup x with | some .local => false | some .cell => false | _ => true)
theorem BlkOk.of {X : Cx} {N' : List Str} {scope : Scope} {ms : List Nat} {k : Nat} (h : blkB X.N X.env.kindOf N' scope ms k = true) : BlkOk X N' scope ms k := by
  unfold blkB at h
  simp only [Bool.and_eq_true] at h
  obtain ⟨⟨⟨⟨⟨h1, h2⟩, h3⟩, h4⟩, h5⟩, h6⟩ := h
  have e5 : N'.take X.N.length = X.N := eq_of_beq h5
  refine ⟨eq_of_beq h1, fun x hx => eq_of_beq (List.all_eq_true.mp h2 x hx), fun x hx hk => ?_, eq_of_beq h4, fun i hi => ?_, fun i hi hm x k' e1 e2 hk => ?_⟩
  · have q := List.all_eq_true.mp h3 x hx
    simp only [Bool.or_eq_true] at q
    rcases q with (q | q) | q
    · rw [hk] at q; cases q
    · exact .inl (eq_of_beq q)
    · exact .inr (eq_of_beq q)
  · have q : (N'.take X.N.length)[i]? = N'[i]? := List.getElem?_take_of_lt hi
    rw [e5] at q
    exact q.symm
  · have q := List.all_eq_true.mp h6 i (List.mem_range.mpr hi)
    rw [Bool.or_eq_true] at q
    rcases q with q | q
    · exact absurd (by simpa using q) hm
    · rw [e1] at q
      rcases hk with rfl | rfl | rfl
      · simp only [e2] at q; cases q
      · simp only [e2] at q; cases q
      · rfl
section
variable {K : PySem.W.Frag} {a : Addr} {xs : List V} {g : TG} {tc : TT} {te : TE} {D : Addr} {σ : St} {H : Hp} {Q : VK}
def CNext (D : Addr) (n i : Nat) (Pv : Nat → List V → St → Hp → Prop) (σ2 : St) : VK := fun v H6 => ∃ ys, H6 D = some (.lst ys) ∧ ys.length < sizeLine ∧ ∃ m', m' < n - i ∧ (m' = n - (i + 1) ∧ i + 1 ≤ n ∧ ∃ ys', Pv (i + 1) ys' σ2 (upd H6 D (.lst (ys ++ [v]))))
def CSkip (n i : Nat) (Pv : Nat → List V → St → Hp → Prop) (σ2 : St) (H5 : Hp) : Prop := ∃ m', m' < n - i ∧ (m' = n - (i + 1) ∧ i + 1 ≤ n ∧ ∃ ys', Pv (i + 1) ys' σ2 H5)
theorem cnext {n i : Nat} {Pv : Nat → List V → St → Hp → Prop} {σ2 : St} {v : V} {H6 : Hp} {ys : List V} (hi : i < n) (h : H6 D = some (.lst ys)) (hz : ys.length ≤ 100000) (p : Pv (i + 1) (ys ++ [v]) σ2 (upd H6 D (.lst (ys ++ [v])))) : CNext D n i Pv σ2 v H6 :=
  ⟨ys, h, smallLt hz, n - (i + 1), by omega, rfl, hi, _, p⟩
theorem comp_list (Pv : Nat → List V → St → Hp → Prop) (h0 : Pv 0 [] σ (upd H D (.lst []))) (hl : ∀ i ys σ H, i ≤ xs.length → Pv i ys σ H → SqL K H a xs)
    (hs : ∀ i x ys σ H, xs[i]? = some x → i < xs.length → Pv i ys σ H → g x σ H fun σ2 H4 => tc σ2 H4 fun b H5 => if b = true then te σ2 H5 (CNext D xs.length i Pv σ2) else CSkip xs.length i Pv σ2 H5)
    (hd : ∀ ys σ H, Pv xs.length ys σ H → Q (.ref D) H) :
    CompW (Itl K a) g tc te D Q σ H := by
  refine ⟨fun i m σ H => m = xs.length - i ∧ i ≤ xs.length ∧ ∃ ys, Pv i ys σ H, ⟨xs.length, by simp, Nat.zero_le _, [], h0⟩, ?_⟩
  rintro i m σ H ⟨rfl, hi, ys, p⟩
  have q := hl i ys σ H hi p
  by_cases hlt : i < xs.length
  · refine .inr ⟨⟨xs, xs[i], q, by simp [hlt]⟩, fun x H' y => ?_⟩
    obtain ⟨e, y⟩ := y
    subst e
    exact hs i x ys σ _ (y xs q) hlt p
  · have e : i = xs.length := by omega
    subst e
    exact .inl ⟨⟨xs, q, Nat.le_refl _⟩, hd ys σ H p⟩
end
end L2
namespace Sr
open PySem PyProof.Rows
def Tells (prog : Program) (w : World) (A : Around) (s : Shared) (κ : KeyKind) (kd : SortKind) : Prop :=
  ∀ (E : Value → Shared → Prop) (x y : Value) (a b : κ.α) (Q : Bool → Shared → Prop), κ.keyOf x = some a → κ.keyOf y = some b → Q (κ.blt a b) s → wpAny (model prog w) A (keyLt' kd x y) Q E s
structure Stays (kd : SortKind) (o : Array Keyed) (st : SortSt) : Prop where
  pm : (arrOf st).Perm o
  kn : kindOf st = kd
  fl : failedOf st = none
  pn : pendingOf st = #[]
section
variable {prog : Program} {w : World} {A : Around} {E : Value → Shared → Prop} {s : Shared} {o : Array Keyed} {κ : KeyKind} {kd : SortKind} {st : SortSt}
theorem Stays.sz (h : Stays kd o st) : (arrOf st).size = o.size := h.pm.size_eq
theorem Stays.put (h : Stays kd o st) {xs : Array Keyed} (p : xs.Perm (arrOf st)) : Stays kd o (setArr st xs) := ⟨p.trans h.pm, h.kn, h.fl, h.pn⟩
theorem less_at (T : Tells prog w A s κ kd) (h0 : KeysOf κ o) (S : Stays kd o st) {i j : Nat} {Q : Option Bool → SortSt → Prop} (hi : i < o.size) (hj : j < o.size)
    (q : Q (some (κ.blt (KK κ (arrOf st) i) (KK κ (arrOf st) j))) st) : wpS (model prog w) A E s (ltAt' i j) Q st := by
  have key : ∀ {k : Nat}, k < o.size → ∃ v p a, (arrOf st)[k]? = some (v, p) ∧ κ.keyOf v = some a ∧ KK κ (arrOf st) k = a := fun {k} hk => by
    have hk' : k < (arrOf st).size := S.sz ▸ hk
    have hin : (arrOf st)[k] ∈ o.toList := (Array.perm_iff_toList_perm.mp S.pm).mem_iff.mp (by simp)
    obtain ⟨a, ea⟩ := h0 _ hin
    have e := getElem?_pos (arrOf st) k hk'
    exact ⟨_, _, a, e, ea, by simp only [KK, e, ea, Option.getD_some]⟩
  obtain ⟨x, p, a, e1, k1, r1⟩ := key hi
  obtain ⟨y, p', b, e2, k2, r2⟩ := key hj
  rw [r1, r2] at q
  rw [ltAt'_eq]
  refine wpS_bind (wpS_get ?_)
  show wpS _ _ _ _ (elem' (arrOf st) i >>= fun u => elem' (arrOf st) j >>= fun v => lt' u v) Q st
  rw [elem'_eq, elem'_eq, e1, e2]
  refine wpS_bind (wpS_pure (wpS_bind (wpS_pure ?_)))
  rw [lt'_eq]
  refine wpS_bind (wpS_get ?_)
  rw [S.kn]
  exact wpS_bind (wpS_lift (wpAny_attempt (T _ x y a b _ k1 k2 ⟨rfl, wpS_pure q⟩)))
theorem up_one {xs : Array Keyed} {x : Nat} (h : SortedToK κ xs x) (hx : x = 0 ∨ κ.kle (KK κ xs (x - 1)) (KK κ xs x)) : SortedToK κ xs (x + 1) := fun i j hij hj => by
  rcases Nat.lt_or_ge j x with hjx | hjx
  · exact h i j hij hjx
  obtain rfl : j = x := by omega
  rcases Nat.lt_or_ge i j with hi | hi
  · rcases hx with z | z
    · omega
    · exact KeyOrd.kle_trans (h i (j - 1) (by omega) (by omega)) z
  · obtain rfl : i = j := by omega
    exact KeyOrd.kle_refl _
theorem down_one {xs : Array Keyed} {x : Nat} (h : NonIncK κ xs x) (hx : x = 0 ∨ κ.kle (KK κ xs x) (KK κ xs (x - 1))) : NonIncK κ xs (x + 1) := fun i j hij hj => by
  rcases Nat.lt_or_ge j x with hjx | hjx
  · exact h i j hij hjx
  obtain rfl : j = x := by omega
  rcases Nat.lt_or_ge i j with hi | hi
  · rcases hx with z | z
    · omega
    · exact KeyOrd.kle_trans z (h i (j - 1) (by omega) (by omega))
  · obtain rfl : i = j := by omega
    exact KeyOrd.kle_refl _
theorem up_1 {xs : Array Keyed} : SortedToK κ xs 1 := up_one (fun _ _ _ hj => absurd hj (Nat.not_lt_zero _)) (.inl rfl)
theorem rise (T : Tells prog w A s κ kd) (h0 : KeysOf κ o) (S : Stays kd o st) {b n : Nat} {Q : AscSt → SortSt → Prop} (hn : n ≤ o.size) (hb : 1 ≤ b) (hbn : b ≤ n) (hs : SortedToK κ (arrOf st) b)
    (q : ∀ m, b ≤ m → m ≤ n → SortedToK κ (arrOf st) m → (m = n ∨ κ.klt (KK κ (arrOf st) m) (KK κ (arrOf st) (m - 1))) → Q (none, m) st) : wpS (model prog w) A E s (ascLoop b n) Q st := by
  unfold ascLoop
  refine wpS_forRange (I := fun m c u => u = st ∧ c = (none, m) ∧ SortedToK κ (arrOf st) m) (fun m c u hbm hmn hI => ?_) (fun c u hI => ?_) ⟨rfl, rfl, hs⟩
  · obtain ⟨rfl, rfl, up⟩ := hI
    refine wpS_bind (less_at T h0 S (i := m) (j := m - 1) (by omega) (by omega) ?_)
    cases lt : κ.blt (KK κ (arrOf u) m) (KK κ (arrOf u) (m - 1)) with
    | true => exact wpS_pure (q m hbm (by omega) up (.inr lt))
    | false => exact wpS_pure ⟨rfl, rfl, up_one up (.inr lt)⟩
  · obtain ⟨rfl, rfl, up⟩ := hI
    have e : max b n = n := by omega
    rw [e] at up ⊢
    exact q n hbn (Nat.le_refl _) up (.inl rfl)
theorem last3 (T : Tells prog w A s κ kd) (h0 : KeysOf κ o) (S : Stays kd o st) {b n : Nat} {Q : Option Nat → SortSt → Prop} (hn : n ≤ o.size) (hb : 1 ≤ b) (hbn : b ≤ n) (hs : NonIncK κ (arrOf st) b)
    (q : ∀ m u, Stays kd o u → 1 ≤ m → m ≤ n → SortedToK κ (arrOf u) m → Q (some m) u) : wpS (model prog w) A E s (tail3 b n) Q st := by
  have z : b ≤ (arrOf st).size := by rw [S.sz]; omega
  have S' : Stays kd o (setArr st (mirror (arrOf st) 0 b ((b - 0) / 2))) := S.put (mirror_perm ..)
  unfold tail3
  refine wpS_bind (wpS_reverse (wpS_bind (rise T h0 S' hn hb hbn (fun i j hij hj => ?_) fun m h1 h2 up _ => wpS_pure (q m _ S' (by omega) h2 up))))
  show κ.kle (KK κ (mirror (arrOf st) 0 b ((b - 0) / 2)) i) (KK κ (mirror (arrOf st) 0 b _) j)
  rw [KK_mirror z i, KK_mirror z j, if_pos ⟨Nat.zero_le _, by omega⟩, if_pos ⟨Nat.zero_le _, by omega⟩]
  exact hs _ _ (by omega) (by omega)
theorem fall (T : Tells prog w A s κ kd) (h0 : KeysOf κ o) (S : Stays kd o st) {b n : Nat} {Q : DescSt → SortSt → Prop} (hn : n ≤ o.size) (hb : 1 ≤ b) (hbn : b ≤ n) (hs : NonIncK κ (arrOf st) b)
    (q : ∀ m e u, Stays kd o u → b ≤ m → m ≤ n → NonIncK κ (arrOf u) m → e + 1 ≤ m → (∀ i, m - (e + 1) ≤ i → i < m → KK κ (arrOf u) i = KK κ (arrOf u) (m - 1)) → Q (none, m, e) u) :
    wpS (model prog w) A E s (descLoop b n) Q st := by
  unfold descLoop
  refine wpS_forRange (I := fun m c u => ∃ e, c = (none, m, e) ∧ Stays kd o u ∧ NonIncK κ (arrOf u) m ∧ e + 1 ≤ m ∧ ∀ i, m - (e + 1) ≤ i → i < m → KK κ (arrOf u) i = KK κ (arrOf u) (m - 1))
    (fun m c u hbm hmn hI => ?_) (fun c u hI => ?_) ⟨0, rfl, S, hs, hb, fun i h1 h2 => congrArg _ (by omega)⟩
  · obtain ⟨e, rfl, S', dn, he, al⟩ := hI
    have z : m ≤ (arrOf u).size := by rw [S'.sz]; omega
    refine wpS_bind (less_at T h0 S' (i := m) (j := m - 1) (by omega) (by omega) ?_)
    cases lt : κ.blt (KK κ (arrOf u) m) (KK κ (arrOf u) (m - 1)) with
    | true =>
      have dn' := down_one dn (.inr (KeyOrd.kle_of_klt lt))
      show wpS _ _ _ _ (if e > 0 then _ else _) _ u
      by_cases h : e > 0
      · rw [if_pos h]
        refine wpS_bind (wpS_reverse (wpS_pure ⟨0, rfl, S'.put (mirror_perm ..), fun i j hij hj => ?_, Nat.succ_le_succ (Nat.zero_le _), fun i h1 h2 => congrArg _ (by omega)⟩))
        show κ.kle (KK κ (mirror _ _ _ _) j) (KK κ (mirror _ _ _ _) i)
        rw [KK_mirror_equal z al i, KK_mirror_equal z al j]
        exact dn' i j hij hj
      · rw [if_neg h]
        exact wpS_pure ⟨0, rfl, S', dn', Nat.succ_le_succ (Nat.zero_le _), fun i h1 h2 => congrArg _ (by omega)⟩
    | false =>
      refine wpS_bind (less_at T h0 S' (i := m - 1) (j := m) (by omega) (by omega) ?_)
      cases gt : κ.blt (KK κ (arrOf u) (m - 1)) (KK κ (arrOf u) m) with
      | true => exact wpS_pure (q m e u S' hbm (by omega) dn he al)
      | false =>
        have same : KK κ (arrOf u) m = KK κ (arrOf u) (m - 1) := KeyOrd.kle_antisymm gt lt
        refine wpS_pure ⟨e + 1, rfl, S', down_one dn (.inr (same ▸ KeyOrd.kle_refl _)), by omega, fun i h1 h2 => ?_⟩
        show KK κ (arrOf u) i = KK κ (arrOf u) m
        rcases Nat.lt_or_ge i m with h | h
        · rw [same]
          exact al i (by omega) h
        · rw [show i = m by omega]
  · obtain ⟨e, rfl, S', dn, he, al⟩ := hI
    have ez : max b n = n := by omega
    rw [ez] at dn he al ⊢
    exact q n e u S' hbn (Nat.le_refl _) dn he al
theorem fallen (T : Tells prog w A s κ kd) (h0 : KeysOf κ o) (S : Stays kd o st) {b n : Nat} {Q : Option Nat → SortSt → Prop} (hn : n ≤ o.size) (hbn : b + 1 ≤ n) (hs : NonIncK κ (arrOf st) (b + 1))
    (q : ∀ m u, Stays kd o u → 1 ≤ m → m ≤ n → SortedToK κ (arrOf u) m → Q (some m) u) : wpS (model prog w) A E s (descPart b n) Q st := by
  unfold descPart
  refine wpS_bind (wpS_lift (wpAny_rule ⟨rfl, wpS_bind (fall T h0 S hn (Nat.succ_le_succ (Nat.zero_le _)) hbn hs fun m e u S' h1 h2 dn he al => ?_)⟩))
  have z : m ≤ (arrOf u).size := by rw [S'.sz]; omega
  show wpS _ _ _ _ (if e > 0 then _ else _) _ u
  by_cases h : e > 0
  · rw [if_pos h]
    refine wpS_bind (wpS_reverse (last3 (b := m) T h0 (S'.put (mirror_perm ..)) hn (by omega) h2 (fun i j hij hj => ?_) q))
    show κ.kle (KK κ (mirror _ _ _ _) j) (KK κ (mirror _ _ _ _) i)
    rw [KK_mirror_equal z al i, KK_mirror_equal z al j]
    exact dn i j hij hj
  · rw [if_neg h]
    exact last3 (b := m) T h0 S' hn (by omega) h2 dn q
theorem run_of (T : Tells prog w A s κ kd) (h0 : KeysOf κ o) (S : Stays kd o st) {n : Nat} {Q : Option Nat → SortSt → Prop} (hn : n ≤ o.size) (h1 : 1 ≤ n)
    (q : ∀ m u, Stays kd o u → 1 ≤ m → m ≤ n → SortedToK κ (arrOf u) m → Q (some m) u) : wpS (model prog w) A E s (countRun' 0 n) Q st := by
  rw [countRun0_eq]
  refine wpS_bind (rise T h0 S hn (Nat.le_refl 1) h1 up_1 fun m hm1 hm2 up hor => ?_)
  show wpS _ _ _ _ (if (m == n) = true then _ else _) _ st
  by_cases e : m = n
  · rw [if_pos (beq_iff_eq.mpr e)]
    exact wpS_pure (q m st S hm1 hm2 up)
  rw [if_neg fun z => e (beq_iff_eq.mp z)]
  have dip := hor.resolve_left e
  by_cases h : m > 1
  · rw [if_pos h]
    refine wpS_bind (less_at T h0 S (i := 0) (j := m - 1) (by omega) (by omega) ?_)
    cases rose : κ.blt (KK κ (arrOf st) 0) (KK κ (arrOf st) (m - 1)) with
    | true => exact wpS_pure (q m st S hm1 hm2 up)
    | false =>
      have z : m ≤ (arrOf st).size := by rw [S.sz]; omega
      have al : ∀ k, 0 ≤ k → k < m → KK κ (arrOf st) k = KK κ (arrOf st) (m - 1) := fun k _ hk =>
        KeyOrd.kle_antisymm (up k (m - 1) (by omega) (by omega)) (KeyOrd.kle_trans rose (up 0 k (Nat.zero_le _) hk))
      have dn : NonIncK κ (arrOf st) (m + 1) := down_one (fun i j hij hj => by rw [al i (Nat.zero_le _) (by omega), al j (Nat.zero_le _) hj]; exact KeyOrd.kle_refl _) (.inr (KeyOrd.kle_of_klt dip))
      refine wpS_bind (wpS_reverse (fallen T h0 (S.put (mirror_perm ..)) hn (by omega) (fun i j hij hj => ?_) q))
      show κ.kle (KK κ (mirror _ _ _ _) j) (KK κ (mirror _ _ _ _) i)
      rw [KK_mirror_equal z al i, KK_mirror_equal z al j]
      exact dn i j hij hj
  · rw [if_neg h]
    obtain rfl : m = 1 := by omega
    exact fallen T h0 S hn (by omega) (down_one (fun i j hij hj => by rw [show i = j by omega]; exact KeyOrd.kle_refl _) (.inr (KeyOrd.kle_of_klt dip))) q
theorem put_in (T : Tells prog w A s κ kd) (h0 : KeysOf κ o) (S : Stays kd o st) {n ok : Nat} {Q : Bool → SortSt → Prop} (hn : n ≤ o.size) (hok : ok ≤ n) (h1 : 1 ≤ ok) (hs : SortedToK κ (arrOf st) ok)
    (q : ∀ u, Stays kd o u → SortedToK κ (arrOf u) n → Q true u) : wpS (model prog w) A E s (binarySort' 0 n ok) Q st := by
  rw [binarySort'_eq]
  simp only [Nat.zero_add]
  have em : max ok 1 = ok := by omega
  rw [em]
  refine wpS_bind (wpS_mono (wpS_forRange (I := fun k c u => c = (none, ()) ∧ Stays kd o u ∧ SortedToK κ (arrOf u) k) (Q := fun c u => c = (none, ()) ∧ Stays kd o u ∧ SortedToK κ (arrOf u) n)
    (fun k c u hk1 hk2 hI => ?_) (fun c u hI => ?_) ⟨rfl, S, hs⟩) fun c u hI => ?_)
  · obtain ⟨rfl, S', up⟩ := hI
    have hk : k < o.size := by omega
    refine wpS_bind (wpS_mono (wpS_forRange (I := fun t c v => v = u ∧ ∃ l r, c = (none, l, r) ∧ l ≤ r ∧ r ≤ k ∧ r - l ≤ k - t ∧ (∀ i, i < l → κ.kle (KK κ (arrOf u) i) (KK κ (arrOf u) k)) ∧ ∀ i, r ≤ i → i < k → κ.klt (KK κ (arrOf u) k) (KK κ (arrOf u) i))
      (Q := fun c v => v = u ∧ ∃ l, c = (none, l, l) ∧ l ≤ k ∧ (∀ i, i < l → κ.kle (KK κ (arrOf u) i) (KK κ (arrOf u) k)) ∧ ∀ i, l ≤ i → i < k → κ.klt (KK κ (arrOf u) k) (KK κ (arrOf u) i))
      (fun t c v _ ht hJ => ?_) (fun c v hJ => ?_) ⟨rfl, 0, k, rfl, Nat.zero_le _, Nat.le_refl _, Nat.le_refl _, (fun i hi => absurd hi (Nat.not_lt_zero _)), fun i h1 h2 => absurd h2 (by omega)⟩) fun c v hJ => ?_)
    · obtain ⟨rfl, l, r, rfl, hlr, hrk, hm, lo, hi⟩ := hJ
      show wpS _ _ _ _ (if l ≥ r then _ else _) _ v
      by_cases h : l ≥ r
      · rw [if_pos h]
        obtain rfl : l = r := by omega
        exact wpS_pure ⟨rfl, l, rfl, hrk, lo, hi⟩
      · rw [if_neg h]
        refine wpS_bind (less_at T h0 S' (i := k) (j := (l + r) / 2) hk (by omega) ?_)
        cases lt : κ.blt (KK κ (arrOf v) k) (KK κ (arrOf v) ((l + r) / 2)) with
        | true => exact wpS_pure ⟨rfl, l, (l + r) / 2, rfl, by omega, by omega, by omega, lo, fun i a1 a2 => KeyOrd.klt_of_klt_of_kle lt (up _ _ a1 a2)⟩
        | false => exact wpS_pure ⟨rfl, (l + r) / 2 + 1, r, rfl, by omega, by omega, by omega, fun i a1 => KeyOrd.kle_trans (up i ((l + r) / 2) (by omega) (by omega)) lt, hi⟩
    · obtain ⟨rfl, l, r, rfl, hlr, hrk, hm, lo, hi⟩ := hJ
      have e0 : max 0 k = k := by omega
      rw [e0] at hm
      obtain rfl : l = r := by omega
      exact ⟨rfl, l, rfl, hrk, lo, hi⟩
    · obtain ⟨rfl, l, rfl, hlk, lo, hi⟩ := hJ
      have hks : k < (arrOf v).size := S'.sz ▸ hk
      show wpS _ _ _ _ (moveDown' k l >>= fun _ => pure (ForInStep.yield (none, ()))) _ v
      rw [moveDown'_eq]
      refine wpS_bind (wpS_modify (wpS_pure ⟨rfl, S'.put (bubble_perm ..), fun i j hij hj => ?_⟩))
      have el : k - (k - l) = l := by omega
      show κ.kle (KK κ (bubble (arrOf v) k (k - l)) i) (KK κ (bubble (arrOf v) k _) j)
      rw [KK_bubble hks (Nat.sub_le _ _) i, KK_bubble hks (Nat.sub_le _ _) j, el]
      by_cases a1 : i = l <;> by_cases a2 : j = l <;> by_cases a3 : l < i ∧ i ≤ k <;> by_cases a4 : l < j ∧ j ≤ k <;>
        simp only [a1, a2, a3, a4, if_true, if_false] <;> first
        | (exfalso; omega)
        | exact KeyOrd.kle_refl _
        | exact lo _ (by omega)
        | exact KeyOrd.kle_of_klt (hi _ (by omega) (by omega))
        | exact up _ _ (by omega) (by omega)
  · obtain ⟨rfl, S', up⟩ := hI
    have e : max ok n = n := by omega
    rw [e] at up
    exact ⟨rfl, S', up⟩
  · obtain ⟨rfl, S', up⟩ := hI
    exact wpS_pure (q u S' up)
theorem sort_runs (T : Tells prog w A s κ kd) (h0 : KeysOf κ o) (S : Stays kd o st) {Q : Unit → SortSt → Prop} (h2 : 2 ≤ o.size) (h64 : o.size < 64)
    (q : ∀ u, (arrOf u).Perm o → failedOf u = none → SortedToK κ (arrOf u) o.size → Q () u) : wpS (model prog w) A E s sortRuns' Q st := by
  have hm : minRun' o.size o.size 0 = o.size := by
    cases e : o.size with
    | zero => omega
    | succ f => rw [minRun'_succ, if_pos (by omega), Nat.add_zero]
  rw [sortRuns'_eq]
  refine wpS_bind (wpS_get ?_)
  simp only [S.sz, hm]
  have fin : ∀ u, Stays kd o u → SortedToK κ (arrOf u) o.size → (arrOf (setPending u ((pendingOf u).push (0, o.size, 0)))).Perm o ∧ failedOf (setPending u ((pendingOf u).push (0, o.size, 0))) = none ∧
      pendingOf (setPending u ((pendingOf u).push (0, o.size, 0))) = #[(0, o.size, 0)] ∧ SortedToK κ (arrOf (setPending u ((pendingOf u).push (0, o.size, 0)))) o.size := fun u S' up =>
    ⟨S'.pm, S'.fl, by show (pendingOf u).push (0, o.size, 0) = _; rw [S'.pn]; rfl, up⟩
  refine wpS_bind (wpS_mono (wpS_forRange
    (I := fun t c u => (t = 0 ∧ c = (none, 0) ∧ Stays kd o u) ∨ (1 ≤ t ∧ c = (none, o.size) ∧ (arrOf u).Perm o ∧ failedOf u = none ∧ pendingOf u = #[(0, o.size, 0)] ∧ SortedToK κ (arrOf u) o.size))
    (Q := fun c u => c = (none, o.size) ∧ (arrOf u).Perm o ∧ failedOf u = none ∧ pendingOf u = #[(0, o.size, 0)] ∧ SortedToK κ (arrOf u) o.size) (fun t c u _ ht hI => ?_) (fun c u hI => ?_) (.inl ⟨rfl, rfl, S⟩)) fun c u hI => ?_)
  · rcases hI with ⟨rfl, rfl, S'⟩ | ⟨h1, rfl, hD⟩
    · show wpS _ _ _ _ (if 0 ≥ o.size then _ else _) _ u
      rw [if_neg (by omega)]
      simp only [Nat.sub_zero, Nat.min_self, Nat.zero_add]
      refine wpS_bind (run_of T h0 S' (Nat.le_refl _) (by omega) fun m v S2 a1 a2 up => ?_)
      by_cases lt : m < o.size
      · simp only [lt, if_true]
        refine wpS_bind (wpS_lift (wpAny_rule ⟨rfl, wpS_bind (put_in T h0 S2 (Nat.le_refl _) a2 a1 up fun v' S3 up' => ?_)⟩))
        simp only [Bool.not_true, Bool.false_eq_true, if_false]
        refine wpS_bind (wpS_get ?_)
        have hb : (pendingOf v').back? = none := S3.pn ▸ rfl
        rw [hb]
        exact wpS_bind (wpS_modify (wpS_pure (.inr ⟨Nat.le_refl _, rfl, fin v' S3 up'⟩)))
      · simp only [lt, if_false]
        obtain rfl : m = o.size := by omega
        refine wpS_bind (wpS_get ?_)
        have hb : (pendingOf v).back? = none := S2.pn ▸ rfl
        rw [hb]
        exact wpS_bind (wpS_modify (wpS_pure (.inr ⟨Nat.le_refl _, rfl, fin v S2 up⟩)))
    · show wpS _ _ _ _ (if o.size ≥ o.size then _ else _) _ u
      rw [if_pos (Nat.le_refl _)]
      exact wpS_pure ⟨rfl, hD⟩
  · rcases hI with ⟨z, _, _⟩ | ⟨_, e, hD⟩
    · omega
    · exact ⟨e, hD⟩
  · obtain ⟨rfl, p1, p2, p3, p4⟩ := hI
    refine wpS_bind (wpS_mono (wpS_forRange (I := fun _ c v => v = u ∧ c = (none, ())) (Q := fun c v => v = u ∧ c = (none, ())) (fun t c v _ _ hJ => ?_) (fun _ _ hJ => hJ) ⟨rfl, rfl⟩) fun c v hJ => ?_)
    · obtain ⟨rfl, rfl⟩ := hJ
      refine wpS_bind (wpS_get ?_)
      rw [if_pos (by rw [p3]; exact Nat.le_refl 1)]
      exact wpS_pure ⟨rfl, rfl⟩
    · obtain ⟨rfl, rfl⟩ := hJ
      exact wpS_pure (q _ p1 p2 p4)
end
end Sr
namespace Sr
open PySem PyProof.Rows
def intsV : List Value → Option (List Int)
  | [] => some []
  | .int n _ :: r => (intsV r).map (n :: ·)
  | _ :: _ => none
theorem intsV_of : ∀ {vs : List Value} {ns : List Int}, IntsAre vs ns → intsV vs = some ns
  | _, _, .nil => rfl
  | _, _, .cons n t h => by
    show (intsV _).map (n :: ·) = _
    rw [intsV_of h]
    rfl
theorem of_intsV : ∀ {vs : List Value} {ns : List Int}, intsV vs = some ns → IntsAre vs ns
  | [], ns, h => by cases h; exact .nil
  | v :: r, ns, h => by
    cases v with
    | int n t =>
      have h' : (intsV r).map (n :: ·) = some ns := h
      cases e : intsV r with
      | none => rw [e] at h'; cases h'
      | some ms =>
        rw [e] at h'
        cases h'
        exact .cons n t (of_intsV e)
    | _ => cases h
def tupK (h : Heap) : Value → Option (List Int)
  | .ref a => match h.get? a with
    | some o => match o.data with
      | .seq its _ => intsV its.toList
      | _ => none
    | none => none
  | _ => none
theorem tupK_of {h : Heap} {a : Addr} {its : Array Value} {ns : List Int} (t : IsTup h a its) (i : IntsAre its.toList ns) : tupK h (.ref a) = some ns := by
  obtain ⟨o, e, _, n, d⟩ := t
  unfold tupK
  simp only [e, d]
  exact intsV_of i
theorem of_tupK {h : Heap} {v : Value} {ns : List Int} (k : tupK h v = some ns) : ∃ a o its n, v = .ref a ∧ h.get? a = some o ∧ o.data = .seq its n ∧ IntsAre its.toList ns := by
  cases v with
  | ref a =>
    unfold tupK at k
    cases e : h.get? a with
    | none => simp only [e] at k; cases k
    | some o =>
      simp only [e] at k
      cases d : o.data with
      | seq its n => simp only [d] at k; exact ⟨a, o, its, n, rfl, e, d, of_intsV k⟩
      | _ => simp only [d] at k; cases k
  | _ => cases k
theorem lex_irrefl : ∀ a : List Int, HT.lexLt a a = false
  | [] => rfl
  | x :: xs => by rw [HT.lexLt_cons, if_pos rfl]; exact lex_irrefl xs
theorem lex_trans : ∀ a b c : List Int, HT.lexLt a b = true → HT.lexLt b c = true → HT.lexLt a c = true
  | [], [], _, h, _ => by cases h
  | [], _ :: _, [], _, h => by cases h
  | [], _ :: _, _ :: _, _, _ => rfl
  | _ :: _, [], _, h, _ => by cases h
  | _ :: _, _ :: _, [], _, h => by cases h
  | x :: xs, y :: ys, z :: zs, h1, h2 => by
    rw [HT.lexLt_cons] at h1 h2 ⊢
    by_cases e1 : x = y
    · subst e1
      rw [if_pos rfl] at h1
      by_cases e2 : x = z
      · subst e2
        rw [if_pos rfl] at h2 ⊢
        exact lex_trans xs ys zs h1 h2
      · rw [if_neg e2] at h2 ⊢
        exact h2
    · rw [if_neg e1] at h1
      have l1 := of_decide_eq_true h1
      by_cases e2 : y = z
      · subst e2
        rw [if_neg e1]
        exact h1
      · rw [if_neg e2] at h2
        have l2 := of_decide_eq_true h2
        rw [if_neg (by omega)]
        exact decide_eq_true (by omega)
theorem lex_total : ∀ a b : List Int, HT.lexLt a b = false → HT.lexLt b a = false → a = b
  | [], [], _, _ => rfl
  | [], _ :: _, h, _ => by cases h
  | _ :: _, [], _, h => by cases h
  | x :: xs, y :: ys, h1, h2 => by
    rw [HT.lexLt_cons] at h1 h2
    by_cases e : x = y
    · subst e
      rw [if_pos rfl] at h1 h2
      rw [lex_total xs ys h1 h2]
    · rw [if_neg e] at h1
      rw [if_neg (Ne.symm e)] at h2
      have l1 := of_decide_eq_false h1
      have l2 := of_decide_eq_false h2
      omega
theorem lex_neg (a b c : List Int) (h : HT.lexLt a c = true) : HT.lexLt a b = true ∨ HT.lexLt b c = true := by
  cases e1 : HT.lexLt a b with
  | true => exact .inl rfl
  | false =>
    cases e2 : HT.lexLt b c with
    | true => exact .inr rfl
    | false =>
      exfalso
      cases e3 : HT.lexLt b a with
      | true =>
        have := lex_trans b a c e3 h
        rw [e2] at this
        cases this
      | false =>
        rw [lex_total a b e1 e3, e2] at h
        cases h
def kT (h : Heap) : KeyKind where
  α := List Int
  blt := HT.lexLt
  irrefl := lex_irrefl
  trans := lex_trans
  negTrans := lex_neg
  total := lex_total
  keyOf := tupK h
  dflt := []
section
variable {prog : Program} {w : World} {A : Around} {E : Value → Shared → Prop} {s : Shared}
theorem keyLt_tup (f : Bool) (x y : Value) : keyLt' (tuples' f) x y = (do
    let xs ← Builtin.List.listItems x
    let ys ← Builtin.List.listItems y
    for ((p, q), i) in (xs.toList.zip ys.toList).zipIdx do
      if !(← eqBool p q) then return ← oneLt' (f && i == 0) p q
    return decide (xs.size < ys.size)) := rfl
theorem one_less {f : Bool} {a b : Int} {t u : Tok} {Q : Bool → Shared → Prop} (q : Q (decide (a < b)) s) : wpAny (model prog w) A (oneLt' f (.int a t) (.int b u)) Q E s := by
  cases f with
  | true => exact oneLt_int q
  | false =>
    rw [oneLt'_eq]
    simp only [Bool.false_eq_true, if_false]
    exact wpAny_bind (HT.rcLt_int A s a t b u prog w E _ (wpAny_truthy_bool q))
theorem tells_tup (f : Bool) : Tells prog w A s (kT s.heap) (tuples' f) := by
  intro E x y a b Q kx ky q
  obtain ⟨ax, ox, ix, nx, rfl, ex, dx, rx⟩ := of_tupK (show tupK s.heap x = some a from kx)
  obtain ⟨ay, oy, iy, ny, rfl, ey, dy, ry⟩ := of_tupK (show tupK s.heap y = some b from ky)
  rw [keyLt_tup]
  refine wpAny_bind (listItems_at ex dx (wpAny_bind (listItems_at ey dy ?_)))
  have zx : ix.size = a.length := by rw [← rx.length]; simp
  have zy : iy.size = b.length := by rw [← ry.length]; simp
  refine wpAny_bind (wpAny_mono (wpAny_forIn_list _ (fun rest (c : Option Bool × PUnit) u => c.1 = none ∧ u = s ∧ ∃ (vs ws : List Value) (ns ms : List Int) (k : Nat), rest = (vs.zip ws).zipIdx k ∧ IntsAre vs ns ∧ IntsAre ws ms ∧ ns.length + iy.size = ms.length + ix.size ∧ HT.lexLt ns ms = HT.lexLt a b)
    (fun (c : Option Bool × PUnit) u => u = s ∧ (c.1 = some (HT.lexLt a b) ∨ (c.1 = none ∧ HT.lexLt a b = decide (ix.size < iy.size)))) ?_ ?_ _ _ ⟨rfl, rfl, ix.toList, iy.toList, a, b, 0, rfl, rx, ry, by omega, rfl⟩) ?_ fun _ _ z => z)
  · rintro ⟨⟨p, p'⟩, i⟩ rest c u ⟨hc, rfl, vs, ws, ns, ms, k, hr, hv, hw, hl, he⟩
    cases hv with
    | nil => rw [List.zip_nil_left] at hr; cases hr
    | cons m t hv' =>
      cases hw with
      | nil => rw [List.zip_nil_right] at hr; cases hr
      | cons m' t' hw' =>
        rw [List.zip_cons_cons, List.zipIdx_cons] at hr
        injection hr with h1 h2
        injection h1 with h3 h4
        injection h3 with h5 h6
        subst h5 h6
        rw [HT.lexLt_cons] at he
        simp only [List.length_cons] at hl
        refine wpAny_bind (SeqAt.EqAt.int_int m t m' t' prog w E _ ?_)
        by_cases e : m = m'
        · subst e
          rw [if_pos rfl] at he
          rw [beq_self_eq_true]
          exact wpAny_pure ⟨rfl, rfl, _, _, _, _, _, h2, hv', hw', by omega, he⟩
        · rw [if_neg e] at he
          have eb : (m == m') = false := beq_eq_false_iff_ne.mpr e
          rw [eb]
          refine wpAny_bind (one_less (wpAny_pure ⟨rfl, .inl ?_⟩))
          rw [he]
  · rintro c u ⟨hc, rfl, vs, ws, ns, ms, k, hr, hv, hw, hl, he⟩
    refine ⟨rfl, .inr ⟨hc, ?_⟩⟩
    rw [← he]
    cases hv with
    | nil =>
      cases hw with
      | nil =>
        simp only [List.length_nil] at hl
        exact (decide_eq_false (by omega)).symm
      | cons m' t' hw' =>
        simp only [List.length_nil, List.length_cons] at hl
        exact (decide_eq_true (by omega)).symm
    | cons m t hv' =>
      cases hw with
      | nil =>
        simp only [List.length_nil, List.length_cons] at hl
        exact (decide_eq_false (by omega)).symm
      | cons m' t' hw' => rw [List.zip_cons_cons, List.zipIdx_cons] at hr; cases hr
  · rintro ⟨c1, c2⟩ u ⟨rfl, h | ⟨h, h'⟩⟩
    · have h : c1 = some (HT.lexLt a b) := h
      subst h
      exact wpAny_pure q
    · have h : c1 = none := h
      subst h
      have q' : Q (HT.lexLt a b) u := q
      rw [h'] at q'
      exact wpAny_pure q'
theorem wp_mapM {β : Type} {f : Value → Sem β} (g : Value → β) : ∀ (l : List Value) (Q : List β → Shared → Prop), (∀ v ∈ l, ∀ Q' : β → Shared → Prop, Q' (g v) s → wpAny (model prog w) A (f v) Q' E s) → Q (l.map g) s → wpAny (model prog w) A (l.mapM f) Q E s
  | [], Q, _, q => by rw [List.mapM_nil]; exact wpAny_pure q
  | v :: l, Q, h, q => by
    rw [List.mapM_cons]
    refine wpAny_bind (h v List.mem_cons_self _ (wpAny_bind (wp_mapM g l _ (fun u hu => h u (List.mem_cons_of_mem _ hu)) (wpAny_pure q))))
def Head (h : Heap) (v : Value) : Prop := ∃ (a : Addr) (its : List Value) (n : Int) (t : Tok) (r : List Value), v = .ref a ∧ IsTup h a its.toArray ∧ its = .int n t :: r
def headV (h : Heap) : Value → Option Value
  | .ref a => match h.get? a with
    | some o => match o.data with
      | .seq its _ => its[0]?
      | _ => none
    | none => none
  | _ => none
theorem first_tup {v : Value} (H : Head s.heap v) {Q : Option Value → Shared → Prop} (q : Q (headV s.heap v) s) : wpAny (model prog w) A (firstOfTuple' v) Q E s := by
  obtain ⟨a, its, n, t, r, rfl, ht, rfl⟩ := H
  obtain ⟨o, e, c, k, d⟩ := id ht
  have eq : firstOfTuple' (.ref a) = (do
    if (← typeOf (.ref a)) != .type "tuple" then return none
    return (← Builtin.List.listItems (.ref a))[0]?) := rfl
  rw [eq]
  refine wpAny_bind (wpAny_typeOf ht.typeIs ?_)
  rw [if_neg (by decide)]
  refine wpAny_bind (listItems_at e d (wpAny_pure ?_))
  have hq : headV s.heap (.ref a) = ((Value.int n t :: r).toArray)[0]? := by unfold headV; simp only [e, d]
  rw [hq] at q
  exact q
theorem head_some {v : Value} (H : Head s.heap v) : ∃ n t, headV s.heap v = some (.int n t) := by
  obtain ⟨a, its, n, t, r, rfl, ⟨o, e, c, k, d⟩, rfl⟩ := H
  exact ⟨n, t, by unfold headV; simp only [e, d]; rfl⟩
theorem kind_tup {vs : List Value} (H : ∀ v ∈ vs, Head s.heap v) (hne : vs ≠ []) {Q : SortKind → Shared → Prop} (q : Q (tuples' true) s) : wpAny (model prog w) A (keyKind' vs.toArray) Q E s := by
  rw [keyKind'_eq, List.mapM_toArray]
  have hsm : ∀ v ∈ vs, ∃ n t, headV s.heap v = some (.int n t) := fun v hv => head_some (H v hv)
  refine wpAny_bind (m := List.toArray <$> _) (wpAny_bind (wp_mapM (headV s.heap) vs _ (fun v hv Q' q' => first_tup (H v hv) q') (wpAny_pure ?_)))
  have hall : ((vs.map (headV s.heap)).toArray.all fun x => x.isSome) = true := by
    simp only [List.all_toArray, List.all_map, List.all_eq_true]
    intro v hv
    obtain ⟨n, t, e⟩ := hsm v hv
    show (headV s.heap v).isSome = true
    rw [e]
    rfl
  rw [if_pos hall]
  refine wpAny_bind (wpAny_rule ?_)
  rw [oneTypeOnly'_eq]
  have hfm : ((vs.map (headV s.heap)).toArray.filterMap id) = (vs.filterMap (headV s.heap)).toArray := by
    simp [List.filterMap_map]
  rw [hfm, List.mapM_toArray]
  have htys : ∀ v ∈ vs.filterMap (headV s.heap), ∃ n t, v = .int n t := fun v hv => by
    obtain ⟨u, hu, e⟩ := List.mem_filterMap.mp hv
    obtain ⟨n, t, e'⟩ := hsm u hu
    rw [e'] at e
    exact ⟨n, t, (Option.some.inj e).symm⟩
  refine wpAny_bind (wpAny_bind (m := List.toArray <$> _) (wpAny_bind (wp_mapM (fun _ => Value.type "int") (vs.filterMap (headV s.heap)) _ (fun v hv Q' q' => ?_) (wpAny_pure ?_))))
  · obtain ⟨n, t, rfl⟩ := htys v hv
    exact wpAny_typeOf (typeIs_int s n t) q'
  · obtain ⟨v0, r, rfl⟩ := List.exists_cons_of_ne_nil hne
    obtain ⟨n, t, e⟩ := hsm v0 List.mem_cons_self
    have hfc : (v0 :: r).filterMap (headV s.heap) = .int n t :: r.filterMap (headV s.heap) := by rw [List.filterMap_cons, e]
    rw [hfc]
    have e0 : (List.map (fun _ => Value.type "int") (Value.int n t :: r.filterMap (headV s.heap))).toArray[0]? = some (.type "int") := by simp
    have ea : ((List.map (fun _ => Value.type "int") (Value.int n t :: r.filterMap (headV s.heap))).toArray.all fun x => x == Value.type "int") = true := by
      simp only [List.all_toArray, List.all_map, List.all_eq_true]
      intro _ _
      rfl
    rw [e0]
    show wpAny _ _ (pure (if (Array.all _ fun x => x == Value.type "int") = true then some (Value.type "int") else none)) _ _ _
    rw [if_pos ea]
    exact wpAny_pure (wpAny_pure q)
end
end Sr
namespace Sr
open PySem PyProof.Rows
theorem perm_map_inv {α β : Type} {f : α → β} : ∀ {l : List β} {ts : List α}, l.Perm (ts.map f) → ∃ ts' : List α, ts'.Perm ts ∧ l = ts'.map f
  | [], ts, h => by
    have e := h.symm.eq_nil
    exact ⟨[], by rw [List.map_eq_nil_iff.mp e], rfl⟩
  | b :: l, ts, h => by
    have hb : b ∈ ts.map f := h.mem_iff.mp List.mem_cons_self
    obtain ⟨t, ht, rfl⟩ := List.mem_map.mp hb
    obtain ⟨p, r, rfl⟩ := List.append_of_mem ht
    have h2 : (f t :: l).Perm (f t :: (p ++ r).map f) := by
      refine h.trans ?_
      rw [List.map_append, List.map_cons, List.map_append]
      exact List.perm_middle
    obtain ⟨ts', p1, rfl⟩ := perm_map_inv (List.Perm.cons_inv h2)
    exact ⟨t :: ts', (p1.cons t).trans List.perm_middle.symm, rfl⟩
section
variable {prog : Program} {w : World} {A : Around} {E : Value → Shared → Prop} {s : Shared}
theorem list_sort_tups {a : Addr} {vs : List Value} {n : Nat} {R : Fin → Shared → Prop} (ho : s.heap.get? a = some (seqObj "list" vs.toArray n)) (hh : ∀ v ∈ vs, Head s.heap v) (hk : ∀ v ∈ vs, ∃ ns, tupK s.heap v = some ns) (h64 : vs.length < 64)
    (q : ∀ xs : Array Keyed, xs.Perm (pairsOf vs) → SortedToK (kT s.heap) xs vs.length → R (.done (.ret .none)) { s with heap := sortedHeap s.heap a vs (xs.map (·.2)) }) :
    wpAny (model prog w) A (Builtin.«list.sort» ⟨[.ref a], []⟩) R E s := by
  have hlt : a < s.heap.objs.size := Heap.lt_size ho
  rw [list_sort_plain]
  refine wpAny_bind (listItems_at ho rfl (wpAny_bind (listUpdate_at ho rfl ?_)))
  obtain ⟨e1, ho1⟩ : ∃ e1, (s.heap.update a (Obj.mapSeq fun _ => #[])).get? a = some (seqObj "list" #[] e1) := ⟨_, get?_update_seq ho (fun _ => #[])⟩
  refine wpAny_bind (seqEpoch_at ho1 rfl (wpAny_bind (wpAny_newTuple (wpAny_bind (wpAny_newList (wpAny_holding ?_))))))
  generalize hg : ((s.heap.update a (Obj.mapSeq fun _ => #[])).push (seqObj "tuple" vs.toArray 0)).push (seqObj "list" #[] 0) = g
  have other : ∀ b ob, b ≠ a → s.heap.get? b = some ob → g.get? b = some ob := fun b ob hb e => by
    rw [← hg]
    exact Heap.get?_push_of_some _ (Heap.get?_push_of_some _ ((Heap.get?_update_other _ _ (Ne.symm hb)).trans e))
  have ho6 : g.get? a = some (seqObj "list" #[] e1) := by
    rw [← hg]
    exact Heap.get?_push_of_some _ (Heap.get?_push_of_some _ ho1)
  show wpAny (model prog w) A _ R E { s with heap := g }
  dsimp only
  have q' : ∀ xs : Array Keyed, xs.Perm (pairsOf vs) → SortedToK (kT s.heap) xs vs.length → R (.done (.ret .none)) { s with heap := g.update a (Obj.mapSeq fun _ => xs.map (·.2)) } := fun xs h1 h2 => by
    have := q xs h1 h2
    unfold sortedHeap at this
    rw [hg] at this
    exact this
  have hsz : vs.toArray.size = vs.length := by simp
  have long : ∀ {xs : Array Keyed}, xs.Perm (pairsOf vs) → (xs.map (·.2)).size ≤ sizeLine + 1 := fun {xs} h => by
    rw [Array.size_map, h.size_eq, pairsOf_size, sizeLine_eq]
    omega
  by_cases h2 : vs.toArray.size < 2
  · simp only [h2, if_true]
    refine wpAny_bind (wpAny_pure ?_)
    rw [StateT.run_pure]
    refine wpAny_bind (wpAny_pure ?_)
    refine wpAny_bind (seqEpoch_at ho6 rfl (wpAny_bind (listUpdate_at ho6 rfl ?_ (hsz2 := long (Array.Perm.refl _)))))
    simp only [bne_self_eq_false, Bool.false_eq_true, if_false]
    refine wpAny_pure (q' _ (Array.Perm.refl _) fun i j hij hj => ?_)
    have e : i = j := by omega
    rw [e]
    exact KeyOrd.kle_refl _
  · simp only [h2, if_false]
    have two : 2 ≤ vs.length := by omega
    have nev : vs ≠ [] := fun z => by rw [z] at two; exact absurd two (by decide)
    have notList : ∀ v ∈ vs, ∀ b, v = .ref b → b ≠ a := fun v hv b e z => by
      obtain ⟨b', its, m, t, r, e', ⟨ob, eb, cb, _⟩, _⟩ := hh v hv
      subst e
      injection e' with e'
      subst e' z
      rw [ho] at eb
      have eo : seqObj "list" vs.toArray n = ob := Option.some.inj eb
      rw [← eo] at cb
      have cb' : Value.type "list" = Value.type "tuple" := cb
      injection cb' with cb''
      exact absurd cb'' (by decide)
    have sameK : ∀ v ∈ vs, tupK g v = tupK s.heap v := fun v hv => by
      obtain ⟨b, its, m, t, r, rfl, ⟨ob, eb, cb, k, db⟩, _⟩ := hh v hv
      unfold tupK
      simp only [eb, other b ob (notList _ hv b rfl) eb]
    have hh6 : ∀ v ∈ vs, Head g v := fun v hv => by
      obtain ⟨b, its, m, t, r, rfl, ⟨ob, eb, rest⟩, hi⟩ := hh v hv
      exact ⟨b, its, m, t, r, rfl, ⟨ob, other b ob (notList _ hv b rfl) eb, rest⟩, hi⟩
    have hk6 : KeysOf (kT g) (pairsOf vs) := fun p hp => by
      rw [pairsOf_toList] at hp
      obtain ⟨_, hm⟩ := mem_zip_self hp
      obtain ⟨ns, e⟩ := hk _ hm
      exact ⟨ns, (sameK _ hm).trans e⟩
    refine wpAny_bind (kind_tup (s := { s with heap := g }) hh6 nev ?_)
    refine wpAny_bind (wpAny_mono (sort_runs (κ := kT g) (kd := tuples' true) (o := pairsOf vs) (st := SortSt.mk' (tuples' true) (vs.toArray.zip vs.toArray) #[] 7 none)
      (Q := fun _ u => (arrOf u).Perm (pairsOf vs) ∧ failedOf u = none ∧ SortedToK (kT g) (arrOf u) (pairsOf vs).size) (tells_tup (s := { s with heap := g }) true) hk6 ⟨Array.Perm.refl _, rfl, rfl, rfl⟩ (by rw [pairsOf_size]; exact two)
      (by rw [pairsOf_size]; exact h64) fun u h1 h2 h3 => ⟨h1, h2, h3⟩) ?_ fun _ _ z => z)
    rintro ⟨⟨⟩, u⟩ s' ⟨rfl, hp, hf, hs⟩
    refine wpAny_bind (seqEpoch_at ho6 rfl (wpAny_bind (listUpdate_at ho6 rfl ?_ (hsz2 := long hp))))
    rw [hf]
    simp only [bne_self_eq_false, Bool.false_eq_true, if_false]
    refine wpAny_pure (q' _ hp fun i j hij hj => ?_)
    have kk : ∀ i, i < vs.length → KK (kT s.heap) (arrOf u) i = KK (kT g) (arrOf u) i := fun i hi => by
      have hi' : i < (arrOf u).size := by rw [hp.size_eq, pairsOf_size]; exact hi
      have e := getElem?_pos (arrOf u) i hi'
      have hin : (arrOf u)[i] ∈ (pairsOf vs).toList := (Array.perm_iff_toList_perm.mp hp).mem_iff.mp (by simp)
      rw [pairsOf_toList] at hin
      obtain ⟨_, hm⟩ := mem_zip_self hin
      simp only [KK, e]
      show (tupK s.heap _).getD [] = (tupK g _).getD []
      rw [sameK _ hm]
    rw [kk i (by omega), kk j hj]
    exact hs i j hij (by rw [pairsOf_size]; exact hj)
theorem sorted_tups {l : Addr} {vs : List Value} {Q : Value → Shared → Prop} (hl : s.heap.IsList l vs.toArray) (hh : ∀ v ∈ vs, Head s.heap v) (hk : ∀ v ∈ vs, ∃ ns, tupK s.heap v = some ns) (h64 : vs.length < 64)
    (q : ∀ (xs : Array Keyed) (h' : Heap) (n : Nat), xs.Perm (pairsOf vs) → SortedToK (kT s.heap) xs vs.length → h'.get? (s.heap.objs.size + 1) = some (seqObj "list" (xs.map (·.2)) n) → (∀ b o, s.heap.get? b = some o → h'.get? b = some o) →
      Q (.ref (s.heap.objs.size + 1)) { s with heap := h' }) :
    wpAny (model prog w) A (call (.builtin "sorted") [.ref l]) Q E s := by
  refine Calls.call_function_entry kind_sorted plain_sorted entry_sorted (args_sorted1 _) ?_
  unfold Builtin.«sorted»
  refine wpAny_bind (m := checkCount "sorted" 1 1 _) (wpAny_pure (wpAny_bind (collect_list hl (wpAny_bind (wpAny_newList ?_)))))
  generalize hg : (s.heap.push (seqObj "list" #[] 0)).update s.heap.objs.size (Obj.mapSeq (· ++ vs.toArray)) = g
  have zg : g.objs.size = s.heap.objs.size + 1 := by rw [← hg, Heap.size_update, size_push']
  have og : ∀ b o, s.heap.get? b = some o → g.get? b = some o := fun b o e => by
    rw [← hg]
    exact (Heap.get?_update_other _ _ (Nat.ne_of_gt (Heap.lt_size e))).trans (Heap.get?_push_of_some _ e)
  show wpAny _ _ _ _ _ { s with heap := g.push (seqObj "list" vs.toArray 0) }
  rw [zg]
  have hoL : (g.push (seqObj "list" vs.toArray 0)).get? (s.heap.objs.size + 1) = some (seqObj "list" vs.toArray 0) := by rw [← zg]; exact Heap.get?_push_size _ rfl
  have ol : ∀ b o, s.heap.get? b = some o → (g.push (seqObj "list" vs.toArray 0)).get? b = some o := fun b o e => Heap.get?_push_of_some _ (og b o e)
  have sameK : ∀ v ∈ vs, tupK (g.push (seqObj "list" vs.toArray 0)) v = tupK s.heap v := fun v hv => by
    obtain ⟨b, its, m, t, r, rfl, ⟨ob, eb, cb, k, db⟩, _⟩ := hh v hv
    unfold tupK
    simp only [eb, ol b ob eb]
  refine wpAny_bind (wpAny_holding (wpAny_call_entry slot_list_sort ⟨_, hoL, rfl⟩ entry_list_sort (list_sort_tups (s := { s with heap := g.push (seqObj "list" vs.toArray 0) }) hoL (fun v hv => ?_) (fun v hv => ?_) h64 fun xs h1 h2 => ⟨_, rfl, ?_⟩) (args_list_sort _)))
  · obtain ⟨b, its, m, t, r, e, ⟨ob, eb, rest⟩, hi⟩ := hh v hv
    exact ⟨b, its, m, t, r, e, ⟨ob, ol b ob eb, rest⟩, hi⟩
  · obtain ⟨ns, e⟩ := hk v hv
    exact ⟨ns, (sameK v hv).trans e⟩
  · have kk : SortedToK (kT s.heap) xs vs.length := fun i j hij hj => by
      have one : ∀ i, i < vs.length → KK (kT s.heap) xs i = KK (kT (g.push (seqObj "list" vs.toArray 0))) xs i := fun i hi => by
        have hi' : i < xs.size := by rw [h1.size_eq, pairsOf_size]; exact hi
        have e := getElem?_pos xs i hi'
        have hin : xs[i] ∈ (pairsOf vs).toList := (Array.perm_iff_toList_perm.mp h1).mem_iff.mp (by simp)
        rw [pairsOf_toList] at hin
        obtain ⟨_, hm⟩ := mem_zip_self hin
        simp only [KK, e]
        show (tupK s.heap _).getD [] = (tupK _ _).getD []
        rw [sameK _ hm]
      rw [one i (by omega), one j hj]
      exact h2 i j hij hj
    generalize hf : sortedHeap (g.push (seqObj "list" vs.toArray 0)) (s.heap.objs.size + 1) vs (xs.map (·.2)) = h'
    obtain ⟨m, em⟩ : ∃ m, h'.get? (s.heap.objs.size + 1) = some (seqObj "list" (xs.map (·.2)) m) := by
      rw [← hf]
      unfold sortedHeap
      obtain ⟨e1, ho1⟩ : ∃ e1, ((g.push (seqObj "list" vs.toArray 0)).update (s.heap.objs.size + 1) (Obj.mapSeq fun _ => #[])).get? (s.heap.objs.size + 1) = some (seqObj "list" #[] e1) := ⟨_, get?_update_seq hoL (fun _ => #[])⟩
      exact ⟨_, get?_update_seq (Heap.get?_push_of_some _ (Heap.get?_push_of_some _ ho1)) (fun _ => xs.map (·.2))⟩
    have keep : ∀ b o, s.heap.get? b = some o → h'.get? b = some o := fun b o e => by
      have hb : b ≠ s.heap.objs.size + 1 := Nat.ne_of_lt (Nat.lt_succ_of_lt (Heap.lt_size e))
      rw [← hf]
      unfold sortedHeap
      exact (Heap.get?_update_other _ _ (Ne.symm hb)).trans (Heap.get?_push_of_some _ (Heap.get?_push_of_some _ ((Heap.get?_update_other _ _ (Ne.symm hb)).trans (ol b o e))))
    exact wpAny_pure ⟨_, rfl, q xs h' m h1 kk em keep⟩
end
end Sr
namespace L2
open PySem PySem.Spec PyProof.Rows
abbrev TI2 := Addr × List Int
def refsV (ts : List TI2) : List V := ts.map fun t => .ref t.1
section
variable {X : Cx}
theorem zip_same {α β : Type} (f : α → β) : ∀ l : List α, (l.map f).zip (l.map f) = l.map fun t => (f t, f t)
  | [] => rfl
  | t :: l => by rw [List.map_cons, List.zip_cons_cons, zip_same f l, List.map_cons]
theorem vals_refs : ∀ {ts : List TI2} {us : List Value}, Vals (refsV ts) us → us = ts.map fun t => Value.ref t.1
  | [], us, r => by cases r; rfl
  | t :: ts, us, r => by
    cases r with
    | cons r1 r2 =>
      have e : _ = Value.ref t.1 := r1
      rw [e, vals_refs r2]
      rfl
theorem vals_of_refs : ∀ ts : List TI2, Vals (refsV ts) (ts.map fun t => Value.ref t.1)
  | [] => .nil
  | t :: ts => .cons rfl (vals_of_refs ts)
theorem call_sorted : CallR X (.builtin "sorted") (fun xs H Q => ∃ p ts, xs = [.ref p] ∧ SqL X.K H p (refsV ts) ∧ (∀ t ∈ ts, SqT X.K H t.1 (t.2.map V.int) ∧ t.2 ≠ []) ∧ ts.length < 64 ∧
    ∀ (l : Addr) (ts' : List TI2), H l = none → ts'.Perm ts → ts'.Pairwise (fun a b => HT.lexLt b.2 a.2 = false) → Q (.ref l) (upd H l (.lst (refsV ts')))) := by
  intro pins s σ H xs us Q I r h
  obtain ⟨p, ts, rfl, hq, ht, h64, q⟩ := h
  obtain ⟨u, rfl, ru⟩ := vals1 r
  cases ru
  obtain ⟨its, rv, pl, hz⟩ := I.list hq
  have ei := vals_refs rv
  subst ei
  have tup : ∀ t ∈ ts, ∃ vs, IsTup s.heap t.1 vs.toArray ∧ IntsAre vs t.2 := fun t hm => by
    obtain ⟨vs, r2, p2, _⟩ := I.tuple (ht t hm).1
    exact ⟨vs, p2, intsAre_of r2⟩
  have key : ∀ t ∈ ts, Sr.tupK s.heap (.ref t.1) = some t.2 := fun t hm => by
    obtain ⟨vs, p2, i2⟩ := tup t hm
    exact Sr.tupK_of p2 (by simpa using i2)
  have e0 : H (s.heap.objs.size + 1) = none := I.hok.fresh (Nat.le_succ _)
  refine Sr.sorted_tups (vs := ts.map fun t => Value.ref t.1) pl.isList (fun v hv => ?_) (fun v hv => ?_) (by rw [List.length_map]; exact h64) fun xs h' n hp hs hl hk => ?_
  · obtain ⟨t, hm, rfl⟩ := List.mem_map.mp hv
    obtain ⟨ta, tn⟩ := t
    obtain ⟨vs, p2, i2⟩ := tup (ta, tn) hm
    have hne := (ht (ta, tn) hm).2
    have i2 : IntsAre vs tn := i2
    cases i2 with
    | nil => exact absurd rfl hne
    | cons m tk r2 => exact ⟨ta, _, m, tk, _, rfl, p2, rfl⟩
  · obtain ⟨t, hm, rfl⟩ := List.mem_map.mp hv
    exact ⟨t.2, key t hm⟩
  · have pl2 : xs.toList.Perm ((ts.map fun t => Value.ref t.1).zip (ts.map fun t => Value.ref t.1)) := by rw [← pairsOf_toList]; exact Array.perm_iff_toList_perm.mp hp
    have ez : ((ts.map fun t => Value.ref t.1).zip (ts.map fun t => Value.ref t.1)) = ts.map fun t => (Value.ref t.1, Value.ref t.1) := by
      exact zip_same _ ts
    rw [ez] at pl2
    obtain ⟨ts', p1, e1⟩ := Sr.perm_map_inv pl2
    have eo : (xs.map (·.2)) = (ts'.map fun t => Value.ref t.1).toArray := by
      apply Array.toList_inj.mp
      rw [Array.toList_map, e1, List.map_map]
      rfl
    have hlen : xs.size = ts'.length := by
      have := congrArg List.length e1
      rw [List.length_map] at this
      simpa using this
    have srt : ts'.Pairwise (fun a b => HT.lexLt b.2 a.2 = false) := by
      rw [List.pairwise_iff_getElem]
      intro i j hi hj hij
      have h3 := hs i j (Nat.le_of_lt hij) (by rw [List.length_map, ← p1.length_eq]; exact hj)
      have kk : ∀ k (hk : k < ts'.length), KK (Sr.kT s.heap) xs k = ts'[k].2 := fun k hk' => by
        have hk2 : k < xs.size := by rw [hlen]; exact hk'
        have e := getElem?_pos xs k hk2
        have e2 : xs[k] = (Value.ref ts'[k].1, Value.ref ts'[k].1) := by
          have e3 : xs.toList[k]? = some (Value.ref ts'[k].1, Value.ref ts'[k].1) := by rw [e1, List.getElem?_map, List.getElem?_eq_getElem hk'] <;> rfl
          have e4 : xs.toList[k]? = some xs[k] := by rw [Array.getElem?_toList]; exact e
          rw [e4] at e3
          exact Option.some.inj e3
        simp only [KK, e, e2]
        show (Sr.tupK s.heap (Value.ref ts'[k].1)).getD [] = _
        rw [key _ (p1.mem_iff.mp (List.getElem_mem hk'))]
        rfl
      rw [kk i hi, kk j hj] at h3
      exact h3
    refine ⟨.ref (s.heap.objs.size + 1), _, I.laid (t' := s.toks) (o := .lst (refsV ts')) hk (Nat.le_succ _) ⟨?_, _, n, vals_of_refs ts', ?_⟩, rfl, q _ ts' e0 p1 srt⟩
    · unfold refsV
      rw [List.length_map, p1.length_eq]
      exact smallL (by omega)
    · rw [hl, eo]
end
end L2
namespace L2
open PySem PySem.Spec PyProof.Rows
section
variable {X : Cx}
end
end L2
namespace L2
open PySem PySem.Spec PyProof.Rows
section
variable {X : Cx} {e st : Expr} {te tst : TE} {pos p2 : Pos}
def tRev (K : PySem.W.Frag) (te tst : TE) : TE := fun σ H Q => te σ H fun x H1 => tst σ H1 fun y H2 => ∃ a xs, x = .ref a ∧ y = .int (-1) ∧ SqL K H2 a xs ∧ ∀ p, H2 p = none → Q (.ref p) (upd H2 p (.lst xs.reverse))
end
end L2
namespace L2
open PySem PySem.Spec PyProof.Rows
section
variable {X : Cx} (K : PySem.W.Frag) (hK : X.K = K)
include hK
theorem kix_list : IxR X (rIxL K) := by subst hK; exact ix_list
theorem kix_tup : IxR X (rIxT K) := by subst hK; exact ix_tup
theorem ksl_list : SlR X (rSlL K) := by subst hK; exact sl_list
theorem kin_seq : OpR X (compareOp .In) (rIn K false) := by subst hK; exact op_in_seq
theorem keqD (hu : X.A.units + 64 < cLine) : OpR X (compareOp .Eq) (rEqD K false) := by subst hK; exact op_eqD hu
theorem kneD (hu : X.A.units + 64 < cLine) : OpR X (compareOp .NotEq) (rEqD K true) := by subst hK; exact op_neD hu
def rLen (K : PySem.W.Frag) : List V → Hp → VK → Prop := fun xs H Q => ∃ p ys, xs = [.ref p] ∧ (SqL K H p ys ∨ SqT K H p ys) ∧ Q (.int ys.length) H
theorem klen_seq : CallR X (.builtin "len") (rLen K) := by subst hK; exact call_len_seq
def rIsi (K : PySem.W.Frag) : List V → Hp → VK → Prop := fun xs H Q => ∃ x n t b, xs = [x, .ty n] ∧ TyOf K H x t ∧ PySem.W.kitOne K t (.type n) = some b ∧ Q (.bl b) H
theorem kisinst : CallR X (.builtin "isinstance") (rIsi K) := by subst hK; exact call_isinst
def rListOf (K : PySem.W.Frag) : List V → Hp → VK → Prop := fun xs H Q => ∃ p ys, xs = [.ref p] ∧ (SqL K H p ys ∨ SqT K H p ys) ∧ ∀ l, H l = none → Q (.ref l) (upd H l (.lst ys))
theorem klist_of : CallR X (.type "list") (rListOf K) := by subst hK; exact call_list_of
def rSorted (K : PySem.W.Frag) : List V → Hp → VK → Prop := fun xs H Q => ∃ p ts, xs = [.ref p] ∧ SqL K H p (refsV ts) ∧ (∀ t ∈ ts, SqT K H t.1 (t.2.map V.int) ∧ t.2 ≠ []) ∧ ts.length < 64 ∧
    ∀ (l : Addr) (ts' : List TI2), H l = none → ts'.Perm ts → ts'.Pairwise (fun a b => HT.lexLt b.2 a.2 = false) → Q (.ref l) (upd H l (.lst (refsV ts')))
theorem ksorted : CallR X (.builtin "sorted") (rSorted K) := by subst hK; exact call_sorted
def rSum (K : PySem.W.Frag) : List V → Hp → VK → Prop := fun xs H Q => ∃ p ns, xs = [.ref p] ∧ SqL K H p (ns.map V.int) ∧ Q (.int (List.sum ns)) H
theorem kpi_list {tg l : Expr} {tl : TE} (hl : PE X l tl) : PI X tg l (iList K tl) := by subst hK; exact pi_list hl
theorem kpi_enum {es : List Expr} {k1 : Nat} {tp : Pos} {e : Expr} {ta : TA} {p pos : Pos} (hg : Gl X "enumerate") (hm : X.mg "enumerate" = none) (ha : PA X [e] ta) (hs : starEach [e] X.env = (false, eval e X.env) :: starEach [] X.env := by rfl) :
    PI X (.Tuple es k1 tp) (.Call (.Name "enumerate" p) [e] [] pos) (iEnum K ta) := by subst hK; exact pi_enum hg hm ha hs
theorem kpg_tup {es : List Expr} {k : Nat} {t : TGs} {n : Nat} {pos : Pos} (hc : X.calm = true) (h : PGs X es t) (hn : (assignEach es X.env).length = n := by rfl) (hst : (assignEach es X.env).findIdx? (·.1) = none := by rfl) :
    PG X (.Tuple es k pos) (gTup K n t) := by subst hK; exact pg_tup hc h hn hst
theorem kpe_bm {o e : Expr} {es : List Expr} {to : TE} {t : TA} {name : Str} {apos cpos : Pos} {T id : String} {r : V → List V → Hp → VK → Prop} (pa : PlainAttrs T) (slot : Slot T name id) (hty : typeOf (.builtin id) = pure (.type "method_descriptor")) (hm : MtR X id r) (ho : PE X o to) (ha : PA X (e :: es) t)
    (hbase : attributeBase o name X.env (eval o X.env) = eval o X.env := by rfl)
    (hfew : ((backTo cpos (starEach (e :: es) X.env)).all (fun x => !x.1) && (backToKw cpos (keywordEach [] X.env)).all (fun x => x.1.isSome)
      && decide ((e :: es).length + ([] : List Keyword).length + (if ([] : List Keyword).isEmpty then 0 else 1) < 30)) = true := by rfl)
    (hline : (apos.endLine == cpos.line) = true := by rfl) (hs : starEach (e :: es) X.env = (false, eval e X.env) :: starEach es X.env := by rfl) (hplain : (backTo cpos (starEach es X.env)).any (·.1) = false := by rfl) :
    PE X (.Call (.Attribute o name apos) (e :: es) [] cpos) (tBM K T r to t) := by subst hK; exact pe_bm pa slot hty hm ho ha hbase hfew hline hs hplain
theorem kpe_bm0 {o : Expr} {to : TE} {name : Str} {apos cpos : Pos} {T id : String} {r : V → List V → Hp → VK → Prop} (pa : PlainAttrs T) (slot : Slot T name id) (hty : typeOf (.builtin id) = pure (.type "method_descriptor")) (hm : MtR X id r) (ho : PE X o to)
    (hbase : attributeBase o name X.env (eval o X.env) = eval o X.env := by rfl) (hline : (apos.endLine == cpos.line) = true := by rfl) : PE X (.Call (.Attribute o name apos) [] [] cpos) (tBM0 K T r to) := by
  subst hK; exact pe_bm0 pa slot hty hm ho hbase hline
end
section
variable {X : Cx}
end
end L2
namespace Mt
open PySem
def has (t o : Int) : Bool := decide (∀ k : Nat, k < 7 → o / 2 ^ k % 2 ≤ t / 2 ^ k % 2)
end Mt
namespace Mt
open PySem L2
def falls (cs : List Int) (t : Int) : Option Nat := cs.findIdx? fun c => has c t
def optV : Option Nat → V
  | none => .non
  | some i => .int i
end Mt
namespace Mt
open PySem L2
def TupAt (H : Hp) (x : V) (p : Nat × Option Nat) : Prop := ∃ t, x = .ref t ∧ H t = some (.tup [.int p.1, optV p.2])
theorem TupAt.same {H H' : Hp} {x : V} {p : Nat × Option Nat} (h : TupAt H x p) (s : Same H H') : TupAt H' x p := let ⟨t, e, h⟩ := h; ⟨t, e, s _ _ h⟩
def pairAt (cs : List Int) (i : Nat) : Nat × Option Nat := (i, falls cs (cs.getD i 0))
def pairs (cs : List Int) : List (Nat × Option Nat) := (List.range cs.length).map (pairAt cs)
def wf (cs : List Int) : List (Nat × Option Nat) := (pairs cs).filter fun p => !decide (V.int p.1 = optV p.2)
def optD : Option Nat → PyData
  | none => .none
  | some i => .int i
def pairD (p : Nat × Option Nat) : PyData := .tuple [.int p.1, optD p.2]
abbrev dPairs (ps : List (Nat × Option Nat)) : PyData := .list (ps.map pairD)
end Mt
namespace Mt
open PySem L2
def pc (c : Int) : Int := (([1, 2, 4, 8, 16, 32, 64] : List Int).map fun b => c / b % 2).sum
def rk (c : Int) : List Int := [pc c, c]
end Mt
namespace Mt
open PySem L2
def Right (rs : List Int) : Prop := rs.Pairwise fun a b => HT.lexLt (rk b) (rk a) = false
end Mt
namespace L2
open PySem PySem.Spec PyProof.Rows
section
variable {X : Cx} {pins : List (Addr × Obj)} {σ : St} {H : Hp} {s : Shared} {h' : Heap}
end
def rSortK (K : PySem.W.Frag) (sp : Sp) : V → Hp → VK → Prop := fun x H Q => ∃ (p : Addr) (xs : List V) (key : V → List Int), x = .ref p ∧ SqL K H p xs ∧ xs.length < 64 ∧ (∀ v, key v ≠ []) ∧
  (∀ v ∈ xs, ∀ H1, Same H H1 → sp [v] H1 (fun r H2 => Same H1 H2 ∧ ∃ t, r = .ref t ∧ H2 t = some (.tup ((key v).map V.int))) E0) ∧
  ∀ (l : Addr) (ys : List V) (H1 : Hp), H l = none → Same H H1 → H1 l = some (.lst ys) → ys.Perm xs → ys.Pairwise (fun a b => HT.lexLt (key b) (key a) = false) → Q (.ref l) H1
section
variable {X : Cx} {k : Nat} {f : Addr} {fd : FuncData} {ps : List Str} {sp : Sp}
structure KeysAre (key : V → List Int) (H : Hp) (xs : List V) (ts : List Addr) : Prop where
  len : ts.length ≤ xs.length
  at_ : ∀ (j : Nat) t v, ts[j]? = some t → xs[j]? = some v → H t = some (.tup ((key v).map V.int))
end
end L2
namespace L2
open PySem PySem.Spec PyProof.Rows
section
variable {X : Cx} (K : PySem.W.Frag) (hK : X.K = K)
include hK
end
end L2
namespace L2
open PySem PySem.Spec PyProof.Rows
end L2
namespace L2
open PySem PySem.Spec PyProof.Rows
section
variable {X : Cx}
def once (ns : List Int) : List Int := PyProof.Rows.firstMet (fun i => ns.getD i 0) ns.length
def rSet (K : PySem.W.Frag) : List V → Hp → VK → Prop := fun xs H Q => ∃ p ns, xs = [.ref p] ∧ SqL K H p (ns.map V.int) ∧ ns.length + 1 < scanBound ∧ ∀ l, H l = none → Q (.ref l) (upd H l (.set (fun k => (once ns).any (· == k)) (once ns).length))
end
section
variable {X : Cx} (K : PySem.W.Frag) (hK : X.K = K)
include hK
end
end L2
namespace L2
open PySem PySem.Spec PyProof.Rows
end L2
namespace Mt
open PySem L2
def Fit (cs : List Int) : Prop := ∀ (j k : Nat) c d, j < k → cs[j]? = some c → cs[k]? = some d → has c d = false
def moreI (c : Int) : Int := c + 64 * (1 - c / 64)
def lessI (c : Int) : Int := c % 64
end Mt
namespace L2
open PySem PySem.Spec PyProof.Rows
def sg (c : Nat) : Str := ⟨#[c]⟩
def Its (x : Str) : It := ⟨fun i _ => i < x.cps.size, fun i H v H' => H' = H ∧ ∃ c, x.cps[i]? = some c ∧ v = .str (sg c), fun i _ => x.cps.size ≤ i⟩
section
variable {X : Cx} {tg : Expr}
def iStr (tl : TE) : TI := fun σ H R => tl σ H fun v H1 => ∃ x, v = .str x ∧ R (Its x) H1
end
section
variable {X : Cx}
def rJoin (K : PySem.W.Frag) : V → List V → Hp → VK → Prop := fun x xs H Q => ∃ (z : Str) (p : Addr) (ys : List Str), x = .str z ∧ xs = [.ref p] ∧ SqL K H p (ys.map V.str) ∧ (ys.map (·.length)).sum + ys.length * z.length ≤ 16777216 ∧ Q (.str (Txt.join z ys)) H
def rAll (K : PySem.W.Frag) : List V → Hp → VK → Prop := fun xs H Q => ∃ (p : Addr) (bs : List Bool), xs = [.ref p] ∧ SqL K H p (bs.map V.bl) ∧ Q (.bl (bs.all id)) H
end
section
variable {X : Cx} (K : PySem.W.Frag) (hK : X.K = K)
include hK
end
end L2
namespace Cs
open PySem L2
structure Row where
  s : Str
  w : Int
  t : Int
  n : Int
abbrev rowV (r : Row) : List V := [.str r.s, .int r.w, .int r.t, .int r.n]
def RowAt (H : Hp) (v : V) (r : Row) : Prop := ∃ a, v = .ref a ∧ H a = some (.tup (rowV r))
theorem RowAt.same {H H' : Hp} {v : V} {r : Row} (h : RowAt H v r) (s : Same H H') : RowAt H' v r := let ⟨a, e, h⟩ := h; ⟨a, e, s _ _ h⟩
theorem rows_same {H H' : Hp} {xs : List V} {rs : List Row} (h : Paired (RowAt H) xs rs) (s : Same H H') : Paired (RowAt H') xs rs := Paired.mapP h fun _ _ z => z.same s
theorem rows_upd {H : Hp} {l : Addr} {o ys : HO} {xs : List V} {rs : List Row} (h : Paired (RowAt H) xs rs) (hl : H l = some ys) (hn : ∀ z, ys ≠ .tup z) : Paired (RowAt (upd H l o)) xs rs :=
  Paired.mapP h fun x p ⟨t, e, ht⟩ => ⟨t, e, by rw [upd_ne (ne_of ht hl fun z => hn _ z.symm)]; exact ht⟩
theorem rows_len {H : Hp} {xs : List V} {rs : List Row} (h : Paired (RowAt H) xs rs) : xs.length = rs.length := Paired.length h
theorem pd_get {α β : Type} {F : α → β → Prop} : ∀ {xs : List α} {ys : List β} {i : Nat} {x : α}, Paired F xs ys → xs[i]? = some x → ∃ y, ys[i]? = some y ∧ F x y
  | _, _, _, _, .nil, e => by simp at e
  | _, _, 0, _, .cons r _, e => by simp at e; subst e; exact ⟨_, rfl, r⟩
  | _, _, i + 1, x, .cons _ t, e => by
    obtain ⟨p, h1, h2⟩ := pd_get (i := i) (x := x) t (by simpa using e)
    exact ⟨p, by simpa using h1, h2⟩
def CaseAt (K : PySem.W.Frag) (H : Hp) (l : Addr) (rs : List Row) : Prop := ∃ xs, SqL K H l xs ∧ Paired (RowAt H) xs rs
theorem CaseAt.same {K : PySem.W.Frag} {H H' : Hp} {l : Addr} {rs : List Row} (h : CaseAt K H l rs) (s : Same H H') : CaseAt K H' l rs := let ⟨xs, h1, h2⟩ := h; ⟨xs, s.seq h1, rows_same h2 s⟩
def place (rs : List Row) (x : Str) : Option Nat := rs.findIdx? fun r => decide (r.s = x)
def rowD (r : Row) : PyData := .tuple [.str r.s, .int r.w, .int r.t, .int r.n]
theorem denL_rows {K : PySem.W.Frag} {H : Hp} : ∀ {xs : List V} {rs : List Row}, Paired (RowAt H) xs rs → (∀ r ∈ rs, PyData.canLay0 (.str r.s) = true) → DenL K H xs (rs.map rowD)
  | _, _, .nil, _ => .nil
  | _, _, .cons ⟨t, e, h⟩ r, c => by
    subst e
    exact .cons (.tup (SqT.of h) (.cons (.str _ (c _ List.mem_cons_self)) (.cons (.int _) (.cons (.int _) (.cons (.int _) .nil))))) (denL_rows r fun x hx => c x (List.mem_cons_of_mem _ hx))
theorem nb_rows : ∀ rs : List Row, nbL (rs.map rowD) = true
  | [] => rfl
  | r :: rs => by
    show (nb (rowD r) && nbL (rs.map rowD)) = true
    rw [nb_rows rs]
    rfl
theorem depth_rows : ∀ rs : List Row, PyData.depthAll (rs.map rowD) ≤ 1
  | [] => Nat.zero_le _
  | r :: rs => Nat.max_le.mpr ⟨Nat.le_refl _, depth_rows rs⟩
abbrev dRows (rs : List Row) : PyData := .list (rs.map rowD)
def signs : List Nat := "abcdefghijklmnopqrstuvwxyz.,-'".toList.map Char.toNat
theorem signs_lay : ∀ c ∈ signs, PyData.canLay0 (.str (sg c)) = true := by decide +kernel
theorem signs_cps : (Str.ofString "abcdefghijklmnopqrstuvwxyz.,-'").cps.toList = signs := by decide +kernel
theorem signs_at {i : Int} (h0 : 0 ≤ i) (h1 : i < 30) : ∃ c, c ∈ signs ∧ atI (Str.ofString "abcdefghijklmnopqrstuvwxyz.,-'").cps.toList i = some c := by
  rw [signs_cps]
  have hl : signs.length = 30 := by decide +kernel
  have hk : i.toNat < signs.length := by omega
  have ek : i = ((i.toNat : Nat) : Int) := by omega
  have q : atI signs ((i.toNat : Nat) : Int) = some signs[i.toNat] := atI_nat (List.getElem?_eq_getElem hk)
  rw [← ek] at q
  exact ⟨signs[i.toNat], List.getElem_mem hk, q⟩
def canSet (rs : List Row) (x : Str) : Bool := !decide (x = "") && x.cps.toList.all fun c => (place rs (sg c)).isSome
def wideAt (rs : List Row) (x : Str) : Int := match place rs x with
  | some i => match rs[i]? with
    | some r => r.w
    | none => 0
  | none => 0
def wideOf (rs : List Row) (x : Str) : Int := List.sum (x.cps.toList.map fun c => wideAt rs (sg c))
theorem cut_any (zs : List Int) (lo hi : Option Int) : ∃ ms : List Int, cutV (zs.map V.int) lo hi = ms.map V.int ∧ ms.length ≤ zs.length := by
  unfold cutV
  rw [← List.map_drop, ← List.map_take]
  exact ⟨_, rfl, by rw [List.length_take, List.length_drop]; omega⟩
end Cs
namespace L2
open PySem PySem.Spec PyProof.Rows
section
variable {X : Cx}
def rRemove : V → List V → Hp → VK → Prop := fun x vs H Q => ∃ (l : Addr) (ns : List Int) (z : Int), x = .ref l ∧ vs = [.int z] ∧ H l = some (.lst (ns.map V.int)) ∧ z ∈ ns ∧ Q .non (upd H l (.lst ((ns.erase z).map V.int)))
def eqI (z : Int) : Value → Bool
  | .int i _ => i == z
  | _ => false
end
end L2
namespace Mt
open PySem L2
def under (ls : List Int) (c : Int) : List Int := ls.filter fun o => !decide (o = c) && has c o
end Mt
namespace Mt
open PySem L2
def upto (n : Nat) : List Int := (List.range n).map fun (k : Nat) => (k : Int)
def subs (own : Int) : List Int := (upto (own.toNat + 1)).filter fun b => has own b
def sets (cs : List Int) (own : Int) (wh : Nat) : List Int := (subs own).filter fun b => decide (falls cs (own - b) = some wh)
end Mt
namespace Mt
open PySem L2
def optI : Option Int → V
  | none => .non
  | some i => .int i
def fewS (o : Option Int) (b : Int) : Option Int := match o with
  | none => some (pc b)
  | some m => if pc b < m then some (pc b) else some m
def fewest (cs : List Int) (own : Int) (wh : Nat) : Option Int := (sets cs own wh).foldl fewS none
end Mt
namespace Mt
open PySem L2
def bitsL : List Int := [1, 2, 4, 8, 16, 32, 64]
def shared (a c : Int) : Int := (bitsL.filter fun b => decide (a / b % 2 = 1) && decide (c / b % 2 = 1)).sum
def lacks (a c : Int) : Int := (bitsL.filter fun b => decide (a / b % 2 = 1) && decide (c / b % 2 = 0)).sum
theorem two (x : Int) : 0 ≤ x % 2 ∧ x % 2 ≤ 1 := by omega
def sb (p : Bool) : Int := if p then 1 else 0
structure Bits (x : Int) (f : Int → Int) : Prop where
  at_ : ∀ b ∈ bitsL, x / b % 2 = f b
  lo : 0 ≤ x
  hi : x < 128
def Can (cs : List Int) (own cw : Int) (wh : Nat) : Prop := ∀ (k : Nat) c, k < wh → cs[k]? = some c → has c (shared own cw) = false
end Mt
namespace L2
open PySem PySem.Spec PyProof.Rows
section
variable {κ : Type} [DecidableEq κ]
def valV (kvs : List (κ × V)) (k : κ) : Option V := (kvs.find? fun kv => decide (kv.1 = k)).map (·.2)
def putK (kvs : List (κ × V)) (k : κ) (v : V) : List (κ × V) :=
  if (kvs.any fun kv => decide (kv.1 = k)) = true then kvs.map (fun kv => if kv.1 = k then (kv.1, v) else kv) else kvs ++ [(k, v)]
def dropK (kvs : List (κ × V)) (k : κ) : List (κ × V) := kvs.filter fun kv => decide (kv.1 ≠ k)
theorem KV.keys {kvs : List (κ × V)} {vs : List (κ × Value)} (r : KV kvs vs) : kvs.map (·.1) = vs.map (·.1) := by
  unfold KV at r
  induction r with
  | nil => rfl
  | cons h t ih => rw [List.map_cons, List.map_cons, ih, h.1]
theorem KV.length {kvs : List (κ × V)} {vs : List (κ × Value)} (r : KV kvs vs) : kvs.length = vs.length := Paired.length r
end
abbrev KT (H : Hp) : List (List Key × V) → List (List Key × Addr × Value) → Prop := Paired fun p q => p.1 = q.1 ∧ H q.2.1 = some (.tup (p.1.map kV)) ∧ RelV p.2 q.2.2
theorem KT.keeps {H H' : Hp} {kvs : List (List Key × V)} {xs : List (List Key × Addr × Value)} (r : KT H kvs xs) (ht : ∀ b ys, H b = some (.tup ys) → H' b = some (.tup ys)) : KT H' kvs xs :=
  Paired.mapP r fun _ _ z => ⟨z.1, ht _ _ z.2.1, z.2.2⟩
section
variable {P : Program} {w : World} {H : Hp} {h : Heap} {a : Addr}
end
def DGet (H : Hp) (a : Addr) (y : V) (r : Option V) : Prop :=
  (∃ kvs k, Rd H a (.dK kvs) ∧ y = kV k ∧ r = valV kvs k) ∨ ∃ kvs k b, Rd H a (.dT kvs) ∧ y = .ref b ∧ H b = some (.tup (k.map kV)) ∧ r = valV kvs k
def DPut (H : Hp) (a : Addr) (y v : V) (H' : Hp) : Prop :=
  (∃ kvs k, H a = some (.dK kvs) ∧ y = kV k ∧ kvs.length < sizeLine ∧ H' = upd H a (.dK (putK kvs k v))) ∨
  ∃ kvs k b, H a = some (.dT kvs) ∧ y = .ref b ∧ H b = some (.tup (k.map kV)) ∧ kvs.length < sizeLine ∧ H' = upd H a (.dT (putK kvs k v))
theorem DGet.k {H : Hp} {a : Addr} {kvs : List (Key × V)} {k : Key} (e : H a = some (.dK kvs)) : DGet H a (kV k) (valV kvs k) := .inl ⟨kvs, k, .inl e, rfl, rfl⟩
theorem DGet.t {H : Hp} {a b : Addr} {kvs : List (List Key × V)} {k : List Key} (e : H a = some (.dT kvs)) (eb : H b = some (.tup (k.map kV))) : DGet H a (.ref b) (valV kvs k) := .inr ⟨kvs, k, b, .inl e, rfl, eb, rfl⟩
theorem DPut.k {H : Hp} {a : Addr} {kvs : List (Key × V)} {k : Key} {v : V} (e : H a = some (.dK kvs)) (hl : kvs.length < sizeLine) : DPut H a (kV k) v (upd H a (.dK (putK kvs k v))) := .inl ⟨kvs, k, e, rfl, hl, rfl⟩
theorem DPut.t {H : Hp} {a b : Addr} {kvs : List (List Key × V)} {k : List Key} {v : V} (e : H a = some (.dT kvs)) (eb : H b = some (.tup (k.map kV))) (hl : kvs.length < sizeLine) :
    DPut H a (.ref b) v (upd H a (.dT (putK kvs k v))) := .inr ⟨kvs, k, b, e, rfl, eb, hl, rfl⟩
section
variable {X : Cx} {pins : List (Addr × Obj)} {σ : St} {H : Hp} {s : Shared} {a : Addr} {y v : V} {u r : Value} {o : Option V} {A : Around} {E : Value → Shared → Prop}
end
section
variable {X : Cx} {pins : List (Addr × Obj)} {σ : St} {H : Hp} {s : Shared} {a : Addr} {kvs : List (Key × V)} {k : Key} {u : Value} {A : Around} {E : Value → Shared → Prop}
end
def NoSl (i : Expr) : Prop := ∀ ov iv, subscripted i false ov iv = operate [ov, iv] (getItem ov iv)
def tDGet (td ty : TE) : TE := fun σ H Q => td σ H fun x H1 => ty σ H1 fun y H2 => ∃ a v, x = .ref a ∧ DGet H2 a y (some v) ∧ Q v H2
def tDIn (ty td : TE) : TE := fun σ H Q => ty σ H fun y H1 => td σ H1 fun x H2 => ∃ a o, x = .ref a ∧ DGet H2 a y o ∧ Q (.bl o.isSome) H2
def tDNotIn (ty td : TE) : TE := fun σ H Q => ty σ H fun y H1 => td σ H1 fun x H2 => ∃ a o, x = .ref a ∧ DGet H2 a y o ∧ Q (.bl (!o.isSome)) H2
def sDPut (td ty tv : TE) : TS := fun D σ H => tv σ H fun v H1 => td σ H1 fun x H2 => ty σ H2 fun y H3 => ∃ a H4, x = .ref a ∧ DPut H3 a y v H4 ∧ D.nx σ H4
def sDAug (td ty tv : TE) (rd : V → V → Hp → VK → Prop) : TS := fun D σ H => td σ H fun x H1 => ty σ H1 fun y H2 => ∃ a v, x = .ref a ∧ DGet H2 a y (some v) ∧
  tv σ H2 fun y2 H3 => rd v y2 H3 fun z H4 => ∃ H5, DPut H4 a y z H5 ∧ D.nx σ H5
def sDDel (td ty : TE) : TS := fun D σ H => td σ H fun x H1 => ty σ H1 fun y H2 => ∃ a kvs k, x = .ref a ∧ H2 a = some (.dK kvs) ∧ y = kV k ∧ (valV kvs k).isSome = true ∧ D.nx σ (upd H2 a (.dK (dropK kvs k)))
section
variable {X : Cx} {o i e value : Expr} {pos pos' tpos : Pos} {td ty tv : TE}
end
def tDNewK : TE := fun _ H Q => ∀ p, H p = none → Q (.ref p) (upd H p (.dK []))
def tDNewT : TE := fun _ H Q => ∀ p, H p = none → Q (.ref p) (upd H p (.dT []))
section
variable {X : Cx} {pos : Pos}
end
def tPairs : List (TE × TE) → St → Hp → (List (V × V) → Hp → Prop) → Prop
  | [], _, H, Q => Q [] H
  | (tk, tv) :: r, σ, H, Q => tk σ H fun x H1 => tv σ H1 fun y H2 => tPairs r σ H2 fun ps H3 => Q ((x, y) :: ps) H3
abbrev VV : List (V × V) → List (Value × Value) → Prop := Paired fun p q => RelV p.1 q.1 ∧ RelV p.2 q.2
def PPs (X : Cx) (pos : Pos) (keys : List (Option Expr)) (values : List Expr) (trs : List (TE × TE)) : Prop :=
  ∀ (pins : List (Addr × Obj)) (s : Shared) (σ : St) (H : Hp) (Q : List (V × V) → Hp → Prop), Inv X pins σ H s → tPairs trs σ H Q →
    wpAny (model X.prog X.w) X.A (evalPairs (pairTrees keys values X.env pos)) (fun vs s' => ∃ ps H', Inv X pins σ H' s' ∧ VV ps vs ∧ Q ps H') X.xe s
def mergeK (kvs more : List (Key × V)) : List (Key × V) := more.foldl (fun acc kv => putK acc kv.1 kv.2) kvs
def tDisp (trs : List (TE × TE)) : TE := fun σ H Q => ∀ p, H p = none → tPairs trs σ (upd H p (.dK [])) fun ps H2 => H2 p = some (.dK []) ∧ ∃ kvs : List (Key × V), ps = kvs.map (fun kv => (kV kv.1, kv.2)) ∧ kvs.length ≤ 15 ∧ Q (.ref p) (upd H2 p (.dK (mergeK [] kvs)))
structure M1 (X : Cx) (o : Expr) (m : Str) (apos : Pos) (e : Expr) (cpos : Pos) : Prop where
  base : attributeBase o m X.env (eval o X.env) = eval o X.env
  few : ((backTo cpos (starEach [e] X.env)).all (fun x => !x.1) && (backToKw cpos (keywordEach [] X.env)).all (fun x => x.1.isSome)
    && decide (([e] : List Expr).length + ([] : List Keyword).length + (if ([] : List Keyword).isEmpty then 0 else 1) < 30)) = true
  line : (apos.endLine == cpos.line) = true
  trees : backTo cpos (starEach [e] X.env) = [(false, eval e X.env)]
structure M2 (X : Cx) (o : Expr) (m : Str) (apos : Pos) (e f : Expr) (cpos : Pos) : Prop where
  base : attributeBase o m X.env (eval o X.env) = eval o X.env
  few : ((backTo cpos (starEach [e, f] X.env)).all (fun x => !x.1) && (backToKw cpos (keywordEach [] X.env)).all (fun x => x.1.isSome)
    && decide (([e, f] : List Expr).length + ([] : List Keyword).length + (if ([] : List Keyword).isEmpty then 0 else 1) < 30)) = true
  line : (apos.endLine == cpos.line) = true
  trees : backTo cpos (starEach [e, f] X.env) = [(false, eval e X.env), (false, eval f X.env)]
def IsD (H : Hp) (a : Addr) : Prop := (∃ kvs, Rd H a (.dK kvs)) ∨ ∃ kvs, Rd H a (.dT kvs)
section
variable {X : Cx} {pins : List (Addr × Obj)} {σ : St} {H : Hp} {s : Shared} {a : Addr} {y d : V} {u r : Value} {o : Option V} {A : Around} {E : Value → Shared → Prop}
end
def tDGet1 (td ty : TE) : TE := fun σ H Q => td σ H fun x H1 => ∃ a, x = .ref a ∧ IsD H1 a ∧ ty σ H1 fun y H2 => ∃ o, DGet H2 a y o ∧ Q (o.getD .non) H2
def tDGet2 (td ty tx : TE) : TE := fun σ H Q => td σ H fun x H1 => ∃ a, x = .ref a ∧ IsD H1 a ∧ ty σ H1 fun y H2 => tx σ H2 fun z H3 => ∃ o, DGet H3 a y o ∧ Q (o.getD z) H3
def tDPop1 (td ty : TE) : TE := fun σ H Q => td σ H fun x H1 => ∃ a, x = .ref a ∧ IsD H1 a ∧ ty σ H1 fun y H2 => ∃ kvs k v, H2 a = some (.dK kvs) ∧ y = kV k ∧ valV kvs k = some v ∧ Q v (upd H2 a (.dK (dropK kvs k)))
def tDPop2 (td ty tx : TE) : TE := fun σ H Q => td σ H fun x H1 => ∃ a, x = .ref a ∧ IsD H1 a ∧ ty σ H1 fun y H2 => tx σ H2 fun z H3 => ∃ kvs k, H3 a = some (.dK kvs) ∧ y = kV k ∧
  (∀ v, valV kvs k = some v → Q v (upd H3 a (.dK (dropK kvs k)))) ∧ (valV kvs k = none → Q z H3)
section
variable {X : Cx} {o e f : Expr} {apos cpos : Pos} {td ty tx : TE}
end
section
variable {X : Cx} {pins : List (Addr × Obj)} {σ : St} {H : Hp} {s : Shared} {a : Addr} {kvs : List (Key × V)} {A : Around} {E : Value → Shared → Prop}
end
section
variable {X : Cx} {pins : List (Addr × Obj)} {σ : St} {H : Hp} {s : Shared} {a : Addr} {y : V} {u : Value} {A : Around} {E : Value → Shared → Prop}
end
end L2
namespace L2
open PySem PySem.Spec PyProof.Rows
section
variable {X : Cx}
end
section
variable {κ : Type} [DecidableEq κ]
end
end L2
namespace Cs
open PySem L2
def wdict (rs : List Row) : List (Key × V) := rs.foldl (fun kvs r => putK kvs (.inr r.s) (.int r.w)) []
def bodyOf (rs : List Row) (ws : List Str) : Int := List.sum (ws.map fun x => wideOf rs x)
end Cs
namespace L2
open PySem
end L2
namespace L2
open PySem PySem.Spec PyProof.Rows
def Least (g : Nat → Int) (n : Nat) (m : Int) : Prop := (∃ i, i < n ∧ g i = m) ∧ ∀ i, i < n → m ≤ g i
theorem Least.one {g : Nat → Int} : Least g 1 (g 0) := ⟨⟨0, by omega, rfl⟩, fun i hi => by
  have e : i = 0 := by omega
  subst e
  exact Int.le_refl _⟩
theorem Least.no {g : Nat → Int} {n : Nat} {m : Int} (h : Least g n m) (hl : ¬ g n < m) : Least g (n + 1) m := ⟨by obtain ⟨i, hi, e⟩ := h.1; exact ⟨i, by omega, e⟩, fun i hi => by
  by_cases e : i = n
  · subst e; omega
  · exact h.2 i (by omega)⟩
def Held (g : Nat → Int) (j : Nat) (arr : Array Value) : Prop := (j = 0 ∧ arr = #[]) ∨ ∃ m t, arr = #[.int m t, .int m t] ∧ Least g j m
def Told (g : Nat → Int) (n : Nat) (d v : Value) : Prop := (n = 0 ∧ v = d) ∨ ∃ m t, v = .int m t ∧ Least g n m
def bestObj (arr : Array Value) (c : Nat) : Obj := { cls := .type "list", dict := none, data := .seq arr c, slots := #[] }
section
variable {P : Program} {w : World} {A : Around} {R : Result → Shared → Prop} {it : Addr} {fp wr : List Addr} {n : Nat} {Pr : Nat → Value → Prop} {St : Nat → Heap → Prop}
end
section
variable {P : Program} {w : World} {A : Around} {E : Value → Shared → Prop} {s : Shared}
end
def leastO : List Int → Option Int
  | [] => none
  | x :: r => some (r.foldl (fun a b => if b < a then b else a) x)
section
variable {X : Cx}
def rMinD (K : PySem.W.Frag) : V → Hp → VK → Prop := fun v H Q => ∃ a ns, v = .ref a ∧ SqL K H a (ns.map V.int) ∧ Q (Mt.optI (leastO ns)) H
def greatO : List Int → Option Int
  | [] => none
  | x :: r => some (r.foldl (fun a b => if b > a then b else a) x)
end
section
variable {X : Cx} (K : PySem.W.Frag) (hK : X.K = K)
include hK
end
end L2
namespace L2
open PySem PySem.Spec PyProof.Rows
section
variable {X : Cx} {a b : Expr} {rest : List Expr} {pos : Pos} {ta tb : TE}
def tOrL (K : PySem.W.Frag) (ta tb : TE) : TE := fun σ H Q => ta σ H fun x H1 => ∃ l xs, x = .ref l ∧ SqL K H1 l xs ∧ ∃ M : V → Hp → Prop, (xs ≠ [] → M (.ref l) H1) ∧ (xs = [] → tb σ H1 M) ∧ ∀ v H2, M v H2 → Q v H2
end
section
variable {X : Cx} {a b : Expr} {rest : List Expr} {pos : Pos} {ta tb : TE} (K : PySem.W.Frag) (hK : X.K = K)
include hK
end
end L2
namespace Ln
open PySem L2
def misfit (sp m lo hi : Int) : Int := if m * hi < sp then sp - m * hi else if 0 < sp - m * lo then 0 else sp - m * lo
def cost (sp m lo ideal hi : Int) (last : Bool) : Option Int := if last = true ∧ 0 ≤ sp - m * ideal then some 0 else if misfit sp m lo hi = 0 then some ((sp - m * ideal) * (sp - m * ideal)) else none
def costW (zs : List Int) (ms lo ideal hi : Int) (last : Bool) : Option Int := cost (ms - List.sum zs) ((zs.length : Int) - 1) lo ideal hi last
def abc : List Nat := [97, 98, 99, 100, 101, 102]
theorem abc_lay : ∀ c ∈ abc, PyData.canLay0 (.str (sg c)) = true := by decide +kernel
theorem abc_nd : (abc.map sg).Nodup := by decide +kernel
structure AbcCase (rs : List Cs.Row) : Prop where
  sg : (rs.map fun r => r.s) = abc.map sg
  wd : ∀ r ∈ rs, 1 ≤ r.w ∧ r.w ≤ 100
theorem AbcCase.len {rs : List Cs.Row} (h : AbcCase rs) : rs.length = 6 := by
  have := congrArg List.length h.sg
  rwa [List.length_map, List.length_map] at this
theorem AbcCase.nd {rs : List Cs.Row} (h : AbcCase rs) : (rs.map fun r => r.s).Nodup := by rw [h.sg]; exact abc_nd
theorem AbcCase.place {rs : List Cs.Row} (h : AbcCase rs) {c : Nat} (hc : c ∈ abc) : (Cs.place rs (L2.sg c)).isSome = true := by
  have h1 : L2.sg c ∈ rs.map fun r => r.s := by rw [h.sg]; exact List.mem_map_of_mem hc
  obtain ⟨r, hr, e⟩ := List.mem_map.mp h1
  unfold Cs.place
  rw [List.findIdx?_isSome, List.any_eq_true]
  exact ⟨r, hr, decide_eq_true e⟩
theorem AbcCase.lay {rs : List Cs.Row} (h : AbcCase rs) : ∀ r ∈ rs, PyData.canLay0 (.str r.s) = true := fun r hr => by
  have h1 : r.s ∈ rs.map fun r => r.s := List.mem_map_of_mem (f := fun r => r.s) hr
  rw [h.sg] at h1
  obtain ⟨c, hc, e⟩ := List.mem_map.mp h1
  rw [← e]
  exact abc_lay c hc
def AbcWord (x : Str) : Prop := 1 ≤ x.length ∧ x.length ≤ 6 ∧ ∀ c ∈ x.cps.toList, c ∈ abc
abbrev dWords (ws : List Str) : PyData := .list (ws.map PyData.str)
theorem nb_words : ∀ ws : List Str, nbL (ws.map PyData.str) = true
  | [] => rfl
  | x :: ws => by
    show (nb (PyData.str x) && nbL (ws.map PyData.str)) = true
    rw [nb_words ws]
    rfl
theorem depth_words : ∀ ws : List Str, PyData.depthAll (ws.map PyData.str) = 0
  | [] => rfl
  | x :: ws => by
    show max (PyData.str x).depth (PyData.depthAll (ws.map PyData.str)) = 0
    rw [depth_words ws]
    rfl
abbrev dBoth (rs : List Cs.Row) (ws : List Str) : PyData := .list [Cs.dRows rs, dWords ws]
theorem depth_both (rs : List Cs.Row) (ws : List Str) (e : PyData) : min (dBoth rs ws).depth e.depth ≤ 64 := by
  have q1 : (Cs.dRows rs).depth = PyData.depthAll (rs.map Cs.rowD) + 1 := rfl
  have q2 : (dWords ws).depth = PyData.depthAll (ws.map PyData.str) + 1 := rfl
  have q : (dBoth rs ws).depth = max (Cs.dRows rs).depth (max (dWords ws).depth 0) + 1 := rfl
  have := Cs.depth_rows rs
  have := depth_words ws
  omega
structure Dr (H : Hp) (t : Addr) (xs : List V) (rs : List Cs.Row) (ws : List Str) (c p g : Addr) (ms lo ideal hi : Int) : Prop where
  tup : H t = some (.tup [.ref c, .ref p, .int ms, .ref g])
  cas : H c = some (.lst xs)
  row : Paired (Cs.RowAt H) xs rs
  abc : AbcCase rs
  wrd : H p = some (.lst (ws.map V.str))
  wok : ∀ x ∈ ws, AbcWord x
  wl1 : 1 ≤ ws.length
  wl2 : ws.length ≤ 63
  gap : H g = some (.tup [.int lo, .int ideal, .int hi])
  g0 : 0 ≤ lo
  g1 : lo ≤ ideal
  g2 : ideal ≤ hi
  g3 : hi ≤ 99
  m1 : 1 ≤ ms
  m2 : ms ≤ 2000
end Ln
namespace L2
open PySem PySem.Spec PyProof.Rows
def Its3 (lo st : Int) (n : Nat) : It := ⟨fun i _ => i < n, fun i H x H' => H' = H ∧ x = .int (lo + i * st), fun i _ => n ≤ i⟩
section
variable {X : Cx} {tg : Expr}
def size3 (a b c : Int) : Nat := (Builtin.Range.rangeSize a b c).toNat
def iRng3 (ta : TA) : TI := fun σ H R => ta σ H fun vs H1 => ∃ i j k : Int, vs = [.int i, .int j, .int k] ∧ (-1000000 ≤ i ∧ i ≤ 1000000 ∧ -1000000 ≤ j ∧ j ≤ 1000000) ∧ (k ≠ 0 ∧ -1000 ≤ k ∧ k ≤ 1000) ∧ R (Its3 i k (size3 i j k)) H1
end
end L2
namespace Lns
open PySem L2
def LineN (no : Addr) (H : Hp) (v : V) (ws : List Str) : Prop := ∃ p, v = .ref p ∧ p ≠ no ∧ H p = some (.lst (ws.map V.str))
theorem LineN.same {no : Addr} {H H' : Hp} {v : V} {ws : List Str} (h : LineN no H v ws) (s : Same H H') : LineN no H' v ws := let ⟨p, e, n, h⟩ := h; ⟨p, e, n, s _ _ h⟩
abbrev dLines (ls : List (List Str)) : PyData := .list (ls.map Ln.dWords)
def preT : List Str → Str
  | [] => ""
  | x :: r => x ++ " " ++ preT r
def lineT (ws : List Str) : Str := Txt.join " " ws
def keyT : List (List Str) → Str
  | [] => ""
  | l :: r => lineT l ++ "/" ++ keyT r
def Fit (ls : List (List Str)) : Prop := ls.length ≤ 100 ∧ ∀ l ∈ ls, l.length ≤ 100 ∧ ∀ x ∈ l, x.length ≤ 100
end Lns
namespace L2
open PySem PySem.Spec PyProof.Rows PySem.Builtin PySem.Builtin.Str
section
variable {X : Cx}
def rSplit : V → List V → Hp → VK → Prop := fun x xs H Q => ∃ z y, x = .str z ∧ xs = [.str y] ∧ 1 ≤ y.length ∧ z.length ≤ 90000 ∧ ∀ D, H D = none → Q (.ref D) (upd H D (.lst ((Txt.split z y).map V.str)))
end
end L2
namespace Lns
open PySem L2
theorem str_ext {x y : Str} (h : x.cps.toList = y.cps.toList) : x = y := Str.ext' (Array.toList_inj.mp h)
def Plain (x : Str) : Prop := 32 ∉ x.cps.toList ∧ 47 ∉ x.cps.toList
def LineF (H0 : Hp) (no : Addr) (H : Hp) (v : V) (ws : List Str) : Prop := ∃ p, v = .ref p ∧ p ≠ no ∧ H0 p = none ∧ H p = some (.lst (ws.map V.str))
theorem LineF.n {H0 : Hp} {no : Addr} {H : Hp} {xs : List V} {ls : List (List Str)} (h : Paired (LineF H0 no H) xs ls) : Paired (LineN no H) xs ls := Paired.mapP h fun _ _ ⟨p, e, n, _, z⟩ => ⟨p, e, n, z⟩
def ListF (H0 : Hp) (no : Addr) (B : Nat) (H : Hp) (v : V) : Prop := ∃ p ws, v = .ref p ∧ p ≠ no ∧ H0 p = none ∧ H p = some (.lst ws) ∧ ws.length ≤ B
theorem ListF.same {H0 : Hp} {no : Addr} {B : Nat} {H H' : Hp} {v : V} (h : ListF H0 no B H v) (s : Same H H') : ListF H0 no B H' v := let ⟨p, ws, e, n, f, z, b⟩ := h; ⟨p, ws, e, n, f, s _ _ z, b⟩
theorem listF_push {H0 : Hp} {no : Addr} {B : Nat} {H : Hp} {p : Addr} {ws : List V} {x : V} {v : V} (hp : H p = some (.lst ws)) (hw : ws.length ≤ B) (hv : ListF H0 no B H v) : ListF H0 no (B + 1) (upd H p (.lst (ws ++ [x]))) v := by
  obtain ⟨q, us, e, n, f, z, b⟩ := hv
  by_cases h : q = p
  · subst h
    exact ⟨q, _, e, n, f, upd_same, by rw [List.length_append]; show ws.length + 1 ≤ _; omega⟩
  · exact ⟨q, us, e, n, f, by rw [upd_ne h]; exact z, by omega⟩
def isS (c : Nat) : Bool := !decide (c = 32) && !decide (c = 47)
def okFrom (rs : List Cs.Row) : Bool → List Nat → Bool
  | _, [] => true
  | p, c :: r => if isS c = true then (Cs.place rs (sg c)).isSome && okFrom rs true r else p && okFrom rs false r
def goesOn (rs : List Cs.Row) (ks : List Nat) (i : Nat) : Bool :=
  match ks[i]? with
  | none => false
  | some c => if isS c = true then (Cs.place rs (sg c)).isSome else decide (0 < i) && (match ks[i - 1]? with | none => false | some d => isS d)
def Settable (rs : List Cs.Row) (x : Str) : Prop := 1 ≤ x.length ∧ ∀ c ∈ x.cps.toList, isS c = true ∧ (Cs.place rs (sg c)).isSome = true
theorem Settable.ne {rs : List Cs.Row} {x : Str} (h : Settable rs x) : (!x.cps.toList.isEmpty) = true := by
  have h1 := h.1
  unfold Str.length at h1
  cases e : x.cps.toList with
  | nil =>
    have : x.cps.toList.length = 0 := by rw [e]; rfl
    rw [Array.length_toList] at this
    omega
  | cons a b => rfl
end Lns
namespace L2
open PySem PySem.Spec PyProof.Rows
section
variable {M : Model} {A : Around} {E : Value → Shared → Prop} {s : Shared}
def Stays (S : List Addr) (ch : List Addr) (h h' : Heap) : Prop := ∀ b o, h.get? b = some o → b ∉ ch → (b ∉ S → h'.get? b = some o) ∧ ∃ sl, h'.get? b = some { o with slots := sl }
theorem Stays.trans {S ch : List Addr} {h h1 h2 : Heap} (x : Stays S ch h h1) (y : Stays S ch h1 h2) : Stays S ch h h2 := fun b o e n => by
  obtain ⟨x1, sl, x2⟩ := x b o e n
  refine ⟨fun hb => ?_, ?_⟩
  · exact (y b o (x1 hb) n).1 hb
  · obtain ⟨_, sl2, y2⟩ := y b _ x2 n
    exact ⟨sl2, y2⟩
theorem dict_mapFields (o : Obj) (f) : (o.mapFields f).dict = o.dict := by
  obtain ⟨c, d, dt, sl⟩ := o
  cases dt <;> rfl
def ExcAt (P : Heap → Value → Prop) (h : Heap) (e : Addr) (cls : Value) (dx : Option Addr) : Prop :=
  ∃ oe vs hd, h.get? e = some oe ∧ oe.cls = cls ∧ oe.dict = dx ∧ oe.data = .fields vs ∧ vs[1]? = some hd ∧ P h hd
def TbAt (F : Addr → Prop) (e : Addr) (x : Value) (h : Heap) (hd : Value) : Prop := ∃ T oT ts, hd = .ref T ∧ F T ∧ T ≠ e ∧ h.get? T = some oT ∧ oT.data = .fields ts ∧ ts[3]? = some x
theorem note_new {base : Heap} {env : Env} {outer : List Env} {L e : Addr} {oe : Obj} {vs : Array Value} {head : Value} {hadNext : Bool} {Q : Unit → Shared → Prop}
    (hfr : A.frames = some (env :: outer)) (hl : s.heap.FunFrames base (env :: outer)) (hf : env.frame = some L)
    (he : s.heap.get? e = some oe) (hd : oe.data = .fields vs) (hsz : 1 < vs.size)
    (h : ∀ h', s.heap.objs.size ≤ h'.objs.size → Stays ((env :: outer).filterMap (·.frame)) [e] s.heap h' → ExcAt (TbAt (fun b => s.heap.objs.size ≤ b) e (rawInt L)) h' e oe.cls oe.dict → Q () { s with heap := h' }) :
    wpAny M A (do let a ← frameOf env; let pl ← entryPlaceOf L hadNext; let b ← EntryCells.newEntry head a .none (rawInt L) .none pl; setField (.ref e) 1 b) Q E s := by
  have hene : e ∉ (env :: outer).filterMap (·.frame) := fun hm => by
    obtain ⟨_, o, ho, hnf⟩ := hl.mem hm
    rw [he] at ho; injection ho with ho; subst ho; exact hnf vs hd
  refine wpAny_bind (wpAny_frameOf_fun hfr hl hf fun h₁ hs₁ => ?_)
  refine wpAny_bind (wpAny_entryPlaceOf fun pl hpl => ?_)
  unfold EntryCells.newEntry newFields
  refine wpAny_bind (wpAny_newObj_type ?_ (hpl.sizeOk5 _ _ _ _ _))
  have he₁ : h₁.get? e = some oe := (hs₁.2.1 e hene).trans he
  have he₂ := Heap.get?_push_of_some (h := h₁) { cls := .type "traceback", dict := none, data := .fields ([head, .ref L, .none, rawInt L, .none] ++ (if pl.isEmpty then List.replicate 6 Value.none else pl)).toArray } he₁
  refine wpAny_setField he₂ hd hsz ?_
  have hTe : h₁.objs.size ≠ e := Nat.ne_of_gt (Heap.lt_size he₁)
  have hd₃ := Obj.data_mapFields hd (·.setIfInBounds 1 (Value.ref h₁.objs.size))
  have he₃ := Heap.get?_update_self (Obj.mapFields (·.setIfInBounds 1 (Value.ref h₁.objs.size))) he₂ (Obj.isFreed_of_fields hd₃)
  have hT₃ := (Heap.get?_update_other (h₁.push { cls := .type "traceback", dict := none, data := .fields ([head, .ref L, .none, rawInt L, .none] ++ (if pl.isEmpty then List.replicate 6 Value.none else pl)).toArray })
    (Obj.mapFields (·.setIfInBounds 1 (Value.ref h₁.objs.size))) (Ne.symm hTe)).trans (Heap.get?_push_size h₁ rfl)
  have hsz1 : h₁.objs.size = s.heap.objs.size := hs₁.1
  refine h _ ?_ ?_ ?_
  · rw [Heap.size_after_update, Heap.size_push, hsz1]
    exact Nat.le_succ _
  · intro b o hb hn
    have hbe : b ≠ e := fun q => hn (List.mem_singleton.mpr q)
    have keep : ∀ o, h₁.get? b = some o → ((h₁.push { cls := .type "traceback", dict := none, data := .fields ([head, .ref L, .none, rawInt L, .none] ++ (if pl.isEmpty then List.replicate 6 Value.none else pl)).toArray }).update e (Obj.mapFields (·.setIfInBounds 1 (Value.ref h₁.objs.size)))).get? b = some o := fun o hb => by
      rw [Heap.get?_update_other _ _ (Ne.symm hbe)]
      exact Heap.get?_push_of_some _ hb
    refine ⟨fun hS => keep o ((hs₁.2.1 b hS).trans hb), ?_⟩
    obtain ⟨sl, hs⟩ := hs₁.2.2 b o hb
    exact ⟨sl, keep _ hs⟩
  · exact ⟨_, _, .ref h₁.objs.size, he₃, Obj.cls_mapFields _ _, dict_mapFields _ _, hd₃, by simp [hsz], h₁.objs.size, _, _, rfl, Nat.le_of_eq hsz1.symm, hTe, hT₃, rfl, by simp⟩
theorem ExcAt.mono {P P' : Heap → Value → Prop} {h : Heap} {e : Addr} {cls : Value} {dx : Option Addr} (x : ExcAt P h e cls dx) (f : ∀ hd, P h hd → P' h hd) : ExcAt P' h e cls dx :=
  let ⟨oe, vs, hd, a, b, c, d, g, p⟩ := x
  ⟨oe, vs, hd, a, b, c, d, g, f hd p⟩
theorem TbAt.mono {F F' : Addr → Prop} {e : Addr} {x : Value} {h : Heap} {hd : Value} (t : TbAt F e x h hd) (f : ∀ b, F b → F' b) : TbAt F' e x h hd :=
  let ⟨T, oT, ts, a, b, c⟩ := t
  ⟨T, oT, ts, a, f T b, c⟩
def HdOk (F : Addr → Prop) (e L : Addr) (h : Heap) (hd : Value) : Prop := hd = .none ∨ TbAt F e .none h hd ∨ TbAt F e (rawInt L) h hd
def Recs (F : Addr → Prop) (h : Heap) (ch : List Addr) : Prop := ∀ b ∈ ch, F b ∧ ∃ o vs, h.get? b = some o ∧ o.data = .fields vs
theorem stays_refl (S ch : List Addr) (h : Heap) : Stays S ch h h := fun _ o e _ => ⟨fun _ => e, o.slots, e⟩
theorem note_any {F : Addr → Prop} {base : Heap} {env : Env} {outer : List Env} {L e : Addr} {cls : Value} {dx : Option Addr} {Q : Unit → Shared → Prop}
    (hfr : A.frames = some (env :: outer)) (hl : s.heap.FunFrames base (env :: outer)) (hf : env.frame = some L) (hF : ∀ b, s.heap.objs.size ≤ b → F b) (hFe : F e)
    (hx : ExcAt (HdOk F e L) s.heap e cls dx)
    (h : ∀ h' ch, Recs F s.heap ch → s.heap.objs.size ≤ h'.objs.size → Stays ((env :: outer).filterMap (·.frame)) ch s.heap h' → ExcAt (TbAt F e (rawInt L)) h' e cls dx → Q () { s with heap := h' }) :
    wpAny M A (noteFrame (.ref e) env) Q E s := by
  obtain ⟨oe, vs, hd, he, rfl, rfl, hdt, h1, hp⟩ := hx
  have hsz : 1 < vs.size := (Array.getElem?_eq_some_iff.mp h1).1
  unfold noteFrame
  simp only [hf]
  refine wpAny_bind (wpAny_field he hdt h1 ?_)
  rcases hp with rfl | ⟨T, oT, ts, rfl, hFT, hTe, hT, hdT, h3⟩ | ⟨T, oT, ts, rfl, hFT, hTe, hT, hdT, h3⟩
  · rw [if_neg (by decide)]
    exact note_new hfr hl hf he hdt hsz fun h' hs hst hx => h h' [e] (fun b hb => by rw [List.mem_singleton.mp hb]; exact ⟨hFe, _, _, he, hdt⟩) hs hst (hx.mono fun hd t => t.mono hF)
  · rw [if_pos (show (Value.ref T != Value.none) = true from by simp)]
    refine wpAny_bind (wpAny_field hT hdT h3 ?_)
    rw [if_neg (show ¬ ((Value.none == rawInt L) = true) from by simp [rawInt])]
    refine wpAny_bind (wpAny_setField hT hdT (Array.getElem?_eq_some_iff.mp h3).1 ?_)
    have other : ∀ b, b ≠ T → (s.heap.update T (Obj.mapFields (·.setIfInBounds 3 Value.none))).get? b = s.heap.get? b := fun b hb => Heap.get?_update_other _ _ (Ne.symm hb)
    have noRecord : ∀ b o, s.heap.get? b = some o → (∀ vs, o.data ≠ .fields vs) → b ≠ T := fun b o hb hnf q => by
      rw [q, hT] at hb; injection hb with hb; subst hb; exact hnf ts hdT
    have hsz0 : (s.heap.update T (Obj.mapFields (·.setIfInBounds 3 Value.none))).objs.size = s.heap.objs.size := Heap.size_after_update ..
    refine note_new (s := { s with heap := s.heap.update T (Obj.mapFields (·.setIfInBounds 3 Value.none)) }) hfr (hl.of_keeps fun b o hb hnf => ⟨o, (other b (noRecord b o hb hnf)).trans hb, rfl⟩) hf ((other e (Ne.symm hTe)).trans he) hdt hsz fun h' hs hst hx => ?_
    refine h h' [e, T] (fun b hb => ?_) (Nat.le_trans (Nat.le_of_eq hsz0.symm) hs) (fun b o hb hn => ?_) (hx.mono fun hd t => t.mono fun b hb => hF b (Nat.le_trans (Nat.le_of_eq hsz0.symm) hb))
    · rcases List.mem_cons.mp hb with rfl | hb
      · exact ⟨hFe, _, _, he, hdt⟩
      · rw [List.mem_singleton.mp hb]
        exact ⟨hFT, _, _, hT, hdT⟩
    · have hbT : b ≠ T := fun q => hn (by rw [q]; exact List.mem_cons_of_mem _ List.mem_cons_self)
      exact hst b o ((other b hbT).trans hb) fun q => hn (by rw [List.mem_singleton.mp q]; exact List.mem_cons_self)
  · rw [if_pos (show (Value.ref T != Value.none) = true from by simp)]
    refine wpAny_bind (wpAny_field hT hdT h3 ?_)
    rw [if_pos (by simp)]
    exact wpAny_pure (h s.heap [] (fun b hb => nomatch hb) (Nat.le_refl _) (stays_refl _ _ _) ⟨oe, vs, _, he, rfl, rfl, hdt, h1, T, oT, ts, rfl, hFT, hTe, hT, hdT, h3⟩)
theorem flight_any {F : Addr → Prop} {S : List Addr} {e : Addr} {cls x : Value} {dx : Option Addr} {fr : Option Addr} {Q : Unit → Shared → Prop} (hFe : F e) (hx : ExcAt (TbAt F e x) s.heap e cls dx)
    (h : ∀ h' ch, Recs F s.heap ch → s.heap.objs.size ≤ h'.objs.size → Stays S ch s.heap h' → ExcAt (TbAt F e (fr.elim .none fun f => rawInt f)) h' e cls dx → Q () { s with heap := h' }) :
    wpAny M A (setFlight (.ref e) fr) Q E s := by
  obtain ⟨oe, vs, hd, he, rfl, rfl, hdt, h1, T, oT, ts, rfl, hFT, hTe, hT, hdT, h3⟩ := hx
  unfold setFlight
  refine wpAny_bind (wpAny_field he hdt h1 ?_)
  rw [if_pos (show (Value.ref T != Value.none) = true from by simp)]
  have h3s := (Array.getElem?_eq_some_iff.mp h3).1
  refine wpAny_setField hT hdT h3s (h _ [T] (fun b hb => by rw [List.mem_singleton.mp hb]; exact ⟨hFT, _, _, hT, hdT⟩) (Nat.le_of_eq (Heap.size_after_update ..).symm) (fun b o hb hn => ?_) ?_)
  · have hbT : T ≠ b := fun q => hn (by rw [q]; exact List.mem_cons_self)
    have k := (Heap.get?_update_other s.heap (Obj.mapFields (·.setIfInBounds 3 (fr.elim Value.none fun f => rawInt f))) hbT).trans hb
    exact ⟨fun _ => k, o.slots, k⟩
  · have hdT3 := Obj.data_mapFields hdT (·.setIfInBounds 3 (fr.elim Value.none fun f => rawInt f))
    exact ⟨oe, vs, _, (Heap.get?_update_other _ _ hTe).trans he, rfl, rfl, hdt, h1, T, _, _, rfl, hFT, hTe, Heap.get?_update_self _ hT (Obj.isFreed_of_fields hdT3), hdT3, by simp [h3s]⟩
end
def Fr0 (X : Cx) (H : Hp) (b : Addr) : Prop := X.s₀.heap.objs.size ≤ b ∧ H b = none ∧ ∀ p ∈ X.pn, p.1 ≠ b
section
variable {X : Cx} {pins : List (Addr × Obj)} {σ : St} {H : Hp} {s : Shared}
theorem hok_ex {P : Program} {w : World} {H : Hp} {h h' : Heap} (hok : HOk P w H h) (k : ∀ b o, h.get? b = some o → H b ≠ none → h'.get? b = some o) : HOk P w H h' := fun a o e =>
  (hok a o e).stay (fun b u hb q => k b u q (by
    rcases hb with rfl | hb
    · rw [e]; exact fun z => nomatch z
    · rw [hb]; exact fun z => nomatch z)) (fun _ q => q) fun _ _ q => q
theorem Inv.exc {h' : Heap} {ch : List Addr} (I : Inv X [] σ H s) (hr : Recs (Fr0 X H) s.heap ch) (st : Stays (frs X.stack) ch s.heap h') : Inv X [] σ H { s with heap := h' } := by
  have nch : ∀ b, H b ≠ none → b ∉ ch := fun b hb q => hb (hr b q).1.2.1
  have nfr : ∀ b, H b ≠ none → b ∉ frs X.stack := fun b hb q => hb (I.stkFree b q)
  refine Inv.call' (ch := ch) I rfl ⟨fun b o q _ hb hx => (st b o q hx).1 hb, fun b o q _ _ hx => (st b o q hx).2, fun _ _ _ q _ => q, fun b o q hx => ?_, fun _ _ q => q, fun _ _ _ q => q, fun b ps q => ⟨#[], by rw [Array.append_empty]; exact q⟩⟩
    (hok_ex I.hok fun b o q hb => (st b o q (nch b hb)).1 (nfr b hb)) I.bare fun b hb => ?_
  · obtain ⟨sl, z⟩ := (st b o q hx).2
    exact ⟨_, z⟩
  · obtain ⟨⟨h1, h2, h3⟩, o, vs, ho, hd⟩ := hr b hb
    refine ⟨.inr h1, fun q => ?_, fun x c hc q => ?_, fun p hp => ?_⟩
    · obtain ⟨m, ⟨o2, es, ep, ho2, hd2, _⟩, _⟩ := I.loc
      rw [← q, ho] at ho2
      cases ho2
      rw [hd] at hd2
      cases hd2
    · obtain ⟨v, o2, ho2, hd2⟩ := I.cell x c hc
      rw [q, ho] at ho2
      cases ho2
      rw [hd] at hd2
      cases hd2
    · rw [List.append_nil] at hp
      exact h3 p hp
end
def Fly (X : Cx) (E : St → XK) (ev : Value) (s : Shared) : Prop := ∃ e cls dx σ H L, ev = .ref e ∧ X.env.frame = some L ∧ Inv X [] σ H s ∧ Fr0 X H e ∧ ExcAt (HdOk (Fr0 X H) e L) s.heap e cls dx ∧ E σ cls dx H
abbrev CX1 (P : Program) (w : World) : CXT := fun outer H s E ev s' => ∃ e cls dx H', ev = .ref e ∧ s'.os = s.os ∧ AllBare s'.gens ∧ Un (frs outer) [] H H' s.heap s'.heap ∧ HOk P w H' s'.heap ∧
  (s.heap.objs.size ≤ e ∧ H' e = none) ∧ ExcAt (TbAt (fun b => s.heap.objs.size ≤ b ∧ H' b = none) e .none) s'.heap e cls dx ∧ E cls dx H'
section
variable {X : Cx} {pins : List (Addr × Obj)} {σ : St} {H : Hp} {s : Shared}
theorem Inv.nopins (I : Inv X pins σ H s) : Inv X [] σ H s := ⟨I.ok, I.os, I.bare, I.base, I.loc, I.cell, I.free, I.freeC, fun p hp => I.pin p (List.mem_append_left _ (by rwa [List.append_nil] at hp)), I.hok, I.len⟩
theorem Inv.pnlt (I : Inv X pins σ H s) {b : Addr} (h : s.heap.objs.size ≤ b) : ∀ p ∈ X.pn, p.1 ≠ b := fun p hp q => by
  have := Heap.lt_size (I.pin p (List.mem_append_left _ hp)).1
  exact absurd (Nat.lt_of_lt_of_le this h) (by rw [q]; exact Nat.lt_irrefl _)
theorem Inv.fr0 (I : Inv X pins σ H s) {b : Addr} (h : s.heap.objs.size ≤ b) : Fr0 X H b := ⟨Nat.le_trans I.sz h, I.hok.fresh h, I.pnlt h⟩
theorem fly_note {E : St → XK} {A : Around} {M : Model} {ev : Value} {N : Value → Shared → Prop} {Q : Unit → Shared → Prop} (hA : A.frames = some X.stack) (hst : X.stack = X.env :: X.outer) (h : Fly X E ev s)
    (q : ∀ h' e cls dx σ H L, ev = .ref e → X.env.frame = some L → Inv X [] σ H { s with heap := h' } → Fr0 X H e → ExcAt (TbAt (Fr0 X H) e (rawInt L)) h' e cls dx → E σ cls dx H → Q () { s with heap := h' }) :
    wpAny M A (noteFrame ev X.env) Q N s := by
  obtain ⟨e, cls, dx, σ, H, L, rfl, hL, I, he, hx, hE⟩ := h
  have hl := I.stack
  rw [hst] at hA hl
  refine note_any hA hl hL (fun b hb => I.fr0 hb) he hx fun h' ch hr hs st hx' => ?_
  exact q h' e cls dx σ H L rfl hL (I.exc hr (by rw [hst]; exact st)) he hx' hE
theorem fly_mark {A : Around} {M : Model} {N : Value → Shared → Prop} {Q : Unit → Shared → Prop} {e : Addr} {cls x : Value} {dx fr : Option Addr} (I : Inv X [] σ H s) (he : Fr0 X H e)
    (hx : ExcAt (TbAt (Fr0 X H) e x) s.heap e cls dx) (q : ∀ h', Inv X [] σ H { s with heap := h' } → ExcAt (TbAt (Fr0 X H) e (fr.elim .none fun f => rawInt f)) h' e cls dx → Q () { s with heap := h' }) :
    wpAny M A (setFlight (.ref e) fr) Q N s :=
  flight_any (S := frs X.stack) he hx fun h' _ hr _ st hx' => q h' (I.exc hr st) hx'
theorem fly_own {E : St → XK} {M : Model} (hst : X.stack = X.env :: X.outer) : PassesOwn M X.A X.env (Fly X E) := by
  intro ev s h
  have hA : X.A.frames = some X.stack := let ⟨_, _, _, _, _, _, _, _, I, _⟩ := h; I.ok.frames
  refine fly_note hA hst h fun h' e cls dx σ H L hev hL I he hx hE => ?_
  subst hev
  obtain ⟨oe, vs, hd, ho, hc, hdi, hdt, h1, T, oT, ts, rfl, r⟩ := id hx
  unfold cameBackBy
  refine wpAny_bind (wpAny_field (s := { s with heap := h' }) ho hdt h1 ?_)
  rw [if_neg (show ¬ ((Value.ref T == Value.none) = true) from by simp)]
  rw [hL]
  exact fly_mark (s := { s with heap := h' }) (fr := some L) I he hx fun h2 I2 hx2 => ⟨e, cls, dx, σ, H, L, rfl, hL, I2, he, hx2.mono fun hd t => .inr (.inr t), hE⟩
theorem PSs.wishTo {E' : Value → Shared → Prop} {st : List Stmt} {t : TS} (h : PSs (X.wish E') st t) (hE : ∀ e s, E' e s → X.xe e s) : PSs X st t := fun pins s σ H D I hw =>
  wpAny_mono (h pins s σ H D (I.wish _) hw) (fun _ _ q => q.unwish) hE
end
def tCallS (sp : Sp) (E : St → XK) (t : TA) : TE := fun σ H Q => t σ H fun vs H1 => sp vs H1 Q (E σ)
section
variable {X : Cx} {k : Nat} {f L : Addr} {fd : FuncData} {ps : List Str} {sp : Sp} {E : St → XK} {x : Str} {p pos : Pos} {e : Expr} {es : List Expr} {t : TA}
theorem run_fnX {pins : List (Addr × Obj)} {σ : St} {H : Hp} {s : Shared} {Q : VK} {us : List Value} {vs : List V} (hL : X.env.frame = some L) (F : FnOk X.prog X.w X.K X.mg X.base (CX1 X.prog X.w) k f fd ps sp) (hr : Room k X.A) (hb : Binds X.K fd ps [])
    (I : Inv (X.wish (Fly X E)) pins σ H s) (r : Vals vs us) (h : sp vs H Q (E σ)) : wpAny (model X.prog X.w) X.A (call (.ref f) us) (EP (X.wish (Fly X E)) pins σ Q) (Fly X E) s := by
  have hl : (us ++ []).length = ps.length := by rw [List.append_nil, ← r.length]; exact F.len _ _ _ _ h
  have hb0 := hb s us I.kIn hl
  rw [List.append_nil] at hb0
  refine wpAny_call (codeAny_mono (F.run X.A X.stack s H ⟨us, []⟩ us vs Q (E σ) hr I.env0 hb0 r h) fun r s' hq => ?_)
  cases r with
  | error ev =>
    have hq : CX1 X.prog X.w X.stack H s (E σ) ev s' := hq
    obtain ⟨e, cls, dx, H', rfl, os, bare, un, hok, ⟨h1, h2⟩, hx, hE⟩ := hq
    have I0 := I.unwish
    have I1 : Inv X pins σ H' s' := I0.call' (ch := []) os un hok bare fun b z => absurd z (by simp)
    exact ⟨e, cls, dx, σ, H', L, rfl, hL, I1.nopins, ⟨Nat.le_trans I0.sz h1, h2, I0.pnlt h1⟩, hx.mono fun hd t => .inr (.inl (t.mono fun b hb => ⟨Nat.le_trans I0.sz hb.1, hb.2, I0.pnlt hb.1⟩)), hE⟩
  | ok fl =>
    cases fl with
    | ret u => exact I.after hq
    | next => exact False.elim hq
    | brk => exact False.elim hq
    | cont => exact False.elim hq
theorem pe_callX (hL : X.env.frame = some L) (F : FnOk X.prog X.w X.K X.mg X.base (CX1 X.prog X.w) k f fd ps sp) (hr : Room k X.A) (hg : Gl X x) (hm : X.mg x = some (.ref f)) (hk : PySem.W.keepIn X.K (.ref f) = true) (hb : Binds X.K fd ps [])
    (ha : PA (X.wish (Fly X E)) (e :: es) t) (hdb : (x == ("__debug__" : Str)) = false := by decide) (he : starEach (e :: es) X.env = (false, eval e X.env) :: starEach es X.env := by rfl) (hpl : (backTo pos (starEach es X.env)).any (·.1) = false := by rfl) :
    PE (X.wish (Fly X E)) (.Call (.Name x p) (e :: es) [] pos) (tCallS sp E t) := by
  intro pins s σ H Q I h
  refine wpAny_Call_Name_kw (ld_glob I hg hm ?_ hdb)
  refine PySem.W.callWith_K (h₀ := X.base) I.ok.mod.kin hk (thn (ha pos pins s σ H _ I h) fun us s1 ⟨vs, H1, I1, r, q⟩ => ⟨I1.kIn, ?_⟩) he hpl
  exact run_fnX hL F hr hb I1 r q
end
section
variable {P : Program} {w : World} {K : PySem.W.Frag} {mg : Str → Option Value} {base : Heap}
abbrev cxF (P : Program) (w : World) (K : PySem.W.Frag) (mg : Str → Option Value) (base : Heap) (N : List Str) (qual : Str) (scope : Scope) (f : Addr) (cd : Value) (A : Around) (outer : List Env) (s : Shared) (H : Hp) (E : XK) : Cx :=
  (cxOf (CX1 P w) P w K mg base N qual scope f cd A outer s H E).wish (Fly (cxOf (CX1 P w) P w K mg base N qual scope f cd A outer s H E) fun _ => E)
theorem fly_leaves {N : List Str} {qual : Str} {scope : Scope} {f : Addr} {cd : Value} {A : Around} {outer : List Env} {s : Shared} {H : Hp} {E : XK} :
    ∀ ev s', Fly (cxOf (CX1 P w) P w K mg base N qual scope f cd A outer s H E) (fun _ => E) ev s' → (cxOf (CX1 P w) P w K mg base N qual scope f cd A outer s H E).xe ev s' := by
  intro ev s' h
  show wpAny (model P w) (A.deeper (envOfC qual scope s.heap.objs.size f cd)) (leaving (envOfC qual scope s.heap.objs.size f cd) ev) _ _ s'
  unfold leaving
  refine wpAny_bind (fly_note (X := cxOf (CX1 P w) P w K mg base N qual scope f cd A outer s H E) (let ⟨_, _, _, _, _, _, _, _, I, _⟩ := h; I.ok.frames) rfl h fun h' e cls dx σ H1 L hev hL I he hx hE => ?_)
  subst hev
  refine fly_mark (s := { s' with heap := h' }) (fr := none) I he hx fun h2 I2 hx2 => ?_
  exact ⟨e, cls, dx, H1, rfl, I2.os, I2.bare, I2.base, I2.hok, ⟨he.1, he.2.1⟩, hx2.mono fun hd t => t.mono fun b hb => ⟨hb.1, hb.2.1⟩, hE⟩
theorem Fun.okX {x qual : Str} {st : Stmt} {f : Addr} {fd : FuncData} {N ps : List Str} {k : Nat} {sp : Sp} (F : Fun K x qual st f fd) (S : FnScope N ps (defScope st)) (len : ∀ vs H Q E, sp vs H Q E → vs.length = ps.length)
    (hbody : ∀ (cdv : Value) (A : Around) (outer : List Env) (s : Shared) (H : Hp) (vs : List V) (Q : VK) (E : XK), Room k (A.deeper (envOfC qual (defScope st) s.heap.objs.size f cdv)) → sp vs H Q E →
      ∃ t, PSs (cxF P w K mg base N qual (defScope st) f cdv A outer s H E) (defBody st) t ∧ t { nx := fun _ H' => Q .non H', rt := Q } (start N vs) H) : FnOk P w K mg base (CX1 P w) (k + 1) f fd ps sp := by
  obtain ⟨oc, od, kV, doc, pm, an, cdv, ct, osl, rfl, lk, hcd⟩ := F.ex
  refine fn_of lk hcd S len fun A outer s H vs Q E hr hsp => ?_
  obtain ⟨t, h, q⟩ := hbody cdv A outer s H vs Q E hr hsp
  exact ⟨t, h.wishTo fly_leaves, q⟩
end
end L2
namespace L2
open PySem PySem.Spec PyProof.Rows PySem.W PySem.Calls
abbrev bmV : List Value := [.type "ValueError", .type "Exception", .type "BaseException", .type "object"]
section
variable {prog : Program} {w : World} {A : Around} {R : Result → Shared → Prop} {h : Heap} {g : Array GenState} {d : Drawn} {t : Nat} {os : OsState}
variable {nm q : Str} {C N : Addr} {bs bm : List Value} {hdct : Bool} {sn : List Str} {sub : List Value} {ab : Bool} {col : Option Bool} {dd : Option Addr} {k0 k1 k2 k3 k5 : Option Value}
abbrev excObj (C : Addr) (t : Addr) (dx : Option Addr) : Obj := { cls := .ref C, dict := dx, data := .fields #[.ref t, .none, .none, .none, .bool false, .none] }
theorem exc_type_call {E : Value → Shared → Prop} {f : Addr} {mN : Str → Option Value} {rest : List Value} {Q : Fin → Shared → Prop} (T : OwnTail h bmV bm) (hC : h.get? C = some (excClassObj nm q C N bs bm hdct sn sub ab col dd k0 k1 k2 k3 k5 "ValueError.__new__")) (hn : h.Ns N mN)
    (hni : mN "__init__" = some (.ref f)) (hb : ∀ self, Looks (model prog w) h (bindSpecial (.ref f) self) (.ref f, [self])) (hrest : rest.length ≤ sizeLine)
    (hq : codeAny (model prog w) A (.call (.ref f) ⟨.ref (h.objs.size + 1) :: rest, []⟩) (fun r s' => match r with | .ok (.ret v) => v = .none ∧ Q (.done (.ret (.ref (h.objs.size + 1)))) s' | .ok _ => False | .error x => E x s')
      ⟨(h.push { cls := .type "tuple", data := .seq rest.toArray }).push (excObj C h.objs.size none), g, d, t, os⟩) :
    wpAny (model prog w) A (Builtin.«type.__call__» ⟨.ref C :: rest, []⟩) Q E ⟨h, g, d, t, os⟩ := by
  have F := PySem.F.excBase_ValueError
  have hBn : bmV.contains (.type "ValueError") = true := by decide
  repeat (first | with_reducible refine wpAny_loadPart_at hC ?_ | with_reducible refine wpAny_madeBy_exc hC ?_ | wp_step)
  refine codeAny_call_builtin_code (Code.quiet_builtin _ F.quiet) (wpAny_check_new_subU F hBn T hC ?_)
  refine codeAny_exc_new_subU F hBn F T hC ?_ hrest
  show wpAny _ _ _ _ _ _
  have hC₁ := Heap.get?_push_of_some { cls := .ref C, data := .fields #[.ref h.objs.size, .none, .none, .none, .bool false, .none] }
    (Heap.get?_push_of_some { cls := .type "tuple", data := .seq rest.toArray } hC)
  have hn₁ : ((h.push { cls := .type "tuple", data := .seq rest.toArray }).push { cls := .ref C, data := .fields #[.ref h.objs.size, .none, .none, .none, .bool false, .none] }).Ns N mN :=
    let ⟨o, es, ep, e, r⟩ := hn; ⟨o, es, ep, Heap.get?_push_of_some _ (Heap.get?_push_of_some _ e), r⟩
  have hget : ((h.push { cls := .type "tuple", data := .seq rest.toArray }).push
      { cls := .ref C, data := .fields #[.ref h.objs.size, .none, .none, .none, .bool false, .none] }).get? (h.objs.size + 1) = some
      { cls := .ref C, data := .fields #[.ref h.objs.size, .none, .none, .none, .bool false, .none] } := by heap_get
  have hcC : (Value.ref C :: bm).contains (.ref C) = true := by simp
  have T₁ := T.keeps (h' := (h.push { cls := .type "tuple", data := .seq rest.toArray }).push { cls := .ref C, data := .fields #[.ref h.objs.size, .none, .none, .none, .bool false, .none] })
    fun b o e => Heap.get?_push_of_some _ (Heap.get?_push_of_some _ e)
  have b1 := (hb (.ref (h.objs.size + 1))).keeps (h' := (h.push { cls := .type "tuple", data := .seq rest.toArray }).push { cls := .ref C, data := .fields #[.ref h.objs.size, .none, .none, .none, .bool false, .none] })
    fun b o e => Heap.get?_push_of_some _ (Heap.get?_push_of_some _ e)
  unfold isInstance
  repeat (first | with_reducible refine wpAny_loadPart_at hget ?_ | (with_reducible refine wpAny_isSubtype_exc hC₁ ?_; rw [hcC]) | wp_step)
  show wpAny _ _ (typeLookup (.ref C) _) _ _ _
  refine wpAny_typeLookup_tail hC₁ hn₁ T₁ F.mroIs F.init.lookup ?_
  rw [hni]
  refine wpAny_holding (wpAny_bind (b1.here ?_))
  refine wpAny_bind (wpAny_call ?_)
  refine codeAny_mono hq fun r s' z => ?_
  rcases r with e | (v | _ | _ | _) <;> first | exact z | exact z.elim | skip
  obtain ⟨rfl, z⟩ := z
  exact wpAny_pure (wpAny_pure z)
theorem exc_core {f : Addr} {mN : Str → Option Value} {rest : List Value} (T : OwnTail h bmV bm) (hC : h.get? C = some (excClassObj nm q C N bs bm hdct sn sub ab col dd k0 k1 k2 k3 k5 "ValueError.__new__")) (hn : h.Ns N mN)
    (hni : mN "__init__" = some (.ref f)) (hb : ∀ self, Looks (model prog w) h (bindSpecial (.ref f) self) (.ref f, [self])) (hrest : rest.length ≤ sizeLine)
    (hq : codeAny (model prog w) (A.under (.builtin "type.__call__" ⟨.ref C :: rest, []⟩)) (.call (.ref f) ⟨.ref (h.objs.size + 1) :: rest, []⟩) (InitBack (h.objs.size + 1) R)
      ⟨(h.push { cls := .type "tuple", data := .seq rest.toArray }).push (excObj C h.objs.size none), g, d, t, os⟩) :
    codeAny (model prog w) A (.call (.ref C) ⟨rest, []⟩) R ⟨h, g, d, t, os⟩ := by
  have f1 := tc_lookup
  have f2 := PySem.tc_bind (.ref C)
  have hT : (⟨h, g, d, t, os⟩ : Shared).TypeIs (.ref C) "type" := ⟨_, hC, rfl⟩
  refine codeAny_of_tree ?_
  show wpAny _ _ (callAny (.ref C) _) _ _ _
  repeat (any_goals (first | assumption | with_reducible refine wpAny_loadPart_at hC ?_ | wp_step))
  refine ⟨rfl, ?_⟩
  refine codeAny_call_builtin_at (Code.quiet_builtin _ (by decide +kernel)) entry_typeCall (wpAny_check_type_call_sub hC ?_)
  exact exc_type_call T hC hn hni hb hrest (codeAny_mono hq fun r s' z => by
    rcases r with e | (v | _ | _ | _) <;> first | exact z | exact z.elim)
end
theorem ns_some_of {K : PySem.W.Frag} {h : Heap} {N : Addr} {mg : Str → Option Value} {n : Str} {v : Value} (X : K.In h) (G : h.Ns N mg) (e : nsIn K N n = some (some v)) : mg n = some v := by
  obtain ⟨o, es, ep, ho, hd, _, hf⟩ := G
  unfold nsIn at e
  split at e
  · rename_i c d es' n' sl q
    have := X _ _ q
    rw [ho] at this
    cases this
    cases hd
    split at e
    · rename_i en he
      cases e
      rw [← hf]
      unfold nsFind findBy
      rw [← Array.find?_toList, he]
      rfl
    · split at e <;> cases e
  · cases e
def xclsIn (K : PySem.W.Frag) (C : Addr) (init : Option Addr) : Bool := match K.lookup C with
  | some ⟨.type "type", _, .cls cd, sl⟩ => (match cd.mro, sl.toList with
    | .ref C' :: bm, [_, _, _, _, some (.builtin n), _] => C' == C && n == "ValueError.__new__" && !cd.hasDel && tailIn K bmV bm && nsOkIn K cd.ns && nsIn K cd.ns "__init__" == some (init.map Value.ref)
    | _, _ => false)
  | _ => false
theorem xcls_of {K : PySem.W.Frag} {h : Heap} {C : Addr} {init : Option Addr} (X : K.In h) (q : xclsIn K C init = true) :
    ∃ bm N nm qn bs hd sn sub ab col dd k0 k1 k2 k3 k5 mN, h.get? C = some (excClassObj nm qn C N bs bm hd sn sub ab col dd k0 k1 k2 k3 k5 "ValueError.__new__") ∧ h.Ns N mN ∧ mN "__init__" = init.map Value.ref ∧ OwnTail h bmV bm := by
  unfold xclsIn at q
  split at q
  · rename_i dd cd sl ho
    split at q
    · rename_i C' bm k0 k1 k2 k3 n k5 hm hs
      simp only [Bool.and_eq_true, beq_iff_eq, Bool.not_eq_true'] at q
      obtain ⟨⟨⟨⟨⟨rfl, rfl⟩, hdel⟩, ht⟩, hok⟩, hni⟩ := q
      obtain ⟨nm, bs, mro, ns, qn, hd, sn, sub, ab, col, del⟩ := cd
      dsimp only at hm hdel hok hni
      subst hm hdel
      have hsl : sl = #[k0, k1, k2, k3, some (.builtin "ValueError.__new__"), k5] := by
        obtain ⟨l⟩ := sl
        simp only at hs
        rw [hs]
      subst hsl
      have G : h.Ns ns (h.nsMap ns) := .of_isNs (isNs_of_in X hok)
      refine ⟨bm, ns, nm, qn, bs, hd, sn, sub, ab, col, dd, k0, k1, k2, k3, k5, _, X _ _ ho, G, ?_, tail_of_in X ht⟩
      cases init with
      | none => exact ns_none_of X G hni
      | some f => exact ns_some_of X G hni
    · cases q
  · cases q
theorem xcls_same {K : PySem.W.Frag} {h h' : Heap} {C : Addr} {init : Option Addr} (X : K.In h) (X' : K.In h') (q : xclsIn K C init = true) : h'.get? C = h.get? C := by
  unfold xclsIn at q
  split at q
  · rename_i ho
    rw [X _ _ ho, X' _ _ ho]
  · cases q
abbrev XO (e C : Addr) (dx : Option Addr) : HO := .ext fun h => ∃ t, h.get? e = some (excObj C t dx)
structure MkX (K : PySem.W.Frag) (C f : Addr) : Prop where
  cls : xclsIn K C (some f) = true
  fn : PySem.W.isFn K (.ref f) = true
  kp : PySem.W.keepIn K (.ref C) = true
def tExc (C : Addr) (sp : Sp) (t : TA) : TE := fun σ H Q => t σ H fun vs H1 => vs.length ≤ 10 ∧ ∀ e, H1 e = none → sp (.ref e :: vs) (upd H1 e (XO e C none)) (fun v H2 => v = .non ∧ Q (.ref e) H2) E0
section
variable {X : Cx} {CX : CXT} {k : Nat} {f C : Addr} {fd : FuncData} {ps : List Str} {sp : Sp} {x m : Str} {p pos apos : Pos} {e o : Expr} {es : List Expr} {ta : TE} {t : TA} {pins : List (Addr × Obj)} {σ : St} {H : Hp} {s : Shared}
theorem Inv.exmade {vs : List Value} (I : Inv X pins σ H s) : Inv X pins σ (upd H (s.heap.objs.size + 1) (XO (s.heap.objs.size + 1) C none))
    { s with heap := (s.heap.push { cls := .type "tuple", data := .seq vs.toArray }).push (excObj C s.heap.objs.size none) } := by
  have e2 : ((s.heap.push { cls := .type "tuple", data := .seq vs.toArray }).push (excObj C s.heap.objs.size none)).get? (s.heap.objs.size + 1) = some (excObj C s.heap.objs.size none) := by
    have := Heap.get?_push_size (s.heap.push { cls := .type "tuple", data := .seq vs.toArray }) (o := excObj C s.heap.objs.size none) rfl
    rwa [Heap.size_push] at this
  refine I.laid (t' := s.toks) (fun b u q => Heap.get?_push_of_some _ (Heap.get?_push_of_some _ q)) (Nat.le_succ _) ⟨⟨_, e2⟩, ⟨_, e2⟩, ?_⟩
  rintro h1 h2 ⟨t, e⟩ k
  exact ⟨t, k _ e⟩
theorem run_excAt {Q : VK} {us : List Value} {vs : List V} (M : MkX X.K C f) (F : FnOk X.prog X.w X.K X.mg X.base CX0 k f fd ps sp) (hr : Room (k + 1) X.A) (hb : Binds X.K fd ps []) (I : Inv X pins σ H s) (r : Vals vs us) (hlen : vs.length ≤ 10)
    (hq : sp (.ref (s.heap.objs.size + 1) :: vs) (upd H (s.heap.objs.size + 1) (XO (s.heap.objs.size + 1) C none)) (fun v H2 => v = .non ∧ Q (.ref (s.heap.objs.size + 1)) H2) E0) :
    wpAny (model X.prog X.w) X.A (call (.ref C) us) (EP X pins σ Q) X.xe s := by
  have I2 := Inv.exmade (C := C) (vs := us) I
  have r2 : Vals (V.ref (s.heap.objs.size + 1) :: vs) (Value.ref (s.heap.objs.size + 1) :: us) := .cons rfl r
  have hl : (Value.ref (s.heap.objs.size + 1) :: us ++ []).length = ps.length := by
    have e := r2.length
    rw [F.len _ _ _ _ hq] at e
    rw [List.append_nil]
    exact e.symm
  obtain ⟨bm, N, nm, qn, bs, hd, sn, sub, ab, col, dd, k0, k1, k2, k3, k5, mN, hC, hn, hni, T⟩ := xcls_of I.kIn M.cls
  have hus : us.length ≤ sizeLine := smallL (by have := r.length; omega)
  have hb0 := hb { s with heap := (s.heap.push { cls := .type "tuple", data := .seq us.toArray }).push (excObj C s.heap.objs.size none) } (Value.ref (s.heap.objs.size + 1) :: us) I2.kIn hl
  rw [List.append_nil] at hb0
  obtain ⟨hp, g, d, tk, os⟩ := s
  refine wpAny_call (exc_core T hC hn hni (fun self => bind_fn I.kIn self (beq_iff_eq.mp M.fn)) hus (codeAny_mono (F.run _ X.stack _ _ ⟨Value.ref (hp.objs.size + 1) :: us, []⟩ (Value.ref (hp.objs.size + 1) :: us) _ _ E0 (hr.make C us [])
    (I2.env0.make C us []) hb0 r2 hq) fun r s' hq' => ?_))
  cases r with
  | error e => exact False.elim hq'
  | ok fl =>
    cases fl with
    | ret u =>
      obtain ⟨v, H', I3, rv, ev, q3⟩ := I2.after hq'
      subst ev
      exact ⟨rv, ⟨V.ref (hp.objs.size + 1), H', I3, rfl, q3⟩⟩
    | next => exact False.elim hq'
    | brk => exact False.elim hq'
    | cont => exact False.elim hq'
end
end L2
namespace L2
open PySem PySem.Spec PyProof.Rows PySem.W PySem.Calls Builtin Builtin.ObjectAttr
theorem get_push_lt {h : Heap} {o : Obj} {b : Addr} (hb : b < h.objs.size) : (h.push o).get? b = h.get? b := by
  have e : (h.push o).objs[b]? = h.objs[b]? := by
    cases h
    simp [Heap.push, Array.getElem?_push]
    intro q
    exact absurd q (Nat.ne_of_lt hb)
  unfold Heap.get?
  rw [e]
def xTail : List Value → Bool
  | [] => false
  | .ref c :: r => xTail r
  | v :: r => (v :: r) == bmV
theorem refuse_x (self : Value) : ∀ {l : List Value}, xTail l = true → refuseLoop self "__setattr__" l = pure () ∧ l.contains (.type "object") = true
  | [], e => by cases e
  | v :: r, e => by
    cases v with
    | ref c =>
      have ih := refuse_x self (l := r) e
      rw [refuseLoop_ref, List.contains_cons, ih.2]
      exact ⟨ih.1, Bool.or_true _⟩
    | _ =>
      have e2 := beq_iff_eq.mp (show ((_ :: r) == bmV) = true from e)
      rw [e2]
      exact ⟨PySem.F.store_ValueError.passes self, by decide⟩
section
variable {prog : Program} {w : World} {A : Around} {K : PySem.W.Frag} {C x : Addr} {s : Shared} {R : Result → Shared → Prop}
theorem osx_open {ox : Obj} {od : Option Obj} {name : Str} {tk : Tok} {v : Value} {cd : ClassData} (X : K.In s.heap) (I : PySem.W.InstAt s.heap x ox C od) (hc : clsIn K C = some cd) (ho : xTail cd.mro = true) (ha : findIn K (.ref C) name = some none)
    (h : wpAny (model prog w) A.in1 (storeInOwnDict (.ref x) (.ref C) (.str name tk) name v false)
      (fun fin s' => match fin with | .done f => R (.ok f) s' | .again c' => c'.quiet = true ∧ codeAny (model prog w) A c' R s') (fun e s' => R (.error e) s') s) :
    codeAny (model prog w) A (.call (.builtin "object.__setattr__") ⟨[.ref x, .str name tk, v], []⟩) R s := by
  have SF := PySem.F.store_object
  have ne : cd.mro.isEmpty = false := by cases q : cd.mro with | nil => rw [q] at ho; cases ho | cons _ _ => rfl
  have sub : Looks (model prog w) s.heap (isInstance (.ref x) (.type "object")) true := I.type.andThen (looks_mroIn X (by unfold mroIn; rw [hc, Option.bind_some, if_neg (by rw [ne]; decide), (refuse_x (.ref x) ho).2]))
  refine codeAny_call_builtin SF.slot.plain SF.entry (@check_slot (model prog w) _ _ s "object.__setattr__" "object" "__setattr__" (.ref x) [.str name tk, v] [] _ SF.kind SF.split sub (SF.args (.ref x) (.str name tk) v) ?_)
  have hm : Looks (model prog w) s.heap (mroOf (.ref C)) cd.mro := (looks_clsIn X hc).andThen .now
  rw [osa_eq, refuse_eq]
  refine wpAny_bind (wpAny_bind (I.type.here (wpAny_bind (hm.here ?_))))
  rw [(refuse_x (.ref x) ho).1]
  refine wpAny_pure (wpAny_bind (I.type.here (wpAny_bind ((looks_findIn X ha).here (wpAny_bind ?_)))))
  exact wpAny_pure h
structure XF (K : PySem.W.Frag) (C : Addr) (f : Str) : Prop where
  cd : ∃ cd, clsIn K C = some cd ∧ xTail cd.mro = true ∧ cd.hasDict = true
  sa : findIn K (.ref C) "__setattr__" = some (some (.builtin "object.__setattr__"))
  no : findIn K (.ref C) f = some none
theorem set_exc {E : Value → Shared → Prop} {t : Addr} {name : Str} {v : Value} {Q : Unit → Shared → Prop} (X : K.In s.heap) (hx : s.heap.get? x = some (excObj C t none)) (F : XF K C name)
    (h : ∀ h' k, s.heap.objs.size ≤ h'.objs.size → (∀ b o, b ≠ x → s.heap.get? b = some o → h'.get? b = some o) → h'.get? x = some (excObj C t (some s.heap.objs.size)) → h'.Ns1 s.heap.objs.size (fun y => if y = name then some v else none) → Q () { s with heap := h', toks := k }) :
    wpAny (model prog w) A (setAttr (.ref x) name v) Q E s := by
  obtain ⟨⟨cd, hc, ht, hd⟩, hsa, hno⟩ := F
  have J : PySem.W.InstAt s.heap x (excObj C t none) C none := ⟨hx, rfl, rfl, True.intro⟩
  refine set_plain X J hsa (osx_open (s := { s with toks := s.toks + 1 }) X J hc ht hno ?_)
  have hxd : x ≠ s.heap.objs.size := Nat.ne_of_lt (Heap.lt_size hx)
  refine wpAny_bind (wpAny_pure (wpAny_bind (wpAny_bind (wpAny_loadPart (s := { s with toks := s.toks + 1 }) hx (wpAny_bind (PySem.W.Looks.here (s := { s with toks := s.toks + 1 }) (looks_clsIn X hc) ?_))))))
  rw [hd]
  show wpAny _ _ (do
    let d ← alloc { cls := Value.type "dict", data := Data.dict #[] }
    update x fun o => { o with dict := some d }
    dictMade (.ref C) x d) _ _ _
  refine wpAny_bind (wpAny_alloc (wpAny_bind ?_))
  have hx1 := Heap.get?_push_of_some (h := s.heap) emptyDict hx
  refine wpAny_update (o := excObj C t none) (s := { s with heap := s.heap.push emptyDict, toks := s.toks + 1 }) hx1 ?_
  show wpAny _ _ (pure (some s.heap.objs.size)) _ _ _
  refine wpAny_pure ?_
  have e1 : (s.heap.push emptyDict).get? s.heap.objs.size = some emptyDict := Heap.get?_push_size s.heap rfl
  have e2 : ((s.heap.push emptyDict).update x fun o => { o with dict := some s.heap.objs.size }).get? s.heap.objs.size = some emptyDict := (Heap.get?_update_other _ _ hxd).trans e1
  have e3 : ((s.heap.push emptyDict).update x fun o => { o with dict := some s.heap.objs.size }).get? x = some (excObj C t (some s.heap.objs.size)) := Heap.get?_update_self _ hx1 rfl
  have n1 : ((s.heap.push emptyDict).update x fun o => { o with dict := some s.heap.objs.size }).Ns1 s.heap.objs.size (fun _ => none) := Heap.Ns1.of_empty ⟨emptyDict, #[], _, e2, rfl, (fun e he => absurd he (by simp)), fun _ => rfl⟩
  have k1 : ∀ b o, b ≠ x → s.heap.get? b = some o → ((s.heap.push emptyDict).update x fun o => { o with dict := some s.heap.objs.size }).get? b = some o := fun b o hb q => (Heap.get?_update_other _ _ (Ne.symm hb)).trans (Heap.get?_push_of_some _ q)
  have z1 : ((s.heap.push emptyDict).update x fun o => { o with dict := some s.heap.objs.size }).objs.size = s.heap.objs.size + 1 := by rw [Heap.size_after_update, Heap.size_push]
  generalize ((s.heap.push emptyDict).update x fun o => { o with dict := some s.heap.objs.size }) = h1 at e2 e3 n1 k1 z1 ⊢
  refine wpAny_bind (wpAny_pure (wpAny_bind ?_))
  refine wpAny_nsSet1 (s := { s with heap := h1, toks := s.toks + 1 }) n1 fun h' hn2 hs2 => ?_
  obtain ⟨oD, esD, epD, hoD, hdD, hcD⟩ := hn2.count (PySem.Within.cons (ns := []) name v (fun y hy => absurd rfl hy))
  refine wpAny_bind (wpAny_lookBehind hoD (by rw [hdD]; exact pastItsLine_dict (Nat.le_trans hcD (Nat.le_trans (smallL (show 1 ≤ 100000 by decide)) (Nat.le_succ _)))) ?_)
  refine wpAny_pure (h h' _ ?_ (fun b o hb q => ?_) ?_ hn2)
  · rw [hs2.1]
    show s.heap.objs.size ≤ h1.objs.size
    omega
  · have hbd : b ≠ s.heap.objs.size := Nat.ne_of_lt (Heap.lt_size q)
    exact (hs2.2 b hbd).trans (k1 b o hb q)
  · exact (hs2.2 x hxd).trans e3
end
section
variable {X : Cx} {pins : List (Addr × Obj)} {σ : St} {H : Hp} {s : Shared}
theorem Inv.exset {e C t : Addr} {y : V} {u : Value} {f : Str} {h' : Heap} {k : Nat} (I : Inv X pins σ H s) (he : H e = some (XO e C none)) (ry : RelV y u)
    (k1 : ∀ b o, b ≠ e → s.heap.get? b = some o → h'.get? b = some o) (e3 : h'.get? e = some (excObj C t (some s.heap.objs.size))) (n1 : h'.Ns1 s.heap.objs.size (fun z => if z = f then some u else none)) :
    Inv X pins σ (upd (upd H s.heap.objs.size (.xd [(f, y)])) e (XO e C (some s.heap.objs.size))) { s with heap := h', toks := k } := by
  obtain ⟨oD, es, ep, hoD, r⟩ := id n1
  have hfr : oD.isFreed = false := (Heap.get?_some_iff.mp hoD).2
  have g1 : (s.heap.push oD).get? s.heap.objs.size = some oD := Heap.get?_push_size s.heap hfr
  have hed : e ≠ s.heap.objs.size := Nat.ne_of_lt (I.hok.lt he)
  have I1 := I.laid (a := s.heap.objs.size) (o := .xd [(f, y)]) (h' := s.heap.push oD) (t' := s.toks) (fun b u q => Heap.get?_push_of_some _ q) (Nat.le_refl _) ⟨_, ⟨oD, es, ep, g1, r⟩, fun g => by
    show RelO (List.lookup g [(f, y)]) (if g = f then some u else none)
    by_cases q : g = f
    · rw [if_pos q, q]
      simp
      exact ry
    · rw [if_neg q]
      have : List.lookup g [(f, y)] = none := by simp [q]
      rw [this]
      exact True.intro⟩
  refine I1.write (x := e) (e := e) (h' := h') (o := XO e C (some s.heap.objs.size)) (t' := k) (by rw [upd_ne hed, he]; exact True.intro) (.inl rfl) (fun b v hb q => ?_) ⟨_, e3⟩ ⟨⟨_, e3⟩, ⟨_, e3⟩, ?_⟩
  · by_cases hbd : b = s.heap.objs.size
    · subst hbd
      rw [g1] at q
      cases q
      exact hoD
    · refine k1 b v hb ?_
      have hlt := Heap.lt_size q
      rw [Heap.size_push] at hlt
      have hlt2 : b < s.heap.objs.size := Nat.lt_of_le_of_ne (Nat.lt_succ_iff.mp hlt) hbd
      rwa [get_push_lt hlt2] at q
  · rintro h1 h2 ⟨t, q⟩ kk
    exact ⟨t, kk _ q⟩
def sXF (K : PySem.W.Frag) (ta tv : TE) (f : Str) : TS := fun D σ H => tv σ H fun y H1 => ta σ H1 fun x H2 => ∃ e C, x = .ref e ∧ H2 e = some (XO e C none) ∧ XF K C f ∧ ∀ dx, H2 dx = none → D.nx σ (upd (upd H2 dx (.xd [(f, y)])) e (XO e C (some dx)))
theorem ps_xfld {o value : Expr} {f : Str} {pos pos' : Pos} {ta tv : TE} (ha : PE X o ta) (hv : PE X value tv) (hs : swapsWith value (some (.Attribute o f pos')) pos.line X.env = pure false) : PS X (.Assign [.Attribute o f pos'] value pos) (sXF X.K ta tv f) := by
  intro pins s σ H D I h
  refine plainObj_wpAny_Assign_Attribute (thn (hv pins s σ H _ I h) fun u s1 ⟨y, H1, I1, ry, q⟩ => thn (ha pins s1 σ H1 _ I1 q) fun ov s2 ⟨x, H2, I2, rx, e, C, ex, ea, F, q2⟩ => ?_) hs
  subst ex
  obtain rfl : ov = Value.ref e := rx
  obtain ⟨⟨t, he⟩, _⟩ := I2.hok e _ ea
  refine set_exc I2.kIn he F fun h' k _ k1 e3 n1 => ?_
  exact ⟨σ, _, I2.exset ea ry k1 e3 n1, q2 _ I2.fresh⟩
end
end L2
namespace L2
open PySem PySem.Spec PyProof.Rows PySem.W PySem.Calls
structure BI (K : PySem.W.Frag) (CB : Addr) : Prop where
  reads : readsIn K CB (.type "type") = true
  find : findCls K (.ref CB) (.type "type") "__init__" = some (.val (.builtin "ValueError.__init__"))
  ga : specialIn K (.ref CB) "__getattribute__" = some (some (.builtin "type.__getattribute__"))
section
variable {X : Cx} {pins : List (Addr × Obj)} {σ : St} {H : Hp} {s : Shared}
theorem run_binit {e C : Addr} {dx init : Option Addr} {u : Value} {Q : VK} (I : Inv X pins σ H s) (he : H e = some (XO e C dx)) (hC : xclsIn X.K C init = true) (q : Q .non H) :
    wpAny (model X.prog X.w) X.A (call (.builtin "ValueError.__init__") [.ref e, u]) (EP X pins σ Q) X.xe s := by
  obtain ⟨⟨t0, hx⟩, _⟩ := I.hok e _ he
  obtain ⟨bm, N, nm, qn, bs, hd, sn, sub, ab, col, dd, k0, k1, k2, k3, k5, mN, hC, hn, hni, T⟩ := xcls_of I.kIn hC
  have F := PySem.F.excBase_ValueError
  obtain ⟨hp, g, d, tk, os⟩ := s
  refine wpAny_call (codeAny_call_builtin F.init.plain F.initEntry (wpAny_check_init_subU F T hC hx rfl ?_))
  wp_walk
  have hx : hp.get? e = some (excObj C t0 dx) := hx
  have I1 := I.kept (h' := hp.push { cls := Value.type "tuple", data := Data.seq #[u] }) (t' := tk) (fun b u q => Heap.get?_push_of_some _ q)
  have g2 : ((hp.push { cls := Value.type "tuple", data := Data.seq #[u] }).update e (Obj.mapFields fun x => x.setIfInBounds 0 (Value.ref hp.objs.size))).get? e = some (excObj C hp.objs.size dx) :=
    Heap.get?_update_self _ (Heap.get?_push_of_some _ hx) rfl
  have I2 := I1.write (x := e) (e := e) (o := XO e C dx) (h' := (hp.push { cls := Value.type "tuple", data := Data.seq #[u] }).update e (Obj.mapFields fun x => x.setIfInBounds 0 (Value.ref hp.objs.size))) (t' := tk)
    (by rw [he]; exact True.intro) (.inl rfl) (fun b v hb q => (Heap.get?_update_other _ _ (Ne.symm hb)).trans q) ⟨_, g2⟩ ⟨⟨_, g2⟩, ⟨_, g2⟩, fun h1 h2 ⟨t, z⟩ kk => ⟨t, kk _ z⟩⟩
  have eH : upd H e (XO e C dx) = H := by
    funext b
    by_cases hb : b = e
    · subst hb
      rw [upd_same, he]
    · rw [upd_ne hb]
  rw [eH] at I2
  exact ⟨.non, H, I2, rfl, q⟩
def tBI (K : PySem.W.Frag) (t : TA) : TE := fun σ H Q => t σ H fun vs H1 => ∃ e C dx init x, vs = [.ref e, .str x] ∧ H1 e = some (XO e C dx) ∧ xclsIn K C init = true ∧ Q .non H1
theorem pe_binit {CB : Addr} {x : Str} {np apos pos : Pos} {e : Expr} {es : List Expr} {t : TA} {pl : Sem Bool} (F : BI X.K CB) (hg : Gl X x) (hm : X.mg x = some (.ref CB)) (ha : PA X (e :: es) t) (hdb : (x == ("__debug__" : Str)) = false := by decide)
    (hst : starEach (e :: es) X.env = (false, eval e X.env) :: starEach es X.env := by rfl) (hpl : (backTo pos (starEach es X.env)).any (·.1) = false := by rfl)
    (ht : eval (.Call (.Attribute (.Name x np) "__init__" apos) (e :: es) [] pos) X.env = (do
      let ov ← eval (.Name x np) X.env
      standAt apos.atName
      let (f, first) ← holding [ov] (getMethod ov "__init__" pl)
      callWith pos f first (backTo pos (starEach (e :: es) X.env)) (backToKw pos (keywordEach [] X.env))) := by rfl) :
    PE X (.Call (.Attribute (.Name x np) "__init__" apos) (e :: es) [] pos) (tBI X.K t) := by
  intro pins s σ H Q I h
  refine PySem.W.methodCall_KW (pl := pl) (ld_glob I hg hm ?_ hdb) ht
  refine method_cls I.kIn F.ga (cls_value I.kIn F.reads F.find rfl ?_)
  have hA := ha pos pins { s with toks := s.toks + 1 } σ H _ (I.tok _) h
  rw [hst] at hA ⊢
  refine Calls.callWith_builtin (by show (false || (backTo pos (starEach es X.env)).any (·.1)) = false; rw [hpl] <;> rfl) (Calls.evalArgs_plain ?_)
  refine thn hA fun us s2 ⟨vs, H2, I2, r2, ex, C, dx, init, z, evs, he, hC, q⟩ => ?_
  subst evs
  cases r2 with
  | cons r1 r2 =>
    cases r2 with
    | cons r2 r3 =>
      cases r3
      obtain rfl := (show _ = Value.ref ex from r1)
      exact run_binit I2 he hC q
def tFmt (tv : TE) : TE := fun σ H Q => tv σ H fun v H1 => ∃ i : Int, v = .int i ∧ i.natAbs ≤ 1000000000 ∧ ∀ x : Str, x.length ≤ 2000 → Q (.str x) H1
theorem log_small {n : Nat} (h : n ≤ 1000000000) : n.log2 < 1920 := by
  by_cases h0 : n = 0
  · subst h0
    decide
  · have h1 : n < 2 ^ 30 := Nat.lt_of_le_of_lt h (by decide)
    exact Nat.lt_trans ((Nat.log2_lt h0).mpr h1) (by decide)
theorem pe_fmt {value : Expr} {pos : Pos} {tv : TE} (hv : PE X value tv) : PE X (.FormattedValue value (-1) none pos) (tFmt tv) := by
  intro pins s σ H Q I h
  refine wpAny_FormattedValue_plain (thn (hv pins s σ H _ I h) fun v s1 ⟨y, H1, I1, ry, i, ey, hi, q⟩ => ?_)
  subst ey
  obtain ⟨t, rfl⟩ := ry
  have hl : (Str.ofString (toString i)).length ≤ 2000 := by
    have e := int_text_length_le (k := 1920) (by decide) (log_small hi)
    rw [PySem.ofString_length]
    omega
  exact wpAny_formatField_int (log_small hi) ⟨.str _, H1, I1.tok _, ⟨_, rfl⟩, q _ hl⟩
def tJ2 (t1 t2 : TE) : TE := fun σ H Q => t1 σ H fun a H1 => ∃ x1 : Str, a = .str x1 ∧ x1.length ≤ 2000 ∧ t2 σ H1 fun b H2 => ∃ x2 : Str, b = .str x2 ∧ x2.length ≤ 2000 ∧ ∀ x, Q (.str x) H2
theorem pe_j2 {v1 v2 : Expr} {pos : Pos} {t1 t2 : TE} (h1 : PE X v1 t1) (h2 : PE X v2 t2) : PE X (.JoinedStr [v1, v2] pos) (tJ2 t1 t2) := by
  intro pins s σ H Q I h
  refine wpAny_JoinedStr ?_
  show wpAny _ _ (eval v1 X.env) _ _ _
  refine thn (h1 pins s σ H _ I h) fun a s1 ⟨y1, H1, I1, r1, x1, e1, l1, q1⟩ => ?_
  subst e1
  obtain ⟨t1', rfl⟩ := r1
  have z0 : (Str.empty ++ x1).length = x1.length := by rw [Str.length_append]; show 0 + _ = _; omega
  refine ⟨x1, t1', rfl, by rw [z0]; exact smallL (by omega), ?_⟩
  show wpAny _ _ (eval v2 X.env) _ _ _
  refine thn (h2 pins s1 σ H1 _ I1 q1) fun b s2 ⟨y2, H2, I2, r2, x2, e2, l2, q2⟩ => ?_
  subst e2
  obtain ⟨t2', rfl⟩ := r2
  have z1 : (Str.empty ++ x1 ++ x2).length ≤ sizeLine := by rw [Str.length_append, z0]; exact smallL (by omega)
  exact ⟨x2, t2', rfl, z1, z1, .str _, H2, I2.tok _, ⟨_, rfl⟩, q2 _⟩
def tJ3 (t1 t2 t3 : TE) : TE := fun σ H Q => t1 σ H fun a H1 => ∃ x1 : Str, a = .str x1 ∧ x1.length ≤ 2000 ∧ t2 σ H1 fun b H2 => ∃ x2 : Str, b = .str x2 ∧ x2.length ≤ 2000 ∧ t3 σ H2 fun c H3 => ∃ x3 : Str, c = .str x3 ∧ x3.length ≤ 2000 ∧ ∀ x, Q (.str x) H3
theorem pe_j3 {v1 v2 v3 : Expr} {pos : Pos} {t1 t2 t3 : TE} (h1 : PE X v1 t1) (h2 : PE X v2 t2) (h3 : PE X v3 t3) : PE X (.JoinedStr [v1, v2, v3] pos) (tJ3 t1 t2 t3) := by
  intro pins s σ H Q I h
  refine wpAny_JoinedStr ?_
  show wpAny _ _ (eval v1 X.env) _ _ _
  refine thn (h1 pins s σ H _ I h) fun a s1 ⟨y1, H1, I1, r1, x1, e1, l1, q1⟩ => ?_
  subst e1
  obtain ⟨t1', rfl⟩ := r1
  have z0 : (Str.empty ++ x1).length = x1.length := by rw [Str.length_append]; show 0 + _ = _; omega
  refine ⟨x1, t1', rfl, by rw [z0]; exact smallL (by omega), ?_⟩
  show wpAny _ _ (eval v2 X.env) _ _ _
  refine thn (h2 pins s1 σ H1 _ I1 q1) fun b s2 ⟨y2, H2, I2, r2, x2, e2, l2, q2⟩ => ?_
  subst e2
  obtain ⟨t2', rfl⟩ := r2
  have z1 : (Str.empty ++ x1 ++ x2).length = x1.length + x2.length := by rw [Str.length_append, z0]
  refine ⟨x2, t2', rfl, by rw [z1]; exact smallL (by omega), ?_⟩
  show wpAny _ _ (eval v3 X.env) _ _ _
  refine thn (h3 pins s2 σ H2 _ I2 q2) fun c s3 ⟨y3, H3, I3, r3, x3, e3, l3, q3⟩ => ?_
  subst e3
  obtain ⟨t3', rfl⟩ := r3
  have z2 : (Str.empty ++ x1 ++ x2 ++ x3).length ≤ sizeLine := by rw [Str.length_append, z1]; exact smallL (by omega)
  exact ⟨x3, t3', rfl, z2, z2, .str _, H3, I3.tok _, ⟨_, rfl⟩, q3 _⟩
end
end L2
namespace L2
open PySem PySem.Spec PyProof.Rows PySem.W PySem.Calls
def unt (H : Hp) (e : Addr) : Hp := fun b => if b = e then none else H b
theorem unt_same {H : Hp} {e : Addr} : unt H e e = none := by unfold unt; rw [if_pos rfl]
theorem unt_ne {H : Hp} {e b : Addr} (h : b ≠ e) : unt H e b = H b := by unfold unt; rw [if_neg h]
section
variable {M : Model} {A : Around} {E : Value → Shared → Prop} {env : Env}
variable {nm q : Str} {C N : Addr} {bs bm : List Value} {hdct : Bool} {sn : List Str} {sub : List Value} {ab : Bool} {col : Option Bool} {dd : Option Addr} {k0 k1 k2 k3 k5 : Option Value} {newId : String}
theorem raise_made {s : Shared} {x : Sem Value} {Q : Flow → Shared → Prop} (hbase : bm.contains (.type "BaseException") = true) (hh : A.handled = none)
    (h : wpAny M A x (fun v s₁ => ∃ e t dx, v = .ref e ∧ s₁.heap.get? C = some (excClassObj nm q C N bs bm hdct sn sub ab col dd k0 k1 k2 k3 k5 newId) ∧ s₁.heap.get? e = some (excObj C t dx) ∧ E (.ref e) s₁) E s) :
    wpAny M A (raiseStmt env (some x) none) Q E s := by
  have hcB : (Value.ref C :: bm).contains (.type "BaseException") = true := by rw [List.contains_cons, hbase, Bool.or_true]
  unfold raiseStmt
  refine wpAny_bind (wpAny_mono h (fun v s₁ h₁ => ?_) fun _ _ x => x)
  obtain ⟨e, t, dx, rfl, hC, he, hE⟩ := h₁
  obtain ⟨hp, g, d, tk, os⟩ := s₁
  have he : hp.get? e = some { cls := .ref C, dict := dx, data := .fields #[.ref t, .none, .none, .none, .bool false, .none] } := he
  repeat (first | with_reducible refine wpAny_loadPart_at he ?_ | with_reducible refine wpAny_loadPart_at hC ?_ | (with_reducible refine wpAny_isSubtype_exc hC ?_; rw [hcB]) | wp_step)
  exact wpAny_raiseNew_none hh hE
end
section
variable {prog : Program} {w : World} {A : Around} {E : Value → Shared → Prop} {h : Heap} {g : Array GenState} {d : Drawn} {t : Nat} {os : OsState}
variable {nm q : Str} {C N : Addr} {bs bm : List Value} {hdct : Bool} {sn : List Str} {sub : List Value} {ab : Bool} {col : Option Bool} {dd : Option Addr} {k0 k1 k2 k3 k5 : Option Value}
end
section
variable {X : Cx} {pins : List (Addr × Obj)} {σ : St} {H : Hp} {s : Shared}
theorem Inv.unt {e : Addr} {φ : Heap → Prop} (I : Inv X pins σ H s) (he : H e = some (.ext φ)) : Inv X pins σ (unt H e) s := by
  have hn : ∀ b, H b = none → L2.unt H e b = none := fun b h => by
    by_cases q : b = e
    · rw [q, unt_same]
    · rw [unt_ne q]; exact h
  have hk : ∀ b o, H b = some o → (∀ φ, o ≠ .ext φ) → L2.unt H e b = some o := fun b o h ho => by
    rw [unt_ne (fun q => ?_)]
    · exact h
    · rw [q, he] at h
      cases h
      exact ho _ rfl
  refine ⟨I.ok, I.os, I.bare, ⟨I.base.keep, I.base.slot, fun b o q n hx => hn b (I.base.free b o q n hx), I.base.there, fun b xs q => hk b _ (I.base.tups b xs q) (fun φ z => nomatch z), fun b o u q => hk b _ (I.base.frzs b o u q) (fun φ z => nomatch z), fun b ps q => ?_⟩, I.loc, I.cell, hn _ I.free, fun x c h => hn _ (I.freeC x c h), fun p hp => ?_, fun b o q => ?_, I.len⟩
  · obtain ⟨more, z⟩ := I.base.tbls b ps q
    exact ⟨more, hk b _ z (fun φ w => nomatch w)⟩
  · obtain ⟨a, b, c⟩ := I.pin p hp
    exact ⟨a, hn _ b, c⟩
  · have hb : b ≠ e := fun z => by rw [z, unt_same] at q; cases q
    rw [unt_ne hb] at q
    exact (I.hok b o q).stay (fun _ _ _ z => z) (fun c z => hk c _ z (fun φ w => nomatch w)) fun c xs z => hk c _ z (fun φ w => nomatch w)
def RaiseX (C : Addr) (sp : Sp) (E : St → XK) (σ : St) (vs : List V) (H1 : Hp) : Prop := vs.length ≤ 10 ∧ ∀ e, H1 e = none → sp (.ref e :: vs) (upd H1 e (XO e C none)) (fun v H2 => v = .non ∧ V.ref e = .ref e ∧ ∃ dx, H2 e = some (XO e C dx) ∧ E σ (.ref C) dx (L2.unt H2 e)) E0
theorem ps_raiseX {E : St → XK} {R : St → List V → Hp → Prop} {k : Nat} {f C L : Addr} {fd : FuncData} {ps : List Str} {sp : Sp} {x : Str} {np cpos pos : Pos} {e : Expr} {es : List Expr} {t : TA} (hL : X.env.frame = some L) (hcm : X.calm = true)
    (M : MkX X.K C f) (F : FnOk X.prog X.w X.K X.mg X.base CX0 k f fd ps sp) (hr : Room (k + 1) X.A) (hg : Gl X x) (hm : X.mg x = some (.ref C)) (hb : Binds X.K fd ps []) (hR : ∀ σ vs H1, R σ vs H1 → RaiseX C sp E σ vs H1)
    (ha : PA (X.wish (Fly X E)) (e :: es) t) (hdb : (x == ("__debug__" : Str)) = false := by decide) (he : starEach (e :: es) X.env = (false, eval e X.env) :: starEach es X.env := by rfl) (hpl : (backTo cpos (starEach es X.env)).any (·.1) = false := by rfl) :
    PS (X.wish (Fly X E)) (.Raise (some (.Call (.Name x np) (e :: es) [] cpos)) none pos) (fun _ σ H => t σ H (R σ)) := by
  intro pins s σ H D I h
  obtain ⟨bm, N, nm, qn, bs, hd, sn, sub, ab, col, dd, k0, k1, k2, k3, k5, mN, hC, hn, hni, T⟩ := xcls_of I.kIn M.cls
  have hbase : bm.contains (.type "BaseException") = true := T.hasType (by decide)
  rw [arm_exec_Raise]
  refine wpAny_bind (wpAny_standAt (raise_made (C := C) (nm := nm) (q := qn) (N := N) (bs := bs) (bm := bm) (hdct := hd) (sn := sn) (sub := sub) (ab := ab) (col := col) (dd := dd) (k0 := k0) (k1 := k1) (k2 := k2) (k3 := k3) (k5 := k5) (newId := "ValueError.__new__") hbase (I.ok.hd hcm) ?_))
  show wpAny _ _ (do let v ← eval (.Call (.Name x np) (e :: es) [] cpos) X.env; standAt pos; pure v) _ _ _
  refine wpAny_bind (wpAny_mono (wpAny_Call_Name_kw (ld_glob I hg hm ?_ hdb)) (fun v s₃ h₃ => wpAny_bind (wpAny_standAt (wpAny_pure h₃))) fun _ _ z => z)
  refine PySem.W.callWith_K (h₀ := X.base) I.ok.mod.kin M.kp (thn (ha cpos pins s σ H _ I h) fun us s1 ⟨vs, H1, I1, r, q0⟩ => ⟨I1.kIn, ?_⟩) he hpl
  obtain ⟨hl, q⟩ := hR σ vs H1 q0
  refine thn (run_excAt (X := X.wish (Fly X E)) (Q := fun v H2 => v = .ref (s1.heap.objs.size + 1) ∧ ∃ dx, H2 (s1.heap.objs.size + 1) = some (XO (s1.heap.objs.size + 1) C dx) ∧ E σ (.ref C) dx (L2.unt H2 (s1.heap.objs.size + 1))) M F hr hb I1 r hl ?_) fun v s2 ⟨y, H2, I2, ry, ey, dx, he2, hE2⟩ => ?_
  · exact q (s1.heap.objs.size + 1) (I1.hok.fresh (Nat.le_succ _))
  · subst ey
    obtain rfl : v = Value.ref (s1.heap.objs.size + 1) := ry
    obtain ⟨⟨t2, ho2⟩, _⟩ := I2.hok _ _ he2
    refine ⟨_, t2, dx, rfl, (xcls_same I.kIn I2.kIn M.cls).trans hC, ho2, ?_⟩
    exact ⟨_, .ref C, dx, σ, _, L, rfl, hL, (I2.unwish.nopins).unt he2, ⟨Nat.le_trans I1.sz (Nat.le_succ _), unt_same, I1.unwish.pnlt (Nat.le_succ _)⟩, ⟨_, _, .none, ho2, rfl, rfl, rfl, rfl, .inl rfl⟩, hE2⟩
def tRaise0 (C : Addr) (E : St → XK) (t : TA) : TS := fun _ σ H => t σ H fun vs H1 => vs.length ≤ 10 ∧ E σ (.ref C) none H1
structure MkX0 (K : PySem.W.Frag) (C : Addr) : Prop where
  cls : xclsIn K C none = true
  kp : PySem.W.keepIn K (.ref C) = true
end
end L2
namespace L2
open PySem PySem.Spec PyProof.Rows PySem.W PySem.Calls
section
variable {M : Model} {A : Around} {E : Value → Shared → Prop} {s : Shared}
theorem find_erase {α : Type} {p : α → Bool} : ∀ {l : List α} {i : Nat}, (∀ x, l[i]? = some x → p x = false) → (l.eraseIdx i).find? p = l.find? p
  | [], _, _ => rfl
  | x :: l, 0, h => by
    have hx := h x rfl
    show l.find? p = (x :: l).find? p
    rw [List.find?_cons, hx]
  | x :: l, i + 1, h => by
    have ih := find_erase (l := l) (i := i) fun y hy => h y (by simpa using hy)
    show (x :: l.eraseIdx i).find? p = (x :: l).find? p
    rw [List.find?_cons, List.find?_cons, ih]
theorem nsDelX {a : Addr} {m} {name : Str} {Q : Bool → Shared → Prop} (hn : s.heap.Ns a m)
    (hQ : ∀ h' m', h'.Ns a m' → (∀ y, y ≠ name → m' y = m y) → Heap.SameBut a s.heap h' → Q (m name).isSome { s with heap := h' }) : wpAny M A (nsDel a name) Q E s := by
  obtain ⟨o, es, ep, ho, hd, hk, hm⟩ := id hn
  have hany : es.any (·.refKey) = false := by
    rw [Array.any_eq_false']; intro e he; obtain ⟨n, t, h⟩ := hk e he; simp [DictEntry.refKey, h]
  have hsome : (m name).isSome = es.any (·.key.isStr name) := by
    rw [← hm name]; simp only [nsFind, findBy, Option.isSome_map]
    rw [Bool.eq_iff_iff]; simp only [Array.find?_isSome, Array.any_eq_true]
    constructor
    · rintro ⟨x, hx, hp⟩; obtain ⟨i, hi, rfl⟩ := Array.mem_iff_getElem.mp hx; exact ⟨i, hi, hp⟩
    · rintro ⟨i, hi, hp⟩; exact ⟨_, Array.getElem_mem hi, hp⟩
  have hhas : nsHas name o = pure (es.any (·.key.isStr name)) := by
    rw [nsHas_eq]; unfold nsHasByArray; rw [hd]
    show (if (es.any fun x => x.key.isStr name) = true then _ else _) = _
    generalize (es.any fun x => x.key.isStr name) = b
    cases b <;> simp [hany]
  unfold nsDel
  refine wpAny_bind (wpAny_loadPart ho ?_)
  rw [hhas]
  refine wpAny_bind (wpAny_pure ?_)
  rw [← hsome]
  cases hmn : (m name).isSome
  · have := hQ s.heap m hn (fun _ _ => rfl) (.refl ..)
    rw [hmn] at this
    exact wpAny_pure this
  · refine wpAny_bind (wpAny_updatePart ho (wpAny_pure ?_))
    have key : ∃ m', (s.heap.update a (Obj.dropName name)).Ns a m' ∧ ∀ y, y ≠ name → m' y = m y := by
      obtain ⟨cl, d, dt, sl⟩ := o
      subst hd
      cases hi : es.findIdx? (·.key.isStr name) with
      | some i =>
        refine ⟨_, ⟨_, _, ep + 1, Heap.get?_update_self _ ho (by simp only [Obj.dropName_eq, Obj.dropNameByArray, hi] <;> rfl), (by simp only [Obj.dropName_eq, Obj.dropNameByArray, hi] <;> rfl), hk.erase i, fun _ => rfl⟩, fun y hy => ?_⟩
        rw [← hm y]
        show nsFind (es.eraseIdxIfInBounds i) y = nsFind es y
        obtain ⟨l⟩ := es
        simp only [nsFind, findBy, List.eraseIdxIfInBounds_toArray, List.find?_toArray, List.findIdx?_toArray] at hi ⊢
        rw [L2.find_erase fun x hx => ?_]
        obtain ⟨hil, hp, _⟩ := List.findIdx?_eq_some_iff_getElem.mp hi
        have ex : l[i] = x := by
          rw [List.getElem?_eq_getElem hil] at hx
          exact Option.some.inj hx
        rw [ex] at hp
        cases hk2 : x.key with
        | str z t =>
          rw [hk2] at hp
          have hz : z = name := by simpa [Value.isStr] using hp
          show (z == y) = false
          rw [hz, beq_eq_false_iff_ne]
          exact fun e => hy e.symm
        | _ => rfl
      | none => exact ⟨_, ⟨_, _, ep, Heap.get?_update_self _ ho (by simp only [Obj.dropName_eq, Obj.dropNameByArray, hi] <;> rfl), (by simp only [Obj.dropName_eq, Obj.dropNameByArray, hi] <;> rfl), hk, fun _ => rfl⟩, fun y _ => hm y⟩
    obtain ⟨m', hm', hy⟩ := key
    have := hQ _ m' hm' hy (Heap.SameBut.update ..)
    rw [hmn] at this
    exact this
theorem nameGoesX {env : Env} {n : Str} {pos : Pos} {m : Str → Option Value} {Q : Unit → Shared → Prop} (hl : env.kindOf n = some .local) (hn : s.heap.Ns env.locals m)
    (hp : (env.scope.kind == .class || (env.scope.kind == .module && env.locals != env.globals)) = false)
    (h : ∀ h' m', h'.Ns env.locals m' → (∀ y, y ≠ n → m' y = m y) → Heap.SameBut env.locals s.heap h' → Q () { s with heap := h', toks := s.toks + 1 }) :
    wpAny M A (do bindName env n .none; unbindBehindTheSuite env n pos) Q E s := by
  refine wpAny_bind (wpAny_bindName (wpAny_storeName_local hl hn (fun h₁ hn₁ hs₁ => ?_) hp))
  unfold unbindBehindTheSuite
  refine wpAny_onRaise ?_
  unfold unbindName
  refine wpAny_bind (wpAny_point (wpAny_bind ?_))
  unfold deleteName
  simp only [hl, hp]
  rw [if_neg (by decide)]
  refine wpAny_bind (nsDelX hn₁ fun h₂ m₂ hn₂ hy hs₂ => ?_)
  simp only [if_true, Option.isSome_some, Bool.not_true, Bool.false_eq_true, if_false]
  exact wpAny_pure (wpAny_point (h h₂ m₂ hn₂ (fun y hyn => by rw [hy y hyn, if_neg hyn]) (hs₁.trans hs₂)))
end
section
variable {X : Cx} {pins : List (Addr × Obj)} {σ : St} {H : Hp} {s : Shared}
theorem gone_ok {M : Model} {A : Around} {E : Value → Shared → Prop} {i : Nat} {x : Str} {pos : Pos} {Q : Unit → Shared → Prop} (I : Inv X pins σ H s) (hN : X.N.Nodup) (hi : X.N[i]? = some x) (hk : X.env.scope.names.lookup x = some .local)
    (h : ∀ s', Inv X pins (σ.set i none) H s' → Q () s') : wpAny M A (do bindName X.env x .none; unbindBehindTheSuite X.env x pos) Q E s := by
  obtain ⟨m, hn, hl⟩ := id I.loc
  have hcls : (X.env.scope.kind == .class || (X.env.scope.kind == .module && X.env.locals != X.env.globals)) = false := by rw [I.ok.kind]; rfl
  have hiσ : i < σ.length := by rw [I.len]; exact (List.getElem?_eq_some_iff.mp hi).1
  have cne := I.cne
  refine nameGoesX hk hn hcls fun h' m' hn' hy hs => ?_
  obtain ⟨oL, _, _, hoL, _⟩ := id hn
  refine h _ ⟨I.ok, I.os, I.bare, ⟨fun b o e n hb hx => ?_, fun b o e n hb hx => ?_, I.base.free, fun b o e hx => ?_, I.base.tups, I.base.frzs, I.base.tbls⟩, ⟨_, hn', fun j y v' e1 e2 e3 => ?_⟩, fun y c e => ?_, I.free, I.freeC, fun p hp => ?_, fun b ob e => ?_, by simpa using I.len⟩
  · exact (hs.2 b (Nat.ne_of_lt (Nat.lt_of_lt_of_le (Heap.lt_size e) I.ok.above))).trans (I.base.keep b o e n hb hx)
  · obtain ⟨sl, e1⟩ := I.base.slot b o e n hb hx
    exact ⟨sl, (hs.2 b (Nat.ne_of_lt (Nat.lt_of_lt_of_le (Heap.lt_size e) I.ok.above))).trans e1⟩
  · obtain ⟨o', e1⟩ := I.base.there b o e hx
    exact ⟨o', (hs.2 b (Nat.ne_of_lt (Nat.lt_of_lt_of_le (Heap.lt_size e) I.ok.above))).trans e1⟩
  · by_cases hj : j = i
    · subst hj
      rw [List.getElem?_set_self hiσ] at e2
      cases e2
    · rw [List.getElem?_set_ne (Ne.symm hj)] at e2
      obtain ⟨u', r', q⟩ := hl j y v' e1 e2 e3
      refine ⟨u', r', ?_⟩
      rcases q with ⟨k, e⟩ | ⟨k, c, e, z⟩
      · refine .inl ⟨k, ?_⟩
        have : y ≠ x := fun e => hj (nodup_ix hN e1 (e ▸ hi))
        rw [hy y this, e]
      · exact .inr ⟨k, c, e, z.sameBut hs (cne y c e)⟩
  · obtain ⟨w', z⟩ := I.cell y c e
    exact ⟨w', z.sameBut hs (cne y c e)⟩
  · obtain ⟨e, n, ne, nf, d⟩ := I.pin p hp
    exact ⟨(hs.2 p.1 ne).trans e, n, ne, nf, d⟩
  · refine (I.hok b ob e).stay (fun c w' hc q => (hs.2 c ?_).trans q) (fun _ q => q) fun _ _ q => q
    rintro rfl
    rcases hc with rfl | hc
    · rw [I.free] at e; cases e
    · rw [I.free] at hc; cases hc
abbrev Cx.suite (X : Cx) (e : Addr) : Cx := { X with A := X.A.mark (some (.ref e)), calm := false, xe := fun _ _ => False }
theorem Inv.suite (I : Inv X pins σ H s) (e : Addr) : Inv (X.suite e) pins σ H s :=
  ⟨⟨I.ok.mod, I.ok.kind, I.ok.glob, I.ok.blt, I.ok.above, I.ok.inj, I.ok.has, I.ok.cab, (fun z => nomatch z), I.ok.frames, I.ok.stk, I.ok.exf, I.ok.bs, I.ok.bsz, I.ok.noex, I.ok.exfs, I.ok.funs, I.ok.frf⟩, I.os, I.bare, I.base, I.loc, I.cell, I.free, I.freeC, I.pin, I.hok, I.len⟩
theorem Inv.unsuite {e : Addr} {A : Around} {c : Bool} {xe : Value → Shared → Prop} (hA : A.frames = some X.stack) (hd : c = true → A.handled = none) (I : Inv (X.suite e) pins σ H s) : Inv { X with A := A, calm := c, xe := xe } pins σ H s :=
  ⟨⟨I.ok.mod, I.ok.kind, I.ok.glob, I.ok.blt, I.ok.above, I.ok.inj, I.ok.has, I.ok.cab, hd, hA, I.ok.stk, I.ok.exf, I.ok.bs, I.ok.bsz, I.ok.noex, I.ok.exfs, I.ok.funs, I.ok.frf⟩, I.os, I.bare, I.base, I.loc, I.cell, I.free, I.freeC, I.pin, I.hok, I.len⟩
end
end L2
namespace L2
open PySem PySem.Spec PyProof.Rows PySem.W PySem.Calls
theorem xcls_mro {K : PySem.W.Frag} {h : Heap} {C : Addr} {init : Option Addr} {nm q : Str} {N : Addr} {bs bm : List Value} {hdct : Bool} {sn : List Str} {sub : List Value} {ab : Bool} {col : Option Bool} {dd : Option Addr} {k0 k1 k2 k3 k5 : Option Value} {newId : String}
    (X : K.In h) (hq : xclsIn K C init = true) (hC : h.get? C = some (excClassObj nm q C N bs bm hdct sn sub ab col dd k0 k1 k2 k3 k5 newId)) (v : Value) : mroIn K C v = some ((Value.ref C :: bm).contains v) := by
  unfold xclsIn at hq
  split at hq
  · rename_i ho
    have e := X _ _ ho
    rw [hC] at e
    cases e
    unfold mroIn clsIn
    rw [ho]
    rfl
  · cases hq
section
variable {M : Model} {A : Around} {E : Value → Shared → Prop} {h : Heap} {g : Array GenState} {d : Drawn} {t : Nat} {os : OsState}
theorem match_x {K : PySem.W.Frag} {e C B : Addr} {oe : Obj} {init initB : Option Addr} {b : Bool} {Q : Bool → Shared → Prop} (X : K.In h) (hC : xclsIn K C init = true) (hB : xclsIn K B initB = true) (he : h.get? e = some oe) (hcls : oe.cls = .ref C)
    (hm : mroIn K C (.ref B) = some b) (hq : Q b ⟨h, g, d, t, os⟩) : wpAny M A (excMatches (.ref e) (.ref B)) Q E ⟨h, g, d, t, os⟩ := by
  obtain ⟨bm, N, nm, qn, bs, hd, sn, sub, ab, col, dd, k0, k1, k2, k3, k5, mN, oC, _, _, T⟩ := xcls_of X hC
  obtain ⟨bm2, N2, nm2, qn2, bs2, hd2, sn2, sub2, ab2, col2, dd2, j0, j1, j2, j3, j5, mN2, oB, _, _, T2⟩ := xcls_of X hB
  have hcm : (Value.ref C :: bm).contains (.ref B) = b := by
    have := xcls_mro X hC oC (.ref B)
    rw [hm] at this
    exact (Option.some.inj this).symm
  have hbB : (Value.ref B :: bm2).contains (.type "BaseException") = true := by rw [List.contains_cons, T2.hasType (show bmV.contains (.type "BaseException") = true by decide), Bool.or_true]
  have f := tc_notTuple
  unfold excMatches
  repeat (first | (with_reducible refine wpAny_loadPart_at he ?_; rw [hcls]) | with_reducible refine wpAny_loadPart_at oB ?_ | with_reducible refine wpAny_loadPart_at oC ?_ | (with_reducible refine wpAny_isSubtype_exc oB ?_; rw [hbB]) | (with_reducible refine wpAny_isSubtype_exc oC ?_; rw [hcm]) | wp_step)
  cases b <;> (wp_walk; exact hq)
end
abbrev XE (e C : Addr) (dx : Option Addr) : HO := .ext fun h => ∃ o vs, h.get? e = some o ∧ o.cls = .ref C ∧ o.dict = dx ∧ o.data = .fields vs
abbrev THd := Ends → St → Value → Option Addr → Hp → Prop
def PHs (X : Cx) (hs : List ExceptHandler) (th : THd) : Prop := ∀ (e : Addr) (cls : Value) (dx : Option Addr) (σ : St) (H : Hp) (s : Shared) (D : Ends), Inv X [] σ H s → Fr0 X H e → ExcAt (TbAt (Fr0 X H) e .none) s.heap e cls dx → th D σ cls dx H →
  wpAny (model X.prog X.w) X.A (handleBy (.ref e) X.env hs) (SP X [] D) X.xe s
def tNoHd : THd := fun _ _ _ _ _ => False
theorem ph_nil {X : Cx} : PHs X [] tNoHd := fun _ _ _ _ _ _ _ _ _ _ h => h.elim
def Dg (i : Nat) (D : Ends) : Ends := { nx := fun σ H => D.nx (σ.set i none) H, rt := D.rt, bk := fun σ H => D.bk (σ.set i none) H, ct := fun σ H => D.ct (σ.set i none) H }
def tHd (K : PySem.W.Frag) (B : Addr) (i : Nat) (ts : TS) (tr : THd) : THd := fun D σ cls dx H => ∃ C init b, cls = .ref C ∧ xclsIn K C init = true ∧ mroIn K C (.ref B) = some b ∧
  (if b = true then ∀ e, H e = none → ts (Dg i D) (σ.set i (some (.ref e))) (upd H e (XE e C dx)) else tr D σ cls dx H)
section
variable {X : Cx} {σ : St} {H : Hp} {s : Shared}
theorem Inv.track {e C : Addr} {dx : Option Addr} {o : Obj} {vs : Array Value} (I : Inv X [] σ H s) (he : Fr0 X H e) (ho : s.heap.get? e = some o) (hc : o.cls = .ref C) (hdx : o.dict = dx) (hd : o.data = .fields vs) : Inv X [] σ (upd H e (XE e C dx)) s := by
  obtain ⟨h1, h2, h3⟩ := he
  have hk : ∀ b u, H b = some u → upd H e (XE e C dx) b = some u := fun b u q => by rw [upd_ne (ne_of_none q h2)]; exact q
  have hne : ∀ b, b ≠ e → H b = none → upd H e (XE e C dx) b = none := fun b hb q => by rw [upd_ne hb]; exact q
  have hl : X.env.locals ≠ e := fun q => by
    obtain ⟨m, ⟨o2, es, ep, ho2, hd2, _⟩, _⟩ := I.loc
    rw [q, ho] at ho2
    cases ho2
    rw [hd] at hd2
    cases hd2
  refine ⟨I.ok, I.os, I.bare, ⟨I.base.keep, I.base.slot, fun b u q n hx => hne b (fun z => ?_) (I.base.free b u q n hx), I.base.there, fun b xs q => hk b _ (I.base.tups b xs q), fun b u v q => hk b _ (I.base.frzs b u v q), fun b ps q => ?_⟩, I.loc, I.cell, hne _ hl I.free, fun x c h => hne _ (fun z => ?_) (I.freeC x c h), fun p hp => ?_, fun b u q => ?_, I.len⟩
  · rw [z] at q
    exact absurd (Heap.lt_size q) (Nat.not_lt.mpr h1)
  · obtain ⟨more, z⟩ := I.base.tbls b ps q
    exact ⟨more, hk b _ z⟩
  · obtain ⟨v, o2, ho2, hd2⟩ := I.cell x c h
    rw [z, ho] at ho2
    cases ho2
    rw [hd] at hd2
    cases hd2
  · obtain ⟨p1, p2, p3⟩ := I.pin p hp
    rw [List.append_nil] at hp
    exact ⟨p1, hne _ (h3 p hp) p2, p3⟩
  · by_cases hb : b = e
    · subst hb
      rw [upd_same] at q
      cases q
      refine ⟨⟨o, vs, ho, hc, hdx, hd⟩, ⟨o, ho⟩, ?_⟩
      rintro g1 g2 ⟨o', vs', a1, a2⟩ kk
      exact ⟨o', vs', kk _ a1, a2⟩
    · rw [upd_ne hb] at q
      exact (I.hok b u q).stay (fun _ _ _ z => z) (fun c z => hk c _ z) fun c xs z => hk c _ z
theorem ph_cons {B : Addr} {initB : Option Addr} {x n : Str} {i : Nat} {np hpos : Pos} {b₀ : Stmt} {suite : List Stmt} {rest : List ExceptHandler} {ts : TS} {tr : THd} (hg : Gl X x) (hm : X.mg x = some (.ref B)) (hB : xclsIn X.K B initB = true)
    (hN : X.N.Nodup) (hi : X.N[i]? = some n) (hk : X.env.scope.names.lookup n = some .local) (hsuite : ∀ e, PSs (X.suite e) (b₀ :: suite) ts) (hrest : PHs X rest tr) (hdb : (x == ("__debug__" : Str)) = false := by decide) :
    PHs X (.ExceptHandler (some (.Name x np)) (some n) (b₀ :: suite) hpos :: rest) (tHd X.K B i ts tr) := by
  rintro e cls dx σ H s D I he hx ⟨C, init, b, rfl, hC, hmr, hb⟩
  obtain ⟨oe, vs, hd, ho, hc, hdi, hdt, h1, hT⟩ := id hx
  refine wpAny_handleBy_cons (codeAny_handlers_test (ld_glob (X := X.suite e) (I.suite e) hg hm ?_ hdb)) (by intro q; cases q)
  obtain ⟨hp, g, d, tk, os⟩ := s
  refine match_x I.kIn hC hB ho hc hmr ?_
  cases b with
  | false => exact hrest e (.ref C) dx σ H _ D I he hx hb
  | true =>
    refine codeAny_handlers_suite_as ?_
    refine fly_mark (s := ⟨hp, g, d, tk, os⟩) (fr := none) I he hx fun h2 I2 hx2 => ?_
    obtain ⟨oe2, vs2, hd2, ho2, hc2, hdi2, hdt2, h12, hT2⟩ := id hx2
    have I3 := I2.track he ho2 hc2 hdi2 hdt2
    refine store_ok (v := .ref e) I3 hN hi (.inl hk) rfl (fun s' I4 => ?_) (.inr hk)
    have hb2 := hb e he.2.1
    refine wpAny_mono (hsuite e [] s' (σ.set i (some (.ref e))) _ (Dg i D) (I4.suite e) hb2) (fun f s3 q => ?_) fun _ _ z => z.elim
    cases f with
    | next =>
      obtain ⟨σ', H', I5, q⟩ := q
      exact gone_ok (X := X) (I5.unsuite (X := X) (A := X.A) (c := X.calm) (xe := X.xe) I.ok.frames I.ok.hd) hN hi hk fun s5 I6 => ⟨_, H', I6, q⟩
    | brk =>
      obtain ⟨σ', H', I5, q⟩ := q
      exact gone_ok (X := X) (I5.unsuite (X := X) (A := X.A) (c := X.calm) (xe := X.xe) I.ok.frames I.ok.hd) hN hi hk fun s5 I6 => ⟨_, H', I6, q⟩
    | cont =>
      obtain ⟨σ', H', I5, q⟩ := q
      exact gone_ok (X := X) (I5.unsuite (X := X) (A := X.A) (c := X.calm) (xe := X.xe) I.ok.frames I.ok.hd) hN hi hk fun s5 I6 => ⟨_, H', I6, q⟩
    | ret u =>
      obtain ⟨v, σ', H', I5, r5, q⟩ := q
      exact gone_ok (X := X) (I5.unsuite (X := X) (A := X.A) (c := X.calm) (xe := X.xe) I.ok.frames I.ok.hd) hN hi hk fun s5 I6 => ⟨v, _, H', I6, r5, q⟩
abbrev Cx.pinned (X : Cx) (pn : List (Addr × Obj)) : Cx := { X with pn := pn }
theorem Inv.heldP {pins : List (Addr × Obj)} (I : Inv X pins σ H s) : Inv (X.pinned (X.pn ++ pins)) [] σ H s :=
  ⟨⟨I.ok.mod, I.ok.kind, I.ok.glob, I.ok.blt, I.ok.above, I.ok.inj, I.ok.has, I.ok.cab, I.ok.hd, I.ok.frames, I.ok.stk, I.ok.exf, I.ok.bs, I.ok.bsz, I.ok.noex, I.ok.exfs, I.ok.funs, I.ok.frf⟩, I.os, I.bare, I.base, I.loc, I.cell, I.free, I.freeC, fun p hp => I.pin p (by rwa [List.append_nil] at hp), I.hok, I.len⟩
theorem Inv.unheldP {pins : List (Addr × Obj)} (I : Inv (X.pinned (X.pn ++ pins)) [] σ H s) : Inv X pins σ H s :=
  ⟨⟨I.ok.mod, I.ok.kind, I.ok.glob, I.ok.blt, I.ok.above, I.ok.inj, I.ok.has, I.ok.cab, I.ok.hd, I.ok.frames, I.ok.stk, I.ok.exf, I.ok.bs, I.ok.bsz, I.ok.noex, I.ok.exfs, I.ok.funs, I.ok.frf⟩, I.os, I.bare, I.base, I.loc, I.cell, I.free, I.freeC, fun p hp => I.pin p (by rw [List.append_nil]; exact hp), I.hok, I.len⟩
theorem SP.unheldP {pins : List (Addr × Obj)} {D : Ends} {f : Flow} {s' : Shared} (h : SP (X.pinned (X.pn ++ pins)) [] D f s') : SP X pins D f s' := by
  cases f with
  | next => obtain ⟨σ', H', I, q⟩ := h; exact ⟨σ', H', I.unheldP, q⟩
  | brk => obtain ⟨σ', H', I, q⟩ := h; exact ⟨σ', H', I.unheldP, q⟩
  | cont => obtain ⟨σ', H', I, q⟩ := h; exact ⟨σ', H', I.unheldP, q⟩
  | ret u => obtain ⟨v, σ', H', I, r, q⟩ := h; exact ⟨v, σ', H', I.unheldP, r, q⟩
theorem ps_try {body : List Stmt} {h₀ : ExceptHandler} {hs : List ExceptHandler} {pos : Pos} {tb : Ends → TS} {th : THd} (hst : X.stack = X.env :: X.outer) (hb : ∀ D pn, PSs ((X.pinned pn).wish (Fly (X.pinned pn) (th D))) body (tb D)) (hh : ∀ pn, PHs (X.pinned pn) (h₀ :: hs) th) :
    PS X (.Try body (h₀ :: hs) [] [] pos) (fun D σ H => tb D D σ H) := by
  intro pins s σ H D I h
  have I0 := I.heldP
  refine wpAny_Try_except (wpAny_mono (hb D (X.pn ++ pins) [] s σ H D (I0.wish _) h) (fun f s1 q => ?_) fun ev s1 q => ?_)
  · cases f with
    | next =>
      obtain ⟨σ', H', I', q⟩ := q
      exact wpAny_execs_nil ⟨σ', H', I'.unwish.unheldP, q⟩
    | ret v => exact SP.unheldP (SP.unwish q)
    | brk => exact SP.unheldP (SP.unwish q)
    | cont => exact SP.unheldP (SP.unwish q)
  · refine fly_note (X := X.pinned (X.pn ++ pins)) I0.ok.frames hst q fun h' e cls dx σ1 H1 L hev hL I1 he hx hE => ?_
    subst hev
    exact fly_mark (s := { s1 with heap := h' }) (fr := none) I1 he hx fun h2 I2 hx2 => thn (hh (X.pn ++ pins) e cls dx σ1 H1 _ D I2 he hx2 hE) fun f s3 q => SP.unheldP q
end
end L2
namespace L2
open PySem PySem.Spec PyProof.Rows PySem.W PySem.Calls Builtin Builtin.ObjectAttr
structure XG (K : PySem.W.Frag) (C : Addr) : Prop where
  ga : findIn K (.ref C) "__getattribute__" = some (some (.builtin "BaseException.__getattribute__"))
  gt : findIn K (.ref C) "__getattr__" = some none
  be : mroIn K C (.type "BaseException") = some true
  ob : mroIn K C (.type "object") = some true
  cc : findIn K (.ref C) "__class__" = some (some (.builtin "object.__class__"))
  hd : ∃ cd, clsIn K C = some cd ∧ cd.hasDict = true
section
variable {prog : Program} {w : World} {A : Around} {E : Value → Shared → Prop} {s : Shared} {K : PySem.W.Frag} {x C : Addr} {ox : Obj} {od : Option Obj} {name : Str}
theorem slot_bga : Slot "ValueError" "__getattribute__" "BaseException.__getattribute__" := PySem.F.excAttr_ValueError.ga
theorem getx_open {expr fill : Bool} {tk : Tok} {Q : Value → Shared → Prop} (X : K.In s.heap) (I : PySem.W.InstAt s.heap x ox C od) (G : XG K C)
    (h : wpAny (model prog w) A.in1 (Builtin.«object.__getattribute__» ⟨[.ref x, .str name tk], []⟩) (fun fin s' => match fin with | .done (.ret v) => wpAny (model prog w) A (handedOut v) Q E s' | _ => False) (fun _ _ => False) s) :
    wpAny (model prog w) A (getAttrBy (.ref x) (.str name tk) fill expr) Q E s := by
  have hf : (Value.builtin "BaseException.__getattribute__" == Value.builtin "object.__getattribute__") = false := by decide +kernel
  unfold getAttrBy
  refine wpAny_holding (wpAny_bind (I.type.here (wpAny_bind ((looks_findIn X G.ga).here ?_))))
  dsimp only
  rw [hf, Bool.and_false, if_neg (by decide)]
  unfold getAttrByItsOwn
  have hk : Looks (model prog w) s.heap (hookBefore (.ref C)) none := looks_hook X (by rw [if_pos (show onTheHeap (Value.ref C) = true from rfl)]; exact G.gt)
  refine wpAny_bind (hk.here (wpAny_bind (wpAny_attempt (wpAny_holding ?_))))
  unfold callGetattribute
  rw [show (expr && onTheHeap (Value.builtin "BaseException.__getattribute__")) = false from Bool.and_false _, if_neg (by decide)]
  unfold boundAndCalled
  rw [slot_bga.bind]
  refine wpAny_bind (wpAny_pure ?_)
  show wpAny _ _ (call (.builtin "BaseException.__getattribute__") [.ref x, .str name tk]) _ _ _
  refine wpAny_call (codeAny_call_builtin slot_bga.plain PySem.F.entry_bexc_ga ?_)
  refine @check_slot (model prog w) _ _ s "BaseException.__getattribute__" "BaseException" "__getattribute__" (.ref x) [.str name tk] [] _ (by decide +kernel) (by decide +kernel) (I.type.andThen (looks_mroIn X G.be)) (PySem.F.args_bexc_ga _ _) ?_
  refine wpAny_mono h (fun fin s' z => ?_) fun _ _ z => z.elim
  rcases fin with (_ | _ | _ | _) | _ <;> first | exact z | exact z.elim
theorem getx_value {expr : Bool} {v : Value} {Q : Value → Shared → Prop} (X : K.In s.heap) (I : PySem.W.InstAt s.heap x ox C od) (G : XG K C) (hf : findObj K C od name = some (.value v)) (hh : handedIn v = true) (h : Q v { s with toks := s.toks + 1 }) :
    wpAny (model prog w) A (getAttr (.ref x) name expr) Q E s := by
  unfold getAttr
  refine wpAny_bind (wpAny_mkText (getx_open (s := { s with toks := s.toks + 1 }) X I G ?_))
  unfold Builtin.«object.__getattribute__»
  refine wpAny_bind (wpAny_pure (wpAny_bind (wpAny_pure (wpAny_bind (PySem.W.Looks.here (s := { s with toks := s.toks + 1 }) I.type (wpAny_bind (PySem.W.Looks.here (s := { s with toks := s.toks + 1 }) (looks_find X I hf) ?_)))))))
  refine wpAny_pure ?_
  show wpAny _ _ (handedOut v) _ _ _
  rw [handedOut_of hh]
  exact wpAny_pure h
theorem getx_class {Q : Option Value → Shared → Prop} (X : K.In s.heap) (I : PySem.W.InstAt s.heap x ox C od) (G : XG K C) (hn : specialIn K (.builtin "object.__class__") "__get__" = some (some (.builtin "getset_descriptor.__get__"))) (htk : takesIn K (.builtin "object.__class__") = some true)
    (h : Q (some (.ref C)) { s with toks := s.toks + 1 }) : wpAny (model prog w) A (getAttr? (.ref x) "__class__") Q E s := by
  have hf : findObj K C od "__class__" = some (.bind (.builtin "getset_descriptor.__get__") (.builtin "object.__class__")) := by
    obtain ⟨cd, hc, _⟩ := G.hd
    unfold findObj
    rw [hc, Option.bind_some, G.cc, Option.bind_some]
    simp [hn, htk]
  unfold getAttr? getAttrBy?
  refine wpAny_bind (wpAny_mkText (wpAny_bind (wpAny_attempt (getx_open (s := { s with toks := s.toks + 1 }) X I G ?_))))
  unfold Builtin.«object.__getattribute__»
  refine wpAny_bind (wpAny_pure (wpAny_bind (wpAny_pure (wpAny_bind (PySem.W.Looks.here (s := { s with toks := s.toks + 1 }) I.type (wpAny_bind (PySem.W.Looks.here (s := { s with toks := s.toks + 1 }) (looks_find X I hf) ?_)))))))
  show wpAny _ _ (bindTo (.builtin "getset_descriptor.__get__") (.builtin "object.__class__") (.ref x) (.ref C)) _ _ _
  unfold bindTo
  refine wpAny_bind (wpAny_holding (wpAny_call (class_get (s := { s with toks := s.toks + 1 }) (ox := ox) (od := od) X I G.ob ?_)))
  refine wpAny_pure ?_
  show wpAny _ _ (handedOut (.ref C)) _ _ _
  exact handed_on rfl (wpAny_pure h)
theorem kitx_exc (G : XG K C) (hn : specialIn K (.builtin "object.__class__") "__get__" = some (some (.builtin "getset_descriptor.__get__"))) (htk : takesIn K (.builtin "object.__class__") = some true) :
    KitX K (.ref x) (.ref C) (fun h => ∃ ox od, PySem.W.InstAt h x ox C od) where
  ty := fun _ _ _ ⟨_, _, I⟩ => I.type
  it := fun _ _ X _ => by
    obtain ⟨cd, hc, _⟩ := G.hd
    unfold clsIn at hc
    split at hc
    · rename_i ho
      intro A' Q' E' s' k q
      unfold isType loadHead
      exact wpAny_bind (wpAny_loadPart (k _ _ (X _ _ ho)) (wpAny_pure q))
    · cases hc
  ne := fun h tp dd its n sl X htp => by
    obtain ⟨cd, hc, _⟩ := G.hd
    refine Bool.eq_false_iff.mpr fun q => ?_
    have e : C = tp := Value.ref.inj (beq_iff_eq.mp q)
    subst e
    unfold clsIn at hc
    split at hc
    · rename_i ho
      have z := (X _ _ ho).symm.trans htp
      cases z
    · cases hc
  ca := fun X ⟨_, _, I⟩ k => getx_class X I G hn htk k
end
theorem cls_get {K : PySem.W.Frag} : specialIn K (.builtin "object.__class__") "__get__" = some (some (.builtin "getset_descriptor.__get__")) := by rfl
theorem cls_takes {K : PySem.W.Frag} : takesIn K (.builtin "object.__class__") = some true := by rfl
end L2
namespace L2
open PySem PySem.Spec PyProof.Rows PySem.W PySem.Calls
section
variable {X : Cx} {pins : List (Addr × Obj)} {σ : St} {H : Hp} {s : Shared}
theorem xe_inst {e C : Addr} {dx : Option Addr} (I : Inv X pins σ H s) (he : H e = some (XE e C dx)) (hd : ∀ a, dx = some a → ∃ o, s.heap.get? a = some o) : ∃ ox od, PySem.W.InstAt s.heap e ox C od := by
  obtain ⟨⟨o, vs, ho, hc, hdx, hdt⟩, _⟩ := I.hok e _ he
  have hno : notCls o = true := by unfold notCls; rw [hdt]
  cases hq : dx with
  | none => exact ⟨o, none, ho, hc, hno, by rw [hdx, hq]; exact True.intro⟩
  | some a =>
    obtain ⟨oa, ha⟩ := hd a hq
    exact ⟨o, some oa, ho, hc, hno, by rw [hdx, hq]; exact ha⟩
def tXG (K : PySem.W.Frag) (ta : TE) (f : Str) : TE := fun σ H Q => ta σ H fun x H1 => ∃ e C dx fs v, x = .ref e ∧ H1 e = some (XE e C (some dx)) ∧ H1 dx = some (.xd fs) ∧ XG K C ∧ NoAttr K C f ∧ fs.lookup f = some v ∧ Q v H1
theorem pe_xg {e : Expr} {f : Str} {pos : Pos} {ta : TE} (he : PE X e ta) (hb : attributeBase e f X.env (eval e X.env) = eval e X.env) : PE X (.Attribute e f pos) (tXG X.K ta f) := by
  intro pins s σ H Q I h
  refine attr_of hb (thn (he pins s σ H _ I h) fun u s1 ⟨x, H1, I1, rx, ea, C, dx, fs, v, ex, h1, h2, G, n, l, q⟩ => ?_)
  subst ex
  obtain rfl : u = Value.ref ea := rx
  obtain ⟨⟨o, vs, ho, hc, hdx, hdt⟩, _⟩ := I1.hok ea _ h1
  obtain ⟨mA, n1, r⟩ := (show ObjOk X.prog X.w H1 s1.heap dx (.xd fs) from I1.hok dx _ h2)
  obtain ⟨od, hod, hl⟩ := lookIn_ns n1
  obtain ⟨u, hu, ru⟩ := RelO.some_of (v := v) (o := mA f) (by rw [← l]; exact r f)
  have J : PySem.W.InstAt s1.heap ea o C (some od) := ⟨ho, hc, by unfold notCls; rw [hdt], by rw [hdx]; exact hod⟩
  obtain ⟨cd, hcd, hhd⟩ := G.hd
  have hh : hasDictIn X.K C = true := by unfold hasDictIn; rw [hcd]; exact hhd
  exact getx_value I1.kIn J G (findObj_own hh n rfl (by rw [hl, hu])) (handed_of ru) ⟨v, H1, I1.tok _, ru, q⟩
def clsV : V → Option Value
  | .ref B => some (.ref B)
  | .ty n => some (.type n)
  | _ => none
theorem clsV_rel {c : V} {u v : Value} (h : clsV c = some v) (r : RelV c u) : u = v := by
  cases c <;> cases h <;> exact r
def rIsX (K : PySem.W.Frag) : List V → Hp → VK → Prop := fun xs H Q => ∃ e C dx c v b, xs = [.ref e, c] ∧ H e = some (XE e C dx) ∧ (∀ a, dx = some a → ∃ fs, H a = some (.xd fs)) ∧ XG K C ∧ clsV c = some v ∧ kitOne K (.ref C) v = some b ∧ Q (.bl b) H
theorem call_isX : CallR X (.builtin "isinstance") (rIsX X.K) := by
  intro pins s σ H xs us Q I r h
  obtain ⟨e, C, dx, c, v, b, rfl, he, hd, G, hc, hk, q⟩ := h
  obtain ⟨u, w', rfl, rx, rt⟩ := vals2 r
  obtain rfl : u = Value.ref e := rx
  obtain rfl := clsV_rel hc rt
  exact kia_one (kitx_exc G cls_get cls_takes) I.kIn (xe_inst I he fun a ha => let ⟨fs, z⟩ := hd a ha; let ⟨_, ⟨o, _, _, z2, _⟩, _⟩ := (show ObjOk X.prog X.w H s.heap a (.xd fs) from I.hok a _ z); ⟨o, z2⟩) hk (fun z => nomatch z) fun tk => ⟨.bl b, H, I.tok _, rfl, q⟩
def rIsT (K : PySem.W.Frag) : List V → Hp → VK → Prop := fun xs H Q => ∃ e C dx t cs vs b, xs = [.ref e, .ref t] ∧ H e = some (XE e C dx) ∧ (∀ a, dx = some a → ∃ fs, H a = some (.xd fs)) ∧ XG K C ∧ H t = some (.tup cs) ∧ Paired (fun c v => clsV c = some v) cs vs ∧ kitAny K (.ref C) vs = some b ∧ Q (.bl b) H
variable {K : PySem.W.Frag} (hK : X.K = K)
include hK
theorem kcall_isX : CallR X (.builtin "isinstance") (rIsX K) := by subst hK; exact call_isX
theorem kpe_xg {e : Expr} {f : Str} {pos : Pos} {ta : TE} (he : PE X e ta) (hb : attributeBase e f X.env (eval e X.env) = eval e X.env := by rfl) : PE X (.Attribute e f pos) (tXG K ta f) := by subst hK; exact pe_xg he hb
end
end L2
namespace L2
open PySem PySem.Spec PyProof.Rows
structure RoomH (k : Nat) (A : Around) : Prop where
  dp : A.depth + 3 * k + 5 < recursionLimit
  un : A.units + 16 * k + 200 < cLine
theorem Room.h {k : Nat} {A : Around} (r : Room k A) (e : Option Value) : RoomH k (A.mark e) := ⟨r.dp, r.un⟩
structure FnOkH (P : Program) (w : World) (K : PySem.W.Frag) (mg : Str → Option Value) (base : Heap) (k : Nat) (f : Addr) (fd : FuncData) (ps : List Str) (sp : Sp) : Prop where
  len : ∀ vs H Q E, sp vs H Q E → vs.length = ps.length
  run : ∀ (A : Around) (outer : List Env) (s : Shared) (H : Hp) (args : Args) (us : List Value) (vs : List V) (Q : VK), RoomH k A → Env0 P w K mg base A outer s H → BindsTo s fd args (ps.zip us) → Vals vs us → sp vs H Q E0 →
    codeAny (model P w) A (.call (.ref f) args) (CR CX0 outer P w H s Q E0) s
abbrev cxH (P : Program) (w : World) (K : PySem.W.Frag) (mg : Str → Option Value) (base : Heap) (N : List Str) (qual : Str) (scope : Scope) (f : Addr) (cd : Value) (A : Around) (outer : List Env) (s : Shared) (H : Hp) : Cx :=
  { cxOf CX0 P w K mg base N qual scope f cd A outer s H E0 with calm := false, xe := fun _ _ => False }
section
variable {P : Program} {w : World} {K : PySem.W.Frag} {mg : Str → Option Value} {base : Heap}
end
section
variable {X : Cx} {k : Nat} {f : Addr} {fd : FuncData} {ps : List Str} {sp : Sp} {x : Str} {p pos : Pos} {e : Expr} {es : List Expr} {t : TA}
end
end L2
namespace L2
open PySem PySem.Spec PyProof.Rows PySem.W PySem.Calls
structure NsF (K : PySem.W.Frag) (N : Addr) (init : Option Addr) : Prop where
  lk : ∃ oc od es n sl, K.lookup N = some ⟨oc, od, .dict es n, sl⟩ ∧ (es.all fun e => match e.key with | .str _ _ => true | _ => false) = true
  ni : nsIn K N "__init__" = some (init.map Value.ref)
theorem NsF.ok {K : PySem.W.Frag} {N : Addr} {init : Option Addr} (h : NsF K N init) : nsOkIn K N = true := by
  obtain ⟨oc, od, es, n, sl, e, q⟩ := h.lk
  unfold nsOkIn
  rw [e]
  exact q
theorem tail_mk {K : PySem.W.Frag} {R : Addr} {oc : Value} {od : Option Addr} {cd : ClassData} {sl : Array (Option Value)} (lk : K.lookup R = some ⟨oc, od, .cls cd, sl⟩) (n : NsF K cd.ns none) : tailIn K bmV (.ref R :: bmV) = true := by
  have hb : tailIn K bmV bmV = true := by
    unfold tailIn
    rw [Bool.or_eq_true]
    exact .inl (beq_self_eq_true _)
  unfold tailIn
  rw [Bool.or_eq_true]
  refine .inr ?_
  dsimp only
  rw [lk]
  dsimp only
  rw [n.ok, hb, n.ni]
  rfl
theorem xcls_mk {K : PySem.W.Frag} {C : Addr} {init od : Option Addr} {cd : ClassData} {sl : Array (Option Value)} {bm : List Value} {k0 k1 k2 k3 k5 : Option Value} (lk : K.lookup C = some ⟨.type "type", od, .cls cd, sl⟩) (cm : cd.mro = .ref C :: bm)
    (hs : sl.toList = [k0, k1, k2, k3, some (.builtin "ValueError.__new__"), k5]) (hdel : cd.hasDel = false) (ht : tailIn K bmV bm = true) (n : NsF K cd.ns init) : xclsIn K C init = true := by
  unfold xclsIn
  rw [lk]
  show (match cd.mro, sl.toList with
    | .ref C' :: bm, [_, _, _, _, some (.builtin n), _] => C' == C && n == "ValueError.__new__" && !cd.hasDel && tailIn K bmV bm && nsOkIn K cd.ns && nsIn K cd.ns "__init__" == some (init.map Value.ref)
    | _, _ => false) = true
  rw [cm, hs]
  show (C == C && "ValueError.__new__" == "ValueError.__new__" && !cd.hasDel && tailIn K bmV bm && nsOkIn K cd.ns && nsIn K cd.ns "__init__" == some (init.map Value.ref)) = true
  rw [hdel, ht, n.ok, n.ni]
  simp
structure CL (K : PySem.W.Frag) (mg : Str → Option Value) (x : Str) (C : Addr) : Prop where
  mg : mg x = some (.ref C)
  is : isClsIn K C = true
  ty : typeIn K (.ref C) = some (.type "type")
theorem CL.kit {K : PySem.W.Frag} {mg : Str → Option Value} {x : Str} {C B : Addr} {b : Bool} (d : CL K mg x B) (h : mroIn K C (.ref B) = some b) (hs : C = B → b = true) : kitOne K (.ref C) (.ref B) = some b := by
  have hc : (clsIn K B).isSome = true := d.is
  unfold kitOne
  by_cases e : C = B
  · subst e
    rw [if_pos (by simp), hs rfl]
  · rw [if_neg (fun z => e (Value.ref.inj (beq_iff_eq.mp z)))]
    unfold kitCls
    show (if ((clsIn K B).isSome && typeIn K (.ref B) == some (.type "type")) = true then subIn K (.ref C) (.ref B) else none) = some b
    rw [hc, d.ty, if_pos (by simp)]
    exact h
def xAsk (K : PySem.W.Frag) (C : Addr) : Bool :=
  findIn K (.ref C) "__getattribute__" == some (some (.builtin "BaseException.__getattribute__")) && findIn K (.ref C) "__getattr__" == some none && mroIn K C (.type "BaseException") == some true && mroIn K C (.type "object") == some true &&
  findIn K (.ref C) "__class__" == some (some (.builtin "object.__class__")) && (clsIn K C).any (·.hasDict) && PySem.W.keepIn K (.ref C) && typeIn K (.ref C) == some (.type "type") && mroIn K C (.type "ValueError") == some true
structure XQ (K : PySem.W.Frag) (C : Addr) : Prop where
  g : XG K C
  kp : PySem.W.keepIn K (.ref C) = true
  ty : typeIn K (.ref C) = some (.type "type")
  ve : mroIn K C (.type "ValueError") = some true
theorem xq_of {K : PySem.W.Frag} {C : Addr} (h : xAsk K C = true) : XQ K C := by
  simp only [xAsk, Bool.and_eq_true, beq_iff_eq] at h
  obtain ⟨⟨⟨⟨⟨⟨⟨⟨h1, h2⟩, h3⟩, h4⟩, h5⟩, h6⟩, h7⟩, h8⟩, h9⟩ := h
  obtain ⟨cd, hc, hd⟩ := any_some h6
  exact ⟨⟨h1, h2, h3, h4, h5, cd, hc, hd⟩, h7, h8, h9⟩
def xFld (K : PySem.W.Frag) (C f : Addr) (fld : Str) : Bool :=
  (clsIn K C).any (fun cd => xTail cd.mro && cd.hasDict) && findIn K (.ref C) "__setattr__" == some (some (.builtin "object.__setattr__")) && findIn K (.ref C) fld == some none && PySem.W.isFn K (.ref f)
theorem xf_of {K : PySem.W.Frag} {C f : Addr} {fld : Str} (h : xFld K C f fld = true) : XF K C fld ∧ PySem.W.isFn K (.ref f) = true := by
  simp only [xFld, Bool.and_eq_true, beq_iff_eq] at h
  obtain ⟨⟨⟨h1, h2⟩, h3⟩, h4⟩ := h
  obtain ⟨cd, hc, hd⟩ := any_some h1
  rw [Bool.and_eq_true] at hd
  exact ⟨⟨⟨cd, hc, hd.1, hd.2⟩, h2, h3⟩, h4⟩
theorem xq_mk {K : PySem.W.Frag} {C : Addr} (h1 : findIn K (.ref C) "__getattribute__" = some (some (.builtin "BaseException.__getattribute__"))) (h2 : findIn K (.ref C) "__getattr__" = some none) (h3 : mroIn K C (.type "BaseException") = some true) (h4 : mroIn K C (.type "object") = some true)
    (h5 : findIn K (.ref C) "__class__" = some (some (.builtin "object.__class__"))) (h6 : hasDictIn K C = true) (h7 : PySem.W.keepIn K (.ref C) = true) (h8 : typeIn K (.ref C) = some (.type "type")) (h9 : mroIn K C (.type "ValueError") = some true) : xAsk K C = true := by
  unfold xAsk
  have h6 : (clsIn K C).any (·.hasDict) = true := h6
  rw [h1, h2, h3, h4, h5, h6, h7, h8, h9]
  simp
theorem xf_mk {K : PySem.W.Frag} {C f : Addr} {fld : Str} {oc : Value} {od : Option Addr} {cd : ClassData} {sl : Array (Option Value)} (lk : K.lookup C = some ⟨oc, od, .cls cd, sl⟩) (cm : xTail cd.mro = true) (hd : cd.hasDict = true)
    (h2 : findIn K (.ref C) "__setattr__" = some (some (.builtin "object.__setattr__"))) (h3 : findIn K (.ref C) fld = some none) (h4 : PySem.W.isFn K (.ref f) = true) : xFld K C f fld = true := by
  have hc : clsIn K C = some cd := by
    unfold clsIn
    rw [lk]
  unfold xFld
  rw [hc, h2, h3, h4]
  show ((xTail cd.mro && cd.hasDict) && _ && _ && _) = true
  rw [cm, hd]
  simp
theorem kit_own {K : PySem.W.Frag} {C B : Addr} {initB : Option Addr} {b : Bool} (hB : xclsIn K B initB = true) (q : XQ K B) (h : mroIn K C (.ref B) = some b) (hs : C = B → b = true) : kitOne K (.ref C) (.ref B) = some b := by
  unfold kitOne
  by_cases e : C = B
  · subst e
    rw [if_pos (by simp), hs rfl]
  · rw [if_neg (fun z => e (Value.ref.inj (beq_iff_eq.mp z)))]
    unfold kitCls
    have hc : (clsIn K B).isSome = true := by
      unfold xclsIn at hB
      split at hB
      · rename_i ho
        unfold clsIn
        rw [ho]
        rfl
      · cases hB
    show (if ((clsIn K B).isSome && typeIn K (.ref B) == some (.type "type")) = true then subIn K (.ref C) (.ref B) else none) = some b
    rw [hc, q.ty, if_pos (by simp)]
    exact h
theorem kit_value {K : PySem.W.Frag} {C : Addr} (q : XQ K C) : kitOne K (.ref C) (.type "ValueError") = some true := by
  unfold kitOne
  rw [if_neg (fun z => by cases beq_iff_eq.mp z)]
  exact q.ve
structure CI (K : PySem.W.Frag) (mg : Str → Option Value) (x qual : Str) (st : Stmt) (ps : List Str) (C f : Addr) (fd : FuncData) (fld : Str) : Prop where
  mg : mg x = some (.ref C)
  cls : xclsIn K C (some f) = true
  q : XQ K C
  xf : XF K C fld
  fn : PySem.W.isFn K (.ref f) = true
  fi : Fun K "__init__" qual st f fd
  ba : ∀ us : List Value, us.length = ps.length → bindArgs fd ⟨us, []⟩ = pure (ps.zip us)
structure CN (K : PySem.W.Frag) (mg : Str → Option Value) (x : Str) (C : Addr) : Prop where
  mg : mg x = some (.ref C)
  cls : xclsIn K C none = true
  q : XQ K C
def sp_init (C : Addr) (fld : Str) : Sp := fun vs H Q _ => ∃ (e : Addr) (i : Int), vs = [.ref e, .int i] ∧ H e = some (XO e C none) ∧ i.natAbs ≤ 1000000000 ∧ ∀ dx, H dx = none → Q .non (upd (upd H dx (.xd [(fld, .int i)])) e (XO e C (some dx)))
def tRz (C : Addr) (fld : Str) (E : St → XK) (t : TA) : TS := fun _ σ H => t σ H fun vs H1 => ∃ i : Int, vs = [.int i] ∧ i.natAbs ≤ 1000000000 ∧ ∀ dx, H1 dx = none → E σ (.ref C) (some dx) (upd H1 dx (.xd [(fld, .int i)]))
section
variable {X : Cx} {k j : Nat} {f C : Addr} {fd : FuncData} {ps : List Str} {sp : Sp} {x qual fld : Str} {st : Stmt} {p np cpos pos : Pos} {e : Expr} {es : List Expr} {t : TA} {E : St → XK} {L : Addr}
theorem unt_init {H1 : Hp} {ea dx : Addr} {o o' y : HO} (he : H1 ea = none) (hn : dx ≠ ea) : unt (upd (upd (upd H1 ea o) dx y) ea o') ea = upd H1 dx y := by
  funext b
  by_cases hb : b = ea
  · subst hb
    rw [unt_same, upd_ne hn.symm, he]
  · rw [unt_ne hb, upd_ne hb]
    by_cases hd : b = dx
    · subst hd
      rw [upd_same, upd_same]
    · rw [upd_ne hd, upd_ne hd, upd_ne hb]
theorem praiseX (d : CI X.K X.mg x qual st ps C f fd fld) (F : FnOk X.prog X.w X.K X.mg X.base CX0 j f fd ps (sp_init C fld)) (hr : Room k X.A) (hg : Gl X x) (hL : X.env.frame = some L) (hcm : X.calm = true) (ha : PA (X.wish (Fly X E)) (e :: es) t) (hjk : j + 1 ≤ k := by decide) (hdb : (x == ("__debug__" : Str)) = false := by decide)
    (he : starEach (e :: es) X.env = (false, eval e X.env) :: starEach es X.env := by rfl) (hpl : (backTo cpos (starEach es X.env)).any (·.1) = false := by rfl) :
    PS (X.wish (Fly X E)) (.Raise (some (.Call (.Name x np) (e :: es) [] cpos)) none pos) (tRz C fld E t) := by
  refine ps_raiseX (R := fun σ vs H1 => ∃ i : Int, vs = [.int i] ∧ i.natAbs ≤ 1000000000 ∧ ∀ dx, H1 dx = none → E σ (.ref C) (some dx) (upd H1 dx (.xd [(fld, .int i)]))) hL hcm ⟨d.cls, d.fn, d.q.kp⟩ F (hr.mono hjk) hg d.mg (.all d.ba) (fun σ vs H1 h1 => ?_) ha hdb he hpl
  obtain ⟨i, rfl, hi, q⟩ := h1
  refine ⟨by show 1 ≤ 10; decide, fun ea hea => ⟨ea, i, rfl, upd_same, hi, fun dx hdx => ⟨rfl, rfl, some dx, upd_same, ?_⟩⟩⟩
  have hne : dx ≠ ea := fun z => by rw [z, upd_same] at hdx; cases hdx
  rw [upd_ne hne] at hdx
  rw [unt_init hea hne]
  exact q dx hdx
theorem pcallX (d : D X.K X.mg x st ps f fd) (F : FnOk X.prog X.w X.K X.mg X.base (CX1 X.prog X.w) j f fd ps sp) (hr : Room k X.A) (hg : Gl X x) (hL : X.env.frame = some L) (ha : PA (X.wish (Fly X E)) (e :: es) t) (hjk : j ≤ k := by decide) (hdb : (x == ("__debug__" : Str)) = false := by decide)
    (he : starEach (e :: es) X.env = (false, eval e X.env) :: starEach es X.env := by rfl) (hpl : (backTo pos (starEach es X.env)).any (·.1) = false := by rfl) :
    PE (X.wish (Fly X E)) (.Call (.Name x p) (e :: es) [] pos) (tCallS sp E t) := pe_callX hL (F.mono hjk) hr hg d.mg d.fn.kp (.all d.ba) ha hdb he hpl
end
theorem kph_cons {X : Cx} (K : PySem.W.Frag) (hK : X.K = K) {B : Addr} {initB : Option Addr} {x n : Str} {i : Nat} {np hpos : Pos} {b₀ : Stmt} {suite : List Stmt} {rest : List ExceptHandler} {ts : TS} {tr : THd} (hg : Gl X x) (hm : X.mg x = some (.ref B)) (hB : xclsIn K B initB = true)
    (hN : X.N.Nodup) (hi : X.N[i]? = some n) (hk : X.env.scope.names.lookup n = some .local) (hsuite : ∀ e, PSs (X.suite e) (b₀ :: suite) ts) (hrest : PHs X rest tr) (hdb : (x == ("__debug__" : Str)) = false := by decide) :
    PHs X (.ExceptHandler (some (.Name x np)) (some n) (b₀ :: suite) hpos :: rest) (tHd K B i ts tr) := by subst hK; exact ph_cons hg hm hB hN hi hk hsuite hrest hdb
end L2
namespace L2
open PySem PySem.Spec PyProof.Rows PySem.W PySem.Calls
def rAny (K : PySem.W.Frag) : List V → Hp → VK → Prop := fun xs H Q => ∃ (p : Addr) (bs : List Bool), xs = [.ref p] ∧ SqL K H p (bs.map V.bl) ∧ Q (.bl (bs.any id)) H
section
variable {prog : Program} {w : World} {A : Around} {env : Env} {R : Except Value Flow → Shared → Prop} {s : Shared}
end
def tHd0 (K : PySem.W.Frag) (B : Addr) (ts : TS) (tr : THd) : THd := fun D σ cls dx H => ∃ C init b, cls = .ref C ∧ xclsIn K C init = true ∧ mroIn K C (.ref B) = some b ∧
  (if b = true then ts D σ H else tr D σ cls dx H)
section
variable {X : Cx}
end
end L2
namespace L2
open PySem PySem.Spec PyProof.Rows
section
variable {X : Cx}
def rUpper : V → List V → Hp → VK → Prop := fun x xs H Q => ∃ z : Str, x = .str z ∧ xs = [] ∧ Builtin.Str.tooLong (Txt.upper z).length = false ∧ Q (.str (Txt.upper z)) H
end
end L2
namespace Cs
open PySem L2
def SgOk (n : Nat) (x : Str) : Prop := x.length ≤ n ∧ ∀ c ∈ x.cps.toList, c < 128
end Cs
namespace Cs
open PySem L2
theorem SgOk.lay {n : Nat} {x : Str} (h : SgOk n x) : PyData.canLay0 (.str x) = true := by
  show (x.cps.all fun c => decide (c < 0x110000)) = true
  rw [← Array.all_toList, List.all_eq_true]
  intro c hc
  have := h.2 c hc
  exact decide_eq_true (by omega)
def isSign (x : Str) : Bool := match x.cps.toList with
  | [c] => decide (c ∈ signs)
  | _ => false
def isChan (r : Row) : Bool := isSign r.s && decide (1 ≤ r.w ∧ r.w ≤ 99) && decide (0 ≤ r.t ∧ r.t ≤ 127) && decide (0 ≤ r.n ∧ r.n ≤ 40)
def stand (ah : List Row) (r : Row) : Bool := isChan r && (place ah r.s).isNone && !decide (r.t ∈ ah.map fun x => x.t)
def AllStand (rs : List Row) (k : Nat) : Prop := ∀ i r, i < k → rs[i]? = some r → stand (rs.take i) r = true
inductive Looks (rs : List Row) : Option Nat → Prop
  | none0 : rs = [] → Looks rs (some 0)
  | bad {k : Nat} {r : Row} : AllStand rs k → rs[k]? = some r → stand (rs.take k) r = false → Looks rs (some k)
  | good : rs ≠ [] → AllStand rs rs.length → Looks rs none
theorem Looks.uniq {rs : List Row} {a b : Option Nat} (ha : Looks rs a) (hb : Looks rs b) : a = b := by
  have lt : ∀ {k : Nat} {r : Row}, rs[k]? = some r → k < rs.length := fun h => (List.getElem?_eq_some_iff.mp h).1
  cases ha with
  | none0 e =>
    cases hb with
    | none0 _ => rfl
    | bad _ h _ => rw [e] at h; simp at h
    | good n _ => exact absurd e n
  | bad a1 h1 s1 =>
    cases hb with
    | none0 e => rw [e] at h1; simp at h1
    | bad a2 h2 s2 =>
      rename_i k r k' r'
      rcases Nat.lt_trichotomy k k' with z | z | z
      · have := a2 k r z h1
        rw [s1] at this
        cases this
      · rw [z]
      · have := a1 k' r' z h2
        rw [s2] at this
        cases this
    | good _ a2 =>
      have := a2 _ _ (lt h1) h1
      rw [s1] at this
      cases this
  | good n a1 =>
    cases hb with
    | none0 e => exact absurd e n
    | bad a2 h2 s2 =>
      have := a1 _ _ (lt h2) h2
      rw [s2] at this
      cases this
    | good _ _ => rfl
theorem fits_in {α : Type} [DecidableEq α] : ∀ {xs ys : List α}, xs.Nodup → (∀ x ∈ xs, x ∈ ys) → xs.length ≤ ys.length
  | [], _, _, _ => Nat.zero_le _
  | x :: xs, ys, h, hs => by
    obtain ⟨h1, h2⟩ := List.nodup_cons.mp h
    have hx := hs x List.mem_cons_self
    have ih := fits_in (xs := xs) (ys := ys.erase x) h2 fun y hy => by
      have hne : y ≠ x := fun e => h1 (by rw [← e]; exact hy)
      exact (List.mem_erase_of_ne hne).mpr (hs y (List.mem_cons_of_mem _ hy))
    rw [List.length_erase_of_mem hx] at ih
    have := List.length_pos_of_mem hx
    rw [List.length_cons]
    omega
theorem isSign_mem {x : Str} (h : isSign x = true) : x ∈ signs.map sg := by
  unfold isSign at h
  split at h
  · rename_i c e
    refine List.mem_map.mpr ⟨c, of_decide_eq_true h, ?_⟩
    exact (Lns.str_ext e).symm
  · cases h
theorem stand_sign {ah : List Row} {r : Row} (h : stand ah r = true) : isSign r.s = true ∧ place ah r.s = none := by
  unfold stand isChan at h
  simp only [Bool.and_eq_true] at h
  exact ⟨h.1.1.1.1.1, Option.isNone_iff_eq_none.mp h.1.2⟩
theorem place_mem_none {rs : List Row} {x : Str} (h : place rs x = none) : x ∉ rs.map fun r => r.s := by
  unfold place at h
  rw [List.findIdx?_eq_none_iff] at h
  intro hm
  obtain ⟨r, hr, e⟩ := List.mem_map.mp hm
  have := h r hr
  rw [decide_eq_true e] at this
  cases this
theorem AllStand.signs {rs : List Row} {k : Nat} (h : AllStand rs k) (hk : k ≤ rs.length) : ((rs.take k).map fun r => r.s).Nodup ∧ ∀ x ∈ (rs.take k).map fun r => r.s, x ∈ signs.map sg := by
  induction k with
  | zero => exact ⟨by simp, fun x hx => by simp at hx⟩
  | succ k ih =>
    obtain ⟨i1, i2⟩ := ih (fun i r hi hr => h i r (by omega) hr) (by omega)
    have hr : rs[k]? = some rs[k] := List.getElem?_eq_getElem (by omega)
    obtain ⟨s1, s2⟩ := stand_sign (h k _ (Nat.lt_succ_self k) hr)
    have e : rs.take (k + 1) = rs.take k ++ [rs[k]] := by rw [List.take_add_one, hr]; rfl
    rw [e, List.map_append]
    constructor
    · rw [List.nodup_append]
      refine ⟨i1, by simp, fun a ha b hb => ?_⟩
      have hb : b = rs[k].s := List.mem_singleton.mp hb
      intro z
      rw [z, hb] at ha
      exact place_mem_none s2 ha
    · intro x hx
      rcases List.mem_append.mp hx with z | z
      · exact i2 x z
      · rw [List.mem_singleton.mp z]
        exact isSign_mem s1
theorem AllStand.few {rs : List Row} {k : Nat} (h : AllStand rs k) (hk : k ≤ rs.length) : k ≤ 30 := by
  obtain ⟨h1, h2⟩ := h.signs hk
  have := fits_in h1 h2
  rw [List.length_map, List.length_take, Nat.min_eq_left hk, List.length_map] at this
  exact this
theorem AllStand.succ {rs : List Row} {k : Nat} {r : Row} (h : AllStand rs k) (hr : rs[k]? = some r) (hs : stand (rs.take k) r = true) : AllStand rs (k + 1) := fun i r' hi hr' => by
  by_cases e : i = k
  · subst e
    rw [hr] at hr'
    cases hr'
    exact hs
  · exact h i r' (by omega) hr'
end Cs
namespace L2
open PySem PySem.Spec PyProof.Rows
section
variable {X : Cx}
def rCount : V → List V → Hp → VK → Prop := fun x vs H Q => ∃ (l : Addr) (ns : List Int) (z : Int), x = .ref l ∧ vs = [.int z] ∧ H l = some (.lst (ns.map V.int)) ∧ Q (.int (ns.count z : Nat)) H
theorem count_vals (z : Int) : ∀ (ns : List Int) (its : List Value), Vals (ns.map V.int) its → its.countP (eqI z) = ns.count z
  | [], _, h => by
    cases h
    rfl
  | n :: ns, _, h => by
    cases h with
    | cons r t =>
      obtain ⟨tk, rfl⟩ := r
      rw [List.countP_cons, List.count_cons, count_vals z ns _ t]
      rfl
theorem mt_count : MtR X "list.count" rCount := by
  intro pins s σ H x vs v us Q I rx rv h
  obtain ⟨l, ns, z, rfl, rfl, hH, q⟩ := h
  cases rx
  obtain ⟨u, rfl, ru⟩ := rv.one
  obtain ⟨t, rfl⟩ := ru
  obtain ⟨zz, its, n, r, hl, e⟩ := I.lstM hH
  rw [List.length_map] at hl
  have at_ : ∀ (m : Nat) (hm : m < its.length), ∃ t', its[m] = .int (ns[m]'(by omega)) t' := fun m hm => by
    obtain ⟨u, hu, ru⟩ := r.get (i := m) (x := .int (ns[m]'(by omega))) (by rw [List.getElem?_map, List.getElem?_eq_getElem (by omega)]; rfl)
    rw [List.getElem?_eq_getElem hm] at hu
    obtain ⟨t', rfl⟩ := ru
    exact ⟨t', Option.some.inj hu⟩
  refine call_meets F.slot_list_count ⟨_, e, rfl⟩ F.entry_list_count (F.args_list_count_2 _ _)
    (MeetsSeq.list_count l its.toArray n (.int z t) (eqI z) (fun y hy => ?_)) ⟨e, ?_⟩
  · obtain ⟨m, hm, ey⟩ := List.getElem_of_mem (show y ∈ its by simpa using hy)
    obtain ⟨t', e'⟩ := at_ m hm
    rw [← ey, e']
    exact MeetsSeq.EqGives.int _ _ _ _
  · rw [show its.toArray.toList = its from rfl, count_vals z ns its r]
    exact ⟨.int (ns.count z : Nat), H, I.tok _, ⟨_, rfl⟩, q⟩
end
end L2
namespace Lan
open PySem L2
abbrev Mx := Str × Int
def MatAt (H : Hp) (v : V) (m : Mx) : Prop := ∃ a, v = .ref a ∧ H a = some (.tup [.str m.1, .int m.2])
theorem mats_same {H H' : Hp} {xs : List V} {ms : List Mx} (h : Paired (MatAt H) xs ms) (s : Same H H') : Paired (MatAt H') xs ms := Paired.mapP h fun _ _ ⟨a, e, z⟩ => ⟨a, e, s _ _ z⟩
theorem mats_upd {H : Hp} {p : Addr} {ys : List V} {o : HO} {xs : List V} {ms : List Mx} (h : Paired (MatAt H) xs ms) (hp : H p = some (.lst ys)) : Paired (MatAt (upd H p o)) xs ms :=
  Paired.mapP h fun _ _ ⟨a, e, z⟩ => ⟨a, e, by rw [upd_ne (ne_of z hp (fun q => by cases q))]; exact z⟩
theorem mats_rep {H : Hp} {v : V} {m : Mx} (h : MatAt H v m) : ∀ n : Nat, Paired (MatAt H) (List.replicate n v) (List.replicate n m)
  | 0 => .nil
  | n + 1 => .cons h (mats_rep h n)
theorem pd_set {α β : Type} {F : α → β → Prop} {a : α} {b : β} (h : F a b) : ∀ {xs : List α} {ys : List β} (i : Nat), Paired F xs ys → Paired F (xs.set i a) (ys.set i b)
  | _, _, _, .nil => .nil
  | _, _, 0, .cons _ t => .cons h t
  | _, _, i + 1, .cons r t => .cons r (pd_set h i t)
def LaneAt (H0 : Hp) (no : Addr) (H : Hp) (v : V) (ms : List Mx) : Prop := ∃ p xs, v = .ref p ∧ p ≠ no ∧ H0 p = none ∧ H p = some (.lst xs) ∧ Paired (MatAt H) xs ms
theorem lanes_same {H0 H H' : Hp} {no : Addr} {zs : List V} {ls : List (List Mx)} (h : Paired (LaneAt H0 no H) zs ls) (s : Same H H') : Paired (LaneAt H0 no H') zs ls :=
  Paired.mapP h fun _ _ ⟨p, xs, e, n, f, z, m⟩ => ⟨p, xs, e, n, f, s _ _ z, mats_same m s⟩
theorem lanes_no {H0 H : Hp} {no : Addr} {ys : List V} {o : HO} {zs : List V} {ls : List (List Mx)} (h : Paired (LaneAt H0 no H) zs ls) (hn : H no = some (.lst ys)) : Paired (LaneAt H0 no (upd H no o)) zs ls :=
  Paired.mapP h fun _ _ ⟨p, xs, e, n, f, z, m⟩ => ⟨p, xs, e, n, f, by rw [upd_ne n]; exact z, mats_upd m hn⟩
theorem lanes_new {H0 H : Hp} {no : Addr} {zs : List V} {ls : List (List Mx)} {p : Addr} (h : Paired (LaneAt H0 no H) zs ls) (hp : H p = none) : V.ref p ∉ zs := by
  intro hm
  obtain ⟨i, hi, e⟩ := List.getElem_of_mem hm
  obtain ⟨_, _, p2, xs, e2, _, _, z, _⟩ := Cs.pd_get h (List.getElem?_eq_getElem hi)
  rw [e] at e2
  cases e2
  rw [hp] at z
  cases z
theorem lanes_set {H0 H : Hp} {no p : Addr} {ys ys' : List V} {ms' : List Mx} : ∀ {zs : List V} {ls : List (List Mx)} (k : Nat), Paired (LaneAt H0 no H) zs ls → zs.Nodup → zs[k]? = some (.ref p) → H p = some (.lst ys) → Paired (MatAt (upd H p (.lst ys'))) ys' ms' → p ≠ no → H0 p = none →
    Paired (LaneAt H0 no (upd H p (.lst ys'))) zs (ls.set k ms')
  | _, _, _, .nil, _, h, _, _, _, _ => by simp at h
  | _, _, 0, .cons r t, hn, h, hp, hm, hno, hf => by
    have h : _ = V.ref p := Option.some.inj h
    subst h
    obtain ⟨hn1, _⟩ := List.nodup_cons.mp hn
    refine .cons ⟨p, ys', rfl, hno, hf, upd_same, hm⟩ (lanes_else t hn1 hp)
  | _, _, k + 1, .cons r t, hn, h, hp, hm, hno, hf => by
    obtain ⟨hn1, hn2⟩ := List.nodup_cons.mp hn
    obtain ⟨q, xs, e, n, f, z, m⟩ := r
    subst e
    have hne : q ≠ p := fun e => by
      rw [e] at hn1
      exact hn1 (List.mem_of_getElem? h)
    exact .cons ⟨q, xs, rfl, n, f, by rw [upd_ne hne]; exact z, mats_upd m hp⟩ (lanes_set k t hn2 h hp hm hno hf)
where
  lanes_else : ∀ {zs : List V} {ls : List (List Mx)}, Paired (LaneAt H0 no H) zs ls → V.ref p ∉ zs → H p = some (.lst ys) → Paired (LaneAt H0 no (upd H p (.lst ys'))) zs ls
    | _, _, .nil, _, _ => .nil
    | _, _, .cons ⟨q, xs, e, n, f, z, m⟩ t, hn, hp => by
      subst e
      have hne : q ≠ p := fun e => hn (by rw [e]; exact List.mem_cons_self)
      exact .cons ⟨q, xs, rfl, n, f, by rw [upd_ne hne]; exact z, mats_upd m hp⟩ (lanes_else t (fun h => hn (List.mem_cons_of_mem _ h)) hp)
end Lan
namespace Lw
open PySem L2
set_option maxHeartbeats 4000000
section

local macro_rules | `(tactic| walk_at "hk") => `(tactic| first | assumption | exact upd_same | exact same_new (by assumption) _ _ _ (by walk_at "hk"))
local macro_rules | `(tactic| walk_at "rd1") => `(tactic| first | refine ⟨_, rfl, ?_⟩ | refine ⟨_, _, rfl, rfl, ?_⟩ | refine ⟨_, _, _, _, rfl, rfl, SqL.of (by walk_at "hk"), (by assumption), ?_⟩ | refine And.intro rfl ?_ | refine And.intro (Nat.le_of_ble_eq_true rfl) ?_ | refine And.intro (by first | decide | omega) ?_ | refine And.intro ⟨by first | decide | omega, by first | decide | omega⟩ ?_ | refine And.intro (.inl ⟨by first | decide | omega, by first | decide | omega⟩) ?_ | refine And.intro (.inr ⟨by first | decide | omega, by first | decide | omega⟩) ?_ | refine ⟨_, _, rfl, SqT.of (by first | exact upd_same | assumption), rfl, ?_⟩)
local macro_rules | `(tactic| walk_at "rd") => `(tactic| repeat (walk_at "rd1"))
local macro_rules | `(tactic| walk_at "tg") => `(tactic| refine ⟨_, _, rfl, ?_⟩)
def top (i : Nat) : Stmt := PySem.Challenge.pw_linecaster_k40_broken_matrices_told.main.body.getD i (.Pass ⟨0, 0, 0, 0⟩)
abbrev s_has_all : Stmt := top 5
theorem sc_has_all : FnScope ["teeth", "others"] ["teeth", "others"] (defScope s_has_all) := ⟨rfl, rfl, rfl, by decide +kernel, rfl, by decide +kernel, by decide +kernel⟩
abbrev s_can_break : Stmt := top 7
theorem sc_can_break : FnScope ["case", "ahead", "channel", "teeth", "sign", "width", "own", "many"] ["case", "ahead", "channel", "teeth"] (defScope s_can_break) := ⟨rfl, rfl, rfl, by decide +kernel, rfl, by decide +kernel, by decide +kernel⟩
abbrev s_channels_of : Stmt := top 8
theorem sc_channels_of : FnScope ["case", "broken", "channels", "ahead", "at", "part", "channel", "lost", "sign", "width", "own", "many"] ["case", "broken"] (defScope s_channels_of) := ⟨rfl, rfl, rfl, by decide +kernel, rfl, by decide +kernel, by decide +kernel⟩
abbrev s_law_cell_at : Stmt := top 10
theorem sc_law_cell_at : FnScope ["_law_script", "_law_k"] ["_law_script", "_law_k"] (defScope s_law_cell_at) := ⟨rfl, rfl, rfl, by decide +kernel, rfl, by decide +kernel, by decide +kernel⟩
abbrev s_law_mixed : Stmt := top 11
theorem sc_law_mixed : FnScope ["_law_cell", "_law_k"] ["_law_cell", "_law_k"] (defScope s_law_mixed) := ⟨rfl, rfl, rfl, by decide +kernel, rfl, by decide +kernel, by decide +kernel⟩
abbrev s_law_bits : Stmt := top 12
theorem sc_law_bits : FnScope ["_law_one_here", "_law_many"] ["_law_one_here"] (defScope s_law_bits) := ⟨rfl, rfl, rfl, by decide +kernel, rfl, by decide +kernel, by decide +kernel⟩
abbrev s_law_teeth : Stmt := top 13
theorem sc_law_teeth : FnScope ["_law_number", "_law_many", "_law_teeth_here", "_law_k", "_law_one_here"] ["_law_number", "_law_many"] (defScope s_law_teeth) := ⟨rfl, rfl, rfl, by decide +kernel, rfl, by decide +kernel, by decide +kernel⟩
abbrev s_law_case : Stmt := top 14
theorem sc_law_case : FnScope ["_law_script", "_law_most", "_law_signs", "_law_number", "_law_teeth_here", "_law_case_here", "_law_k", "_law_one_here", "_law_sign"] ["_law_script", "_law_most"] (defScope s_law_case) := ⟨rfl, rfl, rfl, by decide +kernel, rfl, by decide +kernel, by decide +kernel⟩
abbrev s_law_one : Stmt := top 15
theorem sc_law_one : FnScope ["_law_case_here", "_law_number", "_law_channel", "_law_own", "_law_other", "_law_lost"] ["_law_case_here", "_law_number"] (defScope s_law_one) := ⟨rfl, rfl, rfl, by decide +kernel, rfl, by decide +kernel, by decide +kernel⟩
abbrev s_law_due : Stmt := top 16
theorem sc_law_due : FnScope ["_law_case_here", "_law_broken", "_law_lanes", "_law_used", "_law_k", "_law_one_here", "_law_channel", "_law_lost", "_law_own"] ["_law_case_here", "_law_broken"] (defScope s_law_due) := ⟨rfl, rfl, rfl, by decide +kernel, rfl, by decide +kernel, by decide +kernel⟩
abbrev s_law_told : Stmt := top 17
theorem sc_law_told : FnScope ["_law_case_here", "_law_broken", "_law_found", "e"] ["_law_case_here", "_law_broken"] (defScope s_law_told) := ⟨rfl, rfl, rfl, by decide +kernel, rfl, by decide +kernel, by decide +kernel⟩
abbrev s_law_right : Stmt := top 18
theorem sc_law_right : FnScope ["_law_case_here", "_law_broken", "_law_handed", "_law_one_here", "_law_due_here", "_law_found", "_law_lane"] ["_law_case_here", "_law_broken"] (defScope s_law_right) := ⟨rfl, rfl, rfl, by decide +kernel, rfl, by decide +kernel, by decide +kernel⟩
abbrev s_law : Stmt := top 19
theorem sc_law : FnScope ["_law_script", "_law_case_here", "_law_good", "_law_k", "_law_cell", "_law_one_here"] ["_law_script"] (defScope s_law) := ⟨rfl, rfl, rfl, by decide +kernel, rfl, by decide +kernel, by decide +kernel⟩
abbrev s_init_NoCase : Stmt := inClass (top 2) 0
theorem sc_init_NoCase : FnScope ["self", "at"] ["self", "at"] (defScope s_init_NoCase) := ⟨rfl, rfl, rfl, by decide +kernel, rfl, by decide +kernel, by decide +kernel⟩
set_option genInjectivity false
set_option genSizeOf false
structure Ad where
  f_has_all : Addr
  d_has_all : FuncData
  f_can_break : Addr
  d_can_break : FuncData
  f_channels_of : Addr
  d_channels_of : FuncData
  f_law_cell_at : Addr
  d_law_cell_at : FuncData
  f_law_mixed : Addr
  d_law_mixed : FuncData
  f_law_bits : Addr
  d_law_bits : FuncData
  f_law_teeth : Addr
  d_law_teeth : FuncData
  f_law_case : Addr
  d_law_case : FuncData
  f_law_one : Addr
  d_law_one : FuncData
  f_law_due : Addr
  d_law_due : FuncData
  f_law_told : Addr
  d_law_told : FuncData
  f_law_right : Addr
  d_law_right : FuncData
  f_law : Addr
  d_law : FuncData
  c_CasterError : Addr
  c_NoCase : Addr
  f_init_NoCase : Addr
  d_init_NoCase : FuncData
  c_NoKeys : Addr
structure Tx (K : PySem.W.Frag) (mg : Str → Option Value) (a : Ad) : Prop where
  has_all : D K mg "has_all" s_has_all ["teeth", "others"] a.f_has_all a.d_has_all
  can_break : D K mg "can_break" s_can_break ["case", "ahead", "channel", "teeth"] a.f_can_break a.d_can_break
  channels_of : D K mg "channels_of" s_channels_of ["case", "broken"] a.f_channels_of a.d_channels_of
  law_cell_at : D K mg "_law_cell_at" s_law_cell_at ["_law_script", "_law_k"] a.f_law_cell_at a.d_law_cell_at
  law_mixed : D K mg "_law_mixed" s_law_mixed ["_law_cell", "_law_k"] a.f_law_mixed a.d_law_mixed
  law_bits : D K mg "_law_bits" s_law_bits ["_law_one_here"] a.f_law_bits a.d_law_bits
  law_teeth : D K mg "_law_teeth" s_law_teeth ["_law_number", "_law_many"] a.f_law_teeth a.d_law_teeth
  law_case : D K mg "_law_case" s_law_case ["_law_script", "_law_most"] a.f_law_case a.d_law_case
  law_one : D K mg "_law_one" s_law_one ["_law_case_here", "_law_number"] a.f_law_one a.d_law_one
  law_due : D K mg "_law_due" s_law_due ["_law_case_here", "_law_broken"] a.f_law_due a.d_law_due
  law_told : D K mg "_law_told" s_law_told ["_law_case_here", "_law_broken"] a.f_law_told a.d_law_told
  law_right : D K mg "_law_right" s_law_right ["_law_case_here", "_law_broken"] a.f_law_right a.d_law_right
  law : D K mg "law" s_law ["_law_script"] a.f_law a.d_law
  cl_CasterError : CN K mg "CasterError" a.c_CasterError
  cl_NoCase : CI K mg "NoCase" "NoCase.__init__" s_init_NoCase ["self", "at"] a.c_NoCase a.f_init_NoCase a.d_init_NoCase "at"
  cl_NoKeys : CL K mg "NoKeys" a.c_NoKeys
  bi : BI K a.c_CasterError
  m_NoCase_CasterError : PySem.W.mroIn K a.c_NoCase (.ref a.c_CasterError) = some true
  m_NoCase_NoCase : PySem.W.mroIn K a.c_NoCase (.ref a.c_NoCase) = some true
  m_NoCase_NoKeys : PySem.W.mroIn K a.c_NoCase (.ref a.c_NoKeys) = some false
  b_ValueError : mg "ValueError" = none
  b_bool : mg "bool" = none
  b_enumerate : mg "enumerate" = none
  b_int : mg "int" = none
  b_isinstance : mg "isinstance" = none
  b_len : mg "len" = none
  b_list : mg "list" = none
  b_range : mg "range" = none
  b_sorted : mg "sorted" = none
abbrev lawLevel : Nat := 9
end
end Lw
namespace Lw
open PySem L2
set_option maxHeartbeats 4000000
section
variable {P : Program} {w : World} {K : PySem.W.Frag} {mg : Str → Option Value} {base : Heap} {a : Ad}
local macro_rules | `(tactic| walk_at "hk") => `(tactic| first | assumption | exact upd_same | exact same_new (by assumption) _ _ _ (by walk_at "hk"))
local macro_rules | `(tactic| walk_at "rd1") => `(tactic| first | refine ⟨_, rfl, ?_⟩ | refine ⟨_, _, rfl, rfl, ?_⟩ | refine ⟨_, _, _, _, rfl, rfl, SqL.of (by walk_at "hk"), (by assumption), ?_⟩ | refine And.intro rfl ?_ | refine And.intro (Nat.le_of_ble_eq_true rfl) ?_ | refine And.intro (by first | decide | omega) ?_ | refine And.intro ⟨by first | decide | omega, by first | decide | omega⟩ ?_ | refine And.intro (.inl ⟨by first | decide | omega, by first | decide | omega⟩) ?_ | refine And.intro (.inr ⟨by first | decide | omega, by first | decide | omega⟩) ?_ | refine ⟨_, _, rfl, SqT.of (by first | exact upd_same | assumption), rfl, ?_⟩)
local macro_rules | `(tactic| walk_at "rd") => `(tactic| repeat (walk_at "rd1"))
local macro_rules | `(tactic| walk_at "tg") => `(tactic| refine ⟨_, _, rfl, ?_⟩)
theorem ok_init_NoCase (T : Tx K mg a) : FnOk P w K mg base CX0 1 a.f_init_NoCase a.d_init_NoCase ["self", "at"] (sp_init a.c_NoCase "at") := by
  refine T.cl_NoCase.fi.ok sc_init_NoCase (fun vs H Q E h => ?_) (fun cdv A outer s H vs Q E hr h => ?_)
  · obtain ⟨e, i, rfl, _⟩ := h
    rfl
  obtain ⟨e, i, rfl, he, hi, q⟩ := h
  refine ⟨_, (pss_cons (ps_expr (pe_binit T.bi rfl T.cl_CasterError.mg (pa_cons (pv 0) (pa_cons (pe_j3 pe_str (pe_fmt (pv 1)) pe_str) pa_nil)))) (pss_one (ps_xfld (pv 0) (pv 1) rfl))), ?_⟩
  refine ⟨_, rfl, ?_⟩
  refine ⟨_, rfl, by decide, ?_⟩
  refine ⟨_, rfl, ?_⟩
  refine ⟨i, rfl, hi, fun x hx => ?_⟩
  refine ⟨x, rfl, hx, ?_⟩
  refine ⟨_, rfl, by decide, fun y => ?_⟩
  refine ⟨e, a.c_NoCase, none, some a.f_init_NoCase, y, rfl, he, T.cl_NoCase.cls, ?_⟩
  refine ⟨_, rfl, ?_⟩
  refine ⟨_, rfl, ?_⟩
  exact ⟨e, a.c_NoCase, rfl, he, T.cl_NoCase.xf, fun dx hdx => q dx hdx⟩
def sp_law_cell_at (K : PySem.W.Frag) : Sp := fun vs H Q _ => ∃ (l : Addr) (k : Int) (ns : List Int), vs = [.ref l, .int k] ∧ SqL K H l (ns.map V.int) ∧ 0 ≤ k ∧ ∀ z, Q (.int z) H
theorem ok_law_cell_at (T : Tx K mg a) : FnOk P w K mg base CX0 1 a.f_law_cell_at a.d_law_cell_at ["_law_script", "_law_k"] (sp_law_cell_at K) := by
  refine T.law_cell_at.fn.ok sc_law_cell_at (fun vs H Q E h => ?_) (fun cdv A outer s H vs Q E hr h => ?_)
  · obtain ⟨l, k, ns, rfl, _⟩ := h
    rfl
  obtain ⟨l, k, ns, rfl, hS, h0, q⟩ := h
  refine ⟨_, (pss_cons (ps_if (pt_cmpR op_lt (pv 1) (pe_callB (klen_seq K rfl) rfl T.b_len bt_len (pa_cons (pv 0) pa_nil)) (nomark _)) (pss_one (ps_ret (pe_ix (kix_list K rfl) (pv 0) (pv 1) (fun _ _ => rfl)))) pss_nil)
      (pss_one (ps_ret pe_int))), ?_⟩
  walk_at "rd"
  refine ⟨l, _, rfl, .inl hS, ?_⟩
  walk_at "rd"
  refine ite2 (fun c => ?_) (fun c => ?_)
  · have c' := of_decide_eq_true c
    rw [List.length_map] at c'
    walk_at "rd"
    exact ⟨l, _, _, _, rfl, rfl, hS, atI_getD h0 c', q _⟩
  · exact q _
def sp_law_mixed : Sp := fun vs H Q _ => ∃ c k : Int, vs = [.int c, .int k] ∧ 0 ≤ k ∧ k ≤ 1000000 ∧ ∀ z, 0 ≤ z → z < 2147483647 → Q (.int z) H
theorem ok_law_mixed (T : Tx K mg a) : FnOk P w K mg base CX0 1 a.f_law_mixed a.d_law_mixed ["_law_cell", "_law_k"] sp_law_mixed := by
  refine T.law_mixed.fn.ok sc_law_mixed (fun vs H Q E h => ?_) (fun cdv A outer s H vs Q E hr h => ?_)
  · obtain ⟨c, k, rfl, _⟩ := h
    rfl
  obtain ⟨c, k, rfl, h0, h1, q⟩ := h
  refine ⟨_, (pss_one (ps_ret (pe_op op_mod (pe_op op_mul (pe_op op_add (pe_op op_add (pe_op op_add (pe_op op_mod (pv 0) pe_int) (pe_op op_mul (pe_op op_mul pe_int (pv 1)) (pv 1))) (pv 1)) pe_int) pe_int) pe_int))), ?_⟩
  walk_at "rd"
  exact q _ (Int.emod_nonneg _ (by decide)) (Int.emod_lt_of_pos _ (by decide))
theorem pc_step : ∀ c : Nat, c < 128 → Mt.pc (c : Int) = ((c % 2 : Nat) : Int) + Mt.pc ((c / 2 : Nat) : Int) := by decide +kernel
def sp_law_bits : Sp := fun vs H Q _ => ∃ c : Nat, vs = [.int (c : Int)] ∧ c < 128 ∧ Q (.int (Mt.pc (c : Int))) H
theorem ok_law_bits (T : Tx K mg a) : FnOk P w K mg base CX0 1 a.f_law_bits a.d_law_bits ["_law_one_here"] sp_law_bits := by
  refine T.law_bits.fn.ok sc_law_bits (fun vs H Q E h => ?_) (fun cdv A outer s H vs Q E hr h => ?_)
  · obtain ⟨c, rfl, _⟩ := h
    rfl
  obtain ⟨c, rfl, hc, q⟩ := h
  refine ⟨_, (pss_cons (ps_set (i := 1) sc_law_bits.nd rfl (Or.inl rfl) pe_int)
      (pss_cons (ps_while PassesOwn.never (pt_cmpR op_gt (pv 0) pe_int (nomark _)) (pss_cons (ps_set (i := 1) sc_law_bits.nd rfl (Or.inl rfl) (pe_op op_add (pv 1) (pe_op op_mod (pv 0) pe_int)))
      (pss_one (ps_set (i := 0) sc_law_bits.nd rfl (Or.inl rfl) (pe_op op_fdiv (pv 0) pe_int)))))
      (pss_one (ps_ret (pv 1))))), ?_⟩
  walk_at "rd"
  refine ⟨fun m σ H2 => ∃ (n : Nat) (s0 : Int), σ = [some (.int (n : Int)), some (.int s0)] ∧ H2 = H ∧ n < 128 ∧ s0 + Mt.pc (n : Int) = Mt.pc (c : Int) ∧ n = m, ⟨c, c, 0, rfl, rfl, hc, by omega, rfl⟩, ?_⟩
  rintro m σ H2 ⟨n, s0, rfl, rfl, hn, hs, rfl⟩
  walk_at "rd"
  refine ite2 (fun c1 => ?_) (fun c1 => ?_)
  · have c1 : (0 : Int) < (n : Int) := of_decide_eq_true c1
    refine ⟨fun σ' H' => ∃ (n' : Nat) (s1 : Int), σ' = [some (.int (n' : Int)), some (.int s1)] ∧ H' = H2 ∧ n' < 128 ∧ s1 + Mt.pc (n' : Int) = Mt.pc (c : Int) ∧ n' < n, fun σ' H' ⟨n', s1, e1, e2, e3, e4, e5⟩ => ⟨n', e5, n', s1, e1, e2, e3, e4, rfl⟩, ?_⟩
    have hst := pc_step n hn
    refine ⟨_, rfl, ?_⟩
    refine ⟨_, rfl, ?_⟩
    refine ⟨_, _, rfl, rfl, by show (0 : Int) < 2; decide, ?_⟩
    refine ⟨_, _, rfl, rfl, ?_⟩
    refine ⟨_, rfl, ?_⟩
    walk_at "rd1"
    walk_at "rd1"
    refine ⟨n / 2, s0 + ((n % 2 : Nat) : Int), ?_, rfl, by omega, by omega, by omega⟩
    rw [Int.natCast_ediv, Int.natCast_emod]
    rfl
  · have c1 : ¬ (0 : Int) < (n : Int) := fun z => c1 (decide_eq_true z)
    have h0 : n = 0 := by omega
    subst h0
    walk_at "rd"
    have e : s0 = Mt.pc (c : Int) := by
      have : Mt.pc ((0 : Nat) : Int) = 0 := by decide +kernel
      omega
    rw [← e] at q
    exact q
theorem in_ints (z : Int) : ∀ zs : List Int, inV (.int z) (zs.map V.int) = decide (z ∈ zs)
  | [] => rfl
  | y :: zs => by
    have ih := in_ints z zs
    unfold inV at ih ⊢
    rw [List.map_cons, List.any_cons, ih]
    have e : eqV (V.int y) (V.int z) = decide (z = y) := by
      show (y == z) = _
      rw [Bool.eq_iff_iff, beq_iff_eq, decide_eq_true_iff]
      exact eq_comm
    rw [e, ← Bool.decide_or, decide_eq_decide]
    exact List.mem_cons.symm
theorem flat_ints : ∀ zs : List Int, (zs.map V.int).all flatV = true
  | [] => rfl
  | y :: zs => by
    rw [List.map_cons, List.all_cons, flat_ints zs]
    rfl
/-- how far the next number is that is not among these -/
theorem gap_to {ts : List Int} (h : ts.length < 128) (c : Nat) : ∃ d, d < 128 ∧ (((c + d) % 128 : Nat) : Int) ∉ ts := by
  by_cases z : ∃ d, d < 128 ∧ (((c + d) % 128 : Nat) : Int) ∉ ts
  · exact z
  · exfalso
    have all : ∀ d, d < 128 → (((c + d) % 128 : Nat) : Int) ∈ ts := fun d hd => by
      by_cases y : (((c + d) % 128 : Nat) : Int) ∈ ts
      · exact y
      · exact absurd ⟨d, hd, y⟩ z
    have hn : ((List.range 128).map fun d => (((c + d) % 128 : Nat) : Int)).Nodup := by
      rw [List.nodup_iff_pairwise_ne, List.pairwise_map]
      refine (List.pairwise_lt_range (n := 128)).imp_of_mem fun {x y} hx hy hxy e => ?_
      have h1 := List.mem_range.mp hx
      have h2 := List.mem_range.mp hy
      omega
    have hf := Cs.fits_in hn (ys := ts) fun x hx => by
      obtain ⟨d, hd, e⟩ := List.mem_map.mp hx
      rw [← e]
      exact all d (List.mem_range.mp hd)
    rw [List.length_map, List.length_range] at hf
    omega
def sp_law_teeth : Sp := fun vs H Q _ => ∃ (n : Int) (m : Nat), vs = [.int n, .int (m : Int)] ∧ 0 ≤ n ∧ n < 2147483647 ∧ 1 ≤ m ∧ m ≤ 30 ∧
  ∀ (r : Addr) (ts : List Int) (H' : Hp), H r = none → Same H H' → H' r = some (.lst (ts.map V.int)) → ts.length = m → (∀ t ∈ ts, 0 ≤ t ∧ t < 128) → ts.Nodup → ts.Pairwise (fun a b => HT.lexLt (Mt.rk b) (Mt.rk a) = false) → Q (.ref r) H'
theorem ok_law_teeth (T : Tx K mg a) : FnOk P w K mg base CX0 2 a.f_law_teeth a.d_law_teeth ["_law_number", "_law_many"] sp_law_teeth := by
  have G_law_bits := ok_law_bits (P := P) (w := w) (base := base) T
  refine T.law_teeth.fn.ok sc_law_teeth (fun vs H Q E h => ?_) (fun cdv A outer s H vs Q E hr h => ?_)
  · obtain ⟨n, m, rfl, _⟩ := h
    rfl
  obtain ⟨n, m, rfl, hn0, hn1, hm1, hm30, q⟩ := h
  refine ⟨_, (pss_cons (ps_set (i := 2) sc_law_teeth.nd rfl (Or.inl rfl) (pe_lst pa_nil))
      (pss_cons (ps_for PassesOwn.never rfl (pi_range1 rfl T.b_range (pa_cons (pv 1) pa_nil)) (pg_name (i := 3) sc_law_teeth.nd rfl (Or.inl rfl)) (pss_cons (ps_set (i := 0) sc_law_teeth.nd rfl (Or.inl rfl) (pe_op op_mod (pe_op op_mul (pe_op op_add (pe_op op_add (pv 0) (pv 3)) pe_int) pe_int) pe_int))
      (pss_cons (ps_set (i := 4) sc_law_teeth.nd rfl (Or.inl rfl) (pe_op op_mod (pe_op op_fdiv (pv 0) pe_int) pe_int))
      (pss_cons (ps_while PassesOwn.never (pt_cmpR (kin_seq K rfl) (pv 4) (pv 2) (by with_unfolding_all rfl)) (pss_one (ps_set (i := 4) sc_law_teeth.nd rfl (Or.inl rfl) (pe_op op_mod (pe_op op_add (pv 4) pe_int) pe_int))))
      (pss_one (ps_expr (kpe_bm K rfl PySem.F.plainAttrs_list PySem.F.slot_list_append PySem.F.type_list_append mt_append (pv 2) (pa_cons (pv 4) pa_nil))))))))
      (pss_one (ps_ret (pe_compG rfl (kpi_list K rfl (pe_callB (ksorted K rfl) rfl T.b_sorted bt_sorted (pa_cons (pe_compG rfl (kpi_list K rfl (pv 2)) (BlkOk.of (N' := ["_law_number", "_law_many", "_law_teeth_here", "_law_k", "_law_one_here"]) (ms := [4]) (k := 0) (by rfl)) (fun _ _ _ _ _ => (pg_name (i := 4) (show List.Nodup (["_law_number", "_law_many", "_law_teeth_here", "_law_k", "_law_one_here"] : List Str) from by decide +kernel) rfl (Or.inl rfl))) (fun _ _ _ _ _ => pts_nil) (fun _ _ _ _ _ => (pe_tup (pa_cons (pcall T.law_bits G_law_bits hr rfl (pa_cons (pv 4) pa_nil)) (pa_cons (pv 4) pa_nil))))) pa_nil))) (BlkOk.of (N' := ["_law_number", "_law_many", "_law_teeth_here", "_law_k", "_law_one_here", "_law_bits_here"]) (ms := [4]) (k := 1) (by rfl)) (fun _ _ _ _ _ => (kpg_tup K rfl (n := 2) rfl (pgs_cons (pg_name (i := 5) (show List.Nodup (["_law_number", "_law_many", "_law_teeth_here", "_law_k", "_law_one_here", "_law_bits_here"] : List Str) from by decide +kernel) rfl (Or.inl rfl)) (pgs_cons (pg_name (i := 4) (show List.Nodup (["_law_number", "_law_many", "_law_teeth_here", "_law_k", "_law_one_here", "_law_bits_here"] : List Str) from by decide +kernel) rfl (Or.inl rfl)) pgs_nil)))) (fun _ _ _ _ _ => pts_nil) (fun _ _ _ _ _ => (pv 4))))))), ?_⟩
  walk_at "rd"
  intro l hl
  have hs1 := same_new hl (.lst [])
  have h1l : upd H l (.lst []) l = some (.lst (([] : List Int).map V.int)) := upd_same
  generalize upd H l (.lst []) = H1 at hs1 h1l ⊢
  walk_at "rd"
  refine for_range (lo := 0) (n := ((m : Nat) : Int).toNat) (fun i σ H2 => ∃ (nn : Int) (ts : List Int) (v3 v4 : Option V), σ = [some (.int nn), some (.int (m : Int)), some (.ref l), v3, v4] ∧ Same H H2 ∧ H2 l = some (.lst (ts.map V.int)) ∧ 0 ≤ nn ∧ nn < 2147483647 ∧ ts.length = i ∧ (∀ t ∈ ts, 0 ≤ t ∧ t < 128) ∧ ts.Nodup)
    ⟨n, [], none, none, rfl, hs1, h1l, hn0, hn1, rfl, (fun t h => by cases h), List.nodup_nil⟩ ?_ ?_
  · rintro i σ H2 hi ⟨nn, ts, v3, v4, rfl, hs2, h2l, hnn0, hnn1, htl, htb, htn⟩
    rw [Int.zero_add]
    walk_at "rd"
    have hnum0 := Int.emod_nonneg ((nn + (i : Int) + 1) * 69621) (show (2147483647 : Int) ≠ 0 by decide)
    have hnum1 := Int.emod_lt_of_pos ((nn + (i : Int) + 1) * 69621) (show (0 : Int) < 2147483647 by decide)
    have hc0 : 0 ≤ (nn + (i : Int) + 1) * 69621 % 2147483647 / 7 % 128 ∧ (nn + (i : Int) + 1) * 69621 % 2147483647 / 7 % 128 < 128 := by omega
    generalize hce : (nn + (i : Int) + 1) * 69621 % 2147483647 / 7 % 128 = ce at hc0
    obtain ⟨cn, rfl⟩ := Int.eq_ofNat_of_zero_le hc0.1
    have hcn : cn < 128 := by omega
    obtain ⟨d0, hd0, hd1⟩ := gap_to (ts := ts) (by omega) cn
    have est : (([some (.int nn), some (.int (m : Int)), some (.ref l), v3, v4] : St).set 3 (some (.int (i : Int)))).set 0 (some (.int ((nn + (i : Int) + 1) * 69621 % 2147483647))) = [some (.int ((nn + (i : Int) + 1) * 69621 % 2147483647)), some (.int (m : Int)), some (.ref l), some (.int (i : Int)), v4] := rfl
    refine ⟨fun mm σ H3 => ∃ c : Nat, σ = [some (.int ((nn + (i : Int) + 1) * 69621 % 2147483647)), some (.int (m : Int)), some (.ref l), some (.int (i : Int)), some (.int (c : Int))] ∧ H3 = H2 ∧ c < 128 ∧ (((c + mm) % 128 : Nat) : Int) ∉ ts, ⟨d0, cn, by rw [← hce]; rfl, rfl, hcn, hd1⟩, ?_⟩
    rintro mm σ H3 ⟨c, rfl, rfl, hc, hmm⟩
    refine ⟨_, rfl, ?_⟩
    refine ⟨_, rfl, ?_⟩
    refine ⟨l, _, rfl, .inl (SqL.of h2l), rfl, flat_ints _, ?_⟩
    rw [if_neg (by decide), in_ints]
    refine ⟨_, rfl, ?_⟩
    refine ite2 (fun c1 => ?_) (fun c1 => ?_)
    · have c1 : (c : Int) ∈ ts := of_decide_eq_true c1
      have hm0 : mm ≠ 0 := fun z => by
        rw [z, Nat.add_zero, Nat.mod_eq_of_lt hc] at hmm
        exact hmm c1
      refine ⟨fun σ' H' => ∃ c' : Nat, σ' = [some (.int ((nn + (i : Int) + 1) * 69621 % 2147483647)), some (.int (m : Int)), some (.ref l), some (.int (i : Int)), some (.int (c' : Int))] ∧ H' = H3 ∧ c' < 128 ∧ (((c' + (mm - 1)) % 128 : Nat) : Int) ∉ ts, fun σ' H' ⟨c', e1, e2, e3, e4⟩ => ⟨mm - 1, by omega, c', e1, e2, e3, e4⟩, ?_⟩
      refine ⟨_, rfl, ?_⟩
      refine ⟨_, _, rfl, rfl, ?_⟩
      refine ⟨_, _, rfl, rfl, by show (0 : Int) < 128; decide, ?_⟩
      refine ⟨(c + 1) % 128, ?_, rfl, Nat.mod_lt _ (by decide), ?_⟩
      · rw [Int.natCast_emod, Int.natCast_add]
        rfl
      · rw [Nat.mod_add_mod, show c + 1 + (mm - 1) = c + mm by omega]
        exact hmm
    · have c1 : (c : Int) ∉ ts := fun z => c1 (decide_eq_true z)
      refine ⟨_, rfl, ?_⟩
      refine ⟨.inl ⟨rfl, _, SqL.of h2l⟩, ?_⟩
      refine ⟨_, rfl, ?_⟩
      refine ⟨l, _, _, rfl, rfl, h2l, smallLt (by rw [List.length_map]; omega), ?_⟩
      refine ⟨_, ts ++ [(c : Int)], _, _, rfl, same_upd hs2 hl, by rw [upd_same, List.map_append]; rfl, hnum0, hnum1, by rw [List.length_append, htl]; rfl, fun t ht => ?_, ?_⟩
      · rcases List.mem_append.mp ht with h | h
        · exact htb t h
        · rw [List.mem_singleton.mp h]
          omega
      · rw [List.nodup_append]
        refine ⟨htn, by simp, fun x hx y hy => ?_⟩
        rw [List.mem_singleton.mp hy]
        exact fun e => c1 (e ▸ hx)
  · rintro σ H2 ⟨nn, ts, v3, v4, rfl, hs2, h2l, hnn0, hnn1, htl, htb, htn⟩
    have hmi : ((m : Nat) : Int).toNat = m := by omega
    rw [hmi] at htl
    refine ⟨_, rfl, ?_⟩
    refine ⟨l, rfl, ⟨_, SqL.of h2l⟩, fun D hD => ?_⟩
    refine comp_list (a := l) (xs := ts.map V.int) (fun i ys σ H3 => ∃ (us : List TI2) (v4' : Option V), ys = refsV us ∧ σ = [some (.int nn), some (.int (m : Int)), some (.ref l), v3, v4'] ∧ Same H2 H3 ∧ H3 D = some (.lst ys) ∧ us.map (·.2) = (ts.take i).map Mt.rk ∧ ∀ t ∈ us, H3 t.1 = some (.tup (t.2.map V.int)))
      ?_ ?_ ?_ ?_
    · exact ⟨[], _, rfl, rfl, same_new hD _, upd_same, rfl, fun t h => nomatch h⟩
    · exact fun i ys σ H3 _ ⟨_, _, _, _, hs, _⟩ => hs.seq (SqL.of h2l)
    · rintro i y ys σ H3 hy hil ⟨us, v4', rfl, rfl, hs3, hh3, hus, huu⟩
      obtain ⟨c, rfl, hci⟩ := map_int_get hy
      have hcb := htb c (List.mem_of_getElem? hci)
      obtain ⟨cn, rfl⟩ := Int.eq_ofNat_of_zero_le hcb.1
      have hul : us.length ≤ i := by
        have := congrArg List.length hus
        rw [List.length_map, List.length_map, List.length_take] at this
        omega
      walk_at "rd"
      intro t ht
      have hst := same_new ht (.tup [.int (Mt.pc (cn : Int)), .int (cn : Int)])
      have hh4 := hst _ _ hh3
      have htt : upd H3 t (.tup [.int (Mt.pc (cn : Int)), .int (cn : Int)]) t = some (.tup ((Mt.rk (cn : Int)).map V.int)) := upd_same
      refine cnext (ys := refsV us) hil hh4 ?_ ⟨us ++ [(t, Mt.rk (cn : Int))], _, ?_, rfl, same_upd (hs3.trans hst) hD, upd_same, ?_, ?_⟩
      · unfold refsV
        rw [List.length_map]
        rw [List.length_map] at hil
        omega
      · unfold refsV
        rw [List.map_append]
        rfl
      · rw [List.map_append, hus, List.take_add_one, hci, List.map_append]
        rfl
      · intro u hu
        rcases List.mem_append.mp hu with hu | hu
        · have h1 := hst _ _ (huu u hu)
          rw [upd_ne (ne_of h1 hh4 (fun e => by cases e))]
          exact h1
        · rw [List.mem_singleton.mp hu]
          rw [upd_ne (ne_of htt hh4 (fun e => by cases e))]
          exact htt
    · rintro ys σ H3 ⟨us, v4', rfl, rfl, hs3, hh3, hus, huu⟩
      rw [List.length_map, List.take_of_length_le (Nat.le_refl _)] at hus
      have hul : us.length = ts.length := by
        have := congrArg List.length hus
        rw [List.length_map, List.length_map] at this
        exact this
      have hrk : ∀ t ∈ us, t.2 = Mt.rk (t.2.getD 1 0) := fun t ht => by
        have : t.2 ∈ ts.map Mt.rk := by rw [← hus]; exact List.mem_map_of_mem ht
        obtain ⟨c, _, e⟩ := List.mem_map.mp this
        rw [← e]
        rfl
      refine ⟨D, us, rfl, SqL.of hh3, fun t ht => ⟨SqT.of (huu t ht), ?_⟩, by omega, fun l2 ts' hl2 hpm hpw => ?_⟩
      · rw [hrk t ht]
        exact fun e => nomatch e
      refine ⟨l2, rfl, ⟨_, SqL.of upd_same⟩, fun D3 hD3 => ?_⟩
      refine comp_list (a := l2) (xs := refsV ts') (fun i zs σ H4 => ∃ (w4 w5 : Option V), zs = ((ts'.take i).map fun t => t.2.getD 1 0).map V.int ∧ σ = [some (.int nn), some (.int (m : Int)), some (.ref l), v3, w4, w5] ∧ Same (upd H3 l2 (.lst (refsV ts'))) H4 ∧ H4 D3 = some (.lst zs))
        ?_ ?_ ?_ ?_
      · exact ⟨_, _, rfl, rfl, same_new hD3 _, upd_same⟩
      · exact fun i zs σ H4 _ ⟨_, _, _, _, hs4, _⟩ => SqL.of (hs4 _ _ upd_same)
      · rintro i y zs σ H4 hy hil ⟨w4, w5, rfl, rfl, hs4, hh4⟩
        have hil' : i < ts'.length := by unfold refsV at hil; rw [List.length_map] at hil; exact hil
        have hti : ts'[i]? = some ts'[i] := List.getElem?_eq_getElem hil'
        have ey : y = .ref ts'[i].1 := by
          unfold refsV at hy
          rw [List.getElem?_map, hti] at hy
          exact (Option.some.inj hy).symm
        subst ey
        have hmem : ts'[i] ∈ us := hpm.mem_iff.mp (List.getElem_mem hil')
        have hx := hs4 _ _ (same_new hl2 (.lst (refsV ts')) _ _ (huu _ hmem))
        rw [hrk _ hmem] at hx
        have hx' : H4 ts'[i].1 = some (.tup [.int (Mt.pc (ts'[i].2.getD 1 0)), .int (ts'[i].2.getD 1 0)]) := hx
        refine ⟨_, _, rfl, SqT.of hx', rfl, ?_⟩
        walk_at "tg"
        walk_at "tg"
        walk_at "rd"
        refine cnext hil hh4 ?_ ⟨_, _, ?_, rfl, same_upd hs4 hD3, upd_same⟩
        · rw [List.length_map, List.length_map, List.length_take, hpm.length_eq, hul]
          omega
        · rw [List.take_add_one, hti, List.map_append, List.map_append]
          rfl
      · rintro zs σ H4 ⟨w4, w5, rfl, rfl, hs4, hh4⟩
        have e1 : (refsV ts').length = ts'.length := by unfold refsV; exact List.length_map _
        rw [e1, List.take_of_length_le (Nat.le_refl _)] at hh4
        have hgd : us.map (fun t => t.2.getD 1 0) = ts := by
          have := congrArg (List.map fun l : List Int => l.getD 1 0) hus
          rw [List.map_map, List.map_map] at this
          rw [show ((fun t : TI2 => t.2.getD 1 0)) = (fun l : List Int => l.getD 1 0) ∘ (fun t : TI2 => t.2) from rfl, this]
          exact List.map_id' ts
        have hpm' : (ts'.map fun t => t.2.getD 1 0).Perm ts := by
          have := hpm.map (fun t : TI2 => t.2.getD 1 0)
          rw [hgd] at this
          exact this
        refine q D3 (ts'.map fun t => t.2.getD 1 0) H4 ?_ ?_ hh4 ?_ ?_ ?_ ?_
        · exact hs2.free (hs3.free ((same_new hl2 _).free hD3))
        · exact hs2.trans ((same_add hs3 hl2).trans hs4)
        · rw [hpm'.length_eq, htl]
        · exact fun t ht => htb t (hpm'.mem_iff.mp ht)
        · exact hpm'.nodup_iff.mpr htn
        · rw [List.pairwise_map]
          refine hpw.imp_of_mem fun {x y} hx hy e => ?_
          rw [← hrk x (hpm.mem_iff.mp hx), ← hrk y (hpm.mem_iff.mp hy)]
          exact e
/-- rows as the machine laws draw them -/
structure Row40 (most : Int) (rs : List Cs.Row) : Prop where
  l1 : 1 ≤ rs.length
  l2 : rs.length ≤ 6
  sg : ∀ r ∈ rs, ∃ c ∈ Cs.signs, r.s = L2.sg c
  wd : ∀ r ∈ rs, 1 ≤ r.w ∧ r.w ≤ 99
  th : ∀ r ∈ rs, 0 ≤ r.t ∧ r.t < 128
  mn : ∀ r ∈ rs, 0 ≤ r.n ∧ r.n ≤ most
  nd : (rs.map fun r => r.t).Nodup
  rt : (rs.map fun r => r.t).Pairwise (fun a b => HT.lexLt (Mt.rk b) (Mt.rk a) = false)
def sp_law_case (K : PySem.W.Frag) : Sp := fun vs H Q _ => ∃ (l : Addr) (ns : List Int) (most : Int), vs = [.ref l, .int most] ∧ SqL K H l (ns.map V.int) ∧ 0 ≤ most ∧ most ≤ 40 ∧
  ∀ (r : Addr) (xs : List V) (rs : List Cs.Row) (H' : Hp), H r = none → Same H H' → H' r = some (.lst xs) → Paired (Cs.RowAt H') xs rs → Row40 most rs → Q (.ref r) H'
theorem ok_law_case (T : Tx K mg a) : FnOk P w K mg base CX0 3 a.f_law_case a.d_law_case ["_law_script", "_law_most"] (sp_law_case K) := by
  have G_law_cell_at := ok_law_cell_at (P := P) (w := w) (base := base) T
  have G_law_mixed := ok_law_mixed (P := P) (w := w) (base := base) T
  have G_law_teeth := ok_law_teeth (P := P) (w := w) (base := base) T
  refine T.law_case.fn.ok sc_law_case (fun vs H Q E h => ?_) (fun cdv A outer s H vs Q E hr h => ?_)
  · obtain ⟨l, ns, most, rfl, _⟩ := h
    rfl
  obtain ⟨l, ns, most, rfl, hS, hm0, hm1, q⟩ := h
  refine ⟨_, (pss_cons (ps_set (i := 2) sc_law_case.nd rfl (Or.inl rfl) pe_str)
      (pss_cons (ps_set (i := 3) sc_law_case.nd rfl (Or.inl rfl) (pcall T.law_mixed G_law_mixed hr rfl (pa_cons (pcall T.law_cell_at G_law_cell_at hr rfl (pa_cons (pv 0) (pa_cons pe_int pa_nil))) (pa_cons pe_int pa_nil))))
      (pss_cons (ps_set (i := 4) sc_law_case.nd rfl (Or.inl rfl) (pcall T.law_teeth G_law_teeth hr rfl (pa_cons (pv 3) (pa_cons (pe_op op_add pe_int (pe_op op_mod (pe_op op_fdiv (pv 3) pe_int) pe_int)) pa_nil))))
      (pss_cons (ps_set (i := 5) sc_law_case.nd rfl (Or.inl rfl) (pe_lst pa_nil))
      (pss_cons (ps_for PassesOwn.never rfl (kpi_enum K rfl rfl T.b_enumerate (pa_cons (pv 4) pa_nil)) (kpg_tup K rfl (n := 2) rfl (pgs_cons (pg_name (i := 6) sc_law_case.nd rfl (Or.inl rfl)) (pgs_cons (pg_name (i := 7) sc_law_case.nd rfl (Or.inl rfl)) pgs_nil))) (pss_cons (ps_set (i := 3) sc_law_case.nd rfl (Or.inl rfl) (pe_op op_mod (pe_op op_mul (pe_op op_add (pe_op op_add (pv 3) (pv 6)) pe_int) pe_int) pe_int))
      (pss_cons (ps_set (i := 8) sc_law_case.nd rfl (Or.inl rfl) (pe_ix ix_str (pv 2) (pe_op op_mod (pe_op op_add (pe_op op_fdiv (pcall T.law_cell_at G_law_cell_at hr rfl (pa_cons (pv 0) (pa_cons pe_int pa_nil))) pe_int) (pe_op op_mul pe_int (pv 6))) pe_int) (fun _ _ => rfl)))
      (pss_one (ps_expr (kpe_bm K rfl PySem.F.plainAttrs_list PySem.F.slot_list_append PySem.F.type_list_append mt_append (pv 5) (pa_cons (pe_tup (pa_cons (pv 8) (pa_cons (pe_op op_add pe_int (pe_op op_mod (pe_op op_fdiv (pv 3) pe_int) pe_int)) (pa_cons (pv 7) (pa_cons (pe_op op_mod (pe_op op_fdiv (pv 3) pe_int) (pe_op op_add (pv 1) pe_int)) pa_nil))))) pa_nil)))))))
      (pss_one (ps_ret (pv 5)))))))), ?_⟩
  walk_at "rd"
  refine ⟨l, 0, ns, rfl, hS, by decide, fun c0 => ?_⟩
  walk_at "rd"
  refine ⟨_, _, rfl, by decide, by decide, fun f hf0 hf1 => ?_⟩
  have hk : 0 ≤ f / 3 % 6 ∧ f / 3 % 6 < 6 := by omega
  obtain ⟨k0, hk0⟩ := Int.eq_ofNat_of_zero_le hk.1
  walk_at "rd"
  refine ⟨f, k0 + 1, by rw [hk0]; show [V.int f, V.int (1 + (k0 : Int))] = _; rw [show (1 : Int) + (k0 : Int) = ((k0 + 1 : Nat) : Int) by omega], hf0, hf1, by omega, by omega, fun pt ts H1 hpt0 hs1 hpt htl htb htn htp => ?_⟩
  walk_at "rd"
  intro rc hrc
  have hs2 := same_add (o := .lst []) hs1 hrc
  have hs12 := same_new hrc (.lst [])
  have h2r : upd H1 rc (.lst []) rc = some (.lst []) := upd_same
  generalize upd H1 rc (.lst []) = H2 at hs2 hs12 h2r ⊢
  have hrc0 := hs1.free hrc
  refine ⟨_, rfl, ?_⟩
  refine ⟨pt, rfl, ⟨_, SqL.of (hs12 _ _ hpt)⟩, ?_⟩
  refine for_enum (a := pt) (xs := ts.map V.int) (fun i σ H3 => ∃ (xs : List V) (rs : List Cs.Row) (nn : Int) (v6 v7 v8 : Option V), σ = [some (.ref l), some (.int most), some (.str "abcdefghijklmnopqrstuvwxyz.,-'"), some (.int nn), some (.ref pt), some (.ref rc), v6, v7, v8] ∧ Same H1 H3 ∧ H3 rc = some (.lst xs) ∧ Paired (Cs.RowAt H3) xs rs ∧ 0 ≤ nn ∧ nn < 2147483647 ∧ (rs.map fun r => r.t) = ts.take i ∧ (∀ r ∈ rs, ∃ c ∈ Cs.signs, r.s = sg c) ∧ (∀ r ∈ rs, 1 ≤ r.w ∧ r.w ≤ 99) ∧ (∀ r ∈ rs, 0 ≤ r.n ∧ r.n ≤ most))
    ⟨[], [], f, none, none, none, rfl, hs12, h2r, .nil, hf0, hf1, rfl, (fun r h => by cases h), (fun r h => by cases h), (fun r h => by cases h)⟩ (fun i σ H3 _ ⟨_, _, _, _, _, _, _, hs, _⟩ => hs.seq (SqL.of hpt)) ?_ ?_
  · rintro i y tp σ H3 hy ⟨xs, rs, nn, v6, v7, v8, rfl, hs3, hhc, hpd, hn0, hn1, hmt, hsg, hwd, hmn⟩ htp0
    obtain ⟨c, rfl, hci⟩ := map_int_get hy
    have hil : i < ts.length := (List.getElem?_eq_some_iff.mp hci).1
    have hxl := Cs.rows_len hpd
    have hrl : rs.length = i := by
      have := congrArg List.length hmt
      rw [List.length_map, List.length_take] at this
      omega
    have hs4 := same_new htp0 (.tup [.int i, .int c])
    have h4t : upd H3 tp (.tup [.int i, .int c]) tp = some (.tup [.int i, .int c]) := upd_same
    generalize upd H3 tp (.tup [.int i, .int c]) = H4 at hs4 h4t ⊢
    walk_at "rd"
    walk_at "tg"
    walk_at "tg"
    try refine And.intro rfl ?_
    walk_at "rd"
    have hnum0 := Int.emod_nonneg ((nn + (i : Int) + 1) * 48271) (show (2147483647 : Int) ≠ 0 by decide)
    have hnum1 := Int.emod_lt_of_pos ((nn + (i : Int) + 1) * 48271) (show (0 : Int) < 2147483647 by decide)
    have hs14 := hs3.trans hs4
    refine ⟨l, 0, ns, rfl, (hs1.trans hs14).seq hS, by decide, fun c1 => ?_⟩
    walk_at "rd"
    obtain ⟨cc, hcs, ec⟩ := Cs.signs_at (i := (c1 / 7 + 11 * (i : Int)) % 30) (by omega) (by omega)
    refine ⟨_, _, _, rfl, rfl, by decide, ec, ?_⟩
    clear ec
    have hhc4 := hs4 _ _ hhc
    refine ⟨_, rfl, ?_⟩
    refine ⟨.inl ⟨rfl, _, SqL.of hhc4⟩, ?_⟩
    walk_at "rd"
    intro t ht
    have hz2 := Int.emod_nonneg (((nn + (i : Int) + 1) * 48271 % 2147483647) / 500) (show most + 1 ≠ 0 by omega)
    have hz3 := Int.emod_lt_of_pos (((nn + (i : Int) + 1) * 48271 % 2147483647) / 500) (show 0 < most + 1 by omega)
    have hst := same_new ht (.tup (Cs.rowV ⟨sg cc, 1 + ((nn + (i : Int) + 1) * 48271 % 2147483647) / 5 % 99, c, ((nn + (i : Int) + 1) * 48271 % 2147483647) / 500 % (most + 1)⟩))
    have hhC := hst _ _ hhc4
    have htC : upd H4 t (.tup (Cs.rowV ⟨sg cc, 1 + ((nn + (i : Int) + 1) * 48271 % 2147483647) / 5 % 99, c, ((nn + (i : Int) + 1) * 48271 % 2147483647) / 500 % (most + 1)⟩)) t = some (.tup (Cs.rowV ⟨sg cc, 1 + ((nn + (i : Int) + 1) * 48271 % 2147483647) / 5 % 99, c, ((nn + (i : Int) + 1) * 48271 % 2147483647) / 500 % (most + 1)⟩)) := upd_same
    refine ⟨rc, _, _, rfl, rfl, hhC, smallLt (by omega), ?_⟩
    refine ⟨xs ++ [.ref t], rs ++ [⟨sg cc, 1 + ((nn + (i : Int) + 1) * 48271 % 2147483647) / 5 % 99, c, ((nn + (i : Int) + 1) * 48271 % 2147483647) / 500 % (most + 1)⟩], _, _, _, _, rfl, same_upd (hs14.trans hst) hrc, upd_same, ?_, hnum0, hnum1, ?_, ?_, ?_, ?_⟩
    · exact Paired.snoc (Cs.rows_upd (Cs.rows_same hpd (hs4.trans hst)) hhC (fun z e => by cases e)) ⟨t, rfl, by rw [upd_ne (ne_of htC hhC (fun e => by cases e))]; exact htC⟩
    · rw [List.map_append, hmt, List.take_add_one, hci]
      rfl
    · intro r hr
      rcases List.mem_append.mp hr with h | h
      · exact hsg r h
      · rw [List.mem_singleton.mp h]
        exact ⟨cc, hcs, rfl⟩
    · intro r hr
      rcases List.mem_append.mp hr with h | h
      · exact hwd r h
      · rw [List.mem_singleton.mp h]
        show 1 ≤ 1 + ((nn + (i : Int) + 1) * 48271 % 2147483647) / 5 % 99 ∧ 1 + ((nn + (i : Int) + 1) * 48271 % 2147483647) / 5 % 99 ≤ 99
        omega
    · intro r hr
      rcases List.mem_append.mp hr with h | h
      · exact hmn r h
      · rw [List.mem_singleton.mp h]
        show 0 ≤ ((nn + (i : Int) + 1) * 48271 % 2147483647) / 500 % (most + 1) ∧ ((nn + (i : Int) + 1) * 48271 % 2147483647) / 500 % (most + 1) ≤ most
        omega
  · rintro σ H3 ⟨xs, rs, nn, v6, v7, v8, rfl, hs3, hhc, hpd, hn0, hn1, hmt, hsg, hwd, hmn⟩
    have hxl := Cs.rows_len hpd
    rw [List.length_map, List.take_of_length_le (Nat.le_refl _)] at hmt
    have hrl : rs.length = k0 + 1 := by
      have := congrArg List.length hmt
      rw [List.length_map] at this
      omega
    refine ⟨_, rfl, ?_⟩
    exact q rc xs rs H3 hrc0 (hs1.trans hs3) hhc hpd ⟨by omega, by omega, hsg, hwd, fun r hr => htb _ (by rw [← hmt]; exact List.mem_map_of_mem hr), hmn, by rw [hmt]; exact htn, by rw [hmt]; exact htp⟩
def sp_has_all : Sp := fun vs H Q _ => ∃ t o : Int, vs = [.int t, .int o] ∧ Q (.bl (decide (Builtin.bitAnd t o = o))) H
theorem ok_has_all (T : Tx K mg a) : FnOk P w K mg base CX0 1 a.f_has_all a.d_has_all ["teeth", "others"] sp_has_all := by
  refine T.has_all.fn.ok sc_has_all (fun vs H Q E h => ?_) (fun cdv A outer s H vs Q E hr h => ?_)
  · obtain ⟨t, o, rfl, _⟩ := h
    rfl
  obtain ⟨t, o, rfl, q⟩ := h
  refine ⟨_, (pss_one (ps_ret (pe_cmpR op_eq (pe_op op_and (pv 0) (pv 1)) (pv 1) (nomark _)))), ?_⟩
  walk_at "rd"
  rw [decV]
  exact q
/-- whether one more matrix of a channel can be broken so -/
def canBreak (rs : List Cs.Row) (ah : List Int) (ch te : Int) : Bool :=
  if 0 ≤ ch ∧ ch < rs.length then (match rs[ch.toNat]? with
    | some r => decide ((ah.count ch : Int) < r.n) && decide (1 ≤ te) && decide (Builtin.bitAnd r.t te = te)
    | none => false)
  else false
def sp_can_break (K : PySem.W.Frag) : Sp := fun vs H Q _ => ∃ (c h : Addr) (ch te : Int) (rs : List Cs.Row) (ah : List Int), vs = [.ref c, .ref h, .int ch, .int te] ∧ Cs.CaseAt K H c rs ∧ H h = some (.lst (ah.map V.int)) ∧ rs.length ≤ 1000 ∧ ∀ H', Same H H' → Q (.bl (canBreak rs ah ch te)) H'
theorem ok_can_break (T : Tx K mg a) : FnOk P w K mg base CX0 2 a.f_can_break a.d_can_break ["case", "ahead", "channel", "teeth"] (sp_can_break K) := by
  have G_has_all := ok_has_all (P := P) (w := w) (base := base) T
  refine T.can_break.fn.ok sc_can_break (fun vs H Q E h => ?_) (fun cdv A outer s H vs Q E hr h => ?_)
  · obtain ⟨c, h, ch, te, rs, ah, rfl, _⟩ := h
    rfl
  obtain ⟨c, h, ch, te, rs, ah, rfl, ⟨xs, hS, hpd⟩, hah, hrl, q⟩ := h
  have hxl := Cs.rows_len hpd
  have qf : canBreak rs ah ch te = false → Q (.bl false) H := fun e => by have := q H (Same.refl _); rw [e] at this; exact this
  refine ⟨_, (pss_cons (ps_if (pt_not (pt_chain op_le op_lt pe_int (pv 2) (pe_callB (klen_seq K rfl) rfl T.b_len bt_len (pa_cons (pv 0) pa_nil)))) (pss_one (ps_ret pe_bl)) pss_nil)
      (pss_cons (ps_asg (pe_ix (kix_list K rfl) (pv 0) (pv 2) (fun _ _ => rfl)) (kpg_tup K rfl (n := 4) rfl (pgs_cons (pg_name (i := 4) sc_can_break.nd rfl (Or.inl rfl)) (pgs_cons (pg_name (i := 5) sc_can_break.nd rfl (Or.inl rfl)) (pgs_cons (pg_name (i := 6) sc_can_break.nd rfl (Or.inl rfl)) (pgs_cons (pg_name (i := 7) sc_can_break.nd rfl (Or.inl rfl)) pgs_nil))))))
      (pss_one (ps_ret (pe_and (pe_cmpR op_lt (kpe_bm K rfl PySem.F.plainAttrs_list PySem.F.slot_list_count PySem.F.type_list_count mt_count (pv 1) (pa_cons (pv 2) pa_nil)) (pv 7) (nomark _)) (pe_and (pe_cmpR op_ge (pv 3) pe_int (nomark _)) (pe_one (pcall T.has_all G_has_all hr rfl (pa_cons (pv 6) (pa_cons (pv 3) pa_nil)))))))))), ?_⟩
  refine ⟨_, rfl, ?_⟩
  refine ⟨_, _, rfl, rfl, ?_⟩
  refine ⟨_, rfl, ?_⟩
  refine ite2 (fun c1 => ?_) (fun c1 => ?_)
  · have c1 : 0 ≤ ch := of_decide_eq_true c1
    refine ⟨_, rfl, ?_⟩
    refine ⟨c, _, rfl, .inl hS, ?_⟩
    refine ⟨_, _, rfl, rfl, ?_⟩
    refine ⟨_, rfl, ?_⟩
    by_cases c2 : ch < (xs.length : Int)
    · rw [decide_eq_true c2]
      refine iteF ?_
      obtain ⟨k, rfl⟩ := Int.eq_ofNat_of_zero_le c1
      have hxk : xs[k]? = some (xs[k]'(by omega)) := List.getElem?_eq_getElem _
      obtain ⟨r, hrk, t, et, ht⟩ := Cs.pd_get hpd hxk
      rw [et] at hxk
      have ek : atI xs (k : Int) = some (.ref t) := atI_nat hxk
      have eB : canBreak rs ah (k : Int) te = (decide ((ah.count (k : Int) : Int) < r.n) && decide (1 ≤ te) && decide (Builtin.bitAnd r.t te = te)) := by
        unfold canBreak
        rw [if_pos ⟨by omega, by omega⟩, Int.toNat_natCast, hrk]
      have q := q H (Same.refl _)
      rw [eB] at q
      clear qf
      refine ⟨_, rfl, ?_⟩
      refine ⟨_, rfl, ?_⟩
      refine ⟨c, _, _, _, rfl, rfl, hS, ek, ?_⟩
      clear ek
      refine ⟨_, _, rfl, SqT.of ht, rfl, ?_⟩
      walk_at "tg"
      walk_at "tg"
      walk_at "tg"
      walk_at "tg"
      refine And.intro rfl ?_
      refine ⟨_, rfl, ?_⟩
      refine ⟨.inl ⟨rfl, _, SqL.of hah⟩, ?_⟩
      refine ⟨_, rfl, ?_⟩
      refine ⟨h, ah, _, rfl, rfl, hah, ?_⟩
      refine ⟨_, rfl, ?_⟩
      refine ⟨_, _, rfl, rfl, ?_⟩
      refine ⟨_, rfl, ?_⟩
      by_cases c3 : (ah.count (k : Int) : Int) < r.n
      · rw [decide_eq_true c3] at q ⊢
        refine iteT ?_
        refine ⟨_, rfl, ?_⟩
        refine ⟨_, _, rfl, rfl, ?_⟩
        refine ⟨_, rfl, ?_⟩
        by_cases c4 : 1 ≤ te
        · rw [decide_eq_true c4] at q ⊢
          refine iteT ?_
          refine ⟨_, rfl, ?_⟩
          refine ⟨_, rfl, ?_⟩
          exact ⟨r.t, te, rfl, q⟩
        · rw [decide_eq_false c4] at q ⊢
          refine iteF ?_
          exact q
      · rw [decide_eq_false c3] at q ⊢
        refine iteF ?_
        exact q
    · rw [decide_eq_false c2]
      refine iteT ?_
      exact qf (by unfold canBreak; rw [if_neg (fun z => c2 (by have := z.2; omega))])
  · have c1 : ¬ 0 ≤ ch := fun z => c1 (decide_eq_true z)
    try refine ⟨_, rfl, ?_⟩
    try refine iteT ?_
    exact qf (by unfold canBreak; rw [if_neg (fun z => c1 z.1)])
open Lan in
/-- matrices as they lie at first -/
def lanes0 (rs : List Cs.Row) : List (List Mx) := rs.map fun r => List.replicate r.n.toNat (r.s, r.t)
open Lan in
def setLane (rs : List Cs.Row) (ls : List (List Mx)) (ah : List Int) (b : Int × Int) : List (List Mx) :=
  match rs[b.1.toNat]?, ls[b.1.toNat]? with
  | some r, some m => ls.set b.1.toNat (m.set (ah.count b.1) (r.s, r.t - b.2))
  | _, _ => ls
open Lan in
def stepB (rs : List Cs.Row) (st : Option (List (List Mx) × List Int)) (b : Int × Int) : Option (List (List Mx) × List Int) :=
  st.bind fun s => if canBreak rs s.2 b.1 b.2 = true then some (setLane rs s.1 s.2 b, s.2 ++ [b.1]) else none
open Lan in
def after (rs : List Cs.Row) (bs : List (Int × Int)) (k : Nat) : Option (List (List Mx) × List Int) := (bs.take k).foldl (stepB rs) (some (lanes0 rs, []))
theorem after_zero (rs : List Cs.Row) (bs : List (Int × Int)) : after rs bs 0 = some (lanes0 rs, []) := rfl
theorem after_succ {rs : List Cs.Row} {bs : List (Int × Int)} {k : Nat} {b : Int × Int} (h : bs[k]? = some b) : after rs bs (k + 1) = stepB rs (after rs bs k) b := by
  unfold after
  rw [List.take_add_one, h]
  show List.foldl (stepB rs) _ (bs.take k ++ [b]) = _
  rw [List.foldl_append]
  rfl
open Lan in
/-- what is told of broken matrices -/
inductive Told40 (rs : List Cs.Row) (bs : List (Int × Int)) : Sum Nat (List (List Mx)) → Prop
  | bad {k : Nat} {ls : List (List Mx)} {ah : List Int} {b : Int × Int} : after rs bs k = some (ls, ah) → bs[k]? = some b → canBreak rs ah b.1 b.2 = false → Told40 rs bs (.inl k)
  | good {ls : List (List Mx)} {ah : List Int} : after rs bs bs.length = some (ls, ah) → Told40 rs bs (.inr ls)
theorem after_none {rs : List Cs.Row} {bs : List (Int × Int)} {k : Nat} (h : after rs bs k = none) : ∀ j, k + j ≤ bs.length → after rs bs (k + j) = none
  | 0, _ => h
  | j + 1, hj => by
    have hlt : k + j < bs.length := by omega
    rw [← Nat.add_assoc, after_succ (List.getElem?_eq_getElem hlt), after_none h j (by omega)]
    rfl
theorem bad_none {rs : List Cs.Row} {bs : List (Int × Int)} {k : Nat} {ls : List (List Lan.Mx)} {ah : List Int} {b : Int × Int} (h : after rs bs k = some (ls, ah)) (hb : bs[k]? = some b) (hc : canBreak rs ah b.1 b.2 = false) : after rs bs (k + 1) = none := by
  rw [after_succ hb, h]
  show (if canBreak rs ah b.1 b.2 = true then _ else none) = none
  rw [hc]
  rfl
theorem Told40.uniq {rs : List Cs.Row} {bs : List (Int × Int)} {a b : Sum Nat (List (List Lan.Mx))} (ha : Told40 rs bs a) (hb : Told40 rs bs b) : a = b := by
  have lt : ∀ {k : Nat} {b : Int × Int}, bs[k]? = some b → k < bs.length := fun h => (List.getElem?_eq_some_iff.mp h).1
  cases ha with
  | bad h1 g1 c1 =>
    rename_i k ls ah b1
    have n1 := bad_none h1 g1 c1
    cases hb with
    | bad h2 g2 c2 =>
      rename_i k' ls' ah' b2
      have n2 := bad_none h2 g2 c2
      have l1 := lt g1
      have l2 := lt g2
      rcases Nat.lt_trichotomy k k' with z | z | z
      · have := after_none n1 (k' - (k + 1)) (by omega)
        rw [show k + 1 + (k' - (k + 1)) = k' by omega, h2] at this
        cases this
      · rw [z]
      · have := after_none n2 (k - (k' + 1)) (by omega)
        rw [show k' + 1 + (k - (k' + 1)) = k by omega, h1] at this
        cases this
    | good h2 =>
      have l1 := lt g1
      have := after_none n1 (bs.length - (k + 1)) (by omega)
      rw [show k + 1 + (bs.length - (k + 1)) = bs.length by omega, h2] at this
      cases this
  | good h1 =>
    cases hb with
    | bad h2 g2 c2 =>
      rename_i k' ls' ah' b2
      have l2 := lt g2
      have := after_none (bad_none h2 g2 c2) (bs.length - (k' + 1)) (by omega)
      rw [show k' + 1 + (bs.length - (k' + 1)) = bs.length by omega, h1] at this
      cases this
    | good h2 =>
      rw [h1] at h2
      cases h2
      rfl
/-- a tuple of two numbers -/
def Two (H : Hp) (v : V) (b : Int × Int) : Prop := ∃ a, v = .ref a ∧ H a = some (.tup [.int b.1, .int b.2])
theorem two_same {H H' : Hp} {xs : List V} {bs : List (Int × Int)} (h : Paired (Two H) xs bs) (s : Same H H') : Paired (Two H') xs bs := Paired.mapP h fun _ _ ⟨a, e, z⟩ => ⟨a, e, s _ _ z⟩
theorem ix_in {n k : Nat} (h : k < n) : ixN n (k : Int) = some k := by
  unfold ixN
  rw [if_pos (by omega), if_pos (by omega)]
  simp
theorem can_row {rs : List Cs.Row} {ah : List Int} {ch te : Int} (h : canBreak rs ah ch te = true) : ∃ (k : Nat) (r : Cs.Row), ch = (k : Int) ∧ rs[k]? = some r ∧ ah.count ch < r.n.toNat := by
  unfold canBreak at h
  split at h
  · rename_i hb
    obtain ⟨k, rfl⟩ := Int.eq_ofNat_of_zero_le hb.1
    rw [Int.toNat_natCast] at h
    split at h
    · rename_i r hr
      simp only [Bool.and_eq_true, decide_eq_true_eq] at h
      exact ⟨k, r, rfl, hr, by omega⟩
    · cases h
  · cases h
def sp_channels_of (K : PySem.W.Frag) (C : Addr) : Sp := fun vs H Q E => ∃ (c b : Addr) (xs bv : List V) (rs : List Cs.Row) (bs : List (Int × Int)), vs = [.ref c, .ref b] ∧ H c = some (.lst xs) ∧ Paired (Cs.RowAt H) xs rs ∧ rs.length ≤ 100 ∧ (∀ r ∈ rs, 0 ≤ r.n ∧ r.n ≤ 1000) ∧ H b = some (.lst bv) ∧ Paired (Two H) bv bs ∧ bs.length ≤ 1000 ∧
  (∀ H' dx (k : Nat), Same H H' → H' dx = none → Told40 rs bs (.inl k) → E (.ref C) (some dx) (upd H' dx (.xd [("at", .int (k : Int))]))) ∧
  (∀ (D : Addr) (zs : List V) (ls : List (List Lan.Mx)) H', H D = none → Same H H' → H' D = some (.lst zs) → Paired (Lan.LaneAt H D H') zs ls → zs.Nodup → Told40 rs bs (.inr ls) → Q (.ref D) H')
theorem ok_channels_of (T : Tx K mg a) : FnOk P w K mg base (CX1 P w) 3 a.f_channels_of a.d_channels_of ["case", "broken"] (sp_channels_of K a.c_NoCase) := by
  have G_can_break := ok_can_break (P := P) (w := w) (base := base) T
  have G_init_NoCase := ok_init_NoCase (P := P) (w := w) (base := base) T
  refine T.channels_of.fn.okX sc_channels_of (fun vs H Q E h => ?_) (fun cdv A outer s H vs Q E hr h => ?_)
  · obtain ⟨c, b, xs, bv, rs, bs, rfl, _⟩ := h
    rfl
  obtain ⟨c, b, xs, bv, rs, bs, rfl, hc, hpd, hrl, hrn, hb, hbd, hbl, qx, q⟩ := h
  have hxl := Cs.rows_len hpd
  have hbvl := Paired.length hbd
  refine ⟨_, (pss_cons (ps_setC (i := 2) sc_channels_of.nd rfl (Or.inl rfl) rfl (kpi_list K rfl (pv 0)) (BlkOk.of (N' := ["case", "broken", "channels", "ahead", "at", "part", "channel", "lost", "sign", "width", "own", "many", "teeth"]) (ms := [8, 9, 11]) (k := 1) (by rfl)) (fun _ _ _ _ _ => (kpg_tup K rfl (n := 4) rfl (pgs_cons (pg_name (i := 8) (show List.Nodup (["case", "broken", "channels", "ahead", "at", "part", "channel", "lost", "sign", "width", "own", "many", "teeth"] : List Str) from by decide +kernel) rfl (Or.inl rfl)) (pgs_cons (pg_name (i := 9) (show List.Nodup (["case", "broken", "channels", "ahead", "at", "part", "channel", "lost", "sign", "width", "own", "many", "teeth"] : List Str) from by decide +kernel) rfl (Or.inl rfl)) (pgs_cons (pg_name (i := 12) (show List.Nodup (["case", "broken", "channels", "ahead", "at", "part", "channel", "lost", "sign", "width", "own", "many", "teeth"] : List Str) from by decide +kernel) rfl (Or.inl rfl)) (pgs_cons (pg_name (i := 11) (show List.Nodup (["case", "broken", "channels", "ahead", "at", "part", "channel", "lost", "sign", "width", "own", "many", "teeth"] : List Str) from by decide +kernel) rfl (Or.inl rfl)) pgs_nil)))))) (fun _ _ _ _ _ => pts_nil) (fun _ _ _ _ _ => (pe_op op_rep (pe_lst (pa_cons (pe_tup (pa_cons (pv 8) (pa_cons (pv 12) pa_nil))) pa_nil)) (pv 11))))
      (pss_cons (ps_set (i := 3) sc_channels_of.nd rfl (Or.inl rfl) (pe_lst pa_nil))
      (pss_cons (ps_for (fly_own rfl) rfl (kpi_enum K rfl rfl T.b_enumerate (pa_cons (pe_ifExp (pt_cmp (pc_isN (pv 1))) (pe_lst pa_nil) (pv 1)) pa_nil)) (kpg_tup K rfl (n := 2) rfl (pgs_cons (pg_name (i := 4) sc_channels_of.nd rfl (Or.inl rfl)) (pgs_cons (pg_name (i := 5) sc_channels_of.nd rfl (Or.inl rfl)) pgs_nil))) (pss_cons (ps_asg (pv 5) (kpg_tup K rfl (n := 2) rfl (pgs_cons (pg_name (i := 6) sc_channels_of.nd rfl (Or.inl rfl)) (pgs_cons (pg_name (i := 7) sc_channels_of.nd rfl (Or.inl rfl)) pgs_nil))))
      (pss_cons (ps_if (pt_not (pt_val (pcall T.can_break G_can_break hr rfl (pa_cons (pv 0) (pa_cons (pv 3) (pa_cons (pv 6) (pa_cons (pv 7) pa_nil))))))) (pss_one (praiseX T.cl_NoCase G_init_NoCase hr rfl rfl rfl (pa_cons (pv 4) pa_nil))) pss_nil)
      (pss_cons (ps_asg (pe_ix (kix_list K rfl) (pv 0) (pv 6) (fun _ _ => rfl)) (kpg_tup K rfl (n := 4) rfl (pgs_cons (pg_name (i := 8) sc_channels_of.nd rfl (Or.inl rfl)) (pgs_cons (pg_name (i := 9) sc_channels_of.nd rfl (Or.inl rfl)) (pgs_cons (pg_name (i := 10) sc_channels_of.nd rfl (Or.inl rfl)) (pgs_cons (pg_name (i := 11) sc_channels_of.nd rfl (Or.inl rfl)) pgs_nil))))))
      (pss_cons (ps_asg (pe_tup (pa_cons (pv 8) (pa_cons (pe_op op_sub (pv 10) (pv 7)) pa_nil))) (pg_sub (pe_ix (kix_list K rfl) (pv 2) (pv 6) (fun _ _ => rfl)) (kpe_bm K rfl PySem.F.plainAttrs_list PySem.F.slot_list_count PySem.F.type_list_count mt_count (pv 3) (pa_cons (pv 6) pa_nil)) set_list))
      (pss_one (ps_expr (kpe_bm K rfl PySem.F.plainAttrs_list PySem.F.slot_list_append PySem.F.type_list_append mt_append (pv 3) (pa_cons (pv 6) pa_nil)))))))))
      (pss_one (ps_ret (pv 2)))))), ?_⟩
  walk_at "rd"
  refine ⟨⟨_, SqL.of hc⟩, fun D hD => ?_⟩
  refine comp_list (a := c) (xs := xs) (fun j zs σ H2 => ∃ (w8 w9 w11 w12 : Option V), σ = [some (.ref c), some (.ref b), none, none, none, none, none, none, w8, w9, none, w11, w12] ∧ Same H H2 ∧ H2 D = some (.lst zs) ∧ Paired (Lan.LaneAt H D H2) zs ((lanes0 rs).take j) ∧ zs.Nodup)
    ?_ ?_ ?_ ?_
  · exact ⟨none, none, none, none, rfl, same_new hD _, upd_same, .nil, List.nodup_nil⟩
  · rintro j zs σ H2 hj ⟨_, _, _, _, _, hs, _⟩
    exact hs.seq (SqL.of hc)
  · rintro j y zs σ H2 hy hjl ⟨w8, w9, w11, w12, rfl, hs2, hh2, hz2, hzn⟩
    obtain ⟨r, hrj, t, rfl, ht⟩ := Cs.pd_get hpd hy
    have hrb := hrn r (List.mem_of_getElem? hrj)
    have hzl := Paired.length hz2
    rw [List.length_take] at hzl
    refine ⟨_, _, rfl, SqT.of (hs2 _ _ ht), rfl, ?_⟩
    walk_at "tg"
    walk_at "tg"
    walk_at "tg"
    walk_at "tg"
    try refine And.intro rfl ?_
    walk_at "rd"
    intro pt hpt
    have hs3 := same_new hpt (.tup [.str r.s, .int r.t])
    have h3t : upd H2 pt (.tup [.str r.s, .int r.t]) pt = some (.tup [.str r.s, .int r.t]) := upd_same
    generalize upd H2 pt (.tup [.str r.s, .int r.t]) = H3 at hs3 h3t ⊢
    walk_at "rd"
    intro p1 hp1
    have hs4 := same_new hp1 (.lst [.ref pt])
    have h41 : upd H3 p1 (.lst [.ref pt]) p1 = some (.lst [.ref pt]) := upd_same
    generalize upd H3 p1 (.lst [.ref pt]) = H4 at hs4 h41 ⊢
    walk_at "rd"
    refine ⟨p1, _, _, rfl, rfl, h41, by omega, by omega, smallL (by show 1 * r.n.toNat ≤ _; omega), fun p2 hp2 => ?_⟩
    have efl : (List.replicate r.n.toNat [V.ref pt]).flatten = List.replicate r.n.toNat (V.ref pt) := by
      generalize r.n.toNat = n
      induction n with
      | zero => rfl
      | succ n ih => rw [List.replicate_succ, List.flatten_cons, ih]; rfl
    rw [efl]
    have hs5 := same_new hp2 (.lst (List.replicate r.n.toNat (V.ref pt)))
    have h52 : upd H4 p2 (.lst (List.replicate r.n.toNat (V.ref pt))) p2 = some (.lst (List.replicate r.n.toNat (V.ref pt))) := upd_same
    generalize upd H4 p2 (.lst (List.replicate r.n.toNat (V.ref pt))) = H5 at hs5 h52 ⊢
    have hs25 := hs3.trans (hs4.trans hs5)
    have hh5 := hs25 _ _ hh2
    have hpD : p2 ≠ D := fun e => by rw [e, (hs3.trans hs4) _ _ hh2] at hp2; cases hp2
    have hp20 : H2 p2 = none := hs3.free (hs4.free hp2)
    refine cnext hjl hh5 (by omega) ⟨_, _, _, _, rfl, same_upd (hs2.trans hs25) hD, upd_same, ?_, ?_⟩
    · have e0 : (lanes0 rs)[j]? = some (List.replicate r.n.toNat (r.s, r.t)) := by
        unfold lanes0
        rw [List.getElem?_map, hrj]
        rfl
      rw [List.take_add_one, e0]
      refine Paired.snoc (Lan.lanes_no (Lan.lanes_same hz2 hs25) hh5) ⟨p2, _, rfl, hpD, hs2.free hp20, by rw [upd_ne hpD]; exact h52, Lan.mats_upd (Lan.mats_rep ⟨pt, rfl, (hs4.trans hs5) _ _ h3t⟩ _) hh5⟩
    · rw [List.nodup_append]
      refine ⟨hzn, by simp, fun x hx y hy => ?_⟩
      rw [List.mem_singleton.mp hy]
      exact fun e => Lan.lanes_new hz2 hp20 (e ▸ hx)
  · rintro zs σ H2 ⟨w8, w9, w11, w12, rfl, hs2, hh2, hz2, hzn⟩
    rw [hxl, List.take_of_length_le (by unfold lanes0; rw [List.length_map]; exact Nat.le_refl _)] at hz2
    walk_at "rd"
    intro ph hph
    have hs3 := same_new hph (.lst [])
    have h3h : upd H2 ph (.lst []) ph = some (.lst (([] : List Int).map V.int)) := upd_same
    generalize upd H2 ph (.lst []) = H3 at hs3 h3h ⊢
    have hphz : V.ref ph ∉ zs := Lan.lanes_new hz2 hph
    have hphD : ph ≠ D := fun e => by rw [e, hh2] at hph; cases hph
    have hph0 : H ph = none := hs2.free hph
    have hb3 := (hs2.trans hs3) _ _ hb
    refine ⟨_, rfl, ?_⟩
    refine ⟨_, rfl, ?_⟩
    refine iteF ?_
    refine ⟨_, rfl, ?_⟩
    refine ⟨b, rfl, ⟨_, SqL.of hb3⟩, ?_⟩
    refine for_enum (a := b) (xs := bv) (fun i σ H4 => ∃ (ls : List (List Lan.Mx)) (ah : List Int) (v4 v5 v6 v7 v8 v9 v10 v11 : Option V), σ = [some (.ref c), some (.ref b), some (.ref D), some (.ref ph), v4, v5, v6, v7, v8, v9, v10, v11] ∧ Same H H4 ∧ H4 D = some (.lst zs) ∧ Paired (Lan.LaneAt H D H4) zs ls ∧ H4 ph = some (.lst (ah.map V.int)) ∧ after rs bs i = some (ls, ah) ∧ ah.length = i ∧ (∀ (k : Nat) m r, ls[k]? = some m → rs[k]? = some r → m.length = r.n.toNat))
      ⟨lanes0 rs, [], none, none, none, none, none, none, none, none, rfl, hs2.trans hs3, hs3 _ _ hh2, Lan.lanes_same hz2 hs3, h3h, after_zero rs bs, rfl, fun k m r hm hr => ?_⟩ (fun i σ H4 _ ⟨_, _, _, _, _, _, _, _, _, _, _, hs, _⟩ => hs.seq (SqL.of hb)) ?_ ?_
    · unfold lanes0 at hm
      rw [List.getElem?_map, hr] at hm
      have hm : List.replicate r.n.toNat (r.s, r.t) = m := Option.some.inj hm
      rw [← hm, List.length_replicate]
    · rintro i y te σ H4 hy ⟨ls, ah, v4, v5, v6, v7, v8, v9, v10, v11, rfl, hs4, hD4, hz4, hp4, haf, hal, hlen⟩ hte
      obtain ⟨bb, hbi, tp, rfl, htp⟩ := Cs.pd_get hbd hy
      have hsA := same_new hte (.tup [.int i, .ref tp])
      have hAt : upd H4 te (.tup [.int i, .ref tp]) te = some (.tup [.int i, .ref tp]) := upd_same
      generalize upd H4 te (.tup [.int i, .ref tp]) = H5 at hsA hAt ⊢
      have hs05 := hs4.trans hsA
      refine ⟨_, _, rfl, SqT.of hAt, rfl, ?_⟩
      walk_at "tg"
      walk_at "tg"
      try refine And.intro rfl ?_
      refine ⟨_, rfl, ?_⟩
      refine ⟨_, _, rfl, SqT.of (hs05 _ _ htp), rfl, ?_⟩
      walk_at "tg"
      walk_at "tg"
      try refine And.intro rfl ?_
      refine ⟨_, rfl, ?_⟩
      refine ⟨_, rfl, ?_⟩
      refine ⟨_, rfl, ?_⟩
      refine ⟨_, rfl, ?_⟩
      refine ⟨c, ph, bb.1, bb.2, rs, ah, rfl, ⟨xs, SqL.of (hs05 _ _ hc), Cs.rows_same hpd hs05⟩, hsA _ _ hp4, by omega, fun H6 hs6 => ?_⟩
      have hs46 := hsA.trans hs6
      have hs06 := hs4.trans hs46
      refine ⟨_, rfl, ?_⟩
      cases hcb : canBreak rs ah bb.1 bb.2 with
      | false =>
        refine iteT ?_
        walk_at "rd"
        have hib := (List.getElem?_eq_some_iff.mp hy).1
        exact ⟨by omega, fun dx hdx => qx H6 dx i hs06 hdx (.bad haf hbi hcb)⟩
      | true =>
        refine iteF ?_
        have hib := (List.getElem?_eq_some_iff.mp hy).1
        obtain ⟨k, r, hk1, hrk, hcnt⟩ := can_row hcb
        have hkl : k < rs.length := (List.getElem?_eq_some_iff.mp hrk).1
        have hxk : xs[k]? = some (xs[k]'(by omega)) := List.getElem?_eq_getElem _
        obtain ⟨r', hrk', t, et, ht⟩ := Cs.pd_get hpd hxk
        rw [hrk] at hrk'
        cases hrk'
        rw [et] at hxk
        have ek : atI xs (k : Int) = some (.ref t) := atI_nat hxk
        have hzl := Paired.length hz4
        obtain ⟨hzk, m, hmk⟩ : k < zs.length ∧ ∃ m, ls[k]? = some m := by
          have h1 : (lanes0 rs).length = rs.length := List.length_map _
          have h2 := Paired.length hz2
          exact ⟨by omega, ls[k]'(by omega), List.getElem?_eq_getElem _⟩
        have hzk' : zs[k]? = some zs[k] := List.getElem?_eq_getElem hzk
        obtain ⟨m', hmk', p, ms0, ep, hpD, hp0, hp4', hpm⟩ := Cs.pd_get hz4 hzk'
        rw [hmk] at hmk'
        cases hmk'
        rw [ep] at hzk'
        have ez : atI zs (k : Int) = some (.ref p) := atI_nat hzk'
        have hml := hlen k m r hmk hrk
        have hmsl := Paired.length hpm
        have hpph : p ≠ ph := fun e => hphz (by rw [← e]; exact List.mem_of_getElem? hzk')
        have hD6 := hs46 _ _ hD4
        have hph6 := hs46 _ _ hp4
        have hp6 := hs46 _ _ hp4'
        have hz6 := Lan.lanes_same hz4 hs46
        have hpm6 := Lan.mats_same hpm hs46
        rw [hk1]
        refine ⟨_, rfl, ?_⟩
        refine ⟨_, rfl, ?_⟩
        refine ⟨c, _, _, _, rfl, rfl, SqL.of (hs06 _ _ hc), ek, ?_⟩
        clear ek
        refine ⟨_, _, rfl, SqT.of (hs06 _ _ ht), rfl, ?_⟩
        walk_at "tg"
        walk_at "tg"
        walk_at "tg"
        walk_at "tg"
        try refine And.intro rfl ?_
        refine ⟨_, rfl, ?_⟩
        refine ⟨_, rfl, ?_⟩
        refine ⟨_, rfl, ?_⟩
        refine ⟨_, _, rfl, rfl, ?_⟩
        walk_at "rd"
        intro tn htn
        have hs67 := same_new htn (HO.tup [V.str r.s, (fun i j : Int => V.int (i - j)) r.t bb.2])
        have h7n : upd H6 tn (HO.tup [V.str r.s, (fun i j : Int => V.int (i - j)) r.t bb.2]) tn = some (.tup [.str r.s, .int (r.t - bb.2)]) := upd_same
        generalize upd H6 tn (HO.tup [V.str r.s, (fun i j : Int => V.int (i - j)) r.t bb.2]) = H7 at hs67 h7n ⊢
        have hs07 := hs06.trans hs67
        have hD7 := hs67 _ _ hD6
        have hph7 := hs67 _ _ hph6
        have hp7 := hs67 _ _ hp6
        have hz7 := Lan.lanes_same hz6 hs67
        have hpm7 := Lan.mats_same hpm6 hs67
        have hcnt' : ah.count (k : Int) < ms0.length := by rw [hk1] at hcnt; omega
        refine ⟨_, rfl, ?_⟩
        refine ⟨_, rfl, ?_⟩
        refine ⟨D, _, _, _, rfl, rfl, SqL.of hD7, ez, ?_⟩
        clear ez
        refine ⟨_, rfl, ?_⟩
        refine ⟨.inl ⟨rfl, _, SqL.of hph7⟩, ?_⟩
        refine ⟨_, rfl, ?_⟩
        refine ⟨ph, ah, _, rfl, rfl, hph7, ?_⟩
        refine ⟨p, ms0, _, ah.count (k : Int), rfl, rfl, hp7, ix_in hcnt', ?_⟩
        have hm8 : Paired (Lan.MatAt (upd H7 p (.lst (ms0.set (ah.count (k : Int)) (.ref tn))))) (ms0.set (ah.count (k : Int)) (.ref tn)) (m.set (ah.count (k : Int)) (r.s, r.t - bb.2)) := Lan.pd_set ⟨tn, rfl, by rw [upd_ne (ne_of h7n hp7 (fun q => by cases q))]; exact h7n⟩ _ (Lan.mats_upd hpm7 hp7)
        have hz8 := Lan.lanes_set k hz7 hzn hzk' hp7 hm8 hpD hp0
        have hs08 : Same H (upd H7 p (.lst (ms0.set (ah.count (k : Int)) (.ref tn)))) := same_upd hs07 hp0
        have hD8 : upd H7 p (.lst (ms0.set (ah.count (k : Int)) (.ref tn))) D = some (.lst zs) := by rw [upd_ne (Ne.symm hpD)]; exact hD7
        have hph8 : upd H7 p (.lst (ms0.set (ah.count (k : Int)) (.ref tn))) ph = some (.lst (ah.map V.int)) := by rw [upd_ne (Ne.symm hpph)]; exact hph7
        generalize upd H7 p (.lst (ms0.set (ah.count (k : Int)) (.ref tn))) = H8 at hz8 hs08 hD8 hph8 ⊢
        refine ⟨_, rfl, ?_⟩
        refine ⟨.inl ⟨rfl, _, SqL.of hph8⟩, ?_⟩
        refine ⟨_, rfl, ?_⟩
        refine ⟨ph, _, _, rfl, rfl, hph8, smallLt (by rw [List.length_map]; omega), ?_⟩
        have hsl : setLane rs ls ah bb = ls.set k (m.set (ah.count (k : Int)) (r.s, r.t - bb.2)) := by
          unfold setLane
          rw [hk1, Int.toNat_natCast, hrk, hmk]
        refine ⟨ls.set k (m.set (ah.count (k : Int)) (r.s, r.t - bb.2)), ah ++ [(k : Int)], _, _, _, _, _, _, _, _, rfl, same_upd hs08 hph0, by rw [upd_ne (Ne.symm hphD)]; exact hD8, Lan.lanes_set.lanes_else hz8 hphz hph8, by rw [upd_same, List.map_append]; rfl, ?_, by rw [List.length_append, hal]; rfl, fun k' m' r' hm' hr' => ?_⟩
        · rw [after_succ hbi, haf]
          show (if canBreak rs ah bb.1 bb.2 = true then some (setLane rs ls ah bb, ah ++ [bb.1]) else none) = _
          rw [if_pos hcb, hsl, hk1]
        · rw [List.getElem?_set] at hm'
          split at hm'
          · rename_i e
            subst e
            split at hm'
            · have hm' := Option.some.inj hm'
              rw [← hm', List.length_set]
              exact hlen k m r' hmk hr'
            · cases hm'
          · exact hlen k' m' r' hm' hr'
    · rintro σ H4 ⟨ls, ah, v4, v5, v6, v7, v8, v9, v10, v11, rfl, hs4, hD4, hz4, hp4, haf, hal, hlen⟩
      rw [hbvl] at haf
      refine ⟨_, rfl, ?_⟩
      exact q D zs ls H4 hD hs4 hD4 hz4 hzn (.good haf)
def sp_law_one (K : PySem.W.Frag) : Sp := fun vs H Q _ => ∃ (c : Addr) (n : Int) (rs : List Cs.Row), vs = [.ref c, .int n] ∧ Cs.CaseAt K H c rs ∧ 1 ≤ rs.length ∧ rs.length ≤ 1000 ∧ 0 ≤ n ∧ ∀ (t : Addr) (ch lo : Int) H', Same H H' → H' t = some (.tup [.int ch, .int lo]) → Q (.ref t) H'
theorem pickA {x0 x1 x2 z : Int} (h : 0 ≤ z) (h2 : z < 3) : ∃ w : Int, atI [V.int x0, V.int x1, V.int x2] z = some (.int w) := by
  have : z = 0 ∨ z = 1 ∨ z = 2 := by omega
  rcases this with rfl | rfl | rfl
  · exact ⟨x0, rfl⟩
  · exact ⟨x1, rfl⟩
  · exact ⟨x2, rfl⟩
theorem pickB {x0 x1 x2 x3 x4 x5 x6 x7 z : Int} (h : 0 ≤ z) (h2 : z < 8) : ∃ w : Int, atI [V.int x0, V.int x1, V.int x2, V.int x3, V.int x4, V.int x5, V.int x6, V.int x7] z = some (.int w) := by
  have : z = 0 ∨ z = 1 ∨ z = 2 ∨ z = 3 ∨ z = 4 ∨ z = 5 ∨ z = 6 ∨ z = 7 := by omega
  rcases this with rfl | rfl | rfl | rfl | rfl | rfl | rfl | rfl
  · exact ⟨x0, rfl⟩
  · exact ⟨x1, rfl⟩
  · exact ⟨x2, rfl⟩
  · exact ⟨x3, rfl⟩
  · exact ⟨x4, rfl⟩
  · exact ⟨x5, rfl⟩
  · exact ⟨x6, rfl⟩
  · exact ⟨x7, rfl⟩
theorem ok_law_one (T : Tx K mg a) : FnOk P w K mg base CX0 1 a.f_law_one a.d_law_one ["_law_case_here", "_law_number"] (sp_law_one K) := by
  refine T.law_one.fn.ok sc_law_one (fun vs H Q E h => ?_) (fun cdv A outer s H vs Q E hr h => ?_)
  · obtain ⟨c, n, rs, rfl, _⟩ := h
    rfl
  obtain ⟨c, n, rs, rfl, ⟨xs, hS, hpd⟩, hr1, hr2, hn, q⟩ := h
  have hxl := Cs.rows_len hpd
  have m0 := Int.emod_nonneg n (show (xs.length : Int) ≠ 0 by omega)
  have m1 := Int.emod_lt_of_pos n (show (0 : Int) < (xs.length : Int) by omega)
  obtain ⟨k, hk⟩ := Int.eq_ofNat_of_zero_le m0
  refine ⟨_, (pss_cons (ps_set (i := 2) sc_law_one.nd rfl (Or.inl rfl) (pe_op op_mod (pv 1) (pe_callB (klen_seq K rfl) rfl T.b_len bt_len (pa_cons (pv 0) pa_nil))))
      (pss_cons (ps_if (pt_cmpR op_eq (pe_op op_mod (pe_op op_fdiv (pv 1) pe_int) pe_int) pe_int (nomark _)) (pss_cons (ps_set (i := 2) sc_law_one.nd rfl (Or.inl rfl) (pe_ix (kix_list K rfl) (pe_lst (pa_cons (pe_un un_neg pe_int) (pa_cons (pe_callB (klen_seq K rfl) rfl T.b_len bt_len (pa_cons (pv 0) pa_nil)) (pa_cons (pe_op op_add (pe_callB (klen_seq K rfl) rfl T.b_len bt_len (pa_cons (pv 0) pa_nil)) (pe_op op_mod (pe_op op_fdiv (pv 1) pe_int) pe_int)) pa_nil)))) (pe_op op_mod (pe_op op_fdiv (pv 1) pe_int) pe_int) (fun _ _ => rfl)))
      (pss_one (ps_ret (pe_tup (pa_cons (pv 2) (pa_cons pe_int pa_nil)))))) pss_nil)
      (pss_cons (ps_set (i := 3) sc_law_one.nd rfl (Or.inl rfl) (pe_ix (kix_tup K rfl) (pe_ix (kix_list K rfl) (pv 0) (pv 2) (fun _ _ => rfl)) pe_int (fun _ _ => rfl)))
      (pss_cons (ps_set (i := 4) sc_law_one.nd rfl (Or.inl rfl) (pe_op op_mod (pe_op op_fdiv (pv 1) pe_int) pe_int))
      (pss_cons (ps_set (i := 5) sc_law_one.nd rfl (Or.inl rfl) (pe_ix (kix_list K rfl) (pe_lst (pa_cons (pe_op op_and (pv 3) (pv 4)) (pa_cons (pe_op op_and (pv 3) (pv 4)) (pa_cons (pv 3) (pa_cons pe_int (pa_cons (pv 4) (pa_cons (pe_op op_add (pv 3) pe_int) (pa_cons (pe_op op_sub pe_int pe_int) (pa_cons (pe_op op_and (pv 3) (pv 4)) pa_nil))))))))) (pe_op op_mod (pe_op op_fdiv (pv 1) pe_int) pe_int) (fun _ _ => rfl)))
      (pss_one (ps_ret (pe_tup (pa_cons (pv 2) (pa_cons (pv 5) pa_nil)))))))))), ?_⟩
  walk_at "rd"
  refine ⟨c, _, rfl, .inl hS, ?_⟩
  walk_at "rd"
  refine ite2 (fun _ => ?_) (fun _ => ?_)
  · walk_at "rd"
    refine ⟨c, _, rfl, .inl hS, ?_⟩
    walk_at "rd"
    refine ⟨c, _, rfl, .inl hS, ?_⟩
    walk_at "rd"
    intro p hp
    walk_at "rd"
    refine ⟨p, _, _, _, rfl, rfl, SqL.of upd_same, (pickA (z := n / 700 % 3) (by omega) (by omega)).choose_spec, ?_⟩
    walk_at "rd"
    intro t ht
    exact q t _ _ _ (same_add (same_new hp _) ht) upd_same
  · have hxk : xs[k]? = some (xs[k]'(by omega)) := List.getElem?_eq_getElem _
    obtain ⟨r, hrk, t, et, ht⟩ := Cs.pd_get hpd hxk
    rw [et] at hxk
    have ek : atI xs (n % (xs.length : Int)) = some (.ref t) := by rw [hk]; exact atI_nat hxk
    refine ⟨_, rfl, ?_⟩
    refine ⟨_, rfl, ?_⟩
    refine ⟨c, _, _, _, rfl, rfl, hS, ek, ?_⟩
    clear ek
    refine ⟨t, _, _, _, rfl, rfl, SqT.of ht, rfl, ?_⟩
    walk_at "rd"
    intro p hp
    walk_at "rd"
    refine ⟨p, _, _, _, rfl, rfl, SqL.of upd_same, (pickB (z := n / 63 % 8) (by omega) (by omega)).choose_spec, ?_⟩
    walk_at "rd"
    intro t2 ht2
    exact q t2 _ _ _ (same_add (same_new hp _) ht2) upd_same
theorem and_comm' {i j : Int} (hi : 0 ≤ i) (hj : 0 ≤ j) : Builtin.bitAnd i j = Builtin.bitAnd j i := by
  rw [PyProof.Rows.bitAnd_pp hi hj, PyProof.Rows.bitAnd_pp hj hi, Nat.and_comm]
def sp_law_due (K : PySem.W.Frag) : Sp := fun vs H Q _ => ∃ (c b : Addr) (xs bv : List V) (rs : List Cs.Row) (bs : List (Int × Int)), vs = [.ref c, .ref b] ∧ H c = some (.lst xs) ∧ Paired (Cs.RowAt H) xs rs ∧ rs.length ≤ 100 ∧ (∀ r ∈ rs, 0 ≤ r.n ∧ r.n ≤ 1000) ∧ (∀ r ∈ rs, 0 ≤ r.t) ∧ H b = some (.lst bv) ∧ Paired (Two H) bv bs ∧ bs.length ≤ 1000 ∧
  (∀ H' (k : Nat), Same H H' → Told40 rs bs (.inl k) → Q (.int (k : Int)) H') ∧
  (∀ (D : Addr) (zs : List V) (ls : List (List Lan.Mx)) H', H D = none → Same H H' → H' D = some (.lst zs) → Paired (Lan.LaneAt H D H') zs ls → zs.Nodup → Told40 rs bs (.inr ls) → Q (.ref D) H')
theorem ok_law_due (T : Tx K mg a) : FnOk P w K mg base CX0 1 a.f_law_due a.d_law_due ["_law_case_here", "_law_broken"] (sp_law_due K) := by
  refine T.law_due.fn.ok sc_law_due (fun vs H Q E h => ?_) (fun cdv A outer s H vs Q E hr h => ?_)
  · obtain ⟨c, b, xs, bv, rs, bs, rfl, _⟩ := h
    rfl
  obtain ⟨c, b, xs, bv, rs, bs, rfl, hc, hpd, hrl, hrn, hrt, hb, hbd, hbl, qx, q⟩ := h
  have hxl := Cs.rows_len hpd
  have hbvl := Paired.length hbd
  refine ⟨_, (pss_cons (ps_setC (i := 2) sc_law_due.nd rfl (Or.inl rfl) rfl (kpi_list K rfl (pv 0)) (BlkOk.of (N' := ["_law_case_here", "_law_broken", "_law_lanes", "_law_used", "_law_k", "_law_one_here", "_law_channel", "_law_lost", "_law_own", "_law_sign", "_law_width", "_law_teeth_here", "_law_many"]) (ms := []) (k := 4) (by rfl)) (fun _ _ _ _ _ => (kpg_tup K rfl (n := 4) rfl (pgs_cons (pg_name (i := 9) (show List.Nodup (["_law_case_here", "_law_broken", "_law_lanes", "_law_used", "_law_k", "_law_one_here", "_law_channel", "_law_lost", "_law_own", "_law_sign", "_law_width", "_law_teeth_here", "_law_many"] : List Str) from by decide +kernel) rfl (Or.inl rfl)) (pgs_cons (pg_name (i := 10) (show List.Nodup (["_law_case_here", "_law_broken", "_law_lanes", "_law_used", "_law_k", "_law_one_here", "_law_channel", "_law_lost", "_law_own", "_law_sign", "_law_width", "_law_teeth_here", "_law_many"] : List Str) from by decide +kernel) rfl (Or.inl rfl)) (pgs_cons (pg_name (i := 11) (show List.Nodup (["_law_case_here", "_law_broken", "_law_lanes", "_law_used", "_law_k", "_law_one_here", "_law_channel", "_law_lost", "_law_own", "_law_sign", "_law_width", "_law_teeth_here", "_law_many"] : List Str) from by decide +kernel) rfl (Or.inl rfl)) (pgs_cons (pg_name (i := 12) (show List.Nodup (["_law_case_here", "_law_broken", "_law_lanes", "_law_used", "_law_k", "_law_one_here", "_law_channel", "_law_lost", "_law_own", "_law_sign", "_law_width", "_law_teeth_here", "_law_many"] : List Str) from by decide +kernel) rfl (Or.inl rfl)) pgs_nil)))))) (fun _ _ _ _ _ => pts_nil) (fun _ _ _ _ _ => (pe_op op_rep (pe_lst (pa_cons (pe_tup (pa_cons (pv 9) (pa_cons (pv 11) pa_nil))) pa_nil)) (pv 12))))
      (pss_cons (ps_set (i := 3) sc_law_due.nd rfl (Or.inl rfl) (pe_op op_rep (pe_lst (pa_cons pe_int pa_nil)) (pe_callB (klen_seq K rfl) rfl T.b_len bt_len (pa_cons (pv 0) pa_nil))))
      (pss_cons (ps_for PassesOwn.never rfl (kpi_enum K rfl rfl T.b_enumerate (pa_cons (pv 1) pa_nil)) (kpg_tup K rfl (n := 2) rfl (pgs_cons (pg_name (i := 4) sc_law_due.nd rfl (Or.inl rfl)) (pgs_cons (pg_name (i := 5) sc_law_due.nd rfl (Or.inl rfl)) pgs_nil))) (pss_cons (ps_asg (pv 5) (kpg_tup K rfl (n := 2) rfl (pgs_cons (pg_name (i := 6) sc_law_due.nd rfl (Or.inl rfl)) (pgs_cons (pg_name (i := 7) sc_law_due.nd rfl (Or.inl rfl)) pgs_nil))))
      (pss_cons (ps_if (PW.pt (pw_or (pt_not (pt_chain op_le op_lt pe_int (pv 6) (pe_callB (klen_seq K rfl) rfl T.b_len bt_len (pa_cons (pv 0) pa_nil)))) (pw_or1 (pt_cmpR op_eq (pe_ix (kix_list K rfl) (pv 3) (pv 6) (fun _ _ => rfl)) (pe_ix (kix_tup K rfl) (pe_ix (kix_list K rfl) (pv 0) (pv 6) (fun _ _ => rfl)) pe_int (fun _ _ => rfl)) (nomark _))))) (pss_one (ps_ret (pv 4))) pss_nil)
      (pss_cons (ps_set (i := 8) sc_law_due.nd rfl (Or.inl rfl) (pe_ix (kix_tup K rfl) (pe_ix (kix_list K rfl) (pv 0) (pv 6) (fun _ _ => rfl)) pe_int (fun _ _ => rfl)))
      (pss_cons (ps_if (PW.pt (pw_or (pt_cmpR op_lt (pv 7) pe_int (nomark _)) (pw_or1 (pt_cmpR op_ne (pe_op op_and (pv 7) (pv 8)) (pv 7) (nomark _))))) (pss_one (ps_ret (pv 4))) pss_nil)
      (pss_cons (ps_asg (pe_tup (pa_cons (pe_ix (kix_tup K rfl) (pe_ix (kix_list K rfl) (pv 0) (pv 6) (fun _ _ => rfl)) pe_int (fun _ _ => rfl)) (pa_cons (pe_op op_sub (pv 8) (pv 7)) pa_nil))) (pg_sub (pe_ix (kix_list K rfl) (pv 2) (pv 6) (fun _ _ => rfl)) (pe_ix (kix_list K rfl) (pv 3) (pv 6) (fun _ _ => rfl)) set_list))
      (pss_one (ps_asg (pe_op op_add (pe_ix (kix_list K rfl) (pv 3) (pv 6) (fun _ _ => rfl)) pe_int) (pg_sub (pv 3) (pv 6) set_list)))))))))
      (pss_one (ps_ret (pv 2)))))), ?_⟩
  walk_at "rd"
  refine ⟨⟨_, SqL.of hc⟩, fun D hD => ?_⟩
  refine comp_list (a := c) (xs := xs) (fun j zs σ H2 => ∃ (w8 w9 w11 w12 : Option V), σ = [some (.ref c), some (.ref b), none, none, none, none, none, none, none, w8, w9, w11, w12] ∧ Same H H2 ∧ H2 D = some (.lst zs) ∧ Paired (Lan.LaneAt H D H2) zs ((lanes0 rs).take j) ∧ zs.Nodup)
    ?_ ?_ ?_ ?_
  · exact ⟨none, none, none, none, rfl, same_new hD _, upd_same, .nil, List.nodup_nil⟩
  · rintro j zs σ H2 hj ⟨_, _, _, _, _, hs, _⟩
    exact hs.seq (SqL.of hc)
  · rintro j y zs σ H2 hy hjl ⟨w8, w9, w11, w12, rfl, hs2, hh2, hz2, hzn⟩
    obtain ⟨r, hrj, t, rfl, ht⟩ := Cs.pd_get hpd hy
    have hrb := hrn r (List.mem_of_getElem? hrj)
    have hzl := Paired.length hz2
    rw [List.length_take] at hzl
    refine ⟨_, _, rfl, SqT.of (hs2 _ _ ht), rfl, ?_⟩
    walk_at "tg"
    walk_at "tg"
    walk_at "tg"
    walk_at "tg"
    try refine And.intro rfl ?_
    walk_at "rd"
    intro pt hpt
    have hs3 := same_new hpt (.tup [.str r.s, .int r.t])
    have h3t : upd H2 pt (.tup [.str r.s, .int r.t]) pt = some (.tup [.str r.s, .int r.t]) := upd_same
    generalize upd H2 pt (.tup [.str r.s, .int r.t]) = H3 at hs3 h3t ⊢
    walk_at "rd"
    intro p1 hp1
    have hs4 := same_new hp1 (.lst [.ref pt])
    have h41 : upd H3 p1 (.lst [.ref pt]) p1 = some (.lst [.ref pt]) := upd_same
    generalize upd H3 p1 (.lst [.ref pt]) = H4 at hs4 h41 ⊢
    walk_at "rd"
    refine ⟨p1, _, _, rfl, rfl, h41, by omega, by omega, smallL (by show 1 * r.n.toNat ≤ _; omega), fun p2 hp2 => ?_⟩
    have efl : (List.replicate r.n.toNat [V.ref pt]).flatten = List.replicate r.n.toNat (V.ref pt) := by
      generalize r.n.toNat = n
      induction n with
      | zero => rfl
      | succ n ih => rw [List.replicate_succ, List.flatten_cons, ih]; rfl
    rw [efl]
    have hs5 := same_new hp2 (.lst (List.replicate r.n.toNat (V.ref pt)))
    have h52 : upd H4 p2 (.lst (List.replicate r.n.toNat (V.ref pt))) p2 = some (.lst (List.replicate r.n.toNat (V.ref pt))) := upd_same
    generalize upd H4 p2 (.lst (List.replicate r.n.toNat (V.ref pt))) = H5 at hs5 h52 ⊢
    have hs25 := hs3.trans (hs4.trans hs5)
    have hh5 := hs25 _ _ hh2
    have hpD : p2 ≠ D := fun e => by rw [e, (hs3.trans hs4) _ _ hh2] at hp2; cases hp2
    have hp20 : H2 p2 = none := hs3.free (hs4.free hp2)
    refine cnext hjl hh5 (by omega) ⟨_, _, _, _, rfl, same_upd (hs2.trans hs25) hD, upd_same, ?_, ?_⟩
    · have e0 : (lanes0 rs)[j]? = some (List.replicate r.n.toNat (r.s, r.t)) := by
        unfold lanes0
        rw [List.getElem?_map, hrj]
        rfl
      rw [List.take_add_one, e0]
      refine Paired.snoc (Lan.lanes_no (Lan.lanes_same hz2 hs25) hh5) ⟨p2, _, rfl, hpD, hs2.free hp20, by rw [upd_ne hpD]; exact h52, Lan.mats_upd (Lan.mats_rep ⟨pt, rfl, (hs4.trans hs5) _ _ h3t⟩ _) hh5⟩
    · rw [List.nodup_append]
      refine ⟨hzn, by simp, fun x hx y hy => ?_⟩
      rw [List.mem_singleton.mp hy]
      exact fun e => Lan.lanes_new hz2 hp20 (e ▸ hx)
  · rintro zs σ H2 ⟨w8, w9, w11, w12, rfl, hs2, hh2, hz2, hzn⟩
    rw [hxl, List.take_of_length_le (by unfold lanes0; rw [List.length_map]; exact Nat.le_refl _)] at hz2
    walk_at "rd"
    intro p1 hp1
    have hs3a := same_new hp1 (.lst [V.int 0])
    have h31 : upd H2 p1 (.lst [V.int 0]) p1 = some (.lst [V.int 0]) := upd_same
    generalize upd H2 p1 (.lst [V.int 0]) = H3a at hs3a h31 ⊢
    refine ⟨_, rfl, ?_⟩
    refine ⟨c, _, rfl, .inl (SqL.of ((hs2.trans hs3a) _ _ hc)), ?_⟩
    refine ⟨p1, _, _, rfl, rfl, h31, by omega, by omega, smallL (by show 1 * _ ≤ _; omega), fun ph hph' => ?_⟩
    have efl : (List.replicate ((xs.length : Nat) : Int).toNat [V.int 0]).flatten = (List.replicate rs.length (0 : Int)).map V.int := by
      rw [Int.toNat_natCast, hxl]
      generalize rs.length = n
      induction n with
      | zero => rfl
      | succ n ih => rw [List.replicate_succ, List.flatten_cons, ih, List.replicate_succ]; rfl
    rw [efl]
    have hph : H2 ph = none := hs3a.free hph'
    have hs3 := hs3a.trans (same_new hph' (.lst ((List.replicate rs.length (0 : Int)).map V.int)))
    have h3h : upd H3a ph (.lst ((List.replicate rs.length (0 : Int)).map V.int)) ph = some (.lst ((List.replicate rs.length (0 : Int)).map V.int)) := upd_same
    generalize upd H3a ph (.lst ((List.replicate rs.length (0 : Int)).map V.int)) = H3 at hs3 h3h ⊢
    have hphz : V.ref ph ∉ zs := Lan.lanes_new hz2 hph
    have hphD : ph ≠ D := fun e => by rw [e, hh2] at hph; cases hph
    have hph0 : H ph = none := hs2.free hph
    have hb3 := (hs2.trans hs3) _ _ hb
    refine ⟨_, rfl, ?_⟩
    refine ⟨b, rfl, ⟨_, SqL.of hb3⟩, ?_⟩
    refine for_enum (a := b) (xs := bv) (fun i σ H4 => ∃ (ls : List (List Lan.Mx)) (ah us : List Int) (v4 v5 v6 v7 v8 : Option V), σ = [some (.ref c), some (.ref b), some (.ref D), some (.ref ph), v4, v5, v6, v7, v8] ∧ Same H H4 ∧ H4 D = some (.lst zs) ∧ Paired (Lan.LaneAt H D H4) zs ls ∧ H4 ph = some (.lst (us.map V.int)) ∧ after rs bs i = some (ls, ah) ∧ us.length = rs.length ∧ (∀ (k : Nat) z, us[k]? = some z → z = (ah.count (k : Int) : Int)) ∧ (∀ (k : Nat) m r, ls[k]? = some m → rs[k]? = some r → m.length = r.n.toNat) ∧ (∀ (k : Nat) r, rs[k]? = some r → (ah.count (k : Int) : Int) ≤ r.n))
      ⟨lanes0 rs, [], List.replicate rs.length 0, none, none, none, none, none, rfl, hs2.trans hs3, hs3 _ _ hh2, Lan.lanes_same hz2 hs3, h3h, after_zero rs bs, List.length_replicate, ?_, ?_, ?_⟩ (fun i σ H4 _ ⟨_, _, _, _, _, _, _, _, _, hs, _⟩ => hs.seq (SqL.of hb)) ?_ ?_
    · intro k z hz
      have := List.eq_of_mem_replicate (List.mem_of_getElem? hz)
      rw [this]
      rfl
    · intro k m r hm hr
      unfold lanes0 at hm
      rw [List.getElem?_map, hr] at hm
      have hm : List.replicate r.n.toNat (r.s, r.t) = m := Option.some.inj hm
      rw [← hm, List.length_replicate]
    · intro k r hr
      have := hrn r (List.mem_of_getElem? hr)
      show (0 : Int) ≤ r.n
      omega
    · rintro i y te σ H4 hy ⟨ls, ah, us, v4, v5, v6, v7, v8, rfl, hs4, hD4, hz4, hp4, haf, hul, huc, hlen, hcn⟩ hte
      obtain ⟨bb, hbi, tp, rfl, htp⟩ := Cs.pd_get hbd hy
      have hsA := same_new hte (.tup [.int i, .ref tp])
      have hAt : upd H4 te (.tup [.int i, .ref tp]) te = some (.tup [.int i, .ref tp]) := upd_same
      generalize upd H4 te (.tup [.int i, .ref tp]) = H5 at hsA hAt ⊢
      have hs05 := hs4.trans hsA
      refine ⟨_, _, rfl, SqT.of hAt, rfl, ?_⟩
      walk_at "tg"
      walk_at "tg"
      try refine And.intro rfl ?_
      refine ⟨_, rfl, ?_⟩
      refine ⟨_, _, rfl, SqT.of (hs05 _ _ htp), rfl, ?_⟩
      walk_at "tg"
      walk_at "tg"
      try refine And.intro rfl ?_
      have hbad : canBreak rs ah bb.1 bb.2 = false → Q (.int (i : Int)) H5 := fun e => qx H5 i hs05 (.bad haf hbi e)
      refine ⟨_, rfl, ?_⟩
      refine ⟨_, _, rfl, rfl, ?_⟩
      refine ⟨_, rfl, ?_⟩
      refine ite2 (fun c1 => ?_) (fun c1 => ?_)
      rotate_left
      · have c1 : ¬ 0 ≤ bb.1 := fun z => c1 (decide_eq_true z)
        try refine ⟨_, rfl, ?_⟩
        try refine iteT ?_
        try refine iteT ?_
        exact ⟨_, rfl, hbad (by unfold canBreak; rw [if_neg (fun z => c1 z.1)])⟩
      have c1 : 0 ≤ bb.1 := of_decide_eq_true c1
      refine ⟨_, rfl, ?_⟩
      refine ⟨c, _, rfl, .inl (SqL.of (hs05 _ _ hc)), ?_⟩
      refine ⟨_, _, rfl, rfl, ?_⟩
      refine ⟨_, rfl, ?_⟩
      by_cases c2 : bb.1 < (xs.length : Int)
      rotate_left
      · rw [decide_eq_false c2]
        try refine iteT ?_
        try refine iteT ?_
        exact ⟨_, rfl, hbad (by unfold canBreak; rw [if_neg (fun z => c2 (by have := z.2; omega))])⟩
      rw [decide_eq_true c2]
      refine iteF ?_
      obtain ⟨k, hk1⟩ := Int.eq_ofNat_of_zero_le c1
      have hkl : k < rs.length := by omega
      have hrk : rs[k]? = some rs[k] := List.getElem?_eq_getElem hkl
      generalize rs[k] = r at hrk
      have hxk : xs[k]? = some (xs[k]'(by omega)) := List.getElem?_eq_getElem _
      obtain ⟨r', hrk', t, et, ht⟩ := Cs.pd_get hpd hxk
      rw [hrk] at hrk'
      cases hrk'
      rw [et] at hxk
      have EK : ∀ _ : Unit, atI xs (k : Int) = some (.ref t) := fun _ => atI_nat hxk
      have huk : us[k]? = some (us[k]'(by omega)) := List.getElem?_eq_getElem _
      have huv := huc k _ huk
      rw [huv] at huk
      have EU : ∀ _ : Unit, atI (us.map V.int) (k : Int) = some (.int (ah.count (k : Int) : Int)) := fun _ => atI_nat (by rw [List.getElem?_map, huk]; rfl)
      have eB : canBreak rs ah (k : Int) bb.2 = (decide ((ah.count (k : Int) : Int) < r.n) && decide (1 ≤ bb.2) && decide (Builtin.bitAnd r.t bb.2 = bb.2)) := by
        unfold canBreak
        rw [if_pos ⟨by omega, by omega⟩, Int.toNat_natCast, hrk]
      have hcnk := hcn k r hrk
      rw [hk1] at hbad ⊢
      rw [eB] at hbad
      refine ⟨_, rfl, ?_⟩
      refine ⟨_, rfl, ?_⟩
      refine ⟨ph, _, _, _, rfl, rfl, SqL.of (hsA _ _ hp4), EU (), ?_⟩
      refine ⟨_, rfl, ?_⟩
      refine ⟨_, rfl, ?_⟩
      refine ⟨c, _, _, _, rfl, rfl, SqL.of (hs05 _ _ hc), EK (), ?_⟩
      refine ⟨t, _, _, _, rfl, rfl, SqT.of (hs05 _ _ ht), rfl, ?_⟩
      refine And.intro rfl ?_
      refine ⟨_, rfl, ?_⟩
      refine ite2 (fun c3 => ?_) (fun c3 => ?_)
      · have c3 : V.int (ah.count (k : Int) : Int) = V.int r.n := of_decide_eq_true c3
        have c3 : (ah.count (k : Int) : Int) = r.n := V.int.inj c3
        try refine iteT ?_
        exact ⟨_, rfl, hbad (by rw [decide_eq_false (by omega)]; rfl)⟩
      have c3 : (ah.count (k : Int) : Int) < r.n := by
        have : ¬ (ah.count (k : Int) : Int) = r.n := fun z => c3 (decide_eq_true (congrArg V.int z))
        omega
      rw [decide_eq_true c3] at hbad
      refine ⟨_, rfl, ?_⟩
      refine ⟨_, rfl, ?_⟩
      refine ⟨c, _, _, _, rfl, rfl, SqL.of (hs05 _ _ hc), EK (), ?_⟩
      refine ⟨t, _, _, _, rfl, rfl, SqT.of (hs05 _ _ ht), rfl, ?_⟩
      refine ⟨_, rfl, ?_⟩
      refine ⟨_, _, rfl, rfl, ?_⟩
      refine ⟨_, rfl, ?_⟩
      refine ite2 (fun c4 => ?_) (fun c4 => ?_)
      · have c4 : bb.2 < 1 := of_decide_eq_true c4
        try refine iteT ?_
        exact ⟨_, rfl, hbad (by rw [decide_eq_false (show ¬ 1 ≤ bb.2 by omega)]; rfl)⟩
      have c4 : 1 ≤ bb.2 := by
        have : ¬ bb.2 < 1 := fun z => c4 (decide_eq_true z)
        omega
      rw [decide_eq_true c4] at hbad
      have hcomm : Builtin.bitAnd bb.2 r.t = Builtin.bitAnd r.t bb.2 := and_comm' (by omega) (hrt r (List.mem_of_getElem? hrk))
      refine ⟨_, rfl, ?_⟩
      refine ⟨_, rfl, ?_⟩
      refine ⟨_, _, rfl, rfl, ?_⟩
      refine ⟨_, rfl, ?_⟩
      refine And.intro rfl ?_
      refine ⟨_, rfl, ?_⟩
      by_cases c5 : Builtin.bitAnd r.t bb.2 = bb.2
      rotate_left
      · refine ite2 (fun _ => ?_) (fun z => absurd (show (!decide (V.int (Builtin.bitAnd bb.2 r.t) = V.int bb.2)) = true by rw [decide_eq_false (fun e => c5 (by rw [← hcomm]; exact V.int.inj e))]; rfl) z)
        try refine iteT ?_
        exact ⟨_, rfl, hbad (by rw [decide_eq_false c5]; rfl)⟩
      refine ite2 (fun z => absurd z (by show ¬ (!decide (V.int (Builtin.bitAnd bb.2 r.t) = V.int bb.2)) = true; rw [hcomm, c5, decide_eq_true rfl]; decide)) (fun _ => ?_)
      have hcb : canBreak rs ah bb.1 bb.2 = true := by
        rw [hk1, eB, decide_eq_true c3, decide_eq_true c4, decide_eq_true c5]
        rfl
      have hzl := Paired.length hz4
      obtain ⟨hzk, m, hmk⟩ : k < zs.length ∧ ∃ m, ls[k]? = some m := by
        have h1 : (lanes0 rs).length = rs.length := List.length_map _
        have h2 := Paired.length hz2
        exact ⟨by omega, ls[k]'(by omega), List.getElem?_eq_getElem _⟩
      have hzk' : zs[k]? = some zs[k] := List.getElem?_eq_getElem hzk
      obtain ⟨m', hmk', p, ms0, ep, hpD, hp0, hp4', hpm⟩ := Cs.pd_get hz4 hzk'
      rw [hmk] at hmk'
      cases hmk'
      rw [ep] at hzk'
      have EZ : ∀ _ : Unit, atI zs (k : Int) = some (.ref p) := fun _ => atI_nat hzk'
      have hml := hlen k m r hmk hrk
      have hmsl := Paired.length hpm
      have hpph : p ≠ ph := fun e => hphz (by rw [← e]; exact List.mem_of_getElem? hzk')
      have hD6 := hsA _ _ hD4
      have hph6 := hsA _ _ hp4
      have hp6 := hsA _ _ hp4'
      have hz6 := Lan.lanes_same hz4 hsA
      have hpm6 := Lan.mats_same hpm hsA
      refine ⟨_, rfl, ?_⟩
      refine ⟨_, rfl, ?_⟩
      refine ⟨c, _, _, _, rfl, rfl, SqL.of (hs05 _ _ hc), EK (), ?_⟩
      refine ⟨t, _, _, _, rfl, rfl, SqT.of (hs05 _ _ ht), rfl, ?_⟩
      refine ⟨_, rfl, ?_⟩
      refine ⟨_, rfl, ?_⟩
      refine ⟨_, _, rfl, rfl, ?_⟩
      walk_at "rd"
      intro tn htn
      have hs67 := same_new htn (HO.tup [V.str r.s, (fun i j : Int => V.int (i - j)) r.t bb.2])
      have h7n : upd H5 tn (HO.tup [V.str r.s, (fun i j : Int => V.int (i - j)) r.t bb.2]) tn = some (.tup [.str r.s, .int (r.t - bb.2)]) := upd_same
      generalize upd H5 tn (HO.tup [V.str r.s, (fun i j : Int => V.int (i - j)) r.t bb.2]) = H7 at hs67 h7n ⊢
      have hs07 := hs05.trans hs67
      have hD7 := hs67 _ _ hD6
      have hph7 := hs67 _ _ hph6
      have hp7 := hs67 _ _ hp6
      have hz7 := Lan.lanes_same hz6 hs67
      have hpm7 := Lan.mats_same hpm6 hs67
      have hcnt' : ah.count (k : Int) < ms0.length := by omega
      refine ⟨_, rfl, ?_⟩
      refine ⟨_, rfl, ?_⟩
      refine ⟨D, _, _, _, rfl, rfl, SqL.of hD7, EZ (), ?_⟩
      refine ⟨_, rfl, ?_⟩
      refine ⟨_, rfl, ?_⟩
      refine ⟨ph, _, _, _, rfl, rfl, SqL.of hph7, EU (), ?_⟩
      refine ⟨p, ms0, _, ah.count (k : Int), rfl, rfl, hp7, ix_in hcnt', ?_⟩
      have hm8 : Paired (Lan.MatAt (upd H7 p (.lst (ms0.set (ah.count (k : Int)) (.ref tn))))) (ms0.set (ah.count (k : Int)) (.ref tn)) (m.set (ah.count (k : Int)) (r.s, r.t - bb.2)) := Lan.pd_set ⟨tn, rfl, by rw [upd_ne (ne_of h7n hp7 (fun q => by cases q))]; exact h7n⟩ _ (Lan.mats_upd hpm7 hp7)
      have hz8 := Lan.lanes_set k hz7 hzn hzk' hp7 hm8 hpD hp0
      have hs08 : Same H (upd H7 p (.lst (ms0.set (ah.count (k : Int)) (.ref tn)))) := same_upd hs07 hp0
      have hD8 : upd H7 p (.lst (ms0.set (ah.count (k : Int)) (.ref tn))) D = some (.lst zs) := by rw [upd_ne (Ne.symm hpD)]; exact hD7
      have hph8 : upd H7 p (.lst (ms0.set (ah.count (k : Int)) (.ref tn))) ph = some (.lst (us.map V.int)) := by rw [upd_ne (Ne.symm hpph)]; exact hph7
      generalize upd H7 p (.lst (ms0.set (ah.count (k : Int)) (.ref tn))) = H8 at hz8 hs08 hD8 hph8 ⊢
      refine ⟨_, rfl, ?_⟩
      refine ⟨_, rfl, ?_⟩
      refine ⟨ph, _, _, _, rfl, rfl, SqL.of hph8, EU (), ?_⟩
      refine ⟨_, _, rfl, rfl, ?_⟩
      refine ⟨_, rfl, ?_⟩
      refine ⟨_, rfl, ?_⟩
      refine ⟨ph, us.map V.int, _, k, rfl, rfl, hph8, ix_in (by rw [List.length_map]; omega), ?_⟩
      have hsl : setLane rs ls ah bb = ls.set k (m.set (ah.count (k : Int)) (r.s, r.t - bb.2)) := by
        unfold setLane
        rw [hk1, Int.toNat_natCast, hrk, hmk]
      have ecnt : ∀ j : Nat, (ah ++ [(k : Int)]).count (j : Int) = ah.count (j : Int) + (if k = j then 1 else 0) := fun j => by
        rw [List.count_append, List.count_singleton]
        congr 1
        by_cases e : k = j
        · subst e
          rw [if_pos rfl, if_pos (beq_self_eq_true _)]
        · rw [if_neg e, if_neg (fun z => e (by have := eq_of_beq z; omega))]
      refine ⟨ls.set k (m.set (ah.count (k : Int)) (r.s, r.t - bb.2)), ah ++ [(k : Int)], us.set k ((ah.count (k : Int) : Int) + 1), _, _, _, _, _, rfl, same_upd hs08 hph0, by rw [upd_ne (Ne.symm hphD)]; exact hD8, Lan.lanes_set.lanes_else hz8 hphz hph8, by rw [upd_same, List.map_set], ?_, by rw [List.length_set]; exact hul, ?_, ?_, ?_⟩
      · rw [after_succ hbi, haf]
        show (if canBreak rs ah bb.1 bb.2 = true then some (setLane rs ls ah bb, ah ++ [bb.1]) else none) = _
        rw [if_pos hcb, hsl, hk1]
      · intro j z hz
        rw [List.getElem?_set] at hz
        rw [ecnt j]
        split at hz
        · rename_i e
          subst e
          split at hz
          · have hz := Option.some.inj hz
            rw [← hz, if_pos rfl]
            rfl
          · cases hz
        · rename_i e
          rw [if_neg e]
          exact huc j z hz
      · intro k' m' r' hm' hr'
        rw [List.getElem?_set] at hm'
        split at hm'
        · rename_i e
          subst e
          split at hm'
          · have hm' := Option.some.inj hm'
            rw [← hm', List.length_set]
            exact hlen k m r' hmk hr'
          · cases hm'
        · exact hlen k' m' r' hm' hr'
      · intro j r' hr'
        rw [ecnt j]
        split
        · rename_i e
          subst e
          rw [hrk] at hr'
          cases hr'
          omega
        · exact hcn j r' hr'
    · rintro σ H4 ⟨ls, ah, us, v4, v5, v6, v7, v8, rfl, hs4, hD4, hz4, hp4, haf, hul, huc, hlen, hcn⟩
      rw [hbvl] at haf
      refine ⟨_, rfl, ?_⟩
      exact q D zs ls H4 hD hs4 hD4 hz4 hzn (.good haf)
theorem kit_light {K : PySem.W.Frag} {mg : Str → Option Value} {x : Str} {C B : Addr} {b : Bool} (d : CL K mg x B) (hself : PySem.W.mroIn K C (.ref C) = some true) (h : PySem.W.mroIn K C (.ref B) = some b) : PySem.W.kitOne K (.ref C) (.ref B) = some b :=
  d.kit h fun e => by
    subst e
    rw [hself] at h
    exact (Option.some.inj h).symm
theorem kit_full {K : PySem.W.Frag} {mg : Str → Option Value} {x qual fld : Str} {st : Stmt} {ps : List Str} {fd : FuncData} {C B f : Addr} {b : Bool} (d : CI K mg x qual st ps B f fd fld) (hself : PySem.W.mroIn K C (.ref C) = some true) (h : PySem.W.mroIn K C (.ref B) = some b) : PySem.W.kitOne K (.ref C) (.ref B) = some b :=
  kit_own d.cls d.q h fun e => by
    subst e
    rw [hself] at h
    exact (Option.some.inj h).symm
/-- what was told of broken matrices, at r -/
def ToldAt (H0 H : Hp) (r : Addr) : Sum Nat (List (List Lan.Mx)) → Prop
  | .inl k => H r = some (.lst [.str "refused", .int (k : Int)])
  | .inr ls => ∃ D zs, H r = some (.lst [.str "told", .ref D]) ∧ H0 D = none ∧ H D = some (.lst zs) ∧ Paired (Lan.LaneAt H0 D H) zs ls ∧ zs.Nodup
theorem ToldAt.same {H0 H H' : Hp} {r : Addr} {o : Sum Nat (List (List Lan.Mx))} (h : ToldAt H0 H r o) (s : Same H H') : ToldAt H0 H' r o := by
  cases o with
  | inl k => exact s _ _ h
  | inr ls =>
    obtain ⟨D, zs, h1, h2, h3, h4, h5⟩ := h
    exact ⟨D, zs, s _ _ h1, h2, s _ _ h3, Lan.lanes_same h4 s, h5⟩
def sp_law_told (K : PySem.W.Frag) : Sp := fun vs H Q _ => ∃ (c b : Addr) (xs bv : List V) (rs : List Cs.Row) (bs : List (Int × Int)), vs = [.ref c, .ref b] ∧ H c = some (.lst xs) ∧ Paired (Cs.RowAt H) xs rs ∧ rs.length ≤ 100 ∧ (∀ r ∈ rs, 0 ≤ r.n ∧ r.n ≤ 1000) ∧ H b = some (.lst bv) ∧ Paired (Two H) bv bs ∧ bs.length ≤ 1000 ∧
  ∀ (r : Addr) (o : Sum Nat (List (List Lan.Mx))) H', H r = none → Same H H' → Told40 rs bs o → ToldAt H H' r o → Q (.ref r) H'
theorem ok_law_told (T : Tx K mg a) : FnOk P w K mg base CX0 4 a.f_law_told a.d_law_told ["_law_case_here", "_law_broken"] (sp_law_told K) := by
  have G_channels_of := ok_channels_of (P := P) (w := w) (base := base) T
  refine T.law_told.fn.ok sc_law_told (fun vs H Q E h => ?_) (fun cdv A outer s H vs Q E hr h => ?_)
  · obtain ⟨c, b, xs, bv, rs, bs, rfl, _⟩ := h
    rfl
  obtain ⟨c, b, xs, bv, rs, bs, rfl, hc, hpd, hrl, hrn, hb, hbd, hbl, q⟩ := h
  refine ⟨_, (pss_cons (ps_cut (ps_try rfl (fun _ _ => (pss_one (ps_set (i := 2) sc_law_told.nd rfl (Or.inl rfl) (pcallX T.channels_of G_channels_of hr rfl rfl (pa_cons (pv 0) (pa_cons (pv 1) pa_nil)))))) (fun _ => (kph_cons K rfl (i := 3) rfl T.cl_CasterError.mg T.cl_CasterError.cls sc_law_told.nd rfl rfl (fun _ => (pss_cons (ps_if (PW.pt (pw_or (pt_not (pt_val (pe_callB (kcall_isX (K := K) rfl) rfl T.b_isinstance bt_isinstance (pa_cons (pv 3) (pa_cons (pe_glob (v := .ref a.c_NoCase) rfl T.cl_NoCase.mg rfl) pa_nil))))) (pw_or (pt_not (pt_val (pe_callB (kcall_isX (K := K) rfl) rfl T.b_isinstance bt_isinstance (pa_cons (pv 3) (pa_cons (pe_bltn (v := .ty "ValueError") rfl T.b_ValueError bt_ValueError rfl) pa_nil))))) (pw_or1 (pt_val (pe_callB (kcall_isX (K := K) rfl) rfl T.b_isinstance bt_isinstance (pa_cons (pv 3) (pa_cons (pe_glob (v := .ref a.c_NoKeys) rfl T.cl_NoKeys.mg rfl) pa_nil)))))))) (pss_one (ps_ret (pe_lst (pa_cons pe_str (pa_cons pe_non pa_nil))))) pss_nil)
      (pss_one (ps_ret (pe_lst (pa_cons pe_str (pa_cons (kpe_xg (K := K) rfl (pv 3)) pa_nil))))))) ph_nil))))
      (pss_one (ps_ret (pe_lst (pa_cons pe_str (pa_cons (pv 2) pa_nil)))))), ?_⟩
  refine ⟨fun σ H2 => ∃ (D : Addr) (zs : List V) (ls : List (List Lan.Mx)) (v3 : Option V), σ = [some (.ref c), some (.ref b), some (.ref D), v3] ∧ Same H H2 ∧ H D = none ∧ H2 D = some (.lst zs) ∧ Paired (Lan.LaneAt H D H2) zs ls ∧ zs.Nodup ∧ Told40 rs bs (.inr ls), ?_, ?_⟩
  · walk_at "rd"
    refine ⟨c, b, xs, bv, rs, bs, rfl, hc, hpd, hrl, hrn, hb, hbd, hbl, fun H3 dx k hs3 hdx hlk => ?_, fun D zs ls H3 hD hs3 hD3 hz3 hzn hlk => ?_⟩
    · refine ⟨a.c_NoCase, some a.f_init_NoCase, true, rfl, T.cl_NoCase.cls, T.m_NoCase_CasterError, iteT ?_⟩
      intro e he0
      have hde : dx ≠ e := fun z => by rw [← z, upd_same] at he0; cases he0
      have he1 : upd (upd H3 dx (.xd [("at", .int (k : Int))])) e (XE e a.c_NoCase (some dx)) e = some (XE e a.c_NoCase (some dx)) := upd_same
      have hd1 : upd (upd H3 dx (.xd [("at", .int (k : Int))])) e (XE e a.c_NoCase (some dx)) dx = some (.xd [("at", .int (k : Int))]) := by rw [upd_ne hde, upd_same]
      have hs4 : Same H (upd (upd H3 dx (.xd [("at", .int (k : Int))])) e (XE e a.c_NoCase (some dx))) := same_add (same_add hs3 hdx) he0
      generalize upd (upd H3 dx (.xd [("at", .int (k : Int))])) e (XE e a.c_NoCase (some dx)) = H4 at he1 hd1 hs4 ⊢
      have hg := T.cl_NoCase.q.g
      have hself := T.m_NoCase_NoCase
      have ask : ∀ a0, some dx = some a0 → ∃ fs, H4 a0 = some (.xd fs) := fun a0 z => by cases z; exact ⟨_, hd1⟩
      walk_at "rd"
      refine ⟨e, a.c_NoCase, some dx, _, _, true, rfl, he1, ask, hg, rfl, kit_full T.cl_NoCase hself hself, ?_⟩
      refine ⟨_, rfl, ?_⟩
      refine iteF ?_
      walk_at "rd"
      refine ⟨e, a.c_NoCase, some dx, _, _, true, rfl, he1, ask, hg, rfl, kit_value T.cl_NoCase.q, ?_⟩
      refine ⟨_, rfl, ?_⟩
      refine iteF ?_
      walk_at "rd"
      refine ⟨e, a.c_NoCase, some dx, _, _, false, rfl, he1, ask, hg, rfl, kit_light T.cl_NoKeys hself T.m_NoCase_NoKeys, ?_⟩
      refine ⟨_, rfl, ?_⟩
      refine iteF ?_
      walk_at "rd"
      refine ⟨e, a.c_NoCase, dx, _, _, rfl, he1, hd1, hg, (T.cl_NoCase).xf.no, rfl, ?_⟩
      walk_at "rd"
      intro r hr0
      exact q r (.inl k) _ (hs4.free hr0) (same_add hs4 hr0) hlk upd_same
    · walk_at "rd"
      first | exact ⟨D, zs, ls, _, rfl, hs3, hD, hD3, hz3, hzn, hlk⟩ | exact ⟨D, zs, ls, none, rfl, hs3, hD, hD3, hz3, hzn, hlk⟩
  · rintro σ H2 ⟨D, zs, ls, v3, rfl, hs2, hD, hD2, hz2, hzn, hlk⟩
    walk_at "rd"
    intro r hr0
    have hs3 := same_new hr0 (.lst [.str "told", .ref D])
    exact q r (.inr ls) _ (hs2.free hr0) (hs2.trans hs3) hlk ⟨D, zs, upd_same, hD, hs3 _ _ hD2, Lan.lanes_same hz2 hs3, hzn⟩
theorem kit_il {K : PySem.W.Frag} : PySem.W.kitOne K (.type "int") (.type "list") = some false := by rfl
theorem kit_lb {K : PySem.W.Frag} : PySem.W.kitOne K (.type "list") (.type "bool") = some false := by rfl
def mxD (m : Lan.Mx) : PyData := .tuple [.str m.1, .int m.2]
def laneD (ms : List Lan.Mx) : PyData := .list (ms.map mxD)
theorem denL_mats {K : PySem.W.Frag} {H : Hp} : ∀ {xs : List V} {ms : List Lan.Mx}, Paired (Lan.MatAt H) xs ms → (∀ m ∈ ms, PyData.canLay0 (.str m.1) = true) → DenL K H xs (ms.map mxD)
  | _, _, .nil, _ => .nil
  | _, _, .cons ⟨t, e, h⟩ r, c => by
    subst e
    exact .cons (.tup (SqT.of h) (.cons (.str _ (c _ List.mem_cons_self)) (.cons (.int _) .nil))) (denL_mats r fun x hx => c x (List.mem_cons_of_mem _ hx))
theorem denL_lanes {K : PySem.W.Frag} {H0 H : Hp} {no : Addr} : ∀ {zs : List V} {ls : List (List Lan.Mx)}, Paired (Lan.LaneAt H0 no H) zs ls → (∀ l ∈ ls, ∀ m ∈ l, PyData.canLay0 (.str m.1) = true) → DenL K H zs (ls.map laneD)
  | _, _, .nil, _ => .nil
  | _, _, .cons ⟨p, xs, e, _, _, h, hm⟩ r, c => by
    subst e
    exact .cons (.lst (SqL.of h) (denL_mats hm (c _ List.mem_cons_self))) (denL_lanes r fun x hx => c x (List.mem_cons_of_mem _ hx))
theorem nb_mats : ∀ ms : List Lan.Mx, nbL (ms.map mxD) = true
  | [] => rfl
  | m :: ms => by
    show (nb (mxD m) && nbL (ms.map mxD)) = true
    rw [nb_mats ms]
    rfl
theorem nb_lanes : ∀ ls : List (List Lan.Mx), nbL (ls.map laneD) = true
  | [] => rfl
  | l :: ls => by
    show (nbL (l.map mxD) && nbL (ls.map laneD)) = true
    rw [nb_mats l, nb_lanes ls]
    rfl
theorem depth_mats : ∀ ms : List Lan.Mx, PyData.depthAll (ms.map mxD) ≤ 1
  | [] => Nat.zero_le _
  | m :: ms => by
    show max (mxD m).depth (PyData.depthAll (ms.map mxD)) ≤ 1
    have h1 : (mxD m).depth = 1 := rfl
    have := depth_mats ms
    omega
theorem depth_lanes : ∀ ls : List (List Lan.Mx), PyData.depthAll (ls.map laneD) ≤ 2
  | [] => Nat.zero_le _
  | l :: ls => by
    show max (laneD l).depth (PyData.depthAll (ls.map laneD)) ≤ 2
    have h1 : (laneD l).depth = PyData.depthAll (l.map mxD) + 1 := rfl
    have h2 := depth_mats l
    have := depth_lanes ls
    omega
/-- what was told, as a datum -/
def toldD : Sum Nat (List (List Lan.Mx)) → PyData
  | .inl k => .list [.str "refused", .int (k : Int)]
  | .inr ls => .list [.str "told", .list (ls.map laneD)]
theorem toldD_nb (o : Sum Nat (List (List Lan.Mx))) : nb (toldD o) = true := by
  cases o with
  | inl k => rfl
  | inr ls =>
    show (nb (.str "told") && (nbL (ls.map laneD) && true)) = true
    rw [nb_lanes ls]
    rfl
theorem toldD_depth (o : Sum Nat (List (List Lan.Mx))) (e : PyData) : min (toldD o).depth e.depth ≤ 64 := by
  have : (toldD o).depth ≤ 4 := by
    cases o with
    | inl k => show 1 ≤ 4; decide
    | inr ls =>
      have h1 : (toldD (.inr ls)).depth = max 0 (max (PyData.depthAll (ls.map laneD) + 1) 0) + 1 := rfl
      have := depth_lanes ls
      omega
  omega
/-- the signs in the lanes are the rows' -/
def SgOf (rs : List Cs.Row) (ls : List (List Lan.Mx)) : Prop := ∀ l ∈ ls, ∀ m ∈ l, ∃ r ∈ rs, m.1 = r.s
theorem sg_after {rs : List Cs.Row} {bs : List (Int × Int)} : ∀ k, k ≤ bs.length → ∀ ls ah, after rs bs k = some (ls, ah) → SgOf rs ls
  | 0, _, ls, ah, h => by
    rw [after_zero] at h
    cases h
    intro l hl m hm
    obtain ⟨r, hr, rfl⟩ := List.mem_map.mp hl
    exact ⟨r, hr, by rw [List.eq_of_mem_replicate hm]⟩
  | k + 1, hk, ls, ah, h => by
    have hb : bs[k]? = some (bs[k]'(by omega)) := List.getElem?_eq_getElem _
    rw [after_succ hb] at h
    cases ha : after rs bs k with
    | none => rw [ha] at h; cases h
    | some s =>
      obtain ⟨ls0, ah0⟩ := s
      have ih := sg_after k (by omega) ls0 ah0 ha
      rw [ha] at h
      generalize bs[k]'(by omega) = b at h
      have h : (if canBreak rs ah0 b.1 b.2 = true then some (setLane rs ls0 ah0 b, ah0 ++ [b.1]) else none) = some (ls, ah) := h
      split at h
      · have h1 := congrArg Prod.fst (Option.some.inj h)
        have h1 : setLane rs ls0 ah0 b = ls := h1
        rw [← h1]
        unfold setLane
        split
        · rename_i r m hr hm
          intro l hl x hx
          rcases List.mem_or_eq_of_mem_set hl with hl | hl
          · exact ih l hl x hx
          · rw [hl] at hx
            rcases List.mem_or_eq_of_mem_set hx with hx | hx
            · exact ih m (List.mem_of_getElem? hm) x hx
            · exact ⟨r, List.mem_of_getElem? hr, by rw [hx]⟩
        · exact ih
      · cases h
theorem Told40.sg {rs : List Cs.Row} {bs : List (Int × Int)} {ls : List (List Lan.Mx)} (h : Told40 rs bs (.inr ls)) : SgOf rs ls := by
  cases h with
  | good h => exact sg_after _ (Nat.le_refl _) _ _ h
theorem ToldAt.den {K : PySem.W.Frag} {H0 H : Hp} {r : Addr} {rs : List Cs.Row} {bs : List (Int × Int)} {o : Sum Nat (List (List Lan.Mx))} (h : ToldAt H0 H r o) (ho : Told40 rs bs o) (hl : ∀ x ∈ rs, PyData.canLay0 (.str x.s) = true) : Den K H (.ref r) (toldD o) := by
  cases o with
  | inl k => exact .lst (SqL.of h) (.cons (.str _ (by decide +kernel)) (.cons (.int _) .nil))
  | inr ls =>
    obtain ⟨D, zs, h1, h2, h3, h4, h5⟩ := h
    refine .lst (SqL.of h1) (.cons (.str _ (by decide +kernel)) (.cons (.lst (SqL.of h3) (denL_lanes h4 fun l hl' m hm => ?_)) .nil))
    obtain ⟨x, hx, e⟩ := ho.sg l hl' m hm
    rw [e]
    exact hl x hx
def twoD (b : Int × Int) : PyData := .tuple [.int b.1, .int b.2]
theorem denL_twos {K : PySem.W.Frag} {H : Hp} : ∀ {xs : List V} {bs : List (Int × Int)}, Paired (Two H) xs bs → DenL K H xs (bs.map twoD)
  | _, _, .nil => .nil
  | _, _, .cons ⟨t, e, h⟩ r => by
    subst e
    exact .cons (.tup (SqT.of h) (.cons (.int _) (.cons (.int _) .nil))) (denL_twos r)
def bothD (rs : List Cs.Row) (bs : List (Int × Int)) : PyData := .list [Cs.dRows rs, .list (bs.map twoD)]
theorem nb_twos : ∀ bs : List (Int × Int), nbL (bs.map twoD) = true
  | [] => rfl
  | b :: bs => by
    show (nb (twoD b) && nbL (bs.map twoD)) = true
    rw [nb_twos bs]
    rfl
theorem depth_twos : ∀ bs : List (Int × Int), PyData.depthAll (bs.map twoD) ≤ 1
  | [] => Nat.zero_le _
  | b :: bs => by
    show max (twoD b).depth (PyData.depthAll (bs.map twoD)) ≤ 1
    have h1 : (twoD b).depth = 1 := rfl
    have := depth_twos bs
    omega
theorem bothD_nb (rs : List Cs.Row) (bs : List (Int × Int)) : nb (bothD rs bs) = true := by
  show (nbL (rs.map Cs.rowD) && (nbL (bs.map twoD) && true)) = true
  rw [Cs.nb_rows rs, nb_twos bs]
  rfl
theorem bothD_depth (rs : List Cs.Row) (bs : List (Int × Int)) (e : PyData) : min (bothD rs bs).depth e.depth ≤ 64 := by
  have h0 := Ln.depth_both rs [] (Ln.dBoth rs [])
  have q1 : (Ln.dBoth rs []).depth = max (Cs.dRows rs).depth (max (Ln.dWords []).depth 0) + 1 := rfl
  have q2 : (bothD rs bs).depth = max (Cs.dRows rs).depth (max (PyData.depthAll (bs.map twoD) + 1) 0) + 1 := rfl
  have := depth_twos bs
  have h64 : (Ln.dBoth rs []).depth ≤ 64 := by omega
  have w1 : (Ln.dWords []).depth = 1 := rfl
  omega
theorem both_den {K : PySem.W.Frag} {H : Hp} {a c b : Addr} {xs bv : List V} {rs : List Cs.Row} {bs : List (Int × Int)} (h : H a = some (.lst [.ref c, .ref b])) (hc : H c = some (.lst xs)) (hpd : Paired (Cs.RowAt H) xs rs) (hl : ∀ x ∈ rs, PyData.canLay0 (.str x.s) = true) (hb : H b = some (.lst bv)) (hbd : Paired (Two H) bv bs) : Den K H (.ref a) (bothD rs bs) :=
  .lst (SqL.of h) (.cons (.lst (SqL.of hc) (Cs.denL_rows hpd hl)) (.cons (.lst (SqL.of hb) (denL_twos hbd)) .nil))
theorem after_lens {rs : List Cs.Row} {bs : List (Int × Int)} : ∀ k, k ≤ bs.length → ∀ ls ah, after rs bs k = some (ls, ah) → ls.map List.length = rs.map fun r => r.n.toNat
  | 0, _, ls, ah, h => by
    rw [after_zero] at h
    cases h
    unfold lanes0
    rw [List.map_map]
    congr 1
    funext r
    exact List.length_replicate
  | k + 1, hk, ls, ah, h => by
    have hb : bs[k]? = some (bs[k]'(by omega)) := List.getElem?_eq_getElem _
    rw [after_succ hb] at h
    cases ha : after rs bs k with
    | none => rw [ha] at h; cases h
    | some s =>
      obtain ⟨ls0, ah0⟩ := s
      have ih := after_lens k (by omega) ls0 ah0 ha
      rw [ha] at h
      generalize bs[k]'(by omega) = b at h
      have h : (if canBreak rs ah0 b.1 b.2 = true then some (setLane rs ls0 ah0 b, ah0 ++ [b.1]) else none) = some (ls, ah) := h
      split at h
      · have h1 := congrArg Prod.fst (Option.some.inj h)
        have h1 : setLane rs ls0 ah0 b = ls := h1
        rw [← h1, ← ih]
        unfold setLane
        split
        · rename_i r m hr hm
          apply List.ext_getElem?
          intro i
          rw [List.getElem?_map, List.getElem?_map, List.getElem?_set]
          split
          · rename_i e
            subst e
            split
            · rw [hm]
              show some (List.length _) = some (List.length m)
              rw [List.length_set]
            · rename_i hlt
              rw [List.getElem?_eq_none (by omega)]
          · rfl
        · rfl
      · cases h
theorem ls_len {rs : List Cs.Row} {bs : List (Int × Int)} {ls : List (List Lan.Mx)} {ah : List Int} (h : after rs bs bs.length = some (ls, ah)) (hr : rs.length ≤ 100) : ls.length ≤ 100 := by
  have := congrArg List.length (after_lens _ (Nat.le_refl _) _ _ h)
  rw [List.length_map, List.length_map] at this
  omega
theorem lane_len {rs : List Cs.Row} {bs : List (Int × Int)} {ls : List (List Lan.Mx)} {ah : List Int} {i : Nat} {m : List Lan.Mx} (h : after rs bs bs.length = some (ls, ah)) (hm : ls[i]? = some m) (hr : ∀ r ∈ rs, r.n ≤ 1000) : m.length ≤ 1000 := by
  have e := after_lens _ (Nat.le_refl _) _ _ h
  have h1 : m.length ∈ ls.map List.length := List.mem_map_of_mem (List.mem_of_getElem? hm)
  rw [e] at h1
  obtain ⟨r, hr', e2⟩ := List.mem_map.mp h1
  have := hr r hr'
  have e2 : r.n.toNat = m.length := e2
  omega
/-- rows and broken matrices, handed in -/
structure In40 (H : Hp) (c b : Addr) (xs bv : List V) (rs : List Cs.Row) (bs : List (Int × Int)) : Prop where
  cas : H c = some (.lst xs)
  row : Paired (Cs.RowAt H) xs rs
  few : rs.length ≤ 100
  mn : ∀ r ∈ rs, 0 ≤ r.n ∧ r.n ≤ 1000
  th : ∀ r ∈ rs, 0 ≤ r.t
  lay : ∀ r ∈ rs, PyData.canLay0 (.str r.s) = true
  brk : H b = some (.lst bv)
  two : Paired (Two H) bv bs
  fb : bs.length ≤ 1000
theorem In40.same {H H' : Hp} {c b : Addr} {xs bv : List V} {rs : List Cs.Row} {bs : List (Int × Int)} (h : In40 H c b xs bv rs bs) (s : Same H H') : In40 H' c b xs bv rs bs := ⟨s _ _ h.cas, Cs.rows_same h.row s, h.few, h.mn, h.th, h.lay, s _ _ h.brk, two_same h.two s, h.fb⟩
def OneAt (H0 H : Hp) (v : V) : Sum Nat (List (List Lan.Mx)) → Prop
  | .inl k => v = .int (k : Int)
  | .inr ls => ∃ D zs, v = .ref D ∧ H0 D = none ∧ H D = some (.lst zs) ∧ Paired (Lan.LaneAt H0 D H) zs ls ∧ zs.Nodup
def sp_law_right (K : PySem.W.Frag) : Sp := fun vs H Q _ => ∃ (c b : Addr) (xs bv : List V) (rs : List Cs.Row) (bs : List (Int × Int)), vs = [.ref c, .ref b] ∧ In40 H c b xs bv rs bs ∧ ∀ H', Same H H' → Q (.bl true) H'
theorem ok_law_right (T : Tx K mg a) : FnOk P w K mg base CX0 5 a.f_law_right a.d_law_right ["_law_case_here", "_law_broken"] (sp_law_right K) := by
  have G_law_due := ok_law_due (P := P) (w := w) (base := base) T
  have G_law_told := ok_law_told (P := P) (w := w) (base := base) T
  refine T.law_right.fn.ok sc_law_right (fun vs H Q E h => ?_) (fun cdv A outer s H vs Q E hr h => ?_)
  · obtain ⟨c, b, xs, bv, rs, bs, rfl, _⟩ := h
    rfl
  obtain ⟨c, b, xs, bv, rs, bs, rfl, I, q⟩ := h
  have hxl := Cs.rows_len I.row
  have hbl := Paired.length I.two
  have hfew := I.few
  have hfb := I.fb
  refine ⟨_, (pss_cons (ps_set (i := 2) sc_law_right.nd rfl (Or.inl rfl) (pe_lst (pa_cons (pe_callTy (klist_of K rfl) rfl T.b_list bt_list (pa_cons (pv 0) pa_nil)) (pa_cons (pe_callTy (klist_of K rfl) rfl T.b_list bt_list (pa_cons (pv 1) pa_nil)) pa_nil))))
      (pss_cons (ps_cut (ps_set (i := 3) sc_law_right.nd rfl (Or.inl rfl) (pcall T.law_due G_law_due hr rfl (pa_cons (pv 0) (pa_cons (pv 1) pa_nil)))))
      (pss_cons (ps_cut (ps_set (i := 4) sc_law_right.nd rfl (Or.inl rfl) (pe_lst (pa_cons (pe_ix (kix_list K rfl) (pe_lst (pa_cons pe_str (pa_cons pe_str pa_nil))) (pe_callTy call_int1 rfl T.b_int bt_int (pa_cons (pe_callB (kisinst K rfl) rfl T.b_isinstance bt_isinstance (pa_cons (pv 3) (pa_cons (pe_bltn (v := .ty "list") rfl T.b_list bt_list rfl) pa_nil))) pa_nil)) (fun _ _ => rfl)) (pa_cons (pv 3) pa_nil)))))
      (pss_cons (ps_set (i := 5) sc_law_right.nd rfl (Or.inl rfl) (pcall T.law_told G_law_told hr rfl (pa_cons (pe_ix (kix_list K rfl) (pv 2) pe_int (fun _ _ => rfl)) (pa_cons (pe_ix (kix_list K rfl) (pv 2) pe_int (fun _ _ => rfl)) pa_nil))))
      (pss_cons (ps_if (PW.pt (pw_or (pt_cmpR (kneD K rfl hr.units) (pv 5) (pv 4) (nomark _)) (pw_or (pt_val (pe_callB (kisinst K rfl) rfl T.b_isinstance bt_isinstance (pa_cons (pe_ix (kix_list K rfl) (pv 5) pe_int (fun _ _ => rfl)) (pa_cons (pe_bltn (v := .ty "bool") rfl T.b_bool bt_bool rfl) pa_nil)))) (pw_or1 (pt_cmpR (kneD K rfl hr.units) (pv 2) (pe_lst (pa_cons (pv 0) (pa_cons (pv 1) pa_nil))) (nomark _)))))) (pss_one (ps_ret pe_bl)) pss_nil)
      (pss_cons (ps_cut (ps_if (pt_val (pe_callB (kisinst K rfl) rfl T.b_isinstance bt_isinstance (pa_cons (pe_ix (kix_list K rfl) (pv 5) pe_int (fun _ _ => rfl)) (pa_cons (pe_bltn (v := .ty "list") rfl T.b_list bt_list rfl) pa_nil)))) (pss_cons (ps_for PassesOwn.never rfl (kpi_list K rfl (pe_ix (kix_list K rfl) (pv 5) pe_int (fun _ _ => rfl))) (pg_name (i := 6) sc_law_right.nd rfl (Or.inl rfl)) (pss_one (ps_expr (kpe_bm K rfl PySem.F.plainAttrs_list PySem.F.slot_list_append PySem.F.type_list_append mt_append (pv 6) (pa_cons pe_non pa_nil)))))
      (pss_one (ps_expr (kpe_bm0 K rfl PySem.F.plainAttrs_list PySem.F.slot_list_clear PySem.F.type_list_clear mt_clear (pe_ix (kix_list K rfl) (pv 5) pe_int (fun _ _ => rfl)))))) pss_nil))
      (pss_one (ps_ret (pe_cmpR (keqD K rfl hr.units) (pcall T.law_told G_law_told hr rfl (pa_cons (pv 0) (pa_cons (pv 1) pa_nil))) (pv 4) (nomark _)))))))))), ?_⟩
  walk_at "rd"
  refine ⟨_, _, rfl, .inl (SqL.of I.cas), fun p3 hp3 => ?_⟩
  walk_at "rd"
  refine ⟨_, _, rfl, .inl (SqL.of (same_new hp3 _ _ _ I.brk)), fun p4 hp4 => ?_⟩
  walk_at "rd"
  intro p5 hp5
  have hs5 : Same H (upd (upd (upd H p3 (.lst xs)) p4 (.lst bv)) p5 (.lst [.ref p3, .ref p4])) := same_add (same_add (same_new hp3 _) hp4) hp5
  have hq5 : (upd (upd (upd H p3 (.lst xs)) p4 (.lst bv)) p5 (.lst [.ref p3, .ref p4])) p5 = some (.lst [.ref p3, .ref p4]) := upd_same
  have hq3 : (upd (upd (upd H p3 (.lst xs)) p4 (.lst bv)) p5 (.lst [.ref p3, .ref p4])) p3 = some (.lst xs) := by walk_at "hk"
  have hq4 : (upd (upd (upd H p3 (.lst xs)) p4 (.lst bv)) p5 (.lst [.ref p3, .ref p4])) p4 = some (.lst bv) := by walk_at "hk"
  revert hs5 hq5 hq3 hq4
  generalize upd (upd (upd H p3 (.lst xs)) p4 (.lst bv)) p5 (.lst [.ref p3, .ref p4]) = H5
  intro hs5 hq5 hq3 hq4
  have I5 := I.same hs5
  have J5 : In40 H5 p3 p4 xs bv rs bs := ⟨hq3, I5.row, I.few, I.mn, I.th, I.lay, hq4, I5.two, I.fb⟩
  refine ⟨fun σ H6 => ∃ (o : Sum Nat (List (List Lan.Mx))) (v : V), σ = [some (.ref c), some (.ref b), some (.ref p5), some v, none, none, none] ∧ Same H5 H6 ∧ Told40 rs bs o ∧ OneAt H5 H6 v o, ?_, ?_⟩
  · walk_at "rd"
    refine ⟨c, b, xs, bv, rs, bs, rfl, I5.cas, I5.row, I5.few, I5.mn, I5.th, I5.brk, I5.two, I5.fb, fun H6 k hs6 hk => ?_, fun D zs ls H6 hD hs6 hD6 hz6 hzn hk => ?_⟩
    · exact ⟨.inl k, _, rfl, hs6, hk, rfl⟩
    · exact ⟨.inr ls, _, rfl, hs6, hk, D, zs, rfl, hD, hD6, hz6, hzn⟩
  rintro σ H6 ⟨o, v, rfl, hs6, ho, hv⟩
  refine ⟨fun σ H8 => ∃ pd : Addr, σ = [some (.ref c), some (.ref b), some (.ref p5), some v, some (.ref pd), none, none] ∧ Same H5 H8 ∧ ToldAt H5 H8 pd o, ?_, ?_⟩
  · walk_at "rd"
    intro p7 hp7
    have hs7 := same_new hp7 (.lst [.str "refused", .str "told"])
    have h77 : upd H6 p7 (.lst [.str "refused", .str "told"]) p7 = some (.lst [.str "refused", .str "told"]) := upd_same
    generalize upd H6 p7 (.lst [.str "refused", .str "told"]) = H7 at hs7 h77 ⊢
    have hs57 := hs6.trans hs7
    refine ⟨_, rfl, ?_⟩
    cases o with
    | inl k =>
      have hv : v = .int (k : Int) := hv
      subst hv
      refine ⟨_, _, _, false, rfl, .int _, kit_il, ?_⟩
      refine .inr ⟨false, rfl, ?_⟩
      refine ⟨p7, _, _, _, rfl, rfl, SqL.of h77, rfl, ?_⟩
      walk_at "rd"
      intro pd hpd
      exact ⟨pd, rfl, same_add hs57 hpd, upd_same⟩
    | inr ls =>
      obtain ⟨D, zs, rfl, hD, hD6, hz6, hzn⟩ := hv
      refine ⟨_, _, _, true, rfl, .lst (hs7 _ _ hD6), kit_ll, ?_⟩
      refine .inr ⟨true, rfl, ?_⟩
      refine ⟨p7, _, _, _, rfl, rfl, SqL.of h77, rfl, ?_⟩
      walk_at "rd"
      intro pd hpd
      have hs8 := same_new hpd (.lst [.str "told", .ref D])
      exact ⟨pd, rfl, same_add hs57 hpd, D, zs, upd_same, hD, (hs7.trans hs8) _ _ hD6, Lan.lanes_same hz6 (hs7.trans hs8), hzn⟩
  rintro σ H8 ⟨pd, rfl, hs8, hdue⟩
  have I8 := I5.same hs8
  have J8 := J5.same hs8
  have h85 := hs8 _ _ hq5
  refine ⟨_, rfl, ?_⟩
  refine ⟨p5, _, _, _, rfl, rfl, SqL.of h85, rfl, ?_⟩
  refine ⟨_, rfl, ?_⟩
  refine ⟨p5, _, _, _, rfl, rfl, SqL.of h85, rfl, ?_⟩
  refine ⟨p3, p4, xs, bv, rs, bs, rfl, J8.cas, J8.row, J8.few, J8.mn, J8.brk, J8.two, J8.fb, fun r o' H9 hr0 hs9 ho' hat => ?_⟩
  have eo := ho'.uniq ho
  subst eo
  have hs59 := hs8.trans hs9
  refine ⟨_, rfl, ?_⟩
  refine ⟨_, rfl, ?_⟩
  refine ⟨toldD o', toldD o', hat.den ho I.lay, (hdue.same hs9).den ho I.lay, toldD_depth _ _, ?_⟩
  rw [eqv_refl (toldD_nb o')]
  refine ⟨_, rfl, ?_⟩
  refine iteF ?_
  obtain ⟨s0, w0, ty, hr9, hty, hkb⟩ : ∃ s0 w0 ty, H9 r = some (.lst [.str s0, w0]) ∧ TyOf K H9 w0 ty ∧ PySem.W.kitOne K ty (.type "bool") = some false := by
    cases o' with
    | inl k => exact ⟨_, _, _, hat, .int _, kit_ib⟩
    | inr ls =>
      obtain ⟨D, zs, h1, h2, h3, _⟩ := hat
      exact ⟨_, _, _, h1, .lst h3, kit_lb⟩
  refine ⟨_, rfl, ?_⟩
  refine ⟨r, _, _, _, rfl, rfl, SqL.of hr9, rfl, ?_⟩
  refine ⟨w0, _, ty, false, rfl, hty, hkb, ?_⟩
  refine ⟨_, rfl, ?_⟩
  refine iteF ?_
  walk_at "rd"
  intro p10 hp10
  have hs10 := same_new hp10 (.lst [.ref c, .ref b])
  have I10 := (I8.same hs9).same hs10
  have J10 := (J8.same hs9).same hs10
  refine ⟨bothD rs bs, bothD rs bs, both_den ((hs9.trans hs10) _ _ h85) J10.cas J10.row I.lay J10.brk J10.two, both_den upd_same I10.cas I10.row I.lay I10.brk I10.two, bothD_depth _ _ _, ?_⟩
  rw [eqv_refl (bothD_nb rs bs)]
  have hat10 := hat.same hs10
  have hs810 := hs9.trans hs10
  generalize upd H9 p10 (.lst [.ref c, .ref b]) = H10 at hs10 hs810 hat10 I10 J10 ⊢
  refine ⟨_, rfl, ?_⟩
  refine iteF ?_
  refine ⟨fun σ H' => ∃ v6 : Option V, σ = [some (.ref c), some (.ref b), some (.ref p5), some v, some (.ref pd), some (.ref r), v6] ∧ Same H8 H', ?_, ?_⟩
  · cases o' with
    | inl k =>
      refine ⟨_, rfl, ?_⟩
      refine ⟨r, _, _, _, rfl, rfl, SqL.of hat10, rfl, ?_⟩
      refine ⟨_, _, _, false, rfl, .int _, kit_il, ?_⟩
      refine ⟨_, rfl, ?_⟩
      refine iteF ?_
      exact ⟨_, rfl, hs810⟩
    | inr ls =>
      obtain ⟨D, zs, h1, h2, h3, h4, h5⟩ := hat10
      refine ⟨_, rfl, ?_⟩
      refine ⟨r, _, _, _, rfl, rfl, SqL.of h1, rfl, ?_⟩
      refine ⟨_, _, _, true, rfl, .lst h3, kit_ll, ?_⟩
      refine ⟨_, rfl, ?_⟩
      refine iteT ?_
      refine ⟨_, rfl, ?_⟩
      refine ⟨r, _, _, _, rfl, rfl, SqL.of h1, rfl, ?_⟩
      refine ⟨D, rfl, ⟨_, SqL.of h3⟩, ?_⟩
      have hrz : V.ref r ∉ zs := fun hm => by
        obtain ⟨i, hi, e⟩ := List.getElem_of_mem hm
        obtain ⟨_, _, p2, ys, e2, _, _, z, zm⟩ := Cs.pd_get h4 (List.getElem?_eq_getElem hi)
        rw [e] at e2
        cases e2
        rw [h1] at z
        cases z
        cases zm with
        | cons r1 t1 =>
          obtain ⟨_, e3, _⟩ := r1
          cases e3
      have hzlen : zs.length ≤ 100 := by
        have e1 := Paired.length h4
        have e2 : ls.length ≤ 100 := by
          cases ho with
          | good h => exact ls_len h hfew
        omega
      have hall : ∀ x ∈ zs, Lns.ListF H8 D 1000 H10 x := fun x hx => by
        obtain ⟨i, hi, e⟩ := List.getElem_of_mem hx
        obtain ⟨m, hm, p2, ys, e2, e3, e4, z, zm⟩ := Cs.pd_get h4 (List.getElem?_eq_getElem hi)
        refine ⟨p2, ys, by rw [← e]; exact e2, e3, e4, z, ?_⟩
        have hl1 := Paired.length zm
        cases ho with
        | good h =>
          have := lane_len h hm fun r hr => (I.mn r hr).2
          omega
      refine for_list (a := D) (xs := zs) (fun i σ H11 => ∃ v6 : Option V, σ = [some (.ref c), some (.ref b), some (.ref p5), some v, some (.ref pd), some (.ref r), v6] ∧ Same H8 H11 ∧ H11 D = some (.lst zs) ∧ H11 r = some (.lst [.str "told", .ref D]) ∧ ∀ x ∈ zs, Lns.ListF H8 D (1000 + i) H11 x)
        ⟨_, rfl, hs810, h3, h1, hall⟩ (fun i σ H11 _ ⟨_, _, _, h, _⟩ => SqL.of h) ?_ ?_
      · rintro i y σ H11 hy ⟨v6, rfl, hs11, hD11, hr11, hall11⟩
        have hil := (List.getElem?_eq_some_iff.mp hy).1
        have hym := List.mem_of_getElem? hy
        obtain ⟨q0, ws0, rfl, n0, f0, z0, l0⟩ := hall11 y hym
        have hq0r : q0 ≠ r := fun e => hrz (by rw [← e]; exact hym)
        refine ⟨_, rfl, ?_⟩
        refine ⟨.inl ⟨rfl, _, SqL.of z0⟩, ?_⟩
        refine ⟨q0, _, _, rfl, rfl, z0, smallLt (by omega), ?_⟩
        refine ⟨_, rfl, same_upd hs11 f0, by rw [upd_ne n0.symm]; exact hD11, by rw [upd_ne (Ne.symm hq0r)]; exact hr11, fun x hx => ?_⟩
        exact Lns.listF_push z0 l0 (hall11 x hx)
      · rintro σ H11 ⟨v6, rfl, hs11, hD11, hr11, hall11⟩
        refine ⟨_, rfl, ?_⟩
        refine ⟨r, _, _, _, rfl, rfl, SqL.of hr11, rfl, ?_⟩
        refine ⟨.inl ⟨rfl, _, SqL.of hD11⟩, ?_⟩
        refine ⟨D, _, rfl, rfl, hD11, ?_⟩
        exact ⟨_, rfl, same_upd hs11 h2⟩
  rintro σ H11 ⟨v6, rfl, hs11⟩
  have I11 := I8.same hs11
  walk_at "rd"
  refine ⟨c, b, xs, bv, rs, bs, rfl, I11.cas, I11.row, I11.few, I11.mn, I11.brk, I11.two, I11.fb, fun r2 o2 H12 _ hs12 ho2 hat2 => ?_⟩
  have eo2 := ho2.uniq ho
  subst eo2
  walk_at "rd"
  refine ⟨toldD o2, toldD o2, hat2.den ho I.lay, (hdue.same (hs11.trans hs12)).den ho I.lay, toldD_depth _ _, ?_⟩
  rw [eqv_refl (toldD_nb o2)]
  exact q _ (hs5.trans (hs8.trans (hs11.trans hs12)))
def sp_law (K : PySem.W.Frag) : Sp := fun vs H Q _ => ∃ (l : Addr) (ns : List Int), vs = [.ref l] ∧ SqL K H l (ns.map V.int) ∧ ns.length ≤ 63 ∧ ∀ H', Q (.bl true) H'
theorem ok_law (T : Tx K mg a) : FnOk P w K mg base CX0 lawLevel a.f_law a.d_law ["_law_script"] (sp_law K) := by
  have G_law_case := ok_law_case (P := P) (w := w) (base := base) T
  have G_law_mixed := ok_law_mixed (P := P) (w := w) (base := base) T
  have G_law_one := ok_law_one (P := P) (w := w) (base := base) T
  have G_law_due := ok_law_due (P := P) (w := w) (base := base) T
  have G_law_right := ok_law_right (P := P) (w := w) (base := base) T
  refine T.law.fn.ok sc_law (fun vs H Q E h => ?_) (fun cdv A outer s H vs Q E hr h => ?_)
  · obtain ⟨l, ns, rfl, _⟩ := h
    rfl
  obtain ⟨l, ns, rfl, hS, hl, q⟩ := h
  refine ⟨_, (pss_cons (ps_set (i := 1) sc_law.nd rfl (Or.inl rfl) (pcall T.law_case G_law_case hr rfl (pa_cons (pv 0) (pa_cons pe_int pa_nil))))
      (pss_cons (ps_set (i := 2) sc_law.nd rfl (Or.inl rfl) (pe_lst pa_nil))
      (pss_cons (ps_for PassesOwn.never rfl (kpi_enum K rfl rfl T.b_enumerate (pa_cons (pe_slice (ksl_list K rfl) (pv 0) (po_some pe_int) (po_some pe_int)) pa_nil)) (kpg_tup K rfl (n := 2) rfl (pgs_cons (pg_name (i := 3) sc_law.nd rfl (Or.inl rfl)) (pgs_cons (pg_name (i := 4) sc_law.nd rfl (Or.inl rfl)) pgs_nil))) (pss_cons (ps_set (i := 5) sc_law.nd rfl (Or.inl rfl) (pcall T.law_one G_law_one hr rfl (pa_cons (pv 1) (pa_cons (pcall T.law_mixed G_law_mixed hr rfl (pa_cons (pv 4) (pa_cons (pv 3) pa_nil))) pa_nil))))
      (pss_cons (ps_if (PW.pt (pw_or (pt_not (pt_val (pcall T.law_right G_law_right hr rfl (pa_cons (pv 1) (pa_cons (pe_op op_cat (pv 2) (pe_lst (pa_cons (pv 5) pa_nil))) pa_nil))))) (pw_or1 (pt_not (pt_val (pcall T.law_right G_law_right hr rfl (pa_cons (pv 1) (pa_cons (pe_op op_cat (pe_lst (pa_cons (pv 5) pa_nil)) (pv 2)) pa_nil)))))))) (pss_one (ps_ret pe_bl)) pss_nil)
      (pss_one (ps_if (pt_val (pe_callB (kisinst K rfl) rfl T.b_isinstance bt_isinstance (pa_cons (pcall T.law_due G_law_due hr rfl (pa_cons (pv 1) (pa_cons (pe_op op_cat (pv 2) (pe_lst (pa_cons (pv 5) pa_nil))) pa_nil))) (pa_cons (pe_bltn (v := .ty "list") rfl T.b_list bt_list rfl) pa_nil)))) (pss_one (ps_set (i := 2) sc_law.nd rfl (Or.inl rfl) (pe_op op_cat (pv 2) (pe_lst (pa_cons (pv 5) pa_nil))))) pss_nil)))))
      (pss_one (ps_ret (pcall T.law_right G_law_right hr rfl (pa_cons (pv 1) (pa_cons (pe_lst pa_nil) pa_nil)))))))), ?_⟩
  walk_at "rd"
  refine ⟨l, ns, 5, rfl, hS, by decide, by decide, fun pc xs rs H1 hpc0 hs1 hpc hpd R => ?_⟩
  have hl1 := R.l1
  have hl2 := R.l2
  have I1 : ∀ {H' b bv bs}, Same H1 H' → H' b = some (.lst bv) → Paired (Two H') bv bs → bs.length ≤ 1000 → In40 H' pc b xs bv rs bs := fun s h1 h2 h3 => ⟨s _ _ hpc, Cs.rows_same hpd s, by omega, fun r hr => ⟨(R.mn r hr).1, by have := (R.mn r hr).2; omega⟩, fun r hr => (R.th r hr).1, fun r hr => by obtain ⟨c, hc, e⟩ := R.sg r hr; rw [e]; exact Cs.signs_lay c hc, h1, h2, h3⟩
  walk_at "rd"
  intro pg hpg
  have hs2 := same_new hpg (.lst [])
  have h2g : upd H1 pg (.lst []) pg = some (.lst []) := upd_same
  generalize upd H1 pg (.lst []) = H2 at hs2 h2g ⊢
  walk_at "rd"
  refine ⟨l, _, rfl, (hs1.trans hs2).seq hS, fun ps hps => ?_⟩
  obtain ⟨ms, ecut, hml⟩ := Cs.cut_any ns (some 1) (some 21)
  rw [ecut]
  have hs3 := same_add (o := .lst (ms.map V.int)) hs2 hps
  have hs23 := same_new hps (.lst (ms.map V.int))
  have h3s : upd H2 ps (.lst (ms.map V.int)) ps = some (.lst (ms.map V.int)) := upd_same
  generalize upd H2 ps (.lst (ms.map V.int)) = H3 at hs3 hs23 h3s ⊢
  refine ⟨ps, rfl, ⟨_, SqL.of h3s⟩, ?_⟩
  refine for_enum (a := ps) (xs := ms.map V.int) (fun i σ H4 => ∃ (g : Addr) (gv : List V) (gs : List (Int × Int)) (v3 v4 v5 : Option V), σ = [some (.ref l), some (.ref pc), some (.ref g), v3, v4, v5] ∧ Same H3 H4 ∧ H4 g = some (.lst gv) ∧ Paired (Two H4) gv gs ∧ gs.length ≤ i)
    ⟨pg, [], [], none, none, none, rfl, Same.refl _, hs23 _ _ h2g, .nil, Nat.le_refl _⟩ (fun i σ H4 _ ⟨_, _, _, _, _, _, _, hs, _⟩ => hs.seq (SqL.of h3s)) ?_ ?_
  · rintro i y tp σ H4 hy ⟨g, gv, gs, v3, v4, v5, rfl, hs4, hg, hgp, hgl⟩ htp0
    obtain ⟨c, rfl, hci⟩ := map_int_get hy
    have hil : i < ms.length := (List.getElem?_eq_some_iff.mp hci).1
    have hgvl := Paired.length hgp
    have hs5 := same_new htp0 (.tup [.int i, .int c])
    have h5t : upd H4 tp (.tup [.int i, .int c]) tp = some (.tup [.int i, .int c]) := upd_same
    generalize upd H4 tp (.tup [.int i, .int c]) = H5 at hs5 h5t ⊢
    have hs15 := (hs3.trans hs4).trans hs5
    walk_at "rd"
    walk_at "tg"
    walk_at "tg"
    walk_at "rd"
    refine ⟨_, _, rfl, by omega, by omega, fun f hf0 hf1 => ?_⟩
    walk_at "rd"
    refine ⟨pc, f, rs, rfl, ⟨xs, SqL.of (hs15 _ _ hpc), Cs.rows_same hpd hs15⟩, hl1, by omega, hf0, fun to ch lo H6 hs6 hto => ?_⟩
    walk_at "rd"
    intro p1 hp1
    have hs7 := same_new hp1 (.lst [.ref to])
    have h71 : upd H6 p1 (.lst [.ref to]) p1 = some (.lst [.ref to]) := upd_same
    generalize upd H6 p1 (.lst [.ref to]) = H7 at hs7 h71 ⊢
    have hs57 := hs6.trans hs7
    refine ⟨g, p1, _, _, rfl, rfl, (hs5.trans hs57) _ _ hg, h71, smallL (by show _ + 1 ≤ _; omega), fun p2 hp2 => ?_⟩
    have hs8 := same_new hp2 (.lst (gv ++ [.ref to]))
    have h82 : upd H7 p2 (.lst (gv ++ [.ref to])) p2 = some (.lst (gv ++ [.ref to])) := upd_same
    generalize upd H7 p2 (.lst (gv ++ [.ref to])) = H8 at hs8 h82 ⊢
    have hs68 := hs7.trans hs8
    have hs58 := hs57.trans hs8
    have hs48 := hs5.trans hs58
    have tw : ∀ {H'}, Same H6 H' → Two H' (.ref to) (ch, lo) := fun s => ⟨to, rfl, s _ _ hto⟩
    have hlen : (gs ++ [(ch, lo)]).length ≤ 1000 := by rw [List.length_append]; show _ + 1 ≤ _; omega
    have hlen2 : ([(ch, lo)] ++ gs).length ≤ 1000 := by rw [List.length_append]; show 1 + _ ≤ _; omega
    refine ⟨pc, p2, xs, _, rs, _, rfl, I1 (hs15.trans hs58) h82 (Paired.snoc (two_same hgp hs48) (tw hs68)) hlen, fun H9 hs9 => ?_⟩
    walk_at "rd"
    intro p3 hp3
    have hs10 := same_add (o := .lst [.ref to]) hs9 hp3
    have h103 : upd H9 p3 (.lst [.ref to]) p3 = some (.lst [.ref to]) := upd_same
    generalize upd H9 p3 (.lst [.ref to]) = H10 at hs10 h103 ⊢
    have hs410 := hs48.trans hs10
    refine ⟨_, rfl, ?_⟩
    refine ⟨p3, g, _, _, rfl, rfl, h103, hs410 _ _ hg, smallL (by show 1 + _ ≤ _; omega), fun p4 hp4 => ?_⟩
    have hs11 := same_add (o := .lst ([.ref to] ++ gv)) hs10 hp4
    have h114 : upd H10 p4 (.lst ([.ref to] ++ gv)) p4 = some (.lst ([.ref to] ++ gv)) := upd_same
    generalize upd H10 p4 (.lst ([.ref to] ++ gv)) = H11 at hs11 h114 ⊢
    have hs411 := hs48.trans hs11
    have hs111 := (hs15.trans hs58).trans hs11
    refine ⟨pc, p4, xs, _, rs, _, rfl, I1 hs111 h114 (.cons (tw (hs68.trans hs11)) (two_same hgp hs411)) hlen2, fun H12 hs12 => ?_⟩
    have hs412 := hs411.trans hs12
    have hs112 := hs111.trans hs12
    have hs612 := (hs68.trans hs11).trans hs12
    refine ⟨_, rfl, ?_⟩
    refine iteF ?_
    walk_at "rd"
    intro p5 hp5
    have hs13 := same_new hp5 (.lst [.ref to])
    have h135 : upd H12 p5 (.lst [.ref to]) p5 = some (.lst [.ref to]) := upd_same
    generalize upd H12 p5 (.lst [.ref to]) = H13 at hs13 h135 ⊢
    refine ⟨g, p5, _, _, rfl, rfl, (hs412.trans hs13) _ _ hg, h135, smallL (by show _ + 1 ≤ _; omega), fun p6 hp6 => ?_⟩
    have hs14 := same_add (o := .lst (gv ++ [.ref to])) hs13 hp6
    have h146 : upd H13 p6 (.lst (gv ++ [.ref to])) p6 = some (.lst (gv ++ [.ref to])) := upd_same
    generalize upd H13 p6 (.lst (gv ++ [.ref to])) = H14 at hs14 h146 ⊢
    have I := I1 (hs112.trans hs14) h146 (Paired.snoc (two_same hgp (hs412.trans hs14)) (tw (hs612.trans hs14))) hlen
    refine ⟨pc, p6, xs, _, rs, _, rfl, I.cas, I.row, I.few, I.mn, I.th, I.brk, I.two, I.fb, fun H15 k hs15 hk => ?_, fun D zs ls H15 hD hs15 hD15 hz15 hzn hk => ?_⟩
    · refine ⟨_, _, _, false, rfl, .int _, kit_il, ?_⟩
      refine ⟨_, rfl, ?_⟩
      refine iteF ?_
      exact ⟨g, gv, gs, _, _, _, rfl, hs4.trans ((hs412.trans hs14).trans hs15), ((hs412.trans hs14).trans hs15) _ _ hg, two_same hgp ((hs412.trans hs14).trans hs15), by omega⟩
    · refine ⟨_, _, _, true, rfl, .lst hD15, kit_ll, ?_⟩
      refine ⟨_, rfl, ?_⟩
      refine iteT ?_
      walk_at "rd"
      intro p7 hp7
      have hs16 := same_add (o := .lst [.ref to]) hs15 hp7
      have h167 : upd H15 p7 (.lst [.ref to]) p7 = some (.lst [.ref to]) := upd_same
      generalize upd H15 p7 (.lst [.ref to]) = H16 at hs16 h167 ⊢
      have hs416 := (hs412.trans hs14).trans hs16
      refine ⟨g, p7, _, _, rfl, rfl, hs416 _ _ hg, h167, smallL (by show _ + 1 ≤ _; omega), fun p8 hp8 => ?_⟩
      have hs17 := same_new hp8 (.lst (gv ++ [.ref to]))
      exact ⟨p8, _, _, _, _, _, rfl, hs4.trans (hs416.trans hs17), upd_same, Paired.snoc (two_same hgp (hs416.trans hs17)) (tw (((hs612.trans hs14).trans hs16).trans hs17)), by rw [List.length_append]; show _ + 1 ≤ _; omega⟩
  · rintro σ H4 ⟨g, gv, gs, v3, v4, v5, rfl, hs4, hg, hgp, hgl⟩
    walk_at "rd"
    intro p1 hp1
    exact ⟨pc, p1, xs, _, rs, [], rfl, I1 (same_add (hs3.trans hs4) hp1) upd_same .nil (by decide), fun H5 _ => q _⟩
theorem txt_mk {K : PySem.W.Frag} {h : Heap} {mg : Str → Option Value} (X : K.In h) (G : h.Ns mainGlobals mg)
    {f0 : Addr} {od0 an0 : Option Addr} {sl0 : Array (Option Value)} {oc0 kV0 dc0 pm0 cd0 ct0 : Value} {f1 : Addr} {od1 an1 : Option Addr} {sl1 : Array (Option Value)} {oc1 kV1 dc1 pm1 cd1 ct1 : Value} {f2 : Addr} {od2 an2 : Option Addr} {sl2 : Array (Option Value)} {oc2 kV2 dc2 pm2 cd2 ct2 : Value} {f3 : Addr} {od3 an3 : Option Addr} {sl3 : Array (Option Value)} {oc3 kV3 dc3 pm3 cd3 ct3 : Value} {f4 : Addr} {od4 an4 : Option Addr} {sl4 : Array (Option Value)} {oc4 kV4 dc4 pm4 cd4 ct4 : Value} {f5 : Addr} {od5 an5 : Option Addr} {sl5 : Array (Option Value)} {oc5 kV5 dc5 pm5 cd5 ct5 : Value} {f6 : Addr} {od6 an6 : Option Addr} {sl6 : Array (Option Value)} {oc6 kV6 dc6 pm6 cd6 ct6 : Value} {f7 : Addr} {od7 an7 : Option Addr} {sl7 : Array (Option Value)} {oc7 kV7 dc7 pm7 cd7 ct7 : Value} {f8 : Addr} {od8 an8 : Option Addr} {sl8 : Array (Option Value)} {oc8 kV8 dc8 pm8 cd8 ct8 : Value} {f9 : Addr} {od9 an9 : Option Addr} {sl9 : Array (Option Value)} {oc9 kV9 dc9 pm9 cd9 ct9 : Value} {f10 : Addr} {od10 an10 : Option Addr} {sl10 : Array (Option Value)} {oc10 kV10 dc10 pm10 cd10 ct10 : Value} {f11 : Addr} {od11 an11 : Option Addr} {sl11 : Array (Option Value)} {oc11 kV11 dc11 pm11 cd11 ct11 : Value} {f12 : Addr} {od12 an12 : Option Addr} {sl12 : Array (Option Value)} {oc12 kV12 dc12 pm12 cd12 ct12 : Value}
    (a0 : PySem.W.nsIn K mainGlobals "has_all" = some (some (.ref f0))) (l0 : K.lookup f0 = some ⟨oc0, od0, .func (PySem.W.fnOf "has_all" "has_all" (defArgs s_has_all) (defBody s_has_all) (defScope s_has_all) .none kV0 dc0 pm0 an0 cd0 ct0), sl0⟩) (c0 : PySem.W.codeIn K cd0 "has_all" = true) (k0 : PySem.W.keepIn K (.ref f0) = true)
    (a1 : PySem.W.nsIn K mainGlobals "can_break" = some (some (.ref f1))) (l1 : K.lookup f1 = some ⟨oc1, od1, .func (PySem.W.fnOf "can_break" "can_break" (defArgs s_can_break) (defBody s_can_break) (defScope s_can_break) .none kV1 dc1 pm1 an1 cd1 ct1), sl1⟩) (c1 : PySem.W.codeIn K cd1 "can_break" = true) (k1 : PySem.W.keepIn K (.ref f1) = true)
    (a2 : PySem.W.nsIn K mainGlobals "channels_of" = some (some (.ref f2))) (l2 : K.lookup f2 = some ⟨oc2, od2, .func (PySem.W.fnOf "channels_of" "channels_of" (defArgs s_channels_of) (defBody s_channels_of) (defScope s_channels_of) .none kV2 dc2 pm2 an2 cd2 ct2), sl2⟩) (c2 : PySem.W.codeIn K cd2 "channels_of" = true) (k2 : PySem.W.keepIn K (.ref f2) = true)
    (a3 : PySem.W.nsIn K mainGlobals "_law_cell_at" = some (some (.ref f3))) (l3 : K.lookup f3 = some ⟨oc3, od3, .func (PySem.W.fnOf "_law_cell_at" "_law_cell_at" (defArgs s_law_cell_at) (defBody s_law_cell_at) (defScope s_law_cell_at) .none kV3 dc3 pm3 an3 cd3 ct3), sl3⟩) (c3 : PySem.W.codeIn K cd3 "_law_cell_at" = true) (k3 : PySem.W.keepIn K (.ref f3) = true)
    (a4 : PySem.W.nsIn K mainGlobals "_law_mixed" = some (some (.ref f4))) (l4 : K.lookup f4 = some ⟨oc4, od4, .func (PySem.W.fnOf "_law_mixed" "_law_mixed" (defArgs s_law_mixed) (defBody s_law_mixed) (defScope s_law_mixed) .none kV4 dc4 pm4 an4 cd4 ct4), sl4⟩) (c4 : PySem.W.codeIn K cd4 "_law_mixed" = true) (k4 : PySem.W.keepIn K (.ref f4) = true)
    (a5 : PySem.W.nsIn K mainGlobals "_law_bits" = some (some (.ref f5))) (l5 : K.lookup f5 = some ⟨oc5, od5, .func (PySem.W.fnOf "_law_bits" "_law_bits" (defArgs s_law_bits) (defBody s_law_bits) (defScope s_law_bits) .none kV5 dc5 pm5 an5 cd5 ct5), sl5⟩) (c5 : PySem.W.codeIn K cd5 "_law_bits" = true) (k5 : PySem.W.keepIn K (.ref f5) = true)
    (a6 : PySem.W.nsIn K mainGlobals "_law_teeth" = some (some (.ref f6))) (l6 : K.lookup f6 = some ⟨oc6, od6, .func (PySem.W.fnOf "_law_teeth" "_law_teeth" (defArgs s_law_teeth) (defBody s_law_teeth) (defScope s_law_teeth) .none kV6 dc6 pm6 an6 cd6 ct6), sl6⟩) (c6 : PySem.W.codeIn K cd6 "_law_teeth" = true) (k6 : PySem.W.keepIn K (.ref f6) = true)
    (a7 : PySem.W.nsIn K mainGlobals "_law_case" = some (some (.ref f7))) (l7 : K.lookup f7 = some ⟨oc7, od7, .func (PySem.W.fnOf "_law_case" "_law_case" (defArgs s_law_case) (defBody s_law_case) (defScope s_law_case) .none kV7 dc7 pm7 an7 cd7 ct7), sl7⟩) (c7 : PySem.W.codeIn K cd7 "_law_case" = true) (k7 : PySem.W.keepIn K (.ref f7) = true)
    (a8 : PySem.W.nsIn K mainGlobals "_law_one" = some (some (.ref f8))) (l8 : K.lookup f8 = some ⟨oc8, od8, .func (PySem.W.fnOf "_law_one" "_law_one" (defArgs s_law_one) (defBody s_law_one) (defScope s_law_one) .none kV8 dc8 pm8 an8 cd8 ct8), sl8⟩) (c8 : PySem.W.codeIn K cd8 "_law_one" = true) (k8 : PySem.W.keepIn K (.ref f8) = true)
    (a9 : PySem.W.nsIn K mainGlobals "_law_due" = some (some (.ref f9))) (l9 : K.lookup f9 = some ⟨oc9, od9, .func (PySem.W.fnOf "_law_due" "_law_due" (defArgs s_law_due) (defBody s_law_due) (defScope s_law_due) .none kV9 dc9 pm9 an9 cd9 ct9), sl9⟩) (c9 : PySem.W.codeIn K cd9 "_law_due" = true) (k9 : PySem.W.keepIn K (.ref f9) = true)
    (a10 : PySem.W.nsIn K mainGlobals "_law_told" = some (some (.ref f10))) (l10 : K.lookup f10 = some ⟨oc10, od10, .func (PySem.W.fnOf "_law_told" "_law_told" (defArgs s_law_told) (defBody s_law_told) (defScope s_law_told) .none kV10 dc10 pm10 an10 cd10 ct10), sl10⟩) (c10 : PySem.W.codeIn K cd10 "_law_told" = true) (k10 : PySem.W.keepIn K (.ref f10) = true)
    (a11 : PySem.W.nsIn K mainGlobals "_law_right" = some (some (.ref f11))) (l11 : K.lookup f11 = some ⟨oc11, od11, .func (PySem.W.fnOf "_law_right" "_law_right" (defArgs s_law_right) (defBody s_law_right) (defScope s_law_right) .none kV11 dc11 pm11 an11 cd11 ct11), sl11⟩) (c11 : PySem.W.codeIn K cd11 "_law_right" = true) (k11 : PySem.W.keepIn K (.ref f11) = true)
    (a12 : PySem.W.nsIn K mainGlobals "law" = some (some (.ref f12))) (l12 : K.lookup f12 = some ⟨oc12, od12, .func (PySem.W.fnOf "law" "law" (defArgs s_law) (defBody s_law) (defScope s_law) .none kV12 dc12 pm12 an12 cd12 ct12), sl12⟩) (c12 : PySem.W.codeIn K cd12 "law" = true) (k12 : PySem.W.keepIn K (.ref f12) = true)
    {c_CasterError : Addr} (ca_CasterError : PySem.W.nsIn K mainGlobals "CasterError" = some (some (.ref c_CasterError)))
    {c_NoCase : Addr} (ca_NoCase : PySem.W.nsIn K mainGlobals "NoCase" = some (some (.ref c_NoCase)))
    {c_NoKeys : Addr} (ca_NoKeys : PySem.W.nsIn K mainGlobals "NoKeys" = some (some (.ref c_NoKeys)))
    (ci_NoKeys : PySem.W.isClsIn K c_NoKeys = true) (ct_NoKeys : PySem.W.typeIn K (.ref c_NoKeys) = some (.type "type"))
    {od_CasterError : Option Addr} {cd_CasterError : ClassData} {sl_CasterError : Array (Option Value)} (lk_CasterError : K.lookup c_CasterError = some ⟨.type "type", od_CasterError, .cls cd_CasterError, sl_CasterError⟩)
    {N_CasterError : Addr} (cN_CasterError : cd_CasterError.ns = N_CasterError) {noc_CasterError : Value} {nod_CasterError : Option Addr} {nes_CasterError : Array DictEntry} {nn_CasterError : Nat} {nsl_CasterError : Array (Option Value)} (ln_CasterError : K.lookup N_CasterError = some ⟨noc_CasterError, nod_CasterError, .dict nes_CasterError nn_CasterError, nsl_CasterError⟩)
    (le_CasterError : (nes_CasterError.toList.all fun e => match e.key with | .str _ _ => true | _ => false) = true) (ni_CasterError : PySem.W.nsIn K N_CasterError "__init__" = some none)
    {k0_CasterError k1_CasterError k2_CasterError k3_CasterError k5_CasterError : Option Value} (cs_CasterError : sl_CasterError.toList = [k0_CasterError, k1_CasterError, k2_CasterError, k3_CasterError, some (.builtin "ValueError.__new__"), k5_CasterError]) (cm_CasterError : cd_CasterError.mro = .ref c_CasterError :: bmV) (ch_CasterError : cd_CasterError.hasDel = false)
    (q1_CasterError : PySem.W.findIn K (.ref c_CasterError) "__getattribute__" = some (some (.builtin "BaseException.__getattribute__"))) (q2_CasterError : PySem.W.findIn K (.ref c_CasterError) "__getattr__" = some none) (q3_CasterError : PySem.W.mroIn K c_CasterError (.type "BaseException") = some true) (q4_CasterError : PySem.W.mroIn K c_CasterError (.type "object") = some true) (q5_CasterError : PySem.W.findIn K (.ref c_CasterError) "__class__" = some (some (.builtin "object.__class__"))) (q6_CasterError : PySem.W.hasDictIn K c_CasterError = true) (q7_CasterError : PySem.W.keepIn K (.ref c_CasterError) = true) (q8_CasterError : PySem.W.typeIn K (.ref c_CasterError) = some (.type "type")) (q9_CasterError : PySem.W.mroIn K c_CasterError (.type "ValueError") = some true)
    {fi_NoCase : Addr} (cn_NoCase : PySem.W.findIn K (.ref c_NoCase) "__init__" = some (some (.ref fi_NoCase)))
    {iod_NoCase ian_NoCase : Option Addr} {isl_NoCase : Array (Option Value)} {ioc_NoCase ikV_NoCase idc_NoCase ipm_NoCase icd_NoCase ict_NoCase : Value}
    (cl_NoCase : K.lookup fi_NoCase = some ⟨ioc_NoCase, iod_NoCase, .func (PySem.W.fnOf "__init__" "NoCase.__init__" (defArgs s_init_NoCase) (defBody s_init_NoCase) (defScope s_init_NoCase) .none ikV_NoCase idc_NoCase ipm_NoCase ian_NoCase icd_NoCase ict_NoCase), isl_NoCase⟩) (cc_NoCase : PySem.W.codeIn K icd_NoCase "NoCase.__init__" = true) (ck_NoCase : PySem.W.keepIn K (.ref fi_NoCase) = true)
    {od_NoCase : Option Addr} {cd_NoCase : ClassData} {sl_NoCase : Array (Option Value)} (lk_NoCase : K.lookup c_NoCase = some ⟨.type "type", od_NoCase, .cls cd_NoCase, sl_NoCase⟩)
    {N_NoCase : Addr} (cN_NoCase : cd_NoCase.ns = N_NoCase) {noc_NoCase : Value} {nod_NoCase : Option Addr} {nes_NoCase : Array DictEntry} {nn_NoCase : Nat} {nsl_NoCase : Array (Option Value)} (ln_NoCase : K.lookup N_NoCase = some ⟨noc_NoCase, nod_NoCase, .dict nes_NoCase nn_NoCase, nsl_NoCase⟩)
    (le_NoCase : (nes_NoCase.toList.all fun e => match e.key with | .str _ _ => true | _ => false) = true) (ni_NoCase : PySem.W.nsIn K N_NoCase "__init__" = some (some (.ref fi_NoCase)))
    {k0_NoCase k1_NoCase k2_NoCase k3_NoCase k5_NoCase : Option Value} (cs_NoCase : sl_NoCase.toList = [k0_NoCase, k1_NoCase, k2_NoCase, k3_NoCase, some (.builtin "ValueError.__new__"), k5_NoCase]) (cm_NoCase : cd_NoCase.mro = .ref c_NoCase :: .ref c_CasterError :: bmV) (ch_NoCase : cd_NoCase.hasDel = false)
    (q1_NoCase : PySem.W.findIn K (.ref c_NoCase) "__getattribute__" = some (some (.builtin "BaseException.__getattribute__"))) (q2_NoCase : PySem.W.findIn K (.ref c_NoCase) "__getattr__" = some none) (q3_NoCase : PySem.W.mroIn K c_NoCase (.type "BaseException") = some true) (q4_NoCase : PySem.W.mroIn K c_NoCase (.type "object") = some true) (q5_NoCase : PySem.W.findIn K (.ref c_NoCase) "__class__" = some (some (.builtin "object.__class__"))) (q6_NoCase : PySem.W.hasDictIn K c_NoCase = true) (q7_NoCase : PySem.W.keepIn K (.ref c_NoCase) = true) (q8_NoCase : PySem.W.typeIn K (.ref c_NoCase) = some (.type "type")) (q9_NoCase : PySem.W.mroIn K c_NoCase (.type "ValueError") = some true)
    (w1_NoCase : cd_NoCase.hasDict = true) (w2_NoCase : PySem.W.findIn K (.ref c_NoCase) "__setattr__" = some (some (.builtin "object.__setattr__"))) (w3_NoCase : PySem.W.findIn K (.ref c_NoCase) "at" = some none) (w4_NoCase : PySem.W.isFn K (.ref fi_NoCase) = true)
    (b1 : PySem.W.readsIn K c_CasterError (.type "type") = true) (b2 : PySem.W.findCls K (.ref c_CasterError) (.type "type") "__init__" = some (.val (.builtin "ValueError.__init__"))) (b3 : PySem.W.specialIn K (.ref c_CasterError) "__getattribute__" = some (some (.builtin "type.__getattribute__")))
    (m_NoCase_CasterError : PySem.W.mroIn K c_NoCase (.ref c_CasterError) = some true)
    (m_NoCase_NoCase : PySem.W.mroIn K c_NoCase (.ref c_NoCase) = some true)
    (m_NoCase_NoKeys : PySem.W.mroIn K c_NoCase (.ref c_NoKeys) = some false)
    (z_ValueError : PySem.W.nsIn K mainGlobals "ValueError" = some none)
    (z_bool : PySem.W.nsIn K mainGlobals "bool" = some none)
    (z_enumerate : PySem.W.nsIn K mainGlobals "enumerate" = some none)
    (z_int : PySem.W.nsIn K mainGlobals "int" = some none)
    (z_isinstance : PySem.W.nsIn K mainGlobals "isinstance" = some none)
    (z_len : PySem.W.nsIn K mainGlobals "len" = some none)
    (z_list : PySem.W.nsIn K mainGlobals "list" = some none)
    (z_range : PySem.W.nsIn K mainGlobals "range" = some none)
    (z_sorted : PySem.W.nsIn K mainGlobals "sorted" = some none)
    : ∃ a : Ad, Tx K mg a := by
  have D0 : D K mg "has_all" s_has_all ["teeth", "others"] f0 _ := ⟨fun_mk l0 c0 k0, fun us hl => match us, hl with | [_, _], _ => rfl, PySem.W.mg_of X G a0⟩
  have D1 : D K mg "can_break" s_can_break ["case", "ahead", "channel", "teeth"] f1 _ := ⟨fun_mk l1 c1 k1, fun us hl => match us, hl with | [_, _, _, _], _ => rfl, PySem.W.mg_of X G a1⟩
  have D2 : D K mg "channels_of" s_channels_of ["case", "broken"] f2 _ := ⟨fun_mk l2 c2 k2, fun us hl => match us, hl with | [_, _], _ => rfl, PySem.W.mg_of X G a2⟩
  have D3 : D K mg "_law_cell_at" s_law_cell_at ["_law_script", "_law_k"] f3 _ := ⟨fun_mk l3 c3 k3, fun us hl => match us, hl with | [_, _], _ => rfl, PySem.W.mg_of X G a3⟩
  have D4 : D K mg "_law_mixed" s_law_mixed ["_law_cell", "_law_k"] f4 _ := ⟨fun_mk l4 c4 k4, fun us hl => match us, hl with | [_, _], _ => rfl, PySem.W.mg_of X G a4⟩
  have D5 : D K mg "_law_bits" s_law_bits ["_law_one_here"] f5 _ := ⟨fun_mk l5 c5 k5, fun us hl => match us, hl with | [_], _ => rfl, PySem.W.mg_of X G a5⟩
  have D6 : D K mg "_law_teeth" s_law_teeth ["_law_number", "_law_many"] f6 _ := ⟨fun_mk l6 c6 k6, fun us hl => match us, hl with | [_, _], _ => rfl, PySem.W.mg_of X G a6⟩
  have D7 : D K mg "_law_case" s_law_case ["_law_script", "_law_most"] f7 _ := ⟨fun_mk l7 c7 k7, fun us hl => match us, hl with | [_, _], _ => rfl, PySem.W.mg_of X G a7⟩
  have D8 : D K mg "_law_one" s_law_one ["_law_case_here", "_law_number"] f8 _ := ⟨fun_mk l8 c8 k8, fun us hl => match us, hl with | [_, _], _ => rfl, PySem.W.mg_of X G a8⟩
  have D9 : D K mg "_law_due" s_law_due ["_law_case_here", "_law_broken"] f9 _ := ⟨fun_mk l9 c9 k9, fun us hl => match us, hl with | [_, _], _ => rfl, PySem.W.mg_of X G a9⟩
  have D10 : D K mg "_law_told" s_law_told ["_law_case_here", "_law_broken"] f10 _ := ⟨fun_mk l10 c10 k10, fun us hl => match us, hl with | [_, _], _ => rfl, PySem.W.mg_of X G a10⟩
  have D11 : D K mg "_law_right" s_law_right ["_law_case_here", "_law_broken"] f11 _ := ⟨fun_mk l11 c11 k11, fun us hl => match us, hl with | [_, _], _ => rfl, PySem.W.mg_of X G a11⟩
  have D12 : D K mg "law" s_law ["_law_script"] f12 _ := ⟨fun_mk l12 c12 k12, fun us hl => match us, hl with | [_], _ => rfl, PySem.W.mg_of X G a12⟩
  have F_CasterError : NsF K cd_CasterError.ns none := by rw [cN_CasterError]; exact ⟨⟨_, _, _, _, _, ln_CasterError, by rw [← Array.all_toList]; exact le_CasterError⟩, ni_CasterError⟩
  have F_NoCase : NsF K cd_NoCase.ns (some fi_NoCase) := by rw [cN_NoCase]; exact ⟨⟨_, _, _, _, _, ln_NoCase, by rw [← Array.all_toList]; exact le_NoCase⟩, ni_NoCase⟩
  have TL : PySem.W.tailIn K bmV (.ref c_CasterError :: bmV) = true := tail_mk lk_CasterError F_CasterError
  have X_CasterError := xcls_mk lk_CasterError cm_CasterError cs_CasterError ch_CasterError (by unfold PySem.W.tailIn; rw [Bool.or_eq_true]; exact .inl (beq_self_eq_true _)) F_CasterError
  have Q_CasterError := xq_of (xq_mk q1_CasterError q2_CasterError q3_CasterError q4_CasterError q5_CasterError q6_CasterError q7_CasterError q8_CasterError q9_CasterError)
  have E_CasterError : CN K mg "CasterError" c_CasterError := ⟨PySem.W.mg_of X G ca_CasterError, X_CasterError, Q_CasterError⟩
  have X_NoCase := xcls_mk lk_NoCase cm_NoCase cs_NoCase ch_NoCase TL F_NoCase
  have Q_NoCase := xq_of (xq_mk q1_NoCase q2_NoCase q3_NoCase q4_NoCase q5_NoCase q6_NoCase q7_NoCase q8_NoCase q9_NoCase)
  have W_NoCase := xf_of (xf_mk (f := fi_NoCase) lk_NoCase (by rw [cm_NoCase]; rfl) w1_NoCase w2_NoCase w3_NoCase w4_NoCase)
  have E_NoCase : CI K mg "NoCase" "NoCase.__init__" s_init_NoCase ["self", "at"] c_NoCase fi_NoCase _ "at" := ⟨PySem.W.mg_of X G ca_NoCase, X_NoCase, Q_NoCase, W_NoCase.1, W_NoCase.2, fun_mk cl_NoCase cc_NoCase ck_NoCase, fun us hl => match us, hl with | [_, _], _ => rfl⟩
  have E_NoKeys : CL K mg "NoKeys" c_NoKeys := ⟨PySem.W.mg_of X G ca_NoKeys, ci_NoKeys, ct_NoKeys⟩
  exact ⟨⟨f0, _, f1, _, f2, _, f3, _, f4, _, f5, _, f6, _, f7, _, f8, _, f9, _, f10, _, f11, _, f12, _, c_CasterError, c_NoCase, fi_NoCase, _, c_NoKeys⟩, ⟨D0, D1, D2, D3, D4, D5, D6, D7, D8, D9, D10, D11, D12, E_CasterError, E_NoCase, E_NoKeys, ⟨b1, b2, b3⟩, m_NoCase_CasterError, m_NoCase_NoCase, m_NoCase_NoKeys, PySem.W.mg_none_of X G z_ValueError, PySem.W.mg_none_of X G z_bool, PySem.W.mg_none_of X G z_enumerate, PySem.W.mg_none_of X G z_int, PySem.W.mg_none_of X G z_isinstance, PySem.W.mg_none_of X G z_len, PySem.W.mg_none_of X G z_list, PySem.W.mg_none_of X G z_range, PySem.W.mg_none_of X G z_sorted⟩⟩
end
end Lw
open PySem PySem.W PyProof.Rows
set_option maxRecDepth 100000 in
set_option maxHeartbeats 0 in
theorem PySem.Challenge.cw_linecaster_k40_broken_matrices_told_holds : PySem.Challenge.rw_linecaster_k40_broken_matrices_told.Holds := by
  w_on; o_law; k_head; (case hw => w_witness2)
  k_fill
  refine L2.walk_ofK (l := PySem.Challenge.rw_linecaster_k40_broken_matrices_told) (n := 63) (k := Lw.lawLevel) (x := "_law_script") (CX := L2.CX0) (sp := Lw.sp_law) rfl (by decide) rfl ⟨rfl, by decide, by decide⟩ (fun w h Y => PySem.W.kIn_of Y) ?F ?S ?C
  case F =>
    intro w mg fa h KX G hmg
    have T : ∃ a : Lw.Ad, Lw.Tx (L2.KOf KX) mg a := by
      dsimp only [L2.KOf]
      refine' Lw.txt_mk KX G ?a0 ?l0 ?c0 ?k0 ?a1 ?l1 ?c1 ?k1 ?a2 ?l2 ?c2 ?k2 ?a3 ?l3 ?c3 ?k3 ?a4 ?l4 ?c4 ?k4 ?a5 ?l5 ?c5 ?k5 ?a6 ?l6 ?c6 ?k6 ?a7 ?l7 ?c7 ?k7 ?a8 ?l8 ?c8 ?k8 ?a9 ?l9 ?c9 ?k9 ?a10 ?l10 ?c10 ?k10 ?a11 ?l11 ?c11 ?k11 ?a12 ?l12 ?c12 ?k12 ?ca_CasterError ?ca_NoCase ?ca_NoKeys ?ci_NoKeys ?ct_NoKeys ?lk_CasterError ?cN_CasterError ?ln_CasterError ?le_CasterError ?ni_CasterError ?cs_CasterError ?cm_CasterError ?ch_CasterError ?q1_CasterError ?q2_CasterError ?q3_CasterError ?q4_CasterError ?q5_CasterError ?q6_CasterError ?q7_CasterError ?q8_CasterError ?q9_CasterError ?cn_NoCase ?cl_NoCase ?cc_NoCase ?ck_NoCase ?lk_NoCase ?cN_NoCase ?ln_NoCase ?le_NoCase ?ni_NoCase ?cs_NoCase ?cm_NoCase ?ch_NoCase ?q1_NoCase ?q2_NoCase ?q3_NoCase ?q4_NoCase ?q5_NoCase ?q6_NoCase ?q7_NoCase ?q8_NoCase ?q9_NoCase ?w1_NoCase ?w2_NoCase ?w3_NoCase ?w4_NoCase ?b1 ?b2 ?b3 ?m_NoCase_CasterError ?m_NoCase_NoCase ?m_NoCase_NoKeys ?z_ValueError ?z_bool ?z_enumerate ?z_int ?z_isinstance ?z_len ?z_list ?z_range ?z_sorted
      (case a0 => k_is)
      (case l0 => k_is)
      (case c0 => k_is)
      (case k0 => k_is)
      (case a1 => k_is)
      (case l1 => k_is)
      (case c1 => k_is)
      (case k1 => k_is)
      (case a2 => k_is)
      (case l2 => k_is)
      (case c2 => k_is)
      (case k2 => k_is)
      (case a3 => k_is)
      (case l3 => k_is)
      (case c3 => k_is)
      (case k3 => k_is)
      (case a4 => k_is)
      (case l4 => k_is)
      (case c4 => k_is)
      (case k4 => k_is)
      (case a5 => k_is)
      (case l5 => k_is)
      (case c5 => k_is)
      (case k5 => k_is)
      (case a6 => k_is)
      (case l6 => k_is)
      (case c6 => k_is)
      (case k6 => k_is)
      (case a7 => k_is)
      (case l7 => k_is)
      (case c7 => k_is)
      (case k7 => k_is)
      (case a8 => k_is)
      (case l8 => k_is)
      (case c8 => k_is)
      (case k8 => k_is)
      (case a9 => k_is)
      (case l9 => k_is)
      (case c9 => k_is)
      (case k9 => k_is)
      (case a10 => k_is)
      (case l10 => k_is)
      (case c10 => k_is)
      (case k10 => k_is)
      (case a11 => k_is)
      (case l11 => k_is)
      (case c11 => k_is)
      (case k11 => k_is)
      (case a12 => k_is)
      (case l12 => k_is)
      (case c12 => k_is)
      (case k12 => k_is)
      (case ca_CasterError => k_is)
      (case ca_NoCase => k_is)
      (case ca_NoKeys => k_is)
      (case ci_NoKeys => k_is)
      (case ct_NoKeys => k_is)
      (case lk_CasterError => k_is)
      (case cN_CasterError => rfl)
      (case ln_CasterError => k_is)
      (case le_CasterError => rfl)
      (case ni_CasterError => k_is)
      (case cs_CasterError => rfl)
      (case cm_CasterError => rfl)
      (case ch_CasterError => rfl)
      (case q1_CasterError => k_is)
      (case q2_CasterError => k_is)
      (case q3_CasterError => k_is)
      (case q4_CasterError => k_is)
      (case q5_CasterError => k_is)
      (case q6_CasterError => k_is)
      (case q7_CasterError => k_is)
      (case q8_CasterError => k_is)
      (case q9_CasterError => k_is)
      (case cn_NoCase => k_is)
      (case cl_NoCase => k_is)
      (case cc_NoCase => k_is)
      (case ck_NoCase => k_is)
      (case lk_NoCase => k_is)
      (case cN_NoCase => rfl)
      (case ln_NoCase => k_is)
      (case le_NoCase => rfl)
      (case ni_NoCase => k_is)
      (case cs_NoCase => rfl)
      (case cm_NoCase => rfl)
      (case ch_NoCase => rfl)
      (case q1_NoCase => k_is)
      (case q2_NoCase => k_is)
      (case q3_NoCase => k_is)
      (case q4_NoCase => k_is)
      (case q5_NoCase => k_is)
      (case q6_NoCase => k_is)
      (case q7_NoCase => k_is)
      (case q8_NoCase => k_is)
      (case q9_NoCase => k_is)
      (case w1_NoCase => rfl)
      (case w2_NoCase => k_is)
      (case w3_NoCase => k_is)
      (case w4_NoCase => k_is)
      (case b1 => k_is)
      (case b2 => k_is)
      (case b3 => k_is)
      (case m_NoCase_CasterError => k_is)
      (case m_NoCase_NoCase => k_is)
      (case m_NoCase_NoKeys => k_is)
      (case z_ValueError => k_is)
      (case z_bool => k_is)
      (case z_enumerate => k_is)
      (case z_int => k_is)
      (case z_isinstance => k_is)
      (case z_len => k_is)
      (case z_list => k_is)
      (case z_range => k_is)
      (case z_sorted => k_is)
    obtain ⟨a, T⟩ := T
    have e0 := hmg.symm.trans T.law.mg
    cases e0
    exact ⟨_, fun s u => .of_eq (T.law.ba [u] rfl), fun base kb nb => Lw.ok_law T⟩
  case S => exact fun K H a ns hl hO hS => ⟨a, ns, rfl, hS, hl, fun _ => rfl⟩
  case C => exact fun _ _ _ _ z => z
