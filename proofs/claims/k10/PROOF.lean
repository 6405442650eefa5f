import PyProof.Rows.All
import Wide.All
import OpenK.AllK
import Wide.FinOn
import Lean
import PyProof.EqAt
import PyProof.EqKinds
import PyProof.TupleCall
import PyProof.P3Eq
import PyProof.NeData
import PyProof.Rows.SortShellK
import PySem.Challenge.RW_linecaster_k10_first_codes
set_option genSizeOf false
set_option compiler.extract_closed false
set_option Elab.async false
set_option linter.all false
set_option maxRecDepth 100000
namespace L2
open PySem PySem.Spec PyProof.Rows
noncomputable abbrev Key := Sum Int Str
noncomputable def keyIs : Key → Value → Bool
  | .inl k, v => Value.isInt k v
  | .inr x, v => Value.isStrOf x v
noncomputable def keyH (w : World) : Key → Int
  | .inl k => hashInt k
  | .inr x => hashStr w x
theorem keyIs_shape : ∀ {k : Key} {v : Value}, keyIs k v = true → (∃ i t, k = Sum.inl i ∧ v = Value.int i t) ∨ (∃ x t, k = Sum.inr x ∧ v = Value.str x t)
  | .inl i, v, h => by
    obtain ⟨t, e⟩ := Value.isInt_shape (k := i) (v := v) h
    exact .inl ⟨i, t, rfl, e⟩
  | .inr x, v, h => by
    obtain ⟨t, e⟩ := Value.isStrOf_shape (x := x) (v := v) h
    exact .inr ⟨x, t, rfl, e⟩
theorem key_ll (a b : Int) : decide ((Sum.inl a : Key) = Sum.inl b) = (a == b) := by
  by_cases e : a = b
  · subst e; simp
  · have h : ¬ (Sum.inl a : Key) = Sum.inl b := fun q => e (Sum.inl.inj q)
    rw [decide_eq_false h]
    exact (beq_eq_false_iff_ne.mpr e).symm
theorem key_rr (a b : Str) : decide ((Sum.inr a : Key) = Sum.inr b) = decide (a = b) := by
  by_cases e : a = b
  · subst e; simp
  · have h : ¬ (Sum.inr a : Key) = Sum.inr b := fun q => e (Sum.inr.inj q)
    rw [decide_eq_false h, decide_eq_false e]
theorem key_lr (a : Int) (b : Str) : decide ((Sum.inl a : Key) = Sum.inr b) = false := decide_eq_false (fun q => nomatch q)
theorem key_rl (a : Str) (b : Int) : decide ((Sum.inr a : Key) = Sum.inl b) = false := decide_eq_false (fun q => nomatch q)
noncomputable def mixKind (prog : Program) (w : World) : PySem.KeyKind prog w Key where
  is := keyIs
  hash := keyH w
  inj := fun v a b ha hb => by
    rcases keyIs_shape ha with ⟨i, t, rfl, rfl⟩ | ⟨x, t, rfl, rfl⟩
    · rcases keyIs_shape hb with ⟨j, u, rfl, e⟩ | ⟨y, u, rfl, e⟩
      · injection e with e1 _; rw [e1]
      · exact nomatch e
    · rcases keyIs_shape hb with ⟨j, u, rfl, e⟩ | ⟨y, u, rfl, e⟩
      · exact nomatch e
      · injection e with e1 _; rw [e1]
  byValue := fun k v h => by
    rcases keyIs_shape h with ⟨i, t, rfl, rfl⟩ | ⟨x, t, rfl, rfl⟩ <;> rfl
  pyHash := fun hv h => by
    rcases keyIs_shape hv with ⟨i, t, rfl, rfl⟩ | ⟨x, t, rfl, rfl⟩
    · exact wpAny_pyHash_int h
    · exact wpAny_pyHash_str h
  eqBool := fun hu hv h => by
    rcases keyIs_shape hu with ⟨i, t, rfl, rfl⟩ | ⟨x, t, rfl, rfl⟩
    · rcases keyIs_shape hv with ⟨j, u, rfl, rfl⟩ | ⟨y, u, rfl, rfl⟩
      · rw [key_ll] at h; exact wpAny_eqBool_int h
      · rw [key_lr] at h; exact SeqAt.EqAt.int_str i t y u _ _ _ _ h
    · rcases keyIs_shape hv with ⟨j, u, rfl, rfl⟩ | ⟨y, u, rfl, rfl⟩
      · rw [key_rl] at h; exact SeqAt.EqAt.str_int x t j u _ _ _ _ h
      · rw [key_rr] at h; exact wpAny_eqBool_str h
  «strs» := fun k x t v h => by
    rcases keyIs_shape h with ⟨i, u, rfl, e⟩ | ⟨y, u, rfl, e⟩
    · exact nomatch e
    · injection e with e1 _
      subst e1
      cases v <;> rfl
end L2
namespace L2
open PySem PySem.Spec PyProof.Rows
inductive V where
  | non | bl (b : Bool) | int (i : Int) | str (x : Str) | byt (b : Array UInt8) | flt (b : UInt64) | ref (a : Addr) | ty (n : String)
  deriving DecidableEq
noncomputable def RelV : V → Value → Prop
  | .non, u => u = Value.none
  | .bl b, u => u = Value.bool b
  | .int i, u => ∃ t, u = Value.int i t
  | .str x, u => ∃ t, u = Value.str x t
  | .byt b, u => ∃ t, u = Value.bytes b t
  | .flt b, u => ∃ t, u = Value.float b t
  | .ref a, u => u = Value.ref a
  | .ty n, u => u = Value.type n
noncomputable abbrev Vals : List V → List Value → Prop := Paired RelV
theorem Vals.length {xs : List V} {us : List Value} (r : Vals xs us) : xs.length = us.length := Paired.length r
theorem Vals.get : ∀ {xs : List V} {us : List Value} {i : Nat} {x : V}, Vals xs us → xs[i]? = some x → ∃ u, us[i]? = some u ∧ RelV x u
  | _, _, _, _, .nil, e => by simp at e
  | _, _, 0, _, .cons r _, e => by simp at e; subst e; exact ⟨_, rfl, r⟩
  | _, _, i + 1, x, .cons _ t, e => by
    obtain ⟨u, h1, h2⟩ := Vals.get (i := i) (x := x) t (by simpa using e)
    exact ⟨u, by simpa using h1, h2⟩
theorem Vals.set {x : V} {u : Value} (r : RelV x u) : ∀ {xs : List V} {us : List Value} (i : Nat), Vals xs us → Vals (xs.set i x) (us.set i u)
  | _, _, _, .nil => .nil
  | _, _, 0, .cons _ t => .cons r t
  | _, _, i + 1, .cons q t => .cons q (Vals.set r i t)
theorem Vals.append {xs ys : List V} {us ws : List Value} (h : Vals xs us) (s : Vals ys ws) : Vals (xs ++ ys) (us ++ ws) := by
  induction h with
  | nil => exact s
  | cons r _ ih => exact .cons r ih
theorem Vals.take : ∀ {xs : List V} {us : List Value} (n : Nat), Vals xs us → Vals (xs.take n) (us.take n)
  | _, _, 0, _ => .nil
  | _, _, _ + 1, .nil => .nil
  | _, _, n + 1, .cons r t => .cons r (Vals.take n t)
theorem Vals.drop : ∀ {xs : List V} {us : List Value} (n : Nat), Vals xs us → Vals (xs.drop n) (us.drop n)
  | _, _, 0, r => r
  | _, _, _ + 1, .nil => .nil
  | _, _, n + 1, .cons _ t => Vals.drop n t
noncomputable def RelO : Option V → Option Value → Prop
  | some v, some u => RelV v u
  | none, none => True
  | _, _ => False
noncomputable def KV {κ : Type} : List (κ × V) → List (κ × Value) → Prop := Paired fun (p : κ × V) (q : κ × Value) => p.1 = q.1 ∧ RelV p.2 q.2
noncomputable def kV : Key → V
  | .inl i => .int i
  | .inr x => .str x
inductive HO where
  | lst (xs : List V)
  | tup (xs : List V)
  | dK (kvs : List (Key × V)) | dT (kvs : List (List Key × V))
  | set (S : Int → Bool) (n : Nat)
  | ins (C dx : Addr) (fs : List (Str × V))
  | own (x : Addr)
  | xd (fs : List (Str × V))
  | met (f x : Addr)
  | rng (lo hi : Int)
  | frz (o : Obj) (u : HO)
  | tbl (ps : Array Value)
  | ext (φ : Heap → Prop)
noncomputable abbrev Hp := Addr → Option HO
noncomputable def upd (H : Hp) (a : Addr) (o : HO) : Hp := fun b => if b = a then some o else H b
theorem upd_same {H : Hp} {a : Addr} {o : HO} : upd H a o a = some o := by unfold upd; rw [if_pos rfl]
theorem upd_ne {H : Hp} {a b : Addr} {o : HO} (h : b ≠ a) : upd H a o b = H b := by unfold upd; rw [if_neg h]
theorem ne_of {H : Hp} {a b : Addr} {o u : HO} (h : H a = some o) (h' : H b = some u) (d : o ≠ u) : a ≠ b := by
  intro e; subst e; rw [h] at h'; exact d (Option.some.inj h')
theorem ne_of_none {H : Hp} {a b : Addr} {o : HO} (h : H a = some o) (h' : H b = none) : a ≠ b := by
  intro e; subst e; rw [h] at h'; cases h'
section
variable (P : Program) (w : World)
noncomputable def ObjOk (H : Hp) (h : Heap) (a : Addr) : HO → Prop
  | .lst xs => xs.length ≤ sizeLine ∧ ∃ (its : List Value) (n : Nat), Vals xs its ∧ h.get? a = some { cls := .type "list", data := .seq its.toArray n }
  | .tup xs => xs.length ≤ sizeLine ∧ ∃ its : List Value, Vals xs its ∧ IsTup h a its.toArray
  | .dK kvs => kvs.length ≤ sizeLine ∧ (a == sysModules) = false ∧ ∃ vs, KV kvs vs ∧ h.DictOf (mixKind P w) a vs
  | .dT kvs => kvs.length ≤ sizeLine ∧ (a == sysModules) = false ∧ ∃ xs : List (List Key × Addr × Value),
      Paired (fun (p : List Key × V) (q : List Key × Addr × Value) => p.1 = q.1 ∧ H q.2.1 = some (.tup (p.1.map kV)) ∧ RelV p.2 q.2.2) kvs xs ∧
      ∃ o es ep, h.get? a = some o ∧ o.ExactDict ∧ o.data = .dict es ep ∧ es.toList = xs.map (entryOfKey (tupleKind (mixKind P w))) ∧ (xs.map (·.1)).Nodup
  | .set S n => h.SetOf (intKind P w) a S n
  | .ins C dx fs => H dx = some (.own a) ∧ fs.length ≤ 1000 ∧ dx ≠ a ∧ h.get? a = some (PySem.W.instObj C dx) ∧
      ∃ mA, h.Ns1 dx mA ∧ (∀ f, RelO (fs.lookup f) (mA f)) ∧ PySem.Within mA (fs.map (·.1))
  | .own _ => ∃ o, h.get? a = some o
  | .xd fs => ∃ mA, h.Ns1 a mA ∧ ∀ f, RelO (fs.lookup f) (mA f)
  | .rng lo hi => ∃ t u v, h.get? a = some { cls := .type "range", data := .fields #[.int lo t, .int hi u, .int 1 v] }
  | .frz o u => h.get? a = some o ∧ ObjOk H h a u
  | .tbl ps => h.get? a = some { cls := .none, data := .fields ps }
  | .met f x => h.get? a = some (PySem.W.methodObj (.ref f) (.ref x))
  | .ext φ => φ h ∧ (∃ o, h.get? a = some o) ∧ ∀ h1 h2 : Heap, φ h1 → (∀ o, h1.get? a = some o → h2.get? a = some o) → φ h2
noncomputable def HOk (H : Hp) (h : Heap) : Prop := ∀ a o, H a = some o → ObjOk P w H h a o
end
section
variable {P : Program} {w : World} {H H' : Hp} {h h' : Heap} {a : Addr} {o : HO}
theorem ObjOk.lt (x : ObjOk P w H h a o) : a < h.objs.size := by
  cases o with
  | lst xs => obtain ⟨_, _, _, _, e⟩ := x; exact Heap.lt_size e
  | tup xs => obtain ⟨_, _, _, p⟩ := x; exact p.lt
  | dK kvs => obtain ⟨_, _, _, _, o, _, _, e, _⟩ := x; exact Heap.lt_size e
  | dT kvs => obtain ⟨_, _, _, _, o, _, _, e, _⟩ := x; exact Heap.lt_size e
  | set S n => obtain ⟨o, _, _, _, e, _⟩ := x; exact Heap.lt_size e
  | ins C dx fs => obtain ⟨_, _, _, e, _⟩ := x; exact Heap.lt_size e
  | own y => obtain ⟨_, e⟩ := x; exact Heap.lt_size e
  | xd fs => obtain ⟨_, ⟨_, _, _, e, _⟩, _⟩ := x; exact Heap.lt_size e
  | rng lo hi => obtain ⟨_, _, _, e⟩ := x; exact Heap.lt_size e
  | frz ob u => obtain ⟨e, _⟩ := x; exact Heap.lt_size e
  | tbl ps => exact Heap.lt_size (show h.get? a = some _ from x)
  | met f y => exact Heap.lt_size (show h.get? a = some _ from x)
  | ext φ => obtain ⟨_, ⟨_, e⟩, _⟩ := x; exact Heap.lt_size e
theorem Paired.mapP {α β : Type} {F G : α → β → Prop} {l₁ : List α} {l₂ : List β} (h : Paired F l₁ l₂) (f : ∀ a b, F a b → G a b) : Paired G l₁ l₂ := by
  induction h with
  | nil => exact .nil
  | cons r _ ih => exact .cons (f _ _ r) ih
theorem ObjOk.stay (x : ObjOk P w H h a o) (k : ∀ b u, (b = a ∨ H b = some (.own a)) → h.get? b = some u → h'.get? b = some u)
    (ho : ∀ b, H b = some (.own a) → H' b = some (.own a)) (ht : ∀ b xs, H b = some (.tup xs) → H' b = some (.tup xs)) : ObjOk P w H' h' a o := by
  induction o with
  | lst xs => obtain ⟨z, its, n, r, e⟩ := x; exact ⟨z, its, n, r, k _ _ (.inl rfl) e⟩
  | tup xs => obtain ⟨z, its, r, ob, e, c⟩ := x; exact ⟨z, its, r, ob, k _ _ (.inl rfl) e, c⟩
  | dK kvs => obtain ⟨z, y, vs, r, ob, es, ep, e, c⟩ := x; exact ⟨z, y, vs, r, ob, es, ep, k _ _ (.inl rfl) e, c⟩
  | dT kvs =>
    obtain ⟨z, y, xs, r, ob, es, ep, e, c⟩ := x
    exact ⟨z, y, xs, Paired.mapP r fun p q z => ⟨z.1, ht _ _ z.2.1, z.2.2⟩, ob, es, ep, k _ _ (.inl rfl) e, c⟩
  | set S n => obtain ⟨ob, es, ep, t, e, c⟩ := x; exact ⟨ob, es, ep, t, k _ _ (.inl rfl) e, c⟩
  | ins C dx fs =>
    obtain ⟨d, z, ne, e, mA, ⟨od, es, ep, e2, c⟩, r⟩ := x
    exact ⟨ho _ d, z, ne, k _ _ (.inl rfl) e, mA, ⟨od, es, ep, k _ _ (.inr d) e2, c⟩, r⟩
  | own y => obtain ⟨ob, e⟩ := x; exact ⟨ob, k _ _ (.inl rfl) e⟩
  | xd fs => obtain ⟨mA, ⟨od, es, ep, e, c⟩, r⟩ := x; exact ⟨mA, ⟨od, es, ep, k _ _ (.inl rfl) e, c⟩, r⟩
  | rng lo hi => obtain ⟨t, u, v, e⟩ := x; exact ⟨t, u, v, k _ _ (.inl rfl) e⟩
  | frz ob u ih => obtain ⟨e, q⟩ := x; exact ⟨k _ _ (.inl rfl) e, ih q⟩
  | tbl ps =>
    have e : h.get? a = some { cls := .none, data := .fields ps } := x
    show h'.get? a = some { cls := .none, data := .fields ps }
    exact k a _ (.inl rfl) e
  | met f y =>
    have e : h.get? a = some (PySem.W.methodObj (.ref f) (.ref y)) := x
    show h'.get? a = some (PySem.W.methodObj (.ref f) (.ref y))
    exact k a _ (.inl rfl) e
  | ext φ => obtain ⟨p, ⟨o, e⟩, st⟩ := x; exact ⟨st _ _ p fun o q => k _ _ (.inl rfl) q, ⟨o, k _ _ (.inl rfl) e⟩, st⟩
theorem HOk.lt (x : HOk P w H h) (e : H a = some o) : a < h.objs.size := (x a o e).lt
theorem HOk.fresh (x : HOk P w H h) (e : h.objs.size ≤ a) : H a = none := by
  cases q : H a with
  | none => rfl
  | some u => exact absurd (Nat.lt_of_lt_of_le (x.lt q) e) (Nat.lt_irrefl _)
theorem HOk.kept (x : HOk P w H h) (k : ∀ b u, h.get? b = some u → h'.get? b = some u) : HOk P w H h' := fun a o e =>
  (x a o e).stay (fun b u _ q => k b u q) (fun _ q => q) fun _ _ q => q
theorem HOk.laid (x : HOk P w H h) (k : ∀ b u, h.get? b = some u → h'.get? b = some u) (hp : h.objs.size ≤ a) (new : ObjOk P w (upd H a o) h' a o) : HOk P w (upd H a o) h' := fun b u e => by
  have hn := x.fresh hp
  by_cases hb : b = a
  · subst hb; rw [upd_same] at e; cases e; exact new
  · rw [upd_ne hb] at e
    exact (x b u e).stay (fun c v _ q => k c v q) (fun c q => by rw [upd_ne (ne_of_none q hn)]; exact q) fun c xs q => by rw [upd_ne (ne_of_none q hn)]; exact q
end
noncomputable def Rd (H : Hp) (a : Addr) (u : HO) : Prop := H a = some u ∨ ∃ o, H a = some (.frz o u)
theorem Rd.ok {P : Program} {w : World} {H : Hp} {h : Heap} {a : Addr} {u : HO} (r : Rd H a u) (x : HOk P w H h) : ObjOk P w H h a u := by
  rcases r with r | ⟨o, r⟩
  · exact x a u r
  · obtain ⟨_, q⟩ := x a _ r
    exact q
noncomputable def Mut : Option HO → Prop
  | some (.lst _) => True
  | some (.dK _) => True
  | some (.dT _) => True
  | some (.set _ _) => True
  | some (.ins _ _ _) => True
  | some (.ext _) => True
  | _ => False
section
variable {P : Program} {w : World} {H : Hp} {h h' : Heap} {x e : Addr} {o' : HO}
theorem HOk.write (ok : HOk P w H h) (mu : Mut (H x)) (he : e = x ∨ H e = some (.own x)) (k : ∀ b u, b ≠ e → h.get? b = some u → h'.get? b = some u) (heo : ∃ u, h'.get? e = some u)
    (new : ObjOk P w (upd H x o') h' x o') : HOk P w (upd H x o') h' := fun b u q => by
  have nown : ∀ c y, H c = some (.own y) → c ≠ x := fun c y r z => by subst z; rw [r] at mu; exact mu
  have ntup : ∀ c xs, H c = some (.tup xs) → c ≠ x := fun c xs r z => by subst z; rw [r] at mu; exact mu
  by_cases hb : b = x
  · subst hb; rw [upd_same] at q; cases q; exact new
  · rw [upd_ne hb] at q
    by_cases hbe : b = e
    · have q' : H b = some (.own x) := by
        rcases he with z | z
        · exact absurd (hbe.trans z) hb
        · rw [hbe]; exact z
      rw [q] at q'; cases q'
      obtain ⟨v, hv⟩ := heo
      exact ⟨v, by rw [hbe]; exact hv⟩
    · refine (ok b u q).stay (fun c v hc r => k c v ?_ r) (fun c r => by rw [upd_ne (nown c b r)]; exact r) fun c xs r => by rw [upd_ne (ntup c xs r)]; exact r
      rcases hc with rfl | hc
      · exact hbe
      · rintro rfl
        rcases he with z | z
        · exact nown c b hc z
        · rw [hc] at z; cases z; exact hb rfl
end
structure Un (fs ex : List Addr) (H H' : Hp) (h h' : Heap) : Prop where
  keep : ∀ b o, h.get? b = some o → H b = none → b ∉ fs → b ∉ ex → h'.get? b = some o
  slot : ∀ b o, h.get? b = some o → H b = none → b ∈ fs → b ∉ ex → ∃ sl, h'.get? b = some { o with slots := sl }
  free : ∀ b o, h.get? b = some o → H b = none → b ∉ ex → H' b = none
  there : ∀ b o, h.get? b = some o → b ∉ ex → ∃ o', h'.get? b = some o'
  tups : ∀ b xs, H b = some (.tup xs) → H' b = some (.tup xs)
  frzs : ∀ b o u, H b = some (.frz o u) → H' b = some (.frz o u)
  tbls : ∀ b ps, H b = some (.tbl ps) → ∃ more, H' b = some (.tbl (ps ++ more))
section
variable {fs fs' ex ex' : List Addr} {H H1 H2 : Hp} {h h1 h2 h' : Heap} {a x e : Addr} {o : HO}
theorem Un.any (u : Un fs ex H H1 h h1) {b : Addr} {ob : Obj} (q : h.get? b = some ob) (n : H b = none) (hx : b ∉ ex) : ∃ sl, h1.get? b = some { ob with slots := sl } := by
  by_cases hb : b ∈ fs
  · exact u.slot b ob q n hb hx
  · exact ⟨ob.slots, u.keep b ob q n hb hx⟩
theorem Un.trans (a : Un fs ex H H1 h h1) (b : Un fs ex H1 H2 h1 h2) : Un fs ex H H2 h h2 where
  keep := fun c ob q n hc hx => b.keep c ob (a.keep c ob q n hc hx) (a.free c ob q n hx) hc hx
  slot := fun c ob q n hc hx => by
    obtain ⟨sl, e1⟩ := a.slot c ob q n hc hx
    obtain ⟨sl', e2⟩ := b.slot c _ e1 (a.free c ob q n hx) hc hx
    exact ⟨sl', e2⟩
  free := fun c ob q n hx => by
    obtain ⟨o', e1⟩ := a.there c ob q hx
    exact b.free c o' e1 (a.free c ob q n hx) hx
  there := fun c ob q hx => by
    obtain ⟨o', e1⟩ := a.there c ob q hx
    exact b.there c o' e1 hx
  tups := fun c xs q => b.tups c xs (a.tups c xs q)
  frzs := fun c ob xs q => b.frzs c ob xs (a.frzs c ob xs q)
  tbls := fun c ps q => by
    obtain ⟨m1, e1⟩ := a.tbls c ps q
    obtain ⟨m2, e2⟩ := b.tbls c _ e1
    exact ⟨m1 ++ m2, by rw [e2, Array.append_assoc]⟩
theorem Un.kept (k : ∀ b u, h.get? b = some u → h'.get? b = some u) : Un fs ex H H h h' :=
  ⟨fun b ob q _ _ _ => k b ob q, fun b ob q _ _ _ => ⟨ob.slots, k b ob q⟩, fun _ _ _ n _ => n, fun b ob q _ => ⟨ob, k b ob q⟩, fun _ _ q => q, fun _ _ _ q => q, fun _ ps q => ⟨#[], by rw [q]; simp⟩⟩
theorem Un.refl : Un fs ex H H h h := Un.kept fun _ _ q => q
theorem Un.laid (k : ∀ b u, h.get? b = some u → h'.get? b = some u) (hp : h.objs.size ≤ a) (hn : H a = none) : Un fs ex H (upd H a o) h h' where
  keep := fun b u q _ _ _ => k b u q
  slot := fun b u q _ _ _ => ⟨u.slots, k b u q⟩
  free := fun b u q n _ => by rw [upd_ne (Nat.ne_of_lt (Nat.lt_of_lt_of_le (Heap.lt_size q) hp))]; exact n
  there := fun b u q _ => ⟨u, k b u q⟩
  tups := fun b xs q => by rw [upd_ne (ne_of_none q hn)]; exact q
  frzs := fun b u xs q => by rw [upd_ne (ne_of_none q hn)]; exact q
  tbls := fun b ps q => ⟨#[], by rw [upd_ne (ne_of_none q hn), q]; simp⟩
theorem Un.write (mu : Mut (H x)) (he : e = x ∨ H e = some (.own x)) (k : ∀ b u, b ≠ e → h.get? b = some u → h'.get? b = some u) (heo : ∃ u, h'.get? e = some u) : Un fs ex H (upd H x o) h h' := by
  have hx : ∀ b, H b = none → b ≠ x := fun b n z => by subst z; rw [n] at mu; exact mu
  have hb : ∀ b, H b = none → b ≠ e := fun b n z => by
    subst z
    rcases he with r | r
    · exact hx b n r
    · rw [n] at r; cases r
  have hm : ∀ b u, H b = some u → ¬ Mut (some u) → b ≠ x := fun b u q nm z => by subst z; rw [q] at mu; exact nm mu
  refine ⟨fun b u q n _ _ => k b u (hb b n) q, fun b u q n _ _ => ⟨u.slots, k b u (hb b n) q⟩, fun b u q n _ => by rw [upd_ne (hx b n)]; exact n, fun b u q _ => ?_,
    fun b xs q => by rw [upd_ne (hm b _ q fun z => z)]; exact q, fun b u xs q => by rw [upd_ne (hm b _ q fun z => z)]; exact q, fun b ps q => ⟨#[], by rw [upd_ne (hm b _ q fun z => z), q]; simp⟩⟩
  by_cases hbe : b = e
  · subst hbe; exact heo
  · exact ⟨u, k b u hbe q⟩
end
noncomputable def trk (h : Heap) (H : Hp) : List Addr := (List.range h.objs.size).filter fun a => (H a).isSome
noncomputable def hidT (h : Heap) (H : Hp) : Heap := PySem.W.hideAll h (trk h H)
theorem hidT_size (h : Heap) (H : Hp) : (hidT h H).objs.size = h.objs.size := PySem.W.hideAll_size _ _
theorem hidT_get {h : Heap} {H : Hp} {b : Addr} {o : Obj} (e : h.get? b = some o) (n : H b = none) : (hidT h H).get? b = some o :=
  PySem.W.hideAll_get _ e fun hm => by
    have q : (H b).isSome = true := (List.mem_filter.mp hm).2
    rw [n] at q; simp at q
theorem of_hidT {h : Heap} {H : Hp} {b : Addr} {o : Obj} (e : (hidT h H).get? b = some o) : h.get? b = some o ∧ H b = none := by
  have e' : h.get? b = some o := PySem.W.of_hideAll (trk h H) e
  refine ⟨e', ?_⟩
  cases q : H b with
  | none => rfl
  | some x =>
    have hm : b ∈ trk h H := List.mem_filter.mpr ⟨List.mem_range.mpr (Heap.lt_size e'), by simp [q]⟩
    have z : (hidT h H).get? b = none := PySem.W.hideAll_none (trk h H) hm
    rw [z] at e; cases e
noncomputable def allNews (g h : Heap) (L : Addr) : List (Addr × Obj) := (List.range h.objs.size).filterMap fun a => if a = L ∨ (g.get? a).isSome = true then none else (h.get? a).map fun o => (a, o)
noncomputable def rest (g h : Heap) (L d : Addr) : List (Addr × Obj) := (allNews g h L).filter fun p => decide (p.1 ≠ d)
end L2
namespace L2
open PySem PySem.Spec PyProof.Rows
structure Mod (K : PySem.W.Frag) (mg : Str → Option Value) (base : Heap) : Prop where
  kin : K.In base
  glob : base.Ns mainGlobals mg
  blt : ∃ mb, base.Ns builtinsNs mb ∧ ∀ x : Str, x ≠ "__name__" → mb x = bootBuiltins x
  nolimit : base.NoLimit
structure Cx where
  prog : Program
  w : World
  K : PySem.W.Frag
  mg : Str → Option Value
  base : Heap
  A : Around
  N : List Str
  s₀ : Shared
  H₀ : Hp
  env : Env
  outer : List Env
  stack : List Env
  ex : List Addr
  fn : Str → Bool
  calm : Bool
  pn : List (Addr × Obj)
  xe : Value → Shared → Prop
noncomputable def frs (l : List Env) : List Addr := l.filterMap (·.frame)
noncomputable abbrev Cx.fs (X : Cx) : List Addr := frs X.outer
noncomputable def Vis (sc : Scope) (x : Str) : Prop := sc.names.lookup x = some .local ∨ sc.names.lookup x = some .cell ∨ sc.names.lookup x = some .free
noncomputable def Loc (sc : Scope) (x : Str) : Prop := sc.names.lookup x = some .local ∨ sc.names.lookup x = some .cell
noncomputable def Look (env : Env) (h : Heap) (m : Str → Option Value) (x : Str) (u : Value) : Prop :=
  (env.kindOf x = some .local ∧ m x = some u) ∨ ((env.kindOf x = some .cell ∨ env.kindOf x = some .free) ∧ ∃ c, env.cells.lookup x = some c ∧ h.IsCell c (some u))
structure Cx.Ok (X : Cx) : Prop where
  mod : Mod X.K X.mg X.base
  kind : X.env.scope.kind = .function
  glob : X.env.globals = mainGlobals
  blt : X.env.builtins = builtinsNs
  above : X.s₀.heap.objs.size ≤ X.env.locals
  inj : ∀ x y c, X.env.cells.lookup x = some c → X.env.cells.lookup y = some c → x = y
  has : ∀ x, (X.env.kindOf x = some .cell ∨ X.env.kindOf x = some .free) → ∃ c, X.env.cells.lookup x = some c
  cab : ∀ x c, X.fn x = true → X.env.cells.lookup x = some c → X.s₀.heap.objs.size ≤ c
  hd : X.calm = true → X.A.handled = none
  frames : X.A.frames = some X.stack
  stk : X.stack = X.outer ∨ (X.stack = X.env :: X.outer ∧ X.env.frame = some X.env.locals)
  exf : ∀ b ∈ X.ex, b ≠ X.env.locals ∧ ∀ x c, X.env.cells.lookup x = some c → c ≠ b
  bs : ∀ b o, X.base.get? b = some o → X.s₀.heap.get? b = some o ∧ X.H₀ b = none
  bsz : X.base.objs.size ≤ X.s₀.heap.objs.size
  noex : ∀ b o, X.base.get? b = some o → b ∉ X.ex
  exfs : ∀ b ∈ X.ex, b ∉ X.fs
  funs : X.s₀.heap.FunFrames X.base X.outer
  frf : ∀ b ∈ X.fs, X.H₀ b = none
structure Inv (X : Cx) (pins : List (Addr × Obj)) (σ : List (Option V)) (H : Hp) (s : Shared) : Prop where
  ok : X.Ok
  os : s.os = X.s₀.os
  bare : AllBare s.gens
  base : Un X.fs X.ex X.H₀ H X.s₀.heap s.heap
  loc : ∃ m, s.heap.Ns X.env.locals m ∧ ∀ (i : Nat) (x : Str) (v : V), X.N[i]? = some x → σ[i]? = some (some v) → Vis X.env.scope x → ∃ u, RelV v u ∧ Look X.env s.heap m x u
  cell : ∀ x c, X.env.cells.lookup x = some c → ∃ v, s.heap.IsCell c v
  free : H X.env.locals = none
  freeC : ∀ x c, X.env.cells.lookup x = some c → H c = none
  pin : ∀ p ∈ X.pn ++ pins, s.heap.get? p.1 = some p.2 ∧ H p.1 = none ∧ p.1 ≠ X.env.locals ∧ p.1 ∉ X.fs ∧ ∀ v, p.2.data ≠ .cell v
  hok : HOk X.prog X.w H s.heap
  len : σ.length = X.N.length
section
variable {X : Cx} {pins : List (Addr × Obj)} {σ : List (Option V)} {H H' : Hp} {s : Shared} {h' : Heap}
theorem Cx.Ok.nofr (ok : X.Ok) {b : Addr} {o : Obj} (e : X.base.get? b = some o) : b ∉ X.fs := fun hb => by
  have := (ok.funs.mem hb).1
  rw [e] at this; cases this
theorem Inv.bs (I : Inv X pins σ H s) : ∀ b o, X.base.get? b = some o → s.heap.get? b = some o ∧ H b = none := fun b o e =>
  ⟨I.base.keep b o (I.ok.bs b o e).1 (I.ok.bs b o e).2 (I.ok.nofr e) (I.ok.noex b o e), I.base.free b o (I.ok.bs b o e).1 (I.ok.bs b o e).2 (I.ok.noex b o e)⟩
theorem Inv.bk (I : Inv X pins σ H s) : ∀ b o, X.base.get? b = some o → s.heap.get? b = some o := fun b o e => (I.bs b o e).1
theorem Inv.mod (I : Inv X pins σ H s) : Mod X.K X.mg X.base := I.ok.mod
theorem Inv.kIn (I : Inv X pins σ H s) : X.K.In s.heap := I.ok.mod.kin.keeps I.bk
theorem Inv.nolimit (I : Inv X pins σ H s) : s.heap.NoLimit := I.ok.mod.nolimit.keeps I.bk
theorem Inv.fr (I : Inv X pins σ H s) : ∃ m, Fr X.base X.env.locals s.heap m :=
  let ⟨m, hn, _⟩ := I.loc
  ⟨m, hn, I.bk, Nat.le_trans I.ok.bsz I.ok.above⟩
theorem Inv.lt (I : Inv X pins σ H s) : X.env.locals < s.heap.objs.size := let ⟨_, hn, _⟩ := I.loc; hn.lt
theorem Inv.sz (I : Inv X pins σ H s) : X.s₀.heap.objs.size ≤ s.heap.objs.size := Nat.le_trans I.ok.above (Nat.le_of_lt I.lt)
theorem Inv.nofs (I : Inv X pins σ H s) {a : Addr} (h : s.heap.objs.size ≤ a) : a ∉ X.fs := fun hb => by
  obtain ⟨_, o, ho, _⟩ := I.ok.funs.mem hb
  exact absurd (Nat.lt_of_lt_of_le (Heap.lt_size ho) (Nat.le_trans I.sz h)) (Nat.lt_irrefl _)
theorem Inv.cne (I : Inv X pins σ H s) : ∀ x c, X.env.cells.lookup x = some c → c ≠ X.env.locals := fun x c e z => by
  obtain ⟨v, o, ho, hd⟩ := I.cell x c e
  obtain ⟨m, ⟨o', es, ep, ho', hd', _⟩, _⟩ := I.loc
  rw [z, ho'] at ho; cases ho; rw [hd'] at hd; cases hd
theorem Inv.funs (I : Inv X pins σ H s) : s.heap.FunFrames X.base X.outer := by
  have all : ∀ (l : List Env), (∀ b ∈ frs l, b ∈ X.fs) → X.s₀.heap.FunFrames X.base l → s.heap.FunFrames X.base l := by
    intro l
    induction l with
    | nil => intro _ _; trivial
    | cons env r ih =>
      intro hs hl
      obtain ⟨hk, ⟨L, o, hf, hn, ho, hd⟩, hr⟩ := hl
      have hL : L ∈ X.fs := hs L (by unfold frs; rw [List.filterMap_cons, hf]; exact List.mem_cons_self)
      obtain ⟨sl, e⟩ := I.base.slot L o ho (I.ok.frf L hL) hL fun z => I.ok.exfs L z hL
      exact ⟨hk, ⟨L, _, hf, hn, e, hd⟩, ih (fun b hb => hs b (by unfold frs; rw [List.filterMap_cons, hf]; exact List.mem_cons_of_mem _ hb)) hr⟩
  exact all X.outer (fun _ hb => hb) I.ok.funs
theorem Inv.stack (I : Inv X pins σ H s) : s.heap.FunFrames X.base X.stack := by
  rcases I.ok.stk with e | ⟨e, hf⟩
  · rw [e]; exact I.funs
  · rw [e]
    obtain ⟨m, hn, _⟩ := I.loc
    refine .cons (by rw [I.ok.kind]; decide) hf hn ?_ I.funs
    exact Heap.get?_none_of_le (Nat.le_trans I.ok.bsz I.ok.above)
theorem Inv.stkSub (I : Inv X pins σ H s) : ∀ b ∈ frs X.stack, b ∈ X.env.locals :: X.fs := fun b hb => by
  rcases I.ok.stk with e | ⟨e, hf⟩
  · rw [e] at hb; exact List.mem_cons_of_mem _ hb
  · rw [e] at hb
    unfold frs at hb
    rw [List.filterMap_cons, hf] at hb
    exact hb
theorem Inv.stkFree (I : Inv X pins σ H s) : ∀ b ∈ frs X.stack, H b = none := fun b hb => by
  rcases List.mem_cons.mp (I.stkSub b hb) with e | hb
  · rw [e]; exact I.free
  · obtain ⟨_, o, ho, _⟩ := I.ok.funs.mem hb
    exact I.base.free b o ho (I.ok.frf b hb) fun z => I.ok.exfs b z hb
theorem Inv.step {g' : Array GenState} {t' : Nat} {d' : Drawn} {ch : List Addr} (I : Inv X pins σ H s)
    (hch : ∀ b ∈ ch, (b ∈ X.ex ∨ X.s₀.heap.objs.size ≤ b) ∧ b ≠ X.env.locals ∧ (∀ x c, X.env.cells.lookup x = some c → c ≠ b) ∧ ∀ p ∈ X.pn ++ pins, p.1 ≠ b)
    (keep : ∀ b o, b ≠ X.env.locals → b ∉ X.fs → b ∉ ch → s.heap.get? b = some o → H b = none → h'.get? b = some o)
    (slot : ∀ b o, b ≠ X.env.locals → b ∈ X.fs → b ∉ ch → s.heap.get? b = some o → H b = none → ∃ sl, h'.get? b = some { o with slots := sl }) (free : ∀ b o, b ∉ ch → s.heap.get? b = some o → H b = none → H' b = none)
    (there : ∀ b o, b ∉ ch → s.heap.get? b = some o → ∃ o', h'.get? b = some o')
    (tups : ∀ b xs, H b = some (.tup xs) → H' b = some (.tup xs)) (frzs : ∀ b o u, H b = some (.frz o u) → H' b = some (.frz o u)) (tbls : ∀ b ps, H b = some (.tbl ps) → ∃ more, H' b = some (.tbl (ps ++ more)))
    (ns : ∀ m, s.heap.Ns X.env.locals m → h'.Ns X.env.locals m) (hok : HOk X.prog X.w H' h') (hg : AllBare g') :
    Inv X pins σ H' { s with heap := h', gens := g', drawn := d', toks := t' } := by
  have neL : ∀ b o, X.s₀.heap.get? b = some o → b ≠ X.env.locals := fun b o e => Nat.ne_of_lt (Nat.lt_of_lt_of_le (Heap.lt_size e) I.ok.above)
  have neC : ∀ b o, X.s₀.heap.get? b = some o → b ∉ X.ex → b ∉ ch := fun b o e hx hb => by
    rcases (hch b hb).1 with z | z
    · exact hx z
    · exact absurd (Nat.lt_of_lt_of_le (Heap.lt_size e) z) (Nat.lt_irrefl _)
  have cellK : ∀ x c, X.env.cells.lookup x = some c → ∀ v, s.heap.IsCell c v → h'.IsCell c v := fun x c e v ⟨o, ho, hd⟩ => by
    have nch : c ∉ ch := fun z => (hch c z).2.2.1 x c e rfl
    by_cases hc : c ∈ X.fs
    · obtain ⟨sl, q⟩ := slot c o (I.cne x c e) hc nch ho (I.freeC x c e)
      exact ⟨_, q, hd⟩
    · exact ⟨o, keep c o (I.cne x c e) hc nch ho (I.freeC x c e), hd⟩
  refine ⟨I.ok, I.os, hg, ⟨fun b o e n hb hx => ?_, fun b o e n hb hx => ?_, fun b o e n hx => ?_, fun b o e hx => ?_, fun b xs e => tups b xs (I.base.tups b xs e), fun b o xs e => frzs b o xs (I.base.frzs b o xs e), fun b ps e => ?_⟩, ?_, fun x c e => ?_, ?_, fun x c e => ?_, fun p hp => ?_, hok, I.len⟩
  · exact keep b o (neL b o e) hb (neC b o e hx) (I.base.keep b o e n hb hx) (I.base.free b o e n hx)
  · obtain ⟨sl, e1⟩ := I.base.slot b o e n hb hx
    obtain ⟨sl', e2⟩ := slot b _ (neL b o e) hb (neC b o e hx) e1 (I.base.free b o e n hx)
    exact ⟨sl', e2⟩
  · obtain ⟨o', e1⟩ := I.base.there b o e hx
    exact free b o' (neC b o e hx) e1 (I.base.free b o e n hx)
  · obtain ⟨o', e1⟩ := I.base.there b o e hx
    exact there b o' (neC b o e hx) e1
  · obtain ⟨m1, e1⟩ := I.base.tbls b ps e
    obtain ⟨m2, e2⟩ := tbls b _ e1
    exact ⟨m1 ++ m2, by rw [e2, Array.append_assoc]⟩
  · obtain ⟨m, hn, hl⟩ := I.loc
    refine ⟨m, ns m hn, fun i x v e1 e2 e3 => ?_⟩
    obtain ⟨u, r, l⟩ := hl i x v e1 e2 e3
    refine ⟨u, r, ?_⟩
    rcases l with l | ⟨k, c, e, z⟩
    · exact .inl l
    · exact .inr ⟨k, c, e, cellK x c e _ z⟩
  · obtain ⟨v, z⟩ := I.cell x c e
    exact ⟨v, cellK x c e v z⟩
  · obtain ⟨m, ⟨o, _, _, ho, _⟩, _⟩ := I.loc
    exact free _ o (fun z => (hch _ z).2.1 rfl) ho I.free
  · obtain ⟨v, o, ho, hd⟩ := I.cell x c e
    exact free c o (fun z => (hch c z).2.2.1 x c e rfl) ho (I.freeC x c e)
  · obtain ⟨e, n, ne, nf, d⟩ := I.pin p hp
    have nch : p.1 ∉ ch := fun z => (hch p.1 z).2.2.2 p hp rfl
    exact ⟨keep p.1 p.2 ne nf nch e n, free p.1 p.2 nch e n, ne, nf, d⟩
theorem Inv.un {t' : Nat} (I : Inv X pins σ H s) (u : Un X.fs [] H H' s.heap h') (hok : HOk X.prog X.w H' h') : Inv X pins σ H' { s with heap := h', toks := t' } := by
  obtain ⟨m, ⟨o, es, ep, ho, r⟩, _⟩ := id I.loc
  obtain ⟨sl, hL⟩ := u.any ho I.free (by simp)
  exact I.step (g' := s.gens) (d' := s.drawn) (ch := []) (fun _ z => nomatch z) (fun b o _ hb _ e n => u.keep b o e n hb (by simp)) (fun b o _ hb _ e n => u.slot b o e n hb (by simp)) (fun b o _ e n => u.free b o e n (by simp)) (fun b o _ e => u.there b o e (by simp)) u.tups u.frzs u.tbls (fun m' hm => by
    obtain ⟨o', es', ep', ho', r'⟩ := hm
    rw [ho] at ho'; cases ho'
    exact ⟨_, es', ep', hL, r'⟩) hok I.bare
theorem Inv.call {g' : Array GenState} {t' : Nat} {d' : Drawn} {ch : List Addr} (I : Inv X pins σ H s) (u : Un (frs X.stack) ch H H' s.heap h') (hok : HOk X.prog X.w H' h') (hg : AllBare g')
    (hch : ∀ b ∈ ch, (b ∈ X.ex ∨ X.s₀.heap.objs.size ≤ b) ∧ b ≠ X.env.locals ∧ (∀ x c, X.env.cells.lookup x = some c → c ≠ b) ∧ ∀ p ∈ X.pn ++ pins, p.1 ≠ b) :
    Inv X pins σ H' { s with heap := h', gens := g', drawn := d', toks := t' } := by
  obtain ⟨m, ⟨o, es, ep, ho, r⟩, _⟩ := id I.loc
  obtain ⟨sl, hL⟩ := u.any ho I.free fun z => (hch _ z).2.1 rfl
  exact I.step (ch := ch) hch (fun b o hL hb hc e n => u.keep b o e n (fun z => (List.mem_cons.mp (I.stkSub b z)).elim hL hb) hc) (fun b o _ _ hc e n => u.any e n hc) (fun b o hc e n => u.free b o e n hc) (fun b o hc e => u.there b o e hc) u.tups u.frzs u.tbls (fun m' hm => by
    obtain ⟨o', es', ep', ho', r'⟩ := hm
    rw [ho] at ho'; cases ho'
    exact ⟨_, es', ep', hL, r'⟩) hok hg
theorem Inv.turned {t' : Nat} {it : Addr} (I : Inv X pins σ H s) (k : ∀ b o, b ≠ it → s.heap.get? b = some o → h'.get? b = some o) (hn : H it = none) (hL : it ≠ X.env.locals)
    (h1 : it ∈ X.ex ∨ X.s₀.heap.objs.size ≤ it) (h2 : ∀ x c, X.env.cells.lookup x = some c → c ≠ it) (h3 : ∀ p ∈ X.pn ++ pins, p.1 ≠ it) : Inv X pins σ H { s with heap := h', toks := t' } := by
  have nit : ∀ b u, H b = some u → b ≠ it := fun b u e z => by rw [z, hn] at e; cases e
  refine I.step (g' := s.gens) (d' := s.drawn) (ch := [it]) (fun b hb => ?_) (fun b o _ _ hc e _ => k b o (fun z => hc (by simp [z])) e) (fun b o _ _ hc e _ => ⟨o.slots, k b o (fun z => hc (by simp [z])) e⟩) (fun _ _ _ _ n => n)
    (fun b o hc e => ⟨o, k b o (fun z => hc (by simp [z])) e⟩) (fun _ _ e => e) (fun _ _ _ e => e) (fun b ps e => ⟨#[], by rw [e]; simp⟩) (fun m hm => ?_) (fun b u e => ?_) I.bare
  · have e : b = it := by simpa using hb
    subst e
    exact ⟨h1, hL, h2, h3⟩
  · obtain ⟨o, es, ep, ho, r⟩ := hm
    exact ⟨o, es, ep, k _ o (Ne.symm hL) ho, r⟩
  · refine (I.hok b u e).stay (fun c v hc q => k c v ?_ q) (fun _ q => q) fun _ _ q => q
    rcases hc with z | z
    · rw [z]; exact nit b u e
    · exact nit c _ z
theorem Inv.tok (I : Inv X pins σ H s) (t : Nat) : Inv X pins σ H { s with toks := t } := I.un (h' := s.heap) (t' := t) Un.refl I.hok
theorem Inv.kept {t' : Nat} (I : Inv X pins σ H s) (k : ∀ b u, s.heap.get? b = some u → h'.get? b = some u) : Inv X pins σ H { s with heap := h', toks := t' } := I.un (Un.kept k) (I.hok.kept k)
theorem Inv.laid {a : Addr} {o : HO} {t' : Nat} (I : Inv X pins σ H s) (k : ∀ b u, s.heap.get? b = some u → h'.get? b = some u) (hp : s.heap.objs.size ≤ a) (new : ObjOk X.prog X.w (upd H a o) h' a o) :
    Inv X pins σ (upd H a o) { s with heap := h', toks := t' } := I.un (Un.laid k hp (I.hok.fresh hp)) (I.hok.laid k hp new)
theorem Inv.write {x e : Addr} {o : HO} {t' : Nat} (I : Inv X pins σ H s) (mu : Mut (H x)) (he : e = x ∨ H e = some (.own x)) (k : ∀ b u, b ≠ e → s.heap.get? b = some u → h'.get? b = some u) (heo : ∃ u, h'.get? e = some u)
    (new : ObjOk X.prog X.w (upd H x o) h' x o) : Inv X pins σ (upd H x o) { s with heap := h', toks := t' } := I.un (Un.write mu he k heo) (I.hok.write mu he k heo new)
theorem Inv.pins_of {pins' : List (Addr × Obj)} (I : Inv X pins σ H s) (h : ∀ p ∈ pins', s.heap.get? p.1 = some p.2 ∧ H p.1 = none ∧ p.1 ≠ X.env.locals ∧ p.1 ∉ X.fs ∧ ∀ v, p.2.data ≠ .cell v) : Inv X pins' σ H s :=
  ⟨I.ok, I.os, I.bare, I.base, I.loc, I.cell, I.free, I.freeC, fun p hp => (List.mem_append.mp hp).elim (fun z => I.pin p (List.mem_append_left _ z)) (h p), I.hok, I.len⟩
theorem nodup_ix {N : List Str} (hN : N.Nodup) {i j : Nat} {x : Str} (a : N[i]? = some x) (b : N[j]? = some x) : i = j := by
  obtain ⟨h1, e1⟩ := List.getElem?_eq_some_iff.mp a
  obtain ⟨h2, e2⟩ := List.getElem?_eq_some_iff.mp b
  exact (List.getElem_inj hN).mp (e1.trans e2.symm)
theorem store_ok2 {M : Model} {A : Around} {E : Value → Shared → Prop} {i : Nat} {x : Str} {v : V} {u : Value} {Q : Unit → Shared → Prop} (I : Inv X pins σ H s) (hN : X.N.Nodup) (hi : X.N[i]? = some x) (hx : Loc X.env.scope x) (r : RelV v u)
    (h : ∀ s', Inv X pins (σ.set i (some v)) H s' → (∃ a, Heap.SameBut a s.heap s'.heap ∧ (a = X.env.locals ∨ X.env.cells.lookup x = some a)) → Q () s') (hf : X.fn x = true ∨ X.env.scope.names.lookup x = some .local := by first | exact .inl rfl | exact .inr rfl | assumption) : wpAny M A (storeName X.env x u) Q E s := by
  obtain ⟨m, hn, hl⟩ := id I.loc
  have hcls : (X.env.scope.kind == .class || (X.env.scope.kind == .module && X.env.locals != X.env.globals)) = false := by rw [I.ok.kind]; rfl
  have hiσ : i < σ.length := by rw [I.len]; exact (List.getElem?_eq_some_iff.mp hi).1
  have cne := I.cne
  have tracked : ∀ {a : Addr} {h' : Heap}, (∃ o, s.heap.get? a = some o ∧ H a = none) → Heap.SameBut a s.heap h' → HOk X.prog X.w H h' := fun {a h'} ha hs b ob e => by
    obtain ⟨_, _, hfree⟩ := ha
    refine (I.hok b ob e).stay (fun c w' hc q => (hs.2 c ?_).trans q) (fun _ q => q) fun _ _ q => q
    rintro rfl
    rcases hc with rfl | hc
    · rw [hfree] at e; cases e
    · rw [hfree] at hc; cases hc
  rcases hx with hk | hk
  · refine wpAny_storeName_local hk hn (fun h' hn' hs => ?_) hcls
    obtain ⟨oL, _, _, hoL, _⟩ := id hn
    refine h _ ⟨I.ok, I.os, I.bare, ⟨fun b o e n hb hx => ?_, fun b o e n hb hx => ?_, I.base.free, fun b o e hx => ?_, I.base.tups, I.base.frzs, I.base.tbls⟩, ⟨_, hn', fun j y v' e1 e2 e3 => ?_⟩, fun y c e => ?_, I.free, I.freeC, fun p hp => ?_, tracked ⟨oL, hoL, I.free⟩ hs, by simpa using I.len⟩ ⟨_, hs, .inl rfl⟩
    · exact (hs.2 b (Nat.ne_of_lt (Nat.lt_of_lt_of_le (Heap.lt_size e) I.ok.above))).trans (I.base.keep b o e n hb hx)
    · obtain ⟨sl, e1⟩ := I.base.slot b o e n hb hx
      exact ⟨sl, (hs.2 b (Nat.ne_of_lt (Nat.lt_of_lt_of_le (Heap.lt_size e) I.ok.above))).trans e1⟩
    · obtain ⟨o', e1⟩ := I.base.there b o e hx
      exact ⟨o', (hs.2 b (Nat.ne_of_lt (Nat.lt_of_lt_of_le (Heap.lt_size e) I.ok.above))).trans e1⟩
    · by_cases hj : j = i
      · subst hj
        rw [hi] at e1; cases e1
        rw [List.getElem?_set_self hiσ] at e2
        cases e2
        exact ⟨u, r, .inl ⟨hk, by simp⟩⟩
      · rw [List.getElem?_set_ne (Ne.symm hj)] at e2
        obtain ⟨u', r', q⟩ := hl j y v' e1 e2 e3
        refine ⟨u', r', ?_⟩
        rcases q with ⟨k, e⟩ | ⟨k, c, e, z⟩
        · refine .inl ⟨k, ?_⟩
          have : y ≠ x := fun e => hj (nodup_ix hN e1 (e ▸ hi))
          simp [this, e]
        · exact .inr ⟨k, c, e, z.sameBut hs (cne y c e)⟩
    · obtain ⟨w', z⟩ := I.cell y c e
      exact ⟨w', z.sameBut hs (cne y c e)⟩
    · obtain ⟨e, n, ne, nf, d⟩ := I.pin p hp
      exact ⟨(hs.2 p.1 ne).trans e, n, ne, nf, d⟩
  · have hfn : X.fn x = true := by
      rcases hf with z | z
      · exact z
      · rw [z] at hk; cases hk
    obtain ⟨c, hc⟩ := I.ok.has x (.inl hk)
    obtain ⟨w', z⟩ := I.cell x c hc
    refine wpAny_storeName_cell I.ok.kind hk hc z (fun h' hc' hs => ?_)
    obtain ⟨oc, hoc, hocd⟩ := id z
    refine h { s with heap := h' } ⟨I.ok, I.os, I.bare, ⟨fun b o e n hb hx => ?_, fun b o e n hb hx => ?_, I.base.free, fun b o e hx => ?_, I.base.tups, I.base.frzs, I.base.tbls⟩, ⟨m, hn.sameBut hs (Ne.symm (cne x c hc)), fun j y v' e1 e2 e3 => ?_⟩, fun y c' e => ?_, I.free, I.freeC, fun p hp => ?_, tracked ⟨oc, hoc, I.freeC x c hc⟩ hs, by simpa using I.len⟩ ⟨c, hs, .inr hc⟩
    · exact (hs.2 b (Nat.ne_of_lt (Nat.lt_of_lt_of_le (Heap.lt_size e) (I.ok.cab x c hfn hc)))).trans (I.base.keep b o e n hb hx)
    · obtain ⟨sl, e1⟩ := I.base.slot b o e n hb hx
      exact ⟨sl, (hs.2 b (Nat.ne_of_lt (Nat.lt_of_lt_of_le (Heap.lt_size e) (I.ok.cab x c hfn hc)))).trans e1⟩
    · obtain ⟨o', e1⟩ := I.base.there b o e hx
      exact ⟨o', (hs.2 b (Nat.ne_of_lt (Nat.lt_of_lt_of_le (Heap.lt_size e) (I.ok.cab x c hfn hc)))).trans e1⟩
    · by_cases hj : j = i
      · subst hj
        rw [hi] at e1; cases e1
        rw [List.getElem?_set_self hiσ] at e2
        cases e2
        exact ⟨u, r, .inr ⟨.inl hk, c, hc, hc'⟩⟩
      · rw [List.getElem?_set_ne (Ne.symm hj)] at e2
        obtain ⟨u', r', q⟩ := hl j y v' e1 e2 e3
        refine ⟨u', r', ?_⟩
        rcases q with q | ⟨k, c', e, z'⟩
        · exact .inl q
        · refine .inr ⟨k, c', e, z'.sameBut hs ?_⟩
          rintro rfl
          exact hj (nodup_ix hN e1 (I.ok.inj _ _ _ e hc ▸ hi))
    · by_cases hcc : c' = c
      · subst hcc; exact ⟨_, hc'⟩
      · obtain ⟨w2, z2⟩ := I.cell y c' e
        exact ⟨w2, z2.sameBut hs hcc⟩
    · obtain ⟨e, n, ne, nf, d⟩ := I.pin p hp
      refine ⟨(hs.2 p.1 ?_).trans e, n, ne, nf, d⟩
      intro q
      rw [q, hoc] at e
      have q' : oc = p.2 := Option.some.inj e
      exact d w' (by rw [← q']; exact hocd)
theorem store_ok {M : Model} {A : Around} {E : Value → Shared → Prop} {i : Nat} {x : Str} {v : V} {u : Value} {Q : Unit → Shared → Prop} (I : Inv X pins σ H s) (hN : X.N.Nodup) (hi : X.N[i]? = some x) (hx : Loc X.env.scope x) (r : RelV v u)
    (h : ∀ s', Inv X pins (σ.set i (some v)) H s' → Q () s') (hf : X.fn x = true ∨ X.env.scope.names.lookup x = some .local := by first | exact .inl rfl | exact .inr rfl | assumption) : wpAny M A (storeName X.env x u) Q E s :=
  store_ok2 I hN hi hx r (fun s' I' _ => h s' I') hf
theorem Inv.call' {s' : Shared} {ch : List Addr} (I : Inv X pins σ H s) (ho : s'.os = s.os) (u : Un (frs X.stack) ch H H' s.heap s'.heap) (hok : HOk X.prog X.w H' s'.heap) (hg : AllBare s'.gens)
    (hch : ∀ b ∈ ch, (b ∈ X.ex ∨ X.s₀.heap.objs.size ≤ b) ∧ b ≠ X.env.locals ∧ (∀ x c, X.env.cells.lookup x = some c → c ≠ b) ∧ ∀ p ∈ X.pn ++ pins, p.1 ≠ b) : Inv X pins σ H' s' := by
  obtain ⟨h', g', d', t', o'⟩ := s'
  have e : o' = s.os := ho
  subst e
  exact I.call (g' := g') (t' := t') (d' := d') u hok hg hch
end
noncomputable abbrev XK := Value → Option Addr → Hp → Prop
noncomputable abbrev St := List (Option V)
noncomputable abbrev VK := V → Hp → Prop
noncomputable abbrev TE := St → Hp → VK → Prop
noncomputable abbrev TT := St → Hp → (Bool → Hp → Prop) → Prop
noncomputable abbrev TA := St → Hp → (List V → Hp → Prop) → Prop
structure Ends where
  nx : St → Hp → Prop
  rt : VK
  bk : St → Hp → Prop := fun _ _ => False
  ct : St → Hp → Prop := fun _ _ => False
noncomputable abbrev TS := Ends → St → Hp → Prop
noncomputable def EP (X : Cx) (pins : List (Addr × Obj)) (σ : St) (Q : VK) (u : Value) (s' : Shared) : Prop := ∃ v H', Inv X pins σ H' s' ∧ RelV v u ∧ Q v H'
noncomputable def TP (X : Cx) (pins : List (Addr × Obj)) (σ : St) (Q : Bool → Hp → Prop) (b : Bool) (s' : Shared) : Prop := ∃ H', Inv X pins σ H' s' ∧ Q b H'
noncomputable def AP (X : Cx) (pins : List (Addr × Obj)) (σ : St) (Q : List V → Hp → Prop) (us : List Value) (s' : Shared) : Prop := ∃ vs H', Inv X pins σ H' s' ∧ Vals vs us ∧ Q vs H'
noncomputable def SP (X : Cx) (pins : List (Addr × Obj)) (D : Ends) (f : Flow) (s' : Shared) : Prop :=
  match f with
  | .next => ∃ σ' H', Inv X pins σ' H' s' ∧ D.nx σ' H'
  | .brk => ∃ σ' H', Inv X pins σ' H' s' ∧ D.bk σ' H'
  | .cont => ∃ σ' H', Inv X pins σ' H' s' ∧ D.ct σ' H'
  | .ret u => ∃ v σ' H', Inv X pins σ' H' s' ∧ RelV v u ∧ D.rt v H'
noncomputable def PE (X : Cx) (e : Expr) (t : TE) : Prop :=
  ∀ (pins : List (Addr × Obj)) (s : Shared) (σ : St) (H : Hp) (Q : VK), Inv X pins σ H s → t σ H Q → wpAny (model X.prog X.w) X.A (eval e X.env) (EP X pins σ Q) X.xe s
noncomputable def PT (X : Cx) (e : Expr) (t : TT) : Prop :=
  ∀ (pins : List (Addr × Obj)) (s : Shared) (σ : St) (H : Hp) (Q : Bool → Hp → Prop), Inv X pins σ H s → t σ H Q → wpAny (model X.prog X.w) X.A (isTrue e X.env (eval e X.env)) (TP X pins σ Q) X.xe s
noncomputable def PW (X : Cx) (e : Expr) (t : TT) : Prop :=
  ∀ (whole : Sem Value) (pins : List (Addr × Obj)) (s : Shared) (σ : St) (H : Hp) (Q : Bool → Hp → Prop), Inv X pins σ H s → t σ H Q → wpAny (model X.prog X.w) X.A (isTrue e X.env whole) (TP X pins σ Q) X.xe s
theorem PW.pt {X : Cx} {e : Expr} {t : TT} (h : PW X e t) : PT X e t := h _
noncomputable def PA (X : Cx) (es : List Expr) (t : TA) : Prop :=
  ∀ (pos : Pos) (pins : List (Addr × Obj)) (s : Shared) (σ : St) (H : Hp) (Q : List V → Hp → Prop), Inv X pins σ H s → t σ H Q → wpAny (model X.prog X.w) X.A (spliced (backTo pos (starEach es X.env))) (AP X pins σ Q) X.xe s
noncomputable def PS (X : Cx) (st : Stmt) (t : TS) : Prop :=
  ∀ (pins : List (Addr × Obj)) (s : Shared) (σ : St) (H : Hp) (D : Ends), Inv X pins σ H s → t D σ H → wpAny (model X.prog X.w) X.A (exec st X.env) (SP X pins D) X.xe s
noncomputable def PSs (X : Cx) (st : List Stmt) (t : TS) : Prop :=
  ∀ (pins : List (Addr × Obj)) (s : Shared) (σ : St) (H : Hp) (D : Ends), Inv X pins σ H s → t D σ H → wpAny (model X.prog X.w) X.A (execs st X.env) (SP X pins D) X.xe s
theorem thn {α : Type} {t : Sem α} {Q Q' : α → Shared → Prop} {M : Model} {A : Around} {E : Value → Shared → Prop} {s : Shared} (h : wpAny M A t Q E s) (hQ : ∀ a s, Q a s → Q' a s) : wpAny M A t Q' E s := wpAny_mono h hQ fun _ _ x => x
end L2
namespace L2
open PySem PySem.Spec PyProof.Rows
section
variable {X : Cx}
theorem bin {a b : Expr} {ta tb : TE} (ha : PE X a ta) (hb : PE X b tb) {pins : List (Addr × Obj)} {s : Shared} {σ : St} {H : Hp} {R : V → V → Hp → Prop} (I : Inv X pins σ H s) (h : ta σ H fun x H1 => tb σ H1 fun y H2 => R x y H2)
    {α : Type} {Q : α → Shared → Prop} {f : Value → Value → Sem α}
    (hf : ∀ v u s2 x y H2, Inv X pins σ H2 s2 → RelV x v → RelV y u → R x y H2 → wpAny (model X.prog X.w) X.A (f v u) Q X.xe s2) :
    wpAny (model X.prog X.w) X.A (eval a X.env) (fun v s₁ => wpAny (model X.prog X.w) X.A (eval b X.env) (fun u s₂ => wpAny (model X.prog X.w) X.A (f v u) Q X.xe s₂) X.xe s₁) X.xe s := by
  refine thn (ha pins s σ H _ I h) fun v s1 hzz => ?_
  obtain ⟨x, H1, I1, r1, q1⟩ := hzz
  refine thn (hb pins s1 σ H1 _ I1 q1) fun u s2 hzz => ?_
  obtain ⟨y, H2, I2, r2, q2⟩ := hzz
  exact hf v u s2 x y H2 I2 r1 r2 q2
noncomputable def tVar (i : Nat) : TE := fun σ H Q => ∃ v, σ[i]? = some (some v) ∧ Q v H
noncomputable def tC (v : V) : TE := fun _ H Q => Q v H
theorem pe_var {i : Nat} {x : Str} {pos : Pos} (hN : X.N[i]? = some x) (hv : Vis X.env.scope x) (hd : (x == ("__debug__" : Str)) = false := by decide) (hcd : (x == ("__classdict__" : Str)) = false := by decide) : PE X (.Name x pos) (tVar i) := by
  intro pins s σ H Q I h
  obtain ⟨v, e, h⟩ := h
  obtain ⟨m, hn, hl⟩ := I.loc
  obtain ⟨u, r, l⟩ := hl i x v hN e hv
  have fin : EP X pins σ Q u s := ⟨v, H, I, r, h⟩
  rcases l with ⟨hk, hm⟩ | ⟨hk, c, hc, hcell⟩
  · exact wpAny_Name (wpAny_loadName_local I.ok.kind hk hn hm fin) hd
  · rcases hk with hk | hk
    · exact wpAny_Name (wpAny_loadName_cell I.ok.kind hk hc hcell fin) hd
    · exact wpAny_Name (wpAny_loadName_free I.ok.kind hk hc hcell fin hcd) hd
theorem pe_int {i j pos} : PE X (.Constant (.int i) j pos) (tC (.int i)) := fun _ _ _ H _ I h => wpAny_Constant_int ⟨.int i, H, I.tok _, ⟨_, rfl⟩, h⟩
theorem pe_bl {b j pos} : PE X (.Constant (.bool b) j pos) (tC (.bl b)) := fun _ _ _ H _ I h => Constant_bool ⟨.bl b, H, I, rfl, h⟩
theorem pe_non {j pos} : PE X (.Constant .none j pos) (tC .non) := fun _ _ _ H _ I h => Constant_none ⟨.non, H, I, rfl, h⟩
theorem pe_str {x j pos} : PE X (.Constant (.str x) j pos) (tC (.str x)) := fun _ _ _ H _ I h => Calls.Constant_str ⟨.str x, H, I.tok _, ⟨_, rfl⟩, h⟩
noncomputable def Gl (X : Cx) (x : Str) : Prop := X.env.kindOf x = some .globalImplicit
theorem ld_glob {E : Value → Shared → Prop} {pins : List (Addr × Obj)} {s : Shared} {σ : St} {H : Hp} {x : Str} {u : Value} {pos : Pos} {Q : Value → Shared → Prop} (I : Inv X pins σ H s) (hg : Gl X x) (hm : X.mg x = some u) (h : Q u s)
    (hd : (x == ("__debug__" : Str)) = false := by decide) : wpAny (model X.prog X.w) X.A (eval (.Name x pos) X.env) Q E s :=
  Calls.Name_function_global I.ok.kind hg (Calls.loadGlobal_global (by rw [I.ok.glob]; exact I.mod.glob.keeps I.bk) hm h) hd
theorem ld_blt {E : Value → Shared → Prop} {pins : List (Addr × Obj)} {s : Shared} {σ : St} {H : Hp} {x : Str} {u : Value} {pos : Pos} {Q : Value → Shared → Prop} (I : Inv X pins σ H s) (hg : Gl X x) (hm : X.mg x = none) (hv : bootBuiltins x = some u) (h : Q u s)
    (hn : x ≠ "__name__" := by decide) (hd : (x == ("__debug__" : Str)) = false := by decide) : wpAny (model X.prog X.w) X.A (eval (.Name x pos) X.env) Q E s := by
  obtain ⟨mb, h1, h2⟩ := I.mod.blt
  exact Calls.Name_function_global I.ok.kind hg (Calls.loadGlobal_builtin (by rw [I.ok.glob]; exact I.mod.glob.keeps I.bk) hm (by rw [I.ok.blt]; exact h1.keeps I.bk) ((h2 x hn).trans hv) h) hd
theorem pe_glob {x : Str} {v : V} {u : Value} {pos : Pos} (hg : Gl X x) (hm : X.mg x = some u) (r : RelV v u) (hd : (x == ("__debug__" : Str)) = false := by decide) : PE X (.Name x pos) (tC v) :=
  fun _ _ _ H _ I h => ld_glob I hg hm ⟨v, H, I, r, h⟩ hd
theorem pe_bltn {x : Str} {v : V} {u : Value} {pos : Pos} (hg : Gl X x) (hm : X.mg x = none) (hv : bootBuiltins x = some u) (r : RelV v u) (hn : x ≠ "__name__" := by decide) (hd : (x == ("__debug__" : Str)) = false := by decide) : PE X (.Name x pos) (tC v) :=
  fun _ _ _ H _ I h => ld_blt I hg hm hv ⟨v, H, I, r, h⟩ hn hd
variable {a b : Expr} {ta tb : TE} {pos : Pos}
noncomputable def PC (X : Cx) (op : CmpOp) (a b : Expr) (t : TE) : Prop :=
  ∀ (pins : List (Addr × Obj)) (s : Shared) (σ : St) (H : Hp) (Q : VK), Inv X pins σ H s → t σ H Q →
    wpAny (model X.prog X.w) X.A (eval a X.env) (fun v s₁ => wpAny (model X.prog X.w) X.A (eval b X.env) (fun u s₂ => wpAny (model X.prog X.w) X.A (compareOp op v u) (EP X pins σ Q) X.xe s₂) X.xe s₁) X.xe s
theorem nobehind (b : Expr) {op : CmpOp} (h : op ≠ .In) (h2 : op ≠ .NotIn) : behindInMarks op b = false := by
  have e1 : (op == CmpOp.In) = false := by cases op <;> first | rfl | exact absurd rfl h
  have e2 : (op == CmpOp.NotIn) = false := by cases op <;> first | rfl | exact absurd rfl h2
  cases b <;> simp [behindInMarks, e1, e2]
noncomputable def tB (t : TE) : TT := fun σ H Q => t σ H fun x H1 => ∃ c, x = .bl c ∧ Q c H1
theorem pt_cmp {op : CmpOp} {t : TE} (h : PC X op a b t) (h1 : behindInMarks op b = false := by first | exact nobehind _ (by decide) (by decide) | rfl) : PT X (.Compare a [op] [b] pos) (tB t) := by
  intro pins s σ H Q I hw
  refine wpAny_isTrue_Compare1 (thn (h pins s σ H _ I hw) fun v s1 h1 => thn h1 fun u s2 h2 => thn h2 fun c s3 hzz => ?_) h1
  obtain ⟨x, H1, I1, r1, q1⟩ := hzz
  obtain ⟨d, rfl, q⟩ := q1
  cases r1
  exact wpAny_truthy_bool ⟨H1, I1, q⟩
theorem pt_val {e : Expr} {t : TE} (h : PE X e t) (he : ∀ whole, isTrue e X.env whole = (do let v ← whole; standAt e.pos; holding [v] (truthy v)) := by intro _; rfl) : PT X e (tB t) := by
  intro pins s σ H Q I hw
  refine isTrue_plain (thn (h pins s σ H _ I hw) fun v s1 ⟨x, H1, I1, r1, q1⟩ => ?_) (he _)
  obtain ⟨d, rfl, q⟩ := q1
  cases r1
  exact wpAny_truthy_bool ⟨H1, I1, q⟩
variable {tA tB' : TT} {rest : List Expr}
noncomputable def tAnd (t u : TT) : TT := fun σ H Q => t σ H fun c H1 => if c = true then u σ H1 Q else Q false H1
noncomputable def tOr (t u : TT) : TT := fun σ H Q => t σ H fun c H1 => if c = true then Q true H1 else u σ H1 Q
noncomputable def tNot (t : TT) : TT := fun σ H Q => t σ H fun c H1 => Q (!c) H1
theorem pw_and1 (ha : PT X a tA) : PW X (.BoolOp .And [a] pos) tA := by
  intro wh pins s σ H Q I h
  refine isTrue_and (thn (ha pins s σ H Q I h) fun c s1 e => ?_)
  cases c with
  | true => exact isTrue_and_nil e
  | false => exact e
theorem pw_or1 (ha : PT X a tA) : PW X (.BoolOp .Or [a] pos) tA := by
  intro wh pins s σ H Q I h
  refine isTrue_or (thn (ha pins s σ H Q I h) fun c s1 e => ?_)
  cases c with
  | false => exact isTrue_or_nil e
  | true => exact e
theorem pw_and (ha : PT X a tA) (hb : PW X (.BoolOp .And (b :: rest) pos) tB') : PW X (.BoolOp .And (a :: b :: rest) pos) (tAnd tA tB') := by
  intro wh pins s σ H Q I h
  refine isTrue_and (thn (ha pins s σ H _ I h) fun c s1 hzz => ?_)
  obtain ⟨H1, I1, q1⟩ := hzz
  cases c with
  | true => exact hb wh pins s1 σ H1 Q I1 q1
  | false => exact ⟨H1, I1, q1⟩
theorem pw_or (ha : PT X a tA) (hb : PW X (.BoolOp .Or (b :: rest) pos) tB') : PW X (.BoolOp .Or (a :: b :: rest) pos) (tOr tA tB') := by
  intro wh pins s σ H Q I h
  refine isTrue_or (thn (ha pins s σ H _ I h) fun c s1 hzz => ?_)
  obtain ⟨H1, I1, q1⟩ := hzz
  cases c with
  | true => exact ⟨H1, I1, q1⟩
  | false => exact hb wh pins s1 σ H1 Q I1 q1
theorem pt_not (ha : PT X a tA) : PT X (.UnaryOp .Not a pos) (tNot tA) := by
  intro pins s σ H Q I h
  exact isTrue_not (ha pins s σ H (fun c H1 => Q (!c) H1) I h)
noncomputable def tAndV (ta tb : TE) : TE := fun σ H Q => ta σ H fun x H1 => ∃ c, x = .bl c ∧ if c = true then tb σ H1 Q else Q (.bl false) H1
theorem pe_one {op} {t : TE} (h : PE X a t) : PE X (.BoolOp op [a] pos) t := fun pins s σ H Q I hw => BoolOp_one (h pins s σ H Q I hw)
theorem pe_and (ha : PE X a ta) (hb : PE X (.BoolOp .And (b :: rest) pos) tb) : PE X (.BoolOp .And (a :: b :: rest) pos) (tAndV ta tb) := by
  intro pins s σ H Q I h
  refine BoolOp_and (thn (ha pins s σ H _ I h) fun v s1 hzz => ?_)
  obtain ⟨x, H1, I1, r1, q1⟩ := hzz
  obtain ⟨c, rfl, q1⟩ := q1
  cases r1
  refine wpAny_truthy_bool ?_
  cases c with
  | true => exact hb pins s1 σ H1 Q I1 q1
  | false => exact ⟨.bl false, H1, I1, rfl, q1⟩
end
end L2
namespace L2
open PySem PySem.Spec PyProof.Rows
noncomputable def SqL (K : PySem.W.Frag) (H : Hp) (a : Addr) (xs : List V) : Prop :=
  Rd H a (.lst xs) ∨
    ∃ (o : Obj) (its : Array Value) (n : Nat), K.lookup a = some o ∧ o.cls = .type "list" ∧ o.dict = none ∧ o.data = .seq its n ∧ its.size ≤ sizeLine ∧ Vals xs its.toList
noncomputable def SqT (K : PySem.W.Frag) (H : Hp) (a : Addr) (xs : List V) : Prop :=
  Rd H a (.tup xs) ∨
    ∃ (o : Obj) (its : Array Value) (n : Nat), K.lookup a = some o ∧ o.cls = .type "tuple" ∧ o.data = .seq its n ∧ its.size ≤ sizeLine ∧ Vals xs its.toList
noncomputable def absV : Value → Option V
  | .none => some .non
  | .bool b => some (.bl b)
  | .int i _ => some (.int i)
  | .str x _ => some (.str x)
  | .bytes b _ => some (.byt b)
  | .float b _ => some (.flt b)
  | .ref a => some (.ref a)
  | .type n => some (.ty n)
  | _ => none
theorem RelV.abs {x : V} {u : Value} (r : RelV x u) : absV u = some x := by
  cases x with
  | non => cases r; rfl
  | bl _ => cases r; rfl
  | int _ => obtain ⟨t, rfl⟩ := r; rfl
  | str _ => obtain ⟨t, rfl⟩ := r; rfl
  | byt _ => obtain ⟨t, rfl⟩ := r; rfl
  | flt _ => obtain ⟨t, rfl⟩ := r; rfl
  | ref _ => cases r; rfl
  | ty _ => cases r; rfl
theorem RelV.inj {x y : V} {u : Value} (r : RelV x u) (q : RelV y u) : x = y := Option.some.inj (r.abs.symm.trans q.abs)
theorem Vals.inj {xs ys : List V} {us : List Value} (h : Vals xs us) (h' : Vals ys us) : xs = ys := by
  induction h generalizing ys with
  | nil => cases h'; rfl
  | cons r t ih =>
    cases h' with
    | cons r' t' => rw [r.inj r', ih t']
section
variable {X : Cx} {pins : List (Addr × Obj)} {σ : St} {H : Hp} {s : Shared} {a : Addr} {xs ys : List V}
theorem SqL.of {K : PySem.W.Frag} (h : H a = some (.lst xs)) : SqL K H a xs := .inl (.inl h)
theorem SqT.of {K : PySem.W.Frag} (h : H a = some (.tup xs)) : SqT K H a xs := .inl (.inl h)
theorem Inv.list (I : Inv X pins σ H s) (h : SqL X.K H a xs) : ∃ its : List Value, Vals xs its ∧ PlainL s.heap a its.toArray ∧ xs.length ≤ sizeLine := by
  rcases h with h | ⟨o, its, n, hk, hc, hd, hs, hz, r⟩
  · obtain ⟨z, its, n, r, e⟩ := h.ok I.hok
    exact ⟨its, r, ⟨_, n, e, rfl, rfl, rfl⟩, z⟩
  · refine ⟨its.toList, r, ⟨o, n, I.kIn a o hk, hc, hd, by simpa using hs⟩, ?_⟩
    have e := r.length
    simp only [Array.length_toList] at e
    (first | lia | omega)
theorem Inv.tuple (I : Inv X pins σ H s) (h : SqT X.K H a xs) : ∃ its : List Value, Vals xs its ∧ IsTup s.heap a its.toArray ∧ xs.length ≤ sizeLine := by
  rcases h with h | ⟨o, its, n, hk, hc, hs, hz, r⟩
  · obtain ⟨z, its, r, p⟩ := h.ok I.hok
    exact ⟨its, r, p, z⟩
  · refine ⟨its.toList, r, ⟨o, I.kIn a o hk, hc, n, by simpa using hs⟩, ?_⟩
    have e := r.length
    simp only [Array.length_toList] at e
    (first | lia | omega)
theorem Inv.list_inj (I : Inv X pins σ H s) (h : SqL X.K H a xs) (h' : SqL X.K H a ys) : xs = ys := by
  obtain ⟨its, r, ⟨o, n, e, _, _, d⟩, _⟩ := I.list h
  obtain ⟨its', r', ⟨o', n', e', _, _, d'⟩, _⟩ := I.list h'
  rw [e] at e'; cases e'
  rw [d] at d'
  injection d' with d1 _
  have : its = its' := by simpa using congrArg Array.toList d1
  subst this
  exact r.inj r'
end
noncomputable abbrev Cx.wish (X : Cx) (E : Value → Shared → Prop) : Cx := { X with xe := E }
noncomputable abbrev Cx.nox (X : Cx) : Cx := X.wish fun _ _ => False
theorem Cx.Ok.wish {X : Cx} (ok : X.Ok) (E : Value → Shared → Prop) : (X.wish E).Ok :=
  ⟨ok.mod, ok.kind, ok.glob, ok.blt, ok.above, ok.inj, ok.has, ok.cab, ok.hd, ok.frames, ok.stk, ok.exf, ok.bs, ok.bsz, ok.noex, ok.exfs, ok.funs, ok.frf⟩
theorem Cx.Ok.unwish {X : Cx} {E : Value → Shared → Prop} (ok : (X.wish E).Ok) : X.Ok :=
  ⟨ok.mod, ok.kind, ok.glob, ok.blt, ok.above, ok.inj, ok.has, ok.cab, ok.hd, ok.frames, ok.stk, ok.exf, ok.bs, ok.bsz, ok.noex, ok.exfs, ok.funs, ok.frf⟩
section
variable {X : Cx} {pins : List (Addr × Obj)} {σ : St} {H : Hp} {s : Shared} {E : Value → Shared → Prop}
theorem Inv.wish (I : Inv X pins σ H s) (E : Value → Shared → Prop) : Inv (X.wish E) pins σ H s := ⟨I.ok.wish E, I.os, I.bare, I.base, I.loc, I.cell, I.free, I.freeC, I.pin, I.hok, I.len⟩
theorem Inv.unwish (I : Inv (X.wish E) pins σ H s) : Inv X pins σ H s := ⟨I.ok.unwish, I.os, I.bare, I.base, I.loc, I.cell, I.free, I.freeC, I.pin, I.hok, I.len⟩
theorem SP.unwish {D : Ends} {f : Flow} {s' : Shared} (h : SP (X.wish E) pins D f s') : SP X pins D f s' := by
  cases f with
  | next => obtain ⟨σ', H', I, q⟩ := h; exact ⟨σ', H', I.unwish, q⟩
  | brk => obtain ⟨σ', H', I, q⟩ := h; exact ⟨σ', H', I.unwish, q⟩
  | cont => obtain ⟨σ', H', I, q⟩ := h; exact ⟨σ', H', I.unwish, q⟩
  | ret u => obtain ⟨v, σ', H', I, r, q⟩ := h; exact ⟨v, σ', H', I.unwish, r, q⟩
theorem PSs.nox {st : List Stmt} {t : TS} (h : PSs X.nox st t) : PSs X st t := fun pins s σ H D I hw =>
  wpAny_mono (h pins s σ H D (I.wish _) hw) (fun _ _ q => q.unwish) fun _ _ z => False.elim z
end
section
variable {X : Cx} {st : Stmt} {rest : List Stmt} {t u : TS} {e : Expr} {te : TE} {pos : Pos}
noncomputable def tNext : TS := fun D σ H => D.nx σ H
noncomputable def tSeq (t u : TS) : TS := fun D σ H => t { D with nx := u D } σ H
theorem pss_nil : PSs X [] tNext := fun _ _ σ H _ I h => wpAny_execs_nil ⟨σ, H, I, h⟩
theorem pss_cons (h1 : PS X st t) (h2 : PSs X rest u) : PSs X (st :: rest) (tSeq t u) := by
  intro pins s σ H D I h
  refine wpAny_execs_cons (thn (h1 pins s σ H { D with nx := u D } I h) fun f s1 q => ?_)
  cases f with
  | next =>
    obtain ⟨σ', H', I', q⟩ := q
    exact h2 pins s1 σ' H' D I' q
  | ret v => exact q
  | brk => exact q
  | cont => exact q
theorem pss_one (h1 : PS X st t) : PSs X [st] t := by
  intro pins s σ H D I h
  refine wpAny_execs_cons (thn (h1 pins s σ H D I h) fun f s1 q => ?_)
  cases f with
  | next => exact wpAny_execs_nil q
  | ret v => exact q
  | brk => exact q
  | cont => exact q
theorem Inv.quiet {pins : List (Addr × Obj)} {σ : St} {H : Hp} {s : Shared} (I : Inv X pins σ H s) : interactive X.env = false := by simp [interactive, I.ok.kind]
noncomputable def tDrop (te : TE) : TS := fun D σ H => te σ H fun _ H1 => D.nx σ H1
theorem ps_expr (he : PE X e te) (hs : swapsWith e none pos.line X.env = pure false := by rfl) : PS X (.Expr e pos) (tDrop te) := by
  intro pins s σ H D I h
  exact wpAny_Expr_any (thn (he pins s σ H _ I h) fun v s1 hzz => by obtain ⟨x, H1, I1, r1, q1⟩ := hzz; exact ⟨σ, H1, I1, q1⟩) I.quiet hs
noncomputable def tRet (te : TE) : TS := fun D σ H => te σ H D.rt
theorem ps_ret (he : PE X e te) : PS X (.Return (some e) pos) (tRet te) := by
  intro pins s σ H D I h
  exact wpAny_Return_some (thn (he pins s σ H _ I h) fun v s1 hzz => by obtain ⟨x, H1, I1, r1, q1⟩ := hzz; exact ⟨x, σ, H1, I1, r1, q1⟩)
noncomputable def tIfS (c : TT) (t u : TS) : TS := fun D σ H => c σ H fun b H1 => if b = true then t D σ H1 else u D σ H1
theorem ps_if {c : Expr} {a b : List Stmt} {tc : TT} (hc : PT X c tc) (ha : PSs X a t) (hb : PSs X b u) : PS X (.If c a b pos) (tIfS tc t u) := by
  intro pins s σ H D I h
  refine wpAny_If (thn (hc pins s σ H _ I h) fun d s1 hzz => ?_)
  obtain ⟨H1, I1, q1⟩ := hzz
  cases d with
  | true => exact ha pins s1 σ H1 D I1 q1
  | false => exact hb pins s1 σ H1 D I1 q1
end
noncomputable abbrev TG := V → St → Hp → (St → Hp → Prop) → Prop
noncomputable abbrev TGs := List V → St → Hp → (St → Hp → Prop) → Prop
noncomputable def PG (X : Cx) (target : Expr) (t : TG) : Prop :=
  ∀ (pins : List (Addr × Obj)) (s : Shared) (σ : St) (H : Hp) (v : V) (u : Value) (Q : St → Hp → Prop), Inv X pins σ H s → RelV v u → t v σ H Q →
    wpAny (model X.prog X.w) X.A (assign target X.env u) (fun _ s' => ∃ σ' H', Inv X pins σ' H' s' ∧ Q σ' H') X.xe s
noncomputable def PGs (X : Cx) (ts : List Expr) (t : TGs) : Prop :=
  ∀ (pins : List (Addr × Obj)) (s : Shared) (σ : St) (H : Hp) (vs : List V) (us : List Value) (Q : St → Hp → Prop), Inv X pins σ H s → Vals vs us → t vs σ H Q →
    wpAny (model X.prog X.w) X.A (assignInOrder ((assignEach ts X.env).map (·.2)) us) (fun _ s' => ∃ σ' H', Inv X pins σ' H' s' ∧ Q σ' H') X.xe s
section
variable {X : Cx} {pos : Pos}
noncomputable def gName (i : Nat) : TG := fun v σ H Q => Q (σ.set i (some v)) H
theorem pg_name {i : Nat} {x : Str} (hN : X.N.Nodup) (hi : X.N[i]? = some x) (hx : Loc X.env.scope x) (hf : X.fn x = true ∨ X.env.scope.names.lookup x = some .local := by first | exact .inl rfl | exact .inr rfl | assumption) : PG X (.Name x pos) (gName i) := by
  intro pins s σ H v u Q I r h
  exact wpAny_assign_Name (store_ok I hN hi hx r (fun s' I' => ⟨_, H, I', h⟩) hf)
noncomputable def gNil : TGs := fun vs σ H Q => vs = [] ∧ Q σ H
noncomputable def gCons (t : TG) (u : TGs) : TGs := fun vs σ H Q => ∃ v r, vs = v :: r ∧ t v σ H fun σ' H' => u r σ' H' Q
theorem pgs_nil : PGs X [] gNil := by
  intro pins s σ H vs us Q I r h
  obtain ⟨e, h⟩ := h
  subst e
  cases r
  exact assignInOrder_nil ⟨σ, H, I, h⟩
theorem pgs_cons {e : Expr} {es : List Expr} {t : TG} {u : TGs} (h1 : PG X e t) (h2 : PGs X es u)
    (hs : (assignEach (e :: es) X.env).map (·.2) = assign e X.env :: (assignEach es X.env).map (·.2) := by rfl) : PGs X (e :: es) (gCons t u) := by
  intro pins s σ H vs us Q I r h
  obtain ⟨v, vr, e1, h⟩ := h
  subst e1
  cases r with
  | cons r rr =>
    rw [hs]
    refine assignInOrder_cons (thn (h1 pins s σ H _ _ _ I r h) fun _ s1 hzz => ?_)
    obtain ⟨σ1, H1, I1, q1⟩ := hzz
    exact h2 pins s1 σ1 H1 _ _ Q I1 rr q1
noncomputable def gTup (K : PySem.W.Frag) (n : Nat) (t : TGs) : TG := fun v σ H Q => ∃ a xs, v = .ref a ∧ SqT K H a xs ∧ xs.length = n ∧ t xs σ H Q
theorem pg_tup {es : List Expr} {k : Nat} {t : TGs} {n : Nat} (hc : X.calm = true) (h : PGs X es t)
    (hn : (assignEach es X.env).length = n := by rfl) (hst : (assignEach es X.env).findIdx? (·.1) = none := by rfl) : PG X (.Tuple es k pos) (gTup X.K n t) := by
  intro pins s σ H v u Q I r hw
  obtain ⟨a, xs, e1, hq, hl, hw⟩ := hw
  subst e1
  cases r
  obtain ⟨its, rv, ht, hz⟩ := I.tuple hq
  refine assign_Tuple_tuple (I.ok.hd hc) ht (by simp [hn, ← hl, rv.length]) hst fun h' hx => ?_
  have I1 : Inv X pins σ H { s with heap := h' } := I.kept (t' := s.toks) fun b o e => hx b o (Nat.ne_of_lt (Heap.lt_size e)) e
  exact h pins _ σ H xs _ Q I1 (by simpa using rv) hw
noncomputable def tAsg (te : TE) (g : TG) : TS := fun D σ H => te σ H fun x H1 => g x σ H1 D.nx
theorem ps_set {i : Nat} {x : Str} {e : Expr} {te : TE} {pos' : Pos} (hN : X.N.Nodup) (hi : X.N[i]? = some x) (hx : Loc X.env.scope x) (he : PE X e te) (hs : swapsWith e (some (.Name x pos')) pos.line X.env = pure false := by rfl) (hf : X.fn x = true ∨ X.env.scope.names.lookup x = some .local := by first | exact .inl rfl | exact .inr rfl | assumption) :
    PS X (.Assign [.Name x pos'] e pos) (tAsg te (gName i)) := by
  intro pins s σ H D I h
  refine wpAny_Assign_Name (thn (he pins s σ H _ I h) fun v s1 hzz => ?_) hs
  obtain ⟨y, H1, I1, r1, q1⟩ := hzz
  exact store_ok I1 hN hi hx r1 (fun s2 I2 => ⟨_, H1, I2, q1⟩) hf
end
section
variable {X : Cx} {pos : Pos}
end
structure It where
  go : Nat → Hp → Prop
  yld : Nat → Hp → V → Hp → Prop
  stop : Nat → Hp → Prop
noncomputable def FpOk (X : Cx) (pins : List (Addr × Obj)) (H : Hp) (b : Addr) : Prop :=
  H b = none ∧ b ≠ X.env.locals ∧ b ∉ X.fs ∧ (b ∈ X.ex ∨ X.s₀.heap.objs.size ≤ b) ∧ (∀ x c, X.env.cells.lookup x = some c → c ≠ b) ∧ ∀ p ∈ X.pn ++ pins, p.1 ≠ b
theorem Inv.fpOk {X : Cx} {pins : List (Addr × Obj)} {σ : St} {H H' : Hp} {s : Shared} {b : Addr} (I : Inv X pins σ H s) (hb : s.heap.objs.size ≤ b) (hn : H' b = none) : FpOk X pins H' b := by
  refine ⟨hn, Nat.ne_of_gt (Nat.lt_of_lt_of_le I.lt hb), I.nofs hb, .inr (Nat.le_trans I.sz hb), fun x c e z => ?_, fun p hp z => ?_⟩
  · obtain ⟨v, q⟩ := I.cell x c e
    exact absurd (Nat.lt_of_lt_of_le q.lt (by rw [z]; exact hb)) (Nat.lt_irrefl _)
  · exact absurd (Nat.lt_of_lt_of_le (Heap.lt_size (I.pin p hp).1) (by rw [z]; exact hb)) (Nat.lt_irrefl _)
structure Turn (P : Program) (w : World) (K : PySem.W.Frag) (tg : Expr) (J : It) (fp : List Addr) (it : Addr) (tn : Nat → Heap → Prop) : Prop where
  mem : it ∈ fp
  obj : ∀ i h, tn i h → ∀ b ∈ fp, ∃ o, h.get? b = some o ∧ ∀ v, o.data ≠ .cell v
  keep : ∀ i h h', tn i h → (∀ b ∈ fp, ∀ o, h.get? b = some o → h'.get? b = some o) → tn i h'
  item : ∀ (X : Cx), X.prog = P → X.w = w → X.K = K → X.calm = true → ∀ (i : Nat) (pins : List (Addr × Obj)) (s : Shared) (σ : St) (H : Hp) (E : Value → Shared → Prop), Inv X pins σ H s → (∀ b ∈ fp, FpOk X pins H b) → tn i s.heap → J.go i H →
    wpAny (model P w) X.A (pyNext (.ref it)) (fun r s1 => ∃ u, r = some u ∧
      wpAny (model P w) X.A (letOwnedTupleGo tg (.ref it) u) (fun _ s2 => ∃ x H', Inv X pins σ H' s2 ∧ RelV x u ∧ J.yld i H x H' ∧ tn (i + 1) s2.heap ∧ ∀ b ∈ fp, H' b = none) E s1) E s
  done : ∀ (X : Cx), X.prog = P → X.w = w → X.K = K → X.calm = true → ∀ (i : Nat) (pins : List (Addr × Obj)) (s : Shared) (σ : St) (H : Hp) (E : Value → Shared → Prop), Inv X pins σ H s → (∀ b ∈ fp, FpOk X pins H b) → tn i s.heap → J.stop i H →
    wpAny (model P w) X.A (pyNext (.ref it)) (fun r s1 => r = none ∧ Inv X pins σ H s1) E s
  self : ∀ (A : Around) (i : Nat) (s : Shared) (Q : Value → Shared → Prop) (E : Value → Shared → Prop), tn i s.heap → Q (.ref it) s → wpAny (model P w) A (pyIter (.ref it)) Q E s
noncomputable abbrev TI := St → Hp → (It → Hp → Prop) → Prop
noncomputable def PIE (X : Cx) (pins : List (Addr × Obj)) (σ : St) (tg : Expr) (R : It → Hp → Prop) (itv : Value) (s2 : Shared) : Prop :=
  ∃ (it : Addr) (fp : List Addr) (tn : Nat → Heap → Prop) (J : It) (H' : Hp), itv = .ref it ∧ Inv X pins σ H' s2 ∧ Turn X.prog X.w X.K tg J fp it tn ∧ tn 0 s2.heap ∧ (∀ b ∈ fp, FpOk X pins H' b) ∧ R J H'
noncomputable def PI (X : Cx) (tg iter : Expr) (wi : TI) : Prop :=
  ∀ (pins : List (Addr × Obj)) (s : Shared) (σ : St) (H : Hp) (R : It → Hp → Prop), Inv X pins σ H s → wi σ H R →
    wpAny (model X.prog X.w) X.A (eval iter X.env) (fun v s1 => wpAny (model X.prog X.w) X.A (pyIter v) (PIE X pins σ tg R) X.xe s1) X.xe s
theorem go_of {M : Model} {A : Around} {E : Value → Shared → Prop} {s : Shared} {tg : Expr} {it : Addr} {u : Value} {o : Obj} {n : String} {vs : Array Value} {Q : Unit → Shared → Prop} (ho : s.heap.get? it = some o) (hc : o.cls = .type n) (hd : o.data = .fields vs)
    (hn : ["enumerate", "zip", "dict_itemiterator", "dict_reverseitemiterator", "odict_iterator", "itertools.zip_longest", "itertools.pairwise"].contains n = false) (hQ : Q () s) : wpAny M A (letOwnedTupleGo tg (.ref it) u) Q E s := by
  unfold letOwnedTupleGo
  cases tg <;> first
    | exact wpAny_pure hQ
    | (cases u <;> first
        | exact wpAny_pure hQ
        | (refine wpAny_bind (wpAny_load ho ?_)
           rw [hc, hd]
           show wpAny M A (if (["enumerate", "zip", "dict_itemiterator", "dict_reverseitemiterator", "odict_iterator", "itertools.zip_longest", "itertools.pairwise"].contains n && vs[0]? == some (rawInt _)) = true then _ else _) Q E s
           rw [if_neg (by intro h; rw [hn, Bool.false_and] at h; cases h)]
           exact wpAny_pure hQ))
noncomputable def Itl (K : PySem.W.Frag) (a : Addr) : It :=
  ⟨fun i H => ∃ xs x, SqL K H a xs ∧ xs[i]? = some x, fun i H x H' => H' = H ∧ ∀ xs, SqL K H a xs → xs[i]? = some x, fun i H => ∃ xs, SqL K H a xs ∧ xs.length ≤ i⟩
noncomputable def Itr (lo : Int) (n : Nat) : It := ⟨fun i _ => i < n, fun i H x H' => H' = H ∧ x = .int (lo + i), fun i _ => n ≤ i⟩
theorem turn_list {P : Program} {w : World} {K : PySem.W.Frag} {tg : Expr} (a it : Addr) : Turn P w K tg (Itl K a) [it] it (fun i h => h.IsListIter it a i) where
  mem := by simp
  obj := fun i h st b hb => by
    have e : b = it := by simpa using hb
    subst e
    obtain ⟨o, e, c, d⟩ := st
    exact ⟨o, e, fun v z => by rw [d] at z; cases z⟩
  keep := fun i h h' st k => st.at fun o e => k it (by simp) o e
  item := by
    intro X hP hw hK hc i pins s σ H E I hf st hg
    subst hP hw hK
    obtain ⟨xs, x, hq, hx⟩ := hg
    obtain ⟨its, rv, p, hz⟩ := I.list hq
    obtain ⟨u, hu, ru⟩ := rv.get hx
    obtain ⟨f0, f1, f2, f3, f4, f5⟩ := hf it (by simp)
    refine wpAny_pyNext_list_item st p.isList (x := u) (by simpa using hu) fun h' st' sb => ?_
    have I1 : Inv X pins σ H { s with heap := h' } := I.turned (t' := s.toks) (fun b o hb e => (sb.2 b hb).trans e) f0 f1 f3 f4 f5
    obtain ⟨o, e, c, d⟩ := id st'
    exact ⟨u, rfl, go_of (s := { s with heap := h' }) e c d (by decide) ⟨x, H, I1, ru, ⟨rfl, fun ys hy => by rw [I.list_inj hy hq]; exact hx⟩, st', fun b hb => (hf b hb).1⟩⟩
  done := by
    intro X hP hw hK hc i pins s σ H E I hf st hg
    subst hP hw hK
    obtain ⟨xs, hq, hx⟩ := hg
    obtain ⟨its, rv, p, hz⟩ := I.list hq
    obtain ⟨f0, f1, f2, f3, f4, f5⟩ := hf it (by simp)
    have hl := rv.length
    exact wpAny_pyNext_list_end (I.ok.hd hc) st p.isList (by simp; (first | lia | omega)) fun h' eb => ⟨rfl, I.turned (t' := s.toks) (fun b o hb e => eb b o hb e) f0 f1 f3 f4 f5⟩
  self := fun _ _ _ _ _ st h => wpAny_pyIter_listiter st h
theorem turn_range {P : Program} {w : World} {K : PySem.W.Frag} {tg : Expr} (it : Addr) (lo : Int) (n : Nat) : Turn P w K tg (Itr lo n) [it] it (fun i h => IsRangeIter h it (lo + (i : Nat) * 1) ((n : Int) - (i : Nat)) 1) where
  mem := by simp
  obj := fun i h st b hb => by
    have e : b = it := by simpa using hb
    subst e
    exact ⟨_, st, fun v z => by
      have z' : Data.fields _ = Data.cell v := z
      cases z'⟩
  keep := fun i h h' st k => k it (by simp) _ st
  item := by
    intro X hP hw hK hc i pins s σ H E I hf st hg
    subst hP hw hK
    obtain ⟨f0, f1, f2, f3, f4, f5⟩ := hf it (by simp)
    have W := Walks.range (prog := X.prog) (w := X.w) (I.ok.hd hc) it lo 1 n
    refine W.item i s _ _ hg st fun v h' tk hv st' kk => ?_
    obtain ⟨t, rfl⟩ := hv
    have I1 : Inv X pins σ H { s with heap := h', toks := tk } := I.turned (fun b o hb e => kk b o (by simpa using hb) e) f0 f1 f3 f4 f5
    refine ⟨_, rfl, go_of (s := { s with heap := h', toks := tk }) (n := "range_iterator") st' rfl rfl (by decide) ⟨.int (lo + i), H, I1, ⟨t, ?_⟩, ⟨rfl, rfl⟩, st', fun b hb => (hf b hb).1⟩⟩
    rw [Int.mul_one]
  done := by
    intro X hP hw hK hc i pins s σ H E I hf st hg
    subst hP hw hK
    obtain ⟨f0, f1, f2, f3, f4, f5⟩ := hf it (by simp)
    exact wpAny_pyNext_range_end (I.ok.hd hc) st (by have : n ≤ i := hg; (first | lia | omega)) fun h' eb => ⟨rfl, I.turned (t' := s.toks) (fun b o hb e => eb b o hb e) f0 f1 f3 f4 f5⟩
  self := fun _ _ _ _ _ st h => wpAny_pyIter_rangeiter st h
end L2
namespace L2
open PySem PySem.Spec PyProof.Rows
section
variable {X : Cx} {tg : Expr}
noncomputable def iList (K : PySem.W.Frag) (tl : TE) : TI := fun σ H R => tl σ H fun x H1 => ∃ a, x = .ref a ∧ (∃ xs, SqL K H1 a xs) ∧ R (Itl K a) H1
theorem pi_list {l : Expr} {tl : TE} (hl : PE X l tl) : PI X tg l (iList X.K tl) := by
  intro pins s σ H R I h
  refine thn (hl pins s σ H _ I h) fun v s1 hzz => ?_
  obtain ⟨x, H1, I1, r1, q1⟩ := hzz
  obtain ⟨a, e, ⟨xs, hq⟩, q⟩ := q1
  subst e
  cases r1
  obtain ⟨its, rv, p, hz⟩ := I1.list hq
  refine wpAny_pyIter_list p.isList ?_
  refine ⟨s1.heap.objs.size, [s1.heap.objs.size], _, _, H1, rfl, I1.kept (t' := s1.toks) fun b o e => Heap.get?_push_of_some _ e, turn_list a _, ⟨_, Heap.get?_push_size _ rfl, rfl, rfl⟩, fun b hb => ?_, q⟩
  have e : b = s1.heap.objs.size := by simpa using hb
  subst e
  exact I1.fpOk (Nat.le_refl _) (I1.hok.fresh (Nat.le_refl _))
theorem range_it {pins : List (Addr × Obj)} {σ : St} {H : Hp} {s : Shared} {R : It → Hp → Prop} {E : Value → Shared → Prop} {lo hi : Int} {t u v : Tok} {tk : Nat} (I : Inv X pins σ H s) (h1 : -(2 ^ 62) ≤ lo) (h2 : lo < 2 ^ 62) (h3 : -(2 ^ 62) ≤ hi) (h4 : hi < 2 ^ 62)
    (q : R (Itr lo (hi - lo).toNat) H) : wpAny (model X.prog X.w) X.A (pyIter (.ref s.heap.objs.size)) (PIE X pins σ tg R) E { s with heap := s.heap.push { cls := .type "range", data := .fields #[.int lo t, .int hi u, .int 1 v] }, toks := tk } := by
  refine wpAny_pyIter_range (IsRange.new ..) (small_one h1 h2 h3 h4) ?_
  have I1 : Inv X pins σ H { s with heap := s.heap.push { cls := .type "range", data := .fields #[.int lo t, .int hi u, .int 1 v] }, toks := tk } := I.kept fun b o e => Heap.get?_push_of_some _ e
  refine ⟨(s.heap.push { cls := .type "range", data := .fields #[.int lo t, .int hi u, .int 1 v] }).objs.size, [(s.heap.push { cls := .type "range", data := .fields #[.int lo t, .int hi u, .int 1 v] }).objs.size], _, _, H, rfl,
    I1.kept (t' := tk) fun b o e => Heap.get?_push_of_some _ e, turn_range _ lo (hi - lo).toNat, ?_, fun b hb => ?_, q⟩
  · have e1 : lo + ((0 : Nat) : Int) * 1 = lo := by simp
    have e2 : (((hi - lo).toNat : Nat) : Int) - ((0 : Nat) : Int) = Builtin.Range.rangeSize lo hi 1 := by rw [rangeSize_one]; split <;> (first | lia | omega)
    show IsRangeIter _ _ (lo + ((0 : Nat) : Int) * 1) ((((hi - lo).toNat : Nat) : Int) - ((0 : Nat) : Int)) 1
    rw [e1, e2]
    exact Heap.get?_push_size _ rfl
  · have e : b = (s.heap.push { cls := .type "range", data := .fields #[.int lo t, .int hi u, .int 1 v] }).objs.size := by simpa using hb
    subst e
    exact I1.fpOk (Nat.le_refl _) (I1.hok.fresh (Nat.le_refl _))
noncomputable def iRng1 (ta : TA) : TI := fun σ H R => ta σ H fun vs H1 => ∃ j : Int, vs = [.int j] ∧ -(2 ^ 62) ≤ j ∧ j < 2 ^ 62 ∧ R (Itr 0 j.toNat) H1
theorem pi_range1 {a : Expr} {ta : TA} {p pos : Pos} (hg : Gl X "range") (hm : X.mg "range" = none) (ha : PA X [a] ta) (hs : starEach [a] X.env = [(false, eval a X.env)] := by rfl) : PI X tg (.Call (.Name "range" p) [a] [] pos) (iRng1 ta) := by
  intro pins s σ H R I h
  refine Call_ (ld_blt I hg hm boot_range (PyProof.Rows.callWith_type1 (thn (ha pos pins s σ H _ I h) fun us s1 ⟨vs, H1, I1, r1, q1⟩ => ?_) hs rfl))
  obtain ⟨j, e, q1, q2, q⟩ := q1
  subst e
  cases r1 with
  | cons r rr =>
    cases rr
    obtain ⟨t, rfl⟩ := r
    exact call_range_1 (range_it I1 (by (first | lia | omega)) (by (first | lia | omega)) q1 q2 (by simpa using q))
noncomputable def tFor (wi : TI) (g : TG) (tb : TS) : TS := fun D σ H => wi σ H fun J H1 => ∃ W : Nat → Nat → St → Hp → Prop, (∃ m, W 0 m σ H1) ∧ ∀ i m σ H, W i m σ H →
  (J.stop i H ∧ D.nx σ H) ∨ (J.go i H ∧ ∃ N : St → Hp → Prop, (∀ σ' H', N σ' H' → ∃ m', m' < m ∧ W (i + 1) m' σ' H') ∧ ∀ x H', J.yld i H x H' → g x σ H' fun σ2 H2 => tb { D with nx := N, ct := N, bk := D.nx } σ2 H2)
noncomputable def pinsAt (fp : List Addr) (h : Heap) : List (Addr × Obj) := fp.filterMap fun b => (h.get? b).map fun o => (b, o)
theorem mem_pinsAt {fp : List Addr} {h : Heap} {b : Addr} {o : Obj} (hb : b ∈ fp) (e : h.get? b = some o) : (b, o) ∈ pinsAt fp h := List.mem_filterMap.mpr ⟨b, hb, by rw [e]; rfl⟩
theorem of_pinsAt {fp : List Addr} {h : Heap} {p : Addr × Obj} (hp : p ∈ pinsAt fp h) : p.1 ∈ fp ∧ h.get? p.1 = some p.2 := by
  obtain ⟨b, hb, e⟩ := List.mem_filterMap.mp hp
  cases q : h.get? b with
  | none => rw [q] at e; cases e
  | some o =>
    rw [q] at e
    have e' : (b, o) = p := Option.some.inj e
    subst e'
    exact ⟨hb, q⟩
theorem Inv.pinned {pins : List (Addr × Obj)} {σ : St} {H : Hp} {s : Shared} {fp : List Addr} (I : Inv X pins σ H s) (hf : ∀ b ∈ fp, FpOk X pins H b) (ho : ∀ b ∈ fp, ∃ o, s.heap.get? b = some o ∧ ∀ v, o.data ≠ .cell v) : Inv X (pins ++ pinsAt fp s.heap) σ H s :=
  I.pins_of fun p hp => (List.mem_append.mp hp).elim (fun z => I.pin p (List.mem_append_right _ z)) fun z => by
    obtain ⟨hb, e⟩ := of_pinsAt z
    obtain ⟨f0, f1, f2, _⟩ := hf p.1 hb
    obtain ⟨o, e', d⟩ := ho p.1 hb
    rw [e] at e'; cases e'
    exact ⟨e, f0, f1, f2, d⟩
theorem Inv.unpinned {pins pl : List (Addr × Obj)} {σ : St} {H : Hp} {s : Shared} (I : Inv X (pins ++ pl) σ H s) : Inv X pins σ H s := I.pins_of fun p hp => I.pin p (List.mem_append_right _ (List.mem_append_left _ hp))
theorem ps_for {iter : Expr} {body : List Stmt} {wi : TI} {g : TG} {tb : TS} {pos : Pos} (hp : PassesOwn (model X.prog X.w) X.A X.env X.xe) (hc : X.calm = true) (hi : PI X tg iter wi) (hg : PG X tg g) (hb : PSs X body tb)
    (hs : ∀ x, foldedSetIterable iter X.env x = pure x := by intro _; rfl) : PS X (.For tg iter body [] pos) (tFor wi g tb) := by
  intro pins s σ H D I h
  refine wpAny_For (thn (hi pins s σ H _ I h) fun v s1 h1 => thn h1 fun itv s2 h2 => ?_) hs
  obtain ⟨it, fp, tn, J, H2, e, I2, T, st2, f2, W, ⟨m0, w0⟩, turn⟩ := h2
  subst e
  have stat : ∀ {H' : Hp}, (∀ b ∈ fp, H' b = none) → ∀ b ∈ fp, FpOk X pins H' b := fun hn b hb => ⟨hn b hb, (f2 b hb).2⟩
  refine codeAny_forLoop_any (fun n s' => ∃ i σ' H', Inv X pins σ' H' s' ∧ tn i s'.heap ∧ (∀ b ∈ fp, H' b = none) ∧ W i n σ' H') ?_ m0 ⟨0, σ, H2, I2, st2, fun b hb => (f2 b hb).1, w0⟩
  rintro n s3 ⟨i, σ3, H3, I3, st3, fr3, w3⟩
  rcases turn i n σ3 H3 w3 with ⟨stop, qn⟩ | ⟨go, N, hN, step⟩
  · refine wpAny_passesOwn hp (thn (T.done X rfl rfl rfl hc i pins s3 σ3 H3 X.xe I3 (stat fr3) st3 stop) fun r s4 hzz => ?_)
    obtain ⟨hr, I4⟩ := hzz
    subst hr
    exact wpAny_execs_nil ⟨σ3, H3, I4, qn⟩
  · refine wpAny_passesOwn hp (thn (T.item X rfl rfl rfl hc i pins s3 σ3 H3 X.xe I3 (stat fr3) st3 go) fun r s4 hzz => ?_)
    obtain ⟨u, hr, h4⟩ := hzz
    subst hr
    refine wpAny_passesOwn hp (thn h4 fun _ s5 hzz => ?_)
    obtain ⟨x, H5, I5, r5, y5, st5, fr5⟩ := hzz
    have I5' := I5.pinned (stat fr5) (T.obj _ _ st5)
    refine wpAny_passesOwn hp (thn (hg _ s5 σ3 H5 x u _ I5' r5 (step x H5 y5)) fun _ s6 hzz => ?_)
    obtain ⟨σ6, H6, I6, q6⟩ := hzz
    refine wpAny_passesOwn hp (thn (hb _ s6 σ6 H6 _ I6 q6) fun f s7 q7 => ?_)
    have again : ∀ {σ7 : St} {H7 : Hp}, Inv X (pins ++ pinsAt fp s5.heap) σ7 H7 s7 → N σ7 H7 → ∃ m, m < n ∧ ∃ i σ' H', Inv X pins σ' H' s7 ∧ tn i s7.heap ∧ (∀ b ∈ fp, H' b = none) ∧ W i m σ' H' := fun {σ7 H7} I7 n7 => by
      obtain ⟨m', hm, w7⟩ := hN σ7 H7 n7
      refine ⟨m', hm, i + 1, σ7, H7, I7.unpinned, T.keep _ _ _ st5 fun b hb o e => (I7.pin (b, o) (List.mem_append_right _ (List.mem_append_right _ (mem_pinsAt hb e)))).1, fun b hb => ?_, w7⟩
      obtain ⟨o, e, d⟩ := T.obj _ _ st5 b hb
      exact (I7.pin (b, o) (List.mem_append_right _ (List.mem_append_right _ (mem_pinsAt hb e)))).2.1
    cases f with
    | next => obtain ⟨σ7, H7, I7, n7⟩ := q7; exact again I7 n7
    | cont => obtain ⟨σ7, H7, I7, n7⟩ := q7; exact again I7 n7
    | brk => obtain ⟨σ7, H7, I7, q7⟩ := q7; exact ⟨σ7, H7, I7.unpinned, q7⟩
    | ret v => obtain ⟨x7, σ7, H7, I7, r7, q7⟩ := q7; exact ⟨x7, σ7, H7, I7.unpinned, r7, q7⟩
end
theorem for_list {K : PySem.W.Frag} {a : Addr} {xs : List V} {g : TG} {tb : TS} {D : Ends} {σ : St} {H : Hp} (Pv : Nat → St → Hp → Prop) (h0 : Pv 0 σ H) (hl : ∀ i σ H, i ≤ xs.length → Pv i σ H → SqL K H a xs)
    (hs : ∀ i x σ H, xs[i]? = some x → Pv i σ H → g x σ H fun σ2 H2 => tb { D with nx := Pv (i + 1), ct := Pv (i + 1), bk := D.nx } σ2 H2) (hd : ∀ σ H, Pv xs.length σ H → D.nx σ H) :
    ∃ W : Nat → Nat → St → Hp → Prop, (∃ m, W 0 m σ H) ∧ ∀ i m σ H, W i m σ H →
      ((Itl K a).stop i H ∧ D.nx σ H) ∨ ((Itl K a).go i H ∧ ∃ N : St → Hp → Prop, (∀ σ' H', N σ' H' → ∃ m', m' < m ∧ W (i + 1) m' σ' H') ∧ ∀ x H', (Itl K a).yld i H x H' → g x σ H' fun σ2 H2 => tb { D with nx := N, ct := N, bk := D.nx } σ2 H2) := by
  refine ⟨fun i m σ H => m = xs.length - i ∧ i ≤ xs.length ∧ Pv i σ H, ⟨xs.length, by simp, Nat.zero_le _, h0⟩, ?_⟩
  rintro i m σ H ⟨rfl, hi, p⟩
  have q := hl i σ H hi p
  by_cases hlt : i < xs.length
  · refine .inr ⟨⟨xs, xs[i], q, by simp [hlt]⟩, Pv (i + 1), fun σ' H' p' => ⟨xs.length - (i + 1), Nat.sub_lt_sub_left hlt (Nat.lt_succ_self i), rfl, hlt, p'⟩, fun x H' y => ?_⟩
    obtain ⟨e, y⟩ := y
    subst e
    exact hs i x σ _ (y xs q) p
  · have e : i = xs.length := Nat.le_antisymm hi (Nat.not_lt.mp hlt)
    subst e
    exact .inl ⟨⟨xs, q, Nat.le_refl _⟩, hd σ H p⟩
theorem for_range {lo : Int} {n : Nat} {g : TG} {tb : TS} {D : Ends} {σ : St} {H : Hp} (Pv : Nat → St → Hp → Prop) (h0 : Pv 0 σ H)
    (hs : ∀ i σ H, i < n → Pv i σ H → g (.int (lo + i)) σ H fun σ2 H2 => tb { D with nx := Pv (i + 1), ct := Pv (i + 1), bk := D.nx } σ2 H2) (hd : ∀ σ H, Pv n σ H → D.nx σ H) :
    ∃ W : Nat → Nat → St → Hp → Prop, (∃ m, W 0 m σ H) ∧ ∀ i m σ H, W i m σ H →
      ((Itr lo n).stop i H ∧ D.nx σ H) ∨ ((Itr lo n).go i H ∧ ∃ N : St → Hp → Prop, (∀ σ' H', N σ' H' → ∃ m', m' < m ∧ W (i + 1) m' σ' H') ∧ ∀ x H', (Itr lo n).yld i H x H' → g x σ H' fun σ2 H2 => tb { D with nx := N, ct := N, bk := D.nx } σ2 H2) := by
  refine ⟨fun i m σ H => m = n - i ∧ i ≤ n ∧ Pv i σ H, ⟨n, by simp, Nat.zero_le _, h0⟩, ?_⟩
  rintro i m σ H ⟨rfl, hi, p⟩
  by_cases hlt : i < n
  · refine .inr ⟨hlt, Pv (i + 1), fun σ' H' p' => ⟨n - (i + 1), Nat.sub_lt_sub_left hlt (Nat.lt_succ_self i), rfl, hlt, p'⟩, fun x H' y => ?_⟩
    obtain ⟨e, y⟩ := y
    subst e y
    exact hs i σ _ hlt p
  · have e : i = n := Nat.le_antisymm hi (Nat.not_lt.mp hlt)
    subst e
    exact .inl ⟨Nat.le_refl _, hd σ H p⟩
end L2
namespace L2
open PySem PySem.Spec PyProof.Rows
noncomputable abbrev R2 := V → V → Hp → VK → Prop
noncomputable def OpR (X : Cx) (f : Value → Value → Sem Value) (r : R2) : Prop :=
  ∀ (pins : List (Addr × Obj)) (s : Shared) (σ : St) (H : Hp) (x y : V) (v u : Value) (Q : VK), Inv X pins σ H s → RelV x v → RelV y u → r x y H Q →
    wpAny (model X.prog X.w) X.A (f v u) (EP X pins σ Q) X.xe s
noncomputable def CallR (X : Cx) (f : Value) (r : List V → Hp → VK → Prop) : Prop :=
  ∀ (pins : List (Addr × Obj)) (s : Shared) (σ : St) (H : Hp) (xs : List V) (us : List Value) (Q : VK), Inv X pins σ H s → Vals xs us → r xs H Q →
    wpAny (model X.prog X.w) X.A (call f us) (EP X pins σ Q) X.xe s
noncomputable def tOp (r : R2) (ta tb : TE) : TE := fun σ H Q => ta σ H fun x H1 => tb σ H1 fun y H2 => r x y H2 Q
noncomputable def rI (C : Int → Int → Prop) (g : Int → Int → V) : R2 := fun x y H Q => ∃ i j, x = .int i ∧ y = .int j ∧ C i j ∧ Q (g i j) H
noncomputable def rI0 (g : Int → Int → V) : R2 := fun x y H Q => ∃ i j, x = .int i ∧ y = .int j ∧ Q (g i j) H
section
variable {X : Cx} {a b c : Expr} {ta tb tc : TE} {pos : Pos}
theorem binT (ha : PE X a ta) (hb : PE X b tb) {pins : List (Addr × Obj)} {s : Shared} {σ : St} {H : Hp} {R : V → V → Hp → Prop} (I : Inv X pins σ H s)
    (h : ta σ H fun x H1 => tb σ H1 fun y H2 => R x y H2) {Q : Value → Shared → Prop} {f : Value → Value → Sem Value}
    (hf : ∀ v u s2 x y H2, Inv X pins σ H2 s2 → RelV x v → RelV y u → R x y H2 → wpAny (model X.prog X.w) X.A (f v u) Q X.xe s2) :
    wpAny (model X.prog X.w) X.A (eval a X.env) (fun v s₁ => wpAny (model X.prog X.w) X.A (eval b X.env) (fun u s₂ => wpAny (model X.prog X.w) X.A (f v u) Q X.xe s₂) X.xe s₁) X.xe s := by
  refine thn (ha pins s σ H _ I h) fun v s1 hzz => ?_
  obtain ⟨x, H1, I1, r1, q1⟩ := hzz
  refine thn (hb pins s1 σ H1 _ I1 q1) fun u s2 hzz => ?_
  obtain ⟨y, H2, I2, r2, q2⟩ := hzz
  exact hf v u s2 x y H2 I2 r1 r2 q2
theorem pe_op {op : Operator} {r : R2} (ho : OpR X (binaryOp op) r) (ha : PE X a ta) (hb : PE X b tb) : PE X (.BinOp a op b pos) (tOp r ta tb) := by
  intro pins s σ H Q I h
  exact wpAny_BinOp (binT ha hb I h fun v u s2 x y H2 I2 rx ry q => ho pins s2 σ H2 x y v u Q I2 rx ry q)
theorem opI {f : Value → Value → Sem Value} {C : Int → Int → Prop} {g : Int → Int → Int}
    (rule : ∀ (i j : Int) (t u : Tok) (s : Shared) (Q : Value → Shared → Prop) (E : Value → Shared → Prop), C i j → Q (.int (g i j) s.toks) { s with toks := s.toks + 1 } → wpAny (model X.prog X.w) X.A (f (.int i t) (.int j u)) Q E s) :
    OpR X f (rI C fun i j => .int (g i j)) := by
  intro pins s σ H x y v u Q I rx ry h
  obtain ⟨i, j, rfl, rfl, hc, q⟩ := h
  obtain ⟨t, rfl⟩ := rx
  obtain ⟨t', rfl⟩ := ry
  exact rule i j t t' s _ _ hc ⟨.int (g i j), H, I.tok _, ⟨_, rfl⟩, q⟩
theorem opI0 {f : Value → Value → Sem Value} {g : Int → Int → Int}
    (rule : ∀ (i j : Int) (t u : Tok) (s : Shared) (Q : Value → Shared → Prop) (E : Value → Shared → Prop), Q (.int (g i j) s.toks) { s with toks := s.toks + 1 } → wpAny (model X.prog X.w) X.A (f (.int i t) (.int j u)) Q E s) :
    OpR X f (rI0 fun i j => .int (g i j)) := by
  intro pins s σ H x y v u Q I rx ry h
  obtain ⟨i, j, rfl, rfl, q⟩ := h
  obtain ⟨t, rfl⟩ := rx
  obtain ⟨t', rfl⟩ := ry
  exact rule i j t t' s _ _ ⟨.int (g i j), H, I.tok _, ⟨_, rfl⟩, q⟩
theorem opB0 {f : Value → Value → Sem Value} {g : Int → Int → Bool}
    (rule : ∀ (i j : Int) (t u : Tok) (s : Shared) (Q : Value → Shared → Prop) (E : Value → Shared → Prop), Q (.bool (g i j)) s → wpAny (model X.prog X.w) X.A (f (.int i t) (.int j u)) Q E s) :
    OpR X f (rI0 fun i j => .bl (g i j)) := by
  intro pins s σ H x y v u Q I rx ry h
  obtain ⟨i, j, rfl, rfl, q⟩ := h
  obtain ⟨t, rfl⟩ := rx
  obtain ⟨t', rfl⟩ := ry
  exact rule i j t t' s _ _ ⟨.bl (g i j), H, I, rfl, q⟩
noncomputable def CDiv (i j : Int) : Prop := 0 < j ∧ j < 1073741824
noncomputable def CMul (i j : Int) : Prop := (-(2 ^ 64) < i ∧ i < 2 ^ 64) ∨ (-(2 ^ 64) < j ∧ j < 2 ^ 64)
theorem CMul.ok {i j : Int} (h : CMul i j) : IntMulOk i j := by
  rcases h with ⟨h1, h2⟩ | ⟨h1, h2⟩
  · exact .of_left (intBits_le_64 h1 h2)
  · exact .of_right (intBits_le_64 h1 h2)
theorem two_pow_nn (k : Nat) : (0 : Int) ≤ 2 ^ k := by
  rw [two_pow_cast]
  exact Int.natCast_nonneg _
theorem op_add : OpR X (binaryOp .Add) (rI0 fun i j => .int (i + j)) := opI0 fun _ _ _ _ _ _ _ q => add_int q
theorem op_mul : OpR X (binaryOp .Mult) (rI CMul fun i j => .int (i * j)) := opI fun _ _ _ _ _ _ _ hc q => mul_int q hc.ok
theorem op_fdiv : OpR X (binaryOp .FloorDiv) (rI CDiv fun i j => .int (i / j)) := opI fun i j _ _ _ _ _ hc q => by
  have h1 : (0 : Int) < j := hc.1
  have h2 : j < 1073741824 := hc.2
  exact floordiv_int (by (first | lia | omega)) (by rw [Int.fdiv_eq_ediv_of_nonneg i (by (first | lia | omega))]; exact q) (.inl (PyProof.noPylong_small (by (first | lia | omega))))
theorem op_mod : OpR X (binaryOp .Mod) (rI (fun _ j => 0 < j) fun i j => .int (i % j)) := opI fun i j _ _ _ _ _ hc q => by
  have h1 : (0 : Int) < j := hc
  exact mod_int' (by (first | lia | omega)) (by rw [Int.fmod_eq_emod_of_nonneg i (by (first | lia | omega))]; exact q)
theorem op_shr : OpR X (binaryOp .RShift) (rI (fun _ j => 0 ≤ j) fun i j => .int (i / 2 ^ j.toNat)) := opI fun i j _ _ _ _ _ hc q =>
  rshift_int hc (by rw [Int.fdiv_eq_ediv_of_nonneg i (two_pow_nn _)]; exact q)
theorem op_and : OpR X (binaryOp .BitAnd) (rI0 fun i j => .int (Builtin.bitAnd i j)) := opI0 fun _ _ _ _ _ _ _ q => and_int q
end
section
variable {X : Cx} {a b c : Expr} {ta tb tc : TE} {pos : Pos}
theorem op_lt : OpR X (compareOp .Lt) (rI0 fun i j => .bl (decide (i < j))) := opB0 fun _ _ _ _ _ _ _ q => lt_int q
theorem op_gt : OpR X (compareOp .Gt) (rI0 fun i j => .bl (decide (j < i))) := opB0 fun _ _ _ _ _ _ _ q => gt_int q
theorem nomark (b : Expr) {op : CmpOp} (h : op ≠ .In := by decide) (h2 : op ≠ .NotIn := by decide) : behindInMarks op b = false := by
  have e1 : (op == CmpOp.In) = false := by cases op <;> first | rfl | exact absurd rfl h
  have e2 : (op == CmpOp.NotIn) = false := by cases op <;> first | rfl | exact absurd rfl h2
  cases b <;> simp [behindInMarks, e1, e2]
theorem pe_cmpR {op : CmpOp} {r : R2} (ho : OpR X (compareOp op) r) (ha : PE X a ta) (hb : PE X b tb) (hm : behindInMarks op b = false) : PE X (.Compare a [op] [b] pos) (tOp r ta tb) := by
  intro pins s σ H Q I h
  exact wpAny_Compare1 (binT ha hb I h fun v u s2 x y H2 I2 rx ry q => ho pins s2 σ H2 x y v u Q I2 rx ry q) hm
noncomputable def tTest (t : TE) : TT := fun σ H Q => t σ H fun x H' => ∃ k, x = .bl k ∧ Q k H'
theorem pt_cmpR {op : CmpOp} {r : R2} (ho : OpR X (compareOp op) r) (ha : PE X a ta) (hb : PE X b tb) (hm : behindInMarks op b = false) : PT X (.Compare a [op] [b] pos) (tTest (tOp r ta tb)) := by
  intro pins s σ H Q I h
  refine wpAny_isTrue_Compare1 (thn (ha pins s σ H _ I h) fun v s1 ⟨x, H1, I1, r1, q1⟩ => thn (hb pins s1 σ H1 _ I1 q1) fun u s2 ⟨y, H2, I2, r2, q2⟩ =>
    thn (ho pins s2 σ H2 x y v u _ I2 r1 r2 q2) fun c s3 ⟨z, H3, I3, r3, k, e, q3⟩ => ?_) hm
  subst e
  cases r3
  exact wpAny_truthy_bool ⟨H3, I3, q3⟩
theorem line63 : (sizeLine : Nat) < 2 ^ 63 := by rw [sizeLine_eq]; decide
theorem vals1 {x : V} {us : List Value} (r : Vals [x] us) : ∃ u, us = [u] ∧ RelV x u := by
  cases r with
  | cons r1 r2 => cases r2; exact ⟨_, rfl, r1⟩
theorem vals2 {x y : V} {us : List Value} (r : Vals [x, y] us) : ∃ u w', us = [u, w'] ∧ RelV x u ∧ RelV y w' := by
  cases r with
  | cons r1 r2 =>
    cases r2 with
    | cons r3 r4 => cases r4; exact ⟨_, _, rfl, r1, r3⟩
end
end L2
namespace L2
open PySem PySem.Spec PyProof.Rows
structure ObjM (h : Heap) (x dx C : Addr) (mA : Str → Option Value) : Prop where
  obj : h.get? x = some (PySem.W.instObj C dx)
  ns : h.Ns1 dx mA
  ne : dx ≠ x
theorem lookIn_ns {h : Heap} {dx : Addr} {mA : Str → Option Value} (n : h.Ns1 dx mA) : ∃ od, h.get? dx = some od ∧ ∀ name, PySem.W.lookIn name od = some (mA name) := by
  obtain ⟨o, es, ep, ho, hd, hk, _, hm⟩ := n
  refine ⟨o, ho, fun name => ?_⟩
  have e := hm name
  unfold nsFind findBy at e
  rw [← Array.find?_toList] at e
  unfold PySem.W.lookIn
  rw [hd]
  dsimp only
  split
  · rename_i y q
    rw [q] at e
    exact congrArg some e
  · rename_i q
    rw [q] at e
    have a : es.toList.any (·.refKey) = false := by
      rw [List.any_eq_false]
      intro y hy
      obtain ⟨z, t, hkey⟩ := hk y (Array.mem_toList_iff.mp hy)
      simp [DictEntry.refKey, hkey]
    have a' : ¬ es.toList.any (·.refKey) = true := by rw [a]; exact Bool.false_ne_true
    rw [if_neg a']
    exact congrArg some e
theorem ObjM.look {h : Heap} {x dx C : Addr} {mA : Str → Option Value} (I : ObjM h x dx C mA) : ∃ od, PySem.W.InstAt h x (PySem.W.instObj C dx) C (some od) ∧ ∀ name, PySem.W.lookIn name od = some (mA name) :=
  let ⟨od, ho, hl⟩ := lookIn_ns I.ns
  ⟨od, ⟨I.obj, rfl, rfl, ho⟩, hl⟩
section
variable {prog : Program} {w : World} {A : Around} {E : Value → Shared → Prop} {s : Shared} {K : PySem.W.Frag} {x dx C f : Addr} {mA : Str → Option Value} {name : Str} {v : Value}
end
section
variable {P : Program} {w : World} {H H' : Hp} {h h' : Heap} {a C dx : Addr} {fs fs' : List (Str × V)}
theorem ins_get (hok : HOk P w H h) (e : H a = some (.ins C dx fs)) : ∃ mA, ObjM h a dx C mA ∧ (∀ f, RelO (fs.lookup f) (mA f)) ∧ PySem.Within mA (fs.map (·.1)) ∧ fs.length ≤ 1000 ∧ H dx = some (.own a) := by
  obtain ⟨d, z, ne, ob, mA, n, r, q⟩ := (show ObjOk P w H h a (.ins C dx fs) from hok a _ e)
  exact ⟨mA, ⟨ob, n, ne⟩, r, q, z, d⟩
end
structure Cls (K : PySem.W.Frag) (C : Addr) : Prop where
  pg : PySem.W.plainGet K C Str.empty = true
  hd : PySem.W.hasDictIn K C = true
  po : PySem.W.plainOver K C = true
  sa : PySem.W.findIn K (.ref C) "__setattr__" = some (some (.builtin "object.__setattr__"))
theorem Cls.get {K : PySem.W.Frag} {C : Addr} (c : Cls K C) (f : Str) : PySem.W.plainGet K C f = true := c.pg
section
variable {X : Cx} {pins : List (Addr × Obj)} {σ : St} {H : Hp} {s : Shared} {a C dx : Addr} {fs : List (Str × V)} {f : Str} {v : V} {A : Around} {E : Value → Shared → Prop}
end
section
variable {X : Cx} {o e value : Expr} {f : Str} {pos pos' tpos : Pos} {ta tv : TE}
end
section
variable {X : Cx} {pins : List (Addr × Obj)} {σ : St} {H : Hp} {s : Shared} {A : Around} {E : Value → Shared → Prop} {Q : Value → Shared → Prop} {c : Value} {b : Bool}
inductive TyOf (K : PySem.W.Frag) (H : Hp) : V → Value → Prop where
  | non : TyOf K H .non (.type "NoneType")
  | bl (x : Bool) : TyOf K H (.bl x) (.type "bool")
  | int (i : Int) : TyOf K H (.int i) (.type "int")
  | str (x : Str) : TyOf K H (.str x) (.type "str")
  | flt (x : UInt64) : TyOf K H (.flt x) (.type "float")
  | lst {a : Addr} {xs : List V} (e : H a = some (.lst xs)) : TyOf K H (.ref a) (.type "list")
  | frz {a : Addr} {o : Obj} {xs : List V} (e : H a = some (.frz o (.lst xs))) : TyOf K H (.ref a) (.type "list")
  | tup {a : Addr} {xs : List V} (e : H a = some (.tup xs)) : TyOf K H (.ref a) (.type "tuple")
  | dK {a : Addr} {kvs : List (Key × V)} (e : H a = some (.dK kvs)) : TyOf K H (.ref a) (.type "dict")
  | dT {a : Addr} {kvs : List (List Key × V)} (e : H a = some (.dT kvs)) : TyOf K H (.ref a) (.type "dict")
  | ins {a C dx : Addr} {fs : List (Str × V)} (e : H a = some (.ins C dx fs)) (cl : Cls K C) (ha : PySem.W.findIn K (.ref C) "__class__" = some (some (.builtin "object.__class__")))
      (hn : PySem.W.specialIn K (.builtin "object.__class__") "__get__" = some (some (.builtin "getset_descriptor.__get__"))) (htk : PySem.W.takesIn K (.builtin "object.__class__") = some true)
      (hm : PySem.W.mroIn K C (.type "object") = some true) : TyOf K H (.ref a) (.ref C)
theorem isinst_ok {x : V} {u t : Value} (I : Inv X pins σ H s) (rx : RelV x u) (ty : TyOf X.K H x t) (e : PySem.W.kitOne X.K t c = some b) (h : ∀ tk, Q (.bool b) { s with toks := tk }) :
    wpAny (model X.prog X.w) A (call (.builtin "isinstance") [u, c]) Q E s := by
  cases ty with
  | non => cases (show u = Value.none from rx); exact PySem.W.kia_one PySem.W.kitx_none I.kIn True.intro e (fun z => nomatch z) h
  | bl y => cases (show u = Value.bool y from rx); exact PySem.W.kia_one PySem.W.kitx_bool I.kIn True.intro e (fun z => nomatch z) h
  | int i => obtain ⟨t, q⟩ := (show ∃ t, u = Value.int i t from rx); cases q; exact PySem.W.kia_one PySem.W.kitx_int I.kIn True.intro e (fun z => nomatch z) h
  | str y => obtain ⟨t, q⟩ := (show ∃ t, u = Value.str y t from rx); cases q; exact PySem.W.kia_one PySem.W.kitx_str I.kIn True.intro e (fun z => nomatch z) h
  | flt y => obtain ⟨t, q⟩ := (show ∃ t, u = Value.float y t from rx); cases q; exact PySem.W.kia_one PySem.W.kitx_float I.kIn True.intro e (fun z => nomatch z) h
  | @lst a xs ea =>
    cases (show u = Value.ref a from rx)
    obtain ⟨_, _, n, _, h1⟩ := (show ObjOk X.prog X.w H s.heap a (.lst xs) from I.hok a _ ea)
    exact PySem.W.kia_one PySem.W.kitx_list I.kIn ⟨_, h1, rfl⟩ e (fun z => nomatch z) h
  | @frz a ob xs ea =>
    cases (show u = Value.ref a from rx)
    obtain ⟨_, _, _, n, _, h1⟩ := (show ObjOk X.prog X.w H s.heap a (.frz ob (.lst xs)) from I.hok a _ ea)
    exact PySem.W.kia_one PySem.W.kitx_list I.kIn ⟨_, h1, rfl⟩ e (fun z => nomatch z) h
  | @tup a xs ea =>
    cases (show u = Value.ref a from rx)
    obtain ⟨_, _, _, p⟩ := (show ObjOk X.prog X.w H s.heap a (.tup xs) from I.hok a _ ea)
    obtain ⟨o, h1, h2, _⟩ := p
    exact PySem.W.kia_one PySem.W.kitx_tuple I.kIn ⟨o, h1, h2⟩ e (fun z => nomatch z) h
  | @dK a kvs ea =>
    cases (show u = Value.ref a from rx)
    obtain ⟨_, _, vs, _, p⟩ := (show ObjOk X.prog X.w H s.heap a (.dK kvs) from I.hok a _ ea)
    obtain ⟨o, es, ep, h1, h2, _⟩ := p
    exact PySem.W.kia_one PySem.W.kitx_dict I.kIn ⟨o, h1, h2.1⟩ e (fun z => nomatch z) h
  | @dT a kvs ea =>
    cases (show u = Value.ref a from rx)
    obtain ⟨_, _, xs, _, o, es, ep, h1, h2, _⟩ := (show ObjOk X.prog X.w H s.heap a (.dT kvs) from I.hok a _ ea)
    exact PySem.W.kia_one PySem.W.kitx_dict I.kIn ⟨o, h1, h2.1⟩ e (fun z => nomatch z) h
  | @ins a C dx fs ea cl ha hn htk hm =>
    cases (show u = Value.ref a from rx)
    obtain ⟨mA, O, _⟩ := ins_get I.hok ea
    obtain ⟨od, J, _⟩ := O.look
    exact PySem.W.kia_one (PySem.W.kitx_own (cl.get _) cl.hd ha hn htk hm) I.kIn J e (fun z => nomatch z) h
end
end L2
namespace L2
open PySem PySem.Spec PyProof.Rows
structure Room (k : Nat) (A : Around) : Prop where
  hd : A.handled = none
  dp : A.depth + 3 * k + 5 < recursionLimit
  un : A.units + 16 * k + 200 < cLine
theorem Room.mono {j k : Nat} {A : Around} (r : Room k A) (h : j ≤ k) : Room j A := ⟨r.hd, by have := r.dp; (first | lia | omega), by have := r.un; (first | lia | omega)⟩
theorem Room.deeper {k : Nat} {A : Around} (r : Room (k + 1) A) (env : Env) : Room k (A.deeper env) :=
  ⟨r.hd, by have := r.dp; show A.depth + 1 + 3 * k + 5 < _; (first | lia | omega), by have := r.un; show A.units + 3 + 16 * k + 200 < _; (first | lia | omega)⟩
theorem Room.in1 {k : Nat} {A : Around} (r : Room (k + 1) A) : Room k A.in1 :=
  ⟨r.hd, by have := r.dp; show A.depth + 3 * k + 5 < _; (first | lia | omega), by have := r.un; show A.units + 1 + 16 * k + 200 < _; (first | lia | omega)⟩
theorem Room.depth {k : Nat} {A : Around} (r : Room k A) : A.depth < recursionLimit := by have := r.dp; (first | lia | omega)
theorem Room.units {k : Nat} {A : Around} (r : Room k A) : A.units + 64 < cLine := by have := r.un; (first | lia | omega)
noncomputable def tNil : TA := fun _ H Q => Q [] H
noncomputable def tCons (ta : TE) (tr : TA) : TA := fun σ H Q => ta σ H fun x H1 => tr σ H1 fun xs H2 => Q (x :: xs) H2
section
variable {X : Cx} {e : Expr} {es : List Expr} {te : TE} {t : TA} {pos : Pos}
theorem pa_nil : PA X [] tNil := fun _ _ _ _ H Q I h => Calls.spliced_nil ⟨[], H, I, .nil, h⟩
theorem pa_cons (ha : PE X e te) (hr : PA X es t) (hs : starEach (e :: es) X.env = (false, eval e X.env) :: starEach es X.env := by rfl) : PA X (e :: es) (tCons te t) := by
  intro pos pins s σ H Q I h
  rw [hs]
  show wpAny _ _ (spliced ((false, eval e X.env) :: backTo pos (starEach es X.env))) _ _ s
  refine Calls.spliced_cons (thn (ha pins s σ H _ I h) fun u s1 hzz => ?_)
  obtain ⟨x, H1, I1, r1, q1⟩ := hzz
  exact thn (hr pos pins s1 σ H1 _ I1 q1) fun us s2 ⟨xs, H2, I2, r2, q2⟩ => ⟨x :: xs, H2, I2, .cons r1 r2, q2⟩
noncomputable def tTup (t : TA) : TE := fun σ H Q => t σ H fun xs H1 => xs.length ≤ sizeLine ∧ ∀ p, H1 p = none → Q (.ref p) (upd H1 p (.tup xs))
noncomputable def tLst (t : TA) : TE := fun σ H Q => t σ H fun xs H1 => xs.length ≤ sizeLine ∧ ∀ p, H1 p = none → Q (.ref p) (upd H1 p (.lst xs))
theorem pe_tup {x1} (h : PA X es t) : PE X (.Tuple es x1 pos) (tTup t) := by
  intro pins s σ H Q I hq
  refine wpAny_Tuple_spliced (thn (h pos pins s σ H _ I hq) fun us s1 ⟨xs, H1, I1, r, z, q⟩ => ⟨by rw [← r.length]; exact z, ?_⟩)
  have hf : H1 s1.heap.objs.size = none := I1.hok.fresh (Nat.le_refl _)
  refine ⟨.ref s1.heap.objs.size, upd H1 s1.heap.objs.size (.tup xs), I1.laid (t' := s1.toks) (fun b u e => Heap.get?_push_of_some _ e) (Nat.le_refl _) ?_, rfl, q _ hf⟩
  exact ⟨z, us, r, ⟨_, Heap.get?_push_size _ rfl, rfl, _, rfl⟩⟩
theorem pe_lst (h : PA X es t) : PE X (.List es pos) (tLst t) := by
  intro pins s σ H Q I hq
  refine wpAny_List_spliced (thn (h pos pins s σ H _ I hq) fun us s1 ⟨xs, H1, I1, r, z, q⟩ => ⟨by rw [← r.length]; exact z, ?_⟩)
  have hf : H1 s1.heap.objs.size = none := I1.hok.fresh (Nat.le_refl _)
  refine ⟨.ref s1.heap.objs.size, upd H1 s1.heap.objs.size (.lst xs), I1.laid (t' := s1.toks) (fun b u e => Heap.get?_push_of_some _ e) (Nat.le_refl _) ?_, rfl, q _ hf⟩
  exact ⟨z, us, 0, r, Heap.get?_push_size _ rfl⟩
end
noncomputable abbrev Sp := List V → Hp → VK → XK → Prop
noncomputable abbrev CXT := List Env → Hp → Shared → XK → Value → Shared → Prop
structure Env0 (P : Program) (w : World) (K : PySem.W.Frag) (mg : Str → Option Value) (base : Heap) (A : Around) (outer : List Env) (s : Shared) (H : Hp) : Prop where
  frames : A.frames = some outer
  mod : Mod K mg base
  bs : ∀ b o, base.get? b = some o → s.heap.get? b = some o ∧ H b = none
  bsz : base.objs.size ≤ s.heap.objs.size
  funs : s.heap.FunFrames base outer
  frf : ∀ b ∈ frs outer, H b = none
  hok : HOk P w H s.heap
  bare : AllBare s.gens
noncomputable def CE (outer : List Env) (P : Program) (w : World) (H : Hp) (s : Shared) (Q : VK) (u : Value) (s' : Shared) : Prop :=
  ∃ v H', s'.os = s.os ∧ AllBare s'.gens ∧ Un (frs outer) [] H H' s.heap s'.heap ∧ HOk P w H' s'.heap ∧ RelV v u ∧ Q v H'
noncomputable def CR (CX : CXT) (outer : List Env) (P : Program) (w : World) (H : Hp) (s : Shared) (Q : VK) (E : XK) (r : Result) (s' : Shared) : Prop :=
  match r with
  | .ok (.ret u) => CE outer P w H s Q u s'
  | .ok _ => False
  | .error e => CX outer H s E e s'
structure FnOk (P : Program) (w : World) (K : PySem.W.Frag) (mg : Str → Option Value) (base : Heap) (CX : CXT) (k : Nat) (f : Addr) (fd : FuncData) (ps : List Str) (sp : Sp) : Prop where
  len : ∀ vs H Q E, sp vs H Q E → vs.length = ps.length
  run : ∀ (A : Around) (outer : List Env) (s : Shared) (H : Hp) (args : Args) (us : List Value) (vs : List V) (Q : VK) (E : XK), Room k A → Env0 P w K mg base A outer s H → BindsTo s fd args (ps.zip us) → Vals vs us → sp vs H Q E →
    codeAny (model P w) A (.call (.ref f) args) (CR CX outer P w H s Q E) s
theorem FnOk.mono {P : Program} {w : World} {K : PySem.W.Frag} {mg : Str → Option Value} {base : Heap} {CX : CXT} {j k : Nat} {f : Addr} {fd : FuncData} {ps : List Str} {sp : Sp} (F : FnOk P w K mg base CX j f fd ps sp) (h : j ≤ k) :
    FnOk P w K mg base CX k f fd ps sp := ⟨F.len, fun A outer s H args us vs Q E hr => F.run A outer s H args us vs Q E (hr.mono h)⟩
theorem Env0.in1 {P : Program} {w : World} {K : PySem.W.Frag} {mg : Str → Option Value} {base : Heap} {A : Around} {outer : List Env} {s : Shared} {H : Hp} (e : Env0 P w K mg base A outer s H) :
    Env0 P w K mg base A.in1 outer s H := ⟨e.frames, e.mod, e.bs, e.bsz, e.funs, e.frf, e.hok, e.bare⟩
section
variable {X : Cx} {pins : List (Addr × Obj)} {σ : St} {H : Hp} {s s' : Shared}
theorem Inv.env0 (I : Inv X pins σ H s) : Env0 X.prog X.w X.K X.mg X.base X.A X.stack s H :=
  ⟨I.ok.frames, I.ok.mod, I.bs, Nat.le_trans I.ok.bsz I.sz, I.stack, I.stkFree, I.hok, I.bare⟩
theorem Inv.after {Q : VK} {u : Value} (I : Inv X pins σ H s) (h : CE X.stack X.prog X.w H s Q u s') : EP X pins σ Q u s' := by
  obtain ⟨v, H', os, bare, un, hok, r, q⟩ := h
  obtain ⟨hh, g, d, t, os'⟩ := s'
  obtain rfl : os' = s.os := os
  exact ⟨v, H', I.call (h' := hh) (g' := g) (d' := d) (t' := t) (ch := []) un hok bare (fun b z => absurd z (by simp)), r, q⟩
end
noncomputable def tCall (sp : Sp) (dvs : List V) (E : XK) (t : TA) : TE := fun σ H Q => t σ H fun vs H1 => sp (vs ++ dvs) H1 Q E
noncomputable def Binds (K : PySem.W.Frag) (fd : FuncData) (ps : List Str) (ds : List Value) : Prop :=
  ∀ (s : Shared) (us : List Value), K.In s.heap → (us ++ ds).length = ps.length → BindsTo s fd ⟨us, []⟩ (ps.zip (us ++ ds))
theorem Binds.all {K : PySem.W.Frag} {fd : FuncData} {ps : List Str} (h : ∀ us : List Value, us.length = ps.length → bindArgs fd ⟨us, []⟩ = pure (ps.zip us)) : Binds K fd ps [] := fun s us _ hl => by
  rw [List.append_nil] at hl ⊢
  exact .of_eq (h us hl)
noncomputable def Passes (CX : CXT) (X : Cx) (E : XK) : Prop := ∀ (pins : List (Addr × Obj)) (σ : St) (H : Hp) (s : Shared) (e : Value) (s' : Shared), Inv X pins σ H s → CX X.stack H s E e s' → X.xe e s'
section
variable {X : Cx} {CX : CXT} {k : Nat} {f C : Addr} {fd : FuncData} {ps : List Str} {sp : Sp} {dvs : List V} {ds : List Value} {E : XK} {x m : Str} {p pos apos : Pos} {e o : Expr} {es : List Expr} {ta : TE} {t : TA}
theorem run_fn {pins : List (Addr × Obj)} {σ : St} {H : Hp} {s : Shared} {Q : VK} {us : List Value} {vs : List V} (F : FnOk X.prog X.w X.K X.mg X.base CX k f fd ps sp) (hr : Room k X.A) (hb : Binds X.K fd ps ds) (hd : Vals dvs ds) (hx : Passes CX X E)
    (I : Inv X pins σ H s) (r : Vals vs us) (h : sp (vs ++ dvs) H Q E) : wpAny (model X.prog X.w) X.A (call (.ref f) us) (EP X pins σ Q) X.xe s := by
  have r2 : Vals (vs ++ dvs) (us ++ ds) := r.append hd
  have hl : (us ++ ds).length = ps.length := by rw [← r2.length]; exact F.len _ _ _ _ h
  refine wpAny_call (codeAny_mono (F.run X.A X.stack s H ⟨us, []⟩ (us ++ ds) (vs ++ dvs) Q E hr I.env0 (hb s us I.kIn hl) r2 h) fun r s' hq => ?_)
  cases r with
  | error e => exact hx pins σ H s e s' I hq
  | ok fl =>
    cases fl with
    | ret u => exact I.after hq
    | next => exact False.elim hq
    | brk => exact False.elim hq
    | cont => exact False.elim hq
theorem pe_call (F : FnOk X.prog X.w X.K X.mg X.base CX k f fd ps sp) (hr : Room k X.A) (hg : Gl X x) (hm : X.mg x = some (.ref f)) (hk : PySem.W.keepIn X.K (.ref f) = true) (hb : Binds X.K fd ps ds) (hd : Vals dvs ds) (hx : Passes CX X E)
    (ha : PA X (e :: es) t) (hdb : (x == ("__debug__" : Str)) = false := by decide) (he : starEach (e :: es) X.env = (false, eval e X.env) :: starEach es X.env := by rfl) (hpl : (backTo pos (starEach es X.env)).any (·.1) = false := by rfl) :
    PE X (.Call (.Name x p) (e :: es) [] pos) (tCall sp dvs E t) := by
  intro pins s σ H Q I h
  refine wpAny_Call_Name_kw (ld_glob I hg hm ?_ hdb)
  refine PySem.W.callWith_K (h₀ := X.base) I.ok.mod.kin hk (thn (ha pos pins s σ H _ I h) fun us s1 ⟨vs, H1, I1, r, q⟩ => ⟨I1.kIn, ?_⟩) he hpl
  exact run_fn F hr hb hd hx I1 r q
end
noncomputable def PK (X : Cx) (kws : List Keyword) (t : TA) : Prop :=
  ∀ (pos : Pos) (pins : List (Addr × Obj)) (s : Shared) (σ : St) (H : Hp) (Q : List V → Hp → Prop), Inv X pins σ H s → t σ H Q → wpAny (model X.prog X.w) X.A (evalAll ((backToKw pos (keywordEach kws X.env)).map (·.2))) (AP X pins σ Q) X.xe s
section
variable {X : Cx} {CX : CXT} {k : Nat} {f C : Addr} {fd : FuncData} {ps ks : List Str} {sp : Sp} {E : XK} {x m : Str} {p pos apos kpos : Pos} {e o : Expr} {es : List Expr} {kws : List Keyword} {te ta : TE} {t tk : TA} {nm : Option Str}
theorem pk_nil : PK X [] tNil := fun _ _ _ _ H Q I h => wpAny_evalAll_nil ⟨[], H, I, .nil, h⟩
theorem pk_cons (ha : PE X e te) (hr : PK X kws t) : PK X (⟨nm, e, kpos⟩ :: kws) (tCons te t) := by
  intro pos pins s σ H Q I h
  show wpAny _ _ (evalAll ((do let v ← eval e X.env; standAt pos; pure v) :: (backToKw pos (keywordEach kws X.env)).map (·.2))) _ _ s
  refine wpAny_evalAll_cons (wpAny_bind (thn (ha pins s σ H _ I h) fun u s1 ⟨x, H1, I1, r1, q1⟩ => wpAny_bind (wpAny_standAt (wpAny_pure ?_))))
  exact thn (hr pos pins s1 σ H1 _ I1 q1) fun us s2 ⟨xs, H2, I2, r2, q2⟩ => ⟨x :: xs, H2, I2, .cons r1 r2, q2⟩
variable {g : List Value → List Value → List Value} {gV : List V → List V → List V}
end
structure FnScope (N P : List Str) (sc : Scope) : Prop where
  kind : sc.kind = .function
  co : sc.isCoroutine = false
  gen : sc.isGenerator = false
  nd : N.Nodup
  pre : N.take P.length = P
  par : ∀ x ∈ P, sc.names.lookup x = some .local ∨ sc.names.lookup x = some .cell
  nofree : ∀ y ∈ sc.names, y.2 ≠ .free
theorem bindL_out {kindOf : Str → Option NameKind} {x : Str} : ∀ {binds : List (Str × Value)} {m : Str → Option Value}, (∀ v, (x, v) ∉ binds) → bindL kindOf binds m x = m x
  | [], _, _ => rfl
  | (n, v) :: r, m, h => by
    unfold bindL
    rw [bindL_out fun w hw => h w (List.mem_cons_of_mem _ hw)]
    split
    · have : x ≠ n := by rintro rfl; exact h v List.mem_cons_self
      simp [this]
    · rfl
theorem bindC_out {kindOf : Str → Option NameKind} {x : Str} : ∀ {binds : List (Str × Value)} {m : Str → Option Value}, (∀ v, (x, v) ∉ binds) → bindC kindOf binds m x = m x
  | [], _, _ => rfl
  | (n, v) :: r, m, h => by
    unfold bindC
    rw [bindC_out fun w hw => h w (List.mem_cons_of_mem _ hw)]
    split
    · rfl
    · have : x ≠ n := by rintro rfl; exact h v List.mem_cons_self
      simp [this]
theorem bindL_get {kindOf : Str → Option NameKind} {x : Str} {v : Value} : ∀ {P : List Str} {vs : List Value} {i : Nat} {m : Str → Option Value}, P.Nodup → P[i]? = some x → vs[i]? = some v → kindOf x = some .local →
    bindL kindOf (P.zip vs) m x = some v
  | [], _, _, _, _, h, _, _ => by simp at h
  | _ :: _, [], _, _, _, _, h, _ => by simp at h
  | p :: P, w :: vs, 0, m, nd, h1, h2, hk => by
    simp at h1 h2; subst h1; subst h2
    show bindL kindOf ((p, w) :: P.zip vs) m p = _
    unfold bindL
    rw [bindL_out fun v hv => (List.nodup_cons.mp nd).1 (List.of_mem_zip hv).1, if_pos hk]
    simp
  | p :: P, w :: vs, i + 1, m, nd, h1, h2, hk => by
    show bindL kindOf ((p, w) :: P.zip vs) m x = _
    unfold bindL
    exact bindL_get (i := i) (List.nodup_cons.mp nd).2 (by simpa using h1) (by simpa using h2) hk
theorem bindC_get {kindOf : Str → Option NameKind} {x : Str} {v : Value} : ∀ {P : List Str} {vs : List Value} {i : Nat} {m : Str → Option Value}, P.Nodup → P[i]? = some x → vs[i]? = some v → kindOf x ≠ some .local →
    bindC kindOf (P.zip vs) m x = some v
  | [], _, _, _, _, h, _, _ => by simp at h
  | _ :: _, [], _, _, _, _, h, _ => by simp at h
  | p :: P, w :: vs, 0, m, nd, h1, h2, hk => by
    simp at h1 h2; subst h1; subst h2
    show bindC kindOf ((p, w) :: P.zip vs) m p = _
    unfold bindC
    rw [bindC_out fun v hv => (List.nodup_cons.mp nd).1 (List.of_mem_zip hv).1, if_neg hk]
    simp
  | p :: P, w :: vs, i + 1, m, nd, h1, h2, hk => by
    show bindC kindOf ((p, w) :: P.zip vs) m x = _
    unfold bindC
    exact bindC_get (i := i) (List.nodup_cons.mp nd).2 (by simpa using h1) (by simpa using h2) hk
noncomputable def start (N : List Str) (vs : List V) : St := vs.map some ++ List.replicate (N.length - vs.length) none
noncomputable def cxOf (CX : CXT) (P : Program) (w : World) (K : PySem.W.Frag) (mg : Str → Option Value) (base : Heap) (N : List Str) (qual : Str) (scope : Scope) (f : Addr) (cd : Value) (A : Around) (outer : List Env) (s : Shared) (H : Hp) (E : XK) : Cx where
  prog := P
  w := w
  K := K
  mg := mg
  base := base
  A := A.deeper (envOfC qual scope s.heap.objs.size f cd)
  N := N
  s₀ := s
  H₀ := H
  env := envOfC qual scope s.heap.objs.size f cd
  outer := outer
  stack := envOfC qual scope s.heap.objs.size f cd :: outer
  ex := []
  calm := true
  fn := fun _ => true
  pn := []
  xe := fun e s' => wpAny (model P w) (A.deeper (envOfC qual scope s.heap.objs.size f cd)) (leaving (envOfC qual scope s.heap.objs.size f cd) e) (fun _ s'' => CX outer H s E e s'') (fun e' s'' => CX outer H s E e' s'') s'
theorem cell_has {sc : Scope} {n : Nat} {x : Str} (h : sc.names.lookup x = some .cell) : ∃ c, (cellsFrom n sc.names []).lookup x = some c := by
  have q := PySem.W.cellsFrom_some sc.names n [] (.inl h)
  exact Option.isSome_iff_exists.mp q
theorem inv_start {CX : CXT} {P : Program} {w : World} {K : PySem.W.Frag} {mg : Str → Option Value} {base : Heap} {N ps : List Str} {qual : Str} {scope : Scope} {f : Addr} {cd : Value} {A : Around} {outer : List Env} {s s1 : Shared} {H : Hp} {E : XK} {us : List Value} {vs : List V}
    (S : FnScope N ps scope) (hd : A.handled = none) (e0 : Env0 P w K mg base A outer s H) (hl : vs.length = ps.length) (r : Vals vs us)
    (x : InCallC s s.heap.objs.size (bindL (envOfC qual scope s.heap.objs.size f cd).kindOf (ps.zip us) fun _ => none) (cellsFrom (s.heap.objs.size + 1) scope.names []) (bindC (envOfC qual scope s.heap.objs.size f cd).kindOf (ps.zip us) fun _ => none) s1) :
    Inv (cxOf CX P w K mg base N qual scope f cd A outer s H E) [] (start N vs) H s1 := by
  have hpl : ps.length ≤ N.length := by have := congrArg List.length S.pre; rw [List.length_take] at this; (first | lia | omega)
  obtain ⟨h1, tk, rfl, hk⟩ := x.done
  have noA : ∀ b : Addr, b ∉ (cxOf CX P w K mg base N qual scope f cd A outer s H E).ex := fun b z => absurd (show b ∈ ([] : List Addr) from z) (by simp)
  refine ⟨⟨e0.mod, S.kind, rfl, rfl, Nat.le_refl _, fun y z c h1 h2 => ?_, fun y hy => ?_, fun y c _ h => ?_, fun _ => hd, Around.frames_deeper e0.frames, .inr ⟨rfl, rfl⟩, fun b z => absurd z (noA b), e0.bs, e0.bsz, fun b _ _ => noA b, fun b z => absurd z (noA b), e0.funs, e0.frf⟩,
    rfl, e0.bare, Un.kept hk, ⟨_, x.toInCall.ns, fun i y v h1 h2 h3 => ?_⟩, fun y c h => ⟨_, x.cell y c h⟩, e0.hok.fresh (Nat.le_refl _), fun y c h => ?_, fun p hp => absurd (show p ∈ ([] : List (Addr × Obj)) from hp) (by simp), e0.hok.kept hk, ?_⟩
  · exact name_of_addr x.apart (PySem.mem_of_lookup h1) (PySem.mem_of_lookup h2)
  · have hy : scope.names.lookup y = some .cell ∨ scope.names.lookup y = some .free := hy
    rcases hy with hy | hy
    · exact cell_has hy
    · exact absurd rfl (S.nofree _ (PySem.mem_of_lookup hy))
  · exact Nat.le_of_lt (x.above y c (PySem.mem_of_lookup h))
  · have hi : i < vs.length := by
      unfold start at h2
      by_cases hi : i < vs.length
      · exact hi
      · rw [List.getElem?_append_right (by simpa using hi)] at h2
        rw [List.getElem?_replicate] at h2
        split at h2 <;> cases h2
    have ha : vs[i]? = some v := by
      unfold start at h2
      rw [List.getElem?_append_left (by simpa using hi), List.getElem?_map] at h2
      cases e : vs[i]? with
      | none => rw [e] at h2; cases h2
      | some a => rw [e] at h2; cases h2; rfl
    obtain ⟨u, hu, rv⟩ := r.get ha
    have hp : ps[i]? = some y := by
      rw [← S.pre, List.getElem?_take_of_lt (by (first | lia | omega))]; exact h1
    have ndP : ps.Nodup := by rw [← S.pre]; exact S.nd.sublist (List.take_sublist _ _)
    refine ⟨u, rv, ?_⟩
    rcases S.par y (List.mem_of_getElem? hp) with k | k
    · exact .inl ⟨k, bindL_get ndP hp hu k⟩
    · obtain ⟨c, e⟩ := cell_has (n := s.heap.objs.size + 1) k
      refine .inr ⟨.inl k, c, e, ?_⟩
      have q := x.cell y c e
      rw [bindC_get ndP hp hu (by show scope.names.lookup y ≠ _; rw [k]; decide)] at q
      exact q
  · exact e0.hok.fresh (Nat.le_of_lt (x.above y c (PySem.mem_of_lookup h)))
  · unfold start
    show _ = N.length
    rw [List.length_append, List.length_map, List.length_replicate]
    (first | lia | omega)
theorem fn_of {CX : CXT} {P : Program} {w : World} {K : PySem.W.Frag} {mg : Str → Option Value} {base : Heap} {k : Nat} {f : Addr} {name qual : Str} {params : Arguments} {body : List Stmt} {scope : Scope} {dV kV doc pm cdv ct oc : Value} {an od : Option Addr}
    {osl : Array (Option Value)} {N ps : List Str} {sp : Sp} (lk : K.lookup f = some ⟨oc, od, .func (PySem.W.fnOf name qual params body scope dV kV doc pm an cdv ct), osl⟩) (hcd : PySem.W.codeIn K cdv qual = true) (S : FnScope N ps scope)
    (len : ∀ vs H Q E, sp vs H Q E → vs.length = ps.length)
    (hbody : ∀ (A : Around) (outer : List Env) (s : Shared) (H : Hp) (vs : List V) (Q : VK) (E : XK), Room k (A.deeper (envOfC qual scope s.heap.objs.size f cdv)) → sp vs H Q E →
      ∃ t, PSs (cxOf CX P w K mg base N qual scope f cdv A outer s H E) body t ∧ t { nx := fun _ H' => Q .non H', rt := Q } (start N vs) H) :
    FnOk P w K mg base CX (k + 1) f (PySem.W.fnOf name qual params body scope dV kV doc pm an cdv ct) ps sp := by
  refine ⟨len, fun A outer s H args us vs Q E hr e0 hb r hsp => ?_⟩
  have hl := len _ _ _ _ hsp
  have KX : K.In s.heap := e0.mod.kin.keeps fun b o e => (e0.bs b o e).1
  have lim : s.heap.NoLimit := e0.mod.nolimit.keeps fun b o e => (e0.bs b o e).1
  have hkind : ∀ y ∈ ps.zip us, scope.names.lookup y.1 = some .local ∨ (scope.names.lookup y.1 = some .cell ∧ ((cellsFrom (s.heap.objs.size + 1) scope.names []).lookup y.1).isSome = true) := fun ⟨n, v⟩ hy => by
    rcases S.par n (List.of_mem_zip hy).1 with q | q
    · exact .inl q
    · exact .inr ⟨q, PySem.W.cellsFrom_some _ _ _ (.inl q)⟩
  refine codeAny_call_function hr.depth (KX _ _ lk) rfl S.co S.gen rfl (PySem.W.codeRec_of KX hcd) (hb _ _ _ _ ?_)
  refine wpAny_newFunctionEnv_cells S.kind hkind fun env he s1 x => ?_
  subst he
  refine ⟨lim.keeps x.toInCall.keep, codeAny_func ?_⟩
  obtain ⟨t, ht, hq⟩ := hbody A outer s H vs Q E (hr.deeper _) hsp
  have I : Inv (cxOf CX P w K mg base N qual scope f cdv A outer s H E) [] (start N vs) H s1 := inv_start S hr.hd e0 hl r x
  refine wpAny_mono (ht [] s1 (start N vs) H _ I hq) (fun fl s' hs => ?_) fun e s' hs => hs
  have fin : ∀ {σ' : St} {H' : Hp} {v : V} {u : Value}, Inv (cxOf CX P w K mg base N qual scope f cdv A outer s H E) [] σ' H' s' → RelV v u → Q v H' → CE outer P w H s Q u s' :=
    fun {σ' H' v u} J rv q => ⟨v, H', J.os, J.bare, J.base, J.hok, rv, q⟩
  cases fl with
  | ret u =>
    obtain ⟨v, σ', H', J, rv, q⟩ := hs
    exact fin J rv q
  | next =>
    obtain ⟨σ', H', J, q⟩ := hs
    exact fin (v := V.non) (u := Value.none) J rfl q
  | brk =>
    obtain ⟨_, _, _, q⟩ := hs
    exact False.elim q
  | cont =>
    obtain ⟨_, _, _, q⟩ := hs
    exact False.elim q
end L2
namespace L2
open PySem PySem.Spec PyProof.Rows
section
variable {X : Cx} {x : Str} {p pos : Pos} {e : Expr} {es : List Expr} {t : TA} {id T : String} {r : List V → Hp → VK → Prop}
noncomputable def tCB (r : List V → Hp → VK → Prop) (t : TA) : TE := fun σ H Q => t σ H fun vs H1 => r vs H1 Q
theorem pe_callB (hc : CallR X (.builtin id) r) (hg : Gl X x) (hm : X.mg x = none) (hv : bootBuiltins x = some (.builtin id)) (ha : PA X (e :: es) t) (hn : x ≠ "__name__" := by decide) (hdb : (x == ("__debug__" : Str)) = false := by decide)
    (he : starEach (e :: es) X.env = (false, eval e X.env) :: starEach es X.env := by rfl) (hpl : (backTo pos (starEach es X.env)).any (·.1) = false := by rfl) : PE X (.Call (.Name x p) (e :: es) [] pos) (tCB r t) := by
  intro pins s σ H Q I h
  refine wpAny_Call_Name_kw (ld_blt I hg hm hv ?_ hn hdb)
  exact PyProof.Rows.callWith_builtin1 (thn (ha pos pins s σ H _ I h) fun us s1 hzz => by obtain ⟨vs, H1, I1, r1, q1⟩ := hzz; exact hc pins s1 σ H1 vs us Q I1 r1 q1) he hpl
theorem pe_callTy (hc : CallR X (.type T) r) (hg : Gl X x) (hm : X.mg x = none) (hv : bootBuiltins x = some (.type T)) (ha : PA X (e :: es) t) (hn : x ≠ "__name__" := by decide) (hdb : (x == ("__debug__" : Str)) = false := by decide)
    (he : starEach (e :: es) X.env = (false, eval e X.env) :: starEach es X.env := by rfl) (hpl : (backTo pos (starEach es X.env)).any (·.1) = false := by rfl) : PE X (.Call (.Name x p) (e :: es) [] pos) (tCB r t) := by
  intro pins s σ H Q I h
  refine wpAny_Call_Name_kw (ld_blt I hg hm hv ?_ hn hdb)
  exact PyProof.Rows.callWith_type1 (thn (ha pos pins s σ H _ I h) fun us s1 hzz => by obtain ⟨vs, H1, I1, r1, q1⟩ := hzz; exact hc pins s1 σ H1 vs us Q I1 r1 q1) he hpl
end
end L2
namespace HT
open PySem PyProof.Rows
noncomputable def lexLt : List Int → List Int → Bool
  | [], [] => false
  | [], _ :: _ => true
  | _ :: _, [] => false
  | x :: xs, y :: ys => if x = y then lexLt xs ys else decide (x < y)
theorem lexLt_cons (x y : Int) (xs ys : List Int) : lexLt (x :: xs) (y :: ys) = if x = y then lexLt xs ys else decide (x < y) := rfl
theorem rcLt_int (A : Around) (s : Shared) (a : Int) (t : Tok) (c : Int) (u : Tok) (prog : Program) (w : World) (E : Value → Shared → Prop) (Q : Value → Shared → Prop) (h : Q (.bool (decide (a < c))) s) :
    wpAny (model prog w) A (richCompare .Lt (.int a t) (.int c u)) Q E s :=
  (PyProof.Rows.lt_int h : wpAny (model prog w) A (compareOp .Lt (.int a t) (.int c u)) Q E s)
section
open PySem.SeqAt
open PySem.AutoSeq1 (wpAny_loadPart')
open PySem.MeetsSeq PySem.MeetsSeq2 PySem.MeetsSeq3
end
section
variable {prog : Program} {w : World} {A : Around} {E : Value → Shared → Prop} {s : Shared}
noncomputable def sIx (n d : Nat) : Option Int → Nat
  | none => d
  | some v => if v < 0 then (v + (n : Int)).toNat else min v.toNat n
theorem sIx_none (n d : Nat) : sIx n d none = d := rfl
theorem sIx_nat (n d k : Nat) : sIx n d (some (k : Int)) = min k n := by
  show (if (k : Int) < 0 then ((k : Int) + (n : Int)).toNat else min (k : Int).toNat n) = min k n
  rw [if_neg (by (first | lia | omega)), Int.toNat_natCast]
end
end HT
namespace L2
open PySem PySem.Spec PyProof.Rows
noncomputable abbrev TO := St → Hp → (Option Int → Hp → Prop) → Prop
noncomputable def PO (X : Cx) (e : Option Expr) (t : TO) : Prop :=
  ∀ (pins : List (Addr × Obj)) (s : Shared) (σ : St) (H : Hp) (Q : Option Int → Hp → Prop), Inv X pins σ H s → t σ H Q →
    wpAny (model X.prog X.w) X.A (evalPart e X.env) (fun u s' => ∃ o H', Inv X pins σ H' s' ∧ IsPart u o ∧ Q o H') X.xe s
noncomputable def tNoPart : TO := fun _ H Q => Q none H
noncomputable def tPart (t : TE) : TO := fun σ H Q => t σ H fun x H1 => ∃ i, x = .int i ∧ Q (some i) H1
theorem intsAre_of {ns : List Int} : ∀ {us : List Value}, Vals (ns.map V.int) us → IntsAre us ns := by
  induction ns with
  | nil => intro us r; rw [List.map_nil] at r; cases r; exact .nil
  | cons n ns ih =>
    intro us r
    rw [List.map_cons] at r
    cases r with
    | cons r1 r2 =>
      obtain ⟨t, e⟩ := r1
      subst e
      exact .cons n t (ih r2)
section
variable {X : Cx} {e : Expr} {te : TE} {lo hi : Option Expr} {tl th : TO} {pos p2 : Pos}
theorem po_none : PO X none tNoPart := by
  intro pins s σ H Q I h
  rw [evalPart_none]
  exact wpAny_pure ⟨none, H, I, .none, h⟩
theorem po_some (h : PE X e te) : PO X (some e) (tPart te) := by
  intro pins s σ H Q I hw
  rw [evalPart_some]
  refine thn (h pins s σ H _ I hw) fun u s1 hzz => ?_
  obtain ⟨x, H1, I1, r1, q1⟩ := hzz
  obtain ⟨i, rfl, q⟩ := q1
  obtain ⟨t, rfl⟩ := r1
  exact ⟨some i, H1, I1, .int i t, q⟩
noncomputable def SlR (X : Cx) (r : V → Option Int → Option Int → Hp → VK → Prop) : Prop :=
  ∀ (pins : List (Addr × Obj)) (s : Shared) (σ : St) (H : Hp) (x : V) (v vl vu : Value) (lo hi : Option Int) (sl : Addr) (Q : VK), Inv X pins σ H s → RelV x v → s.heap.IsSliceOf sl vl vu .none → IsPart vl lo → IsPart vu hi → r x lo hi H Q →
    ∃ T id, typeLookup (.type T) "__getitem__" = pure (some (.builtin id)) ∧ s.TypeIs v T ∧ wpAny (model X.prog X.w) X.A (getItem v (.ref sl)) (EP X pins σ Q) X.xe s
noncomputable def tSl (r : V → Option Int → Option Int → Hp → VK → Prop) (te : TE) (tl th : TO) : TE := fun σ H Q => te σ H fun x H1 => tl σ H1 fun l H2 => th σ H2 fun u H3 => r x l u H3 Q
theorem pe_slice {r : V → Option Int → Option Int → Hp → VK → Prop} (hr : SlR X r) (he : PE X e te) (hl : PO X lo tl) (hu : PO X hi th) : PE X (.Subscript e (.Slice lo hi none p2) pos) (tSl r te tl th) := by
  intro pins s σ H Q I h
  refine Subscript_ (thn (he pins s σ H _ I h) fun v s1 hzz => ?_)
  obtain ⟨x, H1, I1, r1, q1⟩ := hzz
  refine wpAny_Slice (thn (hl pins s1 σ H1 _ I1 q1) fun vl s2 ⟨l, H2, I2, pl, q2⟩ => thn (hu pins s2 σ H2 _ I2 q2) fun vu s3 hzz => ?_)
  obtain ⟨u, H3, I3, pu, q3⟩ := hzz
  rw [evalPart_none]
  refine wpAny_pure ?_
  have I4 : Inv X pins σ H3 { s3 with heap := s3.heap.push { cls := .type "slice", data := .fields #[vl, vu, .none] } } := I3.kept (t' := s3.toks) fun b ob q => Heap.get?_push_of_some _ q
  obtain ⟨T, id, hT, ht, hg⟩ := hr pins { s3 with heap := s3.heap.push { cls := .type "slice", data := .fields #[vl, vu, .none] } } σ H3 x v vl vu l u s3.heap.objs.size Q I4 r1 (Heap.IsSliceOf.new ..) pl pu q3
  show wpAny (model X.prog X.w) X.A (subscriptTail e (.Slice lo hi none p2) v (.ref s3.heap.objs.size)) (EP X pins σ Q) X.xe { s3 with heap := s3.heap.push { cls := .type "slice", data := .fields #[vl, vu, .none] } }
  exact tail_any (ops := [.ref s3.heap.objs.size, v]) ht hT hg (by with_unfolding_all rfl)
noncomputable def cutV (xs : List V) (lo hi : Option Int) : List V := (xs.drop (HT.sIx xs.length 0 lo)).take (HT.sIx xs.length xs.length hi - HT.sIx xs.length 0 lo)
theorem cutV_length (xs : List V) (lo hi : Option Int) : (cutV xs lo hi).length ≤ xs.length := by
  unfold cutV
  rw [List.length_take, List.length_drop]
  exact Nat.le_trans (Nat.min_le_right _ _) (Nat.sub_le _ _)
end
end L2
namespace L2
open PySem PySem.Spec PyProof.Rows
noncomputable def ixN (n : Nat) (i : Int) : Option Nat := if 0 ≤ i then (if i < n then some i.toNat else none) else if -(n : Int) ≤ i then some (i + n).toNat else none
noncomputable def atI {α : Type} (xs : List α) (i : Int) : Option α := (ixN xs.length i).bind fun j => xs[j]?
theorem ixN_seq {n : Nat} {i : Int} {j : Nat} (h : ixN n i = some j) : seqIndex? i n = some j ∧ j < n ∧ -(n : Int) ≤ i ∧ i < n := by
  unfold ixN at h
  by_cases h0 : 0 ≤ i
  · rw [if_pos h0] at h
    by_cases h1 : i < n
    · rw [if_pos h1] at h
      have e : i.toNat = j := Option.some.inj h
      exact ⟨by rw [seqIndex_of h0 h1, e], by (first | lia | omega), by (first | lia | omega), h1⟩
    · rw [if_neg h1] at h; cases h
  · rw [if_neg h0] at h
    by_cases h1 : -(n : Int) ≤ i
    · rw [if_pos h1] at h
      have e : (i + n).toNat = j := Option.some.inj h
      exact ⟨by rw [seqIndex_neg (by (first | lia | omega)) h1, e], by (first | lia | omega), h1, by (first | lia | omega)⟩
    · rw [if_neg h1] at h; cases h
theorem atI_get {α : Type} {xs : List α} {i : Int} {v : α} (h : atI xs i = some v) : ∃ j, seqIndex? i xs.length = some j ∧ xs[j]? = some v ∧ j < xs.length ∧ -(xs.length : Int) ≤ i ∧ i < xs.length := by
  unfold atI at h
  cases e : ixN xs.length i with
  | none => rw [e] at h; cases h
  | some j =>
    rw [e] at h
    obtain ⟨h1, h2, h3, h4⟩ := ixN_seq e
    exact ⟨j, h1, h, h2, h3, h4⟩
theorem atI_nat {α : Type} {xs : List α} {j : Nat} {v : α} (h : xs[j]? = some v) : atI xs (j : Int) = some v := by
  have hj : j < xs.length := (List.getElem?_eq_some_iff.mp h).1
  have e : ixN xs.length (j : Int) = some j := by
    unfold ixN
    rw [if_pos (by (first | lia | omega)), if_pos (by (first | lia | omega))]; simp
  unfold atI; rw [e]; exact h
noncomputable def PlainIx (b : Expr) : Prop := ∀ o i, subscripted b false o i = operate [o, i] (getItem o i)
noncomputable def IxR (X : Cx) (r : R2) : Prop :=
  ∀ (value slice : Expr) (pins : List (Addr × Obj)) (s : Shared) (σ : St) (H : Hp) (x y : V) (v u : Value) (Q : VK), Inv X pins σ H s → RelV x v → RelV y u → r x y H Q →
    subscripted slice false v u = operate [v, u] (getItem v u) → wpAny (model X.prog X.w) X.A (subscriptTail value slice v u) (EP X pins σ Q) X.xe s
noncomputable def MtR (X : Cx) (id : String) (r : V → List V → Hp → VK → Prop) : Prop :=
  ∀ (pins : List (Addr × Obj)) (s : Shared) (σ : St) (H : Hp) (x : V) (xs : List V) (v : Value) (us : List Value) (Q : VK), Inv X pins σ H s → RelV x v → Vals xs us → r x xs H Q →
    wpAny (model X.prog X.w) X.A (call (.builtin id) (v :: us)) (EP X pins σ Q) X.xe s
section
variable {X : Cx} {a b : Expr} {ta tb : TE} {pos : Pos}
theorem pe_ix {r : R2} (hr : IxR X r) (ha : PE X a ta) (hb : PE X b tb) (hs : PlainIx b) : PE X (.Subscript a b pos) (tOp r ta tb) := by
  intro pins s σ H Q I h
  exact Subscript_ (binT ha hb I h fun v u s2 x y H2 I2 rx ry q => hr a b pins s2 σ H2 x y v u Q I2 rx ry q (hs _ _))
noncomputable def rIxL (K : PySem.W.Frag) : R2 := fun x y H Q => ∃ p xs i v, x = .ref p ∧ y = .int i ∧ SqL K H p xs ∧ atI xs i = some v ∧ Q v H
theorem ix_list : IxR X (rIxL X.K) := by
  intro value slice pins s σ H x y v u Q I rx ry h hs
  obtain ⟨p, xs, i, z, rfl, rfl, hq, he, q⟩ := h
  cases rx
  obtain ⟨t, rfl⟩ := ry
  obtain ⟨its, r, pl, hz⟩ := I.list hq
  obtain ⟨j, h1, h2, h3, h4, h5⟩ := atI_get he
  obtain ⟨w, ew, rw'⟩ := r.get h2
  have hl := r.length
  have hn := line63
  have fin : EP X pins σ Q w s := ⟨z, H, I, rw', q⟩
  by_cases h0 : 0 ≤ i
  · have hj : i.toNat = j := by
      rw [seqIndex_of h0 h5] at h1
      exact Option.some.inj h1
    exact item_listR pl.isList h0 (by (first | lia | omega)) (by rw [hj]; simpa using ew) fin hs
  · have hj : (i + (its.toArray.size : Int)).toNat = j := by
      rw [seqIndex_neg (by (first | lia | omega)) h4] at h1
      rw [List.size_toArray, ← hl]
      exact Option.some.inj h1
    exact subscriptTail_builtinR (x := w) pl.isList.typeIs slot_list_getitem.lookup
      (wpAny_getItem_list_neg (Q := fun r s' => r = w ∧ EP X pins σ Q r s') pl.isList (by (first | lia | omega)) (by rw [List.size_toArray] <;> (first | lia | omega)) (by (first | lia | omega)) (by rw [hj]; simpa using ew) ⟨rfl, fin⟩) hs
theorem Inv.lst {pins : List (Addr × Obj)} {σ : St} {H : Hp} {s : Shared} {p : Addr} {xs : List V} (I : Inv X pins σ H s) (h : H p = some (.lst xs)) :
    ∃ (its : List Value) (n : Nat), Vals xs its ∧ s.heap.get? p = some { cls := .type "list", data := .seq its.toArray n } ∧ xs.length ≤ sizeLine := by
  obtain ⟨z, its, n, r, e⟩ := I.hok p _ h
  exact ⟨its, n, r, e, z⟩
theorem minC (k n : Nat) : min (k : Int) (n : Int) = ((min k n : Nat) : Int) := by
  rcases Nat.le_total k n with h | h
  · rw [Nat.min_eq_left h, Int.min_eq_left (Int.ofNat_le.mpr h)]
  · rw [Nat.min_eq_right h, Int.min_eq_right (Int.ofNat_le.mpr h)]
theorem slice_bounds (lo hi : Option Int) (n : Nat) : (sliceBounds lo hi none n).1 = ((HT.sIx n 0 lo : Nat) : Int) ∧ (sliceBounds lo hi none n).2.1 = ((HT.sIx n n hi : Nat) : Int) ∧ (sliceBounds lo hi none n).2.2 = 1 := by
  have a1 : ∀ i : Int, i < 0 → max 0 (min (i + (n : Int)) (n : Int)) = (((i + (n : Int)).toNat : Nat) : Int) := fun i h => by
    have e := Int.add_le_add_right (Int.le_of_lt h) (n : Int)
    rw [Int.zero_add] at e
    rw [Int.min_eq_left e, Int.max_comm, Int.ofNat_toNat]
  have a2 : ∀ i : Int, ¬ i < 0 → max 0 (min i (n : Int)) = ((min i.toNat n : Nat) : Int) := fun i h => by
    obtain ⟨k, rfl⟩ := Int.eq_ofNat_of_zero_le (Int.not_lt.mp h)
    rw [Int.toNat_natCast, minC, Int.max_eq_right (Int.natCast_nonneg _)]
  refine ⟨?_, ?_, rfl⟩
  · cases lo with
    | none => simp [sliceBounds, HT.sIx]
    | some i =>
      simp only [sliceBounds, HT.sIx, Option.getD_none, show (1 : Int) > 0 by decide, if_true]
      by_cases h : i < 0
      · (simp only [h, if_true]; exact a1 i h)
      · (simp only [h, if_false]; exact a2 i h)
  · cases hi with
    | none => simp [sliceBounds, HT.sIx]
    | some i =>
      simp only [sliceBounds, HT.sIx, Option.getD_none, show (1 : Int) > 0 by decide, if_true]
      by_cases h : i < 0
      · (simp only [h, if_true]; exact a1 i h)
      · (simp only [h, if_false]; exact a2 i h)
theorem slicePick_cut (its : List Value) (lo hi : Option Int) : slicePick its.toArray lo hi none = ((its.drop (HT.sIx its.length 0 lo)).take (HT.sIx its.length its.length hi - HT.sIx its.length 0 lo)).toArray := by
  obtain ⟨h1, h2, h3⟩ := slice_bounds lo hi its.toArray.size
  unfold slicePick
  rw [h1, h2, h3]
  simp only [sliceRange_one, pick_run, List.size_toArray] <;> rfl
noncomputable def rSlL (K : PySem.W.Frag) : V → Option Int → Option Int → Hp → VK → Prop := fun x lo hi H Q => ∃ a xs, x = .ref a ∧ SqL K H a xs ∧ ∀ p, H p = none → Q (.ref p) (upd H p (.lst (cutV xs lo hi)))
theorem sl_list : SlR X (rSlL X.K) := by
  intro pins s σ H x v vl vu lo hi sl Q I rx hs pl pu h
  obtain ⟨a, xs, rfl, hx, q⟩ := h
  cases rx
  obtain ⟨its, r, ht, hz⟩ := I.list hx
  have hlen := r.length
  refine ⟨"list", _, slot_list_getitem.lookup, ht.isList.typeIs, ?_⟩
  refine wpAny_getItem_list_slice ht.isList hs pl pu .none (by simp) ?_ (by rw [List.size_toArray] <;> (first | lia | omega))
  rw [slicePick_cut, ← hlen]
  refine ⟨.ref s.heap.objs.size, _, I.laid (t' := s.toks) (o := .lst (cutV xs lo hi)) (fun b ob q => Heap.get?_push_of_some _ q) (Nat.le_refl _) ?_, rfl, q _ (I.hok.fresh (Nat.le_refl _))⟩
  exact ⟨Nat.le_trans (cutV_length xs lo hi) hz, _, 0, (r.drop (HT.sIx xs.length 0 lo)).take (HT.sIx xs.length xs.length hi - HT.sIx xs.length 0 lo), Heap.get?_push_size _ rfl⟩
theorem call_len_seq : CallR X (.builtin "len") (fun xs H Q => ∃ p ys, xs = [.ref p] ∧ (SqL X.K H p ys ∨ SqT X.K H p ys) ∧ Q (.int ys.length) H) := by
  intro pins s σ H xs us Q I r h
  obtain ⟨p, ys, rfl, hq, q⟩ := h
  obtain ⟨u, rfl, rx⟩ := vals1 r
  cases rx
  have hn := line63
  rcases hq with hq | hq
  · obtain ⟨its, r', pl, hz⟩ := I.list hq
    have hlen := r'.length
    exact Calls.call_len_list pl.isList (by simp only [List.size_toArray] <;> (first | lia | omega)) ⟨.int ys.length, H, I.tok _, ⟨s.toks + 1, by rw [List.size_toArray, hlen]⟩, q⟩
  · obtain ⟨its, r', pl, hz⟩ := I.tuple hq
    have hlen := r'.length
    exact len_tuple pl (by simp only [List.size_toArray] <;> (first | lia | omega)) ⟨.int ys.length, H, I.tok _, ⟨s.toks + 1, by rw [List.size_toArray, hlen]⟩, q⟩
noncomputable def tyV (K : PySem.W.Frag) (T : String) (x : V) (H : Hp) : Prop := match x with
  | .str _ => T = "str"
  | .int _ => T = "int"
  | .ref p => (T = "list" ∧ ∃ xs, SqL K H p xs) ∨ (T = "tuple" ∧ ∃ o, K.lookup p = some o ∧ o.cls = .type "tuple" ∧ o.dict = none) ∨
      (T = "dict" ∧ ((∃ kvs, H p = some (.dK kvs)) ∨ ∃ kvs, H p = some (.dT kvs))) ∨ (T = "set" ∧ ∃ S n, H p = some (.set S n))
  | _ => False
theorem tyV_is {pins : List (Addr × Obj)} {σ : St} {H : Hp} {s : Shared} {T : String} {x : V} {v : Value} (I : Inv X pins σ H s) (r : RelV x v) (ty : tyV X.K T x H) :
    s.TypeIs v T ∧ ∀ a, v = .ref a → ∃ ob, s.heap.get? a = some ob ∧ ob.dict = none := by
  cases x with
  | str z =>
    obtain ⟨t, rfl⟩ := r
    cases (show T = "str" from ty)
    exact ⟨typeIs_str s z t, fun _ e => nomatch e⟩
  | int i =>
    obtain ⟨t, rfl⟩ := r
    cases (show T = "int" from ty)
    exact ⟨typeIs_int s i t, fun _ e => nomatch e⟩
  | ref p =>
    cases r
    rcases ty with ⟨rfl, xs, hq⟩ | ⟨rfl, o, hk, hc, hd⟩ | ⟨rfl, hk⟩ | ⟨rfl, S, n, hk⟩
    · obtain ⟨its, _, pl, _⟩ := I.list hq
      refine ⟨pl.isList.typeIs, fun a e => ?_⟩
      cases e
      obtain ⟨o, n, e, c, hd, _⟩ := pl
      exact ⟨o, e, hd⟩
    · refine ⟨⟨o, I.kIn p o hk, hc⟩, fun a e => ?_⟩
      cases e
      exact ⟨o, I.kIn _ o hk, hd⟩
    · have z : ∃ o, s.heap.get? p = some o ∧ o.ExactDict := by
        rcases hk with ⟨kvs, hk⟩ | ⟨kvs, hk⟩
        · obtain ⟨_, _, _, _, o, _, _, e, ex, _⟩ := I.hok p _ hk
          exact ⟨o, e, ex⟩
        · obtain ⟨_, _, _, _, o, _, _, e, ex, _⟩ := I.hok p _ hk
          exact ⟨o, e, ex⟩
      obtain ⟨o, e, ex⟩ := z
      refine ⟨⟨o, e, ex.1⟩, fun a e2 => ?_⟩
      cases e2
      exact ⟨o, e, ex.2.1⟩
    · obtain ⟨o, _, _, _, e, ex, _⟩ := I.hok p _ hk
      refine ⟨⟨o, e, ex.1⟩, fun a e2 => ?_⟩
      cases e2
      exact ⟨o, e, ex.2.1⟩
  | _ => exact False.elim ty
noncomputable def tBM0 (K : PySem.W.Frag) (T : String) (r : V → List V → Hp → VK → Prop) (to : TE) : TE := fun σ H Q => to σ H fun x H1 => tyV K T x H1 ∧ r x [] H1 Q
noncomputable def tBM (K : PySem.W.Frag) (T : String) (r : V → List V → Hp → VK → Prop) (to : TE) (t : TA) : TE := fun σ H Q => to σ H fun x H1 => tyV K T x H1 ∧ t σ H1 fun xs H2 => r x xs H2 Q
variable {o e : Expr} {es : List Expr} {to : TE} {t : TA} {name : Str} {apos cpos : Pos} {T id : String} {r : V → List V → Hp → VK → Prop}
theorem pe_bm0 (pa : PlainAttrs T) (slot : Slot T name id) (hty : typeOf (.builtin id) = pure (.type "method_descriptor")) (hm : MtR X id r) (ho : PE X o to)
    (hbase : attributeBase o name X.env (eval o X.env) = eval o X.env := by rfl) (hline : (apos.endLine == cpos.line) = true := by rfl) : PE X (.Call (.Attribute o name apos) [] [] cpos) (tBM0 X.K T r to) := by
  intro pins s σ H Q I h
  refine wpAny_Call_method0_late hbase hline (thn (ho pins s σ H _ I h) fun v s1 hzz => ?_)
  obtain ⟨x, H1, I1, r1, ty, q1⟩ := hzz
  obtain ⟨h1, h2⟩ := tyV_is I1 r1 ty
  exact ⟨T, id, pa, slot, hty, h1, h2, Calls.callWith_builtin rfl (PySem.evalArgs_none (hm pins s1 σ H1 x [] v [] Q I1 r1 .nil q1))⟩
theorem pe_bm (pa : PlainAttrs T) (slot : Slot T name id) (hty : typeOf (.builtin id) = pure (.type "method_descriptor")) (hm : MtR X id r) (ho : PE X o to) (ha : PA X (e :: es) t)
    (hbase : attributeBase o name X.env (eval o X.env) = eval o X.env := by rfl)
    (hfew : ((backTo cpos (starEach (e :: es) X.env)).all (fun x => !x.1) && (backToKw cpos (keywordEach [] X.env)).all (fun x => x.1.isSome)
      && decide ((e :: es).length + ([] : List Keyword).length + (if ([] : List Keyword).isEmpty then 0 else 1) < 30)) = true := by rfl)
    (hline : (apos.endLine == cpos.line) = true := by rfl) (hs : starEach (e :: es) X.env = (false, eval e X.env) :: starEach es X.env := by rfl) (hplain : (backTo cpos (starEach es X.env)).any (·.1) = false := by rfl) :
    PE X (.Call (.Attribute o name apos) (e :: es) [] cpos) (tBM X.K T r to t) := by
  intro pins s σ H Q I h
  refine wpAny_Call_method_late hbase hfew hline rfl (thn (ho pins s σ H _ I h) fun v s1 hzz => ?_)
  obtain ⟨x, H1, I1, r1, ty, q1⟩ := hzz
  obtain ⟨h1, h2⟩ := tyV_is I1 r1 ty
  refine ⟨T, id, pa, slot, hty, h1, h2, ?_⟩
  have hA := ha cpos pins s1 σ H1 _ I1 q1
  rw [hs] at hA ⊢
  refine Calls.callWith_builtin (by show (false || (backTo cpos (starEach es X.env)).any (·.1)) = false; rw [hplain] <;> rfl) (Calls.evalArgs_plain ?_)
  exact thn hA fun us s2 ⟨vs, H2, I2, r2, q2⟩ => hm pins s2 σ H2 x vs v us Q I2 r1 r2 q2
end
end L2
namespace L2
open PySem PySem.Spec PyProof.Rows
noncomputable def MtM (X : Cx) (id : String) (r : V → List V → Hp → VK → Prop) : Prop :=
  ∀ (pins : List (Addr × Obj)) (s : Shared) (σ : St) (H : Hp) (x : V) (xs : List V) (v : Value) (us : List Value) (Q : VK), Inv X pins σ H s → RelV x v → Vals xs us → r x xs H Q →
    wpAny (model X.prog X.w) X.A (call (.builtin id) (v :: us)) (EP X pins σ Q) X.xe s
theorem Vals.one {x : V} {us : List Value} (h : Vals [x] us) : ∃ u, us = [u] ∧ RelV x u := by
  cases h with
  | cons r t =>
    cases t
    exact ⟨_, rfl, r⟩
theorem Vals.two {x y : V} {us : List Value} (h : Vals [x, y] us) : ∃ u v, us = [u, v] ∧ RelV x u ∧ RelV y v := by
  cases h with
  | cons r t =>
    obtain ⟨v, rfl, q⟩ := Vals.one t
    exact ⟨_, _, rfl, r, q⟩
section
variable {X : Cx} {pins : List (Addr × Obj)} {σ : St} {H : Hp} {s : Shared} {l b : Addr} {xs ys zs : List V}
theorem Inv.lset {its its' : List Value} {n : Nat} {f : Array Value → Array Value} {t' : Nat} (I : Inv X pins σ H s) (hH : H l = some (.lst xs))
    (e : s.heap.get? l = some { cls := .type "list", data := .seq its.toArray n }) (hf : f its.toArray = its'.toArray) (hv : Vals ys its') (hz : ys.length ≤ sizeLine) :
    Inv X pins σ (upd H l (.lst ys)) { s with heap := s.heap.update l (Obj.mapSeq f), toks := t' } := by
  have q := PySem.IsL.update e f
  rw [hf] at q
  refine I.write (x := l) (e := l) (by rw [hH]; exact trivial) (.inl rfl) (fun b' u hb hu => (Heap.get?_update_other s.heap (Obj.mapSeq f) (Ne.symm hb)).trans hu) ⟨_, q⟩ ?_
  exact ⟨hz, its', _, hv, q⟩
theorem Inv.lnew {its : List Value} {t' : Nat} (I : Inv X pins σ H s) (hv : Vals ys its) (hz : ys.length ≤ sizeLine) :
    Inv X pins σ (upd H s.heap.objs.size (.lst ys)) { s with heap := s.heap.push { cls := .type "list", data := .seq its.toArray }, toks := t' } :=
  I.laid (fun _ _ q => Heap.get?_push_of_some _ q) (Nat.le_refl _) ⟨hz, its, 0, hv, Heap.get?_push_size _ rfl⟩
theorem Inv.fresh (I : Inv X pins σ H s) : H s.heap.objs.size = none := I.hok.fresh (Nat.le_refl _)
theorem Inv.lstM (I : Inv X pins σ H s) (hH : H l = some (.lst xs)) : xs.length ≤ sizeLine ∧ ∃ (its : List Value) (n : Nat), Vals xs its ∧ xs.length = its.length ∧ s.heap.get? l = some { cls := .type "list", data := .seq its.toArray n } := by
  obtain ⟨z, its, n, r, e⟩ := I.hok l _ hH
  exact ⟨z, its, n, r, r.length, e⟩
theorem notLongL {n : Nat} (h : n ≤ sizeLine) : Builtin.List.listTooLong n = false := by
  unfold Builtin.List.listTooLong
  exact decide_eq_false (by (first | lia | omega))
end
section
variable {X : Cx}
noncomputable def rAppend : V → List V → Hp → VK → Prop := fun x vs H Q => ∃ l xs y, x = .ref l ∧ vs = [y] ∧ H l = some (.lst xs) ∧ xs.length < sizeLine ∧ Q .non (upd H l (.lst (xs ++ [y])))
theorem mt_append : MtM X "list.append" rAppend := by
  intro pins s σ H x vs v us Q I rx rv h
  obtain ⟨l, xs, y, rfl, rfl, hH, hz, q⟩ := h
  cases rx
  obtain ⟨u, rfl, ru⟩ := rv.one
  obtain ⟨z, its, n, r, hl, e⟩ := I.lstM hH
  refine call_meets F.slot_list_append ⟨_, e, rfl⟩ F.entry_list_append (F.args_list_append_2 _ _) (PySem.list_append l its.toArray n u (by rw [List.size_toArray]; (first | lia | omega))) ⟨e, ?_⟩
  refine ⟨.non, _, I.lset (its' := its ++ [u]) hH e (by simp) (r.append (.cons ru .nil)) ?_, rfl, q⟩
  rw [List.length_append, List.length_singleton]
  (first | lia | omega)
noncomputable def rExtend : V → List V → Hp → VK → Prop := fun x vs H Q => ∃ l b xs zs, x = .ref l ∧ vs = [.ref b] ∧ H l = some (.lst xs) ∧ H b = some (.lst zs) ∧ xs.length + zs.length ≤ sizeLine ∧ Q .non (upd H l (.lst (xs ++ zs)))
theorem mt_extend : MtM X "list.extend" rExtend := by
  intro pins s σ H x vs v us Q I rx rv h
  obtain ⟨l, b, xs, zs, rfl, rfl, hH, hB, hz, q⟩ := h
  cases rx
  obtain ⟨u, rfl, ru⟩ := rv.one
  cases ru
  obtain ⟨z, its, n, r, hl, e⟩ := I.lstM hH
  obtain ⟨z2, its2, n2, r2, hl2, e2⟩ := I.lstM hB
  have hsz : its.toArray.size + its2.toArray.size ≤ sizeLine := by rw [List.size_toArray, List.size_toArray]; (first | lia | omega)
  have hlong : ¬ (!its.toArray.isEmpty && Builtin.List.listTooLong (its.toArray.size + its2.toArray.size)) = true := by
    rw [notLongL hsz, Bool.and_false]
    exact Bool.false_ne_true
  refine call_meets F.slot_list_extend ⟨_, e, rfl⟩ F.entry_list_extend (F.args_list_extend_2 _ _)
    (AutoSeq1.list_extend_list_list_0 l its.toArray n b its2.toArray n2 hlong (by rw [List.size_toArray]; (first | lia | omega)) (by (first | lia | omega))) ⟨e, e2, ?_⟩
  refine ⟨.non, _, I.lset (its' := its ++ its2) hH e (by simp) (r.append r2) ?_, rfl, q⟩
  rw [List.length_append]
  (first | lia | omega)
noncomputable def rCat : R2 := fun x y H Q => ∃ l b xs zs, x = .ref l ∧ y = .ref b ∧ H l = some (.lst xs) ∧ H b = some (.lst zs) ∧ xs.length + zs.length ≤ sizeLine ∧ ∀ p, H p = none → Q (.ref p) (upd H p (.lst (xs ++ zs)))
theorem op_cat : OpR X (binaryOp .Add) rCat := by
  intro pins s σ H x y v u Q I rx ry h
  obtain ⟨l, b, xs, zs, rfl, rfl, hH, hB, hz, q⟩ := h
  cases rx
  cases ry
  obtain ⟨z, its, n, r, hl, e⟩ := I.lstM hH
  obtain ⟨z2, its2, n2, r2, hl2, e2⟩ := I.lstM hB
  refine PySem.P.add_list e e2 ?_ (by rw [List.size_toArray, List.size_toArray]; (first | lia | omega))
  have ea : its.toArray ++ its2.toArray = (its ++ its2).toArray := by simp
  rw [ea]
  exact ⟨.ref _, _, I.lnew (t' := s.toks) (r.append r2) (by rw [List.length_append]; (first | lia | omega)), rfl, q _ I.fresh⟩
end
section
variable {prog : Program} {w : World} {A : Around} {E : Value → Shared → Prop} {s : Shared}
set_option maxRecDepth 100000 in
end
section
variable {X : Cx}
end
end L2
namespace Att
open PySem PySem.W PySem.Calls PyProof.Rows
theorem ints_of_wellAll {P : Params} {h : Heap} : ∀ (ns : List Int) (vs : List Value), WellAll P h vs (ns.map WData.int) → IntsAre vs ns := by
  intro ns
  induction ns with
  | nil =>
    intro vs w
    rw [List.map_nil] at w
    cases w
    exact .nil
  | cons n ns ih =>
    intro vs w
    rw [List.map_cons] at w
    cases w with
    | cons a b =>
      cases a
      exact .cons _ _ (ih _ b)
theorem script_of {l : OpenLaw} {n : Nat} (hn : l.most = some n) {P : Params} {h : Heap} {args : List WData} {vals : List Value}
    (hpre : l.row.toRowW.claim.pre args = true) (hwl : WellAll P h vals args) :
    ∃ a vs ns, vals = [Value.ref a] ∧ args = [WData.list (ns.map WData.int)] ∧ h.get? a = some { cls := .type "list", data := .seq vs.toArray } ∧ IntsAre vs ns ∧ ns.length ≤ n := by
  have hsh : WShape.hasAll [] args [.list .int] = true := (pre_splitW hpre).1
  have hc : l.pre.holds [] { args := args } = true := (pre_splitW hpre).2
  obtain ⟨d, r, rfl, h1, h2⟩ := hasAllW_cons hsh
  obtain rfl := hasAllW_nil h2
  obtain ⟨xs, rfl, h3⟩ := hasW_list h1
  obtain ⟨ns, rfl⟩ := items_int h3
  have hlen : ns.length ≤ n := by
    unfold OpenLaw.pre at hc
    have h4 : (WTm.not (.lt (.lit (.int (n : Int))) (.len (.arg 0)))).holds [] { args := [.list (ns.map .int)] } = true := by
      have h4 := (holds_andW hc).1
      rw [hn] at h4
      exact h4
    have h5 := condW_of h4 (w_not (w_lt w_lit (w_len_list (w_arg rfl))))
    rw [List.length_map] at h5
    refine Nat.le_of_not_lt fun q => ?_
    have q' : (n : Int) < ((ns.length : Nat) : Int) := by (first | lia | omega)
    first
      | (rw [decide_eq_true q'] at h5; exact absurd h5 (by decide))
      | (simp at h5; (first | lia | omega))
  cases hwl with
  | cons w1 w2 =>
    cases w2
    cases w1 with
    | list ho hall => exact ⟨_, _, ns, rfl, rfl, ho, ints_of_wellAll ns _ hall, hlen⟩
theorem post_true (l : OpenLaw) (args : List WData) : l.row.toRowW.claim.post args (.bool true) args = true :=
  postW_of (r := l.row.toRowW) (X := (true == true))
    (show WShape.has [] (.bool true) .bool = true by first | rfl | decide | simp [WShape.has, WShape.arms, WShape.armsAll])
    (show (WTm.eq .res (.lit (.bool true))).value [] { args := args, res := some (.bool true), after := args } = some (.bool (true == true)) from w_eq_bool (w_res rfl) w_lit) rfl
theorem attach_call {l : OpenLaw} {n : Nat} {q : Program} {loose : List Str} {XP : (Str → Option Value) → Heap → Prop} {YP : World → Heap → Prop} {d : DefRec}
    (hn : l.most = some n) (hdf : d.params.defaults = [])
    (call : ∀ (w : World) (s₀ s₁ : Shared) (mg mb : Str → Option Value) (fa : Addr) (o : Obj) (pm cd doc : Value) (a : Addr) (vs : List Value) (ns : List Int),
      Ground q loose [] XP w s₀ mg mb s₁.heap → YP w s₁.heap →
      s₁.heap.get? fa = some o → o.data = .func (docDef d.name d.params d.body d.scope pm cd doc) → s₁.heap.CodeRec cd d.name → mg d.name = some (.ref fa) →
      s₁.heap.get? a = some { cls := .type "list", data := .seq vs.toArray } → IntsAre vs ns → ns.length ≤ n → s₁.gens = #[] →
      codeAny (model l.prog w) callerA (.call (.ref fa) ⟨[.ref a], []⟩) (fun r s' => r = .ok (.ret (.bool true)) ∧ OldK s₁.heap s'.heap ∧ s'.os = s₁.os ∧ AllBare s'.gens) s₁) :
    WalkO q loose XP YP l.row.toRowW d [] (fun f vs => PySem.call f vs) := by
  intro w s₀ s₁ mg mb G Y fa o pm cd doc dV kV ho hd hcd hD hmg hg args vals as hpre hlay hrd hwl hlo
  obtain rfl : dV = .none := Dflts.none hD hdf
  obtain rfl : kV = .none := Dflts.noKw hD
  obtain ⟨a, vs, ns, rfl, rfl, hobj, hints, hlen⟩ := script_of hn hpre hwl
  refine enter_call (codeAny_mono (call w s₀ s₁ mg mb fa o pm cd doc a vs ns G Y ho (fd_plain hd) hcd hmg hobj hints hlen hg) fun r s' hq => ?_)
  obtain ⟨rfl, h2, h3, h4⟩ := hq
  exact ⟨.inl ⟨.bool true, .bool true, [], rfl, fun _ => rfl, .bool true, post_true l _, fun _ => ⟨List.Pairwise.nil, fun _ hm => (nomatch hm)⟩⟩, h2, h3, h4⟩
section
variable {prog : Program} {w : World} {A : Around} {E : Value → Shared → Prop} {s : Shared} {K : Frag}
end
end Att
namespace L2
open PySem PySem.Spec PyProof.Rows
theorem vals_ints : ∀ {vs : List Value} {ns : List Int}, IntsAre vs ns → Vals (ns.map V.int) vs
  | _, _, .nil => .nil
  | _, _, .cons n t h => .cons ⟨t, rfl⟩ (vals_ints h)
noncomputable def Only (H : Hp) : Prop := ∀ b, H b = none ∨ ∃ o xs, H b = some (.frz o (.lst xs))
theorem law_call {P : Program} {w : World} {K : PySem.W.Frag} {mg mb : Str → Option Value} {CX : CXT} {k : Nat} {fa a : Addr} {fd : FuncData} {x : Str} {sp : Sp} {s₁ : Shared} {vs : List Value} {ns : List Int}
    (KX : K.In s₁.heap) (hns : s₁.heap.Ns mainGlobals mg) (hb : s₁.heap.Ns builtinsNs mb) (hbb : ∀ x : Str, x ≠ "__name__" → mb x = bootBuiltins x) (hlim : s₁.heap.NoLimit) (hg : s₁.gens = #[])
    (ha : s₁.heap.get? a = some { cls := .type "list", data := .seq vs.toArray }) (hi : IntsAre vs ns) (hl : ns.length ≤ sizeLine) (hr : Room k callerA)
    (F : ∀ base : Heap, K.In base → base.Ns mainGlobals mg → FnOk P w K mg base CX k fa fd [x] sp) (hbind : ∀ (s : Shared) (u : Value), BindsTo s fd ⟨[u], []⟩ [(x, u)])
    (hsp : ∀ H : Hp, Only H → SqL K H a (ns.map V.int) → sp [.ref a] H (fun v _ => v = .bl true) fun _ _ _ => False)
    (hCX : ∀ H e s', CX [] H s₁ (fun _ _ _ => False) e s' → False) :
    codeAny (model P w) callerA (.call (.ref fa) ⟨[.ref a], []⟩) (fun r s' => r = .ok (.ret (.bool true)) ∧ OldK s₁.heap s'.heap ∧ s'.os = s₁.os ∧ AllBare s'.gens) s₁ := by
  have rv := vals_ints hi
  have lenV := hi.length
  have core : ∀ H : Hp, Only H → SqL K H a (ns.map V.int) → HOk P w H s₁.heap → (∀ b, H b ≠ none → b = a) → (H a ≠ none → K.lookup a = none) →
      codeAny (model P w) callerA (.call (.ref fa) ⟨[.ref a], []⟩) (fun r s' => r = .ok (.ret (.bool true)) ∧ OldK s₁.heap s'.heap ∧ s'.os = s₁.os ∧ AllBare s'.gens) s₁ := by
    intro H hO hS hok hA hK
    have base_of : ∀ {b : Addr} {o : Obj}, s₁.heap.get? b = some o → H b = none → (hidT s₁.heap H).get? b = some o := fun e n => hidT_get e n
    have noA : ∀ {b : Addr} {o : Obj} {es : Array DictEntry} {ep : Nat}, s₁.heap.get? b = some o → o.data = .dict es ep → H b = none := fun {b o es ep} e d => by
      cases q : H b with
      | none => rfl
      | some u =>
        have e' : b = a := hA b (by rw [q]; simp)
        subst e'
        rw [ha] at e; cases e
        have d' : Data.seq vs.toArray _ = Data.dict es ep := d
        cases d'
    have nsK : ∀ {b : Addr} {m : Str → Option Value}, s₁.heap.Ns b m → (hidT s₁.heap H).Ns b m := fun {b m} ⟨o, es, ep, e, d, r⟩ => ⟨o, es, ep, base_of e (noA e d), d, r⟩
    have hKb : K.In (hidT s₁.heap H) := fun b o e => base_of (KX b o e) (by
      cases q : H b with
      | none => rfl
      | some u =>
        have e' : b = a := hA b (by rw [q]; simp)
        subst e'
        rw [hK (by rw [q]; simp)] at e; cases e)
    have hM : Mod K mg (hidT s₁.heap H) := ⟨hKb, nsK hns, ⟨mb, nsK hb, hbb⟩, let ⟨mc, h1, h2⟩ := hlim; ⟨mc, nsK h1, h2⟩⟩
    have e0 : Env0 P w K mg (hidT s₁.heap H) callerA [] s₁ H := ⟨rfl, hM, fun b o e => of_hidT e, Nat.le_of_eq (hidT_size _ _), trivial, fun b hb => absurd (show b ∈ ([] : List Addr) from hb) (by simp), hok, .of_eq hg⟩
    refine codeAny_mono ((F _ hKb (nsK hns)).run callerA [] s₁ H ⟨[.ref a], []⟩ [.ref a] [.ref a] _ _ hr e0 (hbind s₁ (.ref a)) (.cons rfl .nil) (hsp H hO hS)) fun r s' h => ?_
    cases r with
    | error e => exact (hCX H e s' h).elim
    | ok fl =>
      cases fl with
      | next => exact False.elim h
      | brk => exact False.elim h
      | cont => exact False.elim h
      | ret u =>
        obtain ⟨v, H', os, bare, un, hok', r', q⟩ := h
        have q' : v = .bl true := q
        subst q'
        obtain rfl : u = Value.bool true := r'
        refine ⟨rfl, OldK.of_keep fun b o e => ?_, os, bare⟩
        cases q : H b with
        | none => exact un.keep b o e q (by intro z; exact absurd (show b ∈ ([] : List Addr) from z) (by simp)) (by simp)
        | some u =>
          rcases hO b with z | ⟨ob, xs, z⟩
          · rw [q] at z; cases z
          · have z2 := un.frzs b ob _ z
            obtain ⟨e1, _⟩ := hok b _ z
            obtain ⟨e2, _⟩ := hok' b _ z2
            rw [e] at e1; cases e1
            exact e2
  cases hk : K.lookup a with
  | some o =>
    have e := KX a o hk
    rw [ha] at e
    cases e
    refine core (fun _ => none) (fun _ => .inl rfl) (.inr ⟨_, vs.toArray, _, hk, rfl, rfl, rfl, by rw [List.size_toArray, lenV]; exact hl, by simpa using rv⟩) (fun b u z => by have z' : (none : Option HO) = some u := z; cases z') (fun b z => absurd rfl z) fun z => absurd rfl z
  | none =>
    refine core (fun b => if b = a then some (.frz { cls := .type "list", data := .seq vs.toArray } (.lst (ns.map V.int))) else none) (fun b => ?_) (.inl (.inr ⟨{ cls := .type "list", data := .seq vs.toArray }, if_pos rfl⟩)) (fun b u z => ?_) (fun b z => ?_) fun _ => hk
    · by_cases hb : b = a
      · exact .inr ⟨_, _, if_pos hb⟩
      · exact .inl (if_neg hb)
    · by_cases hb : b = a
      · have z' := (if_pos hb).symm.trans z
        cases z'
        subst hb
        exact ⟨ha, by rw [List.length_map]; exact hl, vs, _, rv, ha⟩
      · have z' := (if_neg hb).symm.trans z
        cases z'
    · by_cases hb : b = a
      · exact hb
      · exact absurd (if_neg hb) z
end L2
namespace L2
open PySem PySem.Spec PyProof.Rows
noncomputable abbrev KOf {K : PySem.W.Frag} {h : Heap} (_ : K.In h) : PySem.W.Frag := K
theorem walk_of {l : PySem.W.OpenLaw} {n k : Nat} {q : Program} {loose : List Str} {XP : (Str → Option Value) → Heap → Prop} {YP : World → Heap → Prop} {d : DefRec} {K : Params → PySem.W.Frag} {CX : World → CXT} {sp : World → Sp} {x : Str}
    (hn : l.most = some n) (hn2 : n ≤ sizeLine) (hdf : d.params.defaults = []) (hr : Room k callerA)
    (hY : ∀ (w : World) (h : Heap), YP w h → (K w.params).In h)
    (F : ∀ (w : World) (mg : Str → Option Value) (fa : Addr) (h : Heap), (K w.params).In h → h.Ns mainGlobals mg → mg d.name = some (.ref fa) →
      ∃ fd : FuncData, (∀ (s : Shared) (u : Value), BindsTo s fd ⟨[u], []⟩ [(x, u)]) ∧
        ∀ base : Heap, (K w.params).In base → base.Ns mainGlobals mg → FnOk l.prog w (K w.params) mg base (CX w) k fa fd [x] (sp w))
    (hsp : ∀ (w : World) (H : Hp) (a : Addr) (ns : List Int), ns.length ≤ n → Only H → SqL (K w.params) H a (ns.map V.int) → sp w [.ref a] H (fun v _ => v = .bl true) fun _ _ _ => False)
    (hCX : ∀ (w : World) (H : Hp) (s : Shared) (e : Value) (s' : Shared), CX w [] H s (fun _ _ _ => False) e s' → False) :
    PySem.W.WalkO q loose XP YP l.row.toRowW d [] (fun f vs => PySem.call f vs) := by
  refine Att.attach_call hn hdf fun w s₀ s₁ mg mb fa o pm cd doc a vs ns G Y ho hd hcd hmg hobj hints hlen hg => ?_
  have KX := hY w _ Y
  obtain ⟨fd, hb, hF⟩ := F w mg fa _ KX G.T.g hmg
  exact law_call KX G.T.g G.T.b G.T.builtins G.T.nolimit hg hobj hints (Nat.le_trans hlen hn2) hr hF hb (fun H hO hS => hsp w H a ns hlen hO hS) fun H e s' => hCX w H s₁ e s'
theorem walk_ofK {l : PySem.W.OpenLaw} {n k : Nat} {q : Program} {loose : List Str} {XP : (Str → Option Value) → Heap → Prop} {YP : World → Heap → Prop} {d : DefRec} {K : Params → PySem.W.Frag} {CX : CXT} {sp : PySem.W.Frag → Sp} {x : Str}
    (hn : l.most = some n) (hn2 : n ≤ sizeLine) (hdf : d.params.defaults = []) (hr : Room k callerA)
    (hY : ∀ (w : World) (h : Heap), YP w h → (K w.params).In h)
    (F : ∀ (w : World) (mg : Str → Option Value) (fa : Addr) (h : Heap), (K w.params).In h → h.Ns mainGlobals mg → mg d.name = some (.ref fa) →
      ∃ fd : FuncData, (∀ (s : Shared) (u : Value), BindsTo s fd ⟨[u], []⟩ [(x, u)]) ∧
        ∀ base : Heap, (K w.params).In base → base.Ns mainGlobals mg → FnOk l.prog w (K w.params) mg base CX k fa fd [x] (sp (K w.params)))
    (hsp : ∀ (K : PySem.W.Frag) (H : Hp) (a : Addr) (ns : List Int), ns.length ≤ n → Only H → SqL K H a (ns.map V.int) → sp K [.ref a] H (fun v _ => v = .bl true) fun _ _ _ => False)
    (hCX : ∀ (H : Hp) (s : Shared) (e : Value) (s' : Shared), CX [] H s (fun _ _ _ => False) e s' → False) :
    PySem.W.WalkO q loose XP YP l.row.toRowW d [] (fun f vs => PySem.call f vs) :=
  walk_of (K := K) (CX := fun _ => CX) (sp := fun w => sp (K w.params)) hn hn2 hdf hr hY F (fun w H a ns h1 h2 h3 => hsp (K w.params) H a ns h1 h2 h3) fun _ H s e s' => hCX H s e s'
end L2
namespace L2
open PySem PySem.Spec PyProof.Rows
noncomputable def defArgs (s : Stmt) : Arguments := match s with
  | .FunctionDef _ a _ _ _ _ _ _ _ _ => a
  | _ => { posonlyargs := [], args := [], vararg := none, kwonlyargs := [], kw_defaults := [], kwarg := none, defaults := [] }
noncomputable def defBody (s : Stmt) : List Stmt := match s with
  | .FunctionDef _ _ b _ _ _ _ _ _ _ => b
  | _ => []
noncomputable def defScope (s : Stmt) : Scope := match s with
  | .FunctionDef _ _ _ _ _ _ sc _ _ _ => sc
  | _ => { kind := .function, names := [], isGenerator := false, isCoroutine := false }
noncomputable abbrev CX0 : CXT := fun _ _ _ _ _ _ => False
noncomputable abbrev E0 : XK := fun _ _ _ => False
theorem pass0 {X : Cx} : Passes CX0 X E0 := fun _ _ _ _ _ _ _ h => h.elim
structure Fun (K : PySem.W.Frag) (x qual : Str) (st : Stmt) (f : Addr) (fd : FuncData) : Prop where
  ex : ∃ (oc : Value) (od : Option Addr) (kV doc pm : Value) (an : Option Addr) (cdv ct : Value) (osl : Array (Option Value)),
    fd = PySem.W.fnOf x qual (defArgs st) (defBody st) (defScope st) .none kV doc pm an cdv ct ∧ K.lookup f = some ⟨oc, od, .func fd, osl⟩ ∧ PySem.W.codeIn K cdv qual = true
  kp : PySem.W.keepIn K (.ref f) = true
section
variable {P : Program} {w : World} {K : PySem.W.Frag} {mg : Str → Option Value} {base : Heap}
theorem Fun.ok {x qual : Str} {st : Stmt} {f : Addr} {fd : FuncData} {N ps : List Str} {k : Nat} {sp : Sp} (F : Fun K x qual st f fd) (S : FnScope N ps (defScope st)) (len : ∀ vs H Q E, sp vs H Q E → vs.length = ps.length)
    (hbody : ∀ (cdv : Value) (A : Around) (outer : List Env) (s : Shared) (H : Hp) (vs : List V) (Q : VK) (E : XK), Room k (A.deeper (envOfC qual (defScope st) s.heap.objs.size f cdv)) → sp vs H Q E →
      ∃ t, PSs (cxOf CX0 P w K mg base N qual (defScope st) f cdv A outer s H E).nox (defBody st) t ∧ t { nx := fun _ H' => Q .non H', rt := Q } (start N vs) H) : FnOk P w K mg base CX0 (k + 1) f fd ps sp := by
  obtain ⟨oc, od, kV, doc, pm, an, cdv, ct, osl, rfl, lk, hcd⟩ := F.ex
  refine fn_of lk hcd S len fun A outer s H vs Q E hr hsp => ?_
  obtain ⟨t, h, q⟩ := hbody cdv A outer s H vs Q E hr hsp
  exact ⟨t, h.nox, q⟩
theorem Fun.binds {x qual : Str} {st : Stmt} {f : Addr} {fd : FuncData} {ps : List Str} (F : Fun K x qual st f fd)
    (h : ∀ (kV doc pm : Value) (an : Option Addr) (cdv ct : Value) (us : List Value), us.length = ps.length → bindArgs (PySem.W.fnOf x qual (defArgs st) (defBody st) (defScope st) .none kV doc pm an cdv ct) ⟨us, []⟩ = pure (ps.zip us)) : Binds K fd ps [] := by
  obtain ⟨oc, od, kV, doc, pm, an, cdv, ct, osl, rfl, lk, hcd⟩ := F.ex
  exact .all (h kV doc pm an cdv ct)
theorem fun_mk {x qual : Str} {st : Stmt} {f : Addr} {oc : Value} {od an : Option Addr} {osl : Array (Option Value)} {kV doc pm cdv ct : Value} (l : K.lookup f = some ⟨oc, od, .func (PySem.W.fnOf x qual (defArgs st) (defBody st) (defScope st) .none kV doc pm an cdv ct), osl⟩)
    (c : PySem.W.codeIn K cdv qual = true) (k : PySem.W.keepIn K (.ref f) = true) : Fun K x qual st f (PySem.W.fnOf x qual (defArgs st) (defBody st) (defScope st) .none kV doc pm an cdv ct) := ⟨⟨oc, od, kV, doc, pm, an, cdv, ct, osl, rfl, l, c⟩, k⟩
end
section
variable {X : Cx}
theorem pv (i : Nat) {x : Str} {pos : Pos} (hN : X.N[i]? = some x := by rfl) (hv : Vis X.env.scope x := by first | exact Or.inl rfl | exact Or.inr (Or.inl rfl) | exact Or.inr (Or.inr rfl)) (hd : (x == ("__debug__" : Str)) = false := by decide)
    (hcd : (x == ("__classdict__" : Str)) = false := by decide) : PE X (.Name x pos) (tVar i) := pe_var hN hv hd hcd
end
theorem iteF {A B : Prop} (h : B) : if false = true then A else B := by
  rw [if_neg Bool.false_ne_true]
  exact h
theorem iteT {A B : Prop} (h : A) : if true = true then A else B := by
  rw [if_pos rfl]
  exact h
theorem ite2 {c A B : Prop} [Decidable c] (h1 : c → A) (h2 : ¬ c → B) : if c then A else B := by
  by_cases h : c
  · rw [if_pos h]
    exact h1 h
  · rw [if_neg h]
    exact h2 h
noncomputable def Same (H H' : Hp) : Prop := ∀ b o, H b = some o → H' b = some o
theorem Same.refl (H : Hp) : Same H H := fun _ _ h => h
theorem Same.trans {H H1 H2 : Hp} (a : Same H H1) (b : Same H1 H2) : Same H H2 := fun c o h => b c o (a c o h)
theorem Same.free {H H' : Hp} (e : Same H H') {l : Addr} (h : H' l = Option.none) : H l = Option.none := by
  cases q : H l with
  | none => rfl
  | some o =>
    rw [e l o q] at h
    cases h
theorem Same.seq {K : PySem.W.Frag} {H H' : Hp} {a : Addr} {xs : List V} (e : Same H H') (h : SqL K H a xs) : SqL K H' a xs := by
  rcases h with (h | ⟨o, h⟩) | h
  · exact .inl (.inl (e _ _ h))
  · exact .inl (.inr ⟨o, e _ _ h⟩)
  · exact .inr h
end L2
set_option maxHeartbeats 4000000
namespace L2
open PySem PySem.Spec PyProof.Rows
structure D (K : PySem.W.Frag) (mg : Str → Option Value) (x : Str) (st : Stmt) (ps : List Str) (f : Addr) (fd : FuncData) : Prop where
  fn : Fun K x x st f fd
  ba : ∀ us : List Value, us.length = ps.length → bindArgs fd ⟨us, []⟩ = pure (ps.zip us)
  mg : mg x = some (.ref f)
section
variable {X : Cx} {k j : Nat} {f : Addr} {fd : FuncData} {ps : List Str} {sp : Sp} {x : Str} {st : Stmt} {p pos : Pos} {e : Expr} {es : List Expr} {t : TA}
theorem pcall (d : D X.K X.mg x st ps f fd) (F : FnOk X.prog X.w X.K X.mg X.base CX0 j f fd ps sp) (hr : Room k X.A) (hg : Gl X x) (ha : PA X (e :: es) t) (hjk : j ≤ k := by decide) (hdb : (x == ("__debug__" : Str)) = false := by decide)
    (he : starEach (e :: es) X.env = (false, eval e X.env) :: starEach es X.env := by rfl) (hpl : (backTo pos (starEach es X.env)).any (·.1) = false := by rfl) :
    PE X (.Call (.Name x p) (e :: es) [] pos) (tCall sp [] E0 t) :=
  pe_call (F.mono hjk) hr hg d.mg d.fn.kp (.all d.ba) .nil pass0 ha hdb he hpl
end
theorem bt_len : bootBuiltins "len" = some (.builtin "len") := PySem.boot_len
theorem bt_isinstance : bootBuiltins "isinstance" = some (.builtin "isinstance") := by decide +kernel
theorem bt_sorted : bootBuiltins "sorted" = some (.builtin "sorted") := by decide +kernel
theorem bt_sum : bootBuiltins "sum" = some (.builtin "sum") := by decide +kernel
theorem bt_bool : bootBuiltins "bool" = some (.type "bool") := by decide +kernel
theorem bt_int : bootBuiltins "int" = some (.type "int") := by decide +kernel
theorem bt_list : bootBuiltins "list" = some (.type "list") := by decide +kernel
theorem bt_ValueError : bootBuiltins "ValueError" = some (.type "ValueError") := by decide +kernel
section
variable {X : Cx}
theorem call_isinst : CallR X (.builtin "isinstance") (fun xs H Q => ∃ x n t b, xs = [x, .ty n] ∧ TyOf X.K H x t ∧ PySem.W.kitOne X.K t (.type n) = some b ∧ Q (.bl b) H) := by
  intro pins s σ H xs us Q I r h
  obtain ⟨x, n, t, b, rfl, ty, e, q⟩ := h
  obtain ⟨u, w', rfl, rx, rt⟩ := vals2 r
  cases rt
  exact isinst_ok I rx ty e fun tk => ⟨.bl b, H, I.tok _, rfl, q⟩
theorem kit_ii {K : PySem.W.Frag} : PySem.W.kitOne K (.type "int") (.type "int") = some true := by rfl
theorem kit_ll {K : PySem.W.Frag} : PySem.W.kitOne K (.type "list") (.type "list") = some true := by rfl
theorem kit_ib {K : PySem.W.Frag} : PySem.W.kitOne K (.type "int") (.type "bool") = some false := by rfl
end
end L2
namespace L2
open PySem PySem.Spec PyProof.Rows
theorem same_new {H : Hp} {p : Addr} (h : H p = none) (o : HO) : Same H (upd H p o) := fun b u q => by rw [upd_ne (ne_of_none q h)]; exact q
theorem same_upd {H H1 : Hp} {p : Addr} {o : HO} (s : Same H H1) (h : H p = none) : Same H (upd H1 p o) := fun b u q => by rw [upd_ne (ne_of_none q h)]; exact s b u q
theorem same_add {H H1 : Hp} {p : Addr} {o : HO} (s : Same H H1) (h : H1 p = none) : Same H (upd H1 p o) := same_upd s (s.free h)
theorem ints_at {B : Int} {zs : List Int} (h : ∀ z ∈ zs, 0 ≤ z ∧ z < B) {i : Int} (h0 : 0 ≤ i) (h1 : i < (zs.length : Int)) : ∃ z, atI (zs.map V.int) i = some (.int z) ∧ 0 ≤ z ∧ z < B := by
  have hk : i.toNat < zs.length := by (first | lia | omega)
  have ek : i = ((i.toNat : Nat) : Int) := by (first | lia | omega)
  refine ⟨zs[i.toNat], ?_, h _ (List.getElem_mem hk)⟩
  have q : atI (zs.map V.int) ((i.toNat : Nat) : Int) = some (.int zs[i.toNat]) := atI_nat (by rw [List.getElem?_map, List.getElem?_eq_getElem hk] <;> rfl)
  rw [← ek] at q
  exact q
theorem atI_getD {zs : List Int} {i : Int} (h0 : 0 ≤ i) (h1 : i < (zs.length : Int)) : atI (zs.map V.int) i = some (.int (zs.getD i.toNat 0)) := by
  have hk : i.toNat < zs.length := by (first | lia | omega)
  have ek : i = ((i.toNat : Nat) : Int) := by (first | lia | omega)
  have q : atI (zs.map V.int) ((i.toNat : Nat) : Int) = some (.int zs[i.toNat]) := atI_nat (by rw [List.getElem?_map, List.getElem?_eq_getElem hk] <;> rfl)
  rw [← ek] at q
  rw [q, List.getD_eq_getElem?_getD, List.getElem?_eq_getElem hk] <;> rfl
theorem map_int_get {zs : List Int} {i : Nat} {y : V} (h : (zs.map V.int)[i]? = some y) : ∃ z, y = .int z ∧ zs[i]? = some z := by
  rw [List.getElem?_map] at h
  cases e : zs[i]? with
  | none => rw [e] at h; cases h
  | some z => rw [e] at h; exact ⟨z, (Option.some.inj h).symm, rfl⟩
theorem cut_ints (zs : List Int) (n : Nat) : cutV (zs.map V.int) none (some (n : Int)) = (zs.take n).map V.int := by
  unfold cutV
  rw [HT.sIx_none, HT.sIx_nat, List.drop_zero, List.length_map, Nat.sub_zero, ← List.map_take]
  congr 1
  by_cases h : n ≤ zs.length
  · rw [Nat.min_eq_left h]
  · rw [Nat.min_eq_right (by (first | lia | omega)), List.take_of_length_le (Nat.le_refl _), List.take_of_length_le (by (first | lia | omega))]
theorem smallL {n : Nat} (h : n ≤ 100000) : n ≤ sizeLine := Nat.le_trans h (by decide)
theorem smallLt {n : Nat} (h : n ≤ 100000) : n < sizeLine := Nat.lt_of_le_of_lt h (by decide)
end L2
namespace L2
open PySem PySem.Spec PyProof.Rows
noncomputable def tCut (t : TS) : TS := fun D σ H => ∃ M : St → Hp → Prop, t { D with nx := M } σ H ∧ ∀ σ' H', M σ' H' → D.nx σ' H'
theorem ps_cut {X : Cx} {st : Stmt} {t : TS} (h : PS X st t) : PS X st (tCut t) := by
  intro pins s σ H D I hw
  obtain ⟨M, h1, h2⟩ := hw
  refine thn (h pins s σ H _ I h1) fun f s1 q => ?_
  cases f with
  | next => obtain ⟨σ', H', I', m⟩ := q; exact ⟨σ', H', I', h2 σ' H' m⟩
  | ret v => exact q
  | brk => exact q
  | cont => exact q
end L2
namespace L2
open PySem PySem.Spec PyProof.Rows
section
variable {X : Cx} {pins : List (Addr × Obj)} {σ : St} {H : Hp} {s : Shared} {h' : Heap}
end
section
variable {X : Cx} {es : List Expr} {k1 : Nat} {tp : Pos}
end
end L2
namespace L2
open PySem PySem.Spec PyProof.Rows
mutual
inductive Den (K : PySem.W.Frag) (H : Hp) : V → PyData → Prop
  | non : Den K H .non .none
  | bl (b : Bool) : Den K H (.bl b) (.bool b)
  | int (i : Int) : Den K H (.int i) (.int i)
  | str (x : Str) : PyData.canLay0 (.str x) = true → Den K H (.str x) (.str x)
  | lst {a xs ds} : SqL K H a xs → DenL K H xs ds → Den K H (.ref a) (.list ds)
  | tup {a xs ds} : SqT K H a xs → DenL K H xs ds → Den K H (.ref a) (.tuple ds)
inductive DenL (K : PySem.W.Frag) (H : Hp) : List V → List PyData → Prop
  | nil : DenL K H [] []
  | cons {x xs d ds} : Den K H x d → DenL K H xs ds → DenL K H (x :: xs) (d :: ds)
end
section
variable {X : Cx} {pins : List (Addr × Obj)} {σ : St} {H : Hp} {s : Shared}
mutual
theorem den_reads (I : Inv X pins σ H s) : ∀ (d : PyData) (v : V) (u : Value), Den X.K H v d → RelV v u → ∃ as, Reads s.heap u d as
  | .none, v, u, h, r => by cases h; cases r; exact ⟨_, .none⟩
  | .bool b, v, u, h, r => by cases h; cases r; exact ⟨_, .bool b⟩
  | .int i, v, u, h, r => by cases h; obtain ⟨t, rfl⟩ := r; exact ⟨_, .int i t⟩
  | .str x, v, u, h, r => by cases h; obtain ⟨t, rfl⟩ := r; exact ⟨_, .str x t⟩
  | .list ds, v, u, h, r => by
    cases h with
    | lst hq hl =>
      cases r
      obtain ⟨its, rv, ⟨o, n, e, c, _, d⟩, _⟩ := I.list hq
      obtain ⟨as, q⟩ := denL_reads I ds _ _ hl rv
      exact ⟨_, .list e c d (by simpa using q)⟩
  | .tuple ds, v, u, h, r => by
    cases h with
    | tup hq hl =>
      cases r
      obtain ⟨its, rv, ⟨o, e, c, n, d⟩, _⟩ := I.tuple hq
      obtain ⟨as, q⟩ := denL_reads I ds _ _ hl rv
      exact ⟨_, .tuple e c d (by simpa using q)⟩
  | .dict _, v, u, h, r => by cases h
theorem denL_reads (I : Inv X pins σ H s) : ∀ (ds : List PyData) (xs : List V) (us : List Value), DenL X.K H xs ds → Vals xs us → ∃ as, ReadsAll s.heap us ds as
  | [], xs, us, h, r => by cases h; cases r; exact ⟨_, .nil⟩
  | d :: ds, xs, us, h, r => by
    cases h with
    | cons h1 h2 =>
      cases r with
      | cons r1 r2 =>
        obtain ⟨a1, q1⟩ := den_reads I d _ _ h1 r1
        obtain ⟨a2, q2⟩ := denL_reads I ds _ _ h2 r2
        exact ⟨_, .cons q1 q2⟩
end
mutual
theorem den_lay {K : PySem.W.Frag} : ∀ (d : PyData) (v : V), Den K H v d → d.canLay0 = true
  | .none, v, h => rfl
  | .bool b, v, h => rfl
  | .int i, v, h => rfl
  | .str x, v, h => by cases h with | str _ q => exact q
  | .list ds, v, h => by cases h with | lst _ q => exact denL_lay ds _ q
  | .tuple ds, v, h => by cases h with | tup _ q => exact denL_lay ds _ q
  | .dict _, v, h => by cases h
theorem denL_lay {K : PySem.W.Frag} : ∀ (ds : List PyData) (xs : List V), DenL K H xs ds → PyData.canLayAll0 ds = true
  | [], xs, h => rfl
  | d :: ds, xs, h => by
    cases h with
    | cons h1 h2 =>
      show (PyData.canLay0 d && PyData.canLayAll0 ds) = true
      rw [den_lay d _ h1, denL_lay ds _ h2]
      rfl
end
noncomputable def rEqD (K : PySem.W.Frag) (neg : Bool) : R2 := fun x y H Q => ∃ d e, Den K H x d ∧ Den K H y e ∧ min d.depth e.depth ≤ 64 ∧ Q (.bl (if neg then !PyData.eqv d e else PyData.eqv d e)) H
theorem op_eqD (hu : X.A.units + 64 < cLine) : OpR X (compareOp .Eq) (rEqD X.K false) := by
  intro pins s σ H x y v u Q I rx ry h
  obtain ⟨d, e, hd, he, hz, q⟩ := h
  obtain ⟨as, ra⟩ := den_reads I d _ _ hd rx
  obtain ⟨bs, rb⟩ := den_reads I e _ _ he ry
  exact PySem.SeqAt.eqOverData X.prog X.w X.A X.xe s v u d e as bs _ ra rb (den_lay d _ hd) (den_lay e _ he) (by (first | lia | omega)) ⟨.bl _, H, I, rfl, q⟩
theorem op_neD (hu : X.A.units + 64 < cLine) : OpR X (compareOp .NotEq) (rEqD X.K true) := by
  intro pins s σ H x y v u Q I rx ry h
  obtain ⟨d, e, hd, he, hz, q⟩ := h
  obtain ⟨as, ra⟩ := den_reads I d _ _ hd rx
  obtain ⟨bs, rb⟩ := den_reads I e _ _ he ry
  exact PySem.SeqAt.neOverData X.prog X.w X.A X.xe s v u d e as bs _ ra rb (den_lay d _ hd) (den_lay e _ he) (by (first | lia | omega)) ⟨.bl _, H, I, rfl, q⟩
end
mutual
noncomputable def nb : PyData → Bool
  | .none | .int _ | .str _ => true
  | .bool _ | .dict _ => false
  | .list xs | .tuple xs => nbL xs
noncomputable def nbL : List PyData → Bool
  | [] => true
  | x :: xs => nb x && nbL xs
end
mutual
theorem eqv_iff : ∀ (d e : PyData), nb d = true → nb e = true → (PyData.eqv d e = true ↔ d = e)
  | .none, e, _, h => by cases e <;> first | (simp [PyData.eqv]; done) | cases h
  | .int i, e, _, h => by cases e <;> first | (simp [PyData.eqv]; done) | cases h
  | .str i, e, _, h => by cases e <;> first | (simp [PyData.eqv]; done) | cases h
  | .bool _, _, h, _ => by cases h
  | .dict _, _, h, _ => by cases h
  | .list xs, e, h1, h => by
    cases e with
    | list ys =>
      have q := eqvL_iff xs ys h1 h
      show PyData.eqvAll xs ys = true ↔ _
      rw [q]
      exact ⟨fun z => by rw [z], fun z => PyData.list.inj z⟩
    | none => simp [PyData.eqv]
    | int _ => simp [PyData.eqv]
    | str _ => simp [PyData.eqv]
    | tuple _ => simp [PyData.eqv]
    | bool _ => cases h
    | dict _ => cases h
  | .tuple xs, e, h1, h => by
    cases e with
    | tuple ys =>
      have q := eqvL_iff xs ys h1 h
      show PyData.eqvAll xs ys = true ↔ _
      rw [q]
      exact ⟨fun z => by rw [z], fun z => PyData.tuple.inj z⟩
    | none => simp [PyData.eqv]
    | int _ => simp [PyData.eqv]
    | str _ => simp [PyData.eqv]
    | list _ => simp [PyData.eqv]
    | bool _ => cases h
    | dict _ => cases h
theorem eqvL_iff : ∀ (xs ys : List PyData), nbL xs = true → nbL ys = true → (PyData.eqvAll xs ys = true ↔ xs = ys)
  | [], [], _, _ => by simp [PyData.eqvAll]
  | [], _ :: _, _, _ => by simp [PyData.eqvAll]
  | _ :: _, [], _, _ => by simp [PyData.eqvAll]
  | x :: xs, y :: ys, h1, h2 => by
    have a : nb x = true ∧ nbL xs = true := by
      have : (nb x && nbL xs) = true := h1
      simpa using this
    have b : nb y = true ∧ nbL ys = true := by
      have : (nb y && nbL ys) = true := h2
      simpa using this
    have q1 := eqv_iff x y a.1 b.1
    have q2 := eqvL_iff xs ys a.2 b.2
    show (PyData.eqv x y && PyData.eqvAll xs ys) = true ↔ _
    rw [Bool.and_eq_true, q1, q2]
    simp
end
theorem eqv_refl {d : PyData} (h : nb d = true) : PyData.eqv d d = true := (eqv_iff d d h h).mpr rfl
noncomputable abbrev dInts (zs : List Int) : PyData := .list (zs.map .int)
theorem nb_ints : ∀ zs : List Int, nbL (zs.map .int) = true
  | [] => rfl
  | z :: zs => by
    show (nb (.int z) && nbL (zs.map .int)) = true
    rw [nb_ints zs]
    rfl
theorem depth_ints : ∀ zs : List Int, PyData.depthAll (zs.map .int) = 0
  | [] => rfl
  | z :: zs => by
    show max (PyData.depth (.int z)) (PyData.depthAll (zs.map .int)) = 0
    rw [depth_ints zs]
    rfl
theorem denL_ints {K : PySem.W.Frag} {H : Hp} : ∀ zs : List Int, DenL K H (zs.map V.int) (zs.map .int)
  | [] => .nil
  | z :: zs => .cons (.int z) (denL_ints zs)
theorem den_ints {K : PySem.W.Frag} {H : Hp} {a : Addr} {zs : List Int} (h : SqL K H a (zs.map V.int)) : Den K H (.ref a) (dInts zs) := .lst h (denL_ints zs)
theorem dints_depth (zs : List Int) (e : PyData) : min (dInts zs).depth e.depth ≤ 64 := by
  have q : (dInts zs).depth = 1 := by show PyData.depthAll (zs.map .int) + 1 = 1; rw [depth_ints]
  (first | lia | omega)
end L2
namespace L2
open PySem PySem.Spec PyProof.Rows
section
variable {prog : Program} {w : World} {A : Around} {R : Result → Shared → Prop} {s : Shared}
theorem compLoop_any {elt target iter : Expr} {ifs : List Expr} {scope : Scope} {pos : Pos} {it acc : Value} {env : Env} (I : Nat → Shared → Prop)
    (turn : ∀ n s, I n s → wpAny (model prog w) A (pyNext it) (fun r s1 => match r with
      | none => R (.ok .next) s1
      | some v => wpAny (model prog w) A (letOwnedTupleGo target it v) (fun _ s1' => wpAny (model prog w) A (assign target env v) (fun _ s2 =>
          wpAny (model prog w) A (forIn ifs true fun c r => if r = true then do let ok ← isTrue c env (eval c env); pure (ForInStep.yield ok) else pure (ForInStep.yield r)) (fun ok s3 =>
            if ok = true then wpAny (model prog w) A (eval elt env) (fun x s4 =>
              wpAny (model prog w) A (call (.builtin "list.append") [acc, x]) (fun _ s5 => ∃ m, m < n ∧ I m s5) (fun _ _ => False) s4) (fun _ _ => False) s3
            else ∃ m, m < n ∧ I m s3) (fun _ _ => False) s2) (fun _ _ => False) s1') (fun _ _ => False) s1) (fun _ _ => False) s)
    (n : Nat) (h : I n s) :
    codeAny (model prog w) A (.compLoop (.ListComp elt [⟨target, iter, ifs, 0⟩] scope pos) 0 it acc env) R s := by
  refine codeAny_loop rfl I (fun n s hI => ?_) n h
  show wpAny _ A ((compTurn (.ListComp elt [⟨target, iter, ifs, 0⟩] scope pos) 0 it acc env).onRaise (fun x => do noteFrame x env; theTreesLotGoes x)) _ _ s
  refine wpAny_noted ?_
  rw [compTurn_list]
  refine wpAny_bind (wpAny_standAt (wpAny_bind (wpAny_mono (turn n s hI) (fun r s1 h1 => ?_) fun _ _ h' => False.elim h')))
  cases r with
  | none => exact wpAny_pure h1
  | some v =>
    refine wpAny_bind (wpAny_mono h1 (fun _ s1' h1' => ?_) fun _ _ h' => False.elim h')
    refine wpAny_bind (wpAny_mono h1' (fun _ s2 h2 => wpAny_bind (wpAny_mono h2 (fun ok s3 h3 => ?_) fun _ _ h' => False.elim h')) fun _ _ h' => False.elim h')
    cases ok with
    | false => exact wpAny_pure ⟨rfl, h3⟩
    | true =>
      exact wpAny_bind (wpAny_bind (wpAny_mono h3 (fun x s4 h4 => wpAny_bind (wpAny_mono h4 (fun _ s5 h5 => wpAny_pure (wpAny_pure ⟨rfl, h5⟩)) fun _ _ h' => False.elim h')) fun _ _ h' => False.elim h'))
end
noncomputable def closeFrom (env : Env) : List (Str × NameKind) → List (Str × Addr) → List (Str × Addr)
  | [], acc => acc
  | (n, k) :: r, acc => if (k == .free) = true then closeFrom env r ((n, (env.cells.lookup n).getD 0) :: acc) else closeFrom env r acc
theorem closeFrom_mem {env : Env} (P : Str → Addr → Prop) : ∀ (names : List (Str × NameKind)) (acc : List (Str × Addr)), (∀ x ∈ names, x.2 = .free → ∃ c, env.cells.lookup x.1 = some c) → (∀ n c, (n, c) ∈ acc → P n c) →
    (∀ n c, env.cells.lookup n = some c → P n c) → ∀ n c, (n, c) ∈ closeFrom env names acc → P n c
  | [], acc, _, ha, _, n, c, h => ha n c h
  | (m, k) :: r, acc, hf, ha, hp, n, c, h => by
    unfold closeFrom at h
    split at h
    · rename_i hk
      refine closeFrom_mem P r _ (fun x hx => hf x (List.mem_cons_of_mem _ hx)) (fun n' c' h' => ?_) hp n c h
      rcases List.mem_cons.mp h' with e | h'
      · obtain ⟨c0, e0⟩ := hf (m, k) List.mem_cons_self (eq_of_beq hk)
        injection e with e1 e2
        subst e1 e2
        rw [e0]
        exact hp _ _ e0
      · exact ha n' c' h'
    · exact closeFrom_mem P r acc (fun x hx => hf x (List.mem_cons_of_mem _ hx)) ha hp n c h
theorem closeFrom_acc {env : Env} : ∀ (names : List (Str × NameKind)) (acc : List (Str × Addr)) (x : Str × Addr), x ∈ acc → x ∈ closeFrom env names acc
  | [], _, _, h => h
  | (m, k) :: r, acc, x, h => by
    unfold closeFrom
    split
    · exact closeFrom_acc r _ x (List.mem_cons_of_mem _ h)
    · exact closeFrom_acc r _ x h
theorem closeFrom_has {env : Env} : ∀ (names : List (Str × NameKind)) (acc : List (Str × Addr)) (x : Str), (x, NameKind.free) ∈ names → ∃ c, (x, c) ∈ closeFrom env names acc
  | [], _, _, h => nomatch h
  | (m, k) :: r, acc, x, h => by
    unfold closeFrom
    rcases List.mem_cons.mp h with e | h
    · injection e with e1 e2
      subst e1 e2
      rw [if_pos (by decide)]
      exact ⟨_, closeFrom_acc r _ _ List.mem_cons_self⟩
    · split
      · exact closeFrom_has r _ x h
      · exact closeFrom_has r _ x h
theorem closureFor_eq {scope : Scope} {env : Env} (hf : ∀ x ∈ scope.names, x.2 = .free → ∃ c, env.cells.lookup x.1 = some c) : closureFor scope env = pure (closeFrom env scope.names []) := by
  have go : ∀ (names : List (Str × NameKind)) (acc : List (Str × Addr)), (∀ x ∈ names, x.2 = .free → ∃ c, env.cells.lookup x.1 = some c) →
      (forIn names acc fun (x : Str × NameKind) (r : List (Str × Addr)) => (match x with
        | (name, kind) => if (kind == NameKind.free) = true then do
            let a ← cellOf env name
            pure (ForInStep.yield ((name, a) :: r))
          else pure (ForInStep.yield r) : Sem (ForInStep (List (Str × Addr))))) = pure (closeFrom env names acc) := by
    intro names
    induction names with
    | nil => intro acc _; rw [List.forIn_nil]; rfl
    | cons x r ih =>
      intro acc hf
      obtain ⟨n, k⟩ := x
      rw [List.forIn_cons]
      unfold closeFrom
      by_cases hk : (k == NameKind.free) = true
      · obtain ⟨c, e⟩ := hf (n, k) List.mem_cons_self (eq_of_beq hk)
        simp only [hk, if_true]
        have e2 : cellOf env n = pure c := by unfold cellOf; rw [e]
        rw [e2, e]
        simp only [pure_bind, Option.getD_some]
        exact ih _ fun x hx => hf x (List.mem_cons_of_mem _ hx)
      · simp only [hk, if_false]
        exact ih _ fun x hx => hf x (List.mem_cons_of_mem _ hx)
  simp only [closureFor]
  have := go scope.names [] hf
  first
    | exact this
    | (simp only [bind_pure]; exact this)
    | (rw [this]; rfl)
theorem cellsFrom_app : ∀ (names : List (Str × NameKind)) (n : Nat) (acc : List (Str × Addr)), cellsFrom n names acc = cellsFrom n names [] ++ acc
  | [], _, _ => rfl
  | (m, k) :: r, n, acc => by
    unfold cellsFrom
    split
    · rw [cellsFrom_app r (n + 1) ((m, n) :: acc), cellsFrom_app r (n + 1) [(m, n)], List.append_assoc]
      rfl
    · exact cellsFrom_app r n acc
theorem cellsFrom_src : ∀ (names : List (Str × NameKind)) (n : Nat) (acc : List (Str × Addr)) (x : Str × Addr), x ∈ cellsFrom n names acc → (x.1, NameKind.cell) ∈ names ∨ x ∈ acc
  | [], _, _, _, h => .inr h
  | (m, k) :: r, n, acc, x, h => by
    unfold cellsFrom at h
    split at h
    · rename_i hk
      rcases cellsFrom_src r _ _ x h with q | q
      · exact .inl (List.mem_cons_of_mem _ q)
      · rcases List.mem_cons.mp q with e | q
        · rw [e, eq_of_beq hk]
          exact .inl List.mem_cons_self
        · exact .inr q
    · rcases cellsFrom_src r _ _ x h with q | q
      · exact .inl (List.mem_cons_of_mem _ q)
      · exact .inr q
theorem lookup_app {α : Type} (x : Str) : ∀ (l r : List (Str × α)), (l ++ r).lookup x = (l.lookup x).or (r.lookup x)
  | [], r => by simp
  | (k, v) :: l, r => by
    rw [List.cons_append, List.lookup_cons, List.lookup_cons]
    cases hb : x == k with
    | true => rfl
    | false => exact lookup_app x l r
theorem lookup_some_of_mem {α : Type} {x : Str} : ∀ {l : List (Str × α)} {c : α}, (x, c) ∈ l → ∃ c', l.lookup x = some c'
  | (k, v) :: l, c, h => by
    rw [List.lookup_cons]
    cases hb : x == k with
    | true => exact ⟨v, rfl⟩
    | false =>
      rcases List.mem_cons.mp h with e | h
      · injection e with e1 e2
        subst e1
        rw [beq_self_eq_true] at hb
        cases hb
      · exact lookup_some_of_mem h
theorem lookup_relabel {scope : Scope} {env : Env} {x : Str} {k : NameKind} (h : (relabel scope env).names.lookup x = some k) : ∃ k0, scope.names.lookup x = some k0 ∧ (k = k0 ∨ (k = .cell ∧ k0 = .free)) := by
  have go : ∀ names : List (Str × NameKind), (names.map fun (n, k) => if (k == NameKind.free && env.scope.kind == .function && env.kindOf n == some .cell) then (n, NameKind.cell) else (n, k)).lookup x = some k →
      ∃ k0, names.lookup x = some k0 ∧ (k = k0 ∨ (k = .cell ∧ k0 = .free)) := by
    intro names
    induction names with
    | nil => intro h; cases h
    | cons y r ih =>
      obtain ⟨n, k1⟩ := y
      intro h
      replace h : List.lookup x ((if (k1 == NameKind.free && env.scope.kind == .function && env.kindOf n == some .cell) = true then (n, NameKind.cell) else (n, k1)) :: (r.map fun (n, k) => if (k == NameKind.free && env.scope.kind == .function && env.kindOf n == some .cell) then (n, NameKind.cell) else (n, k))) = some k := h
      by_cases hc : (k1 == NameKind.free && env.scope.kind == .function && env.kindOf n == some .cell) = true
      · rw [if_pos hc] at h
        rw [List.lookup_cons] at h ⊢
        cases hb : x == n with
        | true =>
          rw [hb] at h
          have e : NameKind.cell = k := Option.some.inj h
          simp only [Bool.and_eq_true] at hc
          exact ⟨k1, rfl, .inr ⟨e.symm, eq_of_beq hc.1.1⟩⟩
        | false => rw [hb] at h; exact ih h
      · rw [if_neg hc] at h
        rw [List.lookup_cons] at h ⊢
        cases hb : x == n with
        | true =>
          rw [hb] at h
          have e : k1 = k := Option.some.inj h
          exact ⟨k1, rfl, .inl e.symm⟩
        | false => rw [hb] at h; exact ih h
  exact go _ h
noncomputable def blkEnv (scope : Scope) (env : Env) (C : Addr) (cells : List (Str × Addr)) : Env :=
  { scope := relabel scope env, locals := C, globals := env.globals, cells := cells, qual := env.qual, func := none, code := env.code, frame := env.frame, builtins := env.builtins }
noncomputable def blkCx (X : Cx) (N' : List Str) (scope : Scope) (C : Addr) (cells : List (Str × Addr)) (s₀ : Shared) (H₀ : Hp) (ex : List Addr) : Cx :=
  { X with N := N', s₀ := s₀, H₀ := H₀, env := blkEnv scope X.env C cells, outer := X.stack, stack := X.stack, ex := ex, fn := fun x => scope.names.lookup x == some .cell, pn := [], xe := fun _ _ => False }
noncomputable def blkSt (ms : List Nat) (k : Nat) (σ : St) : St := ms.foldl (fun σ i => σ.set i none) σ ++ List.replicate k none
theorem unset_len (ms : List Nat) : ∀ σ : St, (ms.foldl (fun σ i => σ.set i none) σ).length = σ.length := by
  induction ms with
  | nil => intro σ; rfl
  | cons m ms ih => intro σ; rw [List.foldl_cons, ih, List.length_set]
theorem unset_get (ms : List Nat) : ∀ (σ : St) (i : Nat) (v : V), (ms.foldl (fun σ i => σ.set i none) σ)[i]? = some (some v) → σ[i]? = some (some v) ∧ i ∉ ms := by
  induction ms with
  | nil => intro σ i v h; exact ⟨h, by simp⟩
  | cons m ms ih =>
    intro σ i v h
    rw [List.foldl_cons] at h
    obtain ⟨h1, h2⟩ := ih _ i v h
    by_cases e : m = i
    · subst e
      rw [List.getElem?_set] at h1
      split at h1
      · split at h1 <;> cases h1
      · exact absurd rfl ‹_›
    · rw [List.getElem?_set_ne e] at h1
      exact ⟨h1, by simp only [List.mem_cons, not_or]; exact ⟨fun z => e z.symm, h2⟩⟩
structure BlkOk (X : Cx) (N' : List Str) (scope : Scope) (ms : List Nat) (k : Nat) : Prop where
  kind : scope.kind = .function
  uniq : ∀ x ∈ scope.names, scope.names.lookup x.1 = some x.2
  free : ∀ x ∈ scope.names, x.2 = .free → X.env.kindOf x.1 = some .cell ∨ X.env.kindOf x.1 = some .free
  len : N'.length = X.N.length + k
  pre : ∀ i : Nat, i < X.N.length → N'[i]? = X.N[i]?
  vis : ∀ i : Nat, i < X.N.length → i ∉ ms → ∀ x k', N'[i]? = some x → scope.names.lookup x = some k' → k' = .local ∨ k' = .cell ∨ k' = .free → k' = .free
section
variable {X : Cx} {pins : List (Addr × Obj)} {σ : St} {H : Hp} {s : Shared}
theorem wp_blkEnv {M : Model} {A : Around} {E : Value → Shared → Prop} {scope : Scope} {globals : Addr} {cl : List (Str × Addr)} {qual : Str} {env : Env} {Q : Env → Shared → Prop}
    (hQ : Q { scope := scope, locals := s.heap.objs.size, globals := globals, cells := cellsFrom (s.heap.objs.size + 1) scope.names cl, qual := qual, func := none, code := env.code, frame := env.frame, builtins := env.builtins }
      { s with heap := pushCells (s.heap.push { cls := .type "dict", data := .dict #[] }) scope.names }) :
    wpAny M A (newFunctionEnv scope globals cl [] qual none .none (some env)) Q E s := by
  simp only [newFunctionEnv, Option.isSome_some, if_true]
  refine wpAny_bind (wpAny_alloc ?_)
  refine wpAny_bind (wpAny_layCells _ (fun name kind cells => by cases hkc : kind == NameKind.cell <;> simp [hkc]) _ _ _ _ ?_)
  rw [show ({ s with heap := s.heap.push { cls := .type "dict", data := .dict #[] } } : Shared).heap.objs.size = s.heap.objs.size + 1 from Heap.size_push ..]
  rw [List.forIn_nil]
  exact wpAny_bind (wpAny_pure (wpAny_pure hQ))
theorem inv_blk {N' : List Str} {scope : Scope} {ms : List Nat} {k : Nat} {ex : List Addr} (I : Inv X pins σ H s) (B : BlkOk X N' scope ms k) (hex : ∀ b ∈ ex, FpOk X pins H b ∧ b < s.heap.objs.size) :
    Inv (blkCx X N' scope s.heap.objs.size (cellsFrom (s.heap.objs.size + 1) scope.names (closeFrom X.env scope.names [])) s H ex) [] (blkSt ms k σ) H
      { s with heap := pushCells (s.heap.push { cls := .type "dict", data := .dict #[] }) scope.names } := by
  have hfree : ∀ x ∈ scope.names, x.2 = .free → ∃ c, X.env.cells.lookup x.1 = some c := fun x hx hk => I.ok.has x.1 (B.free x hx hk)
  have keep : ∀ b o, s.heap.get? b = some o → (pushCells (s.heap.push { cls := .type "dict", data := .dict #[] }) scope.names).get? b = some o := fun b o e => pushCells_keeps _ _ b o (Heap.get?_push_of_some _ e)
  have own := cellsFrom_ok scope.names (s.heap.push { cls := .type "dict", data := .dict #[] }) (s.heap.objs.size + 1) [] ⟨fun _ _ hm => (nomatch hm), List.Pairwise.nil⟩ (by rw [Heap.size_push]; exact Nat.le_refl _)
  rw [Heap.size_push] at own
  have clm : ∀ n c, (n, c) ∈ closeFrom X.env scope.names [] → X.env.cells.lookup n = some c := closeFrom_mem (fun n c => X.env.cells.lookup n = some c) scope.names [] hfree (fun _ _ h => nomatch h) fun _ _ h => h
  have clt : ∀ n (c : Addr), X.env.cells.lookup n = some c → @LT.lt Nat instLTNat c s.heap.objs.size := fun n c e => by obtain ⟨v, q⟩ := I.cell n c e; exact q.lt
  have look : ∀ x c, (cellsFrom (s.heap.objs.size + 1) scope.names (closeFrom X.env scope.names [])).lookup x = some c →
      ((x, c) ∈ cellsFrom (s.heap.objs.size + 1) scope.names [] ∧ s.heap.objs.size + 1 ≤ c) ∨ (X.env.cells.lookup x = some c ∧ @LT.lt Nat instLTNat c s.heap.objs.size) := fun x c e => by
    rw [cellsFrom_app, lookup_app] at e
    cases q : (cellsFrom (s.heap.objs.size + 1) scope.names []).lookup x with
    | some c' =>
      rw [q] at e
      have e' : c' = c := Option.some.inj e
      subst e'
      exact .inl ⟨mem_of_lookup q, (own.empty x c' (mem_of_lookup q)).2⟩
    | none =>
      rw [q] at e
      have e2 := clm x c (mem_of_lookup e)
      exact .inr ⟨e2, clt x c e2⟩
  have hasL : ∀ x, scope.names.lookup x = some .cell ∨ scope.names.lookup x = some .free → ∃ c, (cellsFrom (s.heap.objs.size + 1) scope.names (closeFrom X.env scope.names [])).lookup x = some c := fun x hx => by
    rw [cellsFrom_app, lookup_app]
    cases q : (cellsFrom (s.heap.objs.size + 1) scope.names []).lookup x with
    | some c' => exact ⟨c', rfl⟩
    | none =>
      rcases hx with hx | hx
      · obtain ⟨c, e⟩ := cell_has (n := s.heap.objs.size + 1) hx
        rw [q] at e; cases e
      · obtain ⟨c, hc⟩ := closeFrom_has (env := X.env) scope.names [] x (PySem.mem_of_lookup hx)
        exact lookup_some_of_mem hc
  have Ir := I.lt
  refine ⟨⟨I.ok.mod, B.kind, I.ok.glob, I.ok.blt, Nat.le_refl _, fun x y c hx hy => ?_, fun x hx => ?_, fun x c hf hx => ?_, I.ok.hd, I.ok.frames, .inl rfl, fun b hb => ?_, I.bs, Nat.le_trans I.ok.bsz I.sz, fun b o e hb => ?_, fun b hb hfs => ?_, I.stack, I.stkFree⟩,
    rfl, I.bare, Un.kept keep, ⟨fun _ => none, ?_, fun i x v h1 h2 h3 => ?_⟩, fun x c hx => ?_, ?_, fun x c hx => ?_, fun p hp => absurd (show p ∈ ([] : List (Addr × Obj)) from hp) (by simp), I.hok.kept keep, ?_⟩
  · rcases look x c hx with ⟨m1, l1⟩ | ⟨m1, l1⟩
    · rcases look y c hy with ⟨m2, l2⟩ | ⟨m2, l2⟩
      · exact name_of_addr own.apart m1 m2
      · (first | lia | omega)
    · rcases look y c hy with ⟨m2, l2⟩ | ⟨m2, l2⟩
      · (first | lia | omega)
      · exact I.ok.inj x y c m1 m2
  · have hx : (relabel scope X.env).names.lookup x = some .cell ∨ (relabel scope X.env).names.lookup x = some .free := hx
    rcases hx with hx | hx
    · obtain ⟨k0, e, z | ⟨_, z⟩⟩ := lookup_relabel hx
      · exact hasL x (.inl (by rw [e, ← z]))
      · exact hasL x (.inr (by rw [e, z]))
    · obtain ⟨k0, e, z | ⟨z, _⟩⟩ := lookup_relabel hx
      · exact hasL x (.inr (by rw [e, ← z]))
      · cases z
  · show s.heap.objs.size ≤ c
    have hf : (scope.names.lookup x == some .cell) = true := hf
    have hf' : scope.names.lookup x = some .cell := eq_of_beq hf
    have hx : (cellsFrom (s.heap.objs.size + 1) scope.names (closeFrom X.env scope.names [])).lookup x = some c := hx
    rw [cellsFrom_app, lookup_app] at hx
    obtain ⟨c', e⟩ := cell_has (n := s.heap.objs.size + 1) hf'
    rw [e] at hx
    have z : c' = c := Option.some.inj hx
    subst z
    exact Nat.le_of_succ_le (own.empty x c' (mem_of_lookup e)).2
  · obtain ⟨_, hlt⟩ := hex b hb
    refine ⟨Nat.ne_of_lt hlt, fun x c hx z => ?_⟩
    subst z
    have hlt' : @LT.lt Nat instLTNat c s.heap.objs.size := hlt
    rcases look x c hx with ⟨_, l1⟩ | ⟨m1, _⟩
    · (first | lia | omega)
    · obtain ⟨⟨_, _, _, _, f4, _⟩, _⟩ := hex c hb
      exact f4 x c m1 rfl
  · obtain ⟨⟨_, _, _, f3, _, _⟩, _⟩ := hex b hb
    rcases f3 with z | z
    · exact I.ok.noex b o e z
    · have h1 : @LT.lt Nat instLTNat b X.base.objs.size := Heap.lt_size e
      have h2 := I.ok.bsz
      have h3 : @LE.le Nat instLENat X.s₀.heap.objs.size b := z
      (first | lia | omega)
  · obtain ⟨⟨_, f1, f2, _, _, _⟩, _⟩ := hex b hb
    rcases List.mem_cons.mp (I.stkSub b hfs) with z | z
    · exact f1 z
    · exact f2 z
  · exact (Heap.Ns.new s.heap (.type "dict")).keeps (pushCells_keeps _ _)
  · have hi : i < X.N.length := by
      by_cases hi : i < X.N.length
      · exact hi
      · exfalso
        unfold blkSt at h2
        have hl : (ms.foldl (fun σ i => σ.set i none) σ).length = X.N.length := by rw [unset_len, I.len]
        rw [List.getElem?_append_right (by (first | lia | omega)), List.getElem?_replicate] at h2
        split at h2 <;> cases h2
    have h2' : (ms.foldl (fun σ i => σ.set i none) σ)[i]? = some (some v) := by
      unfold blkSt at h2
      have hl : (ms.foldl (fun σ i => σ.set i none) σ).length = X.N.length := by rw [unset_len, I.len]
      rw [List.getElem?_append_left (by (first | lia | omega))] at h2
      exact h2
    obtain ⟨h4, h5⟩ := unset_get ms σ i v h2'
    have h1' : N'[i]? = some x := h1
    have hXN : X.N[i]? = some x := by rw [← B.pre i hi]; exact h1'
    have h3 : (relabel scope X.env).names.lookup x = some .local ∨ (relabel scope X.env).names.lookup x = some .cell ∨ (relabel scope X.env).names.lookup x = some .free := h3
    have fr : scope.names.lookup x = some .free := by
      have go : ∀ k', (relabel scope X.env).names.lookup x = some k' → k' = .local ∨ k' = .cell ∨ k' = .free → scope.names.lookup x = some .free := fun k' e hk => by
        obtain ⟨k0, e0, z | ⟨_, z⟩⟩ := lookup_relabel e
        · have := B.vis i hi h5 x k0 h1' e0 (z ▸ hk)
          rw [e0, this]
        · rw [e0, z]
      rcases h3 with h3 | h3 | h3
      · exact go _ h3 (.inl rfl)
      · exact go _ h3 (.inr (.inl rfl))
      · exact go _ h3 (.inr (.inr rfl))
    have hk := B.free (x, .free) (PySem.mem_of_lookup fr) rfl
    obtain ⟨m, hn, hl⟩ := I.loc
    obtain ⟨u, r, l⟩ := hl i x v hXN h4 (.inr hk)
    refine ⟨u, r, .inr ⟨?_, ?_⟩⟩
    · rcases h3 with h3 | h3
      · exfalso
        obtain ⟨k0, e0, z | ⟨z, _⟩⟩ := lookup_relabel h3
        · rw [fr] at e0; cases e0; cases z
        · cases z
      · exact h3
    · rcases l with ⟨hloc, _⟩ | ⟨_, c, hc, hcell⟩
      · rcases hk with hk | hk
        · rw [hk] at hloc; cases hloc
        · rw [hk] at hloc; cases hloc
      · refine ⟨c, ?_, hcell.keeps keep⟩
        obtain ⟨c2, e2⟩ := hasL x (.inr fr)
        have e2' : (cellsFrom (s.heap.objs.size + 1) scope.names (closeFrom X.env scope.names [])).lookup x = some c2 := e2
        rcases look x c2 e2' with ⟨m1, _⟩ | ⟨m1, _⟩
        · exfalso
          rcases cellsFrom_src scope.names _ _ _ m1 with q | q
          · have := B.uniq _ q
            rw [fr] at this
            cases this
          · cases q
        · rw [hc] at m1
          have z : c = c2 := Option.some.inj m1
          rw [z]
          exact e2
  · rcases look x c hx with ⟨m1, _⟩ | ⟨m1, _⟩
    · exact ⟨none, (own.empty x c m1).1⟩
    · obtain ⟨v, q⟩ := I.cell x c m1
      exact ⟨v, q.keeps keep⟩
  · exact I.hok.fresh (Nat.le_refl _)
  · rcases look x c hx with ⟨_, l1⟩ | ⟨m1, _⟩
    · exact I.hok.fresh (by (first | lia | omega))
    · exact I.freeC x c m1
  · show (blkSt ms k σ).length = N'.length
    unfold blkSt
    rw [List.length_append, unset_len, List.length_replicate, I.len, B.len]
end
end L2
namespace L2
open PySem PySem.Spec PyProof.Rows
noncomputable def tTrue : TT := fun _ H Q => Q true H
noncomputable def CompW (J : It) (g : TG) (tc : TT) (te : TE) (D : Addr) (Q : VK) (σ0 : St) (H0 : Hp) : Prop := ∃ W : Nat → Nat → St → Hp → Prop, (∃ m, W 0 m σ0 (upd H0 D (.lst []))) ∧
  ∀ i m σ' H2, W i m σ' H2 → (J.stop i H2 ∧ Q (.ref D) H2) ∨ (J.go i H2 ∧ ∀ x H3, J.yld i H2 x H3 → g x σ' H3 fun σ2 H4 => tc σ2 H4 fun b H5 =>
    if b = true then te σ2 H5 fun v H6 => ∃ ys, H6 D = some (.lst ys) ∧ ys.length < sizeLine ∧ ∃ m', m' < m ∧ W (i + 1) m' σ2 (upd H6 D (.lst (ys ++ [v])))
    else ∃ m', m' < m ∧ W (i + 1) m' σ2 H5)
noncomputable def tComp (wi : TI) (g : TG) (tc : TT) (te : TE) (ms : List Nat) (k : Nat) : TE := fun σ H Q => wi σ H fun J H1 => ∀ D, H1 D = none → CompW J g tc te D Q (blkSt ms k σ) H1
noncomputable def PTs (X : Cx) (ifs : List Expr) (t : TT) : Prop :=
  ∀ (pins : List (Addr × Obj)) (s : Shared) (σ : St) (H : Hp) (Q : Bool → Hp → Prop), Inv X pins σ H s → t σ H Q →
    wpAny (model X.prog X.w) X.A (forIn ifs true fun c r => if r = true then do let ok ← isTrue c X.env (eval c X.env); pure (ForInStep.yield ok) else pure (ForInStep.yield r)) (TP X pins σ Q) X.xe s
section
variable {X : Cx}
theorem pts_nil : PTs X [] tTrue := fun pins s σ H Q I h => wpAny_tests_nil ⟨H, I, h⟩
theorem comp_core {elt target iter : Expr} {ifs : List Expr} {scope : Scope} {pos : Pos} {p : Pos} {wi : TI} {g : TG} {tc : TT} {te : TE} {N' : List Str} {ms : List Nat} {k : Nat} {use : Option (Value → Sem Unit)}
    {Q : Value → Shared → Prop} {pins : List (Addr × Obj)} {s : Shared} {σ : St} {H : Hp} {Qv : VK} (hcalm : X.calm = true) (hi : PI X target iter wi)
    (B : BlkOk X N' scope ms k) (hg : ∀ C cells s₀ H₀ ex, PG (blkCx X N' scope C cells s₀ H₀ ex) target g) (hc : ∀ C cells s₀ H₀ ex, PTs (blkCx X N' scope C cells s₀ H₀ ex) ifs tc)
    (he : ∀ C cells s₀ H₀ ex, PE (blkCx X N' scope C cells s₀ H₀ ex) elt te) (hs : ∀ x, foldedSetIterable iter X.env x = pure x) (I : Inv X pins σ H s) (hw : tComp wi g tc te ms k σ H Qv)
    (hpost : ∀ (D : Addr) (H' : Hp) (s' : Shared) (C : Addr) (m : Str → Option Value), Inv X pins σ H' s' → s'.heap.Ns C m → H' C = none → C ≠ X.env.locals → X.s₀.heap.objs.size ≤ C →
      (∀ x c, X.env.cells.lookup x = some c → c ≠ C) → (∀ p ∈ X.pn ++ pins, p.1 ≠ C) → Qv (.ref D) H' → compPost (model X.prog X.w) X.A X.xe use Q (.ref D) C (.ok .next) s') :
    wpAny (model X.prog X.w) X.A (comprehension (.ListComp elt [⟨target, iter, ifs, 0⟩] scope pos) scope X.env p (newList []) false (eval iter X.env) use) Q X.xe s := by
  have hfree : ∀ x ∈ scope.names, x.2 = .free → ∃ c, X.env.cells.lookup x.1 = some c := fun x hx hk => I.ok.has x.1 (B.free x hx hk)
  refine wpAny_comprehension_free (use := use) rfl hs (closureFor_eq hfree) B.kind (fun x hx hl => by rw [B.uniq x hx, hl]) ?_
  refine thn (hi pins s σ H _ I hw) fun v s1 h1 => thn h1 fun itv s2 h2 => ?_
  obtain ⟨it, fp, tn, J, H2, rfl, I2, T, st2, f2, h2⟩ := h2
  refine wpAny_newObj_type ?_
  have I3 : Inv X pins σ (upd H2 s2.heap.objs.size (.lst [])) { s2 with heap := s2.heap.push { cls := .type "list", data := .seq ([] : List Value).toArray } } := I2.lnew (t' := s2.toks) .nil (Nat.zero_le _)
  obtain ⟨W, ⟨m0, w0⟩, turn⟩ := h2 s2.heap.objs.size I2.fresh
  have hfp3 : ∀ b ∈ fp, FpOk X pins (upd H2 s2.heap.objs.size (.lst [])) b ∧ b < (s2.heap.push { cls := .type "list", data := .seq ([] : List Value).toArray }).objs.size := fun b hb => by
    obtain ⟨o, e, _⟩ := T.obj _ _ st2 b hb
    have hlt := Heap.lt_size e
    obtain ⟨f0, fr⟩ := f2 b hb
    refine ⟨⟨by rw [upd_ne (Nat.ne_of_lt hlt)]; exact f0, fr⟩, ?_⟩
    rw [Heap.size_push]
    exact Nat.lt_succ_of_lt hlt
  generalize hs3 : ({ s2 with heap := s2.heap.push { cls := .type "list", data := .seq ([] : List Value).toArray } } : Shared) = s3 at I3
  have hh3 : s2.heap.push { cls := .type "list", data := .seq ([] : List Value).toArray } = s3.heap := by rw [← hs3]
  rw [hh3] at hfp3
  refine wp_blkEnv ?_
  have I4 := inv_blk I3 B hfp3
  have st4 : tn 0 (pushCells (s3.heap.push { cls := .type "dict", data := .dict #[] }) scope.names) := T.keep _ _ _ st2 fun b hb o e => pushCells_keeps _ _ b o (Heap.get?_push_of_some _ (by rw [← hh3]; exact Heap.get?_push_of_some _ e))
  have fr4 : ∀ b ∈ fp, upd H2 s2.heap.objs.size (.lst []) b = none := fun b hb => (hfp3 b hb).1.1
  generalize hs4 : ({ s3 with heap := pushCells (s3.heap.push { cls := .type "dict", data := .dict #[] }) scope.names } : Shared) = s4 at I4
  have hh4 : pushCells (s3.heap.push { cls := .type "dict", data := .dict #[] }) scope.names = s4.heap := by rw [← hs4]
  rw [hh4] at st4
  have stat : ∀ {H' : Hp} {pn' : List (Addr × Obj)}, pn' = [] → (∀ b ∈ fp, H' b = none) → ∀ b ∈ fp, FpOk (blkCx X N' scope s3.heap.objs.size (cellsFrom (s3.heap.objs.size + 1) scope.names (closeFrom X.env scope.names [])) s3 (upd H2 s2.heap.objs.size (.lst [])) fp) pn' H' b := fun hp hn b hb => by
    obtain ⟨x1, x2⟩ := I4.ok.exf b hb
    exact ⟨hn b hb, x1, I4.ok.exfs b hb, .inl hb, x2, fun p hp' => by rw [hp] at hp'; exact absurd (show p ∈ ([] : List (Addr × Obj)) from hp') (by simp)⟩
  have loop : ∀ it' : Value, it' = .ref it → codeAny (model X.prog X.w) X.A (.compLoop (.ListComp elt [⟨target, iter, ifs, 0⟩] scope pos) 0 it' (.ref s2.heap.objs.size) (blkEnv scope X.env s3.heap.objs.size (cellsFrom (s3.heap.objs.size + 1) scope.names (closeFrom X.env scope.names []))))
      (compPost (model X.prog X.w) X.A X.xe use Q (.ref s2.heap.objs.size) s3.heap.objs.size) s4 := by
    rintro it' rfl
    refine compLoop_any (fun n s' => ∃ i σ' H', Inv (blkCx X N' scope s3.heap.objs.size (cellsFrom (s3.heap.objs.size + 1) scope.names (closeFrom X.env scope.names [])) s3 (upd H2 s2.heap.objs.size (.lst [])) fp) [] σ' H' s' ∧ tn i s'.heap ∧ (∀ b ∈ fp, H' b = none) ∧ W i n σ' H') ?_ m0 ⟨0, _, _, I4, st4, fr4, w0⟩
    rintro n s5 ⟨i, σ5, H5, I5, st5, fr5, w5⟩
    rcases turn i n σ5 H5 w5 with ⟨stop, q⟩ | ⟨go, step⟩
    · refine thn (T.done (blkCx X N' scope s3.heap.objs.size (cellsFrom (s3.heap.objs.size + 1) scope.names (closeFrom X.env scope.names [])) s3 (upd H2 s2.heap.objs.size (.lst [])) fp) rfl rfl rfl hcalm i [] s5 σ5 H5 (fun _ _ => False) I5 (stat rfl fr5) st5 stop) fun r s6 hzz => ?_
      obtain ⟨hr, I6⟩ := hzz
      subst hr
      have I7 : Inv X pins σ H5 s6 := I3.call' I6.os I6.base I6.hok I6.bare fun b hb => by
        obtain ⟨⟨_, f1, _, f3, f4, f5⟩, _⟩ := hfp3 b hb
        exact ⟨f3, f1, f4, f5⟩
      obtain ⟨m, hn, _⟩ := I6.loc
      have l3 := I3.lt
      refine hpost _ H5 s6 _ m I7 hn I6.free (Nat.ne_of_gt l3) I3.sz (fun x c e z => ?_) (fun p hp z => ?_) q
      · obtain ⟨v, hv⟩ := I3.cell x c e
        have := hv.lt
        rw [z] at this
        exact Nat.lt_irrefl _ this
      · have := Heap.lt_size (I3.pin p hp).1
        rw [z] at this
        exact Nat.lt_irrefl _ this
    · refine thn (T.item (blkCx X N' scope s3.heap.objs.size (cellsFrom (s3.heap.objs.size + 1) scope.names (closeFrom X.env scope.names [])) s3 (upd H2 s2.heap.objs.size (.lst [])) fp) rfl rfl rfl hcalm i [] s5 σ5 H5 (fun _ _ => False) I5 (stat rfl fr5) st5 go) fun r s6 hzz => ?_
      obtain ⟨u, hr, h6⟩ := hzz
      subst hr
      refine thn h6 fun _ s7 hzz => ?_
      obtain ⟨x, H7, I7, r7, y7, st7, fr7⟩ := hzz
      have I7' := I7.pinned (stat rfl fr7) (T.obj _ _ st7)
      refine thn (hg _ _ _ _ _ _ s7 σ5 H7 x u _ I7' r7 (step x H7 y7)) fun _ s8 hzz => ?_
      obtain ⟨σ8, H8, I8, q8⟩ := hzz
      refine thn (hc _ _ _ _ _ _ s8 σ8 H8 _ I8 q8) fun b s9 hzz => ?_
      obtain ⟨H9, I9, q9⟩ := hzz
      have again : ∀ {σ' : St} {H' : Hp} {s' : Shared}, Inv (blkCx X N' scope s3.heap.objs.size (cellsFrom (s3.heap.objs.size + 1) scope.names (closeFrom X.env scope.names [])) s3 (upd H2 s2.heap.objs.size (.lst [])) fp) ([] ++ pinsAt fp s7.heap) σ' H' s' →
          (∃ m', m' < n ∧ W (i + 1) m' σ' H') → ∃ m, m < n ∧ ∃ i σ'' H'', Inv (blkCx X N' scope s3.heap.objs.size (cellsFrom (s3.heap.objs.size + 1) scope.names (closeFrom X.env scope.names [])) s3 (upd H2 s2.heap.objs.size (.lst [])) fp) [] σ'' H'' s' ∧ tn i s'.heap ∧ (∀ b ∈ fp, H'' b = none) ∧ W i m σ'' H'' := fun {σ' H' s'} I' ⟨m', hm, w'⟩ => by
        refine ⟨m', hm, i + 1, σ', H', I'.unpinned, T.keep _ _ _ st7 fun b hb o e => (I'.pin (b, o) (List.mem_append_right _ (List.mem_append_right _ (mem_pinsAt hb e)))).1, fun b hb => ?_, w'⟩
        obtain ⟨o, e, d⟩ := T.obj _ _ st7 b hb
        exact (I'.pin (b, o) (List.mem_append_right _ (List.mem_append_right _ (mem_pinsAt hb e)))).2.1
      cases b with
      | false =>
        rw [if_neg Bool.false_ne_true] at q9 ⊢
        exact again I9 q9
      | true =>
        rw [if_pos rfl] at q9 ⊢
        refine thn (he _ _ _ _ _ _ s9 σ8 H9 _ I9 q9) fun y s10 hzz => ?_
        obtain ⟨vy, H10, I10, r10, ys, hys, hz, q10⟩ := hzz
        refine thn (mt_append _ s10 σ8 H10 (.ref s2.heap.objs.size) [vy] (.ref s2.heap.objs.size) [y] (fun _ H' => H' = upd H10 s2.heap.objs.size (.lst (ys ++ [vy]))) I10 rfl (.cons r10 .nil) ⟨_, ys, vy, rfl, rfl, hys, hz, rfl⟩) fun _ s11 hzz => ?_
        obtain ⟨_, H11, I11, _, e11⟩ := hzz
        subst e11
        exact again I11 q10
  have fin := codeAny_compStart_list (loop _ rfl) (T.self _ 0 s4 _ _ st4 (loop _ rfl))
  exact fin
theorem pe_compG {elt target iter : Expr} {ifs : List Expr} {scope : Scope} {pos : Pos} {wi : TI} {g : TG} {tc : TT} {te : TE} {N' : List Str} {ms : List Nat} {k : Nat} (hcalm : X.calm = true) (hi : PI X target iter wi)
    (B : BlkOk X N' scope ms k) (hg : ∀ C cells s₀ H₀ ex, PG (blkCx X N' scope C cells s₀ H₀ ex) target g) (hc : ∀ C cells s₀ H₀ ex, PTs (blkCx X N' scope C cells s₀ H₀ ex) ifs tc)
    (he : ∀ C cells s₀ H₀ ex, PE (blkCx X N' scope C cells s₀ H₀ ex) elt te) (hs : ∀ x, foldedSetIterable iter X.env x = pure x := by intro _; rfl) :
    PE X (.ListComp elt [⟨target, iter, ifs, 0⟩] scope pos) (tComp wi g tc te ms k) := by
  intro pins s σ H Q I h
  rw [eval_ListComp]
  refine comp_core (use := none) (Qv := Q) hcalm hi B hg hc he hs I h fun D H' s' C m I' hn f0 f1 f3 f4 f5 q => ?_
  exact ⟨m, hn, fun h' sb => ⟨.ref D, H', I'.turned (t' := s'.toks) (fun b o hb e => (sb.2 b hb).trans e) f0 f1 (.inr f3) f4 f5, rfl, q⟩⟩
theorem ps_setC {i : Nat} {x : Str} {px : Pos} {spos : Pos} {elt target iter : Expr} {ifs : List Expr} {scope : Scope} {pos : Pos} {wi : TI} {g : TG} {tc : TT} {te : TE} {N' : List Str} {ms : List Nat} {k : Nat} (hN : X.N.Nodup) (hx : X.N[i]? = some x) (hl : Loc X.env.scope x)
    (hcalm : X.calm = true) (hi : PI X target iter wi) (B : BlkOk X N' scope ms k) (hg : ∀ C cells s₀ H₀ ex, PG (blkCx X N' scope C cells s₀ H₀ ex) target g) (hc : ∀ C cells s₀ H₀ ex, PTs (blkCx X N' scope C cells s₀ H₀ ex) ifs tc)
    (he : ∀ C cells s₀ H₀ ex, PE (blkCx X N' scope C cells s₀ H₀ ex) elt te) (hsw : swapsWith (.ListComp elt [⟨target, iter, ifs, 0⟩] scope pos) (some (.Name x px)) spos.line X.env = pure true := by rfl) (hs : ∀ x, foldedSetIterable iter X.env x = pure x := by intro _; rfl)
    (hf : X.fn x = true ∨ X.env.scope.names.lookup x = some .local := by first | exact .inl rfl | exact .inr rfl | assumption) :
    PS X (.Assign [.Name x px] (.ListComp elt [⟨target, iter, ifs, 0⟩] scope pos) spos) (tAsg (tComp wi g tc te ms k) (gName i)) := by
  intro pins s σ H D I h
  rw [exec_Assign_Name_used _ _ _ _ hsw]
  refine wpAny_bind (wpAny_standAt (wpAny_bind ?_))
  show wpAny _ X.A (do let _ ← comprehension (.ListComp elt [⟨target, iter, ifs, 0⟩] scope pos) scope X.env _ (newList []) false (eval iter X.env) (some (assign (.Name x px) X.env))) _ _ s
  refine wpAny_bind (wpAny_mono (comp_core (use := some (assign (.Name x px) X.env)) (Q := fun _ s' => ∃ σ' H', Inv X pins σ' H' s' ∧ D.nx σ' H') hcalm hi B hg hc he hs I h fun Da H' s' C m I' hn f0 f1 f3 f4 f5 q => ?_)
    (fun _ s' hq => wpAny_pure (wpAny_pure hq)) fun _ _ e => e)
  show wpAny _ X.A (assign (.Name x px) X.env (.ref Da)) _ _ s'
  refine wpAny_assign_Name (store_ok2 I' hN hx hl (v := .ref Da) rfl (fun s'' I'' ⟨b, sb, hb⟩ => ?_) hf)
  have hCb : C ≠ b := by
    rcases hb with z | z
    · rw [z]; exact f1
    · exact fun e => f4 x b z e.symm
  refine ⟨m, hn.sameBut sb hCb, fun h' sb' => ⟨_, H', I''.turned (t' := s''.toks) (fun b o hb e => (sb'.2 b hb).trans e) f0 f1 (.inr f3) f4 f5, q⟩⟩
end
end L2
namespace L2
open PySem PySem.Spec PyProof.Rows
noncomputable def blkB (N : List Str) (lk : Str → Option NameKind) (N' : List Str) (scope : Scope) (ms : List Nat) (k : Nat) : Bool :=
  scope.kind == .function && (scope.names.all fun x => scope.names.lookup x.1 == some x.2) && (scope.names.all fun x => !(x.2 == .free) || lk x.1 == some .cell || lk x.1 == some .free) &&
  N'.length == N.length + k && (N'.take N.length == N) &&
  (List.range N.length).all fun i => ms.contains i || (match N'[i]? with | none => true | some x => match scope.names.lookup x with | some .local => false | some .cell => false | _ => true)
theorem BlkOk.of {X : Cx} {N' : List Str} {scope : Scope} {ms : List Nat} {k : Nat} (h : blkB X.N X.env.kindOf N' scope ms k = true) : BlkOk X N' scope ms k := by
  unfold blkB at h
  simp only [Bool.and_eq_true] at h
  obtain ⟨⟨⟨⟨⟨h1, h2⟩, h3⟩, h4⟩, h5⟩, h6⟩ := h
  have e5 : N'.take X.N.length = X.N := eq_of_beq h5
  refine ⟨eq_of_beq h1, fun x hx => eq_of_beq (List.all_eq_true.mp h2 x hx), fun x hx hk => ?_, eq_of_beq h4, fun i hi => ?_, fun i hi hm x k' e1 e2 hk => ?_⟩
  · have q := List.all_eq_true.mp h3 x hx
    simp only [Bool.or_eq_true] at q
    rcases q with (q | q) | q
    · rw [hk] at q; cases q
    · exact .inl (eq_of_beq q)
    · exact .inr (eq_of_beq q)
  · have q : (N'.take X.N.length)[i]? = N'[i]? := List.getElem?_take_of_lt hi
    rw [e5] at q
    exact q.symm
  · have q := List.all_eq_true.mp h6 i (List.mem_range.mpr hi)
    rw [Bool.or_eq_true] at q
    rcases q with q | q
    · exact absurd (by simpa using q) hm
    · rw [e1] at q
      rcases hk with rfl | rfl | rfl
      · simp only [e2] at q; cases q
      · simp only [e2] at q; cases q
      · rfl
section
variable {K : PySem.W.Frag} {a : Addr} {xs : List V} {g : TG} {tc : TT} {te : TE} {D : Addr} {σ : St} {H : Hp} {Q : VK}
noncomputable def CNext (D : Addr) (n i : Nat) (Pv : Nat → List V → St → Hp → Prop) (σ2 : St) : VK := fun v H6 => ∃ ys, H6 D = some (.lst ys) ∧ ys.length < sizeLine ∧ ∃ m', m' < n - i ∧ (m' = n - (i + 1) ∧ i + 1 ≤ n ∧ ∃ ys', Pv (i + 1) ys' σ2 (upd H6 D (.lst (ys ++ [v]))))
noncomputable def CSkip (n i : Nat) (Pv : Nat → List V → St → Hp → Prop) (σ2 : St) (H5 : Hp) : Prop := ∃ m', m' < n - i ∧ (m' = n - (i + 1) ∧ i + 1 ≤ n ∧ ∃ ys', Pv (i + 1) ys' σ2 H5)
theorem cnext {n i : Nat} {Pv : Nat → List V → St → Hp → Prop} {σ2 : St} {v : V} {H6 : Hp} {ys : List V} (hi : i < n) (h : H6 D = some (.lst ys)) (hz : ys.length ≤ 100000) (p : Pv (i + 1) (ys ++ [v]) σ2 (upd H6 D (.lst (ys ++ [v])))) : CNext D n i Pv σ2 v H6 :=
  ⟨ys, h, smallLt hz, n - (i + 1), Nat.sub_lt_sub_left hi (Nat.lt_succ_self i), rfl, hi, _, p⟩
theorem comp_list (Pv : Nat → List V → St → Hp → Prop) (h0 : Pv 0 [] σ (upd H D (.lst []))) (hl : ∀ i ys σ H, i ≤ xs.length → Pv i ys σ H → SqL K H a xs)
    (hs : ∀ i x ys σ H, xs[i]? = some x → i < xs.length → Pv i ys σ H → g x σ H fun σ2 H4 => tc σ2 H4 fun b H5 => if b = true then te σ2 H5 (CNext D xs.length i Pv σ2) else CSkip xs.length i Pv σ2 H5)
    (hd : ∀ ys σ H, Pv xs.length ys σ H → Q (.ref D) H) :
    CompW (Itl K a) g tc te D Q σ H := by
  refine ⟨fun i m σ H => m = xs.length - i ∧ i ≤ xs.length ∧ ∃ ys, Pv i ys σ H, ⟨xs.length, by simp, Nat.zero_le _, [], h0⟩, ?_⟩
  rintro i m σ H ⟨rfl, hi, ys, p⟩
  have q := hl i ys σ H hi p
  by_cases hlt : i < xs.length
  · refine .inr ⟨⟨xs, xs[i], q, by simp [hlt]⟩, fun x H' y => ?_⟩
    obtain ⟨e, y⟩ := y
    subst e
    exact hs i x ys σ _ (y xs q) hlt p
  · have e : i = xs.length := Nat.le_antisymm hi (Nat.not_lt.mp hlt)
    subst e
    exact .inl ⟨⟨xs, q, Nat.le_refl _⟩, hd ys σ H p⟩
theorem comp_range {lo : Int} {n : Nat} (Pv : Nat → List V → St → Hp → Prop) (h0 : Pv 0 [] σ (upd H D (.lst [])))
    (hs : ∀ i ys σ H, i < n → Pv i ys σ H → g (.int (lo + i)) σ H fun σ2 H4 => tc σ2 H4 fun b H5 => if b = true then te σ2 H5 (CNext D n i Pv σ2) else CSkip n i Pv σ2 H5)
    (hd : ∀ ys σ H, Pv n ys σ H → Q (.ref D) H) :
    CompW (Itr lo n) g tc te D Q σ H := by
  refine ⟨fun i m σ H => m = n - i ∧ i ≤ n ∧ ∃ ys, Pv i ys σ H, ⟨n, by simp, Nat.zero_le _, [], h0⟩, ?_⟩
  rintro i m σ H ⟨rfl, hi, ys, p⟩
  by_cases hlt : i < n
  · refine .inr ⟨hlt, fun x H' y => ?_⟩
    obtain ⟨e, y⟩ := y
    subst e y
    exact hs i ys σ _ hlt p
  · have e : i = n := Nat.le_antisymm hi (Nat.not_lt.mp hlt)
    subst e
    exact .inl ⟨Nat.le_refl _, hd ys σ H p⟩
end
end L2
namespace Sr
open PySem PyProof.Rows
noncomputable def Tells (prog : Program) (w : World) (A : Around) (s : Shared) (κ : KeyKind) (kd : SortKind) : Prop :=
  ∀ (E : Value → Shared → Prop) (x y : Value) (a b : κ.α) (Q : Bool → Shared → Prop), κ.keyOf x = some a → κ.keyOf y = some b → Q (κ.blt a b) s → wpAny (model prog w) A (keyLt' kd x y) Q E s
structure Stays (kd : SortKind) (o : Array Keyed) (st : SortSt) : Prop where
  pm : (arrOf st).Perm o
  kn : kindOf st = kd
  fl : failedOf st = none
  pn : pendingOf st = #[]
section
variable {prog : Program} {w : World} {A : Around} {E : Value → Shared → Prop} {s : Shared} {o : Array Keyed} {κ : KeyKind} {kd : SortKind} {st : SortSt}
theorem Stays.sz (h : Stays kd o st) : (arrOf st).size = o.size := h.pm.size_eq
end
end Sr
namespace Sr
open PySem PyProof.Rows
noncomputable def intsV : List Value → Option (List Int)
  | [] => some []
  | .int n _ :: r => (intsV r).map (n :: ·)
  | _ :: _ => none
theorem intsV_of : ∀ {vs : List Value} {ns : List Int}, IntsAre vs ns → intsV vs = some ns
  | _, _, .nil => rfl
  | _, _, .cons n t h => by
    show (intsV _).map (n :: ·) = _
    rw [intsV_of h]
    rfl
theorem of_intsV : ∀ {vs : List Value} {ns : List Int}, intsV vs = some ns → IntsAre vs ns
  | [], ns, h => by cases h; exact .nil
  | v :: r, ns, h => by
    cases v with
    | int n t =>
      have h' : (intsV r).map (n :: ·) = some ns := h
      cases e : intsV r with
      | none => rw [e] at h'; cases h'
      | some ms =>
        rw [e] at h'
        cases h'
        exact .cons n t (of_intsV e)
    | _ => cases h
noncomputable def tupK (h : Heap) : Value → Option (List Int)
  | .ref a => match h.get? a with
    | some o => match o.data with
      | .seq its _ => intsV its.toList
      | _ => none
    | none => none
  | _ => none
theorem tupK_of {h : Heap} {a : Addr} {its : Array Value} {ns : List Int} (t : IsTup h a its) (i : IntsAre its.toList ns) : tupK h (.ref a) = some ns := by
  obtain ⟨o, e, _, n, d⟩ := t
  unfold tupK
  simp only [e, d]
  exact intsV_of i
theorem of_tupK {h : Heap} {v : Value} {ns : List Int} (k : tupK h v = some ns) : ∃ a o its n, v = .ref a ∧ h.get? a = some o ∧ o.data = .seq its n ∧ IntsAre its.toList ns := by
  cases v with
  | ref a =>
    unfold tupK at k
    cases e : h.get? a with
    | none => simp only [e] at k; cases k
    | some o =>
      simp only [e] at k
      cases d : o.data with
      | seq its n => simp only [d] at k; exact ⟨a, o, its, n, rfl, e, d, of_intsV k⟩
      | _ => simp only [d] at k; cases k
  | _ => cases k
theorem lex_irrefl : ∀ a : List Int, HT.lexLt a a = false
  | [] => rfl
  | x :: xs => by rw [HT.lexLt_cons, if_pos rfl]; exact lex_irrefl xs
theorem lex_trans : ∀ a b c : List Int, HT.lexLt a b = true → HT.lexLt b c = true → HT.lexLt a c = true
  | [], [], _, h, _ => by cases h
  | [], _ :: _, [], _, h => by cases h
  | [], _ :: _, _ :: _, _, _ => rfl
  | _ :: _, [], _, h, _ => by cases h
  | _ :: _, _ :: _, [], _, h => by cases h
  | x :: xs, y :: ys, z :: zs, h1, h2 => by
    rw [HT.lexLt_cons] at h1 h2 ⊢
    by_cases e1 : x = y
    · subst e1
      rw [if_pos rfl] at h1
      by_cases e2 : x = z
      · subst e2
        rw [if_pos rfl] at h2 ⊢
        exact lex_trans xs ys zs h1 h2
      · rw [if_neg e2] at h2 ⊢
        exact h2
    · rw [if_neg e1] at h1
      have l1 := of_decide_eq_true h1
      by_cases e2 : y = z
      · subst e2
        rw [if_neg e1]
        exact h1
      · rw [if_neg e2] at h2
        have l2 := of_decide_eq_true h2
        rw [if_neg (by (first | lia | omega))]
        exact decide_eq_true (by (first | lia | omega))
theorem lex_total : ∀ a b : List Int, HT.lexLt a b = false → HT.lexLt b a = false → a = b
  | [], [], _, _ => rfl
  | [], _ :: _, h, _ => by cases h
  | _ :: _, [], _, h => by cases h
  | x :: xs, y :: ys, h1, h2 => by
    rw [HT.lexLt_cons] at h1 h2
    by_cases e : x = y
    · subst e
      rw [if_pos rfl] at h1 h2
      rw [lex_total xs ys h1 h2]
    · rw [if_neg e] at h1
      rw [if_neg (Ne.symm e)] at h2
      have l1 := of_decide_eq_false h1
      have l2 := of_decide_eq_false h2
      (first | lia | omega)
theorem lex_neg (a b c : List Int) (h : HT.lexLt a c = true) : HT.lexLt a b = true ∨ HT.lexLt b c = true := by
  cases e1 : HT.lexLt a b with
  | true => exact .inl rfl
  | false =>
    cases e2 : HT.lexLt b c with
    | true => exact .inr rfl
    | false =>
      exfalso
      cases e3 : HT.lexLt b a with
      | true =>
        have := lex_trans b a c e3 h
        rw [e2] at this
        cases this
      | false =>
        rw [lex_total a b e1 e3, e2] at h
        cases h
noncomputable def kT (h : Heap) : KeyKind where
  α := List Int
  blt := HT.lexLt
  irrefl := lex_irrefl
  trans := lex_trans
  negTrans := lex_neg
  total := lex_total
  keyOf := tupK h
  dflt := []
section
variable {prog : Program} {w : World} {A : Around} {E : Value → Shared → Prop} {s : Shared}
theorem keyLt_tup (f : Bool) (x y : Value) : keyLt' (tuples' f) x y = (do
    let xs ← Builtin.List.listItems x
    let ys ← Builtin.List.listItems y
    for ((p, q), i) in (xs.toList.zip ys.toList).zipIdx do
      if !(← eqBool p q) then return ← oneLt' (f && i == 0) p q
    return decide (xs.size < ys.size)) := rfl
theorem one_less {f : Bool} {a b : Int} {t u : Tok} {Q : Bool → Shared → Prop} (q : Q (decide (a < b)) s) : wpAny (model prog w) A (oneLt' f (.int a t) (.int b u)) Q E s := by
  cases f with
  | true => exact oneLt_int q
  | false =>
    rw [oneLt'_eq]
    simp only [Bool.false_eq_true, if_false]
    exact wpAny_bind (HT.rcLt_int A s a t b u prog w E _ (wpAny_truthy_bool q))
theorem tells_tup (f : Bool) : Tells prog w A s (kT s.heap) (tuples' f) := by
  intro E x y a b Q kx ky q
  obtain ⟨ax, ox, ix, nx, rfl, ex, dx, rx⟩ := of_tupK (show tupK s.heap x = some a from kx)
  obtain ⟨ay, oy, iy, ny, rfl, ey, dy, ry⟩ := of_tupK (show tupK s.heap y = some b from ky)
  rw [keyLt_tup]
  refine wpAny_bind (listItems_at ex dx (wpAny_bind (listItems_at ey dy ?_)))
  have zx : ix.size = a.length := by rw [← rx.length]; simp
  have zy : iy.size = b.length := by rw [← ry.length]; simp
  refine wpAny_bind (wpAny_mono (wpAny_forIn_list _ (fun rest (c : Option Bool × PUnit) u => c.1 = none ∧ u = s ∧ ∃ (vs ws : List Value) (ns ms : List Int) (k : Nat), rest = (vs.zip ws).zipIdx k ∧ IntsAre vs ns ∧ IntsAre ws ms ∧ ns.length + iy.size = ms.length + ix.size ∧ HT.lexLt ns ms = HT.lexLt a b)
    (fun (c : Option Bool × PUnit) u => u = s ∧ (c.1 = some (HT.lexLt a b) ∨ (c.1 = none ∧ HT.lexLt a b = decide (ix.size < iy.size)))) ?_ ?_ _ _ ⟨rfl, rfl, ix.toList, iy.toList, a, b, 0, rfl, rx, ry, by (first | lia | omega), rfl⟩) ?_ fun _ _ z => z)
  · rintro ⟨⟨p, p'⟩, i⟩ rest c u ⟨hc, rfl, vs, ws, ns, ms, k, hr, hv, hw, hl, he⟩
    cases hv with
    | nil => rw [List.zip_nil_left] at hr; cases hr
    | cons m t hv' =>
      cases hw with
      | nil => rw [List.zip_nil_right] at hr; cases hr
      | cons m' t' hw' =>
        rw [List.zip_cons_cons, List.zipIdx_cons] at hr
        injection hr with h1 h2
        injection h1 with h3 h4
        injection h3 with h5 h6
        subst h5 h6
        rw [HT.lexLt_cons] at he
        simp only [List.length_cons] at hl
        refine wpAny_bind (SeqAt.EqAt.int_int m t m' t' prog w E _ ?_)
        by_cases e : m = m'
        · subst e
          rw [if_pos rfl] at he
          rw [beq_self_eq_true]
          exact wpAny_pure ⟨rfl, rfl, _, _, _, _, _, h2, hv', hw', by (first | lia | omega), he⟩
        · rw [if_neg e] at he
          have eb : (m == m') = false := beq_eq_false_iff_ne.mpr e
          rw [eb]
          refine wpAny_bind (one_less (wpAny_pure ⟨rfl, .inl ?_⟩))
          rw [he]
  · rintro c u ⟨hc, rfl, vs, ws, ns, ms, k, hr, hv, hw, hl, he⟩
    refine ⟨rfl, .inr ⟨hc, ?_⟩⟩
    rw [← he]
    cases hv with
    | nil =>
      cases hw with
      | nil =>
        simp only [List.length_nil] at hl
        exact (decide_eq_false (by (first | lia | omega))).symm
      | cons m' t' hw' =>
        simp only [List.length_nil, List.length_cons] at hl
        exact (decide_eq_true (by (first | lia | omega))).symm
    | cons m t hv' =>
      cases hw with
      | nil =>
        simp only [List.length_nil, List.length_cons] at hl
        exact (decide_eq_false (by (first | lia | omega))).symm
      | cons m' t' hw' => rw [List.zip_cons_cons, List.zipIdx_cons] at hr; cases hr
  · rintro ⟨c1, c2⟩ u ⟨rfl, h | ⟨h, h'⟩⟩
    · have h : c1 = some (HT.lexLt a b) := h
      subst h
      exact wpAny_pure q
    · have h : c1 = none := h
      subst h
      have q' : Q (HT.lexLt a b) u := q
      rw [h'] at q'
      exact wpAny_pure q'
theorem wp_mapM {β : Type} {f : Value → Sem β} (g : Value → β) : ∀ (l : List Value) (Q : List β → Shared → Prop), (∀ v ∈ l, ∀ Q' : β → Shared → Prop, Q' (g v) s → wpAny (model prog w) A (f v) Q' E s) → Q (l.map g) s → wpAny (model prog w) A (l.mapM f) Q E s
  | [], Q, _, q => by rw [List.mapM_nil]; exact wpAny_pure q
  | v :: l, Q, h, q => by
    rw [List.mapM_cons]
    refine wpAny_bind (h v List.mem_cons_self _ (wpAny_bind (wp_mapM g l _ (fun u hu => h u (List.mem_cons_of_mem _ hu)) (wpAny_pure q))))
noncomputable def Head (h : Heap) (v : Value) : Prop := ∃ (a : Addr) (its : List Value) (n : Int) (t : Tok) (r : List Value), v = .ref a ∧ IsTup h a its.toArray ∧ its = .int n t :: r
noncomputable def headV (h : Heap) : Value → Option Value
  | .ref a => match h.get? a with
    | some o => match o.data with
      | .seq its _ => its[0]?
      | _ => none
    | none => none
  | _ => none
theorem first_tup {v : Value} (H : Head s.heap v) {Q : Option Value → Shared → Prop} (q : Q (headV s.heap v) s) : wpAny (model prog w) A (firstOfTuple' v) Q E s := by
  obtain ⟨a, its, n, t, r, rfl, ht, rfl⟩ := H
  obtain ⟨o, e, c, k, d⟩ := id ht
  have eq : firstOfTuple' (.ref a) = (do
    if (← typeOf (.ref a)) != .type "tuple" then return none
    return (← Builtin.List.listItems (.ref a))[0]?) := rfl
  rw [eq]
  refine wpAny_bind (wpAny_typeOf ht.typeIs ?_)
  rw [if_neg (by decide)]
  refine wpAny_bind (listItems_at e d (wpAny_pure ?_))
  have hq : headV s.heap (.ref a) = ((Value.int n t :: r).toArray)[0]? := by unfold headV; simp only [e, d]
  rw [hq] at q
  exact q
theorem head_some {v : Value} (H : Head s.heap v) : ∃ n t, headV s.heap v = some (.int n t) := by
  obtain ⟨a, its, n, t, r, rfl, ⟨o, e, c, k, d⟩, rfl⟩ := H
  exact ⟨n, t, by unfold headV; simp only [e, d]; rfl⟩
theorem kind_tup {vs : List Value} (H : ∀ v ∈ vs, Head s.heap v) (hne : vs ≠ []) {Q : SortKind → Shared → Prop} (q : Q (tuples' true) s) : wpAny (model prog w) A (keyKind' vs.toArray) Q E s := by
  rw [keyKind'_eq, List.mapM_toArray]
  have hsm : ∀ v ∈ vs, ∃ n t, headV s.heap v = some (.int n t) := fun v hv => head_some (H v hv)
  refine wpAny_bind (m := List.toArray <$> _) (wpAny_bind (wp_mapM (headV s.heap) vs _ (fun v hv Q' q' => first_tup (H v hv) q') (wpAny_pure ?_)))
  have hall : ((vs.map (headV s.heap)).toArray.all fun x => x.isSome) = true := by
    simp only [List.all_toArray, List.all_map, List.all_eq_true]
    intro v hv
    obtain ⟨n, t, e⟩ := hsm v hv
    show (headV s.heap v).isSome = true
    rw [e]
    rfl
  rw [if_pos hall]
  refine wpAny_bind (wpAny_rule ?_)
  rw [oneTypeOnly'_eq]
  have hfm : ((vs.map (headV s.heap)).toArray.filterMap id) = (vs.filterMap (headV s.heap)).toArray := by
    simp [List.filterMap_map]
  rw [hfm, List.mapM_toArray]
  have htys : ∀ v ∈ vs.filterMap (headV s.heap), ∃ n t, v = .int n t := fun v hv => by
    obtain ⟨u, hu, e⟩ := List.mem_filterMap.mp hv
    obtain ⟨n, t, e'⟩ := hsm u hu
    rw [e'] at e
    exact ⟨n, t, (Option.some.inj e).symm⟩
  refine wpAny_bind (wpAny_bind (m := List.toArray <$> _) (wpAny_bind (wp_mapM (fun _ => Value.type "int") (vs.filterMap (headV s.heap)) _ (fun v hv Q' q' => ?_) (wpAny_pure ?_))))
  · obtain ⟨n, t, rfl⟩ := htys v hv
    exact wpAny_typeOf (typeIs_int s n t) q'
  · obtain ⟨v0, r, rfl⟩ := List.exists_cons_of_ne_nil hne
    obtain ⟨n, t, e⟩ := hsm v0 List.mem_cons_self
    have hfc : (v0 :: r).filterMap (headV s.heap) = .int n t :: r.filterMap (headV s.heap) := by rw [List.filterMap_cons, e]
    rw [hfc]
    have e0 : (List.map (fun _ => Value.type "int") (Value.int n t :: r.filterMap (headV s.heap))).toArray[0]? = some (.type "int") := by simp
    have ea : ((List.map (fun _ => Value.type "int") (Value.int n t :: r.filterMap (headV s.heap))).toArray.all fun x => x == Value.type "int") = true := by
      simp only [List.all_toArray, List.all_map, List.all_eq_true]
      intro _ _
      rfl
    rw [e0]
    show wpAny _ _ (pure (if (Array.all _ fun x => x == Value.type "int") = true then some (Value.type "int") else none)) _ _ _
    rw [if_pos ea]
    exact wpAny_pure (wpAny_pure q)
end
end Sr
namespace Sr
open PySem PyProof.Rows
theorem perm_map_inv {α β : Type} {f : α → β} : ∀ {l : List β} {ts : List α}, l.Perm (ts.map f) → ∃ ts' : List α, ts'.Perm ts ∧ l = ts'.map f
  | [], ts, h => by
    have e := h.symm.eq_nil
    exact ⟨[], by rw [List.map_eq_nil_iff.mp e], rfl⟩
  | b :: l, ts, h => by
    have hb : b ∈ ts.map f := h.mem_iff.mp List.mem_cons_self
    obtain ⟨t, ht, rfl⟩ := List.mem_map.mp hb
    obtain ⟨p, r, rfl⟩ := List.append_of_mem ht
    have h2 : (f t :: l).Perm (f t :: (p ++ r).map f) := by
      refine h.trans ?_
      rw [List.map_append, List.map_cons, List.map_append]
      exact List.perm_middle
    obtain ⟨ts', p1, rfl⟩ := perm_map_inv (List.Perm.cons_inv h2)
    exact ⟨t :: ts', (p1.cons t).trans List.perm_middle.symm, rfl⟩
section
variable {prog : Program} {w : World} {A : Around} {E : Value → Shared → Prop} {s : Shared}
end
end Sr
namespace L2
open PySem PySem.Spec PyProof.Rows
noncomputable abbrev TI2 := Addr × List Int
noncomputable def refsV (ts : List TI2) : List V := ts.map fun t => .ref t.1
section
variable {X : Cx}
theorem zip_same {α β : Type} (f : α → β) : ∀ l : List α, (l.map f).zip (l.map f) = l.map fun t => (f t, f t)
  | [] => rfl
  | t :: l => by rw [List.map_cons, List.zip_cons_cons, zip_same f l, List.map_cons]
theorem vals_refs : ∀ {ts : List TI2} {us : List Value}, Vals (refsV ts) us → us = ts.map fun t => Value.ref t.1
  | [], us, r => by cases r; rfl
  | t :: ts, us, r => by
    cases r with
    | cons r1 r2 =>
      have e : _ = Value.ref t.1 := r1
      rw [e, vals_refs r2]
      rfl
theorem vals_of_refs : ∀ ts : List TI2, Vals (refsV ts) (ts.map fun t => Value.ref t.1)
  | [] => .nil
  | t :: ts => .cons rfl (vals_of_refs ts)
end
end L2
namespace L2
open PySem PySem.Spec PyProof.Rows
section
variable {X : Cx}
theorem call_sum (hc : X.calm = true) : CallR X (.builtin "sum") (fun xs H Q => ∃ p ns, xs = [.ref p] ∧ SqL X.K H p (ns.map V.int) ∧ Q (.int (List.sum ns)) H) := by
  intro pins s σ H xs us Q I r h
  obtain ⟨p, ns, rfl, hq, q⟩ := h
  obtain ⟨u, rfl, ru⟩ := vals1 r
  cases ru
  obtain ⟨its, rv, pl, hz⟩ := I.list hq
  have hi : IntsAre its ns := intsAre_of rv
  obtain ⟨zs, e⟩ := (hi.allInts).items
  have hn : numsOf its = ns := hi.numsOf
  refine sum_intListG (I.ok.hd hc) (by rw [← e]; exact pl.isList) fun h' tk t' hk => ⟨.int (List.sum ns), H, I.kept hk, ⟨t', ?_⟩, q⟩
  have e2 : its.toArray.toList = (intItems zs).toList := by rw [e]
  have e3 : numsOf its = numsOf (intItems zs).toList := by rw [← e2]
  rw [nums_intItems] at e3
  rw [preSum_eq, List.take_of_length_le (by simp), ← hn, e3]
end
end L2
namespace L2
open PySem PySem.Spec PyProof.Rows
section
variable {X : Cx} {e st : Expr} {te tst : TE} {pos p2 : Pos}
end
end L2
namespace L2
open PySem PySem.Spec PyProof.Rows
section
variable {X : Cx} (K : PySem.W.Frag) (hK : X.K = K)
include hK
theorem kix_list : IxR X (rIxL K) := by subst hK; exact ix_list
theorem ksl_list : SlR X (rSlL K) := by subst hK; exact sl_list
theorem keqD (hu : X.A.units + 64 < cLine) : OpR X (compareOp .Eq) (rEqD K false) := by subst hK; exact op_eqD hu
theorem kneD (hu : X.A.units + 64 < cLine) : OpR X (compareOp .NotEq) (rEqD K true) := by subst hK; exact op_neD hu
noncomputable def rLen (K : PySem.W.Frag) : List V → Hp → VK → Prop := fun xs H Q => ∃ p ys, xs = [.ref p] ∧ (SqL K H p ys ∨ SqT K H p ys) ∧ Q (.int ys.length) H
theorem klen_seq : CallR X (.builtin "len") (rLen K) := by subst hK; exact call_len_seq
noncomputable def rIsi (K : PySem.W.Frag) : List V → Hp → VK → Prop := fun xs H Q => ∃ x n t b, xs = [x, .ty n] ∧ TyOf K H x t ∧ PySem.W.kitOne K t (.type n) = some b ∧ Q (.bl b) H
theorem kisinst : CallR X (.builtin "isinstance") (rIsi K) := by subst hK; exact call_isinst
noncomputable def rSum (K : PySem.W.Frag) : List V → Hp → VK → Prop := fun xs H Q => ∃ p ns, xs = [.ref p] ∧ SqL K H p (ns.map V.int) ∧ Q (.int (List.sum ns)) H
theorem ksum (hc : X.calm = true) : CallR X (.builtin "sum") (rSum K) := by subst hK; exact call_sum hc
theorem kpi_list {tg l : Expr} {tl : TE} (hl : PE X l tl) : PI X tg l (iList K tl) := by subst hK; exact pi_list hl
theorem kpg_tup {es : List Expr} {k : Nat} {t : TGs} {n : Nat} {pos : Pos} (hc : X.calm = true) (h : PGs X es t) (hn : (assignEach es X.env).length = n := by rfl) (hst : (assignEach es X.env).findIdx? (·.1) = none := by rfl) :
    PG X (.Tuple es k pos) (gTup K n t) := by subst hK; exact pg_tup hc h hn hst
theorem kpe_bm {o e : Expr} {es : List Expr} {to : TE} {t : TA} {name : Str} {apos cpos : Pos} {T id : String} {r : V → List V → Hp → VK → Prop} (pa : PlainAttrs T) (slot : Slot T name id) (hty : typeOf (.builtin id) = pure (.type "method_descriptor")) (hm : MtR X id r) (ho : PE X o to) (ha : PA X (e :: es) t)
    (hbase : attributeBase o name X.env (eval o X.env) = eval o X.env := by rfl)
    (hfew : ((backTo cpos (starEach (e :: es) X.env)).all (fun x => !x.1) && (backToKw cpos (keywordEach [] X.env)).all (fun x => x.1.isSome)
      && decide ((e :: es).length + ([] : List Keyword).length + (if ([] : List Keyword).isEmpty then 0 else 1) < 30)) = true := by rfl)
    (hline : (apos.endLine == cpos.line) = true := by rfl) (hs : starEach (e :: es) X.env = (false, eval e X.env) :: starEach es X.env := by rfl) (hplain : (backTo cpos (starEach es X.env)).any (·.1) = false := by rfl) :
    PE X (.Call (.Attribute o name apos) (e :: es) [] cpos) (tBM K T r to t) := by subst hK; exact pe_bm pa slot hty hm ho ha hbase hfew hline hs hplain
theorem kpe_bm0 {o : Expr} {to : TE} {name : Str} {apos cpos : Pos} {T id : String} {r : V → List V → Hp → VK → Prop} (pa : PlainAttrs T) (slot : Slot T name id) (hty : typeOf (.builtin id) = pure (.type "method_descriptor")) (hm : MtR X id r) (ho : PE X o to)
    (hbase : attributeBase o name X.env (eval o X.env) = eval o X.env := by rfl) (hline : (apos.endLine == cpos.line) = true := by rfl) : PE X (.Call (.Attribute o name apos) [] [] cpos) (tBM0 K T r to) := by
  subst hK; exact pe_bm0 pa slot hty hm ho hbase hline
end
section
variable {X : Cx}
theorem mt_bitlen : MtR X "int.bit_length" (fun x xs H Q => ∃ i : Int, x = .int i ∧ xs = [] ∧ Q (.int (Builtin.Int.intBits i : Nat)) H) := by
  intro pins s σ H x xs v us Q I rx rs h
  obtain ⟨i, rfl, rfl, q⟩ := h
  obtain ⟨t, rfl⟩ := rx
  cases rs
  exact call_int_bit_length ⟨.int (Builtin.Int.intBits i : Nat), H, I.tok _, ⟨_, rfl⟩, q⟩
end
end L2
namespace Mt
open PySem
noncomputable def has (t o : Int) : Bool := decide (∀ k : Nat, k < 7 → o / 2 ^ k % 2 ≤ t / 2 ^ k % 2)
end Mt
namespace Mt
open PySem L2
noncomputable def optV : Option Nat → V
  | none => .non
  | some i => .int i
end Mt
namespace Mt
open PySem L2
noncomputable def TupAt (H : Hp) (x : V) (p : Nat × Option Nat) : Prop := ∃ t, x = .ref t ∧ H t = some (.tup [.int p.1, optV p.2])
theorem TupAt.same {H H' : Hp} {x : V} {p : Nat × Option Nat} (h : TupAt H x p) (s : Same H H') : TupAt H' x p := let ⟨t, e, h⟩ := h; ⟨t, e, s _ _ h⟩
end Mt
namespace Mt
open PySem L2
noncomputable def pc (c : Int) : Int := (([1, 2, 4, 8, 16, 32, 64] : List Int).map fun b => c / b % 2).sum
noncomputable def rk (c : Int) : List Int := [pc c, c]
end Mt
namespace Mt
open PySem L2
theorem teeth_sum' : ∀ c : Fin 128, Builtin.Int.intBits (c.val : Int) ≤ 7 ∧ List.sum ((List.range (Builtin.Int.intBits (c.val : Int))).map fun k => Builtin.bitAnd ((c.val : Int) / 2 ^ k) 1) = pc (c.val : Int) := by decide +kernel
theorem teeth_sum {c : Int} (h0 : 0 ≤ c) (h1 : c < 128) : Builtin.Int.intBits c ≤ 7 ∧ List.sum ((List.range (Builtin.Int.intBits c)).map fun k => Builtin.bitAnd (c / 2 ^ k) 1) = pc c := by
  have h := teeth_sum' ⟨c.toNat, by (first | lia | omega)⟩
  have e : ((c.toNat : Nat) : Int) = c := by (first | lia | omega)
  simpa only [e] using h
noncomputable def Right (rs : List Int) : Prop := rs.Pairwise fun a b => HT.lexLt (rk b) (rk a) = false
theorem lex2 {a b c d : Int} : HT.lexLt [a, b] [c, d] = true ↔ a < c ∨ (a = c ∧ b < d) := by
  show (if a = c then (if b = d then HT.lexLt [] [] else decide (b < d)) else decide (a < c)) = true ↔ _
  by_cases h : a = c
  · rw [if_pos h]
    by_cases h2 : b = d
    · rw [if_pos h2]
      exact ⟨fun z => (nomatch z), fun z => by (first | lia | omega)⟩
    · rw [if_neg h2, decide_eq_true_iff]
      (first | lia | omega)
  · rw [if_neg h, decide_eq_true_iff]
    (first | lia | omega)
theorem right_le {a b : Int} (h : HT.lexLt (rk b) (rk a) = false) : pc a < pc b ∨ (pc a = pc b ∧ a ≤ b) := by
  have q : ¬ (pc b < pc a ∨ (pc b = pc a ∧ b < a)) := fun z => by
    have := lex2.mpr z
    rw [show HT.lexLt [pc b, b] [pc a, a] = false from h] at this
    cases this
  by_cases h1 : pc a < pc b
  · exact .inl h1
  · have h5 : pc a = pc b := Int.le_antisymm (Int.not_lt.mp fun z => q (.inl z)) (Int.not_lt.mp h1)
    exact .inr ⟨h5, Int.not_lt.mp fun z => q (.inr ⟨h5.symm, z⟩)⟩
theorem right_same : ∀ {xs ys : List Int}, xs.Perm ys → Right xs → Right ys → xs = ys
  | [], ys, p, _, _ => p.symm.eq_nil.symm
  | x :: xs, [], p, _, _ => absurd p.length_eq (by simp)
  | x :: xs, y :: ys, p, h1, h2 => by
    have hx : x ∈ y :: ys := p.mem_iff.mp List.mem_cons_self
    have hy : y ∈ x :: xs := p.mem_iff.mpr List.mem_cons_self
    have e : x = y := by
      rcases List.mem_cons.mp hx with e | hx
      · exact e
      · rcases List.mem_cons.mp hy with e | hy
        · exact e.symm
        · have a := right_le ((List.pairwise_cons.mp h2).1 x hx)
          have b := right_le ((List.pairwise_cons.mp h1).1 y hy)
          (first | lia | omega)
    subst e
    rw [right_same (List.Perm.cons_inv p) (List.pairwise_cons.mp h1).2 (List.pairwise_cons.mp h2).2]
end Mt
namespace L2
open PySem PySem.Spec PyProof.Rows
section
variable {X : Cx} {pins : List (Addr × Obj)} {σ : St} {H : Hp} {s : Shared} {h' : Heap}
theorem Inv.adopt {t' : Nat} {l : Addr} {o : HO} (I : Inv X pins σ H s) (k : ∀ b u, b ≠ l → s.heap.get? b = some u → h'.get? b = some u) (hf : FpOk X pins H l)
    (new : ObjOk X.prog X.w (upd H l o) h' l o) : Inv X pins σ (upd H l o) { s with heap := h', toks := t' } := by
  obtain ⟨f0, f1, f2, f3, f4, f5⟩ := hf
  have out : ∀ b, b ∉ [l] → b ≠ l := fun b hb z => hb (by simp [z])
  refine I.step (g' := s.gens) (d' := s.drawn) (ch := [l]) (fun b hb => ?_) (fun b u _ _ hc e _ => k b u (out b hc) e) (fun b u _ _ hc e _ => ⟨u.slots, k b u (out b hc) e⟩)
    (fun b u hc _ n => by rw [upd_ne (out b hc)]; exact n) (fun b u hc e => ⟨u, k b u (out b hc) e⟩) (fun b xs e => by rw [upd_ne (ne_of_none e f0)]; exact e) (fun b u xs e => by rw [upd_ne (ne_of_none e f0)]; exact e)
    (fun b ps e => ⟨#[], by rw [upd_ne (ne_of_none e f0), e]; simp⟩) (fun m hm => ?_) (fun b u e => ?_) I.bare
  · obtain rfl : b = l := by simpa using hb
    exact ⟨f3, f1, f4, f5⟩
  · obtain ⟨ob, es, ep, ho, r⟩ := hm
    exact ⟨ob, es, ep, k _ ob (Ne.symm f1) ho, r⟩
  · by_cases hb : b = l
    · subst hb
      rw [upd_same] at e
      cases e
      exact new
    · rw [upd_ne hb] at e
      refine (I.hok b u e).stay (fun c v hc q => k c v ?_ q) (fun c q => by rw [upd_ne (ne_of_none q f0)]; exact q) fun c xs q => by rw [upd_ne (ne_of_none q f0)]; exact q
      rcases hc with z | z
      · rw [z]; exact hb
      · exact ne_of_none z f0
theorem run_in2 {k : Nat} {f : Addr} {fd : FuncData} {ps : List Str} {sp : Sp} {E' : Value → Shared → Prop} {Q : VK} {us : List Value} {vs : List V} (F : FnOk X.prog X.w X.K X.mg X.base CX0 k f fd ps sp) (hr : Room (k + 2) X.A)
    (hb : Binds X.K fd ps []) (I : Inv X pins σ H s) (r : Vals vs us) (h : sp vs H Q E0) : wpAny (model X.prog X.w) X.A.in1.in1 (call (.ref f) us) (EP X pins σ Q) E' s := by
  have hl : (us ++ []).length = ps.length := by rw [List.append_nil, ← r.length]; exact F.len _ _ _ _ h
  have b := hb s us I.kIn hl
  rw [List.append_nil] at b
  refine wpAny_call (codeAny_mono (F.run X.A.in1.in1 X.stack s H ⟨us, []⟩ us vs Q E0 hr.in1.in1 I.env0.in1.in1 b r h) fun res s' hq => ?_)
  cases res with
  | error e => exact False.elim hq
  | ok fl =>
    cases fl with
    | ret u => exact I.after hq
    | next => exact False.elim hq
    | brk => exact False.elim hq
    | cont => exact False.elim hq
end
theorem zip_get {α β : Type} : ∀ {l : List α} {r : List β} {p : α × β}, p ∈ l.zip r → ∃ j : Nat, l[j]? = some p.1 ∧ r[j]? = some p.2
  | [], _, p, h => by simp at h
  | _ :: _, [], p, h => by simp at h
  | a :: l, b :: r, p, h => by
    rw [List.zip_cons_cons] at h
    rcases List.mem_cons.mp h with rfl | h
    · exact ⟨0, rfl, rfl⟩
    · obtain ⟨j, h1, h2⟩ := zip_get h
      exact ⟨j + 1, by simpa using h1, by simpa using h2⟩
section
variable {X : Cx} {k : Nat} {f : Addr} {fd : FuncData} {ps : List Str} {sp : Sp}
structure KeysAre (key : V → List Int) (H : Hp) (xs : List V) (ts : List Addr) : Prop where
  len : ts.length ≤ xs.length
  at_ : ∀ (j : Nat) t v, ts[j]? = some t → xs[j]? = some v → H t = some (.tup ((key v).map V.int))
theorem zip3 : ∀ (ts : List Addr) (xs : List V) (its : List Value), ts.length = its.length → xs.length = its.length → (ts.map Value.ref).zip its = (ts.zip (xs.zip its)).map fun z => (Value.ref z.1, z.2.2)
  | [], _, _, _, _ => by simp
  | _ :: _, _, [], h, _ => absurd h (by simp)
  | _ :: _, [], _ :: _, _, h => absurd h (by simp)
  | t :: ts, x :: xs, i :: its, h1, h2 => by
    have := zip3 ts xs its (by simpa using h1) (by simpa using h2)
    simp [this]
theorem zip3_mid : ∀ (ts : List Addr) (xs : List V) (its : List Value), ts.length = its.length → xs.length = its.length → (ts.zip (xs.zip its)).map (fun z => z.2.1) = xs
  | [], xs, its, h1, h2 => by
    have e : its.length = 0 := h1.symm
    have e2 : xs = [] := List.eq_nil_of_length_eq_zero (by (first | lia | omega))
    rw [e2]
    rfl
  | _ :: _, _, [], h, _ => absurd h (by simp)
  | _ :: _, [], _ :: _, _, h => absurd h (by simp)
  | t :: ts, x :: xs, i :: its, h1, h2 => by
    have := zip3_mid ts xs its (by simpa using h1) (by simpa using h2)
    simp [this]
theorem zip3_get {ts : List Addr} {xs : List V} {its : List Value} {z : Addr × V × Value} (h : z ∈ ts.zip (xs.zip its)) : ∃ j : Nat, ts[j]? = some z.1 ∧ xs[j]? = some z.2.1 ∧ its[j]? = some z.2.2 := by
  obtain ⟨j, h1, h2⟩ := zip_get h
  refine ⟨j, h1, ?_⟩
  rw [List.getElem?_zip_eq_some] at h2
  exact h2
theorem vals_back : ∀ {xs : List V} {us : List Value} {j : Nat} {u : Value}, Vals xs us → us[j]? = some u → ∃ v, xs[j]? = some v ∧ RelV v u
  | _, _, _, _, .nil, e => by simp at e
  | _, _, 0, _, .cons r _, e => by simp at e; subst e; exact ⟨_, rfl, r⟩
  | _, _, j + 1, u, .cons _ t, e => by
    obtain ⟨v, h1, h2⟩ := vals_back (j := j) (u := u) t (by simpa using e)
    exact ⟨v, by simpa using h1, h2⟩
theorem vals_of_rel : ∀ {xs : List (V × Value)}, (∀ p ∈ xs, RelV p.1 p.2) → Vals (xs.map (·.1)) (xs.map (·.2))
  | [], _ => .nil
  | p :: r, h => .cons (h p List.mem_cons_self) (vals_of_rel fun q hq => h q (List.mem_cons_of_mem _ hq))
end
end L2
namespace L2
open PySem PySem.Spec PyProof.Rows
section
variable {X : Cx} (K : PySem.W.Frag) (hK : X.K = K)
include hK
end
end L2
namespace L2
open PySem PySem.Spec PyProof.Rows
end L2
namespace L2
open PySem PySem.Spec PyProof.Rows
section
variable {X : Cx}
theorem call_rng1 : CallR X (.type "range") (fun xs H Q => ∃ j : Int, xs = [.int j] ∧ ∀ p, H p = none → Q (.ref p) (upd H p (.rng 0 j))) := by
  intro pins s σ H xs us Q I r h
  obtain ⟨j, rfl, q⟩ := h
  obtain ⟨u, rfl, t, rfl⟩ := vals1 r
  exact call_range_1 ⟨.ref s.heap.objs.size, _, I.laid (o := .rng 0 j) (fun b o e => Heap.get?_push_of_some _ e) (Nat.le_refl _) ⟨_, _, _, Heap.get?_push_size _ rfl⟩, rfl, q _ I.fresh⟩
theorem bt_range : bootBuiltins "range" = some (.type "range") := boot_range
end
section
variable {X : Cx} (K : PySem.W.Frag) (hK : X.K = K)
include hK
end
end L2
namespace L2
open PySem PySem.Spec PyProof.Rows
end L2
namespace Mt
open PySem L2
end Mt
namespace L2
open PySem PySem.Spec PyProof.Rows
noncomputable def sg (c : Nat) : Str := ⟨#[c]⟩
section
variable {X : Cx} {tg : Expr}
end
section
variable {X : Cx}
noncomputable def rAll (K : PySem.W.Frag) : List V → Hp → VK → Prop := fun xs H Q => ∃ (p : Addr) (bs : List Bool), xs = [.ref p] ∧ SqL K H p (bs.map V.bl) ∧ Q (.bl (bs.all id)) H
theorem call_all (hc : X.calm = true) : CallR X (.builtin "all") (rAll X.K) := by
  intro pins s σ H xs us Q I r h
  obtain ⟨p, bs, rfl, hq, q⟩ := h
  obtain ⟨u, rfl, ru⟩ := vals1 r
  cases ru
  obtain ⟨its, rv, pl, hz⟩ := I.list hq
  have hl : its.length = bs.length := by rw [← rv.length, List.length_map]
  obtain ⟨ol, hol, hoc⟩ := id pl.isList
  have hlt : p < s.heap.objs.size := Heap.lt_size hol
  refine call_all_walk (wpAny_pyIter_list pl.isList ?_)
  refine ⟨s.heap.objs.size, _, _, _, _, _, fun i => bs.getD i false, rfl, Walks.list (A := X.A.in1) (I.ok.hd hc) s.heap.objs.size p (Nat.ne_of_lt hlt) its.toArray, ⟨⟨_, Heap.get?_push_size _ rfl, rfl, rfl⟩, ol, Heap.get?_push_of_some _ hol, hoc⟩, fun i v s' Q' E' hv hQ => ?_, fun h' tk hk => ?_⟩
  · have hv' : its[i]? = some v := by simpa using hv
    obtain ⟨y, hy, ry⟩ := vals_back rv hv'
    rw [List.getElem?_map] at hy
    cases e : bs[i]? with
    | none => rw [e] at hy; cases hy
    | some b =>
      rw [e] at hy
      have hy' : V.bl b = y := Option.some.inj hy
      subst hy'
      cases ry
      have hQ : Q' (bs.getD i false) s' := hQ
      rw [List.getD_eq_getElem?_getD, e] at hQ
      exact wpAny_truthy_bool hQ
  · have e : (List.range its.toArray.size).all (fun i => bs.getD i false) = bs.all id := by
      rw [List.size_toArray, hl, Bool.eq_iff_iff, List.all_eq_true, List.all_eq_true]
      constructor
      · intro h b hb
        obtain ⟨i, hi, e⟩ := List.getElem_of_mem hb
        have := h i (List.mem_range.mpr hi)
        rw [List.getD_eq_getElem?_getD, List.getElem?_eq_getElem hi, e] at this
        exact this
      · intro h i hi
        have hi := List.mem_range.mp hi
        rw [List.getD_eq_getElem?_getD, List.getElem?_eq_getElem hi]
        exact h _ (List.getElem_mem hi)
    rw [e]
    exact ⟨.bl _, H, I.kept (fun b o e => hk b o (by simp; exact Nat.ne_of_lt (Heap.lt_size e)) (Heap.get?_push_of_some _ e)), rfl, q⟩
end
section
variable {X : Cx} (K : PySem.W.Frag) (hK : X.K = K)
include hK
theorem kall (hc : X.calm = true) : CallR X (.builtin "all") (rAll K) := by subst hK; exact call_all hc
end
end L2
namespace Cs
open PySem L2
structure Row where
  s : Str
  w : Int
  t : Int
  n : Int
noncomputable abbrev rowV (r : Row) : List V := [.str r.s, .int r.w, .int r.t, .int r.n]
noncomputable def RowAt (H : Hp) (v : V) (r : Row) : Prop := ∃ a, v = .ref a ∧ H a = some (.tup (rowV r))
theorem RowAt.same {H H' : Hp} {v : V} {r : Row} (h : RowAt H v r) (s : Same H H') : RowAt H' v r := let ⟨a, e, h⟩ := h; ⟨a, e, s _ _ h⟩
theorem rows_same {H H' : Hp} {xs : List V} {rs : List Row} (h : Paired (RowAt H) xs rs) (s : Same H H') : Paired (RowAt H') xs rs := Paired.mapP h fun _ _ z => z.same s
noncomputable def CaseAt (K : PySem.W.Frag) (H : Hp) (l : Addr) (rs : List Row) : Prop := ∃ xs, SqL K H l xs ∧ Paired (RowAt H) xs rs
theorem CaseAt.same {K : PySem.W.Frag} {H H' : Hp} {l : Addr} {rs : List Row} (h : CaseAt K H l rs) (s : Same H H') : CaseAt K H' l rs := let ⟨xs, h1, h2⟩ := h; ⟨xs, s.seq h1, rows_same h2 s⟩
noncomputable def place (rs : List Row) (x : Str) : Option Nat := rs.findIdx? fun r => decide (r.s = x)
end Cs
namespace L2
open PySem PySem.Spec PyProof.Rows
section
variable {X : Cx}
end
end L2
namespace Mt
open PySem L2
end Mt
namespace Mt
open PySem L2
noncomputable def upto (n : Nat) : List Int := (List.range n).map fun (k : Nat) => (k : Int)
theorem upto_mem {n : Nat} {b : Int} (h : b ∈ upto n) : 0 ≤ b ∧ b < (n : Int) := by
  unfold upto at h
  obtain ⟨k, hk, rfl⟩ := List.mem_map.mp h
  have := List.mem_range.mp hk
  (first | lia | omega)
theorem upto_len (n : Nat) : (upto n).length = n := by
  unfold upto
  rw [List.length_map, List.length_range]
end Mt
namespace Mt
open PySem L2
end Mt
namespace Mt
open PySem L2
theorem two (x : Int) : 0 ≤ x % 2 ∧ x % 2 ≤ 1 := by (first | lia | omega)
noncomputable def sb (p : Bool) : Int := if p then 1 else 0
end Mt
namespace L2
open PySem PySem.Spec PyProof.Rows
noncomputable def Least (g : Nat → Int) (n : Nat) (m : Int) : Prop := (∃ i, i < n ∧ g i = m) ∧ ∀ i, i < n → m ≤ g i
theorem Least.one {g : Nat → Int} : Least g 1 (g 0) := ⟨⟨0, by (first | lia | omega), rfl⟩, fun i hi => by
  have e : i = 0 := by (first | lia | omega)
  subst e
  exact Int.le_refl _⟩
theorem Least.no {g : Nat → Int} {n : Nat} {m : Int} (h : Least g n m) (hl : ¬ g n < m) : Least g (n + 1) m := ⟨by obtain ⟨i, hi, e⟩ := h.1; exact ⟨i, by (first | lia | omega), e⟩, fun i hi => by
  by_cases e : i = n
  · subst e; (first | lia | omega)
  · exact h.2 i (by (first | lia | omega))⟩
section
variable {P : Program} {w : World} {A : Around} {R : Result → Shared → Prop} {it : Addr} {fp wr : List Addr} {n : Nat} {Pr : Nat → Value → Prop} {St : Nat → Heap → Prop}
end
section
variable {P : Program} {w : World} {A : Around} {E : Value → Shared → Prop} {s : Shared}
end
section
variable {X : Cx}
end
section
variable {X : Cx} (K : PySem.W.Frag) (hK : X.K = K)
include hK
end
end L2
namespace L2
open PySem PySem.Spec PyProof.Rows
section
variable {X : Cx} {a b : Expr} {rest : List Expr} {pos : Pos} {ta tb : TE}
end
section
variable {X : Cx} {a b : Expr} {rest : List Expr} {pos : Pos} {ta tb : TE} (K : PySem.W.Frag) (hK : X.K = K)
include hK
end
end L2
namespace Ln
open PySem L2
noncomputable def abc : List Nat := [97, 98, 99, 100, 101, 102]
theorem abc_lay : ∀ c ∈ abc, PyData.canLay0 (.str (sg c)) = true := by decide +kernel
theorem abc_nd : (abc.map sg).Nodup := by decide +kernel
structure AbcCase (rs : List Cs.Row) : Prop where
  sg : (rs.map fun r => r.s) = abc.map sg
  wd : ∀ r ∈ rs, 1 ≤ r.w ∧ r.w ≤ 100
theorem AbcCase.len {rs : List Cs.Row} (h : AbcCase rs) : rs.length = 6 := by
  have := congrArg List.length h.sg
  rwa [List.length_map, List.length_map] at this
theorem AbcCase.nd {rs : List Cs.Row} (h : AbcCase rs) : (rs.map fun r => r.s).Nodup := by rw [h.sg]; exact abc_nd
theorem AbcCase.place {rs : List Cs.Row} (h : AbcCase rs) {c : Nat} (hc : c ∈ abc) : (Cs.place rs (L2.sg c)).isSome = true := by
  have h1 : L2.sg c ∈ rs.map fun r => r.s := by rw [h.sg]; exact List.mem_map_of_mem hc
  obtain ⟨r, hr, e⟩ := List.mem_map.mp h1
  unfold Cs.place
  rw [List.findIdx?_isSome, List.any_eq_true]
  exact ⟨r, hr, decide_eq_true e⟩
theorem AbcCase.lay {rs : List Cs.Row} (h : AbcCase rs) : ∀ r ∈ rs, PyData.canLay0 (.str r.s) = true := fun r hr => by
  have h1 : r.s ∈ rs.map fun r => r.s := List.mem_map_of_mem (f := fun r => r.s) hr
  rw [h.sg] at h1
  obtain ⟨c, hc, e⟩ := List.mem_map.mp h1
  rw [← e]
  exact abc_lay c hc
end Ln
namespace Lns
open PySem L2
noncomputable def LineN (no : Addr) (H : Hp) (v : V) (ws : List Str) : Prop := ∃ p, v = .ref p ∧ p ≠ no ∧ H p = some (.lst (ws.map V.str))
theorem LineN.same {no : Addr} {H H' : Hp} {v : V} {ws : List Str} (h : LineN no H v ws) (s : Same H H') : LineN no H' v ws := let ⟨p, e, n, h⟩ := h; ⟨p, e, n, s _ _ h⟩
end Lns
namespace L2
open PySem PySem.Spec PyProof.Rows
section
variable {M : Model} {A : Around} {E : Value → Shared → Prop} {s : Shared}
noncomputable def Stays (S : List Addr) (ch : List Addr) (h h' : Heap) : Prop := ∀ b o, h.get? b = some o → b ∉ ch → (b ∉ S → h'.get? b = some o) ∧ ∃ sl, h'.get? b = some { o with slots := sl }
theorem Stays.trans {S ch : List Addr} {h h1 h2 : Heap} (x : Stays S ch h h1) (y : Stays S ch h1 h2) : Stays S ch h h2 := fun b o e n => by
  obtain ⟨x1, sl, x2⟩ := x b o e n
  refine ⟨fun hb => ?_, ?_⟩
  · exact (y b o (x1 hb) n).1 hb
  · obtain ⟨_, sl2, y2⟩ := y b _ x2 n
    exact ⟨sl2, y2⟩
theorem dict_mapFields (o : Obj) (f) : (o.mapFields f).dict = o.dict := by
  obtain ⟨c, d, dt, sl⟩ := o
  cases dt <;> rfl
noncomputable def ExcAt (P : Heap → Value → Prop) (h : Heap) (e : Addr) (cls : Value) (dx : Option Addr) : Prop :=
  ∃ oe vs hd, h.get? e = some oe ∧ oe.cls = cls ∧ oe.dict = dx ∧ oe.data = .fields vs ∧ vs[1]? = some hd ∧ P h hd
noncomputable def TbAt (F : Addr → Prop) (e : Addr) (x : Value) (h : Heap) (hd : Value) : Prop := ∃ T oT ts, hd = .ref T ∧ F T ∧ T ≠ e ∧ h.get? T = some oT ∧ oT.data = .fields ts ∧ ts[3]? = some x
theorem note_new {base : Heap} {env : Env} {outer : List Env} {L e : Addr} {oe : Obj} {vs : Array Value} {head : Value} {hadNext : Bool} {Q : Unit → Shared → Prop}
    (hfr : A.frames = some (env :: outer)) (hl : s.heap.FunFrames base (env :: outer)) (hf : env.frame = some L)
    (he : s.heap.get? e = some oe) (hd : oe.data = .fields vs) (hsz : 1 < vs.size)
    (h : ∀ h', s.heap.objs.size ≤ h'.objs.size → Stays ((env :: outer).filterMap (·.frame)) [e] s.heap h' → ExcAt (TbAt (fun b => s.heap.objs.size ≤ b) e (rawInt L)) h' e oe.cls oe.dict → Q () { s with heap := h' }) :
    wpAny M A (do let a ← frameOf env; let pl ← entryPlaceOf L hadNext; let b ← EntryCells.newEntry head a .none (rawInt L) .none pl; setField (.ref e) 1 b) Q E s := by
  have hene : e ∉ (env :: outer).filterMap (·.frame) := fun hm => by
    obtain ⟨_, o, ho, hnf⟩ := hl.mem hm
    rw [he] at ho; injection ho with ho; subst ho; exact hnf vs hd
  refine wpAny_bind (wpAny_frameOf_fun hfr hl hf fun h₁ hs₁ => ?_)
  refine wpAny_bind (wpAny_entryPlaceOf fun pl hpl => ?_)
  unfold EntryCells.newEntry newFields
  refine wpAny_bind (wpAny_newObj_type ?_ (hpl.sizeOk5 _ _ _ _ _))
  have he₁ : h₁.get? e = some oe := (hs₁.2.1 e hene).trans he
  have he₂ := Heap.get?_push_of_some (h := h₁) { cls := .type "traceback", dict := none, data := .fields ([head, .ref L, .none, rawInt L, .none] ++ (if pl.isEmpty then List.replicate 6 Value.none else pl)).toArray } he₁
  refine wpAny_setField he₂ hd hsz ?_
  have hTe : h₁.objs.size ≠ e := Nat.ne_of_gt (Heap.lt_size he₁)
  have hd₃ := Obj.data_mapFields hd (·.setIfInBounds 1 (Value.ref h₁.objs.size))
  have he₃ := Heap.get?_update_self (Obj.mapFields (·.setIfInBounds 1 (Value.ref h₁.objs.size))) he₂ (Obj.isFreed_of_fields hd₃)
  have hT₃ := (Heap.get?_update_other (h₁.push { cls := .type "traceback", dict := none, data := .fields ([head, .ref L, .none, rawInt L, .none] ++ (if pl.isEmpty then List.replicate 6 Value.none else pl)).toArray })
    (Obj.mapFields (·.setIfInBounds 1 (Value.ref h₁.objs.size))) (Ne.symm hTe)).trans (Heap.get?_push_size h₁ rfl)
  have hsz1 : h₁.objs.size = s.heap.objs.size := hs₁.1
  refine h _ ?_ ?_ ?_
  · rw [Heap.size_after_update, Heap.size_push, hsz1]
    exact Nat.le_succ _
  · intro b o hb hn
    have hbe : b ≠ e := fun q => hn (List.mem_singleton.mpr q)
    have keep : ∀ o, h₁.get? b = some o → ((h₁.push { cls := .type "traceback", dict := none, data := .fields ([head, .ref L, .none, rawInt L, .none] ++ (if pl.isEmpty then List.replicate 6 Value.none else pl)).toArray }).update e (Obj.mapFields (·.setIfInBounds 1 (Value.ref h₁.objs.size)))).get? b = some o := fun o hb => by
      rw [Heap.get?_update_other _ _ (Ne.symm hbe)]
      exact Heap.get?_push_of_some _ hb
    refine ⟨fun hS => keep o ((hs₁.2.1 b hS).trans hb), ?_⟩
    obtain ⟨sl, hs⟩ := hs₁.2.2 b o hb
    exact ⟨sl, keep _ hs⟩
  · exact ⟨_, _, .ref h₁.objs.size, he₃, Obj.cls_mapFields _ _, dict_mapFields _ _, hd₃, by simp [hsz], h₁.objs.size, _, _, rfl, Nat.le_of_eq hsz1.symm, hTe, hT₃, rfl, by simp⟩
theorem ExcAt.mono {P P' : Heap → Value → Prop} {h : Heap} {e : Addr} {cls : Value} {dx : Option Addr} (x : ExcAt P h e cls dx) (f : ∀ hd, P h hd → P' h hd) : ExcAt P' h e cls dx :=
  let ⟨oe, vs, hd, a, b, c, d, g, p⟩ := x
  ⟨oe, vs, hd, a, b, c, d, g, f hd p⟩
theorem TbAt.mono {F F' : Addr → Prop} {e : Addr} {x : Value} {h : Heap} {hd : Value} (t : TbAt F e x h hd) (f : ∀ b, F b → F' b) : TbAt F' e x h hd :=
  let ⟨T, oT, ts, a, b, c⟩ := t
  ⟨T, oT, ts, a, f T b, c⟩
noncomputable def HdOk (F : Addr → Prop) (e L : Addr) (h : Heap) (hd : Value) : Prop := hd = .none ∨ TbAt F e .none h hd ∨ TbAt F e (rawInt L) h hd
noncomputable def Recs (F : Addr → Prop) (h : Heap) (ch : List Addr) : Prop := ∀ b ∈ ch, F b ∧ ∃ o vs, h.get? b = some o ∧ o.data = .fields vs
theorem stays_refl (S ch : List Addr) (h : Heap) : Stays S ch h h := fun _ o e _ => ⟨fun _ => e, o.slots, e⟩
theorem note_any {F : Addr → Prop} {base : Heap} {env : Env} {outer : List Env} {L e : Addr} {cls : Value} {dx : Option Addr} {Q : Unit → Shared → Prop}
    (hfr : A.frames = some (env :: outer)) (hl : s.heap.FunFrames base (env :: outer)) (hf : env.frame = some L) (hF : ∀ b, s.heap.objs.size ≤ b → F b) (hFe : F e)
    (hx : ExcAt (HdOk F e L) s.heap e cls dx)
    (h : ∀ h' ch, Recs F s.heap ch → s.heap.objs.size ≤ h'.objs.size → Stays ((env :: outer).filterMap (·.frame)) ch s.heap h' → ExcAt (TbAt F e (rawInt L)) h' e cls dx → Q () { s with heap := h' }) :
    wpAny M A (noteFrame (.ref e) env) Q E s := by
  obtain ⟨oe, vs, hd, he, rfl, rfl, hdt, h1, hp⟩ := hx
  have hsz : 1 < vs.size := (Array.getElem?_eq_some_iff.mp h1).1
  unfold noteFrame
  simp only [hf]
  refine wpAny_bind (wpAny_field he hdt h1 ?_)
  rcases hp with rfl | ⟨T, oT, ts, rfl, hFT, hTe, hT, hdT, h3⟩ | ⟨T, oT, ts, rfl, hFT, hTe, hT, hdT, h3⟩
  · rw [if_neg (by decide)]
    exact note_new hfr hl hf he hdt hsz fun h' hs hst hx => h h' [e] (fun b hb => by rw [List.mem_singleton.mp hb]; exact ⟨hFe, _, _, he, hdt⟩) hs hst (hx.mono fun hd t => t.mono hF)
  · rw [if_pos (show (Value.ref T != Value.none) = true from by simp)]
    refine wpAny_bind (wpAny_field hT hdT h3 ?_)
    rw [if_neg (show ¬ ((Value.none == rawInt L) = true) from by simp [rawInt])]
    refine wpAny_bind (wpAny_setField hT hdT (Array.getElem?_eq_some_iff.mp h3).1 ?_)
    have other : ∀ b, b ≠ T → (s.heap.update T (Obj.mapFields (·.setIfInBounds 3 Value.none))).get? b = s.heap.get? b := fun b hb => Heap.get?_update_other _ _ (Ne.symm hb)
    have noRecord : ∀ b o, s.heap.get? b = some o → (∀ vs, o.data ≠ .fields vs) → b ≠ T := fun b o hb hnf q => by
      rw [q, hT] at hb; injection hb with hb; subst hb; exact hnf ts hdT
    have hsz0 : (s.heap.update T (Obj.mapFields (·.setIfInBounds 3 Value.none))).objs.size = s.heap.objs.size := Heap.size_after_update ..
    refine note_new (s := { s with heap := s.heap.update T (Obj.mapFields (·.setIfInBounds 3 Value.none)) }) hfr (hl.of_keeps fun b o hb hnf => ⟨o, (other b (noRecord b o hb hnf)).trans hb, rfl⟩) hf ((other e (Ne.symm hTe)).trans he) hdt hsz fun h' hs hst hx => ?_
    refine h h' [e, T] (fun b hb => ?_) (Nat.le_trans (Nat.le_of_eq hsz0.symm) hs) (fun b o hb hn => ?_) (hx.mono fun hd t => t.mono fun b hb => hF b (Nat.le_trans (Nat.le_of_eq hsz0.symm) hb))
    · rcases List.mem_cons.mp hb with rfl | hb
      · exact ⟨hFe, _, _, he, hdt⟩
      · rw [List.mem_singleton.mp hb]
        exact ⟨hFT, _, _, hT, hdT⟩
    · have hbT : b ≠ T := fun q => hn (by rw [q]; exact List.mem_cons_of_mem _ List.mem_cons_self)
      exact hst b o ((other b hbT).trans hb) fun q => hn (by rw [List.mem_singleton.mp q]; exact List.mem_cons_self)
  · rw [if_pos (show (Value.ref T != Value.none) = true from by simp)]
    refine wpAny_bind (wpAny_field hT hdT h3 ?_)
    rw [if_pos (by simp)]
    exact wpAny_pure (h s.heap [] (fun b hb => nomatch hb) (Nat.le_refl _) (stays_refl _ _ _) ⟨oe, vs, _, he, rfl, rfl, hdt, h1, T, oT, ts, rfl, hFT, hTe, hT, hdT, h3⟩)
theorem flight_any {F : Addr → Prop} {S : List Addr} {e : Addr} {cls x : Value} {dx : Option Addr} {fr : Option Addr} {Q : Unit → Shared → Prop} (hFe : F e) (hx : ExcAt (TbAt F e x) s.heap e cls dx)
    (h : ∀ h' ch, Recs F s.heap ch → s.heap.objs.size ≤ h'.objs.size → Stays S ch s.heap h' → ExcAt (TbAt F e (fr.elim .none fun f => rawInt f)) h' e cls dx → Q () { s with heap := h' }) :
    wpAny M A (setFlight (.ref e) fr) Q E s := by
  obtain ⟨oe, vs, hd, he, rfl, rfl, hdt, h1, T, oT, ts, rfl, hFT, hTe, hT, hdT, h3⟩ := hx
  unfold setFlight
  refine wpAny_bind (wpAny_field he hdt h1 ?_)
  rw [if_pos (show (Value.ref T != Value.none) = true from by simp)]
  have h3s := (Array.getElem?_eq_some_iff.mp h3).1
  refine wpAny_setField hT hdT h3s (h _ [T] (fun b hb => by rw [List.mem_singleton.mp hb]; exact ⟨hFT, _, _, hT, hdT⟩) (Nat.le_of_eq (Heap.size_after_update ..).symm) (fun b o hb hn => ?_) ?_)
  · have hbT : T ≠ b := fun q => hn (by rw [q]; exact List.mem_cons_self)
    have k := (Heap.get?_update_other s.heap (Obj.mapFields (·.setIfInBounds 3 (fr.elim Value.none fun f => rawInt f))) hbT).trans hb
    exact ⟨fun _ => k, o.slots, k⟩
  · have hdT3 := Obj.data_mapFields hdT (·.setIfInBounds 3 (fr.elim Value.none fun f => rawInt f))
    exact ⟨oe, vs, _, (Heap.get?_update_other _ _ hTe).trans he, rfl, rfl, hdt, h1, T, _, _, rfl, hFT, hTe, Heap.get?_update_self _ hT (Obj.isFreed_of_fields hdT3), hdT3, by simp [h3s]⟩
end
noncomputable def Fr0 (X : Cx) (H : Hp) (b : Addr) : Prop := X.s₀.heap.objs.size ≤ b ∧ H b = none ∧ ∀ p ∈ X.pn, p.1 ≠ b
section
variable {X : Cx} {pins : List (Addr × Obj)} {σ : St} {H : Hp} {s : Shared}
theorem hok_ex {P : Program} {w : World} {H : Hp} {h h' : Heap} (hok : HOk P w H h) (k : ∀ b o, h.get? b = some o → H b ≠ none → h'.get? b = some o) : HOk P w H h' := fun a o e =>
  (hok a o e).stay (fun b u hb q => k b u q (by
    rcases hb with rfl | hb
    · rw [e]; exact fun z => nomatch z
    · rw [hb]; exact fun z => nomatch z)) (fun _ q => q) fun _ _ q => q
theorem Inv.exc {h' : Heap} {ch : List Addr} (I : Inv X [] σ H s) (hr : Recs (Fr0 X H) s.heap ch) (st : Stays (frs X.stack) ch s.heap h') : Inv X [] σ H { s with heap := h' } := by
  have nch : ∀ b, H b ≠ none → b ∉ ch := fun b hb q => hb (hr b q).1.2.1
  have nfr : ∀ b, H b ≠ none → b ∉ frs X.stack := fun b hb q => hb (I.stkFree b q)
  refine Inv.call' (ch := ch) I rfl ⟨fun b o q _ hb hx => (st b o q hx).1 hb, fun b o q _ _ hx => (st b o q hx).2, fun _ _ _ q _ => q, fun b o q hx => ?_, fun _ _ q => q, fun _ _ _ q => q, fun b ps q => ⟨#[], by rw [Array.append_empty]; exact q⟩⟩
    (hok_ex I.hok fun b o q hb => (st b o q (nch b hb)).1 (nfr b hb)) I.bare fun b hb => ?_
  · obtain ⟨sl, z⟩ := (st b o q hx).2
    exact ⟨_, z⟩
  · obtain ⟨⟨h1, h2, h3⟩, o, vs, ho, hd⟩ := hr b hb
    refine ⟨.inr h1, fun q => ?_, fun x c hc q => ?_, fun p hp => ?_⟩
    · obtain ⟨m, ⟨o2, es, ep, ho2, hd2, _⟩, _⟩ := I.loc
      rw [← q, ho] at ho2
      cases ho2
      rw [hd] at hd2
      cases hd2
    · obtain ⟨v, o2, ho2, hd2⟩ := I.cell x c hc
      rw [q, ho] at ho2
      cases ho2
      rw [hd] at hd2
      cases hd2
    · rw [List.append_nil] at hp
      exact h3 p hp
end
noncomputable def Fly (X : Cx) (E : St → XK) (ev : Value) (s : Shared) : Prop := ∃ e cls dx σ H L, ev = .ref e ∧ X.env.frame = some L ∧ Inv X [] σ H s ∧ Fr0 X H e ∧ ExcAt (HdOk (Fr0 X H) e L) s.heap e cls dx ∧ E σ cls dx H
noncomputable abbrev CX1 (P : Program) (w : World) : CXT := fun outer H s E ev s' => ∃ e cls dx H', ev = .ref e ∧ s'.os = s.os ∧ AllBare s'.gens ∧ Un (frs outer) [] H H' s.heap s'.heap ∧ HOk P w H' s'.heap ∧
  (s.heap.objs.size ≤ e ∧ H' e = none) ∧ ExcAt (TbAt (fun b => s.heap.objs.size ≤ b ∧ H' b = none) e .none) s'.heap e cls dx ∧ E cls dx H'
section
variable {X : Cx} {pins : List (Addr × Obj)} {σ : St} {H : Hp} {s : Shared}
theorem Inv.nopins (I : Inv X pins σ H s) : Inv X [] σ H s := ⟨I.ok, I.os, I.bare, I.base, I.loc, I.cell, I.free, I.freeC, fun p hp => I.pin p (List.mem_append_left _ (by rwa [List.append_nil] at hp)), I.hok, I.len⟩
theorem Inv.pnlt (I : Inv X pins σ H s) {b : Addr} (h : s.heap.objs.size ≤ b) : ∀ p ∈ X.pn, p.1 ≠ b := fun p hp q => by
  have := Heap.lt_size (I.pin p (List.mem_append_left _ hp)).1
  exact absurd (Nat.lt_of_lt_of_le this h) (by rw [q]; exact Nat.lt_irrefl _)
theorem Inv.fr0 (I : Inv X pins σ H s) {b : Addr} (h : s.heap.objs.size ≤ b) : Fr0 X H b := ⟨Nat.le_trans I.sz h, I.hok.fresh h, I.pnlt h⟩
theorem fly_note {E : St → XK} {A : Around} {M : Model} {ev : Value} {N : Value → Shared → Prop} {Q : Unit → Shared → Prop} (hA : A.frames = some X.stack) (hst : X.stack = X.env :: X.outer) (h : Fly X E ev s)
    (q : ∀ h' e cls dx σ H L, ev = .ref e → X.env.frame = some L → Inv X [] σ H { s with heap := h' } → Fr0 X H e → ExcAt (TbAt (Fr0 X H) e (rawInt L)) h' e cls dx → E σ cls dx H → Q () { s with heap := h' }) :
    wpAny M A (noteFrame ev X.env) Q N s := by
  obtain ⟨e, cls, dx, σ, H, L, rfl, hL, I, he, hx, hE⟩ := h
  have hl := I.stack
  rw [hst] at hA hl
  refine note_any hA hl hL (fun b hb => I.fr0 hb) he hx fun h' ch hr hs st hx' => ?_
  exact q h' e cls dx σ H L rfl hL (I.exc hr (by rw [hst]; exact st)) he hx' hE
theorem fly_mark {A : Around} {M : Model} {N : Value → Shared → Prop} {Q : Unit → Shared → Prop} {e : Addr} {cls x : Value} {dx fr : Option Addr} (I : Inv X [] σ H s) (he : Fr0 X H e)
    (hx : ExcAt (TbAt (Fr0 X H) e x) s.heap e cls dx) (q : ∀ h', Inv X [] σ H { s with heap := h' } → ExcAt (TbAt (Fr0 X H) e (fr.elim .none fun f => rawInt f)) h' e cls dx → Q () { s with heap := h' }) :
    wpAny M A (setFlight (.ref e) fr) Q N s :=
  flight_any (S := frs X.stack) he hx fun h' _ hr _ st hx' => q h' (I.exc hr st) hx'
theorem PSs.wishTo {E' : Value → Shared → Prop} {st : List Stmt} {t : TS} (h : PSs (X.wish E') st t) (hE : ∀ e s, E' e s → X.xe e s) : PSs X st t := fun pins s σ H D I hw =>
  wpAny_mono (h pins s σ H D (I.wish _) hw) (fun _ _ q => q.unwish) hE
end
noncomputable def tCallS (sp : Sp) (E : St → XK) (t : TA) : TE := fun σ H Q => t σ H fun vs H1 => sp vs H1 Q (E σ)
section
variable {X : Cx} {k : Nat} {f L : Addr} {fd : FuncData} {ps : List Str} {sp : Sp} {E : St → XK} {x : Str} {p pos : Pos} {e : Expr} {es : List Expr} {t : TA}
theorem run_fnX {pins : List (Addr × Obj)} {σ : St} {H : Hp} {s : Shared} {Q : VK} {us : List Value} {vs : List V} (hL : X.env.frame = some L) (F : FnOk X.prog X.w X.K X.mg X.base (CX1 X.prog X.w) k f fd ps sp) (hr : Room k X.A) (hb : Binds X.K fd ps [])
    (I : Inv (X.wish (Fly X E)) pins σ H s) (r : Vals vs us) (h : sp vs H Q (E σ)) : wpAny (model X.prog X.w) X.A (call (.ref f) us) (EP (X.wish (Fly X E)) pins σ Q) (Fly X E) s := by
  have hl : (us ++ []).length = ps.length := by rw [List.append_nil, ← r.length]; exact F.len _ _ _ _ h
  have hb0 := hb s us I.kIn hl
  rw [List.append_nil] at hb0
  refine wpAny_call (codeAny_mono (F.run X.A X.stack s H ⟨us, []⟩ us vs Q (E σ) hr I.env0 hb0 r h) fun r s' hq => ?_)
  cases r with
  | error ev =>
    have hq : CX1 X.prog X.w X.stack H s (E σ) ev s' := hq
    obtain ⟨e, cls, dx, H', rfl, os, bare, un, hok, ⟨h1, h2⟩, hx, hE⟩ := hq
    have I0 := I.unwish
    have I1 : Inv X pins σ H' s' := I0.call' (ch := []) os un hok bare fun b z => absurd z (by simp)
    exact ⟨e, cls, dx, σ, H', L, rfl, hL, I1.nopins, ⟨Nat.le_trans I0.sz h1, h2, I0.pnlt h1⟩, hx.mono fun hd t => .inr (.inl (t.mono fun b hb => ⟨Nat.le_trans I0.sz hb.1, hb.2, I0.pnlt hb.1⟩)), hE⟩
  | ok fl =>
    cases fl with
    | ret u => exact I.after hq
    | next => exact False.elim hq
    | brk => exact False.elim hq
    | cont => exact False.elim hq
theorem pe_callX (hL : X.env.frame = some L) (F : FnOk X.prog X.w X.K X.mg X.base (CX1 X.prog X.w) k f fd ps sp) (hr : Room k X.A) (hg : Gl X x) (hm : X.mg x = some (.ref f)) (hk : PySem.W.keepIn X.K (.ref f) = true) (hb : Binds X.K fd ps [])
    (ha : PA (X.wish (Fly X E)) (e :: es) t) (hdb : (x == ("__debug__" : Str)) = false := by decide) (he : starEach (e :: es) X.env = (false, eval e X.env) :: starEach es X.env := by rfl) (hpl : (backTo pos (starEach es X.env)).any (·.1) = false := by rfl) :
    PE (X.wish (Fly X E)) (.Call (.Name x p) (e :: es) [] pos) (tCallS sp E t) := by
  intro pins s σ H Q I h
  refine wpAny_Call_Name_kw (ld_glob I hg hm ?_ hdb)
  refine PySem.W.callWith_K (h₀ := X.base) I.ok.mod.kin hk (thn (ha pos pins s σ H _ I h) fun us s1 ⟨vs, H1, I1, r, q⟩ => ⟨I1.kIn, ?_⟩) he hpl
  exact run_fnX hL F hr hb I1 r q
end
section
variable {P : Program} {w : World} {K : PySem.W.Frag} {mg : Str → Option Value} {base : Heap}
noncomputable abbrev cxF (P : Program) (w : World) (K : PySem.W.Frag) (mg : Str → Option Value) (base : Heap) (N : List Str) (qual : Str) (scope : Scope) (f : Addr) (cd : Value) (A : Around) (outer : List Env) (s : Shared) (H : Hp) (E : XK) : Cx :=
  (cxOf (CX1 P w) P w K mg base N qual scope f cd A outer s H E).wish (Fly (cxOf (CX1 P w) P w K mg base N qual scope f cd A outer s H E) fun _ => E)
theorem fly_leaves {N : List Str} {qual : Str} {scope : Scope} {f : Addr} {cd : Value} {A : Around} {outer : List Env} {s : Shared} {H : Hp} {E : XK} :
    ∀ ev s', Fly (cxOf (CX1 P w) P w K mg base N qual scope f cd A outer s H E) (fun _ => E) ev s' → (cxOf (CX1 P w) P w K mg base N qual scope f cd A outer s H E).xe ev s' := by
  intro ev s' h
  show wpAny (model P w) (A.deeper (envOfC qual scope s.heap.objs.size f cd)) (leaving (envOfC qual scope s.heap.objs.size f cd) ev) _ _ s'
  unfold leaving
  refine wpAny_bind (fly_note (X := cxOf (CX1 P w) P w K mg base N qual scope f cd A outer s H E) (let ⟨_, _, _, _, _, _, _, _, I, _⟩ := h; I.ok.frames) rfl h fun h' e cls dx σ H1 L hev hL I he hx hE => ?_)
  subst hev
  refine fly_mark (s := { s' with heap := h' }) (fr := none) I he hx fun h2 I2 hx2 => ?_
  exact ⟨e, cls, dx, H1, rfl, I2.os, I2.bare, I2.base, I2.hok, ⟨he.1, he.2.1⟩, hx2.mono fun hd t => t.mono fun b hb => ⟨hb.1, hb.2.1⟩, hE⟩
theorem Fun.okX {x qual : Str} {st : Stmt} {f : Addr} {fd : FuncData} {N ps : List Str} {k : Nat} {sp : Sp} (F : Fun K x qual st f fd) (S : FnScope N ps (defScope st)) (len : ∀ vs H Q E, sp vs H Q E → vs.length = ps.length)
    (hbody : ∀ (cdv : Value) (A : Around) (outer : List Env) (s : Shared) (H : Hp) (vs : List V) (Q : VK) (E : XK), Room k (A.deeper (envOfC qual (defScope st) s.heap.objs.size f cdv)) → sp vs H Q E →
      ∃ t, PSs (cxF P w K mg base N qual (defScope st) f cdv A outer s H E) (defBody st) t ∧ t { nx := fun _ H' => Q .non H', rt := Q } (start N vs) H) : FnOk P w K mg base (CX1 P w) (k + 1) f fd ps sp := by
  obtain ⟨oc, od, kV, doc, pm, an, cdv, ct, osl, rfl, lk, hcd⟩ := F.ex
  refine fn_of lk hcd S len fun A outer s H vs Q E hr hsp => ?_
  obtain ⟨t, h, q⟩ := hbody cdv A outer s H vs Q E hr hsp
  exact ⟨t, h.wishTo fly_leaves, q⟩
end
end L2
namespace L2
open PySem PySem.Spec PyProof.Rows PySem.W PySem.Calls
noncomputable abbrev bmV : List Value := [.type "ValueError", .type "Exception", .type "BaseException", .type "object"]
section
variable {prog : Program} {w : World} {A : Around} {R : Result → Shared → Prop} {h : Heap} {g : Array GenState} {d : Drawn} {t : Nat} {os : OsState}
variable {nm q : Str} {C N : Addr} {bs bm : List Value} {hdct : Bool} {sn : List Str} {sub : List Value} {ab : Bool} {col : Option Bool} {dd : Option Addr} {k0 k1 k2 k3 k5 : Option Value}
noncomputable abbrev excObj (C : Addr) (t : Addr) (dx : Option Addr) : Obj := { cls := .ref C, dict := dx, data := .fields #[.ref t, .none, .none, .none, .bool false, .none] }
end
theorem ns_some_of {K : PySem.W.Frag} {h : Heap} {N : Addr} {mg : Str → Option Value} {n : Str} {v : Value} (X : K.In h) (G : h.Ns N mg) (e : nsIn K N n = some (some v)) : mg n = some v := by
  obtain ⟨o, es, ep, ho, hd, _, hf⟩ := G
  unfold nsIn at e
  split at e
  · rename_i c d es' n' sl q
    have := X _ _ q
    rw [ho] at this
    cases this
    cases hd
    split at e
    · rename_i en he
      cases e
      rw [← hf]
      unfold nsFind findBy
      rw [← Array.find?_toList, he]
      rfl
    · split at e <;> cases e
  · cases e
noncomputable def xclsIn (K : PySem.W.Frag) (C : Addr) (init : Option Addr) : Bool := match K.lookup C with
  | some ⟨.type "type", _, .cls cd, sl⟩ => (match cd.mro, sl.toList with
    | .ref C' :: bm, [_, _, _, _, some (.builtin n), _] => C' == C && n == "ValueError.__new__" && !cd.hasDel && tailIn K bmV bm && nsOkIn K cd.ns && nsIn K cd.ns "__init__" == some (init.map Value.ref)
    | _, _ => false)
  | _ => false
theorem xcls_of {K : PySem.W.Frag} {h : Heap} {C : Addr} {init : Option Addr} (X : K.In h) (q : xclsIn K C init = true) :
    ∃ bm N nm qn bs hd sn sub ab col dd k0 k1 k2 k3 k5 mN, h.get? C = some (excClassObj nm qn C N bs bm hd sn sub ab col dd k0 k1 k2 k3 k5 "ValueError.__new__") ∧ h.Ns N mN ∧ mN "__init__" = init.map Value.ref ∧ OwnTail h bmV bm := by
  unfold xclsIn at q
  split at q
  · rename_i dd cd sl ho
    split at q
    · rename_i C' bm k0 k1 k2 k3 n k5 hm hs
      simp only [Bool.and_eq_true, beq_iff_eq, Bool.not_eq_true'] at q
      obtain ⟨⟨⟨⟨⟨rfl, rfl⟩, hdel⟩, ht⟩, hok⟩, hni⟩ := q
      obtain ⟨nm, bs, mro, ns, qn, hd, sn, sub, ab, col, del⟩ := cd
      dsimp only at hm hdel hok hni
      subst hm hdel
      have hsl : sl = #[k0, k1, k2, k3, some (.builtin "ValueError.__new__"), k5] := by
        obtain ⟨l⟩ := sl
        simp only at hs
        rw [hs]
      subst hsl
      have G : h.Ns ns (h.nsMap ns) := .of_isNs (isNs_of_in X hok)
      refine ⟨bm, ns, nm, qn, bs, hd, sn, sub, ab, col, dd, k0, k1, k2, k3, k5, _, X _ _ ho, G, ?_, tail_of_in X ht⟩
      cases init with
      | none => exact ns_none_of X G hni
      | some f => exact ns_some_of X G hni
    · cases q
  · cases q
theorem xcls_same {K : PySem.W.Frag} {h h' : Heap} {C : Addr} {init : Option Addr} (X : K.In h) (X' : K.In h') (q : xclsIn K C init = true) : h'.get? C = h.get? C := by
  unfold xclsIn at q
  split at q
  · rename_i ho
    rw [X _ _ ho, X' _ _ ho]
  · cases q
section
variable {X : Cx} {CX : CXT} {k : Nat} {f C : Addr} {fd : FuncData} {ps : List Str} {sp : Sp} {x m : Str} {p pos apos : Pos} {e o : Expr} {es : List Expr} {ta : TE} {t : TA} {pins : List (Addr × Obj)} {σ : St} {H : Hp} {s : Shared}
end
end L2
namespace L2
open PySem PySem.Spec PyProof.Rows PySem.W PySem.Calls Builtin Builtin.ObjectAttr
section
variable {prog : Program} {w : World} {A : Around} {K : PySem.W.Frag} {C x : Addr} {s : Shared} {R : Result → Shared → Prop}
end
section
variable {X : Cx} {pins : List (Addr × Obj)} {σ : St} {H : Hp} {s : Shared}
end
end L2
namespace L2
open PySem PySem.Spec PyProof.Rows PySem.W PySem.Calls
structure BI (K : PySem.W.Frag) (CB : Addr) : Prop where
  reads : readsIn K CB (.type "type") = true
  find : findCls K (.ref CB) (.type "type") "__init__" = some (.val (.builtin "ValueError.__init__"))
  ga : specialIn K (.ref CB) "__getattribute__" = some (some (.builtin "type.__getattribute__"))
section
variable {X : Cx} {pins : List (Addr × Obj)} {σ : St} {H : Hp} {s : Shared}
noncomputable def tFmt (tv : TE) : TE := fun σ H Q => tv σ H fun v H1 => ∃ i : Int, v = .int i ∧ i.natAbs ≤ 1000000000 ∧ ∀ x : Str, x.length ≤ 2000 → Q (.str x) H1
theorem log_small {n : Nat} (h : n ≤ 1000000000) : n.log2 < 1920 := by
  by_cases h0 : n = 0
  · subst h0
    decide
  · have h1 : n < 2 ^ 30 := Nat.lt_of_le_of_lt h (by decide)
    exact Nat.lt_trans ((Nat.log2_lt h0).mpr h1) (by decide)
theorem pe_fmt {value : Expr} {pos : Pos} {tv : TE} (hv : PE X value tv) : PE X (.FormattedValue value (-1) none pos) (tFmt tv) := by
  intro pins s σ H Q I h
  refine wpAny_FormattedValue_plain (thn (hv pins s σ H _ I h) fun v s1 hzz => ?_)
  obtain ⟨y, H1, I1, ry, i, ey, hi, q⟩ := hzz
  subst ey
  obtain ⟨t, rfl⟩ := ry
  have hl : (Str.ofString (toString i)).length ≤ 2000 := by
    have e := int_text_length_le (k := 1920) (by decide) (log_small hi)
    rw [PySem.ofString_length]
    (first | lia | omega)
  exact wpAny_formatField_int (log_small hi) ⟨.str _, H1, I1.tok _, ⟨_, rfl⟩, q _ hl⟩
end
end L2
namespace L2
open PySem PySem.Spec PyProof.Rows PySem.W PySem.Calls
section
variable {M : Model} {A : Around} {E : Value → Shared → Prop} {env : Env}
variable {nm q : Str} {C N : Addr} {bs bm : List Value} {hdct : Bool} {sn : List Str} {sub : List Value} {ab : Bool} {col : Option Bool} {dd : Option Addr} {k0 k1 k2 k3 k5 : Option Value} {newId : String}
theorem raise_made {s : Shared} {x : Sem Value} {Q : Flow → Shared → Prop} (hbase : bm.contains (.type "BaseException") = true) (hh : A.handled = none)
    (h : wpAny M A x (fun v s₁ => ∃ e t dx, v = .ref e ∧ s₁.heap.get? C = some (excClassObj nm q C N bs bm hdct sn sub ab col dd k0 k1 k2 k3 k5 newId) ∧ s₁.heap.get? e = some (excObj C t dx) ∧ E (.ref e) s₁) E s) :
    wpAny M A (raiseStmt env (some x) none) Q E s := by
  have hcB : (Value.ref C :: bm).contains (.type "BaseException") = true := by rw [List.contains_cons, hbase, Bool.or_true]
  unfold raiseStmt
  refine wpAny_bind (wpAny_mono h (fun v s₁ h₁ => ?_) fun _ _ x => x)
  obtain ⟨e, t, dx, rfl, hC, he, hE⟩ := h₁
  obtain ⟨hp, g, d, tk, os⟩ := s₁
  have he : hp.get? e = some { cls := .ref C, dict := dx, data := .fields #[.ref t, .none, .none, .none, .bool false, .none] } := he
  repeat (first | with_reducible refine wpAny_loadPart_at he ?_ | with_reducible refine wpAny_loadPart_at hC ?_ | (with_reducible refine wpAny_isSubtype_exc hC ?_; rw [hcB]) | wp_step)
  exact wpAny_raiseNew_none hh hE
end
section
variable {prog : Program} {w : World} {A : Around} {E : Value → Shared → Prop} {h : Heap} {g : Array GenState} {d : Drawn} {t : Nat} {os : OsState}
variable {nm q : Str} {C N : Addr} {bs bm : List Value} {hdct : Bool} {sn : List Str} {sub : List Value} {ab : Bool} {col : Option Bool} {dd : Option Addr} {k0 k1 k2 k3 k5 : Option Value}
theorem exc_type_call0 (T : OwnTail h bmV bm) {mN : Str → Option Value} {rest : List Value} {Q : PySem.Fin → Shared → Prop}
    (hC : h.get? C = some (excClassObj nm q C N bs bm hdct sn sub ab col dd k0 k1 k2 k3 k5 "ValueError.__new__")) (hn : h.Ns N mN) (hni : mN "__init__" = none) (hrest : rest.length ≤ sizeLine)
    (hq : ∀ h' t2, (∀ b o, h.get? b = some o → h'.get? b = some o) → h'.get? (h.objs.size + 1) = some (excObj C t2 none) → Q (.done (.ret (.ref (h.objs.size + 1)))) ⟨h', g, d, t, os⟩) :
    wpAny (model prog w) A (Builtin.«type.__call__» ⟨.ref C :: rest, []⟩) Q E ⟨h, g, d, t, os⟩ := by
  have F := PySem.F.excBase_ValueError
  have hBn : bmV.contains (.type "ValueError") = true := by decide
  repeat (first | with_reducible refine wpAny_loadPart_at hC ?_ | with_reducible refine wpAny_madeBy_exc hC ?_ | wp_step)
  refine codeAny_call_builtin_code (Code.quiet_builtin _ F.quiet) (wpAny_check_new_subU F hBn T hC ?_)
  refine codeAny_exc_new_subU F hBn F T hC ?_ hrest
  show wpAny _ _ _ _ _ _
  have hC₁ := Heap.get?_push_of_some { cls := .ref C, data := .fields #[.ref h.objs.size, .none, .none, .none, .bool false, .none] }
    (Heap.get?_push_of_some { cls := .type "tuple", data := .seq rest.toArray } hC)
  have hn₁ : ((h.push { cls := .type "tuple", data := .seq rest.toArray }).push { cls := .ref C, data := .fields #[.ref h.objs.size, .none, .none, .none, .bool false, .none] }).Ns N mN :=
    let ⟨o, es, ep, e, r⟩ := hn; ⟨o, es, ep, Heap.get?_push_of_some _ (Heap.get?_push_of_some _ e), r⟩
  have hget : ((h.push { cls := .type "tuple", data := .seq rest.toArray }).push
      { cls := .ref C, data := .fields #[.ref h.objs.size, .none, .none, .none, .bool false, .none] }).get? (h.objs.size + 1) = some
      { cls := .ref C, data := .fields #[.ref h.objs.size, .none, .none, .none, .bool false, .none] } := by heap_get
  have hcC : (Value.ref C :: bm).contains (.ref C) = true := by simp
  have T₁ := T.keeps (h' := (h.push { cls := .type "tuple", data := .seq rest.toArray }).push { cls := .ref C, data := .fields #[.ref h.objs.size, .none, .none, .none, .bool false, .none] })
    fun b o e => Heap.get?_push_of_some _ (Heap.get?_push_of_some _ e)
  unfold isInstance
  repeat (first | with_reducible refine wpAny_loadPart_at hget ?_ | (with_reducible refine wpAny_isSubtype_exc hC₁ ?_; rw [hcC]) | wp_step)
  show wpAny _ _ (typeLookup (.ref C) _) _ _ _
  refine wpAny_typeLookup_tail hC₁ hn₁ T₁ F.mroIs F.init.lookup ?_
  rw [hni]
  refine wpAny_holding (wpAny_bind (wpAny_of_eq (F.init.bind _) ?_))
  refine wpAny_bind (wpAny_call (codeAny_call_builtin F.init.plain F.initEntry (wpAny_check_init_subU F T₁ hC₁ hget rfl ?_)))
  wp_walk
  refine hq _ (h.objs.size + 2) (fun b o hb => ?_) ?_
  · rw [Heap.get?_update_other _ _ (Nat.ne_of_gt (Nat.lt_succ_of_lt (Heap.lt_size hb)))]
    exact Heap.get?_push_of_some _ (Heap.get?_push_of_some _ (Heap.get?_push_of_some _ hb))
  · rw [Heap.get?_update_self _ (Heap.get?_push_of_some _ hget) rfl]
    simp only [Heap.size_push]
    rfl
theorem call_exc0 (T : OwnTail h bmV bm) {mN : Str → Option Value} {rest : List Value} {Q : Value → Shared → Prop}
    (hC : h.get? C = some (excClassObj nm q C N bs bm hdct sn sub ab col dd k0 k1 k2 k3 k5 "ValueError.__new__")) (hn : h.Ns N mN) (hni : mN "__init__" = none) (hrest : rest.length ≤ sizeLine)
    (hq : ∀ h' t2, (∀ b o, h.get? b = some o → h'.get? b = some o) → h'.get? (h.objs.size + 1) = some (excObj C t2 none) → Q (.ref (h.objs.size + 1)) ⟨h', g, d, t, os⟩) :
    wpAny (model prog w) A (call (.ref C) rest) Q E ⟨h, g, d, t, os⟩ := by
  have f1 := tc_lookup
  have f2 := PySem.tc_bind (.ref C)
  have hT : (⟨h, g, d, t, os⟩ : Shared).TypeIs (.ref C) "type" := ⟨_, hC, rfl⟩
  refine wpAny_call (codeAny_of_tree ?_)
  show wpAny _ _ (callAny (.ref C) _) _ _ _
  repeat (any_goals (first | assumption | with_reducible refine wpAny_loadPart_at hC ?_ | wp_step))
  refine ⟨rfl, ?_⟩
  refine codeAny_call_builtin_at (Code.quiet_builtin _ (by decide +kernel)) entry_typeCall (wpAny_check_type_call_sub hC (exc_type_call0 T hC hn hni hrest fun h' t2 hk hg => ?_))
  exact hq h' t2 hk hg
end
section
variable {X : Cx} {pins : List (Addr × Obj)} {σ : St} {H : Hp} {s : Shared}
noncomputable def tRaise0 (C : Addr) (E : St → XK) (t : TA) : TS := fun _ σ H => t σ H fun vs H1 => vs.length ≤ 10 ∧ E σ (.ref C) none H1
structure MkX0 (K : PySem.W.Frag) (C : Addr) : Prop where
  cls : xclsIn K C none = true
  kp : PySem.W.keepIn K (.ref C) = true
theorem ps_raise0 {E : St → XK} {C L : Addr} {x : Str} {np cpos pos : Pos} {e : Expr} {es : List Expr} {t : TA} (hL : X.env.frame = some L) (hcm : X.calm = true)
    (M : MkX0 X.K C) (hg : Gl X x) (hm : X.mg x = some (.ref C))
    (ha : PA (X.wish (Fly X E)) (e :: es) t) (hdb : (x == ("__debug__" : Str)) = false := by decide) (he : starEach (e :: es) X.env = (false, eval e X.env) :: starEach es X.env := by rfl) (hpl : (backTo cpos (starEach es X.env)).any (·.1) = false := by rfl) :
    PS (X.wish (Fly X E)) (.Raise (some (.Call (.Name x np) (e :: es) [] cpos)) none pos) (tRaise0 C E t) := by
  intro pins s σ H D I h
  obtain ⟨bm, N, nm, qn, bs, hd, sn, sub, ab, col, dd, k0, k1, k2, k3, k5, mN, hC, hn, hni, T⟩ := xcls_of I.kIn M.cls
  have hbase : bm.contains (.type "BaseException") = true := T.hasType (by decide)
  rw [arm_exec_Raise]
  refine wpAny_bind (wpAny_standAt (raise_made (C := C) (nm := nm) (q := qn) (N := N) (bs := bs) (bm := bm) (hdct := hd) (sn := sn) (sub := sub) (ab := ab) (col := col) (dd := dd) (k0 := k0) (k1 := k1) (k2 := k2) (k3 := k3) (k5 := k5) (newId := "ValueError.__new__") hbase (I.ok.hd hcm) ?_))
  show wpAny _ _ (do let v ← eval (.Call (.Name x np) (e :: es) [] cpos) X.env; standAt pos; pure v) _ _ _
  refine wpAny_bind (wpAny_mono (wpAny_Call_Name_kw (ld_glob I hg hm ?_ hdb)) (fun v s₃ h₃ => wpAny_bind (wpAny_standAt (wpAny_pure h₃))) fun _ _ z => z)
  refine PySem.W.callWith_K (h₀ := X.base) I.ok.mod.kin M.kp (thn (ha cpos pins s σ H _ I h) fun us s1 ⟨vs, H1, I1, r, hl, q⟩ => ⟨I1.kIn, ?_⟩) he hpl
  obtain ⟨bm2, N2, nm2, qn2, bs2, hd2, sn2, sub2, ab2, col2, dd2, j0, j1, j2, j3, j5, mN2, hC2, hn2, hni2, T2⟩ := xcls_of I1.kIn M.cls
  have hus : us.length ≤ sizeLine := smallL (by have := r.length; (first | lia | omega))
  obtain ⟨hp, g, d, tk, os⟩ := s1
  refine call_exc0 T2 hC2 hn2 hni2 hus fun h' t2 hk ho2 => ?_
  have I2 : Inv (X.wish (Fly X E)) pins σ H1 ⟨h', g, d, tk, os⟩ := I1.kept (t' := tk) hk
  refine ⟨_, t2, none, rfl, (xcls_same I.kIn I2.kIn M.cls).trans hC, ho2, ?_⟩
  exact ⟨_, .ref C, none, σ, H1, L, rfl, hL, I2.unwish.nopins, I1.unwish.fr0 (Nat.le_succ _), ⟨_, _, .none, ho2, rfl, rfl, rfl, rfl, .inl rfl⟩, q⟩
end
end L2
namespace L2
open PySem PySem.Spec PyProof.Rows PySem.W PySem.Calls
section
variable {M : Model} {A : Around} {E : Value → Shared → Prop} {s : Shared}
theorem find_erase {α : Type} {p : α → Bool} : ∀ {l : List α} {i : Nat}, (∀ x, l[i]? = some x → p x = false) → (l.eraseIdx i).find? p = l.find? p
  | [], _, _ => rfl
  | x :: l, 0, h => by
    have hx := h x rfl
    show l.find? p = (x :: l).find? p
    rw [List.find?_cons, hx]
  | x :: l, i + 1, h => by
    have ih := find_erase (l := l) (i := i) fun y hy => h y (by simpa using hy)
    show (x :: l.eraseIdx i).find? p = (x :: l).find? p
    rw [List.find?_cons, List.find?_cons, ih]
theorem nsDelX {a : Addr} {m} {name : Str} {Q : Bool → Shared → Prop} (hn : s.heap.Ns a m)
    (hQ : ∀ h' m', h'.Ns a m' → (∀ y, y ≠ name → m' y = m y) → Heap.SameBut a s.heap h' → Q (m name).isSome { s with heap := h' }) : wpAny M A (nsDel a name) Q E s := by
  obtain ⟨o, es, ep, ho, hd, hk, hm⟩ := id hn
  have hany : es.any (·.refKey) = false := by
    rw [Array.any_eq_false']; intro e he; obtain ⟨n, t, h⟩ := hk e he; simp [DictEntry.refKey, h]
  have hsome : (m name).isSome = es.any (·.key.isStr name) := by
    rw [← hm name]; simp only [nsFind, findBy, Option.isSome_map]
    rw [Bool.eq_iff_iff]; simp only [Array.find?_isSome, Array.any_eq_true]
    constructor
    · rintro ⟨x, hx, hp⟩; obtain ⟨i, hi, rfl⟩ := Array.mem_iff_getElem.mp hx; exact ⟨i, hi, hp⟩
    · rintro ⟨i, hi, hp⟩; exact ⟨_, Array.getElem_mem hi, hp⟩
  have hhas : nsHas name o = pure (es.any (·.key.isStr name)) := by
    rw [nsHas_eq]; unfold nsHasByArray; rw [hd]
    show (if (es.any fun x => x.key.isStr name) = true then _ else _) = _
    generalize (es.any fun x => x.key.isStr name) = b
    cases b <;> simp [hany]
  unfold nsDel
  refine wpAny_bind (wpAny_loadPart ho ?_)
  rw [hhas]
  refine wpAny_bind (wpAny_pure ?_)
  rw [← hsome]
  cases hmn : (m name).isSome
  · have := hQ s.heap m hn (fun _ _ => rfl) (.refl ..)
    rw [hmn] at this
    exact wpAny_pure this
  · refine wpAny_bind (wpAny_updatePart ho (wpAny_pure ?_))
    have key : ∃ m', (s.heap.update a (Obj.dropName name)).Ns a m' ∧ ∀ y, y ≠ name → m' y = m y := by
      obtain ⟨cl, d, dt, sl⟩ := o
      subst hd
      cases hi : es.findIdx? (·.key.isStr name) with
      | some i =>
        refine ⟨_, ⟨_, _, ep + 1, Heap.get?_update_self _ ho (by simp only [Obj.dropName_eq, Obj.dropNameByArray, hi] <;> rfl), (by simp only [Obj.dropName_eq, Obj.dropNameByArray, hi] <;> rfl), hk.erase i, fun _ => rfl⟩, fun y hy => ?_⟩
        rw [← hm y]
        show nsFind (es.eraseIdxIfInBounds i) y = nsFind es y
        obtain ⟨l⟩ := es
        simp only [nsFind, findBy, List.eraseIdxIfInBounds_toArray, List.find?_toArray, List.findIdx?_toArray] at hi ⊢
        rw [L2.find_erase fun x hx => ?_]
        obtain ⟨hil, hp, _⟩ := List.findIdx?_eq_some_iff_getElem.mp hi
        have ex : l[i] = x := by
          rw [List.getElem?_eq_getElem hil] at hx
          exact Option.some.inj hx
        rw [ex] at hp
        cases hk2 : x.key with
        | str z t =>
          rw [hk2] at hp
          have hz : z = name := by simpa [Value.isStr] using hp
          show (z == y) = false
          rw [hz, beq_eq_false_iff_ne]
          exact fun e => hy e.symm
        | _ => rfl
      | none => exact ⟨_, ⟨_, _, ep, Heap.get?_update_self _ ho (by simp only [Obj.dropName_eq, Obj.dropNameByArray, hi] <;> rfl), (by simp only [Obj.dropName_eq, Obj.dropNameByArray, hi] <;> rfl), hk, fun _ => rfl⟩, fun y _ => hm y⟩
    obtain ⟨m', hm', hy⟩ := key
    have := hQ _ m' hm' hy (Heap.SameBut.update ..)
    rw [hmn] at this
    exact this
theorem nameGoesX {env : Env} {n : Str} {pos : Pos} {m : Str → Option Value} {Q : Unit → Shared → Prop} (hl : env.kindOf n = some .local) (hn : s.heap.Ns env.locals m)
    (hp : (env.scope.kind == .class || (env.scope.kind == .module && env.locals != env.globals)) = false)
    (h : ∀ h' m', h'.Ns env.locals m' → (∀ y, y ≠ n → m' y = m y) → Heap.SameBut env.locals s.heap h' → Q () { s with heap := h', toks := s.toks + 1 }) :
    wpAny M A (do bindName env n .none; unbindBehindTheSuite env n pos) Q E s := by
  refine wpAny_bind (wpAny_bindName (wpAny_storeName_local hl hn (fun h₁ hn₁ hs₁ => ?_) hp))
  unfold unbindBehindTheSuite
  refine wpAny_onRaise ?_
  unfold unbindName
  refine wpAny_bind (wpAny_point (wpAny_bind ?_))
  unfold deleteName
  simp only [hl, hp]
  rw [if_neg (by decide)]
  refine wpAny_bind (nsDelX hn₁ fun h₂ m₂ hn₂ hy hs₂ => ?_)
  simp only [if_true, Option.isSome_some, Bool.not_true, Bool.false_eq_true, if_false]
  exact wpAny_pure (wpAny_point (h h₂ m₂ hn₂ (fun y hyn => by rw [hy y hyn, if_neg hyn]) (hs₁.trans hs₂)))
end
section
variable {X : Cx} {pins : List (Addr × Obj)} {σ : St} {H : Hp} {s : Shared}
theorem gone_ok {M : Model} {A : Around} {E : Value → Shared → Prop} {i : Nat} {x : Str} {pos : Pos} {Q : Unit → Shared → Prop} (I : Inv X pins σ H s) (hN : X.N.Nodup) (hi : X.N[i]? = some x) (hk : X.env.scope.names.lookup x = some .local)
    (h : ∀ s', Inv X pins (σ.set i none) H s' → Q () s') : wpAny M A (do bindName X.env x .none; unbindBehindTheSuite X.env x pos) Q E s := by
  obtain ⟨m, hn, hl⟩ := id I.loc
  have hcls : (X.env.scope.kind == .class || (X.env.scope.kind == .module && X.env.locals != X.env.globals)) = false := by rw [I.ok.kind]; rfl
  have hiσ : i < σ.length := by rw [I.len]; exact (List.getElem?_eq_some_iff.mp hi).1
  have cne := I.cne
  refine nameGoesX hk hn hcls fun h' m' hn' hy hs => ?_
  obtain ⟨oL, _, _, hoL, _⟩ := id hn
  refine h _ ⟨I.ok, I.os, I.bare, ⟨fun b o e n hb hx => ?_, fun b o e n hb hx => ?_, I.base.free, fun b o e hx => ?_, I.base.tups, I.base.frzs, I.base.tbls⟩, ⟨_, hn', fun j y v' e1 e2 e3 => ?_⟩, fun y c e => ?_, I.free, I.freeC, fun p hp => ?_, fun b ob e => ?_, by simpa using I.len⟩
  · exact (hs.2 b (Nat.ne_of_lt (Nat.lt_of_lt_of_le (Heap.lt_size e) I.ok.above))).trans (I.base.keep b o e n hb hx)
  · obtain ⟨sl, e1⟩ := I.base.slot b o e n hb hx
    exact ⟨sl, (hs.2 b (Nat.ne_of_lt (Nat.lt_of_lt_of_le (Heap.lt_size e) I.ok.above))).trans e1⟩
  · obtain ⟨o', e1⟩ := I.base.there b o e hx
    exact ⟨o', (hs.2 b (Nat.ne_of_lt (Nat.lt_of_lt_of_le (Heap.lt_size e) I.ok.above))).trans e1⟩
  · by_cases hj : j = i
    · subst hj
      rw [List.getElem?_set_self hiσ] at e2
      cases e2
    · rw [List.getElem?_set_ne (Ne.symm hj)] at e2
      obtain ⟨u', r', q⟩ := hl j y v' e1 e2 e3
      refine ⟨u', r', ?_⟩
      rcases q with ⟨k, e⟩ | ⟨k, c, e, z⟩
      · refine .inl ⟨k, ?_⟩
        have : y ≠ x := fun e => hj (nodup_ix hN e1 (e ▸ hi))
        rw [hy y this, e]
      · exact .inr ⟨k, c, e, z.sameBut hs (cne y c e)⟩
  · obtain ⟨w', z⟩ := I.cell y c e
    exact ⟨w', z.sameBut hs (cne y c e)⟩
  · obtain ⟨e, n, ne, nf, d⟩ := I.pin p hp
    exact ⟨(hs.2 p.1 ne).trans e, n, ne, nf, d⟩
  · refine (I.hok b ob e).stay (fun c w' hc q => (hs.2 c ?_).trans q) (fun _ q => q) fun _ _ q => q
    rintro rfl
    rcases hc with rfl | hc
    · rw [I.free] at e; cases e
    · rw [I.free] at hc; cases hc
noncomputable abbrev Cx.suite (X : Cx) (e : Addr) : Cx := { X with A := X.A.mark (some (.ref e)), calm := false, xe := fun _ _ => False }
theorem Inv.suite (I : Inv X pins σ H s) (e : Addr) : Inv (X.suite e) pins σ H s :=
  ⟨⟨I.ok.mod, I.ok.kind, I.ok.glob, I.ok.blt, I.ok.above, I.ok.inj, I.ok.has, I.ok.cab, (fun z => nomatch z), I.ok.frames, I.ok.stk, I.ok.exf, I.ok.bs, I.ok.bsz, I.ok.noex, I.ok.exfs, I.ok.funs, I.ok.frf⟩, I.os, I.bare, I.base, I.loc, I.cell, I.free, I.freeC, I.pin, I.hok, I.len⟩
theorem Inv.unsuite {e : Addr} {A : Around} {c : Bool} {xe : Value → Shared → Prop} (hA : A.frames = some X.stack) (hd : c = true → A.handled = none) (I : Inv (X.suite e) pins σ H s) : Inv { X with A := A, calm := c, xe := xe } pins σ H s :=
  ⟨⟨I.ok.mod, I.ok.kind, I.ok.glob, I.ok.blt, I.ok.above, I.ok.inj, I.ok.has, I.ok.cab, hd, hA, I.ok.stk, I.ok.exf, I.ok.bs, I.ok.bsz, I.ok.noex, I.ok.exfs, I.ok.funs, I.ok.frf⟩, I.os, I.bare, I.base, I.loc, I.cell, I.free, I.freeC, I.pin, I.hok, I.len⟩
end
end L2
namespace L2
open PySem PySem.Spec PyProof.Rows PySem.W PySem.Calls
theorem xcls_mro {K : PySem.W.Frag} {h : Heap} {C : Addr} {init : Option Addr} {nm q : Str} {N : Addr} {bs bm : List Value} {hdct : Bool} {sn : List Str} {sub : List Value} {ab : Bool} {col : Option Bool} {dd : Option Addr} {k0 k1 k2 k3 k5 : Option Value} {newId : String}
    (X : K.In h) (hq : xclsIn K C init = true) (hC : h.get? C = some (excClassObj nm q C N bs bm hdct sn sub ab col dd k0 k1 k2 k3 k5 newId)) (v : Value) : mroIn K C v = some ((Value.ref C :: bm).contains v) := by
  unfold xclsIn at hq
  split at hq
  · rename_i ho
    have e := X _ _ ho
    rw [hC] at e
    cases e
    unfold mroIn clsIn
    rw [ho]
    rfl
  · cases hq
section
variable {M : Model} {A : Around} {E : Value → Shared → Prop} {h : Heap} {g : Array GenState} {d : Drawn} {t : Nat} {os : OsState}
theorem match_x {K : PySem.W.Frag} {e C B : Addr} {oe : Obj} {init initB : Option Addr} {b : Bool} {Q : Bool → Shared → Prop} (X : K.In h) (hC : xclsIn K C init = true) (hB : xclsIn K B initB = true) (he : h.get? e = some oe) (hcls : oe.cls = .ref C)
    (hm : mroIn K C (.ref B) = some b) (hq : Q b ⟨h, g, d, t, os⟩) : wpAny M A (excMatches (.ref e) (.ref B)) Q E ⟨h, g, d, t, os⟩ := by
  obtain ⟨bm, N, nm, qn, bs, hd, sn, sub, ab, col, dd, k0, k1, k2, k3, k5, mN, oC, _, _, T⟩ := xcls_of X hC
  obtain ⟨bm2, N2, nm2, qn2, bs2, hd2, sn2, sub2, ab2, col2, dd2, j0, j1, j2, j3, j5, mN2, oB, _, _, T2⟩ := xcls_of X hB
  have hcm : (Value.ref C :: bm).contains (.ref B) = b := by
    have := xcls_mro X hC oC (.ref B)
    rw [hm] at this
    exact (Option.some.inj this).symm
  have hbB : (Value.ref B :: bm2).contains (.type "BaseException") = true := by rw [List.contains_cons, T2.hasType (show bmV.contains (.type "BaseException") = true by decide), Bool.or_true]
  have f := tc_notTuple
  unfold excMatches
  repeat (first | (with_reducible refine wpAny_loadPart_at he ?_; rw [hcls]) | with_reducible refine wpAny_loadPart_at oB ?_ | with_reducible refine wpAny_loadPart_at oC ?_ | (with_reducible refine wpAny_isSubtype_exc oB ?_; rw [hbB]) | (with_reducible refine wpAny_isSubtype_exc oC ?_; rw [hcm]) | wp_step)
  cases b <;> (wp_walk; exact hq)
end
noncomputable abbrev XE (e C : Addr) (dx : Option Addr) : HO := .ext fun h => ∃ o vs, h.get? e = some o ∧ o.cls = .ref C ∧ o.dict = dx ∧ o.data = .fields vs
noncomputable abbrev THd := Ends → St → Value → Option Addr → Hp → Prop
noncomputable def PHs (X : Cx) (hs : List ExceptHandler) (th : THd) : Prop := ∀ (e : Addr) (cls : Value) (dx : Option Addr) (σ : St) (H : Hp) (s : Shared) (D : Ends), Inv X [] σ H s → Fr0 X H e → ExcAt (TbAt (Fr0 X H) e .none) s.heap e cls dx → th D σ cls dx H →
  wpAny (model X.prog X.w) X.A (handleBy (.ref e) X.env hs) (SP X [] D) X.xe s
noncomputable def tNoHd : THd := fun _ _ _ _ _ => False
theorem ph_nil {X : Cx} : PHs X [] tNoHd := fun _ _ _ _ _ _ _ _ _ _ h => h.elim
noncomputable def Dg (i : Nat) (D : Ends) : Ends := { nx := fun σ H => D.nx (σ.set i none) H, rt := D.rt, bk := fun σ H => D.bk (σ.set i none) H, ct := fun σ H => D.ct (σ.set i none) H }
noncomputable def tHd (K : PySem.W.Frag) (B : Addr) (i : Nat) (ts : TS) (tr : THd) : THd := fun D σ cls dx H => ∃ C init b, cls = .ref C ∧ xclsIn K C init = true ∧ mroIn K C (.ref B) = some b ∧
  (if b = true then ∀ e, H e = none → ts (Dg i D) (σ.set i (some (.ref e))) (upd H e (XE e C dx)) else tr D σ cls dx H)
section
variable {X : Cx} {σ : St} {H : Hp} {s : Shared}
theorem Inv.track {e C : Addr} {dx : Option Addr} {o : Obj} {vs : Array Value} (I : Inv X [] σ H s) (he : Fr0 X H e) (ho : s.heap.get? e = some o) (hc : o.cls = .ref C) (hdx : o.dict = dx) (hd : o.data = .fields vs) : Inv X [] σ (upd H e (XE e C dx)) s := by
  obtain ⟨h1, h2, h3⟩ := he
  have hk : ∀ b u, H b = some u → upd H e (XE e C dx) b = some u := fun b u q => by rw [upd_ne (ne_of_none q h2)]; exact q
  have hne : ∀ b, b ≠ e → H b = none → upd H e (XE e C dx) b = none := fun b hb q => by rw [upd_ne hb]; exact q
  have hl : X.env.locals ≠ e := fun q => by
    obtain ⟨m, ⟨o2, es, ep, ho2, hd2, _⟩, _⟩ := I.loc
    rw [q, ho] at ho2
    cases ho2
    rw [hd] at hd2
    cases hd2
  refine ⟨I.ok, I.os, I.bare, ⟨I.base.keep, I.base.slot, fun b u q n hx => hne b (fun z => ?_) (I.base.free b u q n hx), I.base.there, fun b xs q => hk b _ (I.base.tups b xs q), fun b u v q => hk b _ (I.base.frzs b u v q), fun b ps q => ?_⟩, I.loc, I.cell, hne _ hl I.free, fun x c h => hne _ (fun z => ?_) (I.freeC x c h), fun p hp => ?_, fun b u q => ?_, I.len⟩
  · rw [z] at q
    exact absurd (Heap.lt_size q) (Nat.not_lt.mpr h1)
  · obtain ⟨more, z⟩ := I.base.tbls b ps q
    exact ⟨more, hk b _ z⟩
  · obtain ⟨v, o2, ho2, hd2⟩ := I.cell x c h
    rw [z, ho] at ho2
    cases ho2
    rw [hd] at hd2
    cases hd2
  · obtain ⟨p1, p2, p3⟩ := I.pin p hp
    rw [List.append_nil] at hp
    exact ⟨p1, hne _ (h3 p hp) p2, p3⟩
  · by_cases hb : b = e
    · subst hb
      rw [upd_same] at q
      cases q
      refine ⟨⟨o, vs, ho, hc, hdx, hd⟩, ⟨o, ho⟩, ?_⟩
      rintro g1 g2 ⟨o', vs', a1, a2⟩ kk
      exact ⟨o', vs', kk _ a1, a2⟩
    · rw [upd_ne hb] at q
      exact (I.hok b u q).stay (fun _ _ _ z => z) (fun c z => hk c _ z) fun c xs z => hk c _ z
theorem ph_cons {B : Addr} {initB : Option Addr} {x n : Str} {i : Nat} {np hpos : Pos} {b₀ : Stmt} {suite : List Stmt} {rest : List ExceptHandler} {ts : TS} {tr : THd} (hg : Gl X x) (hm : X.mg x = some (.ref B)) (hB : xclsIn X.K B initB = true)
    (hN : X.N.Nodup) (hi : X.N[i]? = some n) (hk : X.env.scope.names.lookup n = some .local) (hsuite : ∀ e, PSs (X.suite e) (b₀ :: suite) ts) (hrest : PHs X rest tr) (hdb : (x == ("__debug__" : Str)) = false := by decide) :
    PHs X (.ExceptHandler (some (.Name x np)) (some n) (b₀ :: suite) hpos :: rest) (tHd X.K B i ts tr) := by
  rintro e cls dx σ H s D I he hx ⟨C, init, b, rfl, hC, hmr, hb⟩
  obtain ⟨oe, vs, hd, ho, hc, hdi, hdt, h1, hT⟩ := id hx
  refine wpAny_handleBy_cons (codeAny_handlers_test (ld_glob (X := X.suite e) (I.suite e) hg hm ?_ hdb)) (by intro q; cases q)
  obtain ⟨hp, g, d, tk, os⟩ := s
  refine match_x I.kIn hC hB ho hc hmr ?_
  cases b with
  | false => exact hrest e (.ref C) dx σ H _ D I he hx hb
  | true =>
    refine codeAny_handlers_suite_as ?_
    refine fly_mark (s := ⟨hp, g, d, tk, os⟩) (fr := none) I he hx fun h2 I2 hx2 => ?_
    obtain ⟨oe2, vs2, hd2, ho2, hc2, hdi2, hdt2, h12, hT2⟩ := id hx2
    have I3 := I2.track he ho2 hc2 hdi2 hdt2
    refine store_ok (v := .ref e) I3 hN hi (.inl hk) rfl (fun s' I4 => ?_) (.inr hk)
    have hb2 := hb e he.2.1
    refine wpAny_mono (hsuite e [] s' (σ.set i (some (.ref e))) _ (Dg i D) (I4.suite e) hb2) (fun f s3 q => ?_) fun _ _ z => z.elim
    cases f with
    | next =>
      obtain ⟨σ', H', I5, q⟩ := q
      exact gone_ok (X := X) (I5.unsuite (X := X) (A := X.A) (c := X.calm) (xe := X.xe) I.ok.frames I.ok.hd) hN hi hk fun s5 I6 => ⟨_, H', I6, q⟩
    | brk =>
      obtain ⟨σ', H', I5, q⟩ := q
      exact gone_ok (X := X) (I5.unsuite (X := X) (A := X.A) (c := X.calm) (xe := X.xe) I.ok.frames I.ok.hd) hN hi hk fun s5 I6 => ⟨_, H', I6, q⟩
    | cont =>
      obtain ⟨σ', H', I5, q⟩ := q
      exact gone_ok (X := X) (I5.unsuite (X := X) (A := X.A) (c := X.calm) (xe := X.xe) I.ok.frames I.ok.hd) hN hi hk fun s5 I6 => ⟨_, H', I6, q⟩
    | ret u =>
      obtain ⟨v, σ', H', I5, r5, q⟩ := q
      exact gone_ok (X := X) (I5.unsuite (X := X) (A := X.A) (c := X.calm) (xe := X.xe) I.ok.frames I.ok.hd) hN hi hk fun s5 I6 => ⟨v, _, H', I6, r5, q⟩
noncomputable abbrev Cx.pinned (X : Cx) (pn : List (Addr × Obj)) : Cx := { X with pn := pn }
theorem Inv.heldP {pins : List (Addr × Obj)} (I : Inv X pins σ H s) : Inv (X.pinned (X.pn ++ pins)) [] σ H s :=
  ⟨⟨I.ok.mod, I.ok.kind, I.ok.glob, I.ok.blt, I.ok.above, I.ok.inj, I.ok.has, I.ok.cab, I.ok.hd, I.ok.frames, I.ok.stk, I.ok.exf, I.ok.bs, I.ok.bsz, I.ok.noex, I.ok.exfs, I.ok.funs, I.ok.frf⟩, I.os, I.bare, I.base, I.loc, I.cell, I.free, I.freeC, fun p hp => I.pin p (by rwa [List.append_nil] at hp), I.hok, I.len⟩
theorem Inv.unheldP {pins : List (Addr × Obj)} (I : Inv (X.pinned (X.pn ++ pins)) [] σ H s) : Inv X pins σ H s :=
  ⟨⟨I.ok.mod, I.ok.kind, I.ok.glob, I.ok.blt, I.ok.above, I.ok.inj, I.ok.has, I.ok.cab, I.ok.hd, I.ok.frames, I.ok.stk, I.ok.exf, I.ok.bs, I.ok.bsz, I.ok.noex, I.ok.exfs, I.ok.funs, I.ok.frf⟩, I.os, I.bare, I.base, I.loc, I.cell, I.free, I.freeC, fun p hp => I.pin p (by rw [List.append_nil]; exact hp), I.hok, I.len⟩
theorem SP.unheldP {pins : List (Addr × Obj)} {D : Ends} {f : Flow} {s' : Shared} (h : SP (X.pinned (X.pn ++ pins)) [] D f s') : SP X pins D f s' := by
  cases f with
  | next => obtain ⟨σ', H', I, q⟩ := h; exact ⟨σ', H', I.unheldP, q⟩
  | brk => obtain ⟨σ', H', I, q⟩ := h; exact ⟨σ', H', I.unheldP, q⟩
  | cont => obtain ⟨σ', H', I, q⟩ := h; exact ⟨σ', H', I.unheldP, q⟩
  | ret u => obtain ⟨v, σ', H', I, r, q⟩ := h; exact ⟨v, σ', H', I.unheldP, r, q⟩
theorem ps_try {body : List Stmt} {h₀ : ExceptHandler} {hs : List ExceptHandler} {pos : Pos} {tb : Ends → TS} {th : THd} (hst : X.stack = X.env :: X.outer) (hb : ∀ D pn, PSs ((X.pinned pn).wish (Fly (X.pinned pn) (th D))) body (tb D)) (hh : ∀ pn, PHs (X.pinned pn) (h₀ :: hs) th) :
    PS X (.Try body (h₀ :: hs) [] [] pos) (fun D σ H => tb D D σ H) := by
  intro pins s σ H D I h
  have I0 := I.heldP
  refine wpAny_Try_except (wpAny_mono (hb D (X.pn ++ pins) [] s σ H D (I0.wish _) h) (fun f s1 q => ?_) fun ev s1 q => ?_)
  · cases f with
    | next =>
      obtain ⟨σ', H', I', q⟩ := q
      exact wpAny_execs_nil ⟨σ', H', I'.unwish.unheldP, q⟩
    | ret v => exact SP.unheldP (SP.unwish q)
    | brk => exact SP.unheldP (SP.unwish q)
    | cont => exact SP.unheldP (SP.unwish q)
  · refine fly_note (X := X.pinned (X.pn ++ pins)) I0.ok.frames hst q fun h' e cls dx σ1 H1 L hev hL I1 he hx hE => ?_
    subst hev
    exact fly_mark (s := { s1 with heap := h' }) (fr := none) I1 he hx fun h2 I2 hx2 => thn (hh (X.pn ++ pins) e cls dx σ1 H1 _ D I2 he hx2 hE) fun f s3 q => SP.unheldP q
end
end L2
namespace L2
open PySem PySem.Spec PyProof.Rows PySem.W PySem.Calls Builtin Builtin.ObjectAttr
structure XG (K : PySem.W.Frag) (C : Addr) : Prop where
  ga : findIn K (.ref C) "__getattribute__" = some (some (.builtin "BaseException.__getattribute__"))
  gt : findIn K (.ref C) "__getattr__" = some none
  be : mroIn K C (.type "BaseException") = some true
  ob : mroIn K C (.type "object") = some true
  cc : findIn K (.ref C) "__class__" = some (some (.builtin "object.__class__"))
  hd : ∃ cd, clsIn K C = some cd ∧ cd.hasDict = true
section
variable {prog : Program} {w : World} {A : Around} {E : Value → Shared → Prop} {s : Shared} {K : PySem.W.Frag} {x C : Addr} {ox : Obj} {od : Option Obj} {name : Str}
theorem slot_bga : Slot "ValueError" "__getattribute__" "BaseException.__getattribute__" := PySem.F.excAttr_ValueError.ga
theorem getx_open {expr fill : Bool} {tk : Tok} {Q : Value → Shared → Prop} (X : K.In s.heap) (I : PySem.W.InstAt s.heap x ox C od) (G : XG K C)
    (h : wpAny (model prog w) A.in1 (Builtin.«object.__getattribute__» ⟨[.ref x, .str name tk], []⟩) (fun fin s' => match fin with | .done (.ret v) => wpAny (model prog w) A (handedOut v) Q E s' | _ => False) (fun _ _ => False) s) :
    wpAny (model prog w) A (getAttrBy (.ref x) (.str name tk) fill expr) Q E s := by
  have hf : (Value.builtin "BaseException.__getattribute__" == Value.builtin "object.__getattribute__") = false := by decide +kernel
  unfold getAttrBy
  refine wpAny_holding (wpAny_bind (I.type.here (wpAny_bind ((looks_findIn X G.ga).here ?_))))
  dsimp only
  rw [hf, Bool.and_false, if_neg (by decide)]
  unfold getAttrByItsOwn
  have hk : Looks (model prog w) s.heap (hookBefore (.ref C)) none := looks_hook X (by rw [if_pos (show onTheHeap (Value.ref C) = true from rfl)]; exact G.gt)
  refine wpAny_bind (hk.here (wpAny_bind (wpAny_attempt (wpAny_holding ?_))))
  unfold callGetattribute
  rw [show (expr && onTheHeap (Value.builtin "BaseException.__getattribute__")) = false from Bool.and_false _, if_neg (by decide)]
  unfold boundAndCalled
  rw [slot_bga.bind]
  refine wpAny_bind (wpAny_pure ?_)
  show wpAny _ _ (call (.builtin "BaseException.__getattribute__") [.ref x, .str name tk]) _ _ _
  refine wpAny_call (codeAny_call_builtin slot_bga.plain PySem.F.entry_bexc_ga ?_)
  refine @check_slot (model prog w) _ _ s "BaseException.__getattribute__" "BaseException" "__getattribute__" (.ref x) [.str name tk] [] _ (by decide +kernel) (by decide +kernel) (I.type.andThen (looks_mroIn X G.be)) (PySem.F.args_bexc_ga _ _) ?_
  refine wpAny_mono h (fun fin s' z => ?_) fun _ _ z => z.elim
  rcases fin with (_ | _ | _ | _) | _ <;> first | exact z | exact z.elim
theorem getx_class {Q : Option Value → Shared → Prop} (X : K.In s.heap) (I : PySem.W.InstAt s.heap x ox C od) (G : XG K C) (hn : specialIn K (.builtin "object.__class__") "__get__" = some (some (.builtin "getset_descriptor.__get__"))) (htk : takesIn K (.builtin "object.__class__") = some true)
    (h : Q (some (.ref C)) { s with toks := s.toks + 1 }) : wpAny (model prog w) A (getAttr? (.ref x) "__class__") Q E s := by
  have hf : findObj K C od "__class__" = some (.bind (.builtin "getset_descriptor.__get__") (.builtin "object.__class__")) := by
    obtain ⟨cd, hc, _⟩ := G.hd
    unfold findObj
    rw [hc, Option.bind_some, G.cc, Option.bind_some]
    simp [hn, htk]
  unfold getAttr? getAttrBy?
  refine wpAny_bind (wpAny_mkText (wpAny_bind (wpAny_attempt (getx_open (s := { s with toks := s.toks + 1 }) X I G ?_))))
  unfold Builtin.«object.__getattribute__»
  refine wpAny_bind (wpAny_pure (wpAny_bind (wpAny_pure (wpAny_bind (PySem.W.Looks.here (s := { s with toks := s.toks + 1 }) I.type (wpAny_bind (PySem.W.Looks.here (s := { s with toks := s.toks + 1 }) (looks_find X I hf) ?_)))))))
  show wpAny _ _ (bindTo (.builtin "getset_descriptor.__get__") (.builtin "object.__class__") (.ref x) (.ref C)) _ _ _
  unfold bindTo
  refine wpAny_bind (wpAny_holding (wpAny_call (class_get (s := { s with toks := s.toks + 1 }) (ox := ox) (od := od) X I G.ob ?_)))
  refine wpAny_pure ?_
  show wpAny _ _ (handedOut (.ref C)) _ _ _
  exact handed_on rfl (wpAny_pure h)
theorem kitx_exc (G : XG K C) (hn : specialIn K (.builtin "object.__class__") "__get__" = some (some (.builtin "getset_descriptor.__get__"))) (htk : takesIn K (.builtin "object.__class__") = some true) :
    KitX K (.ref x) (.ref C) (fun h => ∃ ox od, PySem.W.InstAt h x ox C od) where
  ty := fun _ _ _ ⟨_, _, I⟩ => I.type
  it := fun _ _ X _ => by
    obtain ⟨cd, hc, _⟩ := G.hd
    unfold clsIn at hc
    split at hc
    · rename_i ho
      intro A' Q' E' s' k q
      unfold isType loadHead
      exact wpAny_bind (wpAny_loadPart (k _ _ (X _ _ ho)) (wpAny_pure q))
    · cases hc
  ne := fun h tp dd its n sl X htp => by
    obtain ⟨cd, hc, _⟩ := G.hd
    refine Bool.eq_false_iff.mpr fun q => ?_
    have e : C = tp := Value.ref.inj (beq_iff_eq.mp q)
    subst e
    unfold clsIn at hc
    split at hc
    · rename_i ho
      have z := (X _ _ ho).symm.trans htp
      cases z
    · cases hc
  ca := fun X ⟨_, _, I⟩ k => getx_class X I G hn htk k
end
theorem cls_get {K : PySem.W.Frag} : specialIn K (.builtin "object.__class__") "__get__" = some (some (.builtin "getset_descriptor.__get__")) := by rfl
theorem cls_takes {K : PySem.W.Frag} : takesIn K (.builtin "object.__class__") = some true := by rfl
end L2
namespace L2
open PySem PySem.Spec PyProof.Rows PySem.W PySem.Calls
section
variable {X : Cx} {pins : List (Addr × Obj)} {σ : St} {H : Hp} {s : Shared}
theorem xe_inst {e C : Addr} {dx : Option Addr} (I : Inv X pins σ H s) (he : H e = some (XE e C dx)) (hd : ∀ a, dx = some a → ∃ o, s.heap.get? a = some o) : ∃ ox od, PySem.W.InstAt s.heap e ox C od := by
  obtain ⟨⟨o, vs, ho, hc, hdx, hdt⟩, _⟩ := I.hok e _ he
  have hno : notCls o = true := by unfold notCls; rw [hdt]
  cases hq : dx with
  | none => exact ⟨o, none, ho, hc, hno, by rw [hdx, hq]; exact True.intro⟩
  | some a =>
    obtain ⟨oa, ha⟩ := hd a hq
    exact ⟨o, some oa, ho, hc, hno, by rw [hdx, hq]; exact ha⟩
noncomputable def clsV : V → Option Value
  | .ref B => some (.ref B)
  | .ty n => some (.type n)
  | _ => none
theorem clsV_rel {c : V} {u v : Value} (h : clsV c = some v) (r : RelV c u) : u = v := by
  cases c <;> cases h <;> exact r
theorem clsV_all : ∀ {cs : List V} {vs us : List Value}, Paired (fun c v => clsV c = some v) cs vs → Vals cs us → us = vs
  | _, _, _, .nil, r => by cases r; rfl
  | _, _, _, .cons h t, r => by
    cases r with
    | cons r1 r2 => rw [clsV_rel h r1, clsV_all t r2]
noncomputable def rIsX (K : PySem.W.Frag) : List V → Hp → VK → Prop := fun xs H Q => ∃ e C dx c v b, xs = [.ref e, c] ∧ H e = some (XE e C dx) ∧ (∀ a, dx = some a → ∃ fs, H a = some (.xd fs)) ∧ XG K C ∧ clsV c = some v ∧ kitOne K (.ref C) v = some b ∧ Q (.bl b) H
theorem call_isX : CallR X (.builtin "isinstance") (rIsX X.K) := by
  intro pins s σ H xs us Q I r h
  obtain ⟨e, C, dx, c, v, b, rfl, he, hd, G, hc, hk, q⟩ := h
  obtain ⟨u, w', rfl, rx, rt⟩ := vals2 r
  obtain rfl : u = Value.ref e := rx
  obtain rfl := clsV_rel hc rt
  exact kia_one (kitx_exc G cls_get cls_takes) I.kIn (xe_inst I he fun a ha => let ⟨fs, z⟩ := hd a ha; let ⟨_, ⟨o, _, _, z2, _⟩, _⟩ := (show ObjOk X.prog X.w H s.heap a (.xd fs) from I.hok a _ z); ⟨o, z2⟩) hk (fun z => nomatch z) fun tk => ⟨.bl b, H, I.tok _, rfl, q⟩
noncomputable def rIsT (K : PySem.W.Frag) : List V → Hp → VK → Prop := fun xs H Q => ∃ e C dx t cs vs b, xs = [.ref e, .ref t] ∧ H e = some (XE e C dx) ∧ (∀ a, dx = some a → ∃ fs, H a = some (.xd fs)) ∧ XG K C ∧ H t = some (.tup cs) ∧ Paired (fun c v => clsV c = some v) cs vs ∧ kitAny K (.ref C) vs = some b ∧ Q (.bl b) H
theorem call_isT : CallR X (.builtin "isinstance") (rIsT X.K) := by
  intro pins s σ H xs us Q I r h
  obtain ⟨e, C, dx, t, cs, vs, b, rfl, he, hd, G, ht, hp, hk, q⟩ := h
  obtain ⟨u, w', rfl, rx, rt⟩ := vals2 r
  obtain rfl : u = Value.ref e := rx
  obtain rfl : w' = Value.ref t := rt
  obtain ⟨_, its, rv, o, ho, hoc⟩ := (show ObjOk X.prog X.w H s.heap t (.tup cs) from I.hok t _ ht)
  obtain ⟨hoc, n, hdt⟩ := hoc
  obtain rfl := clsV_all hp rv
  obtain ⟨c0, d0, dt0, sl0⟩ := o
  cases hoc
  cases hdt
  exact kia_tup (kitx_exc G cls_get cls_takes) I.kIn (xe_inst I he fun a ha => let ⟨fs, z⟩ := hd a ha; let ⟨_, ⟨o, _, _, z2, _⟩, _⟩ := (show ObjOk X.prog X.w H s.heap a (.xd fs) from I.hok a _ z); ⟨o, z2⟩) ho hk (fun z => nomatch z) fun tk => ⟨.bl b, H, I.tok _, rfl, q⟩
variable {K : PySem.W.Frag} (hK : X.K = K)
include hK
theorem kcall_isX : CallR X (.builtin "isinstance") (rIsX K) := by subst hK; exact call_isX
theorem kcall_isT : CallR X (.builtin "isinstance") (rIsT K) := by subst hK; exact call_isT
end
end L2
namespace L2
open PySem PySem.Spec PyProof.Rows
structure RoomH (k : Nat) (A : Around) : Prop where
  dp : A.depth + 3 * k + 5 < recursionLimit
  un : A.units + 16 * k + 200 < cLine
theorem Room.h {k : Nat} {A : Around} (r : Room k A) (e : Option Value) : RoomH k (A.mark e) := ⟨r.dp, r.un⟩
theorem RoomH.units {k : Nat} {A : Around} (r : RoomH k A) : A.units + 64 < cLine := by have := r.un; (first | lia | omega)
section
variable {P : Program} {w : World} {K : PySem.W.Frag} {mg : Str → Option Value} {base : Heap}
end
section
variable {X : Cx} {k : Nat} {f : Addr} {fd : FuncData} {ps : List Str} {sp : Sp} {x : Str} {p pos : Pos} {e : Expr} {es : List Expr} {t : TA}
end
end L2
namespace L2
open PySem PySem.Spec PyProof.Rows PySem.W PySem.Calls
structure NsF (K : PySem.W.Frag) (N : Addr) (init : Option Addr) : Prop where
  lk : ∃ oc od es n sl, K.lookup N = some ⟨oc, od, .dict es n, sl⟩ ∧ (es.all fun e => match e.key with | .str _ _ => true | _ => false) = true
  ni : nsIn K N "__init__" = some (init.map Value.ref)
theorem NsF.ok {K : PySem.W.Frag} {N : Addr} {init : Option Addr} (h : NsF K N init) : nsOkIn K N = true := by
  obtain ⟨oc, od, es, n, sl, e, q⟩ := h.lk
  unfold nsOkIn
  rw [e]
  exact q
theorem tail_mk {K : PySem.W.Frag} {R : Addr} {oc : Value} {od : Option Addr} {cd : ClassData} {sl : Array (Option Value)} (lk : K.lookup R = some ⟨oc, od, .cls cd, sl⟩) (n : NsF K cd.ns none) : tailIn K bmV (.ref R :: bmV) = true := by
  have hb : tailIn K bmV bmV = true := by
    unfold tailIn
    rw [Bool.or_eq_true]
    exact .inl (beq_self_eq_true _)
  unfold tailIn
  rw [Bool.or_eq_true]
  refine .inr ?_
  dsimp only
  rw [lk]
  dsimp only
  rw [n.ok, hb, n.ni]
  rfl
theorem xcls_mk {K : PySem.W.Frag} {C : Addr} {init od : Option Addr} {cd : ClassData} {sl : Array (Option Value)} {bm : List Value} {k0 k1 k2 k3 k5 : Option Value} (lk : K.lookup C = some ⟨.type "type", od, .cls cd, sl⟩) (cm : cd.mro = .ref C :: bm)
    (hs : sl.toList = [k0, k1, k2, k3, some (.builtin "ValueError.__new__"), k5]) (hdel : cd.hasDel = false) (ht : tailIn K bmV bm = true) (n : NsF K cd.ns init) : xclsIn K C init = true := by
  unfold xclsIn
  rw [lk]
  show (match cd.mro, sl.toList with
    | .ref C' :: bm, [_, _, _, _, some (.builtin n), _] => C' == C && n == "ValueError.__new__" && !cd.hasDel && tailIn K bmV bm && nsOkIn K cd.ns && nsIn K cd.ns "__init__" == some (init.map Value.ref)
    | _, _ => false) = true
  rw [cm, hs]
  show (C == C && "ValueError.__new__" == "ValueError.__new__" && !cd.hasDel && tailIn K bmV bm && nsOkIn K cd.ns && nsIn K cd.ns "__init__" == some (init.map Value.ref)) = true
  rw [hdel, ht, n.ok, n.ni]
  simp
structure CL (K : PySem.W.Frag) (mg : Str → Option Value) (x : Str) (C : Addr) : Prop where
  mg : mg x = some (.ref C)
  is : isClsIn K C = true
  ty : typeIn K (.ref C) = some (.type "type")
theorem CL.kit {K : PySem.W.Frag} {mg : Str → Option Value} {x : Str} {C B : Addr} {b : Bool} (d : CL K mg x B) (h : mroIn K C (.ref B) = some b) (hs : C = B → b = true) : kitOne K (.ref C) (.ref B) = some b := by
  have hc : (clsIn K B).isSome = true := d.is
  unfold kitOne
  by_cases e : C = B
  · subst e
    rw [if_pos (by simp), hs rfl]
  · rw [if_neg (fun z => e (Value.ref.inj (beq_iff_eq.mp z)))]
    unfold kitCls
    show (if ((clsIn K B).isSome && typeIn K (.ref B) == some (.type "type")) = true then subIn K (.ref C) (.ref B) else none) = some b
    rw [hc, d.ty, if_pos (by simp)]
    exact h
noncomputable def xAsk (K : PySem.W.Frag) (C : Addr) : Bool :=
  findIn K (.ref C) "__getattribute__" == some (some (.builtin "BaseException.__getattribute__")) && findIn K (.ref C) "__getattr__" == some none && mroIn K C (.type "BaseException") == some true && mroIn K C (.type "object") == some true &&
  findIn K (.ref C) "__class__" == some (some (.builtin "object.__class__")) && (clsIn K C).any (·.hasDict) && PySem.W.keepIn K (.ref C) && typeIn K (.ref C) == some (.type "type") && mroIn K C (.type "ValueError") == some true
structure XQ (K : PySem.W.Frag) (C : Addr) : Prop where
  g : XG K C
  kp : PySem.W.keepIn K (.ref C) = true
  ty : typeIn K (.ref C) = some (.type "type")
  ve : mroIn K C (.type "ValueError") = some true
theorem xq_of {K : PySem.W.Frag} {C : Addr} (h : xAsk K C = true) : XQ K C := by
  simp only [xAsk, Bool.and_eq_true, beq_iff_eq] at h
  obtain ⟨⟨⟨⟨⟨⟨⟨⟨h1, h2⟩, h3⟩, h4⟩, h5⟩, h6⟩, h7⟩, h8⟩, h9⟩ := h
  obtain ⟨cd, hc, hd⟩ := any_some h6
  exact ⟨⟨h1, h2, h3, h4, h5, cd, hc, hd⟩, h7, h8, h9⟩
theorem xq_mk {K : PySem.W.Frag} {C : Addr} (h1 : findIn K (.ref C) "__getattribute__" = some (some (.builtin "BaseException.__getattribute__"))) (h2 : findIn K (.ref C) "__getattr__" = some none) (h3 : mroIn K C (.type "BaseException") = some true) (h4 : mroIn K C (.type "object") = some true)
    (h5 : findIn K (.ref C) "__class__" = some (some (.builtin "object.__class__"))) (h6 : hasDictIn K C = true) (h7 : PySem.W.keepIn K (.ref C) = true) (h8 : typeIn K (.ref C) = some (.type "type")) (h9 : mroIn K C (.type "ValueError") = some true) : xAsk K C = true := by
  unfold xAsk
  have h6 : (clsIn K C).any (·.hasDict) = true := h6
  rw [h1, h2, h3, h4, h5, h6, h7, h8, h9]
  simp
theorem kit_own {K : PySem.W.Frag} {C B : Addr} {initB : Option Addr} {b : Bool} (hB : xclsIn K B initB = true) (q : XQ K B) (h : mroIn K C (.ref B) = some b) (hs : C = B → b = true) : kitOne K (.ref C) (.ref B) = some b := by
  unfold kitOne
  by_cases e : C = B
  · subst e
    rw [if_pos (by simp), hs rfl]
  · rw [if_neg (fun z => e (Value.ref.inj (beq_iff_eq.mp z)))]
    unfold kitCls
    have hc : (clsIn K B).isSome = true := by
      unfold xclsIn at hB
      split at hB
      · rename_i ho
        unfold clsIn
        rw [ho]
        rfl
      · cases hB
    show (if ((clsIn K B).isSome && typeIn K (.ref B) == some (.type "type")) = true then subIn K (.ref C) (.ref B) else none) = some b
    rw [hc, q.ty, if_pos (by simp)]
    exact h
theorem kit_value {K : PySem.W.Frag} {C : Addr} (q : XQ K C) : kitOne K (.ref C) (.type "ValueError") = some true := by
  unfold kitOne
  rw [if_neg (fun z => by cases beq_iff_eq.mp z)]
  exact q.ve
structure CN (K : PySem.W.Frag) (mg : Str → Option Value) (x : Str) (C : Addr) : Prop where
  mg : mg x = some (.ref C)
  cls : xclsIn K C none = true
  q : XQ K C
section
variable {X : Cx} {k j : Nat} {f C : Addr} {fd : FuncData} {ps : List Str} {sp : Sp} {x qual fld : Str} {st : Stmt} {p np cpos pos : Pos} {e : Expr} {es : List Expr} {t : TA} {E : St → XK} {L : Addr}
theorem praise0 (d : CN X.K X.mg x C) (hg : Gl X x) (hL : X.env.frame = some L) (hcm : X.calm = true) (ha : PA (X.wish (Fly X E)) (e :: es) t) (hdb : (x == ("__debug__" : Str)) = false := by decide)
    (he : starEach (e :: es) X.env = (false, eval e X.env) :: starEach es X.env := by rfl) (hpl : (backTo cpos (starEach es X.env)).any (·.1) = false := by rfl) :
    PS (X.wish (Fly X E)) (.Raise (some (.Call (.Name x np) (e :: es) [] cpos)) none pos) (tRaise0 C E t) := ps_raise0 hL hcm ⟨d.cls, d.q.kp⟩ hg d.mg ha hdb he hpl
theorem pcallX (d : D X.K X.mg x st ps f fd) (F : FnOk X.prog X.w X.K X.mg X.base (CX1 X.prog X.w) j f fd ps sp) (hr : Room k X.A) (hg : Gl X x) (hL : X.env.frame = some L) (ha : PA (X.wish (Fly X E)) (e :: es) t) (hjk : j ≤ k := by decide) (hdb : (x == ("__debug__" : Str)) = false := by decide)
    (he : starEach (e :: es) X.env = (false, eval e X.env) :: starEach es X.env := by rfl) (hpl : (backTo pos (starEach es X.env)).any (·.1) = false := by rfl) :
    PE (X.wish (Fly X E)) (.Call (.Name x p) (e :: es) [] pos) (tCallS sp E t) := pe_callX hL (F.mono hjk) hr hg d.mg d.fn.kp (.all d.ba) ha hdb he hpl
end
theorem kph_cons {X : Cx} (K : PySem.W.Frag) (hK : X.K = K) {B : Addr} {initB : Option Addr} {x n : Str} {i : Nat} {np hpos : Pos} {b₀ : Stmt} {suite : List Stmt} {rest : List ExceptHandler} {ts : TS} {tr : THd} (hg : Gl X x) (hm : X.mg x = some (.ref B)) (hB : xclsIn K B initB = true)
    (hN : X.N.Nodup) (hi : X.N[i]? = some n) (hk : X.env.scope.names.lookup n = some .local) (hsuite : ∀ e, PSs (X.suite e) (b₀ :: suite) ts) (hrest : PHs X rest tr) (hdb : (x == ("__debug__" : Str)) = false := by decide) :
    PHs X (.ExceptHandler (some (.Name x np)) (some n) (b₀ :: suite) hpos :: rest) (tHd K B i ts tr) := by subst hK; exact ph_cons hg hm hB hN hi hk hsuite hrest hdb
end L2
namespace Sr
open PySem PyProof.Rows
noncomputable def gallop' : Bool → Keyed → Array Keyed → Nat → Nat → Nat → StateT SortSt Sem (Option Nat) := sortPriv% PySem.Builtin.gallop
noncomputable def beyond (left : Bool) (key : Keyed) (arr : Array Keyed) (base i : Nat) : StateT SortSt Sem (Option Bool) :=
  elem' arr (base + i) >>= fun x => ite (left = true) (lt' x key) (lt' key x >>= fun r => pure (r.map not))
section
variable {prog : Program} {w : World} {A : Around} {E : Value → Shared → Prop} {s : Shared} {o : Array Keyed} {κ : KeyKind} {kd : SortKind} {st : SortSt}
theorem lt_tells (T : Tells prog w A s κ kd) (kn : kindOf st = kd) {x y : Keyed} {a b : κ.α} {Q : Option Bool → SortSt → Prop} (kx : κ.keyOf x.1 = some a) (ky : κ.keyOf y.1 = some b) (q : Q (some (κ.blt a b)) st) : wpS (model prog w) A E s (lt' x y) Q st := by
  rw [lt'_eq]
  refine wpS_bind (wpS_get ?_)
  rw [kn]
  exact wpS_bind (wpS_lift (wpAny_attempt (T _ x.1 y.1 a b _ kx ky ⟨rfl, wpS_pure q⟩)))
noncomputable def isBeyond (κ : KeyKind) (left : Bool) (c a : κ.α) : Bool := if left = true then κ.blt a c else !κ.blt c a
theorem beyond_at (T : Tells prog w A s κ kd) (kn : kindOf st = kd) {left : Bool} {key x : Keyed} {arr : Array Keyed} {base i : Nat} {a c : κ.α} {Q : Option Bool → SortSt → Prop} (hx : arr[base + i]? = some x) (kx : κ.keyOf x.1 = some a) (kc : κ.keyOf key.1 = some c) (q : Q (some (isBeyond κ left c a)) st) : wpS (model prog w) A E s (beyond left key arr base i) Q st := by
  unfold beyond
  rw [elem'_eq, hx]
  refine wpS_bind (wpS_pure ?_)
  cases left with
  | true =>
    rw [if_pos rfl]
    exact lt_tells T kn kx kc q
  | false =>
    rw [if_neg (fun z => nomatch z)]
    exact wpS_bind (lt_tells T kn kc kx (wpS_pure q))
noncomputable abbrev GSt := Option (Option Nat) × Nat × Nat
theorem g_false {n : Nat} {G : Nat → Bool} (hG : ∀ i j, i ≤ j → j < n → G j = true → G i = true) {i j : Nat} (hij : i ≤ j) (hj : j < n) (h : G i = false) : G j = false := by
  cases e : G j with
  | false => rfl
  | true => rw [hG i j hij hj e] at h; cases h
theorem bin_at {n lo hi : Nat} {G : Nat → Bool} {Q : GSt → SortSt → Prop} {f : Nat → GSt → StateT SortSt Sem (ForInStep GSt)} (hG : ∀ i j, i ≤ j → j < n → G j = true → G i = true)
    (hf : ∀ (t l r : Nat) (R : ForInStep GSt → SortSt → Prop), l ≤ r → r ≤ n → (l = r → R (.done (none, l, r)) st) → (∀ m, l ≤ m → m < r → (G m = true → R (.yield (none, m + 1, r)) st) ∧ (G m = false → R (.yield (none, l, m)) st)) → wpS (model prog w) A E s (f t (none, l, r)) R st)
    (h1 : lo ≤ hi) (h2 : hi ≤ n) (h3 : ∀ i, i < lo → G i = true) (h4 : ∀ i, hi ≤ i → i < n → G i = false)
    (q : ∀ k, k ≤ n → (∀ i, i < k → G i = true) → (∀ i, k ≤ i → i < n → G i = false) → Q (none, k, k) st) : wpS (model prog w) A E s (forIn [0:n] ((none, lo, hi) : GSt) f) Q st := by
  refine wpS_forRange (I := fun t c u => u = st ∧ ∃ l r, c = (none, l, r) ∧ l ≤ r ∧ r ≤ n ∧ r - l ≤ n - t ∧ (∀ i, i < l → G i = true) ∧ ∀ i, r ≤ i → i < n → G i = false) (fun t c u _ ht hI => ?_) (fun c u hI => ?_) ⟨rfl, lo, hi, rfl, h1, h2, by (first | lia | omega), h3, h4⟩
  · obtain ⟨rfl, l, r, rfl, a1, a2, a3, a4, a5⟩ := hI
    refine hf t l r _ a1 a2 (fun e => ?_) fun m m1 m2 => ⟨fun hm => ⟨rfl, m + 1, r, rfl, m2, a2, by (first | lia | omega), fun i hi => hG i m (by (first | lia | omega)) (by (first | lia | omega)) hm, a5⟩, fun hm => ⟨rfl, l, m, rfl, m1, by (first | lia | omega), by (first | lia | omega), a4, fun i hi hn => g_false hG hi hn hm⟩⟩
    subst e
    exact q l a2 a4 a5
  · obtain ⟨rfl, l, r, rfl, a1, a2, a3, a4, a5⟩ := hI
    have e : max 0 n = n := by (first | lia | omega)
    rw [e] at a3
    obtain rfl : l = r := by (first | lia | omega)
    exact q l a2 a4 a5
theorem out_at {n mx : Nat} {ok : Nat → Prop} {no : Nat → Prop} {Q : GSt → SortSt → Prop} {f : Nat → GSt → StateT SortSt Sem (ForInStep GSt)} (hmx : mx ≤ n + 1) (h0 : ok 0)
    (hf : ∀ (t l r : Nat) (R : ForInStep GSt → SortSt → Prop), (mx ≤ r → R (.done (none, l, r)) st) → (r < mx → no r → R (.done (none, l, r)) st) → (r < mx → ok r → R (.yield (none, r, 2 * r + 1)) st) → wpS (model prog w) A E s (f t (none, l, r)) R st)
    (q : ∀ l r, l < r → ok l → (mx ≤ r ∨ (r < mx ∧ no r)) → Q (none, l, r) st) : wpS (model prog w) A E s (forIn [0:n] ((none, 0, 1) : GSt) f) Q st := by
  refine wpS_forRange (I := fun t c u => u = st ∧ ∃ l r, c = (none, l, r) ∧ l < r ∧ ok l ∧ t + 1 ≤ r) (fun t c u _ ht hI => ?_) (fun c u hI => ?_) ⟨rfl, 0, 1, rfl, by (first | lia | omega), h0, Nat.le_refl _⟩
  · obtain ⟨rfl, l, r, rfl, a1, a2, a3⟩ := hI
    exact hf t l r _ (fun h => q l r a1 a2 (.inl h)) (fun h hn => q l r a1 a2 (.inr ⟨h, hn⟩)) fun h hk => ⟨rfl, r, 2 * r + 1, rfl, by (first | lia | omega), hk, by (first | lia | omega)⟩
  · obtain ⟨rfl, l, r, rfl, a1, a2, a3⟩ := hI
    have e : max 0 n = n := by (first | lia | omega)
    rw [e] at a3
    exact q l r a1 a2 (.inl (by (first | lia | omega)))
theorem gallop_at {left : Bool} {key : Keyed} {arr : Array Keyed} {base n hint : Nat} {G : Nat → Bool} {Q : Option Nat → SortSt → Prop} (hB : ∀ i, i < n → ∀ Q : Option Bool → SortSt → Prop, Q (some (G i)) st → wpS (model prog w) A E s (beyond left key arr base i) Q st) (hG : ∀ i j, i ≤ j → j < n → G j = true → G i = true) (hh : hint < n)
    (q : ∀ k, k ≤ n → (∀ i, i < k → G i = true) → (∀ i, k ≤ i → i < n → G i = false) → Q (some k) st) : wpS (model prog w) A E s (gallop' left key arr base n hint) Q st := by
  unfold gallop'
  refine wpS_bind (hB hint hh _ ?_)
  have bs : ∀ (l r : Nat) (R : ForInStep GSt → SortSt → Prop), l ≤ r → r ≤ n → (∀ m, l ≤ m → m < r → (G m = true → R (.yield (none, m + 1, r)) st) ∧ (G m = false → R (.yield (none, l, m)) st)) → ¬ l ≥ r → l ≤ l + (r - l) / 2 ∧ l + (r - l) / 2 < r := fun l r R _ _ _ h => ⟨by (first | lia | omega), by (first | lia | omega)⟩
  cases hg : G hint with
  | true =>
    refine wpS_bind (out_at (mx := n - hint) (ok := fun l => hint + l < n ∧ G (hint + l) = true) (no := fun r => G (hint + r) = false) (by (first | lia | omega)) ⟨hh, hg⟩ (fun t l r R r1 r2 r3 => ?_) fun l r a1 a2 a3 => ?_)
    · show wpS _ _ _ _ (if r ≥ n - hint then _ else _) _ st
      by_cases h : r ≥ n - hint
      · rw [if_pos h]
        exact wpS_pure (r1 h)
      · rw [if_neg h]
        refine wpS_bind (hB (hint + r) (by (first | lia | omega)) _ ?_)
        cases hm : G (hint + r) with
        | true => exact wpS_pure (r3 (by (first | lia | omega)) ⟨by (first | lia | omega), hm⟩)
        | false => exact wpS_pure (r2 (by (first | lia | omega)) hm)
    · refine wpS_bind (bin_at (lo := hint + l + 1) (hi := hint + min r (n - hint)) hG (fun t l r R b1 b2 r1 r2 => ?_) (by (first | lia | omega)) (by (first | lia | omega)) (fun i hi => hG i (hint + l) (by (first | lia | omega)) a2.1 a2.2) (fun i hi hn => ?_) fun k b1 b2 b3 => wpS_pure (q k b1 b2 b3))
      · show wpS _ _ _ _ (if l ≥ r then _ else _) _ st
        by_cases h : l ≥ r
        · rw [if_pos h]
          exact wpS_pure (r1 (by (first | lia | omega)))
        · rw [if_neg h]
          obtain ⟨m1, m2⟩ := bs l r R b1 b2 r2 h
          refine wpS_bind (hB (l + (r - l) / 2) (by (first | lia | omega)) _ ?_)
          cases hm : G (l + (r - l) / 2) with
          | true => exact wpS_pure ((r2 _ m1 m2).1 hm)
          | false => exact wpS_pure ((r2 _ m1 m2).2 hm)
      · rcases a3 with a4 | ⟨a4, a5⟩
        · (first | lia | omega)
        · exact g_false hG (by (first | lia | omega)) hn a5
  | false =>
    refine wpS_bind (out_at (mx := hint + 1) (ok := fun l => l ≤ hint ∧ G (hint - l) = false) (no := fun r => G (hint - r) = true) (by (first | lia | omega)) ⟨Nat.zero_le _, hg⟩ (fun t l r R r1 r2 r3 => ?_) fun l r a1 a2 a3 => ?_)
    · show wpS _ _ _ _ (if r ≥ hint + 1 then _ else _) _ st
      by_cases h : r ≥ hint + 1
      · rw [if_pos h]
        exact wpS_pure (r1 h)
      · rw [if_neg h]
        refine wpS_bind (hB (hint - r) (by (first | lia | omega)) _ ?_)
        cases hm : G (hint - r) with
        | true => exact wpS_pure (r2 (by (first | lia | omega)) hm)
        | false => exact wpS_pure (r3 (by (first | lia | omega)) ⟨by (first | lia | omega), hm⟩)
    · refine wpS_bind (bin_at (lo := hint + 1 - min r (hint + 1)) (hi := hint - l) hG (fun t l r R b1 b2 r1 r2 => ?_) (by (first | lia | omega)) (by (first | lia | omega)) (fun i hi => ?_) (fun i hi hn => g_false hG hi hn a2.2) fun k b1 b2 b3 => wpS_pure (q k b1 b2 b3))
      · show wpS _ _ _ _ (if l ≥ r then _ else _) _ st
        by_cases h : l ≥ r
        · rw [if_pos h]
          exact wpS_pure (r1 (by (first | lia | omega)))
        · rw [if_neg h]
          obtain ⟨m1, m2⟩ := bs l r R b1 b2 r2 h
          refine wpS_bind (hB (l + (r - l) / 2) (by (first | lia | omega)) _ ?_)
          cases hm : G (l + (r - l) / 2) with
          | true => exact wpS_pure ((r2 _ m1 m2).1 hm)
          | false => exact wpS_pure ((r2 _ m1 m2).2 hm)
      · rcases a3 with a4 | ⟨a4, a5⟩
        · (first | lia | omega)
        · exact hG i (hint - r) (by (first | lia | omega)) (by (first | lia | omega)) a5
end
structure MI {α : Type} (R : α → α → Prop) (xs ys out ra rb : List α) : Prop where
  pm : (out ++ (ra ++ rb)).Perm (xs ++ ys)
  up : out.Pairwise R
  le : ∀ x ∈ out, ∀ y ∈ ra ++ rb, R x y
  ua : ra.Pairwise R
  ub : rb.Pairwise R
theorem perm_mid {α : Type} (o l r m : List α) : (o ++ l ++ (m ++ r)).Perm (o ++ (m ++ (l ++ r))) := by
  rw [List.append_assoc]
  refine List.Perm.append_left o ?_
  rw [← List.append_assoc, ← List.append_assoc]
  exact List.Perm.append_right r List.perm_append_comm
theorem MI.takeAs {α : Type} {R : α → α → Prop} {xs ys out l ra rb : List α} (h : MI R xs ys out (l ++ ra) rb) (hl : ∀ x ∈ l, ∀ y ∈ rb, R x y) : MI R xs ys (out ++ l) ra rb := by
  obtain ⟨u1, u2, u3⟩ := List.pairwise_append.mp h.ua
  refine ⟨?_, List.pairwise_append.mpr ⟨h.up, u1, fun x hx y hy => h.le x hx y (List.mem_append_left _ (List.mem_append_left _ hy))⟩, fun x hx y hy => ?_, u2, h.ub⟩
  · have := h.pm
    rwa [List.append_assoc, ← List.append_assoc out] at this
  · rcases List.mem_append.mp hx with hx | hx
    · rcases List.mem_append.mp hy with hy | hy
      · exact h.le x hx y (List.mem_append_left _ (List.mem_append_right _ hy))
      · exact h.le x hx y (List.mem_append_right _ hy)
    · rcases List.mem_append.mp hy with hy | hy
      · exact u3 x hx y hy
      · exact hl x hx y hy
theorem MI.takeBs {α : Type} {R : α → α → Prop} {xs ys out l ra rb : List α} (h : MI R xs ys out ra (l ++ rb)) (hl : ∀ x ∈ l, ∀ y ∈ ra, R x y) : MI R xs ys (out ++ l) ra rb := by
  obtain ⟨u1, u2, u3⟩ := List.pairwise_append.mp h.ub
  refine ⟨(perm_mid out l rb ra).trans h.pm, List.pairwise_append.mpr ⟨h.up, u1, fun x hx y hy => h.le x hx y (List.mem_append_right _ (List.mem_append_left _ hy))⟩, fun x hx y hy => ?_, h.ua, u2⟩
  rcases List.mem_append.mp hx with hx | hx
  · rcases List.mem_append.mp hy with hy | hy
    · exact h.le x hx y (List.mem_append_left _ hy)
    · exact h.le x hx y (List.mem_append_right _ (List.mem_append_right _ hy))
  · rcases List.mem_append.mp hy with hy | hy
    · exact hl x hx y hy
    · exact u3 x hx y hy
theorem MI.endA {α : Type} {R : α → α → Prop} {xs ys out ra rb : List α} (h : MI R xs ys out ra rb) (hl : ∀ x ∈ ra, ∀ y ∈ rb, R x y) : (out ++ ra ++ rb).Perm (xs ++ ys) ∧ (out ++ ra ++ rb).Pairwise R := by
  rw [← List.append_nil ra] at h
  have h2 := h.takeAs hl
  rw [← List.append_nil rb] at h2
  have h3 := h2.takeBs fun x _ y hy => nomatch hy
  have pm := h3.pm
  rw [List.append_nil, List.append_nil] at pm
  exact ⟨pm, h3.up⟩
theorem MI.endB {α : Type} {R : α → α → Prop} {xs ys out ra rb : List α} (h : MI R xs ys out ra rb) (hl : ∀ x ∈ rb, ∀ y ∈ ra, R x y) : (out ++ rb ++ ra).Perm (xs ++ ys) ∧ (out ++ rb ++ ra).Pairwise R := by
  rw [← List.append_nil rb] at h
  have h2 := h.takeBs hl
  rw [← List.append_nil ra] at h2
  have h3 := h2.takeAs fun x _ y hy => nomatch hy
  have pm := h3.pm
  rw [List.append_nil, List.append_nil] at pm
  exact ⟨pm, h3.up⟩
noncomputable def KR (κ : KeyKind) (x y : Keyed) : Prop := ∀ k l, κ.keyOf x.1 = some k → κ.keyOf y.1 = some l → κ.kle k l
theorem KR.trans {κ : KeyKind} {x y z : Keyed} (hy : ∃ k, κ.keyOf y.1 = some k) (h1 : KR κ x y) (h2 : KR κ y z) : KR κ x z := fun k l hk hl => by
  obtain ⟨m, hm⟩ := hy
  exact KeyOrd.kle_trans (h1 k m hk hm) (h2 m l hm hl)
theorem MI.someB {κ : KeyKind} {xs ys out l ra rb : List Keyed} {x : Keyed} (h : MI (KR κ) xs ys out (x :: ra) (l ++ rb)) (hx : ∃ k, κ.keyOf x.1 = some k) (hl : ∀ y ∈ l, KR κ y x) : MI (KR κ) xs ys (out ++ l) (x :: ra) rb := by
  refine h.takeBs fun y hy z hz => ?_
  rcases List.mem_cons.mp hz with rfl | hz
  · exact hl y hy
  · exact KR.trans hx (hl y hy) ((List.pairwise_cons.mp h.ua).1 z hz)
theorem MI.someA {κ : KeyKind} {xs ys out l ra rb : List Keyed} {y : Keyed} (h : MI (KR κ) xs ys out (l ++ ra) (y :: rb)) (hy : ∃ k, κ.keyOf y.1 = some k) (hl : ∀ x ∈ l, KR κ x y) : MI (KR κ) xs ys (out ++ l) ra (y :: rb) := by
  refine h.takeAs fun x hx z hz => ?_
  rcases List.mem_cons.mp hz with rfl | hz
  · exact hl x hx
  · exact KR.trans hy (hl x hx) ((List.pairwise_cons.mp h.ub).1 z hz)
theorem drop_cons {α : Type} {l : List α} {i : Nat} {x : α} (h : l[i]? = some x) : l.drop i = x :: l.drop (i + 1) := by
  obtain ⟨hi, e⟩ := List.getElem?_eq_some_iff.mp h
  rw [List.drop_eq_getElem_cons hi, e]
structure MJ (κ : KeyKind) (a b out : Array Keyed) (i j : Nat) : Prop where
  mi : MI (KR κ) a.toList b.toList out.toList (a.toList.drop i) (b.toList.drop j)
  ks : ∀ x ∈ a.toList ++ b.toList, ∃ k, κ.keyOf x.1 = some k
theorem MJ.pushB {κ : KeyKind} {a b out : Array Keyed} {i j : Nat} {x y : Keyed} (h : MJ κ a b out i j) (hx : a[i]? = some x) (hy : b[j]? = some y) (hl : KR κ y x) : MJ κ a b (out.push y) i (j + 1) := by
  have hx' : a.toList[i]? = some x := by rw [Array.getElem?_toList]; exact hx
  have hy' : b.toList[j]? = some y := by rw [Array.getElem?_toList]; exact hy
  have m := h.mi
  rw [drop_cons hx', drop_cons hy'] at m
  refine ⟨?_, h.ks⟩
  rw [Array.toList_push, drop_cons hx']
  exact MI.someB (l := [y]) m (h.ks x (List.mem_append_left _ (List.mem_of_getElem? hx'))) fun z hz => by rw [List.mem_singleton.mp hz]; exact hl
theorem MJ.pushA {κ : KeyKind} {a b out : Array Keyed} {i j : Nat} {x y : Keyed} (h : MJ κ a b out i j) (hx : a[i]? = some x) (hy : b[j]? = some y) (hl : KR κ x y) : MJ κ a b (out.push x) (i + 1) j := by
  have hx' : a.toList[i]? = some x := by rw [Array.getElem?_toList]; exact hx
  have hy' : b.toList[j]? = some y := by rw [Array.getElem?_toList]; exact hy
  have m := h.mi
  rw [drop_cons hx', drop_cons hy'] at m
  refine ⟨?_, h.ks⟩
  rw [Array.toList_push, drop_cons hy']
  exact MI.someA (l := [x]) m (h.ks y (List.mem_append_right _ (List.mem_of_getElem? hy'))) fun z hz => by rw [List.mem_singleton.mp hz]; exact hl
theorem ext_list (xs : Array Keyed) (i j : Nat) : (xs.extract i j).toList = (xs.toList.drop i).take (j - i) := by
  rw [Array.toList_extract, List.extract_eq_drop_take]
theorem ext_rest (xs : Array Keyed) (i : Nat) : (xs.extract i xs.size).toList = xs.toList.drop i := by
  rw [ext_list, List.take_of_length_le (by rw [List.length_drop, Array.length_toList]; exact Nat.le_refl _)]
theorem mem_cut {xs : Array Keyed} {i k : Nat} {x : Keyed} (h : x ∈ (xs.toList.drop i).take k) : ∃ n, n < k ∧ xs[i + n]? = some x := by
  obtain ⟨n, hn⟩ := List.mem_iff_getElem?.mp h
  rw [List.getElem?_take] at hn
  split at hn
  · rename_i hk
    rw [List.getElem?_drop, Array.getElem?_toList] at hn
    exact ⟨n, hk, hn⟩
  · cases hn
theorem MJ.sliceA {κ : KeyKind} {a b out : Array Keyed} {i j k : Nat} {y : Keyed} (h : MJ κ a b out i j) (hy : b[j]? = some y) (hl : ∀ n x, n < k → a[i + n]? = some x → KR κ x y) : MJ κ a b (out ++ a.extract i (i + k)) (i + k) j := by
  have hy' : b.toList[j]? = some y := by rw [Array.getElem?_toList]; exact hy
  have m := h.mi
  rw [drop_cons hy', ← List.take_append_drop k (a.toList.drop i), List.drop_drop] at m
  refine ⟨?_, h.ks⟩
  rw [Array.toList_append, ext_list, Nat.add_sub_cancel_left, drop_cons hy']
  exact m.someA (h.ks y (List.mem_append_right _ (List.mem_of_getElem? hy'))) fun x hx => by
    obtain ⟨n, hn, e⟩ := mem_cut hx
    exact hl n x hn e
theorem MJ.sliceB {κ : KeyKind} {a b out : Array Keyed} {i j k : Nat} {x : Keyed} (h : MJ κ a b out i j) (hx : a[i]? = some x) (hl : ∀ n y, n < k → b[j + n]? = some y → KR κ y x) : MJ κ a b (out ++ b.extract j (j + k)) i (j + k) := by
  have hx' : a.toList[i]? = some x := by rw [Array.getElem?_toList]; exact hx
  have m := h.mi
  rw [drop_cons hx', ← List.take_append_drop k (b.toList.drop j), List.drop_drop] at m
  refine ⟨?_, h.ks⟩
  rw [Array.toList_append, ext_list, Nat.add_sub_cancel_left, drop_cons hx']
  exact m.someB (h.ks x (List.mem_append_left _ (List.mem_of_getElem? hx'))) fun y hy => by
    obtain ⟨n, hn, e⟩ := mem_cut hy
    exact hl n y hn e
theorem MJ.ab {κ : KeyKind} {a b out : Array Keyed} {i j : Nat} (h : MJ κ a b out i j) (hl : a.size ≤ i ∨ b.size ≤ j) : (out ++ a.extract i a.size ++ b.extract j b.size).toList.Perm (a.toList ++ b.toList) ∧ (out ++ a.extract i a.size ++ b.extract j b.size).toList.Pairwise (KR κ) := by
  rw [Array.toList_append, Array.toList_append, ext_rest, ext_rest]
  refine h.mi.endA fun x hx y hy => ?_
  rcases hl with hl | hl
  · rw [List.drop_of_length_le (by rw [Array.length_toList]; exact hl)] at hx
    cases hx
  · rw [List.drop_of_length_le (by rw [Array.length_toList]; exact hl)] at hy
    cases hy
theorem MJ.ba {κ : KeyKind} {a b out : Array Keyed} {i j : Nat} {x : Keyed} (h : MJ κ a b out i j) (hi : i + 1 = a.size) (hx : a[i]? = some x) (hl : ∀ y ∈ b.toList, KR κ y x) : (out ++ b.extract j b.size ++ a.extract i a.size).toList.Perm (a.toList ++ b.toList) ∧ (out ++ b.extract j b.size ++ a.extract i a.size).toList.Pairwise (KR κ) := by
  have hx' : a.toList[i]? = some x := by rw [Array.getElem?_toList]; exact hx
  rw [Array.toList_append, Array.toList_append, ext_rest, ext_rest]
  refine h.mi.endB fun y hy z hz => ?_
  rw [drop_cons hx', List.drop_of_length_le (by rw [Array.length_toList]; (first | lia | omega)), List.mem_singleton] at hz
  rw [hz]
  exact hl y (List.mem_of_mem_drop hy)
noncomputable def mergeLo' : Array Keyed → Array Keyed → StateT SortSt Sem (Array Keyed) := sortPriv% PySem.Builtin.mergeLo
section
variable {prog : Program} {w : World} {A : Around} {E : Value → Shared → Prop} {s : Shared} {o : Array Keyed} {κ : KeyKind} {kd : SortKind} {st : SortSt}
structure Lk (st u : SortSt) : Prop where
  kn : kindOf u = kindOf st
  ar : arrOf u = arrOf st
  pn : pendingOf u = pendingOf st
  fl : failedOf u = failedOf st
theorem elem_at {arr : Array Keyed} {i : Nat} {x : Keyed} {Q : Keyed → SortSt → Prop} (hx : arr[i]? = some x) (q : Q x st) : wpS (model prog w) A E s (elem' arr i) Q st := by
  rw [elem'_eq, hx]
  exact wpS_pure q
theorem KR.of {x y : Keyed} {k l : κ.α} (hx : κ.keyOf x.1 = some k) (hy : κ.keyOf y.1 = some l) (h : κ.kle k l) : KR κ x y := fun k' l' h1 h2 => by
  rw [hx] at h1
  rw [hy] at h2
  cases h1
  cases h2
  exact h
noncomputable def GB (κ : KeyKind) (left : Bool) (c : κ.α) (arr : Array Keyed) (base n : Nat) : Bool := ((arr[base + n]?).bind fun x => κ.keyOf x.1).elim false (isBeyond κ left c)
theorem GB_at {left : Bool} {c k : κ.α} {arr : Array Keyed} {base n : Nat} {x : Keyed} (hx : arr[base + n]? = some x) (kx : κ.keyOf x.1 = some k) : GB κ left c arr base n = isBeyond κ left c k := by
  unfold GB
  rw [hx]
  show (Option.elim (κ.keyOf x.1) false (isBeyond κ left c)) = _
  rw [kx]
  rfl
theorem pair_at {arr : Array Keyed} (hs : arr.toList.Pairwise (KR κ)) {i j : Nat} {x y : Keyed} (hij : i < j) (hx : arr[i]? = some x) (hy : arr[j]? = some y) : KR κ x y := by
  have hx' : arr.toList[i]? = some x := by rw [Array.getElem?_toList]; exact hx
  have hy' : arr.toList[j]? = some y := by rw [Array.getElem?_toList]; exact hy
  obtain ⟨h1, e1⟩ := List.getElem?_eq_some_iff.mp hx'
  obtain ⟨h2, e2⟩ := List.getElem?_eq_some_iff.mp hy'
  rw [← e1, ← e2]
  exact List.pairwise_iff_getElem.mp hs i j h1 h2 hij
theorem gallop_seg (T : Tells prog w A s κ kd) (kn : kindOf st = kd) {arr : Array Keyed}  (ks : ∀ x ∈ arr.toList, ∃ k, κ.keyOf x.1 = some k) {left : Bool} {key : Keyed} {c : κ.α} (kc : κ.keyOf key.1 = some c) {base n hint : Nat} (hs : ∀ i j x y, base ≤ i → i < j → j < base + n → arr[i]? = some x → arr[j]? = some y → KR κ x y) (hn : base + n ≤ arr.size) (hh : hint < n) {Q : Option Nat → SortSt → Prop}
    (q : ∀ k, k ≤ n → (∀ i x l, i < k → arr[base + i]? = some x → κ.keyOf x.1 = some l → isBeyond κ left c l = true) → (∀ i x l, k ≤ i → i < n → arr[base + i]? = some x → κ.keyOf x.1 = some l → isBeyond κ left c l = false) → Q (some k) st) : wpS (model prog w) A E s (gallop' left key arr base n hint) Q st := by
  have el : ∀ {i}, i < n → ∃ x k, arr[base + i]? = some x ∧ κ.keyOf x.1 = some k := fun {i} h => by
    have hi : base + i < arr.size := by (first | lia | omega)
    have e : arr[base + i]? = some arr[base + i] := getElem?_pos arr (base + i) hi
    obtain ⟨k, hk⟩ := ks arr[base + i] (by simp)
    exact ⟨_, k, e, hk⟩
  refine gallop_at (G := GB κ left c arr base) (fun i hi Q qq => ?_) (fun i j hij hj h => ?_) hh fun k hk g1 g2 => q k hk (fun i x l hi hx hl => ?_) fun i x l h1 h2 hx hl => ?_
  · obtain ⟨x, k, hx, kx⟩ := el hi
    rw [GB_at hx kx] at qq
    exact beyond_at T kn hx kx kc qq
  · obtain ⟨x, k, hx, kx⟩ := el (i := i) (by (first | lia | omega))
    obtain ⟨y, l, hy, ky⟩ := el hj
    rw [GB_at hy ky] at h
    rw [GB_at hx kx]
    rcases Nat.lt_or_eq_of_le hij with z | z
    · have hle : κ.kle k l := hs _ _ x y (Nat.le_add_right _ _) (show base + i < base + j by (first | lia | omega)) (by (first | lia | omega)) hx hy k l kx ky
      unfold isBeyond at h ⊢
      cases left with
      | true =>
        rw [if_pos rfl] at h ⊢
        exact KeyOrd.klt_of_kle_of_klt hle h
      | false =>
        rw [if_neg (fun z => nomatch z)] at h ⊢
        have h : κ.blt c l = false := by simpa using h
        have : κ.kle k c := KeyOrd.kle_trans hle h
        have : κ.blt c k = false := this
        rw [this]
        rfl
    · subst z
      rw [hx] at hy
      cases hy
      rw [kx] at ky
      cases ky
      exact h
  · rw [← GB_at hx hl]
    exact g1 i hi
  · rw [← GB_at hx hl]
    exact g2 i h1 h2
theorem gallop_run (T : Tells prog w A s κ kd) (kn : kindOf st = kd) {arr : Array Keyed} (hs : arr.toList.Pairwise (KR κ)) (ks : ∀ x ∈ arr.toList, ∃ k, κ.keyOf x.1 = some k) {left : Bool} {key : Keyed} {c : κ.α} (kc : κ.keyOf key.1 = some c) {base n hint : Nat} (hn : base + n ≤ arr.size) (hh : hint < n) {Q : Option Nat → SortSt → Prop}
    (q : ∀ k, k ≤ n → (∀ i x l, i < k → arr[base + i]? = some x → κ.keyOf x.1 = some l → isBeyond κ left c l = true) → (∀ i x l, k ≤ i → i < n → arr[base + i]? = some x → κ.keyOf x.1 = some l → isBeyond κ left c l = false) → Q (some k) st) : wpS (model prog w) A E s (gallop' left key arr base n hint) Q st :=
  gallop_seg T kn ks kc (fun i j x y _ hij _ hx hy => pair_at hs hij hx hy) hn hh q
structure MP (κ : KeyKind) (a b : Array Keyed) (st : SortSt) (out : Array Keyed) (i j : Nat) (u : SortSt) : Prop where
  lk : Lk st u
  mj : MJ κ a b out i j
  hi : i + 1 < a.size
  hj : j < b.size
noncomputable def MD (κ : KeyKind) (a b : Array Keyed) (st : SortSt) (r : Array Keyed) (u : SortSt) : Prop := Lk st u ∧ r.toList.Perm (a.toList ++ b.toList) ∧ r.toList.Pairwise (KR κ)
theorem mergeLo_at (T : Tells prog w A s κ kd) (kn : kindOf st = kd) {a b : Array Keyed} (ks : ∀ x ∈ a.toList ++ b.toList, ∃ k, κ.keyOf x.1 = some k) (ha : a.toList.Pairwise (KR κ)) (hb : b.toList.Pairwise (KR κ)) (h1 : 0 < a.size) (h2 : 0 < b.size)
    (hf : ∀ x y, b[0]? = some y → a[0]? = some x → KR κ y x) (hl : ∀ x, a[a.size - 1]? = some x → ∀ y ∈ b.toList, KR κ y x) {Q : Array Keyed → SortSt → Prop}
    (q : ∀ r u, MD κ a b st r u → Q r u) : wpS (model prog w) A E s (mergeLo' a b) Q st := by
  unfold mergeLo'
  refine wpS_bind (wpS_lift (wpAny_rule ⟨rfl, ?_⟩))
  have ea : ∀ {i}, i < a.size → ∃ x k, a[i]? = some x ∧ κ.keyOf x.1 = some k := fun {i} h => by
    have e : a[i]? = some a[i] := getElem?_pos a i h
    obtain ⟨k, hk⟩ := ks a[i] (List.mem_append_left _ (by simp))
    exact ⟨_, k, e, hk⟩
  have eb : ∀ {i}, i < b.size → ∃ x k, b[i]? = some x ∧ κ.keyOf x.1 = some k := fun {i} h => by
    have e : b[i]? = some b[i] := getElem?_pos b i h
    obtain ⟨k, hk⟩ := ks b[i] (List.mem_append_right _ (by simp))
    exact ⟨_, k, e, hk⟩
  obtain ⟨y0, l0, hy0, hl0⟩ := eb h2
  obtain ⟨x0, k0, hx0, hk0⟩ := ea h1
  refine wpS_bind (elem_at hy0 ?_)
  have J0 : MJ κ a b #[] 0 0 := ⟨⟨List.Perm.refl _, List.Pairwise.nil, (fun x hx => nomatch hx), ha, hb⟩, ks⟩
  have J1 : MJ κ a b #[y0] 0 1 := J0.pushB hx0 hy0 (hf x0 y0 hy0 hx0)
  have L0 : Lk st st := ⟨rfl, rfl, rfl, rfl⟩
  show wpS _ _ _ _ (if (1 == b.size) = true then _ else _) _ st
  by_cases c1 : (1 == b.size) = true
  · rw [if_pos c1]
    exact wpS_pure (q _ _ ⟨L0, J1.ab (.inr (Nat.le_of_eq (beq_iff_eq.mp c1).symm))⟩)
  rw [if_neg c1]
  show wpS _ _ _ _ (if (0 + 1 == a.size) = true then _ else _) _ st
  by_cases c2 : (0 + 1 == a.size) = true
  · have e1 : 0 + 1 = a.size := beq_iff_eq.mp c2
    rw [if_pos c2]
    exact wpS_pure (q _ _ ⟨L0, J1.ba e1 hx0 (hl x0 (by rw [← e1]; exact hx0))⟩)
  rw [if_neg c2]
  have n1 : 1 < b.size := by
    have : ¬ 1 = b.size := fun z => c1 (beq_iff_eq.mpr z)
    (first | lia | omega)
  have n2 : 0 + 1 < a.size := by
    have : ¬ 0 + 1 = a.size := fun z => c2 (beq_iff_eq.mpr z)
    (first | lia | omega)
  refine wpS_bind (wpS_get ?_)
  refine wpS_bind (wpS_mono (wpS_forRange (I := fun t c u => ∃ out i j g, c = (none, out, i, j, g) ∧ MP κ a b st out i j u ∧ t + 1 ≤ i + j) (Q := fun c u => ∃ r rest, c = (some r, rest) ∧ MD κ a b st r u) (fun t c u _ ht hI => ?_) (fun c u hI => ?_) ⟨#[y0], 0, 1, _, rfl, ⟨L0, J1, n2, n1⟩, Nat.le_refl _⟩) fun c u hI => ?_)
  · obtain ⟨out, i, j, g, rfl, P, hm⟩ := hI
    refine wpS_bind (wpS_mono (wpS_forRange (I := fun t' c u => ∃ out i' j' x y, c = (none, out, i', j', x, y) ∧ MP κ a b st out i' j' u ∧ i + j + t' ≤ i' + j') (Q := fun c u => (∃ out i' j' x y, c = (none, out, i', j', x, y) ∧ MP κ a b st out i' j' u ∧ i + j + 1 ≤ i' + j') ∨ ∃ r rest, c = (some r, rest) ∧ MD κ a b st r u) (fun t' c u _ ht' hI => ?_) (fun c u hI => ?_) ⟨out, i, j, _, _, rfl, P, Nat.le_refl _⟩) fun c u hI => ?_)
    · obtain ⟨out, i', j', x, y, rfl, P, hm'⟩ := hI
      obtain ⟨xa, ka, hxa, hka⟩ := ea (i := i') (by have := P.hi; (first | lia | omega))
      obtain ⟨yb, kb, hyb, hkb⟩ := eb (i := j') P.hj
      refine wpS_bind (elem_at hyb (wpS_bind (elem_at hxa (wpS_bind (lt_tells T (P.lk.kn.trans kn) hkb hka ?_)))))
      cases lt : κ.blt kb ka with
      | true =>
        refine wpS_bind (elem_at hyb ?_)
        have J := P.mj.pushB hxa hyb (KR.of hkb hka (KeyOrd.kle_of_klt lt))
        show wpS _ _ _ _ (if (j' + 1 == b.size) = true then _ else _) _ u
        by_cases d1 : (j' + 1 == b.size) = true
        · rw [if_pos d1]
          exact wpS_pure (.inr ⟨_, _, rfl, P.lk, J.ab (.inr (Nat.le_of_eq (beq_iff_eq.mp d1).symm))⟩)
        · rw [if_neg d1]
          have d2 : ¬ j' + 1 = b.size := fun z => d1 (beq_iff_eq.mpr z)
          have P2 : MP κ a b st (out.push yb) i' (j' + 1) u := ⟨P.lk, J, P.hi, by have := P.hj; (first | lia | omega)⟩
          split
          · exact wpS_pure (.inl ⟨out.push yb, i', j' + 1, _, _, rfl, P2, by (first | lia | omega)⟩)
          · exact wpS_pure ⟨out.push yb, i', j' + 1, _, _, rfl, P2, by (first | lia | omega)⟩
      | false =>
        refine wpS_bind (elem_at hxa ?_)
        have J := P.mj.pushA hxa hyb (KR.of hka hkb lt)
        show wpS _ _ _ _ (if (i' + 1 + 1 == a.size) = true then _ else _) _ u
        by_cases d1 : (i' + 1 + 1 == a.size) = true
        · have e1 := beq_iff_eq.mp d1
          obtain ⟨xl, kl, hxl, _⟩ := ea (i := i' + 1) (by (first | lia | omega))
          rw [if_pos d1]
          exact wpS_pure (.inr ⟨_, _, rfl, P.lk, J.ba e1 hxl (hl xl (by rw [← e1]; exact hxl))⟩)
        · rw [if_neg d1]
          have d2 : ¬ i' + 1 + 1 = a.size := fun z => d1 (beq_iff_eq.mpr z)
          have P2 : MP κ a b st (out.push xa) (i' + 1) j' u := ⟨P.lk, J, by have := P.hi; (first | lia | omega), P.hj⟩
          split
          · exact wpS_pure (.inl ⟨out.push xa, i' + 1, j', _, _, rfl, P2, by (first | lia | omega)⟩)
          · exact wpS_pure ⟨out.push xa, i' + 1, j', _, _, rfl, P2, by (first | lia | omega)⟩
    · obtain ⟨out, i', j', x, y, rfl, P, hm'⟩ := hI
      exact .inl ⟨out, i', j', _, _, rfl, P, by (first | lia | omega)⟩
    · rcases hI with ⟨out, i', j', x, y, rfl, P, hm'⟩ | ⟨r, rest, rfl, hD⟩
      · refine wpS_bind (wpS_lift (wpAny_rule ⟨rfl, ?_⟩))
        refine wpS_bind (wpS_mono (wpS_forRange (I := fun t' c u => ∃ out i2 j2 g x y, c = (none, out, i2, j2, g, x, y) ∧ MP κ a b st out i2 j2 u ∧ i + j + 1 ≤ i2 + j2) (Q := fun c u => (∃ out i2 j2 g x y, c = (none, out, i2, j2, g, x, y) ∧ MP κ a b st out i2 j2 u ∧ i + j + 1 ≤ i2 + j2) ∨ ∃ r rest, c = (some r, rest) ∧ MD κ a b st r u) (fun t' c u _ ht' hI => ?_) (fun c u hI => ?_) ⟨out, i', j', _, _, _, rfl, P, hm'⟩) fun c u hI => ?_)
        · obtain ⟨out, i2, j2, g, x, y, rfl, P, hm2⟩ := hI
          have p1 := P.hi
          have p2 := P.hj
          obtain ⟨yb, kb, hyb, hkb⟩ := eb (i := j2) p2
          have K2 := P.lk.kn.trans kn
          have L2 : ∀ {v : SortSt}, kindOf v = kindOf u → arrOf v = arrOf u → pendingOf v = pendingOf u → failedOf v = failedOf u → Lk st v := fun h1 h2 h3 h4 => ⟨h1.trans P.lk.kn, h2.trans P.lk.ar, h3.trans P.lk.pn, h4.trans P.lk.fl⟩
          show wpS _ _ _ _ (if g > 1 then _ else _) _ u
          split
          all_goals
            refine wpS_bind (wpS_modify ?_)
            refine wpS_bind (elem_at hyb (wpS_bind (gallop_run T (by exact K2) ha (fun x hx => ks x (List.mem_append_left _ hx)) hkb (base := i2) (n := a.size - i2) (hint := 0) (by (first | lia | omega)) (by (first | lia | omega)) fun k hk h1 h2 => ?_)))
            have JA : MJ κ a b (out ++ a.extract i2 (i2 + k)) (i2 + k) j2 := P.mj.sliceA hyb fun n x hn hx => by
              obtain ⟨l, hl'⟩ := ks x (List.mem_append_left _ (List.mem_of_getElem? (by rw [Array.getElem?_toList]; exact hx)))
              have z := h1 n x l hn hx hl'
              unfold isBeyond at z
              rw [if_neg (fun z => nomatch z)] at z
              have z : κ.blt kb l = false := by simpa using z
              exact KR.of hl' hkb z
            show wpS _ _ _ _ (if k > 0 then _ else _) _ _
            by_cases k0 : k > 0
            · rw [if_pos k0]
              show wpS _ _ _ _ (if (i2 + k + 1 == a.size) = true then _ else _) _ _
              by_cases d1 : (i2 + k + 1 == a.size) = true
              · have e1 := beq_iff_eq.mp d1
                obtain ⟨xl, kl, hxl, _⟩ := ea (i := i2 + k) (by (first | lia | omega))
                rw [if_pos d1]
                exact wpS_pure (.inr ⟨_, _, rfl, L2 rfl rfl rfl rfl, JA.ba e1 hxl (hl xl (by rw [← e1]; exact hxl))⟩)
              · rw [if_neg d1]
                have d2 : ¬ i2 + k + 1 = a.size := fun z => d1 (beq_iff_eq.mpr z)
                show wpS _ _ _ _ (if (i2 + k == a.size) = true then _ else _) _ _
                by_cases d3 : (i2 + k == a.size) = true
                · rw [if_pos d3]
                  exact wpS_pure (.inr ⟨_, _, rfl, L2 rfl rfl rfl rfl, JA.ab (.inl (Nat.le_of_eq (beq_iff_eq.mp d3).symm))⟩)
                · rw [if_neg d3]
                  have d4 : ¬ i2 + k = a.size := fun z => d3 (beq_iff_eq.mpr z)
                  have k0' : k = k := rfl
                  obtain ⟨xa, ka, hxa, hka⟩ := ea (i := (i2 + k)) (by (first | lia | omega))
                  have hya : KR κ yb xa := KR.of hkb hka (by
                    have z := h2 k xa ka (Nat.le_refl _) (by (first | lia | omega)) (by first | exact hxa | (rw [k0']; exact hxa)) hka
                    unfold isBeyond at z
                    rw [if_neg (fun z => nomatch z)] at z
                    have z : κ.blt kb ka = true := by simpa using z
                    exact KeyOrd.kle_of_klt z)
                  refine wpS_bind (elem_at hyb ?_)
                  have J2 := MJ.pushB JA hxa hyb hya
                  show wpS _ _ _ _ (if (j2 + 1 == b.size) = true then _ else _) _ _
                  by_cases e1 : (j2 + 1 == b.size) = true
                  · rw [if_pos e1]
                    exact wpS_pure (.inr ⟨_, _, rfl, L2 rfl rfl rfl rfl, J2.ab (.inr (Nat.le_of_eq (beq_iff_eq.mp e1).symm))⟩)
                  · rw [if_neg e1]
                    have e2 : ¬ j2 + 1 = b.size := fun z => e1 (beq_iff_eq.mpr z)
                    refine wpS_bind (elem_at hxa (wpS_bind (gallop_run T (by exact K2) hb (fun x hx => ks x (List.mem_append_right _ hx)) hka (base := j2 + 1) (n := b.size - (j2 + 1)) (hint := 0) (by (first | lia | omega)) (by (first | lia | omega)) fun k' hk' h1' h2' => ?_)))
                    have JB : MJ κ a b _ (i2 + k) (j2 + 1 + k') := J2.sliceB hxa fun n y hn hy => by
                      obtain ⟨l, hl'⟩ := ks y (List.mem_append_right _ (List.mem_of_getElem? (by rw [Array.getElem?_toList]; exact hy)))
                      have z := h1' n y l hn hy hl'
                      unfold isBeyond at z
                      rw [if_pos rfl] at z
                      exact KR.of hl' hka (KeyOrd.kle_of_klt z)
                    show wpS _ _ _ _ (if k' > 0 then _ else _) _ _
                    by_cases m0 : k' > 0
                    · rw [if_pos m0]
                      show wpS _ _ _ _ (if (j2 + 1 + k' == b.size) = true then _ else _) _ _
                      by_cases g1' : (j2 + 1 + k' == b.size) = true
                      · rw [if_pos g1']
                        exact wpS_pure (.inr ⟨_, _, rfl, L2 rfl rfl rfl rfl, JB.ab (.inr (Nat.le_of_eq (beq_iff_eq.mp g1').symm))⟩)
                      · rw [if_neg g1']
                        have g3 : ¬ j2 + 1 + k' = b.size := fun z => g1' (beq_iff_eq.mpr z)
                        obtain ⟨yc, kc, hyc, hkc⟩ := eb (i := j2 + 1 + k') (by (first | lia | omega))
                        have hac : KR κ xa yc := KR.of hka hkc (by
                          have z := h2' k' yc kc (by (first | lia | omega)) (by (first | lia | omega)) (hyc) hkc
                          unfold isBeyond at z
                          rw [if_pos rfl] at z
                          exact z)
                        refine wpS_bind (elem_at hxa ?_)
                        have J3 := MJ.pushA JB hxa hyc hac
                        show wpS _ _ _ _ (if ((i2 + k) + 1 + 1 == a.size) = true then _ else _) _ _
                        by_cases f1 : ((i2 + k) + 1 + 1 == a.size) = true
                        · have e1 := beq_iff_eq.mp f1
                          obtain ⟨xl, kl, hxl, _⟩ := ea (i := (i2 + k) + 1) (by (first | lia | omega))
                          rw [if_pos f1]
                          exact wpS_pure (.inr ⟨_, _, rfl, L2 rfl rfl rfl rfl, J3.ba e1 hxl (hl xl (by rw [← e1]; exact hxl))⟩)
                        · rw [if_neg f1]
                          have f2 : ¬ (i2 + k) + 1 + 1 = a.size := fun z => f1 (beq_iff_eq.mpr z)
                          split
                          · exact wpS_pure (.inl ⟨_, (i2 + k) + 1, j2 + 1 + k', _, _, _, rfl, ⟨L2 rfl rfl rfl rfl, J3, by (first | lia | omega), by (first | lia | omega)⟩, by (first | lia | omega)⟩)
                          · exact wpS_pure ⟨_, (i2 + k) + 1, j2 + 1 + k', _, _, _, rfl, ⟨L2 rfl rfl rfl rfl, J3, by (first | lia | omega), by (first | lia | omega)⟩, by (first | lia | omega)⟩
                    · rw [if_neg m0]
                      have m1 : k' = 0 := by (first | lia | omega)
                      obtain ⟨yc, kc, hyc, hkc⟩ := eb (i := j2 + 1) (by (first | lia | omega))
                      have hac : KR κ xa yc := KR.of hka hkc (by
                        have z := h2' 0 yc kc (by (first | lia | omega)) (by (first | lia | omega)) (hyc) hkc
                        unfold isBeyond at z
                        rw [if_pos rfl] at z
                        exact z)
                      refine wpS_bind (elem_at hxa ?_)
                      have J3 := MJ.pushA J2 hxa hyc hac
                      show wpS _ _ _ _ (if ((i2 + k) + 1 + 1 == a.size) = true then _ else _) _ _
                      by_cases f1 : ((i2 + k) + 1 + 1 == a.size) = true
                      · have e1 := beq_iff_eq.mp f1
                        obtain ⟨xl, kl, hxl, _⟩ := ea (i := (i2 + k) + 1) (by (first | lia | omega))
                        rw [if_pos f1]
                        exact wpS_pure (.inr ⟨_, _, rfl, L2 rfl rfl rfl rfl, J3.ba e1 hxl (hl xl (by rw [← e1]; exact hxl))⟩)
                      · rw [if_neg f1]
                        have f2 : ¬ (i2 + k) + 1 + 1 = a.size := fun z => f1 (beq_iff_eq.mpr z)
                        split
                        · exact wpS_pure (.inl ⟨_, (i2 + k) + 1, j2 + 1, _, _, _, rfl, ⟨L2 rfl rfl rfl rfl, J3, by (first | lia | omega), by (first | lia | omega)⟩, by (first | lia | omega)⟩)
                        · exact wpS_pure ⟨_, (i2 + k) + 1, j2 + 1, _, _, _, rfl, ⟨L2 rfl rfl rfl rfl, J3, by (first | lia | omega), by (first | lia | omega)⟩, by (first | lia | omega)⟩
            · rw [if_neg k0]
              have k0' : k = 0 := by (first | lia | omega)
              obtain ⟨xa, ka, hxa, hka⟩ := ea (i := i2) (by (first | lia | omega))
              have hya : KR κ yb xa := KR.of hkb hka (by
                have z := h2 k xa ka (Nat.le_refl _) (by (first | lia | omega)) (by first | exact hxa | (rw [k0']; exact hxa)) hka
                unfold isBeyond at z
                rw [if_neg (fun z => nomatch z)] at z
                have z : κ.blt kb ka = true := by simpa using z
                exact KeyOrd.kle_of_klt z)
              refine wpS_bind (elem_at hyb ?_)
              have J2 := MJ.pushB P.mj hxa hyb hya
              show wpS _ _ _ _ (if (j2 + 1 == b.size) = true then _ else _) _ _
              by_cases e1 : (j2 + 1 == b.size) = true
              · rw [if_pos e1]
                exact wpS_pure (.inr ⟨_, _, rfl, L2 rfl rfl rfl rfl, J2.ab (.inr (Nat.le_of_eq (beq_iff_eq.mp e1).symm))⟩)
              · rw [if_neg e1]
                have e2 : ¬ j2 + 1 = b.size := fun z => e1 (beq_iff_eq.mpr z)
                refine wpS_bind (elem_at hxa (wpS_bind (gallop_run T (by exact K2) hb (fun x hx => ks x (List.mem_append_right _ hx)) hka (base := j2 + 1) (n := b.size - (j2 + 1)) (hint := 0) (by (first | lia | omega)) (by (first | lia | omega)) fun k' hk' h1' h2' => ?_)))
                have JB : MJ κ a b _ i2 (j2 + 1 + k') := J2.sliceB hxa fun n y hn hy => by
                  obtain ⟨l, hl'⟩ := ks y (List.mem_append_right _ (List.mem_of_getElem? (by rw [Array.getElem?_toList]; exact hy)))
                  have z := h1' n y l hn hy hl'
                  unfold isBeyond at z
                  rw [if_pos rfl] at z
                  exact KR.of hl' hka (KeyOrd.kle_of_klt z)
                show wpS _ _ _ _ (if k' > 0 then _ else _) _ _
                by_cases m0 : k' > 0
                · rw [if_pos m0]
                  show wpS _ _ _ _ (if (j2 + 1 + k' == b.size) = true then _ else _) _ _
                  by_cases g1' : (j2 + 1 + k' == b.size) = true
                  · rw [if_pos g1']
                    exact wpS_pure (.inr ⟨_, _, rfl, L2 rfl rfl rfl rfl, JB.ab (.inr (Nat.le_of_eq (beq_iff_eq.mp g1').symm))⟩)
                  · rw [if_neg g1']
                    have g3 : ¬ j2 + 1 + k' = b.size := fun z => g1' (beq_iff_eq.mpr z)
                    obtain ⟨yc, kc, hyc, hkc⟩ := eb (i := j2 + 1 + k') (by (first | lia | omega))
                    have hac : KR κ xa yc := KR.of hka hkc (by
                      have z := h2' k' yc kc (by (first | lia | omega)) (by (first | lia | omega)) (hyc) hkc
                      unfold isBeyond at z
                      rw [if_pos rfl] at z
                      exact z)
                    refine wpS_bind (elem_at hxa ?_)
                    have J3 := MJ.pushA JB hxa hyc hac
                    show wpS _ _ _ _ (if (i2 + 1 + 1 == a.size) = true then _ else _) _ _
                    by_cases f1 : (i2 + 1 + 1 == a.size) = true
                    · have e1 := beq_iff_eq.mp f1
                      obtain ⟨xl, kl, hxl, _⟩ := ea (i := i2 + 1) (by (first | lia | omega))
                      rw [if_pos f1]
                      exact wpS_pure (.inr ⟨_, _, rfl, L2 rfl rfl rfl rfl, J3.ba e1 hxl (hl xl (by rw [← e1]; exact hxl))⟩)
                    · rw [if_neg f1]
                      have f2 : ¬ i2 + 1 + 1 = a.size := fun z => f1 (beq_iff_eq.mpr z)
                      split
                      · exact wpS_pure (.inl ⟨_, i2 + 1, j2 + 1 + k', _, _, _, rfl, ⟨L2 rfl rfl rfl rfl, J3, by (first | lia | omega), by (first | lia | omega)⟩, by (first | lia | omega)⟩)
                      · exact wpS_pure ⟨_, i2 + 1, j2 + 1 + k', _, _, _, rfl, ⟨L2 rfl rfl rfl rfl, J3, by (first | lia | omega), by (first | lia | omega)⟩, by (first | lia | omega)⟩
                · rw [if_neg m0]
                  have m1 : k' = 0 := by (first | lia | omega)
                  obtain ⟨yc, kc, hyc, hkc⟩ := eb (i := j2 + 1) (by (first | lia | omega))
                  have hac : KR κ xa yc := KR.of hka hkc (by
                    have z := h2' 0 yc kc (by (first | lia | omega)) (by (first | lia | omega)) (hyc) hkc
                    unfold isBeyond at z
                    rw [if_pos rfl] at z
                    exact z)
                  refine wpS_bind (elem_at hxa ?_)
                  have J3 := MJ.pushA J2 hxa hyc hac
                  show wpS _ _ _ _ (if (i2 + 1 + 1 == a.size) = true then _ else _) _ _
                  by_cases f1 : (i2 + 1 + 1 == a.size) = true
                  · have e1 := beq_iff_eq.mp f1
                    obtain ⟨xl, kl, hxl, _⟩ := ea (i := i2 + 1) (by (first | lia | omega))
                    rw [if_pos f1]
                    exact wpS_pure (.inr ⟨_, _, rfl, L2 rfl rfl rfl rfl, J3.ba e1 hxl (hl xl (by rw [← e1]; exact hxl))⟩)
                  · rw [if_neg f1]
                    have f2 : ¬ i2 + 1 + 1 = a.size := fun z => f1 (beq_iff_eq.mpr z)
                    split
                    · exact wpS_pure (.inl ⟨_, i2 + 1, j2 + 1, _, _, _, rfl, ⟨L2 rfl rfl rfl rfl, J3, by (first | lia | omega), by (first | lia | omega)⟩, by (first | lia | omega)⟩)
                    · exact wpS_pure ⟨_, i2 + 1, j2 + 1, _, _, _, rfl, ⟨L2 rfl rfl rfl rfl, J3, by (first | lia | omega), by (first | lia | omega)⟩, by (first | lia | omega)⟩
        · obtain ⟨out, i2, j2, g, x, y, rfl, P, hm2⟩ := hI
          exact .inl ⟨out, i2, j2, _, _, _, rfl, P, hm2⟩
        · rcases hI with ⟨out, i2, j2, g, x, y, rfl, P, hm2⟩ | ⟨r, rest, rfl, hD⟩
          · refine wpS_bind (wpS_modify (wpS_pure ⟨out, i2, j2, _, rfl, ⟨⟨P.lk.kn, P.lk.ar, P.lk.pn, P.lk.fl⟩, P.mj, P.hi, P.hj⟩, by (first | lia | omega)⟩))
          · exact wpS_pure ⟨_, _, rfl, hD⟩
      · exact wpS_pure ⟨_, _, rfl, hD⟩
  · obtain ⟨out, i, j, g, rfl, P, hm⟩ := hI
    have := P.hi
    have := P.hj
    (first | lia | omega)
  · obtain ⟨r, rest, rfl, hD⟩ := hI
    exact wpS_pure (q r u hD)
end
theorem MI.someBG {α : Type} {R : α → α → Prop} {xs ys out l ra rb : List α} {x : α} (tr : ∀ y z, R y x → R x z → R y z) (h : MI R xs ys out (x :: ra) (l ++ rb)) (hl : ∀ y ∈ l, R y x) : MI R xs ys (out ++ l) (x :: ra) rb := by
  refine h.takeBs fun y hy z hz => ?_
  rcases List.mem_cons.mp hz with rfl | hz
  · exact hl y hy
  · exact tr y z (hl y hy) ((List.pairwise_cons.mp h.ua).1 z hz)
theorem MI.someAG {α : Type} {R : α → α → Prop} {xs ys out l ra rb : List α} {y : α} (tr : ∀ x z, R x y → R y z → R x z) (h : MI R xs ys out (l ++ ra) (y :: rb)) (hl : ∀ x ∈ l, R x y) : MI R xs ys (out ++ l) ra (y :: rb) := by
  refine h.takeAs fun x hx z hz => ?_
  rcases List.mem_cons.mp hz with rfl | hz
  · exact hl x hx
  · exact tr x z (hl x hx) ((List.pairwise_cons.mp h.ub).1 z hz)
theorem rev_take {α : Type} {l : List α} {i : Nat} {x : α} (h : l[i]? = some x) : (l.take (i + 1)).reverse = x :: (l.take i).reverse := by
  rw [List.take_add_one, h, List.reverse_append]
  rfl
theorem rev_cut {α : Type} (l : List α) {i n : Nat} (h : i ≤ n) : (l.take n).reverse = ((l.drop i).take (n - i)).reverse ++ (l.take i).reverse := by
  rw [← List.reverse_append]
  congr 1
  have e := (List.take_append_drop i (l.take n)).symm
  rwa [List.take_take, Nat.min_eq_left h, List.drop_take] at e
structure MK (κ : KeyKind) (a b out : Array Keyed) (i j : Nat) : Prop where
  mi : MI (fun x y => KR κ y x) a.toList b.toList out.toList (a.toList.take i).reverse (b.toList.take j).reverse
  ks : ∀ x ∈ a.toList ++ b.toList, ∃ k, κ.keyOf x.1 = some k
theorem MK.pushA {κ : KeyKind} {a b out : Array Keyed} {i j : Nat} {x y : Keyed} (h : MK κ a b out (i + 1) (j + 1)) (hx : a[i]? = some x) (hy : b[j]? = some y) (hl : KR κ y x) : MK κ a b (out.push x) i (j + 1) := by
  have hx' : a.toList[i]? = some x := by rw [Array.getElem?_toList]; exact hx
  have hy' : b.toList[j]? = some y := by rw [Array.getElem?_toList]; exact hy
  have m := h.mi
  rw [rev_take hx', rev_take hy'] at m
  refine ⟨?_, h.ks⟩
  rw [Array.toList_push, rev_take hy']
  exact MI.someAG (l := [x]) (fun u z h1 h2 => KR.trans (h.ks y (List.mem_append_right _ (List.mem_of_getElem? hy'))) h2 h1) m fun z hz => by rw [List.mem_singleton.mp hz]; exact hl
theorem MK.pushB {κ : KeyKind} {a b out : Array Keyed} {i j : Nat} {x y : Keyed} (h : MK κ a b out (i + 1) (j + 1)) (hx : a[i]? = some x) (hy : b[j]? = some y) (hl : KR κ x y) : MK κ a b (out.push y) (i + 1) j := by
  have hx' : a.toList[i]? = some x := by rw [Array.getElem?_toList]; exact hx
  have hy' : b.toList[j]? = some y := by rw [Array.getElem?_toList]; exact hy
  have m := h.mi
  rw [rev_take hx', rev_take hy'] at m
  refine ⟨?_, h.ks⟩
  rw [Array.toList_push, rev_take hx']
  exact MI.someBG (l := [y]) (fun u z h1 h2 => KR.trans (h.ks x (List.mem_append_left _ (List.mem_of_getElem? hx'))) h2 h1) m fun z hz => by rw [List.mem_singleton.mp hz]; exact hl
theorem mem_cutR {xs : Array Keyed} {i n : Nat} {x : Keyed} (h : x ∈ ((xs.toList.drop i).take (n - i)).reverse) : ∃ m, i ≤ m ∧ m < n ∧ xs[m]? = some x := by
  obtain ⟨m, hm, e⟩ := mem_cut (List.mem_reverse.mp h)
  exact ⟨i + m, by (first | lia | omega), by (first | lia | omega), e⟩
theorem MK.sliceA {κ : KeyKind} {a b out : Array Keyed} {i n j : Nat} {y : Keyed} (h : MK κ a b out n (j + 1)) (hi : i ≤ n) (hy : b[j]? = some y) (hl : ∀ m x, i ≤ m → m < n → a[m]? = some x → KR κ y x) : MK κ a b (out ++ (a.extract i n).reverse) i (j + 1) := by
  have hy' : b.toList[j]? = some y := by rw [Array.getElem?_toList]; exact hy
  have m := h.mi
  rw [rev_take hy', rev_cut _ hi] at m
  refine ⟨?_, h.ks⟩
  rw [Array.toList_append, Array.toList_reverse, ext_list, rev_take hy']
  exact m.someAG (fun u z h1 h2 => KR.trans (h.ks y (List.mem_append_right _ (List.mem_of_getElem? hy'))) h2 h1) fun x hx => by
    obtain ⟨q, h1, h2, e⟩ := mem_cutR hx
    exact hl q x h1 h2 e
theorem MK.sliceB {κ : KeyKind} {a b out : Array Keyed} {i n j : Nat} {x : Keyed} (h : MK κ a b out (j + 1) n) (hi : i ≤ n) (hx : a[j]? = some x) (hl : ∀ m y, i ≤ m → m < n → b[m]? = some y → KR κ x y) : MK κ a b (out ++ (b.extract i n).reverse) (j + 1) i := by
  have hx' : a.toList[j]? = some x := by rw [Array.getElem?_toList]; exact hx
  have m := h.mi
  rw [rev_take hx', rev_cut _ hi] at m
  refine ⟨?_, h.ks⟩
  rw [Array.toList_append, Array.toList_reverse, ext_list, rev_take hx']
  exact m.someBG (fun u z h1 h2 => KR.trans (h.ks x (List.mem_append_left _ (List.mem_of_getElem? hx'))) h2 h1) fun y hy => by
    obtain ⟨q, h1, h2, e⟩ := mem_cutR hy
    exact hl q y h1 h2 e
theorem ext_zero (xs : Array Keyed) (i : Nat) : (xs.extract 0 i).toList = xs.toList.take i := by
  rw [ext_list, List.drop_zero, Nat.sub_zero]
theorem MK.ab {κ : KeyKind} {a b out : Array Keyed} {i j : Nat} (h : MK κ a b out i j) (hl : i = 0 ∨ j = 0) : (a.extract 0 i ++ b.extract 0 j ++ out.reverse).toList.Perm (a.toList ++ b.toList) ∧ (a.extract 0 i ++ b.extract 0 j ++ out.reverse).toList.Pairwise (KR κ) := by
  obtain ⟨h1, h2⟩ := h.mi.endB fun x hx y hy => by
    rcases hl with hl | hl
    · rw [hl] at hy
      cases hy
    · rw [hl] at hx
      cases hx
  have e : (a.extract 0 i ++ b.extract 0 j ++ out.reverse).toList = (out.toList ++ (b.toList.take j).reverse ++ (a.toList.take i).reverse).reverse := by
    rw [Array.toList_append, Array.toList_append, Array.toList_reverse, ext_zero, ext_zero, List.reverse_append, List.reverse_append, List.reverse_reverse, List.reverse_reverse, List.append_assoc]
  rw [e]
  exact ⟨(List.reverse_perm _).trans h1, List.pairwise_reverse.mpr h2⟩
theorem MK.ba {κ : KeyKind} {a b out : Array Keyed} {i j : Nat} {y : Keyed} (h : MK κ a b out i j) (hj : j = 1) (hy : b[0]? = some y) (hl : ∀ x ∈ a.toList, KR κ y x) : (b.extract 0 j ++ a.extract 0 i ++ out.reverse).toList.Perm (a.toList ++ b.toList) ∧ (b.extract 0 j ++ a.extract 0 i ++ out.reverse).toList.Pairwise (KR κ) := by
  subst hj
  have hy' : b.toList[0]? = some y := by rw [Array.getElem?_toList]; exact hy
  obtain ⟨h1, h2⟩ := h.mi.endA fun x hx z hz => by
    rw [rev_take hy', List.take_zero, List.reverse_nil, List.mem_singleton] at hz
    rw [hz]
    exact hl x (List.mem_of_mem_take (List.mem_reverse.mp hx))
  have e : (b.extract 0 1 ++ a.extract 0 i ++ out.reverse).toList = (out.toList ++ (a.toList.take i).reverse ++ (b.toList.take 1).reverse).reverse := by
    rw [Array.toList_append, Array.toList_append, Array.toList_reverse, ext_zero, ext_zero, List.reverse_append, List.reverse_append, List.reverse_reverse, List.reverse_reverse, List.append_assoc]
  rw [e]
  exact ⟨(List.reverse_perm _).trans h1, List.pairwise_reverse.mpr h2⟩
noncomputable def mergeHi' : Array Keyed → Array Keyed → StateT SortSt Sem (Array Keyed) := sortPriv% PySem.Builtin.mergeHi
section
variable {prog : Program} {w : World} {A : Around} {E : Value → Shared → Prop} {s : Shared} {o : Array Keyed} {κ : KeyKind} {kd : SortKind} {st : SortSt}
structure MQ (κ : KeyKind) (a b : Array Keyed) (st : SortSt) (out : Array Keyed) (i j : Nat) (u : SortSt) : Prop where
  lk : Lk st u
  mq : MK κ a b out (i + 1) (j + 2)
  hi : i + 1 ≤ a.size
  hj : j + 2 ≤ b.size
theorem mergeHi_at (T : Tells prog w A s κ kd) (kn : kindOf st = kd) {a b : Array Keyed} (ks : ∀ x ∈ a.toList ++ b.toList, ∃ k, κ.keyOf x.1 = some k) (ha : a.toList.Pairwise (KR κ)) (hb : b.toList.Pairwise (KR κ)) (h1 : 0 < a.size) (h2 : 0 < b.size)
    (hf : ∀ y, b[0]? = some y → ∀ x ∈ a.toList, KR κ y x) (hl : ∀ x y, a[a.size - 1]? = some x → b[b.size - 1]? = some y → KR κ y x) {Q : Array Keyed → SortSt → Prop}
    (q : ∀ r u, MD κ a b st r u → Q r u) : wpS (model prog w) A E s (mergeHi' a b) Q st := by
  unfold mergeHi'
  refine wpS_bind (wpS_lift (wpAny_rule ⟨rfl, ?_⟩))
  have ea : ∀ {i}, i < a.size → ∃ x k, a[i]? = some x ∧ κ.keyOf x.1 = some k := fun {i} h => by
    have e : a[i]? = some a[i] := getElem?_pos a i h
    obtain ⟨k, hk⟩ := ks a[i] (List.mem_append_left _ (by simp))
    exact ⟨_, k, e, hk⟩
  have eb : ∀ {i}, i < b.size → ∃ x k, b[i]? = some x ∧ κ.keyOf x.1 = some k := fun {i} h => by
    have e : b[i]? = some b[i] := getElem?_pos b i h
    obtain ⟨k, hk⟩ := ks b[i] (List.mem_append_right _ (by simp))
    exact ⟨_, k, e, hk⟩
  obtain ⟨yf, lf, hyf, _⟩ := eb h2
  obtain ⟨m, em⟩ : ∃ m, a.size = m + 1 := ⟨a.size - 1, by (first | lia | omega)⟩
  obtain ⟨n, en⟩ : ∃ n, b.size = n + 1 := ⟨b.size - 1, by (first | lia | omega)⟩
  obtain ⟨x0, k0, hx0, hk0⟩ := ea (i := m) (by (first | lia | omega))
  obtain ⟨y0, l0, hy0, hl0⟩ := eb (i := n) (by (first | lia | omega))
  have em1 : a.size - 1 = m := by (first | lia | omega)
  have J0 : MK κ a b #[] (m + 1) (n + 1) := by
    refine ⟨⟨?_, List.Pairwise.nil, (fun x hx => nomatch hx), ?_, ?_⟩, ks⟩
    · rw [List.take_of_length_le (by rw [Array.length_toList]; (first | lia | omega)), List.take_of_length_le (by rw [Array.length_toList]; (first | lia | omega))]
      show (List.reverse a.toList ++ List.reverse b.toList).Perm _
      exact List.Perm.append (List.reverse_perm _) (List.reverse_perm _)
    · exact List.pairwise_reverse.mpr (List.Pairwise.sublist (List.take_sublist _ _) ha)
    · exact List.pairwise_reverse.mpr (List.Pairwise.sublist (List.take_sublist _ _) hb)
  have J1 : MK κ a b #[x0] m (n + 1) := J0.pushA hx0 hy0 (hl x0 y0 (by rw [em1]; exact hx0) (by rw [en]; exact hy0))
  have L0 : Lk st st := ⟨rfl, rfl, rfl, rfl⟩
  rw [em1, en]
  refine wpS_bind (elem_at hx0 ?_)
  show wpS _ _ _ _ (if (m == 0) = true then _ else _) _ st
  by_cases c1 : (m == 0) = true
  · rw [if_pos c1]
    exact wpS_pure (q _ _ ⟨L0, J1.ab (.inl (beq_iff_eq.mp c1))⟩)
  rw [if_neg c1]
  show wpS _ _ _ _ (if (n + 1 == 1) = true then _ else _) _ st
  by_cases c2 : (n + 1 == 1) = true
  · rw [if_pos c2]
    exact wpS_pure (q _ _ ⟨L0, J1.ba (beq_iff_eq.mp c2) hyf (hf yf hyf)⟩)
  rw [if_neg c2]
  have n1 : ¬ m = 0 := fun z => c1 (beq_iff_eq.mpr z)
  have n2 : ¬ n + 1 = 1 := fun z => c2 (beq_iff_eq.mpr z)
  obtain ⟨m', rfl⟩ : ∃ m', m = m' + 1 := ⟨m - 1, by (first | lia | omega)⟩
  obtain ⟨n', rfl⟩ : ∃ n', n = n' + 1 := ⟨n - 1, by (first | lia | omega)⟩
  refine wpS_bind (wpS_get ?_)
  refine wpS_bind (wpS_mono (wpS_forRange (I := fun t c u => ∃ i j out g, c = (none, i + 1, j + 2, out, g) ∧ MQ κ a b st out i j u ∧ i + j + t ≤ m' + n') (Q := fun c u => ∃ r rest, c = (some r, rest) ∧ MD κ a b st r u) (fun t c u _ ht hI => ?_) (fun c u hI => ?_) ⟨m', n', #[x0], _, rfl, ⟨L0, J1, by (first | lia | omega), by (first | lia | omega)⟩, Nat.le_refl _⟩) fun c u hI => ?_)
  · obtain ⟨i, j, out, g, rfl, P, hm⟩ := hI
    refine wpS_bind (wpS_mono (wpS_forRange (I := fun t' c u => ∃ i' j' out x y, c = (none, i' + 1, j' + 2, out, x, y) ∧ MQ κ a b st out i' j' u ∧ i' + j' + t' ≤ i + j) (Q := fun c u => (∃ i' j' out x y, c = (none, i' + 1, j' + 2, out, x, y) ∧ MQ κ a b st out i' j' u ∧ i' + j' + 1 ≤ i + j) ∨ ∃ r rest, c = (some r, rest) ∧ MD κ a b st r u) (fun t' c u _ ht' hI => ?_) (fun c u hI => ?_) ⟨i, j, out, _, _, rfl, P, Nat.le_refl _⟩) fun c u hI => ?_)
    · obtain ⟨i', j', out, x, y, rfl, P, hm'⟩ := hI
      have p1 := P.hi
      have p2 := P.hj
      obtain ⟨xa, ka, hxa, hka⟩ := ea (i := i') (by (first | lia | omega))
      obtain ⟨yb, kb, hyb, hkb⟩ := eb (i := j' + 1) (by (first | lia | omega))
      refine wpS_bind (elem_at hyb (wpS_bind (elem_at hxa (wpS_bind (lt_tells T (P.lk.kn.trans kn) hkb hka ?_)))))
      cases lt : κ.blt kb ka with
      | true =>
        refine wpS_bind (elem_at hxa ?_)
        have J := P.mq.pushA hxa hyb (KR.of hkb hka (KeyOrd.kle_of_klt lt))
        show wpS _ _ _ _ (if (i' == 0) = true then _ else _) _ u
        by_cases d1 : (i' == 0) = true
        · rw [if_pos d1]
          exact wpS_pure (.inr ⟨_, _, rfl, P.lk, J.ab (.inl (beq_iff_eq.mp d1))⟩)
        · rw [if_neg d1]
          have d2 : ¬ i' = 0 := fun z => d1 (beq_iff_eq.mpr z)
          obtain ⟨i3, rfl⟩ : ∃ i3, i' = i3 + 1 := ⟨i' - 1, by (first | lia | omega)⟩
          have P2 : MQ κ a b st (out.push xa) i3 j' u := ⟨P.lk, J, by (first | lia | omega), p2⟩
          split
          · exact wpS_pure (.inl ⟨i3, j', out.push xa, _, _, rfl, P2, by (first | lia | omega)⟩)
          · exact wpS_pure ⟨i3, j', out.push xa, _, _, rfl, P2, by (first | lia | omega)⟩
      | false =>
        refine wpS_bind (elem_at hyb ?_)
        have J := P.mq.pushB hxa hyb (KR.of hka hkb lt)
        show wpS _ _ _ _ (if (j' + 1 == 1) = true then _ else _) _ u
        by_cases d1 : (j' + 1 == 1) = true
        · rw [if_pos d1]
          exact wpS_pure (.inr ⟨_, _, rfl, P.lk, J.ba (beq_iff_eq.mp d1) hyf (hf yf hyf)⟩)
        · rw [if_neg d1]
          have d2 : ¬ j' + 1 = 1 := fun z => d1 (beq_iff_eq.mpr z)
          obtain ⟨j3, rfl⟩ : ∃ j3, j' = j3 + 1 := ⟨j' - 1, by (first | lia | omega)⟩
          have P2 : MQ κ a b st (out.push yb) i' j3 u := ⟨P.lk, J, p1, by (first | lia | omega)⟩
          split
          · exact wpS_pure (.inl ⟨i', j3, out.push yb, _, _, rfl, P2, by (first | lia | omega)⟩)
          · exact wpS_pure ⟨i', j3, out.push yb, _, _, rfl, P2, by (first | lia | omega)⟩
    · obtain ⟨i', j', out, x, y, rfl, P, hm'⟩ := hI
      exact .inl ⟨i', j', out, _, _, rfl, P, by (first | lia | omega)⟩
    · rcases hI with ⟨i', j', out, x, y, rfl, P, hm'⟩ | ⟨r, rest, rfl, hD⟩
      · refine wpS_bind (wpS_lift (wpAny_rule ⟨rfl, ?_⟩))
        refine wpS_bind (wpS_mono (wpS_forRange (I := fun t' c u => ∃ i2 j2 out g x y, c = (none, i2 + 1, j2 + 2, out, g, x, y) ∧ MQ κ a b st out i2 j2 u ∧ i2 + j2 + 1 ≤ i + j) (Q := fun c u => (∃ i2 j2 out g x y, c = (none, i2 + 1, j2 + 2, out, g, x, y) ∧ MQ κ a b st out i2 j2 u ∧ i2 + j2 + 1 ≤ i + j) ∨ ∃ r rest, c = (some r, rest) ∧ MD κ a b st r u) (fun t' c u _ ht' hI => ?_) (fun c u hI => ?_) ⟨i', j', out, _, _, _, rfl, P, hm'⟩) fun c u hI => ?_)
        · obtain ⟨i2, j2, out, g, x, y, rfl, P, hm2⟩ := hI
          have p1 := P.hi
          have p2 := P.hj
          obtain ⟨yb, kb, hyb, hkb⟩ := eb (i := j2 + 1) (by (first | lia | omega))
          have K2 := P.lk.kn.trans kn
          have L2 : ∀ {v : SortSt}, kindOf v = kindOf u → arrOf v = arrOf u → pendingOf v = pendingOf u → failedOf v = failedOf u → Lk st v := fun h1 h2 h3 h4 => ⟨h1.trans P.lk.kn, h2.trans P.lk.ar, h3.trans P.lk.pn, h4.trans P.lk.fl⟩
          show wpS _ _ _ _ (if g > 1 then _ else _) _ u
          split
          all_goals
            refine wpS_bind (wpS_modify ?_)
            refine wpS_bind (elem_at hyb (wpS_bind (gallop_run T (by exact K2) ha (fun x hx => ks x (List.mem_append_left _ hx)) hkb (base := 0) (n := i2 + 1) (hint := i2) (by (first | lia | omega)) (by (first | lia | omega)) fun k hk h1 h2 => ?_)))
            have JA : MK κ a b (out ++ (a.extract k (i2 + 1)).reverse) k (j2 + 2) := P.mq.sliceA hk hyb fun n x hn1 hn2 hx => by
              obtain ⟨l, hl'⟩ := ks x (List.mem_append_left _ (List.mem_of_getElem? (by rw [Array.getElem?_toList]; exact hx)))
              have z := h2 n x l hn1 hn2 (by rw [Nat.zero_add]; exact hx) hl'
              unfold isBeyond at z
              rw [if_neg (fun z => nomatch z)] at z
              have z : κ.blt kb l = true := by simpa using z
              exact KR.of hkb hl' (KeyOrd.kle_of_klt z)
            show wpS _ _ _ _ (if i2 + 1 - k > 0 then _ else _) _ _
            by_cases k0 : i2 + 1 - k > 0
            · rw [if_pos k0]
              show wpS _ _ _ _ (if (k == 0) = true then _ else _) _ _
              by_cases d1 : (k == 0) = true
              · rw [if_pos d1]
                exact wpS_pure (.inr ⟨_, _, rfl, L2 rfl rfl rfl rfl, JA.ab (.inl (beq_iff_eq.mp d1))⟩)
              · rw [if_neg d1]
                have d2 : ¬ k = 0 := fun z => d1 (beq_iff_eq.mpr z)
                obtain ⟨i3, rfl⟩ : ∃ i3, k = i3 + 1 := ⟨k - 1, by (first | lia | omega)⟩
                obtain ⟨xa, ka, hxa, hka⟩ := ea (i := i3) (by (first | lia | omega))
                have hay : KR κ xa yb := KR.of hka hkb (by
                  have z := h1 i3 xa ka (by (first | lia | omega)) (by rw [Nat.zero_add]; exact hxa) hka
                  unfold isBeyond at z
                  rw [if_neg (fun z => nomatch z)] at z
                  have z : κ.blt kb ka = false := by simpa using z
                  exact z)
                refine wpS_bind (elem_at hyb ?_)
                have J2 := MK.pushB JA hxa hyb hay
                show wpS _ _ _ _ (if (j2 + 1 == 1) = true then _ else _) _ _
                by_cases e1 : (j2 + 1 == 1) = true
                · rw [if_pos e1]
                  exact wpS_pure (.inr ⟨_, _, rfl, L2 rfl rfl rfl rfl, J2.ba (beq_iff_eq.mp e1) hyf (hf yf hyf)⟩)
                · rw [if_neg e1]
                  have e2 : ¬ j2 + 1 = 1 := fun z => e1 (beq_iff_eq.mpr z)
                  obtain ⟨j3, rfl⟩ : ∃ j3, j2 = j3 + 1 := ⟨j2 - 1, by (first | lia | omega)⟩
                  refine wpS_bind (elem_at hxa (wpS_bind (gallop_run T (by exact K2) hb (fun x hx => ks x (List.mem_append_right _ hx)) hka (base := 0) (n := j3 + 2) (hint := j3 + 1) (by (first | lia | omega)) (by (first | lia | omega)) fun k' hk' h1' h2' => ?_)))
                  have JB : MK κ a b _ (i3 + 1) k' := J2.sliceB hk' hxa fun n y hn1 hn2 hy => by
                    obtain ⟨l, hl'⟩ := ks y (List.mem_append_right _ (List.mem_of_getElem? (by rw [Array.getElem?_toList]; exact hy)))
                    have z := h2' n y l hn1 hn2 (by rw [Nat.zero_add]; exact hy) hl'
                    unfold isBeyond at z
                    rw [if_pos rfl] at z
                    exact KR.of hka hl' z
                  show wpS _ _ _ _ (if j3 + 2 - k' > 0 then _ else _) _ _
                  by_cases m0 : j3 + 2 - k' > 0
                  · rw [if_pos m0]
                    show wpS _ _ _ _ (if (k' == 1) = true then _ else _) _ _
                    by_cases g1 : (k' == 1) = true
                    · rw [if_pos g1]
                      exact wpS_pure (.inr ⟨_, _, rfl, L2 rfl rfl rfl rfl, JB.ba (beq_iff_eq.mp g1) hyf (hf yf hyf)⟩)
                    · rw [if_neg g1]
                      have g2 : ¬ k' = 1 := fun z => g1 (beq_iff_eq.mpr z)
                      show wpS _ _ _ _ (if (k' == 0) = true then _ else _) _ _
                      by_cases g3 : (k' == 0) = true
                      · rw [if_pos g3]
                        exact wpS_pure (.inr ⟨_, _, rfl, L2 rfl rfl rfl rfl, JB.ab (.inr (beq_iff_eq.mp g3))⟩)
                      · rw [if_neg g3]
                        have g4 : ¬ k' = 0 := fun z => g3 (beq_iff_eq.mpr z)
                        obtain ⟨j4, rfl⟩ : ∃ j4, k' = j4 + 2 := ⟨k' - 2, by (first | lia | omega)⟩
                        obtain ⟨yc, kc, hyc, hkc⟩ := eb (i := j4 + 1) (by (first | lia | omega))
                        have hca : KR κ yc xa := KR.of hkc hka (by
                          have z := h1' (j4 + 1) yc kc (by (first | lia | omega)) (by rw [Nat.zero_add]; exact hyc) hkc
                          unfold isBeyond at z
                          rw [if_pos rfl] at z
                          exact KeyOrd.kle_of_klt z)
                        refine wpS_bind (elem_at hxa ?_)
                        have J3 := MK.pushA JB hxa hyc hca
                        show wpS _ _ _ _ (if (i3 == 0) = true then _ else _) _ _
                        by_cases f1 : (i3 == 0) = true
                        · rw [if_pos f1]
                          exact wpS_pure (.inr ⟨_, _, rfl, L2 rfl rfl rfl rfl, J3.ab (.inl (beq_iff_eq.mp f1))⟩)
                        · rw [if_neg f1]
                          have f2 : ¬ i3 = 0 := fun z => f1 (beq_iff_eq.mpr z)
                          obtain ⟨i5, e5⟩ : ∃ i5, i3 = i5 + 1 := ⟨i3 - 1, by (first | lia | omega)⟩
                          rw [e5] at J3 ⊢
                          split
                          · exact wpS_pure (.inl ⟨i5, j4, _, _, _, _, rfl, ⟨L2 rfl rfl rfl rfl, J3, by (first | lia | omega), by (first | lia | omega)⟩, by (first | lia | omega)⟩)
                          · exact wpS_pure ⟨i5, j4, _, _, _, _, rfl, ⟨L2 rfl rfl rfl rfl, J3, by (first | lia | omega), by (first | lia | omega)⟩, by (first | lia | omega)⟩
                  · rw [if_neg m0]
                    have m1 : k' = j3 + 2 := by (first | lia | omega)
                    subst m1
                    obtain ⟨yc, kc, hyc, hkc⟩ := eb (i := j3 + 1) (by (first | lia | omega))
                    have hca : KR κ yc xa := KR.of hkc hka (by
                      have z := h1' (j3 + 1) yc kc (by (first | lia | omega)) (by rw [Nat.zero_add]; exact hyc) hkc
                      unfold isBeyond at z
                      rw [if_pos rfl] at z
                      exact KeyOrd.kle_of_klt z)
                    refine wpS_bind (elem_at hxa ?_)
                    have J3 := MK.pushA J2 hxa hyc hca
                    show wpS _ _ _ _ (if (i3 == 0) = true then _ else _) _ _
                    by_cases f1 : (i3 == 0) = true
                    · rw [if_pos f1]
                      exact wpS_pure (.inr ⟨_, _, rfl, L2 rfl rfl rfl rfl, J3.ab (.inl (beq_iff_eq.mp f1))⟩)
                    · rw [if_neg f1]
                      have f2 : ¬ i3 = 0 := fun z => f1 (beq_iff_eq.mpr z)
                      obtain ⟨i5, e5⟩ : ∃ i5, i3 = i5 + 1 := ⟨i3 - 1, by (first | lia | omega)⟩
                      rw [e5] at J3 ⊢
                      split
                      · exact wpS_pure (.inl ⟨i5, j3, _, _, _, _, rfl, ⟨L2 rfl rfl rfl rfl, J3, by (first | lia | omega), by (first | lia | omega)⟩, by (first | lia | omega)⟩)
                      · exact wpS_pure ⟨i5, j3, _, _, _, _, rfl, ⟨L2 rfl rfl rfl rfl, J3, by (first | lia | omega), by (first | lia | omega)⟩, by (first | lia | omega)⟩
            · rw [if_neg k0]
              have k1 : k = i2 + 1 := by (first | lia | omega)
              subst k1
              obtain ⟨xa, ka, hxa, hka⟩ := ea (i := i2) (by (first | lia | omega))
              have hay : KR κ xa yb := KR.of hka hkb (by
                have z := h1 i2 xa ka (by (first | lia | omega)) (by rw [Nat.zero_add]; exact hxa) hka
                unfold isBeyond at z
                rw [if_neg (fun z => nomatch z)] at z
                have z : κ.blt kb ka = false := by simpa using z
                exact z)
              refine wpS_bind (elem_at hyb ?_)
              have J2 := MK.pushB P.mq hxa hyb hay
              show wpS _ _ _ _ (if (j2 + 1 == 1) = true then _ else _) _ _
              by_cases e1 : (j2 + 1 == 1) = true
              · rw [if_pos e1]
                exact wpS_pure (.inr ⟨_, _, rfl, L2 rfl rfl rfl rfl, J2.ba (beq_iff_eq.mp e1) hyf (hf yf hyf)⟩)
              · rw [if_neg e1]
                have e2 : ¬ j2 + 1 = 1 := fun z => e1 (beq_iff_eq.mpr z)
                obtain ⟨j3, rfl⟩ : ∃ j3, j2 = j3 + 1 := ⟨j2 - 1, by (first | lia | omega)⟩
                refine wpS_bind (elem_at hxa (wpS_bind (gallop_run T (by exact K2) hb (fun x hx => ks x (List.mem_append_right _ hx)) hka (base := 0) (n := j3 + 2) (hint := j3 + 1) (by (first | lia | omega)) (by (first | lia | omega)) fun k' hk' h1' h2' => ?_)))
                have JB : MK κ a b _ (i2 + 1) k' := J2.sliceB hk' hxa fun n y hn1 hn2 hy => by
                  obtain ⟨l, hl'⟩ := ks y (List.mem_append_right _ (List.mem_of_getElem? (by rw [Array.getElem?_toList]; exact hy)))
                  have z := h2' n y l hn1 hn2 (by rw [Nat.zero_add]; exact hy) hl'
                  unfold isBeyond at z
                  rw [if_pos rfl] at z
                  exact KR.of hka hl' z
                show wpS _ _ _ _ (if j3 + 2 - k' > 0 then _ else _) _ _
                by_cases m0 : j3 + 2 - k' > 0
                · rw [if_pos m0]
                  show wpS _ _ _ _ (if (k' == 1) = true then _ else _) _ _
                  by_cases g1 : (k' == 1) = true
                  · rw [if_pos g1]
                    exact wpS_pure (.inr ⟨_, _, rfl, L2 rfl rfl rfl rfl, JB.ba (beq_iff_eq.mp g1) hyf (hf yf hyf)⟩)
                  · rw [if_neg g1]
                    have g2 : ¬ k' = 1 := fun z => g1 (beq_iff_eq.mpr z)
                    show wpS _ _ _ _ (if (k' == 0) = true then _ else _) _ _
                    by_cases g3 : (k' == 0) = true
                    · rw [if_pos g3]
                      exact wpS_pure (.inr ⟨_, _, rfl, L2 rfl rfl rfl rfl, JB.ab (.inr (beq_iff_eq.mp g3))⟩)
                    · rw [if_neg g3]
                      have g4 : ¬ k' = 0 := fun z => g3 (beq_iff_eq.mpr z)
                      obtain ⟨j4, rfl⟩ : ∃ j4, k' = j4 + 2 := ⟨k' - 2, by (first | lia | omega)⟩
                      obtain ⟨yc, kc, hyc, hkc⟩ := eb (i := j4 + 1) (by (first | lia | omega))
                      have hca : KR κ yc xa := KR.of hkc hka (by
                        have z := h1' (j4 + 1) yc kc (by (first | lia | omega)) (by rw [Nat.zero_add]; exact hyc) hkc
                        unfold isBeyond at z
                        rw [if_pos rfl] at z
                        exact KeyOrd.kle_of_klt z)
                      refine wpS_bind (elem_at hxa ?_)
                      have J3 := MK.pushA JB hxa hyc hca
                      show wpS _ _ _ _ (if (i2 == 0) = true then _ else _) _ _
                      by_cases f1 : (i2 == 0) = true
                      · rw [if_pos f1]
                        exact wpS_pure (.inr ⟨_, _, rfl, L2 rfl rfl rfl rfl, J3.ab (.inl (beq_iff_eq.mp f1))⟩)
                      · rw [if_neg f1]
                        have f2 : ¬ i2 = 0 := fun z => f1 (beq_iff_eq.mpr z)
                        obtain ⟨i5, e5⟩ : ∃ i5, i2 = i5 + 1 := ⟨i2 - 1, by (first | lia | omega)⟩
                        rw [e5] at J3 ⊢
                        split
                        · exact wpS_pure (.inl ⟨i5, j4, _, _, _, _, rfl, ⟨L2 rfl rfl rfl rfl, J3, by (first | lia | omega), by (first | lia | omega)⟩, by (first | lia | omega)⟩)
                        · exact wpS_pure ⟨i5, j4, _, _, _, _, rfl, ⟨L2 rfl rfl rfl rfl, J3, by (first | lia | omega), by (first | lia | omega)⟩, by (first | lia | omega)⟩
                · rw [if_neg m0]
                  have m1 : k' = j3 + 2 := by (first | lia | omega)
                  subst m1
                  obtain ⟨yc, kc, hyc, hkc⟩ := eb (i := j3 + 1) (by (first | lia | omega))
                  have hca : KR κ yc xa := KR.of hkc hka (by
                    have z := h1' (j3 + 1) yc kc (by (first | lia | omega)) (by rw [Nat.zero_add]; exact hyc) hkc
                    unfold isBeyond at z
                    rw [if_pos rfl] at z
                    exact KeyOrd.kle_of_klt z)
                  refine wpS_bind (elem_at hxa ?_)
                  have J3 := MK.pushA J2 hxa hyc hca
                  show wpS _ _ _ _ (if (i2 == 0) = true then _ else _) _ _
                  by_cases f1 : (i2 == 0) = true
                  · rw [if_pos f1]
                    exact wpS_pure (.inr ⟨_, _, rfl, L2 rfl rfl rfl rfl, J3.ab (.inl (beq_iff_eq.mp f1))⟩)
                  · rw [if_neg f1]
                    have f2 : ¬ i2 = 0 := fun z => f1 (beq_iff_eq.mpr z)
                    obtain ⟨i5, e5⟩ : ∃ i5, i2 = i5 + 1 := ⟨i2 - 1, by (first | lia | omega)⟩
                    rw [e5] at J3 ⊢
                    split
                    · exact wpS_pure (.inl ⟨i5, j3, _, _, _, _, rfl, ⟨L2 rfl rfl rfl rfl, J3, by (first | lia | omega), by (first | lia | omega)⟩, by (first | lia | omega)⟩)
                    · exact wpS_pure ⟨i5, j3, _, _, _, _, rfl, ⟨L2 rfl rfl rfl rfl, J3, by (first | lia | omega), by (first | lia | omega)⟩, by (first | lia | omega)⟩
        · obtain ⟨i2, j2, out, g, x, y, rfl, P, hm2⟩ := hI
          exact .inl ⟨i2, j2, out, _, _, _, rfl, P, hm2⟩
        · rcases hI with ⟨i2, j2, out, g, x, y, rfl, P, hm2⟩ | ⟨r, rest, rfl, hD⟩
          · refine wpS_bind (wpS_modify (wpS_pure ⟨i2, j2, out, _, rfl, ⟨⟨P.lk.kn, P.lk.ar, P.lk.pn, P.lk.fl⟩, P.mq, P.hi, P.hj⟩, by (first | lia | omega)⟩))
          · exact wpS_pure ⟨_, _, rfl, hD⟩
      · exact wpS_pure ⟨_, _, rfl, hD⟩
  · obtain ⟨i, j, out, g, rfl, P, hm⟩ := hI
    have := P.hi
    have := P.hj
    (first | lia | omega)
  · obtain ⟨r, rest, rfl, hD⟩ := hI
    exact wpS_pure (q r u hD)
end
theorem put_back (p : Nat) (ms : List Keyed) : ∀ (xs : Array Keyed) (k : Nat), p + k + ms.length ≤ xs.size → ((ms.zipIdx k).foldl (fun a x => a.setIfInBounds (p + x.2) x.1) xs).toList = xs.toList.take (p + k) ++ ms ++ xs.toList.drop (p + k + ms.length) := by
  induction ms with
  | nil =>
    intro xs k _
    show xs.toList = xs.toList.take (p + k) ++ [] ++ xs.toList.drop (p + k)
    rw [List.append_nil, List.take_append_drop]
  | cons q ms ih =>
    intro xs k h
    rw [List.length_cons] at h
    rw [List.zipIdx_cons, List.foldl_cons, ih _ (k + 1) (by rw [Array.size_setIfInBounds]; (first | lia | omega)), Array.toList_setIfInBounds]
    have hl : p + k < xs.toList.length := by rw [Array.length_toList]; (first | lia | omega)
    have e1 : (xs.toList.set (p + k) q).take (p + (k + 1)) = xs.toList.take (p + k) ++ [q] := by
      rw [show p + (k + 1) = p + k + 1 by (first | lia | omega), List.take_add_one, List.take_set_of_le (Nat.le_refl _), List.getElem?_set_self hl]
      rfl
    have e2 : (xs.toList.set (p + k) q).drop (p + (k + 1) + ms.length) = xs.toList.drop (p + k + (q :: ms).length) := by
      rw [List.drop_set_of_lt (by (first | lia | omega)), List.length_cons, show p + (k + 1) + ms.length = p + k + (ms.length + 1) by (first | lia | omega)]
    rw [e1, e2, List.append_assoc, List.append_assoc, List.append_assoc]
    rfl
end Sr
namespace Sr
open PySem PyProof.Rows
noncomputable def Seg (κ : KeyKind) (xs : Array Keyed) (lo n : Nat) : Prop := ∀ i j, lo ≤ i → i ≤ j → j < lo + n → κ.kle (KK κ xs i) (KK κ xs j)
noncomputable def Dsg (κ : KeyKind) (xs : Array Keyed) (lo n : Nat) : Prop := ∀ i j, lo ≤ i → i ≤ j → j < lo + n → κ.kle (KK κ xs j) (KK κ xs i)
structure Kp (κ : KeyKind) (kd : SortKind) (o : Array Keyed) (st : SortSt) (lo : Nat) (u : SortSt) : Prop where
  pm : (arrOf u).Perm o
  kn : kindOf u = kd
  fl : failedOf u = none
  pn : pendingOf u = pendingOf st
  ks : ∀ i, i < lo → KK κ (arrOf u) i = KK κ (arrOf st) i
section
variable {prog : Program} {w : World} {A : Around} {E : Value → Shared → Prop} {s : Shared} {o : Array Keyed} {κ : KeyKind} {kd : SortKind} {st : SortSt}
theorem Kp.sz {lo : Nat} {u : SortSt} (h : Kp κ kd o st lo u) : (arrOf u).size = o.size := h.pm.size_eq
theorem Kp.mir {lo i j : Nat} {u : SortSt} (h : Kp κ kd o st lo u) (hi : lo ≤ i) (hj : j ≤ o.size) : Kp κ kd o st lo (setArr u (mirror (arrOf u) i j ((j - i) / 2))) := by
  refine ⟨(mirror_perm ..).trans h.pm, h.kn, h.fl, h.pn, fun k hk => ?_⟩
  show KK κ (mirror (arrOf u) i j ((j - i) / 2)) k = _
  rw [KK_mirror (by rw [h.sz]; exact hj) k, if_neg (by (first | lia | omega))]
  exact h.ks k hk
theorem less2 (T : Tells prog w A s κ kd) (h0 : KeysOf κ o) (pm : (arrOf st).Perm o) (kn : kindOf st = kd) {i j : Nat} {Q : Option Bool → SortSt → Prop} (hi : i < o.size) (hj : j < o.size)
    (q : Q (some (κ.blt (KK κ (arrOf st) i) (KK κ (arrOf st) j))) st) : wpS (model prog w) A E s (ltAt' i j) Q st := by
  have key : ∀ {k : Nat}, k < o.size → ∃ v p a, (arrOf st)[k]? = some (v, p) ∧ κ.keyOf v = some a ∧ KK κ (arrOf st) k = a := fun {k} hk => by
    have hk' : k < (arrOf st).size := pm.size_eq ▸ hk
    have hin : (arrOf st)[k] ∈ o.toList := (Array.perm_iff_toList_perm.mp pm).mem_iff.mp (by simp)
    obtain ⟨a, ea⟩ := h0 _ hin
    have e := getElem?_pos (arrOf st) k hk'
    exact ⟨_, _, a, e, ea, by simp only [KK, e, ea, Option.getD_some]⟩
  obtain ⟨x, p, a, e1, k1, r1⟩ := key hi
  obtain ⟨y, p', b, e2, k2, r2⟩ := key hj
  rw [r1, r2] at q
  rw [ltAt'_eq]
  refine wpS_bind (wpS_get ?_)
  show wpS _ _ _ _ (elem' (arrOf st) i >>= fun u => elem' (arrOf st) j >>= fun v => lt' u v) Q st
  rw [elem'_eq, elem'_eq, e1, e2]
  refine wpS_bind (wpS_pure (wpS_bind (wpS_pure ?_)))
  rw [lt'_eq]
  refine wpS_bind (wpS_get ?_)
  rw [kn]
  exact wpS_bind (wpS_lift (wpAny_attempt (T _ x y a b _ k1 k2 ⟨rfl, wpS_pure q⟩)))
theorem up_seg {xs : Array Keyed} {lo x : Nat} (h : Seg κ xs lo x) (hx : x = 0 ∨ κ.kle (KK κ xs (lo + x - 1)) (KK κ xs (lo + x))) : Seg κ xs lo (x + 1) := fun i j hl hij hj => by
  rcases Nat.lt_or_ge j (lo + x) with hjx | hjx
  · exact h i j hl hij hjx
  obtain rfl : j = lo + x := by (first | lia | omega)
  rcases Nat.lt_or_ge i (lo + x) with hi | hi
  · rcases hx with z | z
    · (first | lia | omega)
    · exact KeyOrd.kle_trans (h i (lo + x - 1) hl (by (first | lia | omega)) (by (first | lia | omega))) z
  · obtain rfl : i = lo + x := by (first | lia | omega)
    exact KeyOrd.kle_refl _
theorem down_seg {xs : Array Keyed} {lo x : Nat} (h : Dsg κ xs lo x) (hx : x = 0 ∨ κ.kle (KK κ xs (lo + x)) (KK κ xs (lo + x - 1))) : Dsg κ xs lo (x + 1) := fun i j hl hij hj => by
  rcases Nat.lt_or_ge j (lo + x) with hjx | hjx
  · exact h i j hl hij hjx
  obtain rfl : j = lo + x := by (first | lia | omega)
  rcases Nat.lt_or_ge i (lo + x) with hi | hi
  · rcases hx with z | z
    · (first | lia | omega)
    · exact KeyOrd.kle_trans z (h i (lo + x - 1) hl (by (first | lia | omega)) (by (first | lia | omega)))
  · obtain rfl : i = lo + x := by (first | lia | omega)
    exact KeyOrd.kle_refl _
theorem seg_1 {xs : Array Keyed} {lo : Nat} : Seg κ xs lo 1 := fun i j h1 h2 h3 => by
  obtain rfl : i = j := by (first | lia | omega)
  exact KeyOrd.kle_refl _
theorem dsg_1 {xs : Array Keyed} {lo : Nat} : Dsg κ xs lo 1 := fun i j h1 h2 h3 => by
  obtain rfl : i = j := by (first | lia | omega)
  exact KeyOrd.kle_refl _
theorem rise2 {lo b n : Nat} {f : Nat → AscSt → StateT SortSt Sem (ForInStep AscSt)} {Q : AscSt → SortSt → Prop}
    (hf : ∀ t m, 1 ≤ m → m < n → ∀ R : ForInStep AscSt → SortSt → Prop, (κ.klt (KK κ (arrOf st) (lo + m)) (KK κ (arrOf st) (lo + m - 1)) → R (.done (none, m)) st) → (κ.kle (KK κ (arrOf st) (lo + m - 1)) (KK κ (arrOf st) (lo + m)) → R (.yield (none, m + 1)) st) → wpS (model prog w) A E s (f t (none, m)) R st)
    (hb : 1 ≤ b) (hbn : b ≤ n) (hs : Seg κ (arrOf st) lo b)
    (q : ∀ m, b ≤ m → m ≤ n → Seg κ (arrOf st) lo m → (m = n ∨ κ.klt (KK κ (arrOf st) (lo + m)) (KK κ (arrOf st) (lo + m - 1))) → Q (none, m) st) : wpS (model prog w) A E s (forIn [b:n] (none, b) f) Q st := by
  refine wpS_forRange (I := fun m c u => u = st ∧ c = (none, m) ∧ Seg κ (arrOf st) lo m) (fun m c u hbm hmn hI => ?_) (fun c u hI => ?_) ⟨rfl, rfl, hs⟩
  · obtain ⟨rfl, rfl, up⟩ := hI
    exact hf m m (by (first | lia | omega)) hmn _ (fun lt => q m hbm (by (first | lia | omega)) up (.inr lt)) fun le => ⟨rfl, rfl, up_seg up (.inr le)⟩
  · obtain ⟨rfl, rfl, up⟩ := hI
    have e : max b n = n := by (first | lia | omega)
    rw [e] at up ⊢
    exact q n hbn (Nat.le_refl _) up (.inl rfl)
theorem ask2 (T : Tells prog w A s κ kd) (h0 : KeysOf κ o) (pm : (arrOf st).Perm o) (kn : kindOf st = kd) {i j : Nat} (hi : i < o.size) (hj : j < o.size) {β : Type} {f : Option Bool → StateT SortSt Sem β} {R : β → SortSt → Prop}
    (r1 : κ.klt (KK κ (arrOf st) i) (KK κ (arrOf st) j) → wpS (model prog w) A E s (f (some true)) R st) (r2 : κ.kle (KK κ (arrOf st) j) (KK κ (arrOf st) i) → wpS (model prog w) A E s (f (some false)) R st) : wpS (model prog w) A E s (ltAt' i j >>= f) R st := by
  refine wpS_bind (less2 T h0 pm kn hi hj ?_)
  cases lt : κ.blt (KK κ (arrOf st) i) (KK κ (arrOf st) j) with
  | true => exact r1 lt
  | false => exact r2 lt
theorem two_way {β : Type} {R : StateT SortSt Sem β} {P : SortSt → Prop} {Q : β → SortSt → Prop} {W : Prop} (main : (∀ u, P u → wpS (model prog w) A E s R Q u) → W) (key : ∀ u, P u → wpS (model prog w) A E s R Q u) : W := main key
theorem run_of2 (T : Tells prog w A s κ kd) (h0 : KeysOf κ o) {lo n : Nat} (hn : lo + n ≤ o.size) (h1 : 1 ≤ n) (K : Kp κ kd o st lo st) {Q : Option Nat → SortSt → Prop}
    (q : ∀ m u, Kp κ kd o st lo u → 1 ≤ m → m ≤ n → Seg κ (arrOf u) lo m → Q (some m) u) : wpS (model prog w) A E s (countRun' lo n) Q st := by
  rw [countRun'_eq]
  refine wpS_bind (rise2 (κ := κ) (lo := lo) (fun t m a b R r1 r2 => ask2 T h0 K.pm K.kn (by (first | lia | omega)) (by (first | lia | omega)) (fun z => wpS_pure (r1 z)) fun z => wpS_pure (r2 z)) (Nat.le_refl 1) h1 seg_1 fun m hm1 hm2 up hor => ?_)
  show wpS _ _ _ _ (if (m == n) = true then _ else _) _ st
  by_cases e : m = n
  · rw [if_pos (beq_iff_eq.mpr e)]
    exact wpS_pure (q m st K hm1 hm2 up)
  rw [if_neg fun z => e (beq_iff_eq.mp z)]
  have dip := hor.resolve_left e
  have hmn : m + 1 ≤ n := by (first | lia | omega)
  apply two_way (Q := Q) (P := fun u => Kp κ kd o st lo u ∧ Dsg κ (arrOf u) lo (m + 1))
  · intro key
    by_cases h : m > 1
    · show wpS _ _ _ _ (ite (m > 1) _ _) _ _
      rw [if_pos h]
      refine ask2 T h0 K.pm K.kn (i := lo) (j := lo + m - 1) (by (first | lia | omega)) (by (first | lia | omega)) (fun z => wpS_pure (q m st K hm1 hm2 up)) fun rose => ?_
      have z : lo + m ≤ (arrOf st).size := by rw [K.sz]; (first | lia | omega)
      have al : ∀ k, lo ≤ k → k < lo + m → KK κ (arrOf st) k = KK κ (arrOf st) (lo + m - 1) := fun k h1 hk =>
        KeyOrd.kle_antisymm (up k (lo + m - 1) h1 (by (first | lia | omega)) (by (first | lia | omega))) (KeyOrd.kle_trans rose (up lo k (Nat.le_refl _) h1 hk))
      refine wpS_bind (wpS_reverse (key _ ⟨K.mir (i := lo) (j := lo + m) (Nat.le_refl _) (by (first | lia | omega)), fun i j h2 hij hj => ?_⟩))
      have dn : Dsg κ (arrOf st) lo (m + 1) := down_seg (fun i j h2 hij hj => by rw [al i h2 (by (first | lia | omega)), al j (by (first | lia | omega)) hj]; exact KeyOrd.kle_refl _) (.inr (KeyOrd.kle_of_klt dip))
      show κ.kle (KK κ (mirror _ _ _ _) j) (KK κ (mirror _ _ _ _) i)
      rw [KK_mirror_equal z al i, KK_mirror_equal z al j]
      exact dn i j h2 hij hj
    · show wpS _ _ _ _ (ite (m > 1) _ _) _ _
      rw [if_neg h]
      obtain rfl : m = 1 := by (first | lia | omega)
      exact key st ⟨K, down_seg dsg_1 (.inr (KeyOrd.kle_of_klt dip))⟩
  · rintro u ⟨Ku, dn⟩
    refine wpS_bind (wpS_lift (wpAny_rule ⟨rfl, wpS_bind (wpS_mono (wpS_forRange
      (I := fun m c u => ∃ e, c = (none, m, e) ∧ Kp κ kd o st lo u ∧ Dsg κ (arrOf u) lo m ∧ e + 1 ≤ m ∧ ∀ i, lo + m - (e + 1) ≤ i → i < lo + m → KK κ (arrOf u) i = KK κ (arrOf u) (lo + m - 1))
      (Q := fun c u => ∃ m e, c = (none, m, e) ∧ m ≤ n ∧ Kp κ kd o st lo u ∧ Dsg κ (arrOf u) lo m ∧ e + 1 ≤ m ∧ ∀ i, lo + m - (e + 1) ≤ i → i < lo + m → KK κ (arrOf u) i = KK κ (arrOf u) (lo + m - 1))
      (fun m c u hbm hmn hI => ?_) (fun c u hI => ?_) ⟨0, rfl, Ku, dn, Nat.le_add_left _ _, fun i h1 h2 => congrArg _ (by (first | lia | omega))⟩) fun c u hI => ?_)⟩))
    · obtain ⟨e, rfl, S', dn, he, al⟩ := hI
      have z : lo + m ≤ (arrOf u).size := by rw [S'.sz]; (first | lia | omega)
      refine ask2 T h0 S'.pm S'.kn (i := lo + m) (j := lo + m - 1) (by (first | lia | omega)) (by (first | lia | omega)) (fun lt => ?_) fun ge => ?_
      · have dn' := down_seg dn (.inr (KeyOrd.kle_of_klt lt))
        show wpS _ _ _ _ (if e > 0 then _ else _) _ u
        by_cases h : e > 0
        · rw [if_pos h]
          refine wpS_bind (wpS_reverse (wpS_pure ⟨0, rfl, S'.mir (i := lo + m - (e + 1)) (j := lo + m) (by (first | lia | omega)) (by (first | lia | omega)), fun i j h2 hij hj => ?_, Nat.succ_le_succ (Nat.zero_le _), fun i h1 h2 => congrArg _ (by (first | lia | omega))⟩))
          show κ.kle (KK κ (mirror _ _ _ _) j) (KK κ (mirror _ _ _ _) i)
          rw [KK_mirror_equal z al i, KK_mirror_equal z al j]
          exact dn' i j h2 hij hj
        · rw [if_neg h]
          exact wpS_pure ⟨0, rfl, S', dn', Nat.succ_le_succ (Nat.zero_le _), fun i h1 h2 => congrArg _ (by (first | lia | omega))⟩
      · refine ask2 T h0 S'.pm S'.kn (i := lo + m - 1) (j := lo + m) (by (first | lia | omega)) (by (first | lia | omega)) (fun gt => ?_) fun le => ?_
        · exact wpS_pure ⟨m, e, rfl, by (first | lia | omega), S', dn, he, al⟩
        · have same : KK κ (arrOf u) (lo + m) = KK κ (arrOf u) (lo + m - 1) := KeyOrd.kle_antisymm le ge
          refine wpS_pure ⟨e + 1, rfl, S', down_seg dn (.inr le), by (first | lia | omega), fun i h1 h2 => ?_⟩
          show KK κ (arrOf u) i = KK κ (arrOf u) (lo + m)
          rcases Nat.lt_or_ge i (lo + m) with h | h
          · rw [same]
            exact al i (by (first | lia | omega)) h
          · rw [show i = lo + m by (first | lia | omega)]
    · obtain ⟨e, rfl, S', dn, he, al⟩ := hI
      have ez : max (m + 1) n = n := by (first | lia | omega)
      rw [ez] at dn he al ⊢
      exact ⟨n, e, rfl, Nat.le_refl _, S', dn, he, al⟩
    · obtain ⟨m', e, rfl, hm', S', dn, he, al⟩ := hI
      have z : lo + m' ≤ (arrOf u).size := by rw [S'.sz]; (first | lia | omega)
      apply two_way (Q := Q) (P := fun u => Kp κ kd o st lo u ∧ Dsg κ (arrOf u) lo m')
      · intro key
        show wpS _ _ _ _ (if e > 0 then _ else _) _ u
        by_cases h : e > 0
        · rw [if_pos h]
          refine wpS_bind (wpS_reverse (key _ ⟨S'.mir (i := lo + m' - (e + 1)) (j := lo + m') (by (first | lia | omega)) (by (first | lia | omega)), fun i j h2 hij hj => ?_⟩))
          show κ.kle (KK κ (mirror _ _ _ _) j) (KK κ (mirror _ _ _ _) i)
          rw [KK_mirror_equal z al i, KK_mirror_equal z al j]
          exact dn i j h2 hij hj
        · rw [if_neg h]
          exact key u ⟨S', dn⟩
      · rintro v ⟨Kv, dv⟩
        have zv : lo + m' ≤ (arrOf v).size := by rw [Kv.sz]; (first | lia | omega)
        have K2 := Kv.mir (i := lo) (j := lo + m') (Nat.le_refl _) (by (first | lia | omega))
        refine wpS_bind (wpS_reverse (wpS_bind (rise2 (κ := κ) (lo := lo) (b := m') (n := n) (fun t m a b R r1 r2 => ask2 T h0 K2.pm K2.kn (by (first | lia | omega)) (by (first | lia | omega)) (fun z => wpS_pure (r1 z)) fun z => wpS_pure (r2 z)) (by (first | lia | omega)) hm' (fun i j h2 hij hj => ?_) fun m hm1 hm2 up hor => wpS_pure (q m _ K2 (by (first | lia | omega)) hm2 up))))
        show κ.kle (KK κ (mirror (arrOf v) lo (lo + m') _) i) (KK κ (mirror (arrOf v) lo (lo + m') _) j)
        rw [KK_mirror zv i, KK_mirror zv j, if_pos (by (first | lia | omega)), if_pos (by (first | lia | omega))]
        exact dv _ _ (by (first | lia | omega)) (by (first | lia | omega)) (by (first | lia | omega))
theorem put_in2 (T : Tells prog w A s κ kd) (h0 : KeysOf κ o) {lo n ok : Nat} {v : SortSt} (hn : lo + n ≤ o.size) (hok : ok ≤ n) (h1 : 1 ≤ ok) (K : Kp κ kd o st lo v) (hs : Seg κ (arrOf v) lo ok) {Q : Bool → SortSt → Prop}
    (q : ∀ u, Kp κ kd o st lo u → Seg κ (arrOf u) lo n → Q true u) : wpS (model prog w) A E s (binarySort' lo n ok) Q v := by
  rw [binarySort'_eq]
  have em : max ok 1 = ok := by (first | lia | omega)
  rw [em]
  refine wpS_bind (wpS_mono (wpS_forRange (I := fun k c u => c = (none, ()) ∧ Kp κ kd o st lo u ∧ Seg κ (arrOf u) lo k) (Q := fun c u => c = (none, ()) ∧ Kp κ kd o st lo u ∧ Seg κ (arrOf u) lo n)
    (fun k c u hk1 hk2 hI => ?_) (fun c u hI => ?_) ⟨rfl, K, hs⟩) fun c u hI => ?_)
  · obtain ⟨rfl, S', up⟩ := hI
    have hk : lo + k < o.size := by (first | lia | omega)
    refine wpS_bind (wpS_mono (wpS_forRange (I := fun t c v => v = u ∧ ∃ l r, c = (none, l, r) ∧ l ≤ r ∧ r ≤ k ∧ r - l ≤ k - t ∧ (∀ i, lo ≤ i → i < lo + l → κ.kle (KK κ (arrOf u) i) (KK κ (arrOf u) (lo + k))) ∧ ∀ i, lo + r ≤ i → i < lo + k → κ.klt (KK κ (arrOf u) (lo + k)) (KK κ (arrOf u) i))
      (Q := fun c v => v = u ∧ ∃ l, c = (none, l, l) ∧ l ≤ k ∧ (∀ i, lo ≤ i → i < lo + l → κ.kle (KK κ (arrOf u) i) (KK κ (arrOf u) (lo + k))) ∧ ∀ i, lo + l ≤ i → i < lo + k → κ.klt (KK κ (arrOf u) (lo + k)) (KK κ (arrOf u) i))
      (fun t c v _ ht hJ => ?_) (fun c v hJ => ?_) ⟨rfl, 0, k, rfl, Nat.zero_le _, Nat.le_refl _, Nat.le_refl _, (fun i h0 hi => absurd hi (by (first | lia | omega))), fun i h1 h2 => absurd h2 (by (first | lia | omega))⟩) fun c v hJ => ?_)
    · obtain ⟨rfl, l, r, rfl, hlr, hrk, hm, lo', hi⟩ := hJ
      show wpS _ _ _ _ (if l ≥ r then _ else _) _ v
      by_cases h : l ≥ r
      · rw [if_pos h]
        obtain rfl : l = r := by (first | lia | omega)
        exact wpS_pure ⟨rfl, l, rfl, hrk, lo', hi⟩
      · rw [if_neg h]
        have m1 : l ≤ (l + r) / 2 := (Nat.le_div_iff_mul_le (by decide)).mpr (by rw [Nat.mul_two]; exact Nat.add_le_add_left hlr l)
        have m2 : (l + r) / 2 < r := Nat.div_lt_of_lt_mul (by rw [Nat.two_mul]; exact Nat.add_lt_add_right (Nat.lt_of_not_le h) r)
        generalize (l + r) / 2 = mid at m1 m2 ⊢
        have m3 : mid < k := Nat.lt_of_lt_of_le m2 hrk
        refine ask2 T h0 S'.pm S'.kn (i := lo + k) (j := lo + mid) hk (by (first | lia | omega)) (fun lt => ?_) fun ge => ?_
        · exact wpS_pure ⟨rfl, l, mid, rfl, m1, Nat.le_of_lt m3, by (first | lia | omega), lo', fun i a1 a2 => KeyOrd.klt_of_klt_of_kle lt (up _ _ (by (first | lia | omega)) a1 a2)⟩
        · exact wpS_pure ⟨rfl, mid + 1, r, rfl, m2, hrk, by (first | lia | omega), (fun i a0 a1 => KeyOrd.kle_trans (up i (lo + mid) a0 (by (first | lia | omega)) (by (first | lia | omega))) ge), hi⟩
    · obtain ⟨rfl, l, r, rfl, hlr, hrk, hm, lo', hi⟩ := hJ
      have e0 : max 0 k = k := by (first | lia | omega)
      rw [e0] at hm
      obtain rfl : l = r := by (first | lia | omega)
      exact ⟨rfl, l, rfl, hrk, lo', hi⟩
    · obtain ⟨rfl, l, rfl, hlk, lo', hi⟩ := hJ
      have hks : lo + k < (arrOf v).size := S'.sz ▸ hk
      show wpS _ _ _ _ (moveDown' (lo + k) (lo + l) >>= fun _ => pure (ForInStep.yield (none, ()))) _ v
      rw [moveDown'_eq]
      have el : lo + k - (lo + k - (lo + l)) = lo + l := by (first | lia | omega)
      refine wpS_bind (wpS_modify (wpS_pure ⟨rfl, ⟨(bubble_perm ..).trans S'.pm, S'.kn, S'.fl, S'.pn, fun i hi' => ?_⟩, fun i j hl hij hj => ?_⟩))
      · show KK κ (bubble (arrOf v) (lo + k) (lo + k - (lo + l))) i = _
        rw [KK_bubble hks (Nat.sub_le _ _) i, el, if_neg (by (first | lia | omega)), if_neg (by (first | lia | omega))]
        exact S'.ks i hi'
      show κ.kle (KK κ (bubble (arrOf v) (lo + k) (lo + k - (lo + l))) i) (KK κ (bubble (arrOf v) (lo + k) _) j)
      rw [KK_bubble hks (Nat.sub_le _ _) i, KK_bubble hks (Nat.sub_le _ _) j, el]
      by_cases a1 : i = lo + l <;> by_cases a2 : j = lo + l <;> by_cases a3 : lo + l < i ∧ i ≤ lo + k <;> by_cases a4 : lo + l < j ∧ j ≤ lo + k <;>
        simp only [a1, a2, a3, a4, if_true, if_false] <;> first
        | (exfalso; (first | lia | omega))
        | exact KeyOrd.kle_refl _
        | exact lo' _ (by (first | lia | omega)) (by (first | lia | omega))
        | exact KeyOrd.kle_of_klt (hi _ (by (first | lia | omega)) (by (first | lia | omega)))
        | exact up _ _ (by (first | lia | omega)) (by (first | lia | omega)) (by (first | lia | omega))
  · obtain ⟨rfl, S', up⟩ := hI
    have e : max ok n = n := by (first | lia | omega)
    rw [e] at up
    exact ⟨rfl, S', up⟩
  · obtain ⟨rfl, S', up⟩ := hI
    exact wpS_pure (q u S' up)
theorem KK_at {xs : Array Keyed} {i : Nat} {x : Keyed} {k : κ.α} (hx : xs[i]? = some x) (hk : κ.keyOf x.1 = some k) : KK κ xs i = k := by
  simp only [KK, hx, hk, Option.getD_some]
theorem seg_KR {xs : Array Keyed} {lo n : Nat} (h : Seg κ xs lo n) {i j : Nat} {x y : Keyed} (hl : lo ≤ i) (hij : i ≤ j) (hj : j < lo + n) (hx : xs[i]? = some x) (hy : xs[j]? = some y) : KR κ x y := fun k l hk hl' => by
  have z := h i j hl hij hj
  rw [KK_at hx hk, KK_at hy hl'] at z
  exact z
theorem merged_seg {f g : Nat → κ.α} {sa sb e p m : Nat} (ha : ∀ i j, sa ≤ i → i ≤ j → j < sb → κ.kle (f i) (f j)) (hb : ∀ i j, sb ≤ i → i ≤ j → j < e → κ.kle (f i) (f j)) (h1 : sa ≤ p) (h2 : p ≤ sb) (h3 : sb ≤ m) (h4 : m ≤ e) (h5 : sa < sb) (h6 : sb < e)
    (F1 : ∀ i, sa ≤ i → i < p → κ.kle (f i) (f sb)) (F2 : ∀ i, m ≤ i → i < e → κ.kle (f (sb - 1)) (f i)) (go : ∀ i, i < p ∨ m ≤ i → g i = f i) (gi : ∀ i, p ≤ i → i < m → ∃ t, p ≤ t ∧ t < m ∧ g i = f t) (gs : ∀ i j, p ≤ i → i ≤ j → j < m → κ.kle (g i) (g j)) :
    ∀ i j, sa ≤ i → i ≤ j → j < e → κ.kle (g i) (g j) := fun i j hi hij hj => by
  have PR : ∀ i j, sa ≤ i → i < p → p ≤ j → j < e → κ.kle (f i) (f j) := fun i j a1 a2 a3 a4 => by
    by_cases z : j < sb
    · exact ha i j a1 (by (first | lia | omega)) z
    · exact KeyOrd.kle_trans (F1 i a1 a2) (hb sb j (Nat.le_refl _) (by (first | lia | omega)) a4)
  have MR : ∀ i j, sa ≤ i → i < m → m ≤ j → j < e → κ.kle (f i) (f j) := fun i j a1 a2 a3 a4 => by
    by_cases z : i < sb
    · exact KeyOrd.kle_trans (ha i (sb - 1) a1 (by (first | lia | omega)) (by (first | lia | omega))) (F2 j a3 a4)
    · exact hb i j (by (first | lia | omega)) (by (first | lia | omega)) a4
  by_cases c1 : i < p
  · rw [go i (.inl c1)]
    by_cases c2 : j < p
    · rw [go j (.inl c2)]
      exact ha i j hi hij (by (first | lia | omega))
    · by_cases c3 : j < m
      · obtain ⟨t, t1, t2, e'⟩ := gi j (by (first | lia | omega)) c3
        rw [e']
        exact PR i t hi c1 t1 (by (first | lia | omega))
      · rw [go j (.inr (by (first | lia | omega)))]
        exact PR i j hi c1 (by (first | lia | omega)) hj
  · by_cases c2 : i < m
    · by_cases c3 : j < m
      · exact gs i j (by (first | lia | omega)) hij c3
      · obtain ⟨t, t1, t2, e'⟩ := gi i (by (first | lia | omega)) c2
        rw [e', go j (.inr (by (first | lia | omega)))]
        exact MR t j (by (first | lia | omega)) t2 (by (first | lia | omega)) hj
    · rw [go i (.inr (by (first | lia | omega))), go j (.inr (by (first | lia | omega)))]
      exact hb i j (by (first | lia | omega)) hij hj
theorem wpS_set {Q : PUnit → SortSt → Prop} {u : SortSt} (h : Q ⟨⟩ u) : wpS (model prog w) A E s (set u : StateT SortSt Sem PUnit) Q st := by
  unfold wpS
  rw [StateT.run_set]
  exact wpAny_pure ⟨rfl, h⟩
structure MA (κ : KeyKind) (kd : SortKind) (o : Array Keyed) (st : SortSt) (i sa n pw : Nat) (u : SortSt) : Prop where
  pm : (arrOf u).Perm o
  kn : kindOf u = kd
  fl : failedOf u = none
  pn : pendingOf u = ((pendingOf st).setIfInBounds i (sa, n, pw)).eraseIdxIfInBounds (i + 1)
  ks : ∀ j, j < sa ∨ sa + n ≤ j → KK κ (arrOf u) j = KK κ (arrOf st) j
  sg : Seg κ (arrOf u) sa n
theorem ext_pair {xs : Array Keyed} {lo n a b : Nat} (h : Seg κ xs lo n) (ha : lo ≤ a) (hb : b ≤ lo + n) : (xs.extract a b).toList.Pairwise (KR κ) := by
  rw [List.pairwise_iff_getElem]
  intro i j hi hj hij
  have at' : ∀ k (hk : k < (xs.extract a b).toList.length), xs[a + k]? = some (xs.extract a b).toList[k] ∧ a + k < b := fun k hk => by
    have hk' : k < (xs.extract a b).size := by rw [Array.length_toList] at hk; exact hk
    have z : (xs.extract a b)[k]? = some (xs.extract a b)[k] := getElem?_pos _ k hk'
    rw [Array.size_extract] at hk'
    rw [Array.getElem?_extract, if_pos (by (first | lia | omega))] at z
    rw [z]
    exact ⟨by rw [Array.getElem_toList], by (first | lia | omega)⟩
  obtain ⟨e1, l1⟩ := at' i hi
  obtain ⟨e2, l2⟩ := at' j hj
  exact seg_KR h (by (first | lia | omega)) (show a + i ≤ a + j by (first | lia | omega)) (by (first | lia | omega)) e1 e2
theorem mergeAt_at (T : Tells prog w A s κ kd) (h0 : KeysOf κ o) (pm : (arrOf st).Perm o) (kn : kindOf st = kd) (fl : failedOf st = none) {i sa na nb pw pw' : Nat} (p1 : (pendingOf st)[i]? = some (sa, na, pw)) (p2 : (pendingOf st)[i + 1]? = some (sa + na, nb, pw')) (n1 : 0 < na) (n2 : 0 < nb) (hs : sa + na + nb ≤ o.size)
    (ga : Seg κ (arrOf st) sa na) (gb : Seg κ (arrOf st) (sa + na) nb) {Q : Bool → SortSt → Prop} (q : ∀ u, MA κ kd o st i sa (na + nb) pw u → Q true u) : wpS (model prog w) A E s (mergeAt' i) Q st := by
  have zs : (arrOf st).size = o.size := pm.size_eq
  have key : ∀ {k : Nat}, k < o.size → ∃ x a, (arrOf st)[k]? = some x ∧ κ.keyOf x.1 = some a ∧ KK κ (arrOf st) k = a := fun {k} hk => by
    have hk' : k < (arrOf st).size := zs ▸ hk
    have hin : (arrOf st)[k] ∈ o.toList := (Array.perm_iff_toList_perm.mp pm).mem_iff.mp (by simp)
    obtain ⟨a, ea⟩ := h0 _ hin
    have e := getElem?_pos (arrOf st) k hk'
    exact ⟨_, a, e, ea, KK_at e ea⟩
  have kall : ∀ x ∈ (arrOf st).toList, ∃ k, κ.keyOf x.1 = some k := fun x hx => h0 x ((Array.perm_iff_toList_perm.mp pm).mem_iff.mp hx)
  obtain ⟨y0, c0, hy0, hc0, kc0⟩ := key (k := sa + na) (by (first | lia | omega))
  obtain ⟨xl, cl, hxl, hcl, kcl⟩ := key (k := sa + na - 1) (by (first | lia | omega))
  unfold mergeAt'
  refine wpS_bind (wpS_get ?_)
  show wpS _ _ _ _ (match ((pendingOf st)[i]?, (pendingOf st)[i + 1]?) with | (some (sa, na, power), some (sb, nb, snd)) => _ | _ => _) _ _
  rw [p1, p2]
  refine wpS_bind (wpS_set ?_)
  obtain ⟨st1, hst1⟩ : ∃ st1, st1 = setPending st (((pendingOf st).setIfInBounds i (sa, na + nb, pw)).eraseIdxIfInBounds (i + 1)) := ⟨_, rfl⟩
  have k1 : kindOf st1 = kd := by rw [hst1]; exact kn
  have f1 : failedOf st1 = none := by rw [hst1]; exact fl
  have a1 : arrOf st1 = arrOf st := by rw [hst1]
  have n1' : pendingOf st1 = ((pendingOf st).setIfInBounds i (sa, na + nb, pw)).eraseIdxIfInBounds (i + 1) := by rw [hst1]
  show wpS _ _ _ _ _ _ (setPending st (((pendingOf st).setIfInBounds i (sa, na + nb, pw)).eraseIdxIfInBounds (i + 1)))
  rw [← hst1]
  clear hst1
  refine wpS_bind (elem_at hy0 (wpS_bind (gallop_seg (left := false) T k1 kall hc0 (base := sa) (n := na) (hint := 0) (fun i j x y b1 b2 b3 b4 b5 => seg_KR ga b1 (Nat.le_of_lt b2) b3 b4 b5) (by (first | lia | omega)) n1 fun k hk g1 g2 => ?_)))
  have F1 : ∀ j, sa ≤ j → j < sa + k → κ.kle (KK κ (arrOf st) j) (KK κ (arrOf st) (sa + na)) := fun j b1 b2 => by
    obtain ⟨x, c, hx, hc, ec⟩ := key (k := j) (by (first | lia | omega))
    have z := g1 (j - sa) x c (by (first | lia | omega)) (by rw [show sa + (j - sa) = j by (first | lia | omega)]; exact hx) hc
    unfold isBeyond at z
    rw [if_neg (fun z => nomatch z)] at z
    have z : κ.blt c0 c = false := by simpa using z
    rw [ec, kc0]
    exact z
  have G1 : ∀ j, sa + k ≤ j → j < sa + na → κ.klt (KK κ (arrOf st) (sa + na)) (KK κ (arrOf st) j) := fun j b1 b2 => by
    obtain ⟨x, c, hx, hc, ec⟩ := key (k := j) (by (first | lia | omega))
    have z := g2 (j - sa) x c (by (first | lia | omega)) (by (first | lia | omega)) (by rw [show sa + (j - sa) = j by (first | lia | omega)]; exact hx) hc
    unfold isBeyond at z
    rw [if_neg (fun z => nomatch z)] at z
    have z : κ.blt c0 c = true := by simpa using z
    rw [ec, kc0]
    exact z
  have ga' : ∀ i j, sa ≤ i → i ≤ j → j < sa + na → κ.kle (KK κ (arrOf st) i) (KK κ (arrOf st) j) := ga
  have gb' : ∀ i j, sa + na ≤ i → i ≤ j → j < sa + (na + nb) → κ.kle (KK κ (arrOf st) i) (KK κ (arrOf st) j) := fun i j b1 b2 b3 => gb i j b1 b2 (by (first | lia | omega))
  show wpS _ _ _ _ (if (na - k == 0) = true then _ else _) _ _
  by_cases e1 : na - k = 0
  · rw [if_pos (beq_iff_eq.mpr e1)]
    refine wpS_pure (q st1 ⟨by rw [a1]; exact pm, k1, f1, n1', fun j _ => by rw [a1], ?_⟩)
    rw [a1]
    exact merged_seg (p := sa + na) (m := sa + na) ga' gb' (by (first | lia | omega)) (Nat.le_refl _) (Nat.le_refl _) (by (first | lia | omega)) (by (first | lia | omega)) (by (first | lia | omega)) (fun j b1 b2 => F1 j b1 (by (first | lia | omega))) (fun j b1 b2 => KeyOrd.kle_trans (F1 (sa + na - 1) (by (first | lia | omega)) (by (first | lia | omega))) (gb' (sa + na) j (Nat.le_refl _) b1 b2)) (fun _ _ => rfl) (fun j b1 b2 => absurd b1 (by (first | lia | omega))) (fun i j b1 b2 b3 => absurd b1 (by (first | lia | omega)))
  rw [if_neg fun z => e1 (beq_iff_eq.mp z)]
  refine wpS_bind (elem_at (show (arrOf st)[sa + k + (na - k) - 1]? = some xl by rw [show sa + k + (na - k) - 1 = sa + na - 1 by (first | lia | omega)]; exact hxl) (wpS_bind (gallop_seg (left := true) T k1 kall hcl (base := sa + na) (n := nb) (hint := nb - 1) (fun i j x y b1 b2 b3 b4 b5 => seg_KR gb b1 (Nat.le_of_lt b2) b3 b4 b5) (by (first | lia | omega)) (by (first | lia | omega)) fun k' hk' g1' g2' => ?_)))
  have F2 : ∀ j, sa + na + k' ≤ j → j < sa + (na + nb) → κ.kle (KK κ (arrOf st) (sa + na - 1)) (KK κ (arrOf st) j) := fun j b1 b2 => by
    obtain ⟨x, c, hx, hc, ec⟩ := key (k := j) (by (first | lia | omega))
    have z := g2' (j - (sa + na)) x c (by (first | lia | omega)) (by (first | lia | omega)) (by rw [show sa + na + (j - (sa + na)) = j by (first | lia | omega)]; exact hx) hc
    unfold isBeyond at z
    rw [if_pos rfl] at z
    rw [ec, kcl]
    exact z
  have G2 : ∀ j, sa + na ≤ j → j < sa + na + k' → κ.klt (KK κ (arrOf st) j) (KK κ (arrOf st) (sa + na - 1)) := fun j b1 b2 => by
    obtain ⟨x, c, hx, hc, ec⟩ := key (k := j) (by (first | lia | omega))
    have z := g1' (j - (sa + na)) x c (by (first | lia | omega)) (by rw [show sa + na + (j - (sa + na)) = j by (first | lia | omega)]; exact hx) hc
    unfold isBeyond at z
    rw [if_pos rfl] at z
    rw [ec, kcl]
    exact z
  show wpS _ _ _ _ (if (k' == 0) = true then _ else _) _ _
  by_cases e2 : k' = 0
  · rw [if_pos (beq_iff_eq.mpr e2)]
    refine wpS_pure (q st1 ⟨by rw [a1]; exact pm, k1, f1, n1', fun j _ => by rw [a1], ?_⟩)
    rw [a1]
    exact merged_seg (p := sa + na) (m := sa + na) ga' gb' (by (first | lia | omega)) (Nat.le_refl _) (Nat.le_refl _) (by (first | lia | omega)) (by (first | lia | omega)) (by (first | lia | omega)) (fun j b1 b2 => KeyOrd.kle_trans (ga' j (sa + na - 1) b1 (by (first | lia | omega)) (by (first | lia | omega))) (F2 (sa + na) (by (first | lia | omega)) (by (first | lia | omega)))) (fun j b1 b2 => F2 j (by (first | lia | omega)) b2) (fun _ _ => rfl) (fun j b1 b2 => absurd b1 (by (first | lia | omega))) (fun i j b1 b2 b3 => absurd b1 (by (first | lia | omega)))
  rw [if_neg fun z => e2 (beq_iff_eq.mp z)]
  obtain ⟨X, hX⟩ : ∃ X, X = (arrOf st).extract (sa + k) (sa + na) := ⟨_, rfl⟩
  obtain ⟨Y, hY⟩ : ∃ Y, Y = (arrOf st).extract (sa + na) (sa + na + k') := ⟨_, rfl⟩
  have sX : X.size = na - k := by rw [hX, Array.size_extract]; (first | lia | omega)
  have sY : Y.size = k' := by rw [hY, Array.size_extract]; (first | lia | omega)
  have aX : ∀ {t : Nat} {x : Keyed}, X[t]? = some x → t < na - k ∧ (arrOf st)[sa + k + t]? = some x := fun {t x} h => by
    rw [hX, Array.getElem?_extract] at h
    split at h
    · exact ⟨by (first | lia | omega), h⟩
    · cases h
  have aY : ∀ {t : Nat} {x : Keyed}, Y[t]? = some x → t < k' ∧ (arrOf st)[sa + na + t]? = some x := fun {t x} h => by
    rw [hY, Array.getElem?_extract] at h
    split at h
    · exact ⟨by (first | lia | omega), h⟩
    · cases h
  have mX : ∀ {x : Keyed}, x ∈ X.toList → ∃ t, t < na - k ∧ (arrOf st)[sa + k + t]? = some x := fun {x} h => by
    obtain ⟨t, ht⟩ := List.mem_iff_getElem?.mp h
    rw [Array.getElem?_toList] at ht
    exact ⟨t, aX ht⟩
  have mY : ∀ {x : Keyed}, x ∈ Y.toList → ∃ t, t < k' ∧ (arrOf st)[sa + na + t]? = some x := fun {x} h => by
    obtain ⟨t, ht⟩ := List.mem_iff_getElem?.mp h
    rw [Array.getElem?_toList] at ht
    exact ⟨t, aY ht⟩
  have pX : X.toList.Pairwise (KR κ) := by rw [hX]; exact ext_pair ga (by (first | lia | omega)) (Nat.le_refl _)
  have pY : Y.toList.Pairwise (KR κ) := by rw [hY]; exact ext_pair gb (by (first | lia | omega)) (by (first | lia | omega))
  have kXY : ∀ x ∈ X.toList ++ Y.toList, ∃ k, κ.keyOf x.1 = some k := fun x hx => by
    rcases List.mem_append.mp hx with h | h
    · obtain ⟨t, _, e⟩ := mX h
      exact kall x (by rw [← Array.getElem?_toList] at e; exact List.mem_of_getElem? e)
    · obtain ⟨t, _, e⟩ := mY h
      exact kall x (by rw [← Array.getElem?_toList] at e; exact List.mem_of_getElem? e)
  have YX : ∀ {t t' : Nat} {x y : Keyed}, (arrOf st)[t]? = some x → (arrOf st)[t']? = some y → κ.kle (KK κ (arrOf st) t') (KK κ (arrOf st) t) → KR κ y x := fun {t t' x y} h1 h2 h3 a b ha hb => by
    rw [KK_at h1 hb, KK_at h2 ha] at h3
    exact h3
  show wpS _ _ _ _ (if na - k ≤ k' then mergeLo' ((arrOf st).extract (sa + k) (sa + na)) ((arrOf st).extract (sa + na) (sa + na + k')) >>= _ else mergeHi' ((arrOf st).extract (sa + k) (sa + na)) ((arrOf st).extract (sa + na) (sa + na + k')) >>= _) _ _
  rw [← hX, ← hY]
  have fin : ∀ r u, MD κ X Y st1 r u → MA κ kd o st i sa (na + nb) pw (setArr u ((r.toList.zipIdx).foldl (fun a x => a.setIfInBounds (sa + k + x.2) x.1) (arrOf u))) := fun r u D => by
    obtain ⟨L, hp, hw⟩ := D
    have au : arrOf u = arrOf st := L.ar.trans a1
    have lr : r.toList.length = na - k + k' := by rw [hp.length_eq, List.length_append, Array.length_toList, Array.length_toList, sX, sY]
    have pb := put_back (sa + k) r.toList (arrOf st) 0 (by rw [lr]; (first | lia | omega))
    rw [Nat.add_zero, lr] at pb
    rw [au]
    obtain ⟨ys, hys⟩ : ∃ ys, ys = (r.toList.zipIdx).foldl (fun a x => a.setIfInBounds (sa + k + x.2) x.1) (arrOf st) := ⟨_, rfl⟩
    rw [← hys] at pb ⊢
    have lt : ((arrOf st).toList.take (sa + k)).length = sa + k := by rw [List.length_take, Array.length_toList]; (first | lia | omega)
    have out1 : ∀ j, j < sa + k → ys[j]? = (arrOf st)[j]? := fun j hj => by
      rw [← Array.getElem?_toList, pb, List.append_assoc, List.getElem?_append_left (by rw [lt]; exact hj), List.getElem?_take_of_lt hj, Array.getElem?_toList]
    have out2 : ∀ j, sa + na + k' ≤ j → ys[j]? = (arrOf st)[j]? := fun j hj => by
      rw [← Array.getElem?_toList, pb, List.getElem?_append_right (by rw [List.length_append, lt, lr]; (first | lia | omega)), List.getElem?_drop, Array.getElem?_toList, List.length_append, lt, lr]
      congr 1
      (first | lia | omega)
    have ins : ∀ j, sa + k ≤ j → j < sa + na + k' → ys[j]? = r.toList[j - (sa + k)]? := fun j h1 h2 => by
      rw [← Array.getElem?_toList, pb, List.append_assoc, List.getElem?_append_right (by rw [lt]; exact h1), lt, List.getElem?_append_left (by rw [lr]; (first | lia | omega))]
    have got : ∀ j, sa + k ≤ j → j < sa + na + k' → ∃ x, ys[j]? = some x ∧ r.toList[j - (sa + k)]? = some x ∧ x ∈ r.toList := fun j h1 h2 => by
      have hl : j - (sa + k) < r.toList.length := by rw [lr]; (first | lia | omega)
      exact ⟨r.toList[j - (sa + k)], (ins j h1 h2).trans (List.getElem?_eq_getElem hl), List.getElem?_eq_getElem hl, List.getElem_mem hl⟩
    refine ⟨?_, L.kn.trans k1, L.fl.trans f1, L.pn.trans n1', fun j hj => ?_, ?_⟩
    · refine Array.Perm.trans ?_ pm
      show ys.Perm (arrOf st)
      rw [Array.perm_iff_toList_perm, pb]
      have cut : X.toList ++ Y.toList = ((arrOf st).toList.drop (sa + k)).take (na - k + k') := by
        rw [hX, hY, ext_list, ext_list, show sa + na - (sa + k) = na - k by (first | lia | omega), show sa + na + k' - (sa + na) = k' by (first | lia | omega), List.take_add, List.drop_drop, show sa + k + (na - k) = sa + na by (first | lia | omega)]
      have whole : (arrOf st).toList = (arrOf st).toList.take (sa + k) ++ (((arrOf st).toList.drop (sa + k)).take (na - k + k') ++ (arrOf st).toList.drop (sa + k + (na - k + k'))) := by
        have e := List.take_append_drop (na - k + k') ((arrOf st).toList.drop (sa + k))
        rw [List.drop_drop] at e
        rw [e, List.take_append_drop]
      rw [List.append_assoc]
      conv => rhs; rw [whole]
      refine List.Perm.append_left _ (List.Perm.append_right _ ?_)
      rw [← cut]
      exact hp
    · show KK κ ys j = _
      refine KK_congr ?_
      rcases hj with h | h
      · exact out1 j (by (first | lia | omega))
      · exact out2 j (by (first | lia | omega))
    · show Seg κ ys sa (na + nb)
      refine merged_seg (f := KK κ (arrOf st)) (g := KK κ ys) (p := sa + k) (m := sa + na + k') ga' gb' (by (first | lia | omega)) (by (first | lia | omega)) (by (first | lia | omega)) (by (first | lia | omega)) (by (first | lia | omega)) (by (first | lia | omega)) F1 F2 (fun j hj => KK_congr ?_) (fun j b1 b2 => ?_) (fun i j b1 b2 b3 => ?_)
      · rcases hj with h | h
        · exact out1 j h
        · exact out2 j h
      · obtain ⟨x, e3, _, hm⟩ := got j b1 b2
        rcases List.mem_append.mp (hp.mem_iff.mp hm) with h | h
        · obtain ⟨t, ht, e4⟩ := mX h
          exact ⟨sa + k + t, by (first | lia | omega), by (first | lia | omega), KK_congr (e3.trans e4.symm)⟩
        · obtain ⟨t, ht, e4⟩ := mY h
          exact ⟨sa + na + t, by (first | lia | omega), by (first | lia | omega), KK_congr (e3.trans e4.symm)⟩
      · obtain ⟨x, e3, e4, hm⟩ := got i b1 (by (first | lia | omega))
        obtain ⟨y, e5, e6, hm'⟩ := got j (by (first | lia | omega)) b3
        obtain ⟨a, ka⟩ := kXY x (hp.mem_iff.mp hm)
        obtain ⟨b, kb⟩ := kXY y (hp.mem_iff.mp hm')
        rw [KK_at e3 ka, KK_at e5 kb]
        rcases Nat.lt_or_eq_of_le b2 with z | z
        · rw [Array.getElem?_toList] at e4 e6
          exact pair_at hw (show i - (sa + k) < j - (sa + k) by (first | lia | omega)) e4 e6 a b ka kb
        · subst z
          rw [e3] at e5
          cases e5
          rw [ka] at kb
          cases kb
          exact KeyOrd.kle_refl _
  have ret : ∀ r u, MD κ X Y st1 r u → Q ((failedOf (setArr u ((r.toList.zipIdx).foldl (fun a x => a.setIfInBounds (sa + k + x.2) x.1) (arrOf u)))).isNone) (setArr u ((r.toList.zipIdx).foldl (fun a x => a.setIfInBounds (sa + k + x.2) x.1) (arrOf u))) := fun r u D => by
    have M := fin r u D
    rw [M.fl]
    exact q _ M
  by_cases c : na - k ≤ k'
  · rw [if_pos c]
    refine wpS_bind (mergeLo_at T k1 kXY pX pY (by (first | lia | omega)) (by (first | lia | omega)) (fun x y hy hx => ?_) (fun x hx y hy => ?_) fun r u D => wpS_bind (wpS_modify (wpS_bind (wpS_get (wpS_pure (ret r u D))))))
    · exact YX (aX hx).2 (aY hy).2 (KeyOrd.kle_of_klt (G1 _ (by (first | lia | omega)) (by (first | lia | omega))))
    · obtain ⟨t, ht, e4⟩ := mY hy
      have h3 := (aX hx).2
      rw [sX, show sa + k + (na - k - 1) = sa + na - 1 by (first | lia | omega)] at h3
      exact YX h3 e4 (KeyOrd.kle_of_klt (G2 _ (by (first | lia | omega)) (by (first | lia | omega))))
  · rw [if_neg c]
    refine wpS_bind (mergeHi_at T k1 kXY pX pY (by (first | lia | omega)) (by (first | lia | omega)) (fun y hy x hx => ?_) (fun x y hx hy => ?_) fun r u D => wpS_bind (wpS_modify (wpS_bind (wpS_get (wpS_pure (ret r u D))))))
    · obtain ⟨t, ht, e4⟩ := mX hx
      exact YX e4 (aY hy).2 (KeyOrd.kle_of_klt (G1 _ (by (first | lia | omega)) (by (first | lia | omega))))
    · have h3 := (aX hx).2
      rw [sX, show sa + k + (na - k - 1) = sa + na - 1 by (first | lia | omega)] at h3
      exact YX h3 (aY hy).2 (KeyOrd.kle_of_klt (G2 _ (by (first | lia | omega)) (by have := (aY hy).1; (first | lia | omega))))
noncomputable def Cover (κ : KeyKind) (xs : Array Keyed) : Nat → List (Nat × Nat × Nat) → Nat → Prop
  | a, [], b => a = b
  | a, r :: rs, b => r.1 = a ∧ 0 < r.2.1 ∧ Seg κ xs a r.2.1 ∧ Cover κ xs (a + r.2.1) rs b
theorem Seg.same {xs ys : Array Keyed} {lo n : Nat} (h : Seg κ xs lo n) (e : ∀ i, lo ≤ i → i < lo + n → KK κ ys i = KK κ xs i) : Seg κ ys lo n := fun i j h1 h2 h3 => by
  rw [e i h1 (by (first | lia | omega)), e j (by (first | lia | omega)) h3]
  exact h i j h1 h2 h3
theorem Cover.len {xs : Array Keyed} : ∀ {l : List (Nat × Nat × Nat)} {a b : Nat}, Cover κ xs a l b → a + l.length ≤ b
  | [], a, b, h => by cases h; exact Nat.le_refl _
  | r :: rs, a, b, ⟨_, h1, _, h2⟩ => by
    have := Cover.len h2
    rw [List.length_cons]
    (first | lia | omega)
theorem Cover.same {xs ys : Array Keyed} : ∀ {l : List (Nat × Nat × Nat)} {a b : Nat}, Cover κ xs a l b → (∀ i, a ≤ i → i < b → KK κ ys i = KK κ xs i) → Cover κ ys a l b
  | [], a, b, h, _ => h
  | r :: rs, a, b, ⟨e, h1, h2, h3⟩, k => by
    have := h3.len
    exact ⟨e, h1, h2.same fun i b1 b2 => k i b1 (by (first | lia | omega)), h3.same fun i b1 b2 => k i (by (first | lia | omega)) b2⟩
theorem Cover.snoc {xs : Array Keyed} : ∀ {l : List (Nat × Nat × Nat)} {a b : Nat} {n pw : Nat}, Cover κ xs a l b → 0 < n → Seg κ xs b n → Cover κ xs a (l ++ [(b, n, pw)]) (b + n)
  | [], a, b, n, pw, h, h1, h2 => by cases h; exact ⟨rfl, h1, h2, rfl⟩
  | r :: rs, a, b, n, pw, ⟨e, g1, g2, g3⟩, h1, h2 => ⟨e, g1, g2, g3.snoc h1 h2⟩
theorem Cover.power {xs : Array Keyed} : ∀ {l : List (Nat × Nat × Nat)} {a b : Nat} {x n pw pw' : Nat}, Cover κ xs a (l ++ [(x, n, pw)]) b → Cover κ xs a (l ++ [(x, n, pw')]) b
  | [], _, _, _, _, _, _, h => h
  | _ :: _, _, _, _, _, _, _, ⟨e, g1, g2, g3⟩ => ⟨e, g1, g2, g3.power⟩
theorem Cover.two {xs : Array Keyed} : ∀ {l r : List (Nat × Nat × Nat)} {x y : Nat × Nat × Nat} {a b : Nat}, Cover κ xs a (l ++ x :: y :: r) b → a ≤ x.1 ∧ y.1 = x.1 + x.2.1 ∧ 0 < x.2.1 ∧ 0 < y.2.1 ∧ Seg κ xs x.1 x.2.1 ∧ Seg κ xs y.1 y.2.1 ∧ x.1 + x.2.1 + y.2.1 ≤ b ∧
      ∀ ys : Array Keyed, (∀ j, j < x.1 ∨ x.1 + (x.2.1 + y.2.1) ≤ j → KK κ ys j = KK κ xs j) → Seg κ ys x.1 (x.2.1 + y.2.1) → ∀ pw, Cover κ ys a (l ++ (x.1, x.2.1 + y.2.1, pw) :: r) b
  | [], r, (x1, x2, x3), (y1, y2, y3), a, b, ⟨e1, g1, g2, e2, g3, g4, g5⟩ => by
    have e1 : x1 = a := e1
    subst e1
    have e2 : y1 = x1 + x2 := e2
    subst e2
    have := g5.len
    exact ⟨Nat.le_refl _, rfl, g1, g3, g2, g4, (by show x1 + x2 + y2 ≤ b; have : x1 + x2 + y2 + r.length ≤ b := this; (first | lia | omega)), fun ys h1 h2 pw => ⟨rfl, (by show 0 < x2 + y2; exact Nat.lt_of_lt_of_le g1 (Nat.le_add_right _ _)), h2, by
      show Cover κ ys (x1 + (x2 + y2)) r b
      rw [← Nat.add_assoc]
      exact g5.same fun i b1 _ => h1 i (.inr (by show x1 + (x2 + y2) ≤ i; have : x1 + x2 + y2 ≤ i := b1; (first | lia | omega)))⟩⟩
  | z :: l, r, x, y, a, b, ⟨e, g1, g2, g3⟩ => by
    obtain ⟨q1, q2, q3, q4, q5, q6, q7, q8⟩ := g3.two
    exact ⟨by (first | lia | omega), q2, q3, q4, q5, q6, q7, fun ys h1 h2 pw => ⟨e, g1, g2.same fun i b1 b2 => h1 i (.inl (by (first | lia | omega))), q8 ys h1 h2 pw⟩⟩
theorem two_of {p : Array (Nat × Nat × Nat)} {i : Nat} (h : i + 2 ≤ p.size) : ∃ l x y r, p.toList = l ++ x :: y :: r ∧ l.length = i ∧ p[i]? = some x ∧ p[i + 1]? = some y ∧ ∀ v, ((p.setIfInBounds i v).eraseIdxIfInBounds (i + 1)).toList = l ++ v :: r := by
  have hl : i + 2 ≤ p.toList.length := by rw [Array.length_toList]; exact h
  have e : p.toList = p.toList.take i ++ p.toList[i] :: p.toList[i + 1] :: p.toList.drop (i + 2) := by
    rw [← List.drop_eq_getElem_cons, ← List.drop_eq_getElem_cons, List.take_append_drop]
  have lt : (p.toList.take i).length = i := by rw [List.length_take]; (first | lia | omega)
  refine ⟨p.toList.take i, p.toList[i], p.toList[i + 1], p.toList.drop (i + 2), e, lt, ?_, ?_, fun v => ?_⟩
  · rw [← Array.getElem?_toList, List.getElem?_eq_getElem]
  · rw [← Array.getElem?_toList, List.getElem?_eq_getElem]
  · have e2 : (p.setIfInBounds i v).toList = p.toList.take i ++ v :: p.toList[i + 1] :: p.toList.drop (i + 2) := by
      rw [Array.toList_setIfInBounds]
      conv => lhs; rw [e]
      rw [List.set_append_right _ _ (by rw [lt]; exact Nat.le_refl _), lt, Nat.sub_self]
      rfl
    rw [Array.toList_eraseIdxIfInBounds, e2, List.eraseIdx_append_of_length_le (by rw [lt]; (first | lia | omega)), lt, Nat.add_sub_cancel_left]
    rfl
theorem two_ways {β : Type} {R : Nat → StateT SortSt Sem β} {P : Nat → SortSt → Prop} {Q : β → SortSt → Prop} {W : Prop} (main : (∀ n u, P n u → wpS (model prog w) A E s (R n) Q u) → W) (key : ∀ n u, P n u → wpS (model prog w) A E s (R n) Q u) : W := main key
structure Pn (κ : KeyKind) (kd : SortKind) (o : Array Keyed) (lo : Nat) (st : SortSt) : Prop where
  pm : (arrOf st).Perm o
  kn : kindOf st = kd
  fl : failedOf st = none
  cv : Cover κ (arrOf st) 0 (pendingOf st).toList lo
theorem Pn.merge (T : Tells prog w A s κ kd) (h0 : KeysOf κ o) {lo i : Nat} (P : Pn κ kd o lo st) (hlo : lo ≤ o.size) (hi : i + 2 ≤ (pendingOf st).size) {Q : Bool → SortSt → Prop}
    (q : ∀ u, Pn κ kd o lo u → (pendingOf u).size + 1 = (pendingOf st).size → (∀ j, lo ≤ j → KK κ (arrOf u) j = KK κ (arrOf st) j) → Q true u) : wpS (model prog w) A E s (mergeAt' i) Q st := by
  obtain ⟨l, ⟨x1, x2, x3⟩, ⟨y1, y2, y3⟩, r, e, el, e1, e2, e3⟩ := two_of hi
  have c := P.cv
  rw [e] at c
  obtain ⟨_, q2, q3, q4, q5, q6, q7, q8⟩ := c.two
  have q2 : y1 = x1 + x2 := q2
  subst q2
  have q7 : x1 + x2 + y2 ≤ lo := q7
  refine mergeAt_at T h0 P.pm P.kn P.fl e1 e2 q3 q4 (by (first | lia | omega)) q5 q6 fun u M => q u ⟨M.pm, M.kn, M.fl, ?_⟩ ?_ fun j hj => M.ks j (.inr (by (first | lia | omega)))
  · rw [M.pn, e3]
    exact q8 (arrOf u) M.ks M.sg _
  · rw [M.pn, ← Array.length_toList, e3, ← Array.length_toList, e, List.length_append, List.length_append]
    rfl
theorem modify_last {α : Type} (f : α → α) : ∀ (l : List α) (x : α), (l ++ [x]).modify l.length f = l ++ [f x]
  | [], _ => rfl
  | y :: l, x => by
    rw [List.cons_append, List.length_cons, List.modify_succ_cons, modify_last f l x]
    rfl
theorem back_of {p : Array (Nat × Nat × Nat)} (h : 0 < p.size) (f : Nat × Nat × Nat → Nat × Nat × Nat) : ∃ l x, p.toList = l ++ [x] ∧ (p.modify (p.size - 1) f).toList = l ++ [f x] := by
  have hne : p.toList ≠ [] := fun z => by rw [← Array.length_toList, z] at h; exact absurd h (by decide)
  refine ⟨p.toList.dropLast, p.toList.getLast hne, (List.dropLast_concat_getLast hne).symm, ?_⟩
  rw [Array.toList_modify]
  have e := (List.dropLast_concat_getLast hne).symm
  have hl : p.toList.dropLast.length = p.size - 1 := by rw [List.length_dropLast, Array.length_toList]
  conv => lhs; rw [e]
  rw [← hl, modify_last]
theorem ite_two {c : Prop} [Decidable c] {a n : Nat} (h : a + 2 ≤ n) : (if c then a - 1 else a) + 2 ≤ n := by
  split <;> (first | lia | omega)
theorem sort_runs2 (T : Tells prog w A s κ kd) (h0 : KeysOf κ o) (S : Stays kd o st) {Q : Unit → SortSt → Prop} (h2 : 2 ≤ o.size)
    (q : ∀ u, (arrOf u).Perm o → failedOf u = none → SortedToK κ (arrOf u) o.size → Q () u) : wpS (model prog w) A E s sortRuns' Q st := by
  rw [sortRuns'_eq]
  refine wpS_bind (wpS_get ?_)
  simp only [S.sz]
  generalize minRun' o.size o.size 0 = mr
  refine wpS_bind (wpS_mono (wpS_forRange
    (I := fun t c u => ∃ lo, c = (none, lo) ∧ lo ≤ o.size ∧ t ≤ lo ∧ Pn κ kd o lo u)
    (Q := fun c u => c = (none, o.size) ∧ Pn κ kd o o.size u) (fun t c u _ ht hI => ?_) (fun c u hI => ?_) ⟨0, rfl, Nat.zero_le _, Nat.le_refl _, S.pm, S.kn, S.fl, by rw [S.pn]; exact rfl⟩) fun c u hI => ?_)
  · obtain ⟨lo, rfl, hlo, htl, P⟩ := hI
    show wpS _ _ _ _ (if lo ≥ o.size then _ else _) _ u
    by_cases ge : lo ≥ o.size
    · rw [if_pos ge]
      obtain rfl : lo = o.size := by (first | lia | omega)
      exact wpS_pure ⟨rfl, P⟩
    rw [if_neg ge]
    have K : Kp κ kd o u lo u := ⟨P.pm, P.kn, P.fl, rfl, fun _ _ => rfl⟩
    refine wpS_bind (run_of2 T h0 (n := o.size - lo) (by (first | lia | omega)) (by (first | lia | omega)) K fun m v Kv m1 m2 sg => ?_)
    apply two_ways (P := fun n v => 1 ≤ n ∧ lo + n ≤ o.size ∧ Kp κ kd o u lo v ∧ Seg κ (arrOf v) lo n)
    · intro key
      by_cases lt : m < mr
      · simp only [lt, if_true]
        have f1 : m ≤ min (o.size - lo) mr := by (first | lia | omega)
        have f2 : lo + min (o.size - lo) mr ≤ o.size := by (first | lia | omega)
        refine wpS_bind (wpS_lift (wpAny_rule ⟨rfl, ?_⟩))
        show wpS _ _ _ _ (binarySort' lo (min (o.size - lo) mr) m >>= _) _ _
        generalize min (o.size - lo) mr = n at f1 f2 ⊢
        refine wpS_bind (put_in2 T h0 f2 f1 m1 Kv sg fun v' K' up' => ?_)
        simp only [Bool.not_true, Bool.false_eq_true, if_false]
        exact key n v' ⟨by (first | lia | omega), f2, K', up'⟩
      · simp only [lt, if_false]
        exact key m v ⟨m1, by (first | lia | omega), Kv, sg⟩
    · rintro n v ⟨n1, n2, Kv, sg⟩
      refine wpS_bind (wpS_get ?_)
      have Pv : Pn κ kd o lo v := ⟨Kv.pm, Kv.kn, Kv.fl, by rw [Kv.pn]; exact P.cv.same fun i _ hi => Kv.ks i hi⟩
      apply two_way (P := fun z => Pn κ kd o lo z ∧ Seg κ (arrOf z) lo n)
      · intro key
        cases hb : (pendingOf v).back? with
        | none => exact key v ⟨Pv, sg⟩
        | some x =>
          obtain ⟨s1, m1', m2'⟩ := x
          have pos : 0 < (pendingOf v).size := by
            rcases Nat.eq_zero_or_pos (pendingOf v).size with z | z
            · rw [Array.back?, z] at hb
              rw [Array.getElem?_eq_none (by (first | lia | omega))] at hb
              cases hb
            · exact z
          dsimp only
          generalize power' o.size (2 * s1 + m1') (2 * s1 + m1' + m1' + n) o.size = pw
          refine wpS_bind (wpS_mono (wpS_forRange (I := fun t c z => c = (none, ()) ∧ Pn κ kd o lo z ∧ 0 < (pendingOf z).size ∧ ∀ j, lo ≤ j → KK κ (arrOf z) j = KK κ (arrOf v) j) (Q := fun c z => c = (none, ()) ∧ Pn κ kd o lo z ∧ 0 < (pendingOf z).size ∧ ∀ j, lo ≤ j → KK κ (arrOf z) j = KK κ (arrOf v) j)
            (fun t c z _ _ hJ => ?_) (fun c z hJ => hJ) ⟨rfl, Pv, pos, fun _ _ => rfl⟩) fun c z hJ => ?_)
          · obtain ⟨rfl, Pz, hz, kz⟩ := hJ
            refine wpS_bind (wpS_get ?_)
            by_cases two : (pendingOf z).size > 1
            · obtain ⟨l, ⟨x1, x2, x3⟩, y, r, e, el, e1, e2, e3⟩ := two_of (p := pendingOf z) (i := (pendingOf z).size - 2) (by (first | lia | omega))
              rw [if_pos two, e1]
              show wpS _ _ _ _ (if x3 ≤ pw then _ else _) _ _
              by_cases le : x3 ≤ pw
              · rw [if_pos le]
                exact wpS_pure ⟨rfl, Pz, hz, kz⟩
              · rw [if_neg le]
                refine wpS_bind (Pz.merge T h0 hlo (by (first | lia | omega)) fun z' P' e' k' => ?_)
                simp only [Bool.not_true, Bool.false_eq_true, if_false]
                exact wpS_pure ⟨rfl, P', by (first | lia | omega), fun j hj => (k' j hj).trans (kz j hj)⟩
            · rw [if_neg two]
              exact wpS_pure ⟨rfl, Pz, hz, kz⟩
          · obtain ⟨rfl, Pz, hz, kz⟩ := hJ
            refine wpS_bind (wpS_modify (key _ ⟨⟨Pz.pm, Pz.kn, Pz.fl, ?_⟩, sg.same fun i b1 b2 => kz i b1⟩))
            obtain ⟨l, ⟨x1, x2, x3⟩, e, e'⟩ := back_of hz fun x => (x.1, x.2.1, pw)
            have c := Pz.cv
            rw [e] at c
            show Cover κ (arrOf z) 0 ((pendingOf z).modify ((pendingOf z).size - 1) fun x => (x.1, x.2.1, pw)).toList lo
            rw [e']
            exact c.power
      · rintro z ⟨Pz, sgz⟩
        refine wpS_bind (wpS_modify (wpS_pure ⟨lo + n, rfl, n2, by (first | lia | omega), Pz.pm, Pz.kn, Pz.fl, ?_⟩))
        show Cover κ (arrOf z) 0 ((pendingOf z).push (lo, n, 0)).toList (lo + n)
        rw [Array.toList_push]
        exact Pz.cv.snoc n1 sgz
  · obtain ⟨lo, rfl, hlo, htl, P⟩ := hI
    have e : max 0 o.size = o.size := by (first | lia | omega)
    rw [e] at htl
    obtain rfl : lo = o.size := by (first | lia | omega)
    exact ⟨rfl, P⟩
  · obtain ⟨rfl, P⟩ := hI
    have hz : (pendingOf u).size ≤ o.size := by
      have := P.cv.len
      rw [Array.length_toList] at this
      (first | lia | omega)
    refine wpS_bind (wpS_mono (wpS_forRange (I := fun t c z => c = (none, ()) ∧ Pn κ kd o o.size z ∧ ((pendingOf z).size ≤ 1 ∨ (pendingOf z).size + t ≤ o.size)) (Q := fun c z => c = (none, ()) ∧ Pn κ kd o o.size z ∧ (pendingOf z).size ≤ 1) (fun t c z _ ht hJ => ?_) (fun c z hJ => ?_) ⟨rfl, P, .inr (by (first | lia | omega))⟩) fun c z hJ => ?_)
    · obtain ⟨rfl, P', hs⟩ := hJ
      refine wpS_bind (wpS_get ?_)
      by_cases one : (pendingOf z).size ≤ 1
      · rw [if_pos one]
        exact wpS_pure ⟨rfl, P', one⟩
      rw [if_neg one]
      have go : ∀ i, i + 2 ≤ (pendingOf z).size → ∀ {f : Bool → StateT SortSt Sem (ForInStep (Option Unit × Unit))} {R : ForInStep (Option Unit × Unit) → SortSt → Prop}, (∀ v, Pn κ kd o o.size v → (pendingOf v).size + 1 = (pendingOf z).size → wpS (model prog w) A E s (f true) R v) → wpS (model prog w) A E s (mergeAt' i >>= f) R z := fun i hi f R h => wpS_bind (P'.merge T h0 (Nat.le_refl _) hi fun v Pv ev _ => h v Pv ev)
      refine go _ ?_ fun v Pv ev => ?_
      · exact ite_two (by (first | lia | omega))
      · simp only [Bool.not_true, Bool.false_eq_true, if_false]
        exact wpS_pure ⟨rfl, Pv, by (first | lia | omega)⟩
    · obtain ⟨rfl, P', hs⟩ := hJ
      have e : max 0 o.size = o.size := by (first | lia | omega)
      rw [e] at hs
      exact ⟨rfl, P', by (first | lia | omega)⟩
    · obtain ⟨rfl, P', one⟩ := hJ
      refine wpS_pure (q z P'.pm P'.fl fun i j hij hj => ?_)
      have c := P'.cv
      have hl : (pendingOf z).toList.length ≤ 1 := by rw [Array.length_toList]; exact one
      revert c hl
      cases (pendingOf z).toList with
      | nil =>
        intro c _
        have : 0 = o.size := c
        (first | lia | omega)
      | cons x r =>
        cases r with
        | nil =>
          intro c _
          obtain ⟨_, _, g, e⟩ := c
          have e : 0 + x.2.1 = o.size := e
          exact g i j (Nat.zero_le _) hij (by (first | lia | omega))
        | cons y r => intro _ hl; simp at hl
end
end Sr
namespace Mt
open PySem L2
end Mt
namespace L2
open PySem PySem.Spec PyProof.Rows
section
variable {X : Cx}
end
section
variable {X : Cx} (K : PySem.W.Frag) (hK : X.K = K)
include hK
end
end L2
namespace Sr
open PySem PyProof.Rows
section
variable {prog : Program} {w : World} {A : Around} {E : Value → Shared → Prop} {s : Shared}
theorem list_sort_tupsB {a : Addr} {vs : List Value} {n : Nat} {R : Fin → Shared → Prop} (ho : s.heap.get? a = some (seqObj "list" vs.toArray n)) (hh : ∀ v ∈ vs, Head s.heap v) (hk : ∀ v ∈ vs, ∃ ns, tupK s.heap v = some ns) (h64 : vs.length < 4096)
    (q : ∀ xs : Array Keyed, xs.Perm (pairsOf vs) → SortedToK (kT s.heap) xs vs.length → R (.done (.ret .none)) { s with heap := sortedHeap s.heap a vs (xs.map (·.2)) }) :
    wpAny (model prog w) A (Builtin.«list.sort» ⟨[.ref a], []⟩) R E s := by
  have hlt : a < s.heap.objs.size := Heap.lt_size ho
  rw [list_sort_plain]
  refine wpAny_bind (listItems_at ho rfl (wpAny_bind (listUpdate_at ho rfl ?_)))
  obtain ⟨e1, ho1⟩ : ∃ e1, (s.heap.update a (Obj.mapSeq fun _ => #[])).get? a = some (seqObj "list" #[] e1) := ⟨_, get?_update_seq ho (fun _ => #[])⟩
  refine wpAny_bind (seqEpoch_at ho1 rfl (wpAny_bind (wpAny_newTuple (wpAny_bind (wpAny_newList (wpAny_holding ?_))))))
  generalize hg : ((s.heap.update a (Obj.mapSeq fun _ => #[])).push (seqObj "tuple" vs.toArray 0)).push (seqObj "list" #[] 0) = g
  have other : ∀ b ob, b ≠ a → s.heap.get? b = some ob → g.get? b = some ob := fun b ob hb e => by
    rw [← hg]
    exact Heap.get?_push_of_some _ (Heap.get?_push_of_some _ ((Heap.get?_update_other _ _ (Ne.symm hb)).trans e))
  have ho6 : g.get? a = some (seqObj "list" #[] e1) := by
    rw [← hg]
    exact Heap.get?_push_of_some _ (Heap.get?_push_of_some _ ho1)
  show wpAny (model prog w) A _ R E { s with heap := g }
  dsimp only
  have q' : ∀ xs : Array Keyed, xs.Perm (pairsOf vs) → SortedToK (kT s.heap) xs vs.length → R (.done (.ret .none)) { s with heap := g.update a (Obj.mapSeq fun _ => xs.map (·.2)) } := fun xs h1 h2 => by
    have := q xs h1 h2
    unfold sortedHeap at this
    rw [hg] at this
    exact this
  have hsz : vs.toArray.size = vs.length := by simp
  have long : ∀ {xs : Array Keyed}, xs.Perm (pairsOf vs) → (xs.map (·.2)).size ≤ sizeLine + 1 := fun {xs} h => by
    rw [Array.size_map, h.size_eq, pairsOf_size, sizeLine_eq]
    (first | lia | omega)
  by_cases h2 : vs.toArray.size < 2
  · simp only [h2, if_true]
    refine wpAny_bind (wpAny_pure ?_)
    rw [StateT.run_pure]
    refine wpAny_bind (wpAny_pure ?_)
    refine wpAny_bind (seqEpoch_at ho6 rfl (wpAny_bind (listUpdate_at ho6 rfl ?_ (hsz2 := long (Array.Perm.refl _)))))
    simp only [bne_self_eq_false, Bool.false_eq_true, if_false]
    refine wpAny_pure (q' _ (Array.Perm.refl _) fun i j hij hj => ?_)
    have e : i = j := by (first | lia | omega)
    rw [e]
    exact KeyOrd.kle_refl _
  · simp only [h2, if_false]
    have two : 2 ≤ vs.length := by (first | lia | omega)
    have nev : vs ≠ [] := fun z => by rw [z] at two; exact absurd two (by decide)
    have notList : ∀ v ∈ vs, ∀ b, v = .ref b → b ≠ a := fun v hv b e z => by
      obtain ⟨b', its, m, t, r, e', ⟨ob, eb, cb, _⟩, _⟩ := hh v hv
      subst e
      injection e' with e'
      subst e' z
      rw [ho] at eb
      have eo : seqObj "list" vs.toArray n = ob := Option.some.inj eb
      rw [← eo] at cb
      have cb' : Value.type "list" = Value.type "tuple" := cb
      injection cb' with cb''
      exact absurd cb'' (by decide)
    have sameK : ∀ v ∈ vs, tupK g v = tupK s.heap v := fun v hv => by
      obtain ⟨b, its, m, t, r, rfl, ⟨ob, eb, cb, k, db⟩, _⟩ := hh v hv
      unfold tupK
      simp only [eb, other b ob (notList _ hv b rfl) eb]
    have hh6 : ∀ v ∈ vs, Head g v := fun v hv => by
      obtain ⟨b, its, m, t, r, rfl, ⟨ob, eb, rest⟩, hi⟩ := hh v hv
      exact ⟨b, its, m, t, r, rfl, ⟨ob, other b ob (notList _ hv b rfl) eb, rest⟩, hi⟩
    have hk6 : KeysOf (kT g) (pairsOf vs) := fun p hp => by
      rw [pairsOf_toList] at hp
      obtain ⟨_, hm⟩ := mem_zip_self hp
      obtain ⟨ns, e⟩ := hk _ hm
      exact ⟨ns, (sameK _ hm).trans e⟩
    refine wpAny_bind (kind_tup (s := { s with heap := g }) hh6 nev ?_)
    refine wpAny_bind (wpAny_mono (sort_runs2 (κ := kT g) (kd := tuples' true) (o := pairsOf vs) (st := SortSt.mk' (tuples' true) (vs.toArray.zip vs.toArray) #[] 7 none)
      (Q := fun _ u => (arrOf u).Perm (pairsOf vs) ∧ failedOf u = none ∧ SortedToK (kT g) (arrOf u) (pairsOf vs).size) (tells_tup (s := { s with heap := g }) true) hk6 ⟨Array.Perm.refl _, rfl, rfl, rfl⟩ (by rw [pairsOf_size]; exact two)
      fun u h1 h2 h3 => ⟨h1, h2, h3⟩) ?_ fun _ _ z => z)
    rintro ⟨⟨⟩, u⟩ s' ⟨rfl, hp, hf, hs⟩
    refine wpAny_bind (seqEpoch_at ho6 rfl (wpAny_bind (listUpdate_at ho6 rfl ?_ (hsz2 := long hp))))
    rw [hf]
    simp only [bne_self_eq_false, Bool.false_eq_true, if_false]
    refine wpAny_pure (q' _ hp fun i j hij hj => ?_)
    have kk : ∀ i, i < vs.length → KK (kT s.heap) (arrOf u) i = KK (kT g) (arrOf u) i := fun i hi => by
      have hi' : i < (arrOf u).size := by rw [hp.size_eq, pairsOf_size]; exact hi
      have e := getElem?_pos (arrOf u) i hi'
      have hin : (arrOf u)[i] ∈ (pairsOf vs).toList := (Array.perm_iff_toList_perm.mp hp).mem_iff.mp (by simp)
      rw [pairsOf_toList] at hin
      obtain ⟨_, hm⟩ := mem_zip_self hin
      simp only [KK, e]
      show (tupK s.heap _).getD [] = (tupK g _).getD []
      rw [sameK _ hm]
    rw [kk i (by (first | lia | omega)), kk j hj]
    exact hs i j hij (by rw [pairsOf_size]; exact hj)
theorem sorted_tupsB {l : Addr} {vs : List Value} {Q : Value → Shared → Prop} (hl : s.heap.IsList l vs.toArray) (hh : ∀ v ∈ vs, Head s.heap v) (hk : ∀ v ∈ vs, ∃ ns, tupK s.heap v = some ns) (h64 : vs.length < 4096)
    (q : ∀ (xs : Array Keyed) (h' : Heap) (n : Nat), xs.Perm (pairsOf vs) → SortedToK (kT s.heap) xs vs.length → h'.get? (s.heap.objs.size + 1) = some (seqObj "list" (xs.map (·.2)) n) → (∀ b o, s.heap.get? b = some o → h'.get? b = some o) →
      Q (.ref (s.heap.objs.size + 1)) { s with heap := h' }) :
    wpAny (model prog w) A (call (.builtin "sorted") [.ref l]) Q E s := by
  refine Calls.call_function_entry kind_sorted plain_sorted entry_sorted (args_sorted1 _) ?_
  unfold Builtin.«sorted»
  refine wpAny_bind (m := checkCount "sorted" 1 1 _) (wpAny_pure (wpAny_bind (collect_list hl (wpAny_bind (wpAny_newList ?_)))))
  generalize hg : (s.heap.push (seqObj "list" #[] 0)).update s.heap.objs.size (Obj.mapSeq (· ++ vs.toArray)) = g
  have zg : g.objs.size = s.heap.objs.size + 1 := by rw [← hg, Heap.size_update, size_push']
  have og : ∀ b o, s.heap.get? b = some o → g.get? b = some o := fun b o e => by
    rw [← hg]
    exact (Heap.get?_update_other _ _ (Nat.ne_of_gt (Heap.lt_size e))).trans (Heap.get?_push_of_some _ e)
  show wpAny _ _ _ _ _ { s with heap := g.push (seqObj "list" vs.toArray 0) }
  rw [zg]
  have hoL : (g.push (seqObj "list" vs.toArray 0)).get? (s.heap.objs.size + 1) = some (seqObj "list" vs.toArray 0) := by rw [← zg]; exact Heap.get?_push_size _ rfl
  have ol : ∀ b o, s.heap.get? b = some o → (g.push (seqObj "list" vs.toArray 0)).get? b = some o := fun b o e => Heap.get?_push_of_some _ (og b o e)
  have sameK : ∀ v ∈ vs, tupK (g.push (seqObj "list" vs.toArray 0)) v = tupK s.heap v := fun v hv => by
    obtain ⟨b, its, m, t, r, rfl, ⟨ob, eb, cb, k, db⟩, _⟩ := hh v hv
    unfold tupK
    simp only [eb, ol b ob eb]
  refine wpAny_bind (wpAny_holding (wpAny_call_entry slot_list_sort ⟨_, hoL, rfl⟩ entry_list_sort (list_sort_tupsB (s := { s with heap := g.push (seqObj "list" vs.toArray 0) }) hoL (fun v hv => ?_) (fun v hv => ?_) h64 fun xs h1 h2 => ⟨_, rfl, ?_⟩) (args_list_sort _)))
  · obtain ⟨b, its, m, t, r, e, ⟨ob, eb, rest⟩, hi⟩ := hh v hv
    exact ⟨b, its, m, t, r, e, ⟨ob, ol b ob eb, rest⟩, hi⟩
  · obtain ⟨ns, e⟩ := hk v hv
    exact ⟨ns, (sameK v hv).trans e⟩
  · have kk : SortedToK (kT s.heap) xs vs.length := fun i j hij hj => by
      have one : ∀ i, i < vs.length → KK (kT s.heap) xs i = KK (kT (g.push (seqObj "list" vs.toArray 0))) xs i := fun i hi => by
        have hi' : i < xs.size := by rw [h1.size_eq, pairsOf_size]; exact hi
        have e := getElem?_pos xs i hi'
        have hin : xs[i] ∈ (pairsOf vs).toList := (Array.perm_iff_toList_perm.mp h1).mem_iff.mp (by simp)
        rw [pairsOf_toList] at hin
        obtain ⟨_, hm⟩ := mem_zip_self hin
        simp only [KK, e]
        show (tupK s.heap _).getD [] = (tupK _ _).getD []
        rw [sameK _ hm]
      rw [one i (by (first | lia | omega)), one j hj]
      exact h2 i j hij hj
    generalize hf : sortedHeap (g.push (seqObj "list" vs.toArray 0)) (s.heap.objs.size + 1) vs (xs.map (·.2)) = h'
    obtain ⟨m, em⟩ : ∃ m, h'.get? (s.heap.objs.size + 1) = some (seqObj "list" (xs.map (·.2)) m) := by
      rw [← hf]
      unfold sortedHeap
      obtain ⟨e1, ho1⟩ : ∃ e1, ((g.push (seqObj "list" vs.toArray 0)).update (s.heap.objs.size + 1) (Obj.mapSeq fun _ => #[])).get? (s.heap.objs.size + 1) = some (seqObj "list" #[] e1) := ⟨_, get?_update_seq hoL (fun _ => #[])⟩
      exact ⟨_, get?_update_seq (Heap.get?_push_of_some _ (Heap.get?_push_of_some _ ho1)) (fun _ => xs.map (·.2))⟩
    have keep : ∀ b o, s.heap.get? b = some o → h'.get? b = some o := fun b o e => by
      have hb : b ≠ s.heap.objs.size + 1 := Nat.ne_of_lt (Nat.lt_succ_of_lt (Heap.lt_size e))
      rw [← hf]
      unfold sortedHeap
      exact (Heap.get?_update_other _ _ (Ne.symm hb)).trans (Heap.get?_push_of_some _ (Heap.get?_push_of_some _ ((Heap.get?_update_other _ _ (Ne.symm hb)).trans (ol b o e))))
    exact wpAny_pure ⟨_, rfl, q xs h' m h1 kk em keep⟩
end
end Sr
namespace L2
open PySem PySem.Spec PyProof.Rows
section
variable {X : Cx}
theorem call_sortedB : CallR X (.builtin "sorted") (fun xs H Q => ∃ p ts, xs = [.ref p] ∧ SqL X.K H p (refsV ts) ∧ (∀ t ∈ ts, SqT X.K H t.1 (t.2.map V.int) ∧ t.2 ≠ []) ∧ ts.length < 4096 ∧
    ∀ (l : Addr) (ts' : List TI2), H l = none → ts'.Perm ts → ts'.Pairwise (fun a b => HT.lexLt b.2 a.2 = false) → Q (.ref l) (upd H l (.lst (refsV ts')))) := by
  intro pins s σ H xs us Q I r h
  obtain ⟨p, ts, rfl, hq, ht, h64, q⟩ := h
  obtain ⟨u, rfl, ru⟩ := vals1 r
  cases ru
  obtain ⟨its, rv, pl, hz⟩ := I.list hq
  have ei := vals_refs rv
  subst ei
  have tup : ∀ t ∈ ts, ∃ vs, IsTup s.heap t.1 vs.toArray ∧ IntsAre vs t.2 := fun t hm => by
    obtain ⟨vs, r2, p2, _⟩ := I.tuple (ht t hm).1
    exact ⟨vs, p2, intsAre_of r2⟩
  have key : ∀ t ∈ ts, Sr.tupK s.heap (.ref t.1) = some t.2 := fun t hm => by
    obtain ⟨vs, p2, i2⟩ := tup t hm
    exact Sr.tupK_of p2 (by simpa using i2)
  have e0 : H (s.heap.objs.size + 1) = none := I.hok.fresh (Nat.le_succ _)
  refine Sr.sorted_tupsB (vs := ts.map fun t => Value.ref t.1) pl.isList (fun v hv => ?_) (fun v hv => ?_) (by rw [List.length_map]; exact h64) fun xs h' n hp hs hl hk => ?_
  · obtain ⟨t, hm, rfl⟩ := List.mem_map.mp hv
    obtain ⟨ta, tn⟩ := t
    obtain ⟨vs, p2, i2⟩ := tup (ta, tn) hm
    have hne := (ht (ta, tn) hm).2
    have i2 : IntsAre vs tn := i2
    cases i2 with
    | nil => exact absurd rfl hne
    | cons m tk r2 => exact ⟨ta, _, m, tk, _, rfl, p2, rfl⟩
  · obtain ⟨t, hm, rfl⟩ := List.mem_map.mp hv
    exact ⟨t.2, key t hm⟩
  · have pl2 : xs.toList.Perm ((ts.map fun t => Value.ref t.1).zip (ts.map fun t => Value.ref t.1)) := by rw [← pairsOf_toList]; exact Array.perm_iff_toList_perm.mp hp
    have ez : ((ts.map fun t => Value.ref t.1).zip (ts.map fun t => Value.ref t.1)) = ts.map fun t => (Value.ref t.1, Value.ref t.1) := by
      exact zip_same _ ts
    rw [ez] at pl2
    obtain ⟨ts', p1, e1⟩ := Sr.perm_map_inv pl2
    have eo : (xs.map (·.2)) = (ts'.map fun t => Value.ref t.1).toArray := by
      apply Array.toList_inj.mp
      rw [Array.toList_map, e1, List.map_map]
      rfl
    have hlen : xs.size = ts'.length := by
      have := congrArg List.length e1
      rw [List.length_map] at this
      simpa using this
    have srt : ts'.Pairwise (fun a b => HT.lexLt b.2 a.2 = false) := by
      rw [List.pairwise_iff_getElem]
      intro i j hi hj hij
      have h3 := hs i j (Nat.le_of_lt hij) (by rw [List.length_map, ← p1.length_eq]; exact hj)
      have kk : ∀ k (hk : k < ts'.length), KK (Sr.kT s.heap) xs k = ts'[k].2 := fun k hk' => by
        have hk2 : k < xs.size := by rw [hlen]; exact hk'
        have e := getElem?_pos xs k hk2
        have e2 : xs[k] = (Value.ref ts'[k].1, Value.ref ts'[k].1) := by
          have e3 : xs.toList[k]? = some (Value.ref ts'[k].1, Value.ref ts'[k].1) := by rw [e1, List.getElem?_map, List.getElem?_eq_getElem hk'] <;> rfl
          have e4 : xs.toList[k]? = some xs[k] := by rw [Array.getElem?_toList]; exact e
          rw [e4] at e3
          exact Option.some.inj e3
        simp only [KK, e, e2]
        show (Sr.tupK s.heap (Value.ref ts'[k].1)).getD [] = _
        rw [key _ (p1.mem_iff.mp (List.getElem_mem hk'))]
        rfl
      rw [kk i hi, kk j hj] at h3
      exact h3
    refine ⟨.ref (s.heap.objs.size + 1), _, I.laid (t' := s.toks) (o := .lst (refsV ts')) hk (Nat.le_succ _) ⟨?_, _, n, vals_of_refs ts', ?_⟩, rfl, q _ ts' e0 p1 srt⟩
    · unfold refsV
      rw [List.length_map, p1.length_eq]
      exact smallL (by (first | lia | omega))
    · rw [hl, eo]
end
section
variable {s : Shared}
theorem sort_tailB {prog : Program} {w : World} {A : Around} {E : Value → Shared → Prop} {a kS : Addr} {ks : List Value} {e e1 : Nat} {st : SortSt} {R : PySem.Fin → Shared → Prop} (hk : s.heap.get? kS = some (seqObj "list" ks.toArray e))
    (ha : s.heap.get? a = some (seqObj "list" #[] e1)) (hne : kS ≠ a) (hz : ks.length < 4096) (hp : (arrOf st).size < 4096) (hf : failedOf st = none)
    (q : ∀ c, ((s.heap.update kS (Obj.mapSeq fun _ => #[])).update a (Obj.mapSeq fun _ => (arrOf st).map (·.2))).get? a = some (seqObj "list" ((arrOf st).map (·.2)) c) →
      R (.done (.ret .none)) { s with heap := (s.heap.update kS (Obj.mapSeq fun _ => #[])).update a (Obj.mapSeq fun _ => (arrOf st).map (·.2)) }) :
    wpAny (model prog w) A (ksk_tail a false e1 (.ref kS) st) R E s := by
  have ha1 : (s.heap.update kS (Obj.mapSeq fun _ => (#[] : Array Value))).get? a = some (seqObj "list" #[] e1) := (Heap.get?_update_other _ _ hne).trans ha
  unfold ksk_tail
  dsimp only
  refine wpAny_bind (listUpdate_at hk rfl (wpAny_bind (wpAny_letGo (wpAny_bind (seqEpoch_at ha1 rfl (wpAny_bind (listUpdate_at ha1 rfl ?_ (Nat.zero_le _) ?_)))))) ?_ (Nat.zero_le _))
  · rw [hf]
    simp only [bne_self_eq_false, Bool.false_eq_true, if_false]
    exact wpAny_pure (q _ (get?_update_seq ha1 fun _ => (arrOf st).map (·.2)))
  · simp only [Bool.false_eq_true, if_false, Array.size_map]
    rw [sizeLine_eq]
    (first | lia | omega)
  · rw [List.size_toArray, sizeLine_eq]
    (first | lia | omega)
theorem sort_endB {prog : Program} {w : World} {A : Around} {E : Value → Shared → Prop} {s : Shared} {a kS : Addr} {ts : List Addr} {its : List Value} {e e1 : Nat} {R : PySem.Fin → Shared → Prop} (hk : s.heap.get? kS = some (seqObj "list" (ts.map Value.ref).toArray e))
    (ha : s.heap.get? a = some (seqObj "list" #[] e1)) (hne : kS ≠ a) (hlen : ts.length = its.length) (h64 : its.length < 4096) (hh : ∀ v ∈ ts.map Value.ref, Sr.Head s.heap v) (hkk : ∀ v ∈ ts.map Value.ref, ∃ ns, Sr.tupK s.heap v = some ns)
    (q : ∀ (xs : Array Keyed) (c : Nat), xs.Perm ((ts.map Value.ref).toArray.zip its.toArray) → SortedToK (Sr.kT s.heap) xs its.length →
      ((s.heap.update kS (Obj.mapSeq fun _ => #[])).update a (Obj.mapSeq fun _ => xs.map (·.2))).get? a = some (seqObj "list" (xs.map (·.2)) c) →
      R (.done (.ret .none)) { s with heap := (s.heap.update kS (Obj.mapSeq fun _ => #[])).update a (Obj.mapSeq fun _ => xs.map (·.2)) }) :
    wpAny (model prog w) A (ksk_end a false its.toArray e1 (.ref kS) (ts.map Value.ref).toArray) R E s := by
  have hzs : ((ts.map Value.ref).toArray.zip its.toArray).size = its.length := by rw [Array.size_zip, List.size_toArray, List.size_toArray, List.length_map, hlen, Nat.min_self]
  have hkl : (ts.map Value.ref).length < 4096 := by rw [List.length_map]; (first | lia | omega)
  unfold ksk_end
  dsimp only
  simp only [Bool.false_eq_true, if_false]
  by_cases h2 : its.toArray.size < 2
  · rw [if_pos h2, if_pos h2]
    refine wpAny_bind (wpAny_pure ?_)
    rw [StateT.run_pure]
    refine wpAny_bind (wpAny_pure ?_)
    dsimp only
    refine sort_tailB (st := SortSt.mk' general' ((ts.map Value.ref).toArray.zip its.toArray) #[] 7 none) hk ha hne hkl (by show Array.size _ < 4096; rw [hzs]; exact h64) rfl fun c hc => q _ c (Array.Perm.refl _) (fun i j hij hj => ?_) hc
    rw [List.size_toArray] at h2
    have e : i = j := by (first | lia | omega)
    rw [e]
    exact KeyOrd.kle_refl _
  · rw [if_neg h2, if_neg h2]
    rw [List.size_toArray] at h2
    have nev : ts.map Value.ref ≠ [] := fun z => by
      have := congrArg List.length z
      rw [List.length_map] at this
      simp at this
      subst this
      simp at hlen
      (first | lia | omega)
    refine wpAny_bind (Sr.kind_tup hh nev ?_)
    have hK : KeysOf (Sr.kT s.heap) ((ts.map Value.ref).toArray.zip its.toArray) := fun p hp => by
      rw [ksk_zip] at hp
      obtain ⟨j, h1, _⟩ := zip_get hp
      exact hkk _ (List.mem_of_getElem? h1)
    refine wpAny_bind (wpAny_mono (Sr.sort_runs2 (κ := Sr.kT s.heap) (kd := tuples' true) (o := (ts.map Value.ref).toArray.zip its.toArray) (st := SortSt.mk' (tuples' true) ((ts.map Value.ref).toArray.zip its.toArray) #[] 7 none)
      (Q := fun _ u => (arrOf u).Perm ((ts.map Value.ref).toArray.zip its.toArray) ∧ failedOf u = none ∧ SortedToK (Sr.kT s.heap) (arrOf u) ((ts.map Value.ref).toArray.zip its.toArray).size) (Sr.tells_tup (s := s) true) hK ⟨Array.Perm.refl _, rfl, rfl, rfl⟩
      (by rw [hzs]; (first | lia | omega)) fun u h1 h2 h3 => ⟨h1, h2, h3⟩) ?_ fun _ _ z => z)
    rintro ⟨⟨⟩, u⟩ s' ⟨rfl, hp, hf, hs⟩
    dsimp only
    rw [hzs] at hs
    exact sort_tailB hk ha hne hkl (by rw [hp.size_eq, hzs]; exact h64) hf fun c hc => q _ c hp hs hc
end
noncomputable def rSortKB (K : PySem.W.Frag) (sp : Sp) : V → Hp → VK → Prop := fun x H Q => ∃ (p : Addr) (xs : List V) (key : V → List Int), x = .ref p ∧ SqL K H p xs ∧ xs.length < 4096 ∧ (∀ v, key v ≠ []) ∧
  (∀ v ∈ xs, ∀ H1, Same H H1 → sp [v] H1 (fun r H2 => Same H1 H2 ∧ ∃ t, r = .ref t ∧ H2 t = some (.tup ((key v).map V.int))) E0) ∧
  ∀ (l : Addr) (ys : List V) (H1 : Hp), H l = none → Same H H1 → H1 l = some (.lst ys) → ys.Perm xs → ys.Pairwise (fun a b => HT.lexLt (key b) (key a) = false) → Q (.ref l) H1
section
variable {X : Cx} {k : Nat} {f : Addr} {fd : FuncData} {ps : List Str} {sp : Sp}
theorem call_sortKB {pins : List (Addr × Obj)} {σ : St} {H : Hp} {s : Shared} {Q : VK} {x : V} {u : Value} (F : FnOk X.prog X.w X.K X.mg X.base CX0 k f fd ps sp) (hr : Room (k + 2) X.A) (hb : Binds X.K fd ps [])
    (I : Inv X pins σ H s) (rx : RelV x u) (h : rSortKB X.K sp x H Q) : wpAny (model X.prog X.w) X.A (call (.builtin "sorted") [u] [(Str.ofString "key", .ref f)]) (EP X pins σ Q) X.xe s := by
  obtain ⟨p, xs, key, rfl, hq, h64x, hne, hsp, q⟩ := h
  cases rx
  obtain ⟨its, rv, pl, hz⟩ := I.list hq
  have hlen := rv.length
  have h64 : its.length < 4096 := by (first | lia | omega)
  refine call_function_entry_kw kind_sorted plain_sorted entry_sorted (ksk_s1 _ _) ?_
  unfold Builtin.«sorted»
  refine wpAny_bind (m := checkCount "sorted" 1 1 _) (wpAny_pure (wpAny_bind (collect_list pl.isList (wpAny_bind (wpAny_newList ?_)))))
  generalize hg : (s.heap.push (seqObj "list" #[] 0)).update s.heap.objs.size (Obj.mapSeq (· ++ its.toArray)) = g
  have zg : g.objs.size = s.heap.objs.size + 1 := by rw [← hg, Heap.size_update, size_push']
  have og : ∀ b o, s.heap.get? b = some o → g.get? b = some o := fun b o e => by
    rw [← hg]
    exact (Heap.get?_update_other _ _ (Nat.ne_of_gt (Heap.lt_size e))).trans (Heap.get?_push_of_some _ e)
  show wpAny _ _ _ _ _ { s with heap := g.push (seqObj "list" its.toArray 0) }
  rw [zg]
  have hoL : (g.push (seqObj "list" its.toArray 0)).get? (s.heap.objs.size + 1) = some (seqObj "list" its.toArray 0) := by rw [← zg]; exact Heap.get?_push_size _ rfl
  have ol : ∀ b o, s.heap.get? b = some o → (g.push (seqObj "list" its.toArray 0)).get? b = some o := fun b o e => Heap.get?_push_of_some _ (og b o e)
  refine wpAny_bind (wpAny_holding (wpAny_call_entry_kw slot_list_sort ⟨_, hoL, rfl⟩ entry_list_sort ?_ (ksk_l1 _ _)))
  show wpAny (model X.prog X.w) X.A.in1.in1 (Builtin.«list.sort» ⟨[.ref (s.heap.objs.size + 1)], [(Str.ofString "key", .ref f)]⟩) _ _ _
  rw [ksk_t1]
  unfold ksk_tree
  refine wpAny_bind (listItems_at hoL rfl (wpAny_bind (listUpdate_at hoL rfl ?_)))
  obtain ⟨e1, ho1⟩ : ∃ e1, ((g.push (seqObj "list" its.toArray 0)).update (s.heap.objs.size + 1) (Obj.mapSeq fun _ => #[])).get? (s.heap.objs.size + 1) = some (seqObj "list" #[] e1) := ⟨_, get?_update_seq hoL (fun _ => #[])⟩
  refine wpAny_bind (seqEpoch_at ho1 rfl (wpAny_bind (wpAny_newTuple (wpAny_bind (wpAny_newList (wpAny_holding ?_))))))
  have zk : (((g.push (seqObj "list" its.toArray 0)).update (s.heap.objs.size + 1) (Obj.mapSeq fun _ => #[])).push (seqObj "tuple" its.toArray 0)).objs.size = s.heap.objs.size + 3 := by
    rw [size_push', Heap.size_update, size_push', zg]
  have hk0 : ((((g.push (seqObj "list" its.toArray 0)).update (s.heap.objs.size + 1) (Obj.mapSeq fun _ => #[])).push (seqObj "tuple" its.toArray 0)).push (seqObj "list" #[] 0)).get? (s.heap.objs.size + 3) = some (seqObj "list" #[] 0) := by
    rw [← zk]; exact Heap.get?_push_size _ rfl
  have ha0 : ((((g.push (seqObj "list" its.toArray 0)).update (s.heap.objs.size + 1) (Obj.mapSeq fun _ => #[])).push (seqObj "tuple" its.toArray 0)).push (seqObj "list" #[] 0)).get? (s.heap.objs.size + 1) = some (seqObj "list" #[] e1) :=
    Heap.get?_push_of_some _ (Heap.get?_push_of_some _ ho1)
  have o2 : ∀ b o, s.heap.get? b = some o → ((((g.push (seqObj "list" its.toArray 0)).update (s.heap.objs.size + 1) (Obj.mapSeq fun _ => #[])).push (seqObj "tuple" its.toArray 0)).push (seqObj "list" #[] 0)).get? b = some o := fun b o e =>
    Heap.get?_push_of_some _ (Heap.get?_push_of_some _ ((Heap.get?_update_other _ _ (Nat.ne_of_gt (Nat.lt_succ_of_lt (Heap.lt_size e)))).trans (ol b o e)))
  show wpAny (model X.prog X.w) X.A.in1.in1 (ksk_rest (s.heap.objs.size + 1) (.ref f) false its.toArray e1 (.ref (((g.push (seqObj "list" its.toArray 0)).update (s.heap.objs.size + 1) (Obj.mapSeq fun _ => #[])).push (seqObj "tuple" its.toArray 0)).objs.size)) _ _
    { s with heap := ((((g.push (seqObj "list" its.toArray 0)).update (s.heap.objs.size + 1) (Obj.mapSeq fun _ => #[])).push (seqObj "tuple" its.toArray 0)).push (seqObj "list" #[] 0)) }
  rw [zk]
  generalize hg2 : (((g.push (seqObj "list" its.toArray 0)).update (s.heap.objs.size + 1) (Obj.mapSeq fun _ => #[])).push (seqObj "tuple" its.toArray 0)).push (seqObj "list" #[] 0) = g2 at hk0 ha0 o2 ⊢
  have I2 : Inv X pins σ H { s with heap := g2 } := I.kept (t' := s.toks) o2
  have nL : H (s.heap.objs.size + 1) = none := I.hok.fresh (Nat.le_succ _)
  have nK : H (s.heap.objs.size + 3) = none := I.hok.fresh (by (first | lia | omega))
  have fL : ∀ {H1 : Hp}, H1 (s.heap.objs.size + 1) = none → FpOk X pins H1 (s.heap.objs.size + 1) := fun e => I.fpOk (Nat.le_succ _) e
  have fK : ∀ {H1 : Hp}, H1 (s.heap.objs.size + 3) = none → FpOk X pins H1 (s.heap.objs.size + 3) := fun e => I.fpOk (by (first | lia | omega)) e
  have eKL : s.heap.objs.size + 3 ≠ s.heap.objs.size + 1 := by (first | lia | omega)
  unfold ksk_rest
  refine wpAny_bind (wpAny_rule ?_)
  rw [List.forIn_toArray]
  refine wpAny_bind (ksk_fold (fun i s1 => ∃ (H1 : Hp) (ts : List Addr) (e : Nat), Inv X pins σ H1 s1 ∧ Same H H1 ∧ H1 (s.heap.objs.size + 1) = none ∧ H1 (s.heap.objs.size + 3) = none ∧ s1.heap.get? (s.heap.objs.size + 1) = some (seqObj "list" #[] e1) ∧
      s1.heap.get? (s.heap.objs.size + 3) = some (seqObj "list" (ts.map Value.ref).toArray e) ∧ ts.length = i ∧ KeysAre key H1 xs ts) its 0 { s with heap := g2 } ⟨H, [], 0, I2, Same.refl _, nL, nK, ha0, hk0, rfl, ⟨Nat.zero_le _, fun j t v e => by simp at e⟩⟩ ?_ ?_)
  · rintro j y s1 hy ⟨H1, ts, e, I1, hs1, n1, n3, hL1, hK1, htl, hks⟩
    rw [Nat.zero_add] at htl
    obtain ⟨v, hv, rvy⟩ := vals_back rv hy
    have hj : j < xs.length := (List.getElem?_eq_some_iff.mp hv).1
    have Ip := I1.pinned (fp := [s.heap.objs.size + 1, s.heap.objs.size + 3]) (fun b hb => by
      rcases List.mem_cons.mp hb with rfl | hb
      · exact fL n1
      · rw [List.mem_singleton.mp hb]; exact fK n3) (fun b hb => by
      rcases List.mem_cons.mp hb with rfl | hb
      · exact ⟨_, hL1, fun v z => by cases z⟩
      · rw [List.mem_singleton.mp hb]; exact ⟨_, hK1, fun v z => by cases z⟩)
    refine wpAny_bind (wpAny_attempt (wpAny_mono (run_in2 (E' := fun _ _ => False) F hr hb Ip (.cons rvy .nil) (hsp v (List.mem_of_getElem? hv) H1 hs1)) (fun r s2 he => ?_) fun _ _ z => z.elim))
    obtain ⟨rV, H2, Iq, rr, hs2, t, rfl, ht⟩ := he
    cases rr
    have pL := Iq.pin (s.heap.objs.size + 1, _) (List.mem_append_right _ (List.mem_append_right _ (mem_pinsAt List.mem_cons_self hL1)))
    have pK := Iq.pin (s.heap.objs.size + 3, _) (List.mem_append_right _ (List.mem_append_right _ (mem_pinsAt (List.mem_cons_of_mem _ List.mem_cons_self) hK1)))
    dsimp only
    have hK2 : s2.heap.get? (s.heap.objs.size + 3) = some (seqObj "list" (ts.map Value.ref).toArray e) := pK.1
    have hL2 : s2.heap.get? (s.heap.objs.size + 1) = some (seqObj "list" #[] e1) := pL.1
    refine wpAny_bind (listUpdate_at hK2 rfl ?_ (by rw [List.size_toArray, List.length_map, sizeLine_eq]; (first | lia | omega)) (by rw [Array.size_push, List.size_toArray, List.length_map, sizeLine_eq]; (first | lia | omega)))
    obtain ⟨f0, f1, f2, f3, f4, f5⟩ := fK pK.2.1
    obtain ⟨c2, hc2⟩ : ∃ c2, (s2.heap.update (s.heap.objs.size + 3) (Obj.mapSeq (·.push (.ref t)))).get? (s.heap.objs.size + 3) = some (seqObj "list" ((ts ++ [t]).map Value.ref).toArray c2) := by
      have e3 : (ts.map Value.ref).toArray.push (Value.ref t) = ((ts ++ [t]).map Value.ref).toArray := by simp
      have z := get?_update_seq hK2 (·.push (.ref t))
      simp only [e3] at z
      exact ⟨_, z⟩
    refine wpAny_pure ⟨rfl, H2, ts ++ [t], c2, Iq.unpinned.turned (it := s.heap.objs.size + 3) (t' := s2.toks) (fun b o hb e => (Heap.get?_update_other _ _ (Ne.symm hb)).trans e) f0 f1 f3 f4 f5, hs1.trans hs2, pL.2.1, pK.2.1,
      (Heap.get?_update_other _ _ eKL).trans hL2, hc2, by rw [List.length_append, htl, Nat.zero_add]; rfl, ?_⟩
    · refine ⟨by rw [List.length_append]; exact (by rw [htl]; exact hj), fun i t' v' e1' e2' => ?_⟩
      by_cases hi : i < ts.length
      · rw [List.getElem?_append_left hi] at e1'
        exact hs2 _ _ (hks.at_ i t' v' e1' e2')
      · have hi2 : i = ts.length := by
          have := (List.getElem?_eq_some_iff.mp e1').1
          rw [List.length_append] at this
          have : i < ts.length + 1 := this
          (first | lia | omega)
        subst hi2
        rw [List.getElem?_append_right (Nat.le_refl _), Nat.sub_self] at e1'
        have e3 : t = t' := by simpa using e1'
        subst e3
        rw [htl, hv] at e2'
        cases e2'
        exact ht
  · rintro s1 ⟨H1, ts, e, I1, hs1, n1, n3, hL1, hK1, htl, hks⟩
    rw [Nat.zero_add] at htl
    refine wpAny_bind (listItems_at hK1 rfl ?_)
    have tup : ∀ (j : Nat) t v, ts[j]? = some t → xs[j]? = some v → ∃ vs, IsTup s1.heap t vs.toArray ∧ IntsAre vs (key v) := fun j t v h1 h2 => by
      obtain ⟨vs, r2, p2, _⟩ := I1.tuple (SqT.of (hks.at_ j t v h1 h2))
      exact ⟨vs, p2, intsAre_of r2⟩
    have tkey : ∀ (j : Nat) t v, ts[j]? = some t → xs[j]? = some v → Sr.tupK s1.heap (.ref t) = some (key v) := fun j t v h1 h2 => by
      obtain ⟨vs, p2, i2⟩ := tup j t v h1 h2
      exact Sr.tupK_of p2 (by simpa using i2)
    have mate : ∀ v ∈ ts.map Value.ref, ∃ (j : Nat) (t : Addr) (x : V), v = .ref t ∧ ts[j]? = some t ∧ xs[j]? = some x := fun v hv => by
      obtain ⟨t, ht, rfl⟩ := List.mem_map.mp hv
      obtain ⟨j, hj, e⟩ := List.getElem_of_mem ht
      exact ⟨j, t, xs[j]'(by (first | lia | omega)), rfl, by rw [List.getElem?_eq_getElem hj, e], List.getElem?_eq_getElem (by (first | lia | omega))⟩
    refine sort_endB hK1 hL1 eKL htl h64 (fun v hv => ?_) (fun v hv => ?_) fun ks c hp hsd hout => ?_
    · obtain ⟨j, t, x, rfl, h1, h2⟩ := mate v hv
      obtain ⟨vs, p2, i2⟩ := tup j t x h1 h2
      have hn := hne x
      generalize key x = kx at i2 hn
      cases i2 with
      | nil => exact absurd rfl hn
      | cons m tk r2 => exact ⟨t, _, m, tk, _, rfl, p2, rfl⟩
    · obtain ⟨j, t, x, rfl, h1, h2⟩ := mate v hv
      exact ⟨_, tkey j t x h1 h2⟩
    · have hz3 := zip3 ts xs its htl hlen
      have pl2 : ks.toList.Perm ((ts.zip (xs.zip its)).map fun z => (Value.ref z.1, z.2.2)) := by
        rw [← hz3, ← ksk_zip]
        have := Array.perm_iff_toList_perm.mp hp
        exact this
      obtain ⟨L, pL, eL⟩ := Sr.perm_map_inv pl2
      have at3 : ∀ z ∈ L, ∃ j : Nat, ts[j]? = some z.1 ∧ xs[j]? = some z.2.1 ∧ its[j]? = some z.2.2 := fun z hz => zip3_get (pL.mem_iff.mp hz)
      have hxs : (ts.zip (xs.zip its)).map (fun z => z.2.1) = xs := zip3_mid ts xs its htl hlen
      have hout' : (ks.map (·.2)) = (L.map fun z => z.2.2).toArray := by
        apply Array.toList_inj.mp
        rw [Array.toList_map, eL, List.map_map]
        rfl
      have hvals : Vals (L.map fun z => z.2.1) (L.map fun z => z.2.2) := by
        have h0 : ∀ p ∈ L.map (fun z => z.2), RelV p.1 p.2 := fun p hp => by
          obtain ⟨z, hz, rfl⟩ := List.mem_map.mp hp
          obtain ⟨j, _, h2, h3⟩ := at3 z hz
          obtain ⟨u, h4, h5⟩ := rv.get h2
          rw [h3] at h4
          cases h4
          exact h5
        have := vals_of_rel h0
        rw [List.map_map, List.map_map] at this
        exact this
      have hLl : L.length = its.length := by
        rw [pL.length_eq, List.length_zip, List.length_zip]
        (first | lia | omega)
      have hksz : ks.size = L.length := by
        have := congrArg List.length eL
        rw [List.length_map] at this
        simpa using this
      have srt : (L.map fun z => z.2.1).Pairwise (fun a b => HT.lexLt (key b) (key a) = false) := by
        rw [List.pairwise_map, List.pairwise_iff_getElem]
        intro i j hi hj hij
        have h3 := hsd i j (Nat.le_of_lt hij) (by (first | lia | omega))
        have kk : ∀ m (hm : m < L.length), KK (Sr.kT s1.heap) ks m = key L[m].2.1 := fun m hm => by
          have hm2 : m < ks.size := by (first | lia | omega)
          have e := getElem?_pos ks m hm2
          have e2 : ks[m] = (Value.ref L[m].1, L[m].2.2) := by
            have e3 : ks.toList[m]? = some (Value.ref L[m].1, L[m].2.2) := by rw [eL, List.getElem?_map, List.getElem?_eq_getElem hm] <;> rfl
            have e4 : ks.toList[m]? = some ks[m] := by rw [Array.getElem?_toList]; exact e
            rw [e4] at e3
            exact Option.some.inj e3
          obtain ⟨jj, h1, h2, _⟩ := at3 L[m] (List.getElem_mem hm)
          simp only [KK, e, e2]
          show (Sr.tupK s1.heap (Value.ref L[m].1)).getD [] = _
          rw [tkey jj _ _ h1 h2]
          rfl
        rw [kk i hi, kk j hj] at h3
        exact h3
      obtain ⟨f0, f1, f2, f3, f4, f5⟩ := fK n3
      have I3 : Inv X pins σ H1 { s1 with heap := s1.heap.update (s.heap.objs.size + 3) (Obj.mapSeq fun _ => #[]) } := I1.turned (it := s.heap.objs.size + 3) (t' := s1.toks) (fun b o hb e => (Heap.get?_update_other _ _ (Ne.symm hb)).trans e) f0 f1 f3 f4 f5
      have I4 := I3.adopt (t' := s1.toks) (l := s.heap.objs.size + 1) (o := .lst (L.map fun z => z.2.1)) (h' := (s1.heap.update (s.heap.objs.size + 3) (Obj.mapSeq fun _ => #[])).update (s.heap.objs.size + 1) (Obj.mapSeq fun _ => ks.map (·.2)))
        (fun b o hb e => (Heap.get?_update_other _ _ (Ne.symm hb)).trans e) (fL n1) ⟨smallL (by rw [List.length_map]; (first | lia | omega)), L.map (fun z => z.2.2), c, hvals, by rw [hout, hout']⟩
      refine ⟨_, rfl, wpAny_pure ⟨_, rfl, .ref (s.heap.objs.size + 1), _, I4, rfl, ?_⟩⟩
      refine q _ _ _ nL (same_add hs1 n1) upd_same ?_ srt
      have := pL.map (fun z : Addr × V × Value => z.2.1)
      rw [hxs] at this
      exact this
theorem pe_sortKB {j : Nat} {x : Str} {st : Stmt} {e : Expr} {te : TE} {p p2 pos kpos : Pos} (d : D X.K X.mg x st ps f fd) (F : FnOk X.prog X.w X.K X.mg X.base CX0 j f fd ps sp) (hr : Room k X.A) (hg : Gl X "sorted") (hm : X.mg "sorted" = none) (hgx : Gl X x) (he : PE X e te)
    (hjk : j + 2 ≤ k) (hdb : (x == ("__debug__" : Str)) = false) (h1 : backTo pos (starEach [e] X.env) = (false, eval e X.env) :: backTo pos (starEach [] X.env)) (h2 : (backTo pos (starEach [e] X.env)).any (·.1) = false) (h3 : starEach [e] X.env = (false, eval e X.env) :: starEach [] X.env) :
    PE X (.Call (.Name "sorted" p) [e] [⟨some "key", .Name x p2, kpos⟩] pos) (fun σ H Q => te σ H fun v H1 => rSortKB X.K sp v H1 Q) := by
  intro pins s σ H Q I h
  refine wpAny_Call_Name_kw (ld_blt I hg hm bt_sorted ?_ (by decide) (by decide))
  refine callWith_kw (thn ((pa_cons he pa_nil h3) pos pins s σ H (fun vs H1 => match vs with | [v] => rSortKB X.K sp v H1 Q | _ => False) I h) fun us s1 hzz => ?_) h1 h2
  obtain ⟨vs, H1, I1, r1, q1⟩ := hzz
  match vs, r1, q1 with
  | [], _, q1 => exact q1.elim
  | _ :: _ :: _, _, q1 => exact q1.elim
  | [v], r1, q1 =>
  obtain ⟨u, rfl, ru⟩ := vals1 r1
  refine thn ((pk_cons (pe_glob (v := .ref f) hgx d.mg rfl hdb) pk_nil) pos pins s1 σ H1 (fun zs H2 => zs = [.ref f] ∧ H2 = H1) I1 ⟨rfl, rfl⟩) fun ws s2 hzz => ?_
  obtain ⟨zs, H2, I2, rz, e1, e2⟩ := hzz
  subst e1 e2
  obtain ⟨w', rfl, rw'⟩ := vals1 rz
  cases rw'
  exact call_sortKB F (hr.mono hjk) (.all d.ba) I2 ru q1
end
section
variable {X : Cx} (K : PySem.W.Frag) (hK : X.K = K)
include hK
theorem kpe_sortKB {k j : Nat} {f : Addr} {fd : FuncData} {ps : List Str} {sp : Sp} {x : Str} {st : Stmt} {e : Expr} {te : TE} {p p2 pos kpos : Pos} (d : D X.K X.mg x st ps f fd) (F : FnOk X.prog X.w X.K X.mg X.base CX0 j f fd ps sp) (hr : Room k X.A) (hg : Gl X "sorted")
    (hm : X.mg "sorted" = none) (hgx : Gl X x) (he : PE X e te) (hjk : j + 2 ≤ k := by decide) (hdb : (x == ("__debug__" : Str)) = false := by decide)
    (h1 : backTo pos (starEach [e] X.env) = (false, eval e X.env) :: backTo pos (starEach [] X.env) := by rfl) (h2 : (backTo pos (starEach [e] X.env)).any (·.1) = false := by rfl) (h3 : starEach [e] X.env = (false, eval e X.env) :: starEach [] X.env := by rfl) :
    PE X (.Call (.Name "sorted" p) [e] [⟨some "key", .Name x p2, kpos⟩] pos) (fun σ H Q => te σ H fun v H1 => rSortKB K sp v H1 Q) := by subst hK; exact pe_sortKB d F hr hg hm hgx he hjk hdb h1 h2 h3
end
noncomputable def rSortedB (K : PySem.W.Frag) : List V → Hp → VK → Prop := fun xs H Q => ∃ p ts, xs = [.ref p] ∧ SqL K H p (refsV ts) ∧ (∀ t ∈ ts, SqT K H t.1 (t.2.map V.int) ∧ t.2 ≠ []) ∧ ts.length < 4096 ∧
    ∀ (l : Addr) (ts' : List TI2), H l = none → ts'.Perm ts → ts'.Pairwise (fun a b => HT.lexLt b.2 a.2 = false) → Q (.ref l) (upd H l (.lst (refsV ts')))
section
variable {X : Cx} (K : PySem.W.Frag) (hK : X.K = K)
include hK
theorem ksortedB : CallR X (.builtin "sorted") (rSortedB K) := by subst hK; exact call_sortedB
end
end L2
namespace L2
open PySem PySem.Spec PyProof.Rows
section
variable {X : Cx}
theorem upto_get {n i : Nat} (h : i < n) : (Mt.upto n)[i]? = some (i : Int) := by
  unfold Mt.upto
  rw [List.getElem?_map, List.getElem?_range h]
  rfl
theorem vals_upto {n : Nat} {its : List Value} (hl : its.length = n) (h : ∀ (i : Nat) v, its[i]? = some v → ∃ t, v = Value.int (i : Int) t) : Vals ((Mt.upto n).map V.int) its := by
  have e : its = ((Mt.upto n).zip its).map (·.2) := by
    rw [List.map_snd_zip]
    rw [Mt.upto_len, hl]
    exact Nat.le_refl _
  have e2 : (Mt.upto n).map V.int = ((Mt.upto n).zip its).map fun p => V.int p.1 := by
    have : (Mt.upto n) = ((Mt.upto n).zip its).map (·.1) := by
      rw [List.map_fst_zip]
      rw [Mt.upto_len, hl]
      exact Nat.le_refl _
    conv => lhs; rw [this]
    rw [List.map_map]
    rfl
  have key := vals_of_rel (xs := ((Mt.upto n).zip its).map fun p => (V.int p.1, p.2)) (fun p hp => by
    obtain ⟨q, hq, rfl⟩ := List.mem_map.mp hp
    obtain ⟨j, h1, h2⟩ := zip_get hq
    obtain ⟨t, ht⟩ := h j _ h2
    have hj : j < n := by
      have := (List.getElem?_eq_some_iff.mp h1).1
      rw [Mt.upto_len] at this
      exact this
    rw [upto_get hj] at h1
    have e1 : (j : Int) = q.1 := Option.some.inj h1
    show ∃ t, q.2 = Value.int q.1 t
    rw [← e1]
    exact ⟨t, ht⟩)
  rw [List.map_map, List.map_map] at key
  rw [e2]
  conv => rhs; rw [e]
  exact key
theorem call_list_rng (hc : X.calm = true) : CallR X (.type "list") (fun xs H Q => ∃ p n, xs = [.ref p] ∧ H p = some (.rng 0 (n : Nat)) ∧ n ≤ 4096 ∧ ∀ l, H l = none → Q (.ref l) (upd H l (.lst ((Mt.upto n).map V.int)))) := by
  intro pins s σ H xs us Q I r h
  obtain ⟨p, n, rfl, hp, hn, q⟩ := h
  obtain ⟨u, rfl, ru⟩ := vals1 r
  cases ru
  obtain ⟨t1, t2, t3, ho⟩ := I.hok p _ hp
  have hsz : Builtin.Range.rangeSize 0 (n : Int) 1 = n := by
    unfold Builtin.Range.rangeSize
    simp
    try (first | lia | omega)
  have hsm : Builtin.Range.small 0 (n : Int) 1 = true := small_one (by (first | lia | omega)) (by (first | lia | omega)) (by (first | lia | omega)) (by (first | lia | omega))
  refine call_list_range (I.ok.hd hc) ho hsm hsz (by (first | lia | omega)) fun h' tk acc c' hk hS hacc => ?_
  obtain ⟨ha, hb⟩ := hacc
  refine ⟨.ref s.heap.objs.size, _, I.laid (o := .lst ((Mt.upto n).map V.int)) hk (Nat.le_refl _) ⟨?_, acc.toList, c', vals_upto (by rw [Array.length_toList]; exact ha) (fun i v e => ?_), hS⟩, rfl, q _ I.fresh⟩
  · rw [List.length_map, Mt.upto_len]
    exact smallL (by (first | lia | omega))
  · rw [Array.getElem?_toList] at e
    obtain ⟨t, ht⟩ := hb i v e
    exact ⟨t, by rw [ht, Int.mul_one, Int.zero_add]⟩
noncomputable def tJ5 (t1 t2 t3 t4 t5 : TE) : TE := fun σ H Q => t1 σ H fun a H1 => ∃ x1 : Str, a = .str x1 ∧ x1.length ≤ 2000 ∧ t2 σ H1 fun b H2 => ∃ x2 : Str, b = .str x2 ∧ x2.length ≤ 2000 ∧ t3 σ H2 fun c H3 => ∃ x3 : Str, c = .str x3 ∧ x3.length ≤ 2000 ∧ t4 σ H3 fun d H4 => ∃ x4 : Str, d = .str x4 ∧ x4.length ≤ 2000 ∧ t5 σ H4 fun e H5 => ∃ x5 : Str, e = .str x5 ∧ x5.length ≤ 2000 ∧ ∀ x, Q (.str x) H5
theorem pe_j5 {v1 v2 v3 v4 v5 : Expr} {pos : Pos} {t1 t2 t3 t4 t5 : TE} (h1 : PE X v1 t1) (h2 : PE X v2 t2) (h3 : PE X v3 t3) (h4 : PE X v4 t4) (h5 : PE X v5 t5) : PE X (.JoinedStr [v1, v2, v3, v4, v5] pos) (tJ5 t1 t2 t3 t4 t5) := by
  intro pins s σ H Q I h
  refine wpAny_JoinedStr ?_
  show wpAny _ _ (eval v1 X.env) _ _ _
  refine thn (h1 pins s σ H _ I h) fun a s1 hzz => ?_
  obtain ⟨y1, H1, I1, r1, x1, e1, l1, q1⟩ := hzz
  subst e1
  obtain ⟨t1', rfl⟩ := r1
  have z0 : (Str.empty ++ x1).length = x1.length := by rw [Str.length_append]; show 0 + _ = _; (first | lia | omega)
  refine ⟨x1, t1', rfl, by rw [z0]; exact smallL (by (first | lia | omega)), ?_⟩
  show wpAny _ _ (eval v2 X.env) _ _ _
  refine thn (h2 pins s1 σ H1 _ I1 q1) fun b s2 hzz => ?_
  obtain ⟨y2, H2, I2, r2, x2, e2, l2, q2⟩ := hzz
  subst e2
  obtain ⟨t2', rfl⟩ := r2
  have z1 : (Str.empty ++ x1 ++ x2).length = x1.length + x2.length := by rw [Str.length_append, z0]
  refine ⟨x2, t2', rfl, by rw [z1]; exact smallL (by (first | lia | omega)), ?_⟩
  show wpAny _ _ (eval v3 X.env) _ _ _
  refine thn (h3 pins s2 σ H2 _ I2 q2) fun c s3 hzz => ?_
  obtain ⟨y3, H3, I3, r3, x3, e3, l3, q3⟩ := hzz
  subst e3
  obtain ⟨t3', rfl⟩ := r3
  have z2 : (Str.empty ++ x1 ++ x2 ++ x3).length = x1.length + x2.length + x3.length := by rw [Str.length_append, z1]
  refine ⟨x3, t3', rfl, by rw [z2]; exact smallL (by (first | lia | omega)), ?_⟩
  show wpAny _ _ (eval v4 X.env) _ _ _
  refine thn (h4 pins s3 σ H3 _ I3 q3) fun d s4 hzz => ?_
  obtain ⟨y4, H4, I4, r4, x4, e4, l4, q4⟩ := hzz
  subst e4
  obtain ⟨t4', rfl⟩ := r4
  have z3 : (Str.empty ++ x1 ++ x2 ++ x3 ++ x4).length = x1.length + x2.length + x3.length + x4.length := by rw [Str.length_append, z2]
  refine ⟨x4, t4', rfl, by rw [z3]; exact smallL (by (first | lia | omega)), ?_⟩
  show wpAny _ _ (eval v5 X.env) _ _ _
  refine thn (h5 pins s4 σ H4 _ I4 q4) fun e s5 hzz => ?_
  obtain ⟨y5, H5, I5, r5, x5, e5, l5, q5⟩ := hzz
  subst e5
  obtain ⟨t5', rfl⟩ := r5
  have z4 : (Str.empty ++ x1 ++ x2 ++ x3 ++ x4 ++ x5).length ≤ sizeLine := by rw [Str.length_append, z3]; exact smallL (by (first | lia | omega))
  exact ⟨x5, t5', rfl, z4, z4, .str _, H5, I5.tok _, ⟨_, rfl⟩, q5 _⟩
end
end L2
namespace L2
open PySem
/-- behind a statement the rest and the names are lets: the proofs' terms stay small -/
theorem hideSeq {t u : TS} {D : Ends} {σ : St} {H : Hp} (h : let D' : Ends := { D with nx := u D }; t D' σ H) : tSeq t u D σ H := h
theorem hideAll {t u : TS} {D : Ends} {σ : St} {H : Hp} (h : let D' : Ends := { D with nx := u D }; let σ' : St := σ; t D' σ' H) : tSeq t u D σ H := h
theorem exE {α β : Type} {f : β} {g : α → β} {P : α → Prop} {w : α} (e : f = g w) (h : P w) : ∃ v, f = g v ∧ P v := ⟨w, e, h⟩
theorem gNameH {i : Nat} {v : V} {σ : St} {H : Hp} {Q : St → Hp → Prop} (h : Q (σ.set i (some v)) H) : gName i v σ H Q := h
end L2
namespace Lw
open PySem L2
set_option maxHeartbeats 4000000
section

noncomputable def top (i : Nat) : Stmt := PySem.Challenge.pw_linecaster_k10_first_codes.main.body.getD i (.Pass ⟨0, 0, 0, 0⟩)
noncomputable abbrev s_number_of_teeth : Stmt := top 13
theorem sc_number_of_teeth : FnScope ["teeth"] ["teeth"] (defScope s_number_of_teeth) := ⟨rfl, rfl, rfl, by decide +kernel, rfl, by decide +kernel, by decide +kernel⟩
noncomputable abbrev s_rank_of : Stmt := top 14
theorem sc_rank_of : FnScope ["teeth"] ["teeth"] (defScope s_rank_of) := ⟨rfl, rfl, rfl, by decide +kernel, rfl, by decide +kernel, by decide +kernel⟩
noncomputable abbrev s_put_right : Stmt := top 15
theorem sc_put_right : FnScope ["codes"] ["codes"] (defScope s_put_right) := ⟨rfl, rfl, rfl, by decide +kernel, rfl, by decide +kernel, by decide +kernel⟩
noncomputable abbrev s_all_codes : Stmt := top 16
theorem sc_all_codes : FnScope ["teeth", "bound", "tooth"] ["teeth"] (defScope s_all_codes) := ⟨rfl, rfl, rfl, by decide +kernel, rfl, by decide +kernel, by decide +kernel⟩
noncomputable abbrev s_first_codes : Stmt := top 17
theorem sc_first_codes : FnScope ["many", "teeth", "codes"] ["many", "teeth"] (defScope s_first_codes) := ⟨rfl, rfl, rfl, by decide +kernel, rfl, by decide +kernel, by decide +kernel⟩
noncomputable abbrev s_law_cell : Stmt := top 19
theorem sc_law_cell : FnScope ["_law_script", "_law_k"] ["_law_script", "_law_k"] (defScope s_law_cell) := ⟨rfl, rfl, rfl, by decide +kernel, rfl, by decide +kernel, by decide +kernel⟩
noncomputable abbrev s_law_all : Stmt := top 21
theorem sc_law_all : FnScope ["_law_teeth", "_law_codes", "_law_k", "_law_counted"] ["_law_teeth"] (defScope s_law_all) := ⟨rfl, rfl, rfl, by decide +kernel, rfl, by decide +kernel, by decide +kernel⟩
noncomputable abbrev s_law_told : Stmt := top 22
theorem sc_law_told : FnScope ["_law_many", "_law_teeth", "_law_told_here", "e", "_law_odd"] ["_law_many", "_law_teeth"] (defScope s_law_told) := ⟨rfl, rfl, rfl, by decide +kernel, rfl, by decide +kernel, by decide +kernel⟩
noncomputable abbrev s_law_good : Stmt := top 23
theorem sc_law_good : FnScope ["_law_many", "_law_teeth", "_law_due", "_law_told_here", "_law_code"] ["_law_many", "_law_teeth"] (defScope s_law_good) := ⟨rfl, rfl, rfl, by decide +kernel, rfl, by decide +kernel, by decide +kernel⟩
noncomputable abbrev s_law : Stmt := top 24
theorem sc_law : FnScope ["_law_script", "_law_cell_here"] ["_law_script"] (defScope s_law) := ⟨rfl, rfl, rfl, by decide +kernel, rfl, by decide +kernel, by decide +kernel⟩
set_option genInjectivity false
set_option genSizeOf false
structure Ad where
  f_number_of_teeth : Addr
  d_number_of_teeth : FuncData
  f_rank_of : Addr
  d_rank_of : FuncData
  f_put_right : Addr
  d_put_right : FuncData
  f_all_codes : Addr
  d_all_codes : FuncData
  f_first_codes : Addr
  d_first_codes : FuncData
  f_law_cell : Addr
  d_law_cell : FuncData
  f_law_all : Addr
  d_law_all : FuncData
  f_law_told : Addr
  d_law_told : FuncData
  f_law_good : Addr
  d_law_good : FuncData
  f_law : Addr
  d_law : FuncData
  c_CasterError : Addr
  c_NoCase : Addr
  c_TooMany : Addr
  c_Loose : Addr
  c_Tight : Addr
  c_NoBreak : Addr
  c_NoCopy : Addr
  c_NoKeys : Addr
  c_NoText : Addr
  c_NoNumber : Addr
  c_NoRow : Addr
structure Tx (K : PySem.W.Frag) (mg : Str → Option Value) (a : Ad) : Prop where
  number_of_teeth : D K mg "number_of_teeth" s_number_of_teeth ["teeth"] a.f_number_of_teeth a.d_number_of_teeth
  rank_of : D K mg "rank_of" s_rank_of ["teeth"] a.f_rank_of a.d_rank_of
  put_right : D K mg "put_right" s_put_right ["codes"] a.f_put_right a.d_put_right
  all_codes : D K mg "all_codes" s_all_codes ["teeth"] a.f_all_codes a.d_all_codes
  first_codes : D K mg "first_codes" s_first_codes ["many", "teeth"] a.f_first_codes a.d_first_codes
  law_cell : D K mg "_law_cell" s_law_cell ["_law_script", "_law_k"] a.f_law_cell a.d_law_cell
  law_all : D K mg "_law_all" s_law_all ["_law_teeth"] a.f_law_all a.d_law_all
  law_told : D K mg "_law_told" s_law_told ["_law_many", "_law_teeth"] a.f_law_told a.d_law_told
  law_good : D K mg "_law_good" s_law_good ["_law_many", "_law_teeth"] a.f_law_good a.d_law_good
  law : D K mg "law" s_law ["_law_script"] a.f_law a.d_law
  cl_CasterError : CN K mg "CasterError" a.c_CasterError
  cl_NoCase : CL K mg "NoCase" a.c_NoCase
  cl_TooMany : CN K mg "TooMany" a.c_TooMany
  cl_Loose : CL K mg "Loose" a.c_Loose
  cl_Tight : CL K mg "Tight" a.c_Tight
  cl_NoBreak : CL K mg "NoBreak" a.c_NoBreak
  cl_NoCopy : CL K mg "NoCopy" a.c_NoCopy
  cl_NoKeys : CL K mg "NoKeys" a.c_NoKeys
  cl_NoText : CL K mg "NoText" a.c_NoText
  cl_NoNumber : CL K mg "NoNumber" a.c_NoNumber
  cl_NoRow : CL K mg "NoRow" a.c_NoRow
  bi : BI K a.c_CasterError
  m_TooMany_CasterError : PySem.W.mroIn K a.c_TooMany (.ref a.c_CasterError) = some true
  m_TooMany_NoCase : PySem.W.mroIn K a.c_TooMany (.ref a.c_NoCase) = some false
  m_TooMany_TooMany : PySem.W.mroIn K a.c_TooMany (.ref a.c_TooMany) = some true
  m_TooMany_Loose : PySem.W.mroIn K a.c_TooMany (.ref a.c_Loose) = some false
  m_TooMany_Tight : PySem.W.mroIn K a.c_TooMany (.ref a.c_Tight) = some false
  m_TooMany_NoBreak : PySem.W.mroIn K a.c_TooMany (.ref a.c_NoBreak) = some false
  m_TooMany_NoCopy : PySem.W.mroIn K a.c_TooMany (.ref a.c_NoCopy) = some false
  m_TooMany_NoKeys : PySem.W.mroIn K a.c_TooMany (.ref a.c_NoKeys) = some false
  m_TooMany_NoText : PySem.W.mroIn K a.c_TooMany (.ref a.c_NoText) = some false
  m_TooMany_NoNumber : PySem.W.mroIn K a.c_TooMany (.ref a.c_NoNumber) = some false
  m_TooMany_NoRow : PySem.W.mroIn K a.c_TooMany (.ref a.c_NoRow) = some false
  b_ValueError : mg "ValueError" = none
  b_bool : mg "bool" = none
  b_int : mg "int" = none
  b_isinstance : mg "isinstance" = none
  b_len : mg "len" = none
  b_list : mg "list" = none
  b_range : mg "range" = none
  b_sorted : mg "sorted" = none
  b_sum : mg "sum" = none
noncomputable abbrev lawLevel : Nat := 10
end
end Lw
namespace Lw
open PySem L2
set_option maxHeartbeats 4000000
section
variable {P : Program} {w : World} {K : PySem.W.Frag} {mg : Str → Option Value} {base : Heap} {a : Ad}
local macro_rules | `(tactic| walk_at "hk") => `(tactic| first | assumption | exact upd_same | exact same_new (by assumption) _ _ _ (by walk_at "hk"))
local macro_rules | `(tactic| walk_at "rd1") => `(tactic| first | (with_reducible refine hideSeq ?_; intro Dzz) | with_reducible refine gNameH ?_ | (first | refine exE rfl ?_ | refine ⟨_, rfl, ?_⟩) | refine ⟨_, _, rfl, rfl, ?_⟩ | refine ⟨_, _, _, _, rfl, rfl, SqL.of (by walk_at "hk"), (by assumption), ?_⟩ | refine And.intro rfl ?_ | refine And.intro (Nat.le_of_ble_eq_true rfl) ?_ | refine And.intro (by first | decide | (first | lia | omega)) ?_ | refine And.intro ⟨by first | decide | (first | lia | omega), by first | decide | (first | lia | omega)⟩ ?_ | refine And.intro (.inl ⟨by first | decide | (first | lia | omega), by first | decide | (first | lia | omega)⟩) ?_ | refine And.intro (.inr ⟨by first | decide | (first | lia | omega), by first | decide | (first | lia | omega)⟩) ?_ | refine ⟨_, _, rfl, SqT.of (by first | exact upd_same | assumption), rfl, ?_⟩)
local macro_rules | `(tactic| walk_at "rd") => `(tactic| repeat (walk_at "rd1"))
local macro_rules | `(tactic| walk_at "tg") => `(tactic| refine ⟨_, _, rfl, ?_⟩)

noncomputable def bits7 : List V := [.int 1, .int 2, .int 4, .int 8, .int 16, .int 32, .int 64]
theorem bits7_at : ∀ k : Nat, k < 7 → atI bits7 (k : Int) = some (.int (2 ^ k)) := by
  intro k hk
  refine atI_nat ?_
  match k, hk with
  | 0, _ => rfl
  | 1, _ => rfl
  | 2, _ => rfl
  | 3, _ => rfl
  | 4, _ => rfl
  | 5, _ => rfl
  | 6, _ => rfl
theorem bits7_int {i : Int} (h0 : 0 ≤ i) (h1 : i < 7) : ∃ k : Nat, k < 7 ∧ atI bits7 i = some (.int (2 ^ k)) := by
  refine ⟨i.toNat, by (first | lia | omega), ?_⟩
  have := bits7_at i.toNat (by (first | lia | omega))
  rw [show ((i.toNat : Nat) : Int) = i by (first | lia | omega)] at this
  exact this
theorem pow7 : ∀ k : Nat, k < 7 → (0 : Int) < 2 ^ k ∧ (2 : Int) ^ k < 1073741824 ∧ (2 : Int) ^ k ≤ 64 := by decide
noncomputable def sp_law_cell (K : PySem.W.Frag) : Sp := fun vs H Q _ => ∃ (l : Addr) (k : Int) (ns : List Int), vs = [.ref l, .int k] ∧ SqL K H l (ns.map V.int) ∧ 0 ≤ k ∧ ∀ z, Q (.int z) H
theorem ok_law_cell (T : Tx K mg a) : FnOk P w K mg base CX0 1 a.f_law_cell a.d_law_cell ["_law_script", "_law_k"] (sp_law_cell K) := by
  refine T.law_cell.fn.ok sc_law_cell (fun vs H Q E h => ?_) (fun cdv A outer s H vs Q E hr h => ?_)
  · obtain ⟨l, k, ns, rfl, _⟩ := h
    rfl
  obtain ⟨l, k, ns, rfl, hS, h0, q⟩ := h
  refine ⟨_, (pss_cons (ps_if (pt_cmpR op_lt (pv 1) (pe_callB (klen_seq K rfl) rfl T.b_len bt_len (pa_cons (pv 0) pa_nil)) (nomark _)) (pss_one (ps_ret (pe_ix (kix_list K rfl) (pv 0) (pv 1) (fun _ _ => rfl)))) pss_nil)
      (pss_one (ps_ret pe_int))), ?_⟩
  walk_at "rd"
  refine ⟨l, _, rfl, .inl hS, ?_⟩
  walk_at "rd"
  refine ite2 (fun c => ?_) (fun c => ?_)
  · have c' := of_decide_eq_true c
    rw [List.length_map] at c'
    walk_at "rd"
    exact ⟨l, _, _, _, rfl, rfl, hS, atI_getD h0 c', q _⟩
  · exact q _
noncomputable def sp_number_of_teeth : Sp := fun vs H Q _ => ∃ c : Int, vs = [.int c] ∧ 0 ≤ c ∧ c < 128 ∧ ∀ H', Same H H' → Q (.int (Mt.pc c)) H'
theorem ok_number_of_teeth (T : Tx K mg a) : FnOk P w K mg base CX0 1 a.f_number_of_teeth a.d_number_of_teeth ["teeth"] sp_number_of_teeth := by
  refine T.number_of_teeth.fn.ok sc_number_of_teeth (fun vs H Q E h => ?_) (fun cdv A outer s H vs Q E hr h => ?_)
  · obtain ⟨c, rfl, _⟩ := h
    rfl
  obtain ⟨c, rfl, h0, h1, q⟩ := h
  refine ⟨_, (pss_one (ps_ret (pe_callB (ksum K rfl rfl) rfl T.b_sum bt_sum (pa_cons (pe_compG rfl (pi_range1 rfl T.b_range (pa_cons (kpe_bm0 K rfl PySem.F.plainAttrs_int PySem.F.slot_int_bit_length PySem.F.type_int_bit_length mt_bitlen (pv 0)) pa_nil)) (BlkOk.of (N' := ["teeth", "place"]) (ms := []) (k := 1) (by rfl)) (fun _ _ _ _ _ => (pg_name (i := 1) (show List.Nodup (["teeth", "place"] : List Str) from by decide +kernel) rfl (Or.inl rfl))) (fun _ _ _ _ _ => pts_nil) (fun _ _ _ _ _ => (pe_op op_and (pe_op op_shr (pv 0) (pv 1)) pe_int))) pa_nil)))), ?_⟩
  obtain ⟨hb7, hsum⟩ := Mt.teeth_sum h0 h1
  walk_at "rd"
  intro D hD
  let Izz : Nat → List V → St → Hp → Prop := fun i ys σ H2 => ∃ (v1 : Option V), ys = ((List.range i).map fun k => Builtin.bitAnd (c / 2 ^ k) 1).map V.int ∧ σ = [some (.int c), v1] ∧ Same H H2 ∧ H2 D = some (.lst ys)
  refine comp_range (n := Builtin.Int.intBits c) Izz
    ?_ ?_ ?_
  · exact ⟨none, rfl, rfl, same_new hD _, upd_same⟩
  · rintro i ys σ H2 hi ⟨v1, rfl, rfl, hs, hh⟩
    walk_at "rd"
    refine cnext hi hh ?_ ⟨_, ?_, rfl, same_upd hs hD, upd_same⟩
    · rw [List.length_map, List.length_map, List.length_range]
      (first | lia | omega)
    · rw [List.range_succ, List.map_append, List.map_append, Int.zero_add]
      rfl
  · rintro ys σ H2 ⟨v1, rfl, rfl, hs, hh⟩
    refine ⟨D, _, rfl, SqL.of hh, ?_⟩
    rw [hsum]
    exact q _ hs
noncomputable def sp_rank_of : Sp := fun vs H Q _ => ∃ c : Int, vs = [.int c] ∧ 0 ≤ c ∧ c < 128 ∧ ∀ t H', Same H H' → H' t = some (.tup ((Mt.rk c).map V.int)) → Q (.ref t) H'
theorem ok_rank_of (T : Tx K mg a) : FnOk P w K mg base CX0 2 a.f_rank_of a.d_rank_of ["teeth"] sp_rank_of := by
  have G_number_of_teeth := ok_number_of_teeth (P := P) (w := w) (base := base) T
  refine T.rank_of.fn.ok sc_rank_of (fun vs H Q E h => ?_) (fun cdv A outer s H vs Q E hr h => ?_)
  · obtain ⟨c, rfl, _⟩ := h
    rfl
  obtain ⟨c, rfl, h0, h1, q⟩ := h
  refine ⟨_, (pss_one (ps_ret (pe_tup (pa_cons (pcall T.number_of_teeth G_number_of_teeth hr rfl (pa_cons (pv 0) pa_nil)) (pa_cons (pv 0) pa_nil))))), ?_⟩
  walk_at "rd"
  intro H1 hs1
  walk_at "rd"
  intro t ht
  exact q t _ (same_add hs1 ht) upd_same
noncomputable def keyI : V → List Int
  | .int c => Mt.rk c
  | _ => [0]
noncomputable def sp_put_right (K : PySem.W.Frag) : Sp := fun vs H Q _ => ∃ (l : Addr) (cs : List Int), vs = [.ref l] ∧ SqL K H l (cs.map V.int) ∧ (∀ c ∈ cs, 0 ≤ c ∧ c < 128) ∧ cs.length < 4096 ∧
  ∀ (r : Addr) (rs : List Int) (H' : Hp), H r = none → Same H H' → H' r = some (.lst (rs.map V.int)) → rs.Perm cs → Mt.Right rs → Q (.ref r) H'
theorem ok_put_right (T : Tx K mg a) : FnOk P w K mg base CX0 5 a.f_put_right a.d_put_right ["codes"] (sp_put_right K) := by
  have G_rank_of := ok_rank_of (P := P) (w := w) (base := base) T
  refine T.put_right.fn.ok sc_put_right (fun vs H Q E h => ?_) (fun cdv A outer s H vs Q E hr h => ?_)
  · obtain ⟨l, cs, rfl, _⟩ := h
    rfl
  obtain ⟨l, cs, rfl, hS, hc, hl, q⟩ := h
  refine ⟨_, (pss_one (ps_ret (kpe_sortKB K rfl T.rank_of G_rank_of hr rfl T.b_sorted rfl (pv 0)))), ?_⟩
  walk_at "rd"
  refine ⟨l, cs.map V.int, keyI, rfl, hS, by rw [List.length_map]; exact hl, fun v => ?_, fun v hv H1 hs1 => ?_, fun r ys H1 hr1 hs1 hh1 hpm hpw => ?_⟩
  · cases v <;> exact fun e => nomatch e
  · obtain ⟨c, hcm, rfl⟩ := List.mem_map.mp hv
    exact ⟨c, rfl, (hc c hcm).1, (hc c hcm).2, fun t H2 hs2 ht => ⟨hs2, t, rfl, ht⟩⟩
  · obtain ⟨rs, hp2, rfl⟩ := Sr.perm_map_inv hpm
    exact q r rs H1 hr1 hs1 hh1 hp2 ((List.pairwise_map.mp hpw).imp fun h => h)
theorem upto_double (n : Nat) : Mt.upto (n + n) = Mt.upto n ++ (Mt.upto n).map fun c => c + (n : Int) := by
  unfold Mt.upto
  rw [List.range_add, List.map_append, List.map_map, List.map_map]
  congr 1
  refine List.map_congr_left fun k _ => ?_
  show ((n + k : Nat) : Int) = (k : Int) + (n : Int)
  (first | lia | omega)
theorem pow_small {t : Nat} (h : t ≤ 7) : 1 ≤ 2 ^ t ∧ 2 ^ t ≤ 128 := by
  have : ∀ t : Nat, t < 8 → 1 ≤ 2 ^ t ∧ 2 ^ t ≤ 128 := by decide
  exact this t (by (first | lia | omega))
noncomputable def sp_all_codes : Sp := fun vs H Q _ => ∃ t : Nat, vs = [.int (t : Int)] ∧ t ≤ 7 ∧ ∀ (r : Addr) H', H r = none → Same H H' → H' r = some (.lst ((Mt.upto (2 ^ t)).map V.int)) → Q (.ref r) H'
theorem ok_all_codes (T : Tx K mg a) : FnOk P w K mg base CX0 1 a.f_all_codes a.d_all_codes ["teeth"] sp_all_codes := by
  refine T.all_codes.fn.ok sc_all_codes (fun vs H Q E h => ?_) (fun cdv A outer s H vs Q E hr h => ?_)
  · obtain ⟨t, rfl, _⟩ := h
    rfl
  obtain ⟨t, rfl, ht, q⟩ := h
  refine ⟨_, (pss_cons (ps_set (i := 1) sc_all_codes.nd rfl (Or.inl rfl) pe_int)
      (pss_cons (ps_for PassesOwn.never rfl (pi_range1 rfl T.b_range (pa_cons (pv 0) pa_nil)) (pg_name (i := 2) sc_all_codes.nd rfl (Or.inl rfl)) (pss_one (ps_set (i := 1) sc_all_codes.nd rfl (Or.inl rfl) (pe_op op_mul (pv 1) pe_int))))
      (pss_one (ps_ret (pe_callTy (call_list_rng rfl) rfl T.b_list bt_list (pa_cons (pe_callTy call_rng1 rfl T.b_range bt_range (pa_cons (pv 1) pa_nil)) pa_nil)))))), ?_⟩
  walk_at "rd"
  let Izz : Nat → St → Hp → Prop := fun i σ H2 => ∃ (v2 : Option V), σ = [some (.int (t : Int)), some (.int ((2 ^ i : Nat) : Int)), v2] ∧ H2 = H
  refine for_range (n := t) Izz ⟨none, rfl, rfl⟩ ?_ ?_
  · rintro i σ H2 hi ⟨v2, rfl, rfl⟩
    have hp := pow_small (t := i) (by (first | lia | omega))
    walk_at "rd"
    rfl
  · rintro σ H2 ⟨v2, rfl, rfl⟩
    have hp := pow_small ht
    walk_at "rd"
    intro p hp0
    refine ⟨p, 2 ^ t, rfl, upd_same, by (first | lia | omega), fun l hl => ?_⟩
    exact q l _ ((same_new hp0 _).free hl) (same_add (same_new hp0 _) hl) upd_same
noncomputable def sp_first_codes (C : Addr) : Sp := fun vs H Q E => ∃ m t : Nat, vs = [.int (m : Int), .int (t : Int)] ∧ m ≤ 30 ∧ t ≤ 7 ∧ (∀ H', Same H H' → 2 ^ t < m → E (.ref C) none H') ∧
  (∀ (r : Addr) (ds : List Int) H', H r = none → Same H H' → m ≤ 2 ^ t → ds.Perm (Mt.upto (2 ^ t)) → Mt.Right ds → H' r = some (.lst ((ds.take m).map V.int)) → Q (.ref r) H')
theorem ok_first_codes (T : Tx K mg a) : FnOk P w K mg base (CX1 P w) 6 a.f_first_codes a.d_first_codes ["many", "teeth"] (sp_first_codes a.c_TooMany) := by
  have G_put_right := ok_put_right (P := P) (w := w) (base := base) T
  have G_all_codes := ok_all_codes (P := P) (w := w) (base := base) T
  refine T.first_codes.fn.okX sc_first_codes (fun vs H Q E h => ?_) (fun cdv A outer s H vs Q E hr h => ?_)
  · obtain ⟨m, t, rfl, _⟩ := h
    rfl
  obtain ⟨m, t, rfl, hm, ht, q0, q⟩ := h
  have hp := pow_small ht
  refine ⟨_, (pss_cons (ps_set (i := 2) sc_first_codes.nd rfl (Or.inl rfl) (pcall T.put_right G_put_right hr rfl (pa_cons (pcall T.all_codes G_all_codes hr rfl (pa_cons (pv 1) pa_nil)) pa_nil)))
      (pss_cons (ps_if (pt_cmpR op_gt (pv 0) (pe_callB (klen_seq K rfl) rfl T.b_len bt_len (pa_cons (pv 2) pa_nil)) (nomark _)) (pss_one (praise0 T.cl_TooMany rfl rfl rfl (pa_cons (pe_j5 pe_str (pe_fmt (pv 0)) pe_str (pe_fmt (pv 1)) pe_str) pa_nil))) pss_nil)
      (pss_one (ps_ret (pe_slice (ksl_list K rfl) (pv 2) po_none (po_some (pv 0))))))), ?_⟩
  walk_at "rd"
  intro r1 H1 hr1 hs1 hh1
  walk_at "rd"
  refine ⟨r1, Mt.upto (2 ^ t), rfl, SqL.of hh1, fun c hc => ?_, by rw [Mt.upto_len]; (first | lia | omega), fun r2 ds H2 hr2 hs2 hh2 hpm hrt => ?_⟩
  · have := Mt.upto_mem hc
    (first | lia | omega)
  have hs02 := hs1.trans hs2
  have hlen : (ds.map V.int).length = 2 ^ t := by rw [List.length_map, hpm.length_eq, Mt.upto_len]
  walk_at "rd"
  refine ⟨r2, _, rfl, .inl (SqL.of hh2), ?_⟩
  rw [hlen]
  walk_at "rd"
  refine ite2 (fun h1 => ?_) (fun h1 => ?_)
  · have h1 := of_decide_eq_true h1
    walk_at "rd"
    intro x2 hx2
    refine ⟨x2, rfl, hx2, ?_⟩
    walk_at "rd"
    intro x4 hx4
    refine ⟨x4, rfl, hx4, ?_⟩
    walk_at "rd"
    exact fun _ => ⟨(by show 1 ≤ 10; decide), q0 _ hs02 (by (first | lia | omega))⟩
  · have h1 : ¬ ((2 ^ t : Nat) : Int) < (m : Int) := fun z => h1 (decide_eq_true z)
    walk_at "rd"
    refine ⟨r2, _, rfl, SqL.of hh2, fun r3 hr3 => ?_⟩
    rw [cut_ints ds m]
    exact q r3 ds _ (hs02.free hr3) (same_add hs02 hr3) (by (first | lia | omega)) hpm hrt upd_same
noncomputable def bitsI : List Int := [1, 2, 4, 8, 16, 32, 64]
theorem bitsI_b : ∀ b ∈ bitsI, 0 < b ∧ b < 1073741824 := by decide
noncomputable def sp_law_all (K : PySem.W.Frag) : Sp := fun vs H Q _ => ∃ t : Nat, vs = [.int (t : Int)] ∧ t ≤ 7 ∧
  ∀ (r : Addr) (rs : List Int) (H' : Hp), H r = none → Same H H' → H' r = some (.lst (rs.map V.int)) → rs.Perm (Mt.upto (2 ^ t)) → rs.Pairwise (fun a b => HT.lexLt (Mt.rk b) (Mt.rk a) = false) → Q (.ref r) H'
theorem ok_law_all (T : Tx K mg a) : FnOk P w K mg base CX0 1 a.f_law_all a.d_law_all ["_law_teeth"] (sp_law_all K) := by
  refine T.law_all.fn.ok sc_law_all (fun vs H Q E h => ?_) (fun cdv A outer s H vs Q E hr h => ?_)
  · obtain ⟨t, rfl, _⟩ := h
    rfl
  obtain ⟨t, rfl, ht, q⟩ := h
  refine ⟨_, (pss_cons (ps_set (i := 1) sc_law_all.nd rfl (Or.inl rfl) (pe_lst (pa_cons pe_int pa_nil)))
      (pss_cons (ps_for PassesOwn.never rfl (pi_range1 rfl T.b_range (pa_cons (pv 0) pa_nil)) (pg_name (i := 2) sc_law_all.nd rfl (Or.inr rfl)) (pss_one (ps_set (i := 1) sc_law_all.nd rfl (Or.inl rfl) (pe_op op_cat (pv 1) (pe_compG rfl (kpi_list K rfl (pv 1)) (BlkOk.of (N' := ["_law_teeth", "_law_codes", "_law_k", "_law_counted", "_law_code"]) (ms := []) (k := 1) (by rfl)) (fun _ _ _ _ _ => (pg_name (i := 4) (show List.Nodup (["_law_teeth", "_law_codes", "_law_k", "_law_counted", "_law_code"] : List Str) from by decide +kernel) rfl (Or.inl rfl))) (fun _ _ _ _ _ => pts_nil) (fun _ _ _ _ _ => (pe_op op_add (pv 4) (pe_ix (kix_list K rfl) (pe_lst (pa_cons pe_int (pa_cons pe_int (pa_cons pe_int (pa_cons pe_int (pa_cons pe_int (pa_cons pe_int (pa_cons pe_int pa_nil)))))))) (pv 2) (fun _ _ => rfl)))))))))
      (pss_cons (ps_setC (i := 3) sc_law_all.nd rfl (Or.inl rfl) rfl (kpi_list K rfl (pv 1)) (BlkOk.of (N' := ["_law_teeth", "_law_codes", "_law_k", "_law_counted", "_law_code"]) (ms := []) (k := 1) (by rfl)) (fun _ _ _ _ _ => (pg_name (i := 4) (show List.Nodup (["_law_teeth", "_law_codes", "_law_k", "_law_counted", "_law_code"] : List Str) from by decide +kernel) rfl (Or.inr rfl))) (fun _ _ _ _ _ => pts_nil) (fun _ _ _ _ _ => (pe_tup (pa_cons (pe_callB (ksum K rfl rfl) rfl T.b_sum bt_sum (pa_cons (pe_compG rfl (kpi_list K rfl (pe_lst (pa_cons pe_int (pa_cons pe_int (pa_cons pe_int (pa_cons pe_int (pa_cons pe_int (pa_cons pe_int (pa_cons pe_int pa_nil))))))))) (BlkOk.of (N' := ["_law_teeth", "_law_codes", "_law_k", "_law_counted", "_law_code", "_law_bit"]) (ms := []) (k := 1) (by rfl)) (fun _ _ _ _ _ => (pg_name (i := 5) (show List.Nodup (["_law_teeth", "_law_codes", "_law_k", "_law_counted", "_law_code", "_law_bit"] : List Str) from by decide +kernel) rfl (Or.inl rfl))) (fun _ _ _ _ _ => pts_nil) (fun _ _ _ _ _ => (pe_op op_mod (pe_op op_fdiv (pv 4) (pv 5)) pe_int))) pa_nil)) (pa_cons (pv 4) pa_nil)))))
      (pss_one (ps_ret (pe_compG rfl (kpi_list K rfl (pe_callB (ksortedB K rfl) rfl T.b_sorted bt_sorted (pa_cons (pv 3) pa_nil))) (BlkOk.of (N' := ["_law_teeth", "_law_codes", "_law_k", "_law_counted", "_law_many", "_law_code"]) (ms := []) (k := 2) (by rfl)) (fun _ _ _ _ _ => (kpg_tup K rfl (n := 2) rfl (pgs_cons (pg_name (i := 4) (show List.Nodup (["_law_teeth", "_law_codes", "_law_k", "_law_counted", "_law_many", "_law_code"] : List Str) from by decide +kernel) rfl (Or.inl rfl)) (pgs_cons (pg_name (i := 5) (show List.Nodup (["_law_teeth", "_law_codes", "_law_k", "_law_counted", "_law_many", "_law_code"] : List Str) from by decide +kernel) rfl (Or.inl rfl)) pgs_nil)))) (fun _ _ _ _ _ => pts_nil) (fun _ _ _ _ _ => (pv 5)))))))), ?_⟩
  walk_at "rd"
  intro p0 hp0
  walk_at "rd"
  let Izz : Nat → St → Hp → Prop := fun i σ H2 => ∃ (p : Addr) (v2 : Option V), σ = [some (.int (t : Int)), some (.ref p), v2, none] ∧ Same H H2 ∧ H2 p = some (.lst ((Mt.upto (2 ^ i)).map V.int))
  refine for_range (n := t) Izz ⟨p0, none, rfl, same_new hp0 _, upd_same⟩ ?_ ?_
  · rintro i σ H2 hi ⟨p, v2, rfl, hs, hh⟩
    have hpw := pow_small (t := i) (by (first | lia | omega))
    walk_at "rd"
    refine ⟨⟨_, SqL.of hh⟩, fun D hD => ?_⟩
    let Izz : Nat → List V → St → Hp → Prop := fun j ys σ H3 => ∃ (v4 : Option V), ys = (((Mt.upto (2 ^ i)).take j).map fun c => c + ((2 ^ i : Nat) : Int)).map V.int ∧ σ = [some (.int (t : Int)), some (.ref p), some (.int (0 + (i : Int))), none, v4] ∧ Same H2 H3 ∧ H3 D = some (.lst ys)
    refine comp_list (a := p) (xs := (Mt.upto (2 ^ i)).map V.int) Izz
      ?_ ?_ ?_ ?_
    · exact ⟨none, rfl, rfl, same_new hD _, upd_same⟩
    · exact fun j ys σ H3 _ ⟨_, _, _, hs3, _⟩ => SqL.of (hs3 _ _ hh)
    · rintro j y ys σ H3 hy hjl ⟨v4, rfl, rfl, hs3, hh3⟩
      obtain ⟨c, rfl, hci⟩ := map_int_get hy
      have hcb := Mt.upto_mem (List.mem_of_getElem? hci)
      have htk : (Mt.upto (2 ^ i)).take (j + 1) = (Mt.upto (2 ^ i)).take j ++ [c] := by rw [List.take_add_one, hci]; rfl
      have hb7 := bits7_at i (by (first | lia | omega))
      have hai : atI bits7 (0 + (i : Int)) = some (.int ((2 ^ i : Nat) : Int)) := by
        rw [Int.zero_add, hb7, Int.natCast_pow]
        rfl
      have hjb : j < 2 ^ i := by
        rw [List.length_map, Mt.upto_len] at hjl
        exact hjl
      walk_at "rd"
      intro p4 hp4
      (first | refine exE rfl ?_ | refine ⟨_, rfl, ?_⟩)
      refine ⟨p4, _, _, _, rfl, rfl, SqL.of upd_same, hai, ?_⟩
      refine ⟨_, _, rfl, rfl, ?_⟩
      refine cnext hjl (same_new hp4 _ _ _ hh3) ?_ ⟨_, ?_, rfl, same_upd (same_add hs3 hp4) hD, upd_same⟩
      · rw [List.length_map, List.length_map, List.length_take]
        (first | lia | omega)
      · rw [htk, List.map_append, List.map_append]
        rfl
    · rintro ys σ H3 ⟨v4, rfl, rfl, hs3, hh3⟩
      rw [List.length_map, List.take_of_length_le (Nat.le_refl _)] at hh3
      refine ⟨p, D, _, _, rfl, rfl, hs3 _ _ hh, hh3, smallL (by rw [List.length_map, List.length_map, List.length_map, Mt.upto_len]; (first | lia | omega)), fun p8 hp8 => ?_⟩
      rw [← List.map_append, ← upto_double]
      refine ⟨p8, _, rfl, same_add (hs.trans hs3) hp8, ?_⟩
      rw [show 2 ^ (i + 1) = 2 ^ i + 2 ^ i by rw [Nat.pow_succ]; (first | lia | omega)]
      exact upd_same
  rintro σ H2 ⟨l, w2, rfl, hs0, hh0⟩
  have hpw := pow_small ht
  have hS : SqL K H2 l ((Mt.upto (2 ^ t)).map V.int) := SqL.of hh0
  have hl : (Mt.upto (2 ^ t)).length < 4096 := by rw [Mt.upto_len]; (first | lia | omega)
  have q : ∀ (r : Addr) (rs : List Int) (H' : Hp), H2 r = none → Same H2 H' → H' r = some (.lst (rs.map V.int)) → rs.Perm (Mt.upto (2 ^ t)) → rs.Pairwise (fun a b => HT.lexLt (Mt.rk b) (Mt.rk a) = false) → Q (.ref r) H' := fun r rs H' h1 h2 h3 h4 h5 => q r rs H' (hs0.free h1) (hs0.trans h2) h3 h4 h5
  generalize Mt.upto (2 ^ t) = cs at hS hl q
  clear hh0 hs0
  revert H2
  intro H hS q
  walk_at "rd"
  refine ⟨⟨_, hS⟩, fun D hD => ?_⟩
  let Izz : Nat → List V → St → Hp → Prop := fun i ys σ H2 => ∃ (ts : List TI2) (v2 : Option V), ys = refsV ts ∧ σ = [some (.int (t : Int)), some (.ref l), w2, none, v2] ∧ Same H H2 ∧ H2 D = some (.lst ys) ∧ ts.map (·.2) = (cs.take i).map Mt.rk ∧ ∀ t ∈ ts, H2 t.1 = some (.tup (t.2.map V.int))
  refine comp_list (a := l) (xs := cs.map V.int) Izz
    ?_ ?_ ?_ ?_
  · exact ⟨[], none, rfl, rfl, same_new hD _, upd_same, rfl, fun t h => nomatch h⟩
  · exact fun i ys σ H2 _ ⟨_, _, _, _, hs, _⟩ => hs.seq hS
  · rintro i y ys σ H2 hy hil ⟨ts, v2, rfl, rfl, hs, hh, hts, htt⟩
    obtain ⟨c, rfl, hci⟩ := map_int_get hy
    have htl : ts.length ≤ i := by
      have := congrArg List.length hts
      rw [List.length_map, List.length_map, List.length_take] at this
      (first | lia | omega)
    walk_at "rd"
    intro p hp
    refine ⟨p, rfl, ⟨_, SqL.of upd_same⟩, fun D2 hD2 => ?_⟩
    let Izz : Nat → List V → St → Hp → Prop := fun j zs σ H3 => ∃ (ns : List Int) (v3 : Option V), zs = ns.map V.int ∧ σ = [some (.int (t : Int)), some (.ref l), w2, none, some (.int c), v3] ∧ Same (upd H2 p (.lst (bitsI.map V.int))) H3 ∧ H3 D2 = some (.lst zs) ∧ ns = (bitsI.take j).map fun b => c / b % 2
    refine comp_list (a := p) (xs := bitsI.map V.int) Izz
      ?_ ?_ ?_ ?_
    · exact ⟨[], none, rfl, rfl, same_new hD2 _, upd_same, rfl⟩
    · exact fun j zs σ H3 _ ⟨_, _, _, _, hs3, _⟩ => SqL.of (hs3 _ _ upd_same)
    · rintro j y zs σ H3 hy' hjl ⟨ns, v3, rfl, rfl, hs3, hh3, hns⟩
      obtain ⟨b, rfl, hbj⟩ := map_int_get hy'
      obtain ⟨hb0, hb1⟩ := bitsI_b b (List.mem_of_getElem? hbj)
      walk_at "rd"
      refine cnext (ys := ns.map V.int) hjl hh3 ?_ ⟨ns ++ [c / b % 2], _, by rw [List.map_append]; rfl, rfl, same_upd hs3 hD2, upd_same, ?_⟩
      · rw [hns, List.length_map, List.length_map, List.length_take]
        have : j < 7 := hjl
        (first | lia | omega)
      · rw [List.take_add_one, hbj, hns, List.map_append]
        rfl
    · rintro zs σ H3 ⟨ns, v3, rfl, rfl, hs3, hh3, hns⟩
      have hsum : List.sum ns = Mt.pc c := by rw [hns]; rfl
      refine ⟨D2, ns, rfl, SqL.of hh3, ?_⟩
      rw [hsum]
      walk_at "rd"
      intro t ht
      have hs4 := (same_add hs hp).trans hs3
      have hh4 : H3 D = some (.lst (refsV ts)) := hs3 _ _ (same_new hp _ _ _ hh)
      refine cnext (ys := refsV ts) hil (same_new ht _ _ _ hh4) ?_ ⟨ts ++ [(t, Mt.rk c)], _, ?_, rfl, same_upd (same_add hs4 ht) hD, upd_same, ?_, ?_⟩
      · unfold refsV
        rw [List.length_map]
        rw [List.length_map] at hil
        (first | lia | omega)
      · unfold refsV
        rw [List.map_append]
        rfl
      · rw [List.map_append, hts, List.take_add_one, hci, List.map_append]
        rfl
      · intro u hu
        rcases List.mem_append.mp hu with hu | hu
        · have h1 := same_new ht (.tup [.int (Mt.pc c), .int c]) _ _ (hs3 _ _ (same_new hp (.lst (bitsI.map V.int)) _ _ (htt u hu)))
          rw [upd_ne (ne_of h1 (same_new ht _ _ _ hh4) (fun e => by cases e))]
          exact h1
        · rw [List.mem_singleton.mp hu]
          rw [upd_ne (ne_of (H := upd H3 t (.tup [.int (Mt.pc c), .int c])) upd_same (same_new ht _ _ _ hh4) (fun e => by cases e)), upd_same]
          rfl
  · rintro ys σ H2 ⟨ts, v2, rfl, rfl, hs, hh, hts, htt⟩
    rw [List.length_map, List.take_of_length_le (Nat.le_refl _)] at hts
    have htl : ts.length = cs.length := by
      have := congrArg List.length hts
      rw [List.length_map, List.length_map] at this
      exact this
    have hrk : ∀ t ∈ ts, t.2 = Mt.rk (t.2.getD 1 0) := fun t ht => by
      have : t.2 ∈ cs.map Mt.rk := by rw [← hts]; exact List.mem_map_of_mem ht
      obtain ⟨c, _, e⟩ := List.mem_map.mp this
      rw [← e]
      rfl
    walk_at "rd"
    refine ⟨D, ts, rfl, SqL.of hh, fun t ht => ⟨SqT.of (htt t ht), ?_⟩, by (first | lia | omega), fun l2 ts' hl2 hpm hpw => ?_⟩
    · rw [hrk t ht]
      exact fun e => nomatch e
    refine ⟨l2, rfl, ⟨_, SqL.of upd_same⟩, fun D3 hD3 => ?_⟩
    let Izz : Nat → List V → St → Hp → Prop := fun i zs σ H3 => ∃ (v2 v3 : Option V), zs = ((ts'.take i).map fun t => t.2.getD 1 0).map V.int ∧ σ = [some (.int (t : Int)), some (.ref l), w2, some (.ref D), v2, v3] ∧ Same (upd H2 l2 (.lst (refsV ts'))) H3 ∧ H3 D3 = some (.lst zs)
    refine comp_list (a := l2) (xs := refsV ts') Izz
      ?_ ?_ ?_ ?_
    · exact ⟨none, none, rfl, rfl, same_new hD3 _, upd_same⟩
    · exact fun i zs σ H3 _ ⟨_, _, _, _, hs3, _⟩ => SqL.of (hs3 _ _ upd_same)
    · rintro i y zs σ H3 hy hil ⟨u2, u3, rfl, rfl, hs3, hh3⟩
      have hil' : i < ts'.length := by unfold refsV at hil; rw [List.length_map] at hil; exact hil
      have hti : ts'[i]? = some ts'[i] := List.getElem?_eq_getElem hil'
      have ey : y = .ref ts'[i].1 := by
        unfold refsV at hy
        rw [List.getElem?_map, hti] at hy
        exact (Option.some.inj hy).symm
      subst ey
      have hmem : ts'[i] ∈ ts := hpm.mem_iff.mp (List.getElem_mem hil')
      have hx := hs3 _ _ (same_new hl2 (.lst (refsV ts')) _ _ (htt _ hmem))
      rw [hrk _ hmem] at hx
      have hx' : H3 ts'[i].1 = some (.tup [.int (Mt.pc (ts'[i].2.getD 1 0)), .int (ts'[i].2.getD 1 0)]) := hx
      refine ⟨_, _, rfl, SqT.of hx', rfl, ?_⟩
      walk_at "tg"
      walk_at "tg"
      walk_at "rd"
      refine cnext hil hh3 ?_ ⟨_, _, ?_, rfl, same_upd hs3 hD3, upd_same⟩
      · rw [List.length_map, List.length_map, List.length_take, hpm.length_eq, htl]
        (first | lia | omega)
      · rw [List.take_add_one, hti, List.map_append, List.map_append]
        rfl
    · rintro zs σ H3 ⟨u2, u3, rfl, rfl, hs3, hh3⟩
      have e1 : (refsV ts').length = ts'.length := by unfold refsV; exact List.length_map _
      rw [e1, List.take_of_length_le (Nat.le_refl _)] at hh3
      have hgd : ts.map (fun t => t.2.getD 1 0) = cs := by
        have := congrArg (List.map fun l : List Int => l.getD 1 0) hts
        rw [List.map_map, List.map_map] at this
        rw [show ((fun t : TI2 => t.2.getD 1 0)) = (fun l : List Int => l.getD 1 0) ∘ (fun t : TI2 => t.2) from rfl, this]
        exact List.map_id' cs
      refine q D3 (ts'.map fun t => t.2.getD 1 0) H3 ?_ ?_ hh3 ?_ ?_
      · exact hs.free ((same_new hl2 _).free hD3)
      · exact (same_add hs hl2).trans hs3
      · have := hpm.map (fun t : TI2 => t.2.getD 1 0)
        rw [hgd] at this
        exact this
      · rw [List.pairwise_map]
        refine hpw.imp_of_mem fun {x y} hx hy e => ?_
        rw [← hrk x (hpm.mem_iff.mp hx), ← hrk y (hpm.mem_iff.mp hy)]
        exact e
theorem kit_light {K : PySem.W.Frag} {mg : Str → Option Value} {x : Str} {C B : Addr} {b : Bool} (d : CL K mg x B) (hself : PySem.W.mroIn K C (.ref C) = some true) (h : PySem.W.mroIn K C (.ref B) = some b) : PySem.W.kitOne K (.ref C) (.ref B) = some b :=
  d.kit h fun e => by
    subst e
    rw [hself] at h
    exact (Option.some.inj h).symm
theorem kit_full {K : PySem.W.Frag} {mg : Str → Option Value} {x : Str} {C B : Addr} {b : Bool} (d : CN K mg x B) (hself : PySem.W.mroIn K C (.ref C) = some true) (h : PySem.W.mroIn K C (.ref B) = some b) : PySem.W.kitOne K (.ref C) (.ref B) = some b :=
  kit_own d.cls d.q h fun e => by
    subst e
    rw [hself] at h
    exact (Option.some.inj h).symm
theorem kit_none {K : PySem.W.Frag} {c : Value} : ∀ vs : List Value, (∀ v ∈ vs, PySem.W.kitOne K c v = some false) → PySem.W.kitAny K c vs = some false
  | [], _ => rfl
  | v :: vs, h => by
    have h1 := h v List.mem_cons_self
    have h2 := kit_none vs fun x hx => h x (List.mem_cons_of_mem _ hx)
    unfold PySem.W.kitAny
    rw [h1]
    exact h2
noncomputable def sp_law_told : Sp := fun vs H Q _ => ∃ m t : Nat, vs = [.int (m : Int), .int (t : Int)] ∧ m ≤ 30 ∧ t ≤ 7 ∧ (∀ H', Same H H' → 2 ^ t < m → Q (.str "many") H') ∧
  (∀ (r : Addr) (ds : List Int) H', H r = none → Same H H' → m ≤ 2 ^ t → ds.Perm (Mt.upto (2 ^ t)) → Mt.Right ds → H' r = some (.lst ((ds.take m).map V.int)) → Q (.ref r) H')
theorem ok_law_told (T : Tx K mg a) : FnOk P w K mg base CX0 7 a.f_law_told a.d_law_told ["_law_many", "_law_teeth"] sp_law_told := by
  have G_first_codes := ok_first_codes (P := P) (w := w) (base := base) T
  refine T.law_told.fn.ok sc_law_told (fun vs H Q E h => ?_) (fun cdv A outer s H vs Q E hr h => ?_)
  · obtain ⟨m, t, rfl, _⟩ := h
    rfl
  obtain ⟨m, t, rfl, hm, ht, q0, q⟩ := h
  refine ⟨_, (pss_cons (ps_set (i := 2) sc_law_told.nd rfl (Or.inl rfl) pe_non)
      (pss_cons (ps_cut (ps_try rfl (fun _ _ => (pss_one (ps_set (i := 2) sc_law_told.nd rfl (Or.inl rfl) (pcallX T.first_codes G_first_codes hr rfl rfl (pa_cons (pv 0) (pa_cons (pv 1) pa_nil)))))) (fun _ => (kph_cons K rfl (i := 3) rfl T.cl_CasterError.mg T.cl_CasterError.cls sc_law_told.nd rfl rfl (fun _ => (pss_cons (ps_set (i := 4) sc_law_told.nd rfl (Or.inl rfl) (pe_callB (kcall_isT (K := K) rfl) rfl T.b_isinstance bt_isinstance (pa_cons (pv 3) (pa_cons (pe_tup (pa_cons (pe_glob (v := .ref a.c_NoCase) rfl T.cl_NoCase.mg rfl) (pa_cons (pe_glob (v := .ref a.c_Loose) rfl T.cl_Loose.mg rfl) (pa_cons (pe_glob (v := .ref a.c_Tight) rfl T.cl_Tight.mg rfl) (pa_cons (pe_glob (v := .ref a.c_NoBreak) rfl T.cl_NoBreak.mg rfl) (pa_cons (pe_glob (v := .ref a.c_NoCopy) rfl T.cl_NoCopy.mg rfl) (pa_cons (pe_glob (v := .ref a.c_NoKeys) rfl T.cl_NoKeys.mg rfl) (pa_cons (pe_glob (v := .ref a.c_NoNumber) rfl T.cl_NoNumber.mg rfl) (pa_cons (pe_glob (v := .ref a.c_NoRow) rfl T.cl_NoRow.mg rfl) (pa_cons (pe_glob (v := .ref a.c_NoText) rfl T.cl_NoText.mg rfl) pa_nil)))))))))) pa_nil))))
      (pss_one (ps_if (PW.pt (pw_and (pt_val (pe_callB (kcall_isX (K := K) rfl) rfl T.b_isinstance bt_isinstance (pa_cons (pv 3) (pa_cons (pe_glob (v := .ref a.c_TooMany) rfl T.cl_TooMany.mg rfl) pa_nil)))) (pw_and (pt_val (pe_callB (kcall_isX (K := K) rfl) rfl T.b_isinstance bt_isinstance (pa_cons (pv 3) (pa_cons (pe_bltn (v := .ty "ValueError") rfl T.b_ValueError bt_ValueError rfl) pa_nil)))) (pw_and1 (pt_not (pt_val (pv 4))))))) (pss_one (ps_set (i := 2) sc_law_told.nd rfl (Or.inl rfl) pe_str)) pss_nil)))) ph_nil))))
      (pss_one (ps_ret (pv 2))))), ?_⟩
  walk_at "rd"
  let Izz : St → Hp → Prop := fun σ H2 => ∃ (v : V) (v5 v6 : Option V), σ = [some (.int (m : Int)), some (.int (t : Int)), some v, v5, v6] ∧ Same H H2 ∧ ((2 ^ t < m ∧ v = .str "many") ∨ ∃ (r : Addr) (ds : List Int), v = .ref r ∧ H r = none ∧ m ≤ 2 ^ t ∧ ds.Perm (Mt.upto (2 ^ t)) ∧ Mt.Right ds ∧ H2 r = some (.lst ((ds.take m).map V.int)))
  refine ⟨Izz, ?_, ?_⟩
  · walk_at "rd"
    refine ⟨m, t, rfl, hm, ht, fun H3 hs3 hlt => ?_, fun r ds H3 hr0 hs3 hle hpm hrt hh3 => ?_⟩
    · refine ⟨a.c_TooMany, none, true, rfl, T.cl_TooMany.cls, T.m_TooMany_CasterError, iteT ?_⟩
      intro e he0
      have he1 : upd H3 e (XE e a.c_TooMany none) e = some (XE e a.c_TooMany none) := upd_same
      have hs4 : Same H (upd H3 e (XE e a.c_TooMany none)) := same_add hs3 he0
      generalize upd H3 e (XE e a.c_TooMany none) = H4 at he1 hs4 ⊢
      have hg := T.cl_TooMany.q.g
      have hself := T.m_TooMany_TooMany
      walk_at "rd"
      intro tt htt
      have hs45 := same_new htt (.tup [.ref a.c_NoCase, .ref a.c_Loose, .ref a.c_Tight, .ref a.c_NoBreak, .ref a.c_NoCopy, .ref a.c_NoKeys, .ref a.c_NoNumber, .ref a.c_NoRow, .ref a.c_NoText])
      have h5t : upd H4 tt (.tup [.ref a.c_NoCase, .ref a.c_Loose, .ref a.c_Tight, .ref a.c_NoBreak, .ref a.c_NoCopy, .ref a.c_NoKeys, .ref a.c_NoNumber, .ref a.c_NoRow, .ref a.c_NoText]) tt = some (.tup [.ref a.c_NoCase, .ref a.c_Loose, .ref a.c_Tight, .ref a.c_NoBreak, .ref a.c_NoCopy, .ref a.c_NoKeys, .ref a.c_NoNumber, .ref a.c_NoRow, .ref a.c_NoText]) := upd_same
      generalize upd H4 tt (.tup [.ref a.c_NoCase, .ref a.c_Loose, .ref a.c_Tight, .ref a.c_NoBreak, .ref a.c_NoCopy, .ref a.c_NoKeys, .ref a.c_NoNumber, .ref a.c_NoRow, .ref a.c_NoText]) = H5 at hs45 h5t ⊢
      have he5 := hs45 _ _ he1
      have ask : ∀ a0, (none : Option Addr) = some a0 → ∃ fs, H5 a0 = some (.xd fs) := fun a0 z => nomatch z
      refine ⟨e, a.c_TooMany, none, tt, _, [.ref a.c_NoCase, .ref a.c_Loose, .ref a.c_Tight, .ref a.c_NoBreak, .ref a.c_NoCopy, .ref a.c_NoKeys, .ref a.c_NoNumber, .ref a.c_NoRow, .ref a.c_NoText], false, rfl, he5, ask, hg, h5t, .cons rfl (.cons rfl (.cons rfl (.cons rfl (.cons rfl (.cons rfl (.cons rfl (.cons rfl (.cons rfl .nil)))))))), kit_none _ (fun v hv => ?_), ?_⟩
      · simp only [List.mem_cons, List.not_mem_nil, or_false] at hv
        rcases hv with rfl | rfl | rfl | rfl | rfl | rfl | rfl | rfl | rfl
        · exact kit_light T.cl_NoCase hself T.m_TooMany_NoCase
        · exact kit_light T.cl_Loose hself T.m_TooMany_Loose
        · exact kit_light T.cl_Tight hself T.m_TooMany_Tight
        · exact kit_light T.cl_NoBreak hself T.m_TooMany_NoBreak
        · exact kit_light T.cl_NoCopy hself T.m_TooMany_NoCopy
        · exact kit_light T.cl_NoKeys hself T.m_TooMany_NoKeys
        · exact kit_light T.cl_NoNumber hself T.m_TooMany_NoNumber
        · exact kit_light T.cl_NoRow hself T.m_TooMany_NoRow
        · exact kit_light T.cl_NoText hself T.m_TooMany_NoText
      walk_at "rd"
      refine ⟨e, a.c_TooMany, none, _, _, true, rfl, he5, ask, hg, rfl, kit_full T.cl_TooMany hself hself, ?_⟩
      (first | refine exE rfl ?_ | refine ⟨_, rfl, ?_⟩)
      refine iteT ?_
      walk_at "rd"
      refine ⟨e, a.c_TooMany, none, _, _, true, rfl, he5, ask, hg, rfl, kit_value T.cl_TooMany.q, ?_⟩
      (first | refine exE rfl ?_ | refine ⟨_, rfl, ?_⟩)
      refine iteT ?_
      walk_at "rd"
      try refine iteT ?_
      walk_at "rd"
      exact ⟨_, _, _, rfl, hs4.trans hs45, .inl ⟨hlt, rfl⟩⟩
    · walk_at "rd"
      exact ⟨_, _, _, rfl, hs3, .inr ⟨r, ds, rfl, hr0, hle, hpm, hrt, hh3⟩⟩
  · rintro σ H2 ⟨v, v5, v6, rfl, hs2, h | h⟩
    · obtain ⟨hlt, rfl⟩ := h
      walk_at "rd"
      exact q0 H2 hs2 hlt
    · obtain ⟨r, ds, rfl, hr0, hle, hpm, hrt, hh⟩ := h
      walk_at "rd"
      exact q r ds H2 hr0 hs2 hle hpm hrt hh
noncomputable def sp_law_good : Sp := fun vs H Q _ => ∃ m t : Nat, vs = [.int (m : Int), .int (t : Int)] ∧ m ≤ 30 ∧ t ≤ 7 ∧ ∀ H', Same H H' → Q (.bl true) H'
theorem ok_law_good (T : Tx K mg a) : FnOk P w K mg base CX0 8 a.f_law_good a.d_law_good ["_law_many", "_law_teeth"] sp_law_good := by
  have G_law_all := ok_law_all (P := P) (w := w) (base := base) T
  have G_law_told := ok_law_told (P := P) (w := w) (base := base) T
  refine T.law_good.fn.ok sc_law_good (fun vs H Q E h => ?_) (fun cdv A outer s H vs Q E hr h => ?_)
  · obtain ⟨m, t, rfl, _⟩ := h
    rfl
  obtain ⟨m, t, rfl, hm, ht, q⟩ := h
  have hp := pow_small ht
  refine ⟨_, (pss_cons (ps_set (i := 2) sc_law_good.nd rfl (Or.inl rfl) (pcall T.law_all G_law_all hr rfl (pa_cons (pv 1) pa_nil)))
      (pss_cons (ps_set (i := 3) sc_law_good.nd rfl (Or.inl rfl) (pcall T.law_told G_law_told hr rfl (pa_cons (pv 0) (pa_cons (pv 1) pa_nil))))
      (pss_cons (ps_if (pt_cmpR op_gt (pv 0) (pe_callB (klen_seq K rfl) rfl T.b_len bt_len (pa_cons (pv 2) pa_nil)) (nomark _)) (pss_one (ps_ret (pe_cmpR (keqD K rfl hr.units) (pv 3) pe_str (nomark _)))) pss_nil)
      (pss_cons (ps_if (PW.pt (pw_or (pt_not (pt_val (pe_callB (kisinst K rfl) rfl T.b_isinstance bt_isinstance (pa_cons (pv 3) (pa_cons (pe_bltn (v := .ty "list") rfl T.b_list bt_list rfl) pa_nil))))) (pw_or1 (pt_cmpR (kneD K rfl hr.units) (pv 3) (pe_slice (ksl_list K rfl) (pv 2) po_none (po_some (pv 0))) (nomark _))))) (pss_one (ps_ret pe_bl)) pss_nil)
      (pss_cons (ps_for PassesOwn.never rfl (kpi_list K rfl (pv 3)) (pg_name (i := 4) sc_law_good.nd rfl (Or.inl rfl)) (pss_one (ps_if (PW.pt (pw_or (pt_not (pt_val (pe_callB (kisinst K rfl) rfl T.b_isinstance bt_isinstance (pa_cons (pv 4) (pa_cons (pe_bltn (v := .ty "int") rfl T.b_int bt_int rfl) pa_nil))))) (pw_or1 (pt_val (pe_callB (kisinst K rfl) rfl T.b_isinstance bt_isinstance (pa_cons (pv 4) (pa_cons (pe_bltn (v := .ty "bool") rfl T.b_bool bt_bool rfl) pa_nil))))))) (pss_one (ps_ret pe_bl)) pss_nil)))
      (pss_cons (ps_expr (kpe_bm K rfl PySem.F.plainAttrs_list PySem.F.slot_list_append PySem.F.type_list_append mt_append (pv 3) (pa_cons pe_int pa_nil)))
      (pss_one (ps_ret (pe_cmpR (keqD K rfl hr.units) (pcall T.law_told G_law_told hr rfl (pa_cons (pv 0) (pa_cons (pv 1) pa_nil))) (pe_slice (ksl_list K rfl) (pv 2) po_none (po_some (pv 0))) (nomark _)))))))))), ?_⟩
  walk_at "rd"
  intro r1 es H1 hr1 hs1 hh1 hpe hre
  have hre : Mt.Right es := hre
  have hel : (es.map V.int).length = 2 ^ t := by rw [List.length_map, hpe.length_eq, Mt.upto_len]
  walk_at "rd"
  refine ⟨m, t, rfl, hm, ht, fun H2 hs2 hlt => ?_, fun r2 ds H2 hr2 hs2 hle hpm hrt hh2 => ?_⟩
  · walk_at "rd"
    refine ⟨r1, _, rfl, .inl (SqL.of (hs2 _ _ hh1)), ?_⟩
    rw [hel]
    walk_at "rd"
    rw [decide_eq_true (show ((2 ^ t : Nat) : Int) < (m : Int) by (first | lia | omega))]
    refine iteT ?_
    walk_at "rd"
    have lay : PyData.canLay0 (.str "many") = true := by decide +kernel
    refine ⟨.str "many", .str "many", .str _ lay, .str _ lay, by decide +kernel, ?_⟩
    rw [show PyData.eqv (.str "many") (.str "many") = true by decide +kernel]
    exact q _ (hs1.trans hs2)
  have e2 : ds = es := Mt.right_same (hpm.trans hpe.symm) hrt hre
  subst e2
  have hs02 := hs1.trans hs2
  have hh1' := hs2 _ _ hh1
  have eD : PyData.eqv (dInts (ds.take m)) (dInts (ds.take m)) = true := eqv_refl (nb_ints _)
  have htl : (ds.take m).length ≤ 128 := by rw [List.length_take]; (first | lia | omega)
  walk_at "rd"
  refine ⟨r1, _, rfl, .inl (SqL.of hh1'), ?_⟩
  rw [hel]
  walk_at "rd"
  rw [decide_eq_false (show ¬ ((2 ^ t : Nat) : Int) < (m : Int) by (first | lia | omega))]
  refine iteF ?_
  walk_at "rd"
  refine ⟨_, _, _, _, rfl, .lst hh2, kit_ll, ?_⟩
  walk_at "rd"
  refine ⟨r1, _, rfl, SqL.of hh1', fun r3 hr3 => ?_⟩
  rw [cut_ints ds m]
  have hs23 := same_new hr3 (.lst ((ds.take m).map V.int))
  have hh3 := hs23 _ _ hh2
  refine ⟨dInts (ds.take m), dInts (ds.take m), den_ints (SqL.of hh3), den_ints (SqL.of upd_same), dints_depth _ _, ?_⟩
  rw [eD]
  walk_at "rd"
  refine ⟨⟨_, SqL.of hh3⟩, ?_⟩
  have hs03 := hs02.trans hs23
  have hh13 := hs23 _ _ hh1'
  have hr2' : H1 r2 = none := hr2
  have hs13 := hs2.trans hs23
  generalize upd H2 r3 (.lst ((ds.take m).map V.int)) = H3 at hs23 hh3 hs03 hh13 hs13 ⊢
  let Izz : Nat → St → Hp → Prop := fun i σ H4 => ∃ (v4 : Option V), σ = [some (.int (m : Int)), some (.int (t : Int)), some (.ref r1), some (.ref r2), v4] ∧ H4 = H3
  refine for_list (a := r2) (xs := (ds.take m).map V.int) Izz
    ⟨none, rfl, rfl⟩ (fun i σ H4 _ ⟨_, _, e⟩ => by subst e; exact SqL.of hh3) ?_ ?_
  · rintro i y σ H4 hy ⟨v4, rfl, rfl⟩
    obtain ⟨b, rfl, _⟩ := map_int_get hy
    walk_at "rd"
    refine ⟨_, _, _, _, rfl, .int _, kit_ii, ?_⟩
    walk_at "rd"
    refine ⟨_, _, _, _, rfl, .int _, kit_ib, ?_⟩
    walk_at "rd"
    rfl
  · rintro σ H4 ⟨v4, rfl, rfl⟩
    walk_at "rd"
    refine ⟨.inl ⟨rfl, _, SqL.of hh3⟩, ?_⟩
    walk_at "rd"
    refine ⟨r2, _, _, rfl, rfl, hh3, smallLt (by rw [List.length_map]; (first | lia | omega)), ?_⟩
    have hs1u : Same H1 (upd H4 r2 (.lst ((ds.take m).map V.int ++ [.int 0]))) := same_upd hs13 hr2'
    have hs0u := hs1.trans hs1u
    walk_at "rd"
    refine ⟨m, t, rfl, hm, ht, fun H5 hs5 hlt => absurd hlt (by (first | lia | omega)), fun r5 ds5 H5 hr5 hs5 hle5 hpm5 hrt5 hh5 => ?_⟩
    have e5 : ds5 = ds := Mt.right_same (hpm5.trans hpe.symm) hrt5 hre
    subst e5
    have hh15 := hs5 _ _ (hs1u _ _ hh1)
    walk_at "rd"
    refine ⟨r1, _, rfl, SqL.of hh15, fun r6 hr6 => ?_⟩
    rw [cut_ints ds5 m]
    refine ⟨dInts (ds5.take m), dInts (ds5.take m), den_ints (SqL.of (same_new hr6 _ _ _ hh5)), den_ints (SqL.of upd_same), dints_depth _ _, ?_⟩
    rw [eD]
    exact q _ (same_add (hs0u.trans hs5) hr6)
noncomputable def sp_law (K : PySem.W.Frag) : Sp := fun vs H Q _ => ∃ (a : Addr) (ns : List Int), vs = [.ref a] ∧ SqL K H a (ns.map V.int) ∧ ns.length ≤ 63 ∧ ∀ H', Q (.bl true) H'
theorem ok_law (T : Tx K mg a) : FnOk P w K mg base CX0 lawLevel a.f_law a.d_law ["_law_script"] (sp_law K) := by
  have G_law_cell := ok_law_cell (P := P) (w := w) (base := base) T
  have G_law_good := ok_law_good (P := P) (w := w) (base := base) T
  refine T.law.fn.ok sc_law (fun vs H Q E h => ?_) (fun cdv A outer s H vs Q E hr h => ?_)
  · obtain ⟨l, ns, rfl, _⟩ := h
    rfl
  obtain ⟨l, ns, rfl, hS, hl, q⟩ := h
  refine ⟨_, (pss_cons (ps_for PassesOwn.never rfl (kpi_list K rfl (pe_op op_cat (pe_lst (pa_cons (pcall T.law_cell G_law_cell hr rfl (pa_cons (pv 0) (pa_cons pe_int pa_nil))) pa_nil)) (pe_slice (ksl_list K rfl) (pv 0) po_none (po_some pe_int)))) (pg_name (i := 1) sc_law.nd rfl (Or.inl rfl)) (pss_one (ps_if (pt_not (pt_val (pcall T.law_good G_law_good hr rfl (pa_cons (pe_op op_add pe_int (pe_op op_mod (pv 1) pe_int)) (pa_cons (pe_op op_mod (pe_op op_fdiv (pv 1) pe_int) pe_int) pa_nil))))) (pss_one (ps_ret pe_bl)) pss_nil)))
      (pss_one (ps_ret (pe_and (pcall T.law_good G_law_good hr rfl (pa_cons pe_int (pa_cons pe_int pa_nil))) (pe_and (pcall T.law_good G_law_good hr rfl (pa_cons pe_int (pa_cons pe_int pa_nil))) (pe_one (pcall T.law_good G_law_good hr rfl (pa_cons pe_int (pa_cons pe_int pa_nil))))))))), ?_⟩
  walk_at "rd"
  refine ⟨l, 0, ns, rfl, hS, Int.le_refl _, fun z0 => ?_⟩
  walk_at "rd"
  intro p1 hp1
  walk_at "rd"
  refine ⟨l, _, rfl, (same_new hp1 _).seq hS, fun p2 hp2 => ?_⟩
  have hc : cutV (ns.map V.int) none (some 30) = (ns.take 30).map V.int := cut_ints ns 30
  rw [hc]
  refine ⟨p1, p2, [.int z0], _, rfl, rfl, by walk_at "hk", upd_same, ?_, fun p3 hp3 => ?_⟩
  · rw [List.length_map, List.length_take]
    exact smallL (by simp; (first | lia | omega))
  have ex : ([.int z0] : List V) ++ (ns.take 30).map V.int = (z0 :: ns.take 30).map V.int := rfl
  rw [ex]
  refine ⟨p3, rfl, ⟨_, SqL.of upd_same⟩, ?_⟩
  let Izz : Nat → St → Hp → Prop := fun i σ H2 => ∃ (v1 : Option V), σ = [some (.ref l), v1] ∧ H2 p3 = some (.lst ((z0 :: ns.take 30).map V.int))
  refine for_list (a := p3) (xs := (z0 :: ns.take 30).map V.int) Izz
    ⟨none, rfl, upd_same⟩ (fun i σ H2 _ hzz => by obtain ⟨_, _, h⟩ := hzz; exact SqL.of h) ?_ ?_
  · rintro i y σ H2 hy ⟨v1, rfl, hh⟩
    obtain ⟨c, rfl, _⟩ := map_int_get hy
    have h1 := Int.emod_nonneg c (show (30 : Int) ≠ 0 by decide)
    have h2 := Int.emod_lt_of_pos c (show (0 : Int) < 30 by decide)
    have h3 := Int.emod_nonneg (c / 30) (show (8 : Int) ≠ 0 by decide)
    have h4 := Int.emod_lt_of_pos (c / 30) (show (0 : Int) < 8 by decide)
    walk_at "rd"
    refine ⟨(1 + c % 30).toNat, (c / 30 % 8).toNat, ?_, by (first | lia | omega), by (first | lia | omega), fun H3 hs3 => ?_⟩
    · rw [Int.toNat_of_nonneg (by (first | lia | omega)), Int.toNat_of_nonneg h3]
      rfl
    walk_at "rd"
    exact hs3 _ _ hh
  · rintro σ H2 ⟨v1, rfl, hh⟩
    dsimp +zetaDelta only
    walk_at "rd"
    refine ⟨1, 0, rfl, by decide, by decide, fun H3 _ => ?_⟩
    walk_at "rd"
    refine ⟨2, 0, rfl, by decide, by decide, fun H4 _ => ?_⟩
    walk_at "rd"
    refine ⟨30, 7, rfl, by decide, by decide, fun H5 _ => ?_⟩
    walk_at "rd"
    exact q _
theorem txt_mk {K : PySem.W.Frag} {h : Heap} {mg : Str → Option Value} (X : K.In h) (G : h.Ns mainGlobals mg)
    {f0 : Addr} {od0 an0 : Option Addr} {sl0 : Array (Option Value)} {oc0 kV0 dc0 pm0 cd0 ct0 : Value} {f1 : Addr} {od1 an1 : Option Addr} {sl1 : Array (Option Value)} {oc1 kV1 dc1 pm1 cd1 ct1 : Value} {f2 : Addr} {od2 an2 : Option Addr} {sl2 : Array (Option Value)} {oc2 kV2 dc2 pm2 cd2 ct2 : Value} {f3 : Addr} {od3 an3 : Option Addr} {sl3 : Array (Option Value)} {oc3 kV3 dc3 pm3 cd3 ct3 : Value} {f4 : Addr} {od4 an4 : Option Addr} {sl4 : Array (Option Value)} {oc4 kV4 dc4 pm4 cd4 ct4 : Value} {f5 : Addr} {od5 an5 : Option Addr} {sl5 : Array (Option Value)} {oc5 kV5 dc5 pm5 cd5 ct5 : Value} {f6 : Addr} {od6 an6 : Option Addr} {sl6 : Array (Option Value)} {oc6 kV6 dc6 pm6 cd6 ct6 : Value} {f7 : Addr} {od7 an7 : Option Addr} {sl7 : Array (Option Value)} {oc7 kV7 dc7 pm7 cd7 ct7 : Value} {f8 : Addr} {od8 an8 : Option Addr} {sl8 : Array (Option Value)} {oc8 kV8 dc8 pm8 cd8 ct8 : Value} {f9 : Addr} {od9 an9 : Option Addr} {sl9 : Array (Option Value)} {oc9 kV9 dc9 pm9 cd9 ct9 : Value}
    (a0 : PySem.W.nsIn K mainGlobals "number_of_teeth" = some (some (.ref f0))) (l0 : K.lookup f0 = some ⟨oc0, od0, .func (PySem.W.fnOf "number_of_teeth" "number_of_teeth" (defArgs s_number_of_teeth) (defBody s_number_of_teeth) (defScope s_number_of_teeth) .none kV0 dc0 pm0 an0 cd0 ct0), sl0⟩) (c0 : PySem.W.codeIn K cd0 "number_of_teeth" = true) (k0 : PySem.W.keepIn K (.ref f0) = true)
    (a1 : PySem.W.nsIn K mainGlobals "rank_of" = some (some (.ref f1))) (l1 : K.lookup f1 = some ⟨oc1, od1, .func (PySem.W.fnOf "rank_of" "rank_of" (defArgs s_rank_of) (defBody s_rank_of) (defScope s_rank_of) .none kV1 dc1 pm1 an1 cd1 ct1), sl1⟩) (c1 : PySem.W.codeIn K cd1 "rank_of" = true) (k1 : PySem.W.keepIn K (.ref f1) = true)
    (a2 : PySem.W.nsIn K mainGlobals "put_right" = some (some (.ref f2))) (l2 : K.lookup f2 = some ⟨oc2, od2, .func (PySem.W.fnOf "put_right" "put_right" (defArgs s_put_right) (defBody s_put_right) (defScope s_put_right) .none kV2 dc2 pm2 an2 cd2 ct2), sl2⟩) (c2 : PySem.W.codeIn K cd2 "put_right" = true) (k2 : PySem.W.keepIn K (.ref f2) = true)
    (a3 : PySem.W.nsIn K mainGlobals "all_codes" = some (some (.ref f3))) (l3 : K.lookup f3 = some ⟨oc3, od3, .func (PySem.W.fnOf "all_codes" "all_codes" (defArgs s_all_codes) (defBody s_all_codes) (defScope s_all_codes) .none kV3 dc3 pm3 an3 cd3 ct3), sl3⟩) (c3 : PySem.W.codeIn K cd3 "all_codes" = true) (k3 : PySem.W.keepIn K (.ref f3) = true)
    (a4 : PySem.W.nsIn K mainGlobals "first_codes" = some (some (.ref f4))) (l4 : K.lookup f4 = some ⟨oc4, od4, .func (PySem.W.fnOf "first_codes" "first_codes" (defArgs s_first_codes) (defBody s_first_codes) (defScope s_first_codes) .none kV4 dc4 pm4 an4 cd4 ct4), sl4⟩) (c4 : PySem.W.codeIn K cd4 "first_codes" = true) (k4 : PySem.W.keepIn K (.ref f4) = true)
    (a5 : PySem.W.nsIn K mainGlobals "_law_cell" = some (some (.ref f5))) (l5 : K.lookup f5 = some ⟨oc5, od5, .func (PySem.W.fnOf "_law_cell" "_law_cell" (defArgs s_law_cell) (defBody s_law_cell) (defScope s_law_cell) .none kV5 dc5 pm5 an5 cd5 ct5), sl5⟩) (c5 : PySem.W.codeIn K cd5 "_law_cell" = true) (k5 : PySem.W.keepIn K (.ref f5) = true)
    (a6 : PySem.W.nsIn K mainGlobals "_law_all" = some (some (.ref f6))) (l6 : K.lookup f6 = some ⟨oc6, od6, .func (PySem.W.fnOf "_law_all" "_law_all" (defArgs s_law_all) (defBody s_law_all) (defScope s_law_all) .none kV6 dc6 pm6 an6 cd6 ct6), sl6⟩) (c6 : PySem.W.codeIn K cd6 "_law_all" = true) (k6 : PySem.W.keepIn K (.ref f6) = true)
    (a7 : PySem.W.nsIn K mainGlobals "_law_told" = some (some (.ref f7))) (l7 : K.lookup f7 = some ⟨oc7, od7, .func (PySem.W.fnOf "_law_told" "_law_told" (defArgs s_law_told) (defBody s_law_told) (defScope s_law_told) .none kV7 dc7 pm7 an7 cd7 ct7), sl7⟩) (c7 : PySem.W.codeIn K cd7 "_law_told" = true) (k7 : PySem.W.keepIn K (.ref f7) = true)
    (a8 : PySem.W.nsIn K mainGlobals "_law_good" = some (some (.ref f8))) (l8 : K.lookup f8 = some ⟨oc8, od8, .func (PySem.W.fnOf "_law_good" "_law_good" (defArgs s_law_good) (defBody s_law_good) (defScope s_law_good) .none kV8 dc8 pm8 an8 cd8 ct8), sl8⟩) (c8 : PySem.W.codeIn K cd8 "_law_good" = true) (k8 : PySem.W.keepIn K (.ref f8) = true)
    (a9 : PySem.W.nsIn K mainGlobals "law" = some (some (.ref f9))) (l9 : K.lookup f9 = some ⟨oc9, od9, .func (PySem.W.fnOf "law" "law" (defArgs s_law) (defBody s_law) (defScope s_law) .none kV9 dc9 pm9 an9 cd9 ct9), sl9⟩) (c9 : PySem.W.codeIn K cd9 "law" = true) (k9 : PySem.W.keepIn K (.ref f9) = true)
    {c_CasterError : Addr} (ca_CasterError : PySem.W.nsIn K mainGlobals "CasterError" = some (some (.ref c_CasterError)))
    {c_NoCase : Addr} (ca_NoCase : PySem.W.nsIn K mainGlobals "NoCase" = some (some (.ref c_NoCase)))
    (ci_NoCase : PySem.W.isClsIn K c_NoCase = true) (ct_NoCase : PySem.W.typeIn K (.ref c_NoCase) = some (.type "type"))
    {c_TooMany : Addr} (ca_TooMany : PySem.W.nsIn K mainGlobals "TooMany" = some (some (.ref c_TooMany)))
    {c_Loose : Addr} (ca_Loose : PySem.W.nsIn K mainGlobals "Loose" = some (some (.ref c_Loose)))
    (ci_Loose : PySem.W.isClsIn K c_Loose = true) (ct_Loose : PySem.W.typeIn K (.ref c_Loose) = some (.type "type"))
    {c_Tight : Addr} (ca_Tight : PySem.W.nsIn K mainGlobals "Tight" = some (some (.ref c_Tight)))
    (ci_Tight : PySem.W.isClsIn K c_Tight = true) (ct_Tight : PySem.W.typeIn K (.ref c_Tight) = some (.type "type"))
    {c_NoBreak : Addr} (ca_NoBreak : PySem.W.nsIn K mainGlobals "NoBreak" = some (some (.ref c_NoBreak)))
    (ci_NoBreak : PySem.W.isClsIn K c_NoBreak = true) (ct_NoBreak : PySem.W.typeIn K (.ref c_NoBreak) = some (.type "type"))
    {c_NoCopy : Addr} (ca_NoCopy : PySem.W.nsIn K mainGlobals "NoCopy" = some (some (.ref c_NoCopy)))
    (ci_NoCopy : PySem.W.isClsIn K c_NoCopy = true) (ct_NoCopy : PySem.W.typeIn K (.ref c_NoCopy) = some (.type "type"))
    {c_NoKeys : Addr} (ca_NoKeys : PySem.W.nsIn K mainGlobals "NoKeys" = some (some (.ref c_NoKeys)))
    (ci_NoKeys : PySem.W.isClsIn K c_NoKeys = true) (ct_NoKeys : PySem.W.typeIn K (.ref c_NoKeys) = some (.type "type"))
    {c_NoText : Addr} (ca_NoText : PySem.W.nsIn K mainGlobals "NoText" = some (some (.ref c_NoText)))
    (ci_NoText : PySem.W.isClsIn K c_NoText = true) (ct_NoText : PySem.W.typeIn K (.ref c_NoText) = some (.type "type"))
    {c_NoNumber : Addr} (ca_NoNumber : PySem.W.nsIn K mainGlobals "NoNumber" = some (some (.ref c_NoNumber)))
    (ci_NoNumber : PySem.W.isClsIn K c_NoNumber = true) (ct_NoNumber : PySem.W.typeIn K (.ref c_NoNumber) = some (.type "type"))
    {c_NoRow : Addr} (ca_NoRow : PySem.W.nsIn K mainGlobals "NoRow" = some (some (.ref c_NoRow)))
    (ci_NoRow : PySem.W.isClsIn K c_NoRow = true) (ct_NoRow : PySem.W.typeIn K (.ref c_NoRow) = some (.type "type"))
    {od_CasterError : Option Addr} {cd_CasterError : ClassData} {sl_CasterError : Array (Option Value)} (lk_CasterError : K.lookup c_CasterError = some ⟨.type "type", od_CasterError, .cls cd_CasterError, sl_CasterError⟩)
    {N_CasterError : Addr} (cN_CasterError : cd_CasterError.ns = N_CasterError) {noc_CasterError : Value} {nod_CasterError : Option Addr} {nes_CasterError : Array DictEntry} {nn_CasterError : Nat} {nsl_CasterError : Array (Option Value)} (ln_CasterError : K.lookup N_CasterError = some ⟨noc_CasterError, nod_CasterError, .dict nes_CasterError nn_CasterError, nsl_CasterError⟩)
    (le_CasterError : (nes_CasterError.toList.all fun e => match e.key with | .str _ _ => true | _ => false) = true) (ni_CasterError : PySem.W.nsIn K N_CasterError "__init__" = some none)
    {k0_CasterError k1_CasterError k2_CasterError k3_CasterError k5_CasterError : Option Value} (cs_CasterError : sl_CasterError.toList = [k0_CasterError, k1_CasterError, k2_CasterError, k3_CasterError, some (.builtin "ValueError.__new__"), k5_CasterError]) (cm_CasterError : cd_CasterError.mro = .ref c_CasterError :: bmV) (ch_CasterError : cd_CasterError.hasDel = false)
    (q1_CasterError : PySem.W.findIn K (.ref c_CasterError) "__getattribute__" = some (some (.builtin "BaseException.__getattribute__"))) (q2_CasterError : PySem.W.findIn K (.ref c_CasterError) "__getattr__" = some none) (q3_CasterError : PySem.W.mroIn K c_CasterError (.type "BaseException") = some true) (q4_CasterError : PySem.W.mroIn K c_CasterError (.type "object") = some true) (q5_CasterError : PySem.W.findIn K (.ref c_CasterError) "__class__" = some (some (.builtin "object.__class__"))) (q6_CasterError : PySem.W.hasDictIn K c_CasterError = true) (q7_CasterError : PySem.W.keepIn K (.ref c_CasterError) = true) (q8_CasterError : PySem.W.typeIn K (.ref c_CasterError) = some (.type "type")) (q9_CasterError : PySem.W.mroIn K c_CasterError (.type "ValueError") = some true)
    {od_TooMany : Option Addr} {cd_TooMany : ClassData} {sl_TooMany : Array (Option Value)} (lk_TooMany : K.lookup c_TooMany = some ⟨.type "type", od_TooMany, .cls cd_TooMany, sl_TooMany⟩)
    {N_TooMany : Addr} (cN_TooMany : cd_TooMany.ns = N_TooMany) {noc_TooMany : Value} {nod_TooMany : Option Addr} {nes_TooMany : Array DictEntry} {nn_TooMany : Nat} {nsl_TooMany : Array (Option Value)} (ln_TooMany : K.lookup N_TooMany = some ⟨noc_TooMany, nod_TooMany, .dict nes_TooMany nn_TooMany, nsl_TooMany⟩)
    (le_TooMany : (nes_TooMany.toList.all fun e => match e.key with | .str _ _ => true | _ => false) = true) (ni_TooMany : PySem.W.nsIn K N_TooMany "__init__" = some none)
    {k0_TooMany k1_TooMany k2_TooMany k3_TooMany k5_TooMany : Option Value} (cs_TooMany : sl_TooMany.toList = [k0_TooMany, k1_TooMany, k2_TooMany, k3_TooMany, some (.builtin "ValueError.__new__"), k5_TooMany]) (cm_TooMany : cd_TooMany.mro = .ref c_TooMany :: .ref c_CasterError :: bmV) (ch_TooMany : cd_TooMany.hasDel = false)
    (q1_TooMany : PySem.W.findIn K (.ref c_TooMany) "__getattribute__" = some (some (.builtin "BaseException.__getattribute__"))) (q2_TooMany : PySem.W.findIn K (.ref c_TooMany) "__getattr__" = some none) (q3_TooMany : PySem.W.mroIn K c_TooMany (.type "BaseException") = some true) (q4_TooMany : PySem.W.mroIn K c_TooMany (.type "object") = some true) (q5_TooMany : PySem.W.findIn K (.ref c_TooMany) "__class__" = some (some (.builtin "object.__class__"))) (q6_TooMany : PySem.W.hasDictIn K c_TooMany = true) (q7_TooMany : PySem.W.keepIn K (.ref c_TooMany) = true) (q8_TooMany : PySem.W.typeIn K (.ref c_TooMany) = some (.type "type")) (q9_TooMany : PySem.W.mroIn K c_TooMany (.type "ValueError") = some true)
    (b1 : PySem.W.readsIn K c_CasterError (.type "type") = true) (b2 : PySem.W.findCls K (.ref c_CasterError) (.type "type") "__init__" = some (.val (.builtin "ValueError.__init__"))) (b3 : PySem.W.specialIn K (.ref c_CasterError) "__getattribute__" = some (some (.builtin "type.__getattribute__")))
    (m_TooMany_CasterError : PySem.W.mroIn K c_TooMany (.ref c_CasterError) = some true)
    (m_TooMany_NoCase : PySem.W.mroIn K c_TooMany (.ref c_NoCase) = some false)
    (m_TooMany_TooMany : PySem.W.mroIn K c_TooMany (.ref c_TooMany) = some true)
    (m_TooMany_Loose : PySem.W.mroIn K c_TooMany (.ref c_Loose) = some false)
    (m_TooMany_Tight : PySem.W.mroIn K c_TooMany (.ref c_Tight) = some false)
    (m_TooMany_NoBreak : PySem.W.mroIn K c_TooMany (.ref c_NoBreak) = some false)
    (m_TooMany_NoCopy : PySem.W.mroIn K c_TooMany (.ref c_NoCopy) = some false)
    (m_TooMany_NoKeys : PySem.W.mroIn K c_TooMany (.ref c_NoKeys) = some false)
    (m_TooMany_NoText : PySem.W.mroIn K c_TooMany (.ref c_NoText) = some false)
    (m_TooMany_NoNumber : PySem.W.mroIn K c_TooMany (.ref c_NoNumber) = some false)
    (m_TooMany_NoRow : PySem.W.mroIn K c_TooMany (.ref c_NoRow) = some false)
    (z_ValueError : PySem.W.nsIn K mainGlobals "ValueError" = some none)
    (z_bool : PySem.W.nsIn K mainGlobals "bool" = some none)
    (z_int : PySem.W.nsIn K mainGlobals "int" = some none)
    (z_isinstance : PySem.W.nsIn K mainGlobals "isinstance" = some none)
    (z_len : PySem.W.nsIn K mainGlobals "len" = some none)
    (z_list : PySem.W.nsIn K mainGlobals "list" = some none)
    (z_range : PySem.W.nsIn K mainGlobals "range" = some none)
    (z_sorted : PySem.W.nsIn K mainGlobals "sorted" = some none)
    (z_sum : PySem.W.nsIn K mainGlobals "sum" = some none)
    : ∃ a : Ad, Tx K mg a := by
  have D0 : D K mg "number_of_teeth" s_number_of_teeth ["teeth"] f0 _ := ⟨fun_mk l0 c0 k0, fun us hl => match us, hl with | [_], _ => rfl, PySem.W.mg_of X G a0⟩
  have D1 : D K mg "rank_of" s_rank_of ["teeth"] f1 _ := ⟨fun_mk l1 c1 k1, fun us hl => match us, hl with | [_], _ => rfl, PySem.W.mg_of X G a1⟩
  have D2 : D K mg "put_right" s_put_right ["codes"] f2 _ := ⟨fun_mk l2 c2 k2, fun us hl => match us, hl with | [_], _ => rfl, PySem.W.mg_of X G a2⟩
  have D3 : D K mg "all_codes" s_all_codes ["teeth"] f3 _ := ⟨fun_mk l3 c3 k3, fun us hl => match us, hl with | [_], _ => rfl, PySem.W.mg_of X G a3⟩
  have D4 : D K mg "first_codes" s_first_codes ["many", "teeth"] f4 _ := ⟨fun_mk l4 c4 k4, fun us hl => match us, hl with | [_, _], _ => rfl, PySem.W.mg_of X G a4⟩
  have D5 : D K mg "_law_cell" s_law_cell ["_law_script", "_law_k"] f5 _ := ⟨fun_mk l5 c5 k5, fun us hl => match us, hl with | [_, _], _ => rfl, PySem.W.mg_of X G a5⟩
  have D6 : D K mg "_law_all" s_law_all ["_law_teeth"] f6 _ := ⟨fun_mk l6 c6 k6, fun us hl => match us, hl with | [_], _ => rfl, PySem.W.mg_of X G a6⟩
  have D7 : D K mg "_law_told" s_law_told ["_law_many", "_law_teeth"] f7 _ := ⟨fun_mk l7 c7 k7, fun us hl => match us, hl with | [_, _], _ => rfl, PySem.W.mg_of X G a7⟩
  have D8 : D K mg "_law_good" s_law_good ["_law_many", "_law_teeth"] f8 _ := ⟨fun_mk l8 c8 k8, fun us hl => match us, hl with | [_, _], _ => rfl, PySem.W.mg_of X G a8⟩
  have D9 : D K mg "law" s_law ["_law_script"] f9 _ := ⟨fun_mk l9 c9 k9, fun us hl => match us, hl with | [_], _ => rfl, PySem.W.mg_of X G a9⟩
  have F_CasterError : NsF K cd_CasterError.ns none := by rw [cN_CasterError]; exact ⟨⟨_, _, _, _, _, ln_CasterError, by rw [← Array.all_toList]; exact le_CasterError⟩, ni_CasterError⟩
  have F_TooMany : NsF K cd_TooMany.ns none := by rw [cN_TooMany]; exact ⟨⟨_, _, _, _, _, ln_TooMany, by rw [← Array.all_toList]; exact le_TooMany⟩, ni_TooMany⟩
  have TL : PySem.W.tailIn K bmV (.ref c_CasterError :: bmV) = true := tail_mk lk_CasterError F_CasterError
  have X_CasterError := xcls_mk lk_CasterError cm_CasterError cs_CasterError ch_CasterError (by unfold PySem.W.tailIn; rw [Bool.or_eq_true]; exact .inl (beq_self_eq_true _)) F_CasterError
  have Q_CasterError := xq_of (xq_mk q1_CasterError q2_CasterError q3_CasterError q4_CasterError q5_CasterError q6_CasterError q7_CasterError q8_CasterError q9_CasterError)
  have E_CasterError : CN K mg "CasterError" c_CasterError := ⟨PySem.W.mg_of X G ca_CasterError, X_CasterError, Q_CasterError⟩
  have E_NoCase : CL K mg "NoCase" c_NoCase := ⟨PySem.W.mg_of X G ca_NoCase, ci_NoCase, ct_NoCase⟩
  have X_TooMany := xcls_mk lk_TooMany cm_TooMany cs_TooMany ch_TooMany TL F_TooMany
  have Q_TooMany := xq_of (xq_mk q1_TooMany q2_TooMany q3_TooMany q4_TooMany q5_TooMany q6_TooMany q7_TooMany q8_TooMany q9_TooMany)
  have E_TooMany : CN K mg "TooMany" c_TooMany := ⟨PySem.W.mg_of X G ca_TooMany, X_TooMany, Q_TooMany⟩
  have E_Loose : CL K mg "Loose" c_Loose := ⟨PySem.W.mg_of X G ca_Loose, ci_Loose, ct_Loose⟩
  have E_Tight : CL K mg "Tight" c_Tight := ⟨PySem.W.mg_of X G ca_Tight, ci_Tight, ct_Tight⟩
  have E_NoBreak : CL K mg "NoBreak" c_NoBreak := ⟨PySem.W.mg_of X G ca_NoBreak, ci_NoBreak, ct_NoBreak⟩
  have E_NoCopy : CL K mg "NoCopy" c_NoCopy := ⟨PySem.W.mg_of X G ca_NoCopy, ci_NoCopy, ct_NoCopy⟩
  have E_NoKeys : CL K mg "NoKeys" c_NoKeys := ⟨PySem.W.mg_of X G ca_NoKeys, ci_NoKeys, ct_NoKeys⟩
  have E_NoText : CL K mg "NoText" c_NoText := ⟨PySem.W.mg_of X G ca_NoText, ci_NoText, ct_NoText⟩
  have E_NoNumber : CL K mg "NoNumber" c_NoNumber := ⟨PySem.W.mg_of X G ca_NoNumber, ci_NoNumber, ct_NoNumber⟩
  have E_NoRow : CL K mg "NoRow" c_NoRow := ⟨PySem.W.mg_of X G ca_NoRow, ci_NoRow, ct_NoRow⟩
  exact ⟨⟨f0, _, f1, _, f2, _, f3, _, f4, _, f5, _, f6, _, f7, _, f8, _, f9, _, c_CasterError, c_NoCase, c_TooMany, c_Loose, c_Tight, c_NoBreak, c_NoCopy, c_NoKeys, c_NoText, c_NoNumber, c_NoRow⟩, ⟨D0, D1, D2, D3, D4, D5, D6, D7, D8, D9, E_CasterError, E_NoCase, E_TooMany, E_Loose, E_Tight, E_NoBreak, E_NoCopy, E_NoKeys, E_NoText, E_NoNumber, E_NoRow, ⟨b1, b2, b3⟩, m_TooMany_CasterError, m_TooMany_NoCase, m_TooMany_TooMany, m_TooMany_Loose, m_TooMany_Tight, m_TooMany_NoBreak, m_TooMany_NoCopy, m_TooMany_NoKeys, m_TooMany_NoText, m_TooMany_NoNumber, m_TooMany_NoRow, PySem.W.mg_none_of X G z_ValueError, PySem.W.mg_none_of X G z_bool, PySem.W.mg_none_of X G z_int, PySem.W.mg_none_of X G z_isinstance, PySem.W.mg_none_of X G z_len, PySem.W.mg_none_of X G z_list, PySem.W.mg_none_of X G z_range, PySem.W.mg_none_of X G z_sorted, PySem.W.mg_none_of X G z_sum⟩⟩
end
end Lw
open PySem PySem.W PyProof.Rows
set_option maxRecDepth 100000 in
set_option maxHeartbeats 0 in
theorem PySem.Challenge.cw_linecaster_k10_first_codes_holds : PySem.Challenge.rw_linecaster_k10_first_codes.Holds := by
  w_on; o_law; k_head; (case hw => w_witness2)
  k_fill
  refine L2.walk_ofK (l := PySem.Challenge.rw_linecaster_k10_first_codes) (n := 63) (k := Lw.lawLevel) (x := "_law_script") (CX := L2.CX0) (sp := Lw.sp_law) rfl (by decide) rfl ⟨rfl, by decide, by decide⟩ (fun w h Y => PySem.W.kIn_of Y) ?F ?S ?C
  case F =>
    intro w mg fa h KX G hmg
    have T : ∃ a : Lw.Ad, Lw.Tx (L2.KOf KX) mg a := by
      dsimp only [L2.KOf]
      refine' Lw.txt_mk KX G ?a0 ?l0 ?c0 ?k0 ?a1 ?l1 ?c1 ?k1 ?a2 ?l2 ?c2 ?k2 ?a3 ?l3 ?c3 ?k3 ?a4 ?l4 ?c4 ?k4 ?a5 ?l5 ?c5 ?k5 ?a6 ?l6 ?c6 ?k6 ?a7 ?l7 ?c7 ?k7 ?a8 ?l8 ?c8 ?k8 ?a9 ?l9 ?c9 ?k9 ?ca_CasterError ?ca_NoCase ?ci_NoCase ?ct_NoCase ?ca_TooMany ?ca_Loose ?ci_Loose ?ct_Loose ?ca_Tight ?ci_Tight ?ct_Tight ?ca_NoBreak ?ci_NoBreak ?ct_NoBreak ?ca_NoCopy ?ci_NoCopy ?ct_NoCopy ?ca_NoKeys ?ci_NoKeys ?ct_NoKeys ?ca_NoText ?ci_NoText ?ct_NoText ?ca_NoNumber ?ci_NoNumber ?ct_NoNumber ?ca_NoRow ?ci_NoRow ?ct_NoRow ?lk_CasterError ?cN_CasterError ?ln_CasterError ?le_CasterError ?ni_CasterError ?cs_CasterError ?cm_CasterError ?ch_CasterError ?q1_CasterError ?q2_CasterError ?q3_CasterError ?q4_CasterError ?q5_CasterError ?q6_CasterError ?q7_CasterError ?q8_CasterError ?q9_CasterError ?lk_TooMany ?cN_TooMany ?ln_TooMany ?le_TooMany ?ni_TooMany ?cs_TooMany ?cm_TooMany ?ch_TooMany ?q1_TooMany ?q2_TooMany ?q3_TooMany ?q4_TooMany ?q5_TooMany ?q6_TooMany ?q7_TooMany ?q8_TooMany ?q9_TooMany ?b1 ?b2 ?b3 ?m_TooMany_CasterError ?m_TooMany_NoCase ?m_TooMany_TooMany ?m_TooMany_Loose ?m_TooMany_Tight ?m_TooMany_NoBreak ?m_TooMany_NoCopy ?m_TooMany_NoKeys ?m_TooMany_NoText ?m_TooMany_NoNumber ?m_TooMany_NoRow ?z_ValueError ?z_bool ?z_int ?z_isinstance ?z_len ?z_list ?z_range ?z_sorted ?z_sum
      (case a0 => k_is)
      (case l0 => k_is)
      (case c0 => k_is)
      (case k0 => k_is)
      (case a1 => k_is)
      (case l1 => k_is)
      (case c1 => k_is)
      (case k1 => k_is)
      (case a2 => k_is)
      (case l2 => k_is)
      (case c2 => k_is)
      (case k2 => k_is)
      (case a3 => k_is)
      (case l3 => k_is)
      (case c3 => k_is)
      (case k3 => k_is)
      (case a4 => k_is)
      (case l4 => k_is)
      (case c4 => k_is)
      (case k4 => k_is)
      (case a5 => k_is)
      (case l5 => k_is)
      (case c5 => k_is)
      (case k5 => k_is)
      (case a6 => k_is)
      (case l6 => k_is)
      (case c6 => k_is)
      (case k6 => k_is)
      (case a7 => k_is)
      (case l7 => k_is)
      (case c7 => k_is)
      (case k7 => k_is)
      (case a8 => k_is)
      (case l8 => k_is)
      (case c8 => k_is)
      (case k8 => k_is)
      (case a9 => k_is)
      (case l9 => k_is)
      (case c9 => k_is)
      (case k9 => k_is)
      (case ca_CasterError => k_is)
      (case ca_NoCase => k_is)
      (case ci_NoCase => k_is)
      (case ct_NoCase => k_is)
      (case ca_TooMany => k_is)
      (case ca_Loose => k_is)
      (case ci_Loose => k_is)
      (case ct_Loose => k_is)
      (case ca_Tight => k_is)
      (case ci_Tight => k_is)
      (case ct_Tight => k_is)
      (case ca_NoBreak => k_is)
      (case ci_NoBreak => k_is)
      (case ct_NoBreak => k_is)
      (case ca_NoCopy => k_is)
      (case ci_NoCopy => k_is)
      (case ct_NoCopy => k_is)
      (case ca_NoKeys => k_is)
      (case ci_NoKeys => k_is)
      (case ct_NoKeys => k_is)
      (case ca_NoText => k_is)
      (case ci_NoText => k_is)
      (case ct_NoText => k_is)
      (case ca_NoNumber => k_is)
      (case ci_NoNumber => k_is)
      (case ct_NoNumber => k_is)
      (case ca_NoRow => k_is)
      (case ci_NoRow => k_is)
      (case ct_NoRow => k_is)
      (case lk_CasterError => k_is)
      (case cN_CasterError => rfl)
      (case ln_CasterError => k_is)
      (case le_CasterError => rfl)
      (case ni_CasterError => k_is)
      (case cs_CasterError => rfl)
      (case cm_CasterError => rfl)
      (case ch_CasterError => rfl)
      (case q1_CasterError => k_is)
      (case q2_CasterError => k_is)
      (case q3_CasterError => k_is)
      (case q4_CasterError => k_is)
      (case q5_CasterError => k_is)
      (case q6_CasterError => k_is)
      (case q7_CasterError => k_is)
      (case q8_CasterError => k_is)
      (case q9_CasterError => k_is)
      (case lk_TooMany => k_is)
      (case cN_TooMany => rfl)
      (case ln_TooMany => k_is)
      (case le_TooMany => rfl)
      (case ni_TooMany => k_is)
      (case cs_TooMany => rfl)
      (case cm_TooMany => rfl)
      (case ch_TooMany => rfl)
      (case q1_TooMany => k_is)
      (case q2_TooMany => k_is)
      (case q3_TooMany => k_is)
      (case q4_TooMany => k_is)
      (case q5_TooMany => k_is)
      (case q6_TooMany => k_is)
      (case q7_TooMany => k_is)
      (case q8_TooMany => k_is)
      (case q9_TooMany => k_is)
      (case b1 => k_is)
      (case b2 => k_is)
      (case b3 => k_is)
      (case m_TooMany_CasterError => k_is)
      (case m_TooMany_NoCase => k_is)
      (case m_TooMany_TooMany => k_is)
      (case m_TooMany_Loose => k_is)
      (case m_TooMany_Tight => k_is)
      (case m_TooMany_NoBreak => k_is)
      (case m_TooMany_NoCopy => k_is)
      (case m_TooMany_NoKeys => k_is)
      (case m_TooMany_NoText => k_is)
      (case m_TooMany_NoNumber => k_is)
      (case m_TooMany_NoRow => k_is)
      (case z_ValueError => k_is)
      (case z_bool => k_is)
      (case z_int => k_is)
      (case z_isinstance => k_is)
      (case z_len => k_is)
      (case z_list => k_is)
      (case z_range => k_is)
      (case z_sorted => k_is)
      (case z_sum => k_is)
    obtain ⟨a, T⟩ := T
    have e0 := hmg.symm.trans T.law.mg
    cases e0
    exact ⟨_, fun s u => .of_eq (T.law.ba [u] rfl), fun base kb nb => Lw.ok_law T⟩
  case S => exact fun K H a ns hl hO hS => ⟨a, ns, rfl, hS, hl, fun _ => rfl⟩
  case C => exact fun _ _ _ _ z => z
