import PyProof.Rows.All
import Wide.All
import OpenK.AllK
import Wide.FinOn
import Lean
import PyProof.EqAt
import PyProof.EqKinds
import PyProof.TupleCall
import PyProof.P3Eq
import PyProof.NeData
import PyProof.Rows.SortShellK
import PySem.Challenge.RW_linecaster_k54_cases_read_or_not
set_option Elab.async false
set_option linter.all false
set_option maxRecDepth 100000
namespace L2
open PySem PySem.Spec PyProof.Rows
abbrev Key := Sum Int Str
def keyIs : Key → Value → Bool
  | .inl k, v => Value.isInt k v
  | .inr x, v => Value.isStrOf x v
def keyH (w : World) : Key → Int
  | .inl k => hashInt k
  | .inr x => hashStr w x
theorem keyIs_shape : ∀ {k : Key} {v : Value}, keyIs k v = true → (∃ i t, k = Sum.inl i ∧ v = Value.int i t) ∨ (∃ x t, k = Sum.inr x ∧ v = Value.str x t)
  | .inl i, v, h => by
    obtain ⟨t, e⟩ := Value.isInt_shape (k := i) (v := v) h
    exact .inl ⟨i, t, rfl, e⟩
  | .inr x, v, h => by
    obtain ⟨t, e⟩ := Value.isStrOf_shape (x := x) (v := v) h
    exact .inr ⟨x, t, rfl, e⟩
theorem key_ll (a b : Int) : decide ((Sum.inl a : Key) = Sum.inl b) = (a == b) := by
  by_cases e : a = b
  · subst e; simp
  · have h : ¬ (Sum.inl a : Key) = Sum.inl b := fun q => e (Sum.inl.inj q)
    rw [decide_eq_false h]
    exact (beq_eq_false_iff_ne.mpr e).symm
theorem key_rr (a b : Str) : decide ((Sum.inr a : Key) = Sum.inr b) = decide (a = b) := by
  by_cases e : a = b
  · subst e; simp
  · have h : ¬ (Sum.inr a : Key) = Sum.inr b := fun q => e (Sum.inr.inj q)
    rw [decide_eq_false h, decide_eq_false e]
theorem key_lr (a : Int) (b : Str) : decide ((Sum.inl a : Key) = Sum.inr b) = false := decide_eq_false (fun q => nomatch q)
theorem key_rl (a : Str) (b : Int) : decide ((Sum.inr a : Key) = Sum.inl b) = false := decide_eq_false (fun q => nomatch q)
def mixKind (prog : Program) (w : World) : PySem.KeyKind prog w Key where
  is := keyIs
  hash := keyH w
  inj := fun v a b ha hb => by
    rcases keyIs_shape ha with ⟨i, t, rfl, rfl⟩ | ⟨x, t, rfl, rfl⟩
    · rcases keyIs_shape hb with ⟨j, u, rfl, e⟩ | ⟨y, u, rfl, e⟩
      · injection e with e1 _; rw [e1]
      · exact nomatch e
    · rcases keyIs_shape hb with ⟨j, u, rfl, e⟩ | ⟨y, u, rfl, e⟩
      · exact nomatch e
      · injection e with e1 _; rw [e1]
  byValue := fun k v h => by
    rcases keyIs_shape h with ⟨i, t, rfl, rfl⟩ | ⟨x, t, rfl, rfl⟩ <;> rfl
  pyHash := fun hv h => by
    rcases keyIs_shape hv with ⟨i, t, rfl, rfl⟩ | ⟨x, t, rfl, rfl⟩
    · exact wpAny_pyHash_int h
    · exact wpAny_pyHash_str h
  eqBool := fun hu hv h => by
    rcases keyIs_shape hu with ⟨i, t, rfl, rfl⟩ | ⟨x, t, rfl, rfl⟩
    · rcases keyIs_shape hv with ⟨j, u, rfl, rfl⟩ | ⟨y, u, rfl, rfl⟩
      · rw [key_ll] at h; exact wpAny_eqBool_int h
      · rw [key_lr] at h; exact SeqAt.EqAt.int_str i t y u _ _ _ _ h
    · rcases keyIs_shape hv with ⟨j, u, rfl, rfl⟩ | ⟨y, u, rfl, rfl⟩
      · rw [key_rl] at h; exact SeqAt.EqAt.str_int x t j u _ _ _ _ h
      · rw [key_rr] at h; exact wpAny_eqBool_str h
  «strs» := fun k x t v h => by
    rcases keyIs_shape h with ⟨i, u, rfl, e⟩ | ⟨y, u, rfl, e⟩
    · exact nomatch e
    · injection e with e1 _
      subst e1
      cases v <;> rfl
end L2
namespace L2
open PySem PySem.Spec PyProof.Rows
inductive V where
  | non | bl (b : Bool) | int (i : Int) | str (x : Str) | byt (b : Array UInt8) | flt (b : UInt64) | ref (a : Addr) | ty (n : String)
  deriving DecidableEq
def RelV : V → Value → Prop
  | .non, u => u = Value.none
  | .bl b, u => u = Value.bool b
  | .int i, u => ∃ t, u = Value.int i t
  | .str x, u => ∃ t, u = Value.str x t
  | .byt b, u => ∃ t, u = Value.bytes b t
  | .flt b, u => ∃ t, u = Value.float b t
  | .ref a, u => u = Value.ref a
  | .ty n, u => u = Value.type n
abbrev Vals : List V → List Value → Prop := Paired RelV
theorem Vals.length {xs : List V} {us : List Value} (r : Vals xs us) : xs.length = us.length := Paired.length r
theorem Vals.get : ∀ {xs : List V} {us : List Value} {i : Nat} {x : V}, Vals xs us → xs[i]? = some x → ∃ u, us[i]? = some u ∧ RelV x u
  | _, _, _, _, .nil, e => by simp at e
  | _, _, 0, _, .cons r _, e => by simp at e; subst e; exact ⟨_, rfl, r⟩
  | _, _, i + 1, x, .cons _ t, e => by
    obtain ⟨u, h1, h2⟩ := Vals.get (i := i) (x := x) t (by simpa using e)
    exact ⟨u, by simpa using h1, h2⟩
theorem Vals.set {x : V} {u : Value} (r : RelV x u) : ∀ {xs : List V} {us : List Value} (i : Nat), Vals xs us → Vals (xs.set i x) (us.set i u)
  | _, _, _, .nil => .nil
  | _, _, 0, .cons _ t => .cons r t
  | _, _, i + 1, .cons q t => .cons q (Vals.set r i t)
theorem Vals.append : ∀ {xs ys : List V} {us ws : List Value}, Vals xs us → Vals ys ws → Vals (xs ++ ys) (us ++ ws)
  | _, _, _, _, .nil, s => s
  | _, _, _, _, .cons r t, s => .cons r (Vals.append t s)
theorem Vals.take : ∀ {xs : List V} {us : List Value} (n : Nat), Vals xs us → Vals (xs.take n) (us.take n)
  | _, _, 0, _ => .nil
  | _, _, _ + 1, .nil => .nil
  | _, _, n + 1, .cons r t => .cons r (Vals.take n t)
theorem Vals.drop : ∀ {xs : List V} {us : List Value} (n : Nat), Vals xs us → Vals (xs.drop n) (us.drop n)
  | _, _, 0, r => r
  | _, _, _ + 1, .nil => .nil
  | _, _, n + 1, .cons _ t => Vals.drop n t
def RelO : Option V → Option Value → Prop
  | some v, some u => RelV v u
  | none, none => True
  | _, _ => False
def KV {κ : Type} : List (κ × V) → List (κ × Value) → Prop := Paired fun (p : κ × V) (q : κ × Value) => p.1 = q.1 ∧ RelV p.2 q.2
def kV : Key → V
  | .inl i => .int i
  | .inr x => .str x
inductive HO where
  | lst (xs : List V)
  | tup (xs : List V)
  | dK (kvs : List (Key × V)) | dT (kvs : List (List Key × V))
  | set (S : Int → Bool) (n : Nat)
  | ins (C dx : Addr) (fs : List (Str × V))
  | own (x : Addr)
  | xd (fs : List (Str × V))
  | met (f x : Addr)
  | rng (lo hi : Int)
  | frz (o : Obj) (u : HO)
  | tbl (ps : Array Value)
  | ext (φ : Heap → Prop)
abbrev Hp := Addr → Option HO
def upd (H : Hp) (a : Addr) (o : HO) : Hp := fun b => if b = a then some o else H b
theorem upd_same {H : Hp} {a : Addr} {o : HO} : upd H a o a = some o := by unfold upd; rw [if_pos rfl]
theorem upd_ne {H : Hp} {a b : Addr} {o : HO} (h : b ≠ a) : upd H a o b = H b := by unfold upd; rw [if_neg h]
theorem ne_of {H : Hp} {a b : Addr} {o u : HO} (h : H a = some o) (h' : H b = some u) (d : o ≠ u) : a ≠ b := by
  intro e; subst e; rw [h] at h'; exact d (Option.some.inj h')
theorem ne_of_none {H : Hp} {a b : Addr} {o : HO} (h : H a = some o) (h' : H b = none) : a ≠ b := by
  intro e; subst e; rw [h] at h'; cases h'
section
variable (P : Program) (w : World)
def ObjOk (H : Hp) (h : Heap) (a : Addr) : HO → Prop
  | .lst xs => xs.length ≤ sizeLine ∧ ∃ (its : List Value) (n : Nat), Vals xs its ∧ h.get? a = some { cls := .type "list", data := .seq its.toArray n }
  | .tup xs => xs.length ≤ sizeLine ∧ ∃ its : List Value, Vals xs its ∧ IsTup h a its.toArray
  | .dK kvs => kvs.length ≤ sizeLine ∧ (a == sysModules) = false ∧ ∃ vs, KV kvs vs ∧ h.DictOf (mixKind P w) a vs
  | .dT kvs => kvs.length ≤ sizeLine ∧ (a == sysModules) = false ∧ ∃ xs : List (List Key × Addr × Value),
      Paired (fun (p : List Key × V) (q : List Key × Addr × Value) => p.1 = q.1 ∧ H q.2.1 = some (.tup (p.1.map kV)) ∧ RelV p.2 q.2.2) kvs xs ∧
      ∃ o es ep, h.get? a = some o ∧ o.ExactDict ∧ o.data = .dict es ep ∧ es.toList = xs.map (entryOfKey (tupleKind (mixKind P w))) ∧ (xs.map (·.1)).Nodup
  | .set S n => h.SetOf (intKind P w) a S n
  | .ins C dx fs => H dx = some (.own a) ∧ fs.length ≤ 1000 ∧ dx ≠ a ∧ h.get? a = some (PySem.W.instObj C dx) ∧
      ∃ mA, h.Ns1 dx mA ∧ (∀ f, RelO (fs.lookup f) (mA f)) ∧ PySem.Within mA (fs.map (·.1))
  | .own _ => ∃ o, h.get? a = some o
  | .xd fs => ∃ mA, h.Ns1 a mA ∧ ∀ f, RelO (fs.lookup f) (mA f)
  | .rng lo hi => ∃ t u v, h.get? a = some { cls := .type "range", data := .fields #[.int lo t, .int hi u, .int 1 v] }
  | .frz o u => h.get? a = some o ∧ ObjOk H h a u
  | .tbl ps => h.get? a = some { cls := .none, data := .fields ps }
  | .met f x => h.get? a = some (PySem.W.methodObj (.ref f) (.ref x))
  | .ext φ => φ h ∧ (∃ o, h.get? a = some o) ∧ ∀ h1 h2 : Heap, φ h1 → (∀ o, h1.get? a = some o → h2.get? a = some o) → φ h2
def HOk (H : Hp) (h : Heap) : Prop := ∀ a o, H a = some o → ObjOk P w H h a o
end
section
variable {P : Program} {w : World} {H H' : Hp} {h h' : Heap} {a : Addr} {o : HO}
theorem ObjOk.lt (x : ObjOk P w H h a o) : a < h.objs.size := by
  cases o with
  | lst xs => obtain ⟨_, _, _, _, e⟩ := x; exact Heap.lt_size e
  | tup xs => obtain ⟨_, _, _, p⟩ := x; exact p.lt
  | dK kvs => obtain ⟨_, _, _, _, o, _, _, e, _⟩ := x; exact Heap.lt_size e
  | dT kvs => obtain ⟨_, _, _, _, o, _, _, e, _⟩ := x; exact Heap.lt_size e
  | set S n => obtain ⟨o, _, _, _, e, _⟩ := x; exact Heap.lt_size e
  | ins C dx fs => obtain ⟨_, _, _, e, _⟩ := x; exact Heap.lt_size e
  | own y => obtain ⟨_, e⟩ := x; exact Heap.lt_size e
  | xd fs => obtain ⟨_, ⟨_, _, _, e, _⟩, _⟩ := x; exact Heap.lt_size e
  | rng lo hi => obtain ⟨_, _, _, e⟩ := x; exact Heap.lt_size e
  | frz ob u => obtain ⟨e, _⟩ := x; exact Heap.lt_size e
  | tbl ps => exact Heap.lt_size (show h.get? a = some _ from x)
  | met f y => exact Heap.lt_size (show h.get? a = some _ from x)
  | ext φ => obtain ⟨_, ⟨_, e⟩, _⟩ := x; exact Heap.lt_size e
theorem Paired.mapP {α β : Type} {F G : α → β → Prop} : ∀ {l₁ : List α} {l₂ : List β}, Paired F l₁ l₂ → (∀ a b, F a b → G a b) → Paired G l₁ l₂
  | _, _, .nil, _ => .nil
  | _, _, .cons r t, f => .cons (f _ _ r) (Paired.mapP t f)
theorem ObjOk.stay (x : ObjOk P w H h a o) (k : ∀ b u, (b = a ∨ H b = some (.own a)) → h.get? b = some u → h'.get? b = some u)
    (ho : ∀ b, H b = some (.own a) → H' b = some (.own a)) (ht : ∀ b xs, H b = some (.tup xs) → H' b = some (.tup xs)) : ObjOk P w H' h' a o := by
  induction o with
  | lst xs => obtain ⟨z, its, n, r, e⟩ := x; exact ⟨z, its, n, r, k _ _ (.inl rfl) e⟩
  | tup xs => obtain ⟨z, its, r, ob, e, c⟩ := x; exact ⟨z, its, r, ob, k _ _ (.inl rfl) e, c⟩
  | dK kvs => obtain ⟨z, y, vs, r, ob, es, ep, e, c⟩ := x; exact ⟨z, y, vs, r, ob, es, ep, k _ _ (.inl rfl) e, c⟩
  | dT kvs =>
    obtain ⟨z, y, xs, r, ob, es, ep, e, c⟩ := x
    exact ⟨z, y, xs, Paired.mapP r fun p q z => ⟨z.1, ht _ _ z.2.1, z.2.2⟩, ob, es, ep, k _ _ (.inl rfl) e, c⟩
  | set S n => obtain ⟨ob, es, ep, t, e, c⟩ := x; exact ⟨ob, es, ep, t, k _ _ (.inl rfl) e, c⟩
  | ins C dx fs =>
    obtain ⟨d, z, ne, e, mA, ⟨od, es, ep, e2, c⟩, r⟩ := x
    exact ⟨ho _ d, z, ne, k _ _ (.inl rfl) e, mA, ⟨od, es, ep, k _ _ (.inr d) e2, c⟩, r⟩
  | own y => obtain ⟨ob, e⟩ := x; exact ⟨ob, k _ _ (.inl rfl) e⟩
  | xd fs => obtain ⟨mA, ⟨od, es, ep, e, c⟩, r⟩ := x; exact ⟨mA, ⟨od, es, ep, k _ _ (.inl rfl) e, c⟩, r⟩
  | rng lo hi => obtain ⟨t, u, v, e⟩ := x; exact ⟨t, u, v, k _ _ (.inl rfl) e⟩
  | frz ob u ih => obtain ⟨e, q⟩ := x; exact ⟨k _ _ (.inl rfl) e, ih q⟩
  | tbl ps =>
    have e : h.get? a = some { cls := .none, data := .fields ps } := x
    show h'.get? a = some { cls := .none, data := .fields ps }
    exact k a _ (.inl rfl) e
  | met f y =>
    have e : h.get? a = some (PySem.W.methodObj (.ref f) (.ref y)) := x
    show h'.get? a = some (PySem.W.methodObj (.ref f) (.ref y))
    exact k a _ (.inl rfl) e
  | ext φ => obtain ⟨p, ⟨o, e⟩, st⟩ := x; exact ⟨st _ _ p fun o q => k _ _ (.inl rfl) q, ⟨o, k _ _ (.inl rfl) e⟩, st⟩
theorem HOk.lt (x : HOk P w H h) (e : H a = some o) : a < h.objs.size := (x a o e).lt
theorem HOk.fresh (x : HOk P w H h) (e : h.objs.size ≤ a) : H a = none := by
  cases q : H a with
  | none => rfl
  | some u => exact absurd (Nat.lt_of_lt_of_le (x.lt q) e) (Nat.lt_irrefl _)
theorem HOk.kept (x : HOk P w H h) (k : ∀ b u, h.get? b = some u → h'.get? b = some u) : HOk P w H h' := fun a o e =>
  (x a o e).stay (fun b u _ q => k b u q) (fun _ q => q) fun _ _ q => q
theorem HOk.laid (x : HOk P w H h) (k : ∀ b u, h.get? b = some u → h'.get? b = some u) (hp : h.objs.size ≤ a) (new : ObjOk P w (upd H a o) h' a o) : HOk P w (upd H a o) h' := fun b u e => by
  have hn := x.fresh hp
  by_cases hb : b = a
  · subst hb; rw [upd_same] at e; cases e; exact new
  · rw [upd_ne hb] at e
    exact (x b u e).stay (fun c v _ q => k c v q) (fun c q => by rw [upd_ne (ne_of_none q hn)]; exact q) fun c xs q => by rw [upd_ne (ne_of_none q hn)]; exact q
end
def Rd (H : Hp) (a : Addr) (u : HO) : Prop := H a = some u ∨ ∃ o, H a = some (.frz o u)
theorem Rd.of {H : Hp} {a : Addr} {u : HO} (h : H a = some u) : Rd H a u := .inl h
theorem Rd.ok {P : Program} {w : World} {H : Hp} {h : Heap} {a : Addr} {u : HO} (r : Rd H a u) (x : HOk P w H h) : ObjOk P w H h a u := by
  rcases r with r | ⟨o, r⟩
  · exact x a u r
  · obtain ⟨_, q⟩ := x a _ r
    exact q
def Mut : Option HO → Prop
  | some (.lst _) => True
  | some (.dK _) => True
  | some (.dT _) => True
  | some (.set _ _) => True
  | some (.ins _ _ _) => True
  | some (.ext _) => True
  | _ => False
section
variable {P : Program} {w : World} {H : Hp} {h h' : Heap} {x e : Addr} {o' : HO}
theorem HOk.write (ok : HOk P w H h) (mu : Mut (H x)) (he : e = x ∨ H e = some (.own x)) (k : ∀ b u, b ≠ e → h.get? b = some u → h'.get? b = some u) (heo : ∃ u, h'.get? e = some u)
    (new : ObjOk P w (upd H x o') h' x o') : HOk P w (upd H x o') h' := fun b u q => by
  have nown : ∀ c y, H c = some (.own y) → c ≠ x := fun c y r z => by subst z; rw [r] at mu; exact mu
  have ntup : ∀ c xs, H c = some (.tup xs) → c ≠ x := fun c xs r z => by subst z; rw [r] at mu; exact mu
  by_cases hb : b = x
  · subst hb; rw [upd_same] at q; cases q; exact new
  · rw [upd_ne hb] at q
    by_cases hbe : b = e
    · have q' : H b = some (.own x) := by
        rcases he with z | z
        · exact absurd (hbe.trans z) hb
        · rw [hbe]; exact z
      rw [q] at q'; cases q'
      obtain ⟨v, hv⟩ := heo
      exact ⟨v, by rw [hbe]; exact hv⟩
    · refine (ok b u q).stay (fun c v hc r => k c v ?_ r) (fun c r => by rw [upd_ne (nown c b r)]; exact r) fun c xs r => by rw [upd_ne (ntup c xs r)]; exact r
      rcases hc with rfl | hc
      · exact hbe
      · rintro rfl
        rcases he with z | z
        · exact nown c b hc z
        · rw [hc] at z; cases z; exact hb rfl
end
structure Un (fs ex : List Addr) (H H' : Hp) (h h' : Heap) : Prop where
  keep : ∀ b o, h.get? b = some o → H b = none → b ∉ fs → b ∉ ex → h'.get? b = some o
  slot : ∀ b o, h.get? b = some o → H b = none → b ∈ fs → b ∉ ex → ∃ sl, h'.get? b = some { o with slots := sl }
  free : ∀ b o, h.get? b = some o → H b = none → b ∉ ex → H' b = none
  there : ∀ b o, h.get? b = some o → b ∉ ex → ∃ o', h'.get? b = some o'
  tups : ∀ b xs, H b = some (.tup xs) → H' b = some (.tup xs)
  frzs : ∀ b o u, H b = some (.frz o u) → H' b = some (.frz o u)
  tbls : ∀ b ps, H b = some (.tbl ps) → ∃ more, H' b = some (.tbl (ps ++ more))
section
variable {fs fs' ex ex' : List Addr} {H H1 H2 : Hp} {h h1 h2 h' : Heap} {a x e : Addr} {o : HO}
theorem Un.any (u : Un fs ex H H1 h h1) {b : Addr} {ob : Obj} (q : h.get? b = some ob) (n : H b = none) (hx : b ∉ ex) : ∃ sl, h1.get? b = some { ob with slots := sl } := by
  by_cases hb : b ∈ fs
  · exact u.slot b ob q n hb hx
  · exact ⟨ob.slots, u.keep b ob q n hb hx⟩
theorem Un.trans (a : Un fs ex H H1 h h1) (b : Un fs ex H1 H2 h1 h2) : Un fs ex H H2 h h2 where
  keep := fun c ob q n hc hx => b.keep c ob (a.keep c ob q n hc hx) (a.free c ob q n hx) hc hx
  slot := fun c ob q n hc hx => by
    obtain ⟨sl, e1⟩ := a.slot c ob q n hc hx
    obtain ⟨sl', e2⟩ := b.slot c _ e1 (a.free c ob q n hx) hc hx
    exact ⟨sl', e2⟩
  free := fun c ob q n hx => by
    obtain ⟨o', e1⟩ := a.there c ob q hx
    exact b.free c o' e1 (a.free c ob q n hx) hx
  there := fun c ob q hx => by
    obtain ⟨o', e1⟩ := a.there c ob q hx
    exact b.there c o' e1 hx
  tups := fun c xs q => b.tups c xs (a.tups c xs q)
  frzs := fun c ob xs q => b.frzs c ob xs (a.frzs c ob xs q)
  tbls := fun c ps q => by
    obtain ⟨m1, e1⟩ := a.tbls c ps q
    obtain ⟨m2, e2⟩ := b.tbls c _ e1
    exact ⟨m1 ++ m2, by rw [e2, Array.append_assoc]⟩
theorem Un.kept (k : ∀ b u, h.get? b = some u → h'.get? b = some u) : Un fs ex H H h h' :=
  ⟨fun b ob q _ _ _ => k b ob q, fun b ob q _ _ _ => ⟨ob.slots, k b ob q⟩, fun _ _ _ n _ => n, fun b ob q _ => ⟨ob, k b ob q⟩, fun _ _ q => q, fun _ _ _ q => q, fun _ ps q => ⟨#[], by rw [q]; simp⟩⟩
theorem Un.refl : Un fs ex H H h h := Un.kept fun _ _ q => q
theorem Un.laid (k : ∀ b u, h.get? b = some u → h'.get? b = some u) (hp : h.objs.size ≤ a) (hn : H a = none) : Un fs ex H (upd H a o) h h' where
  keep := fun b u q _ _ _ => k b u q
  slot := fun b u q _ _ _ => ⟨u.slots, k b u q⟩
  free := fun b u q n _ => by rw [upd_ne (Nat.ne_of_lt (Nat.lt_of_lt_of_le (Heap.lt_size q) hp))]; exact n
  there := fun b u q _ => ⟨u, k b u q⟩
  tups := fun b xs q => by rw [upd_ne (ne_of_none q hn)]; exact q
  frzs := fun b u xs q => by rw [upd_ne (ne_of_none q hn)]; exact q
  tbls := fun b ps q => ⟨#[], by rw [upd_ne (ne_of_none q hn), q]; simp⟩
theorem Un.write (mu : Mut (H x)) (he : e = x ∨ H e = some (.own x)) (k : ∀ b u, b ≠ e → h.get? b = some u → h'.get? b = some u) (heo : ∃ u, h'.get? e = some u) : Un fs ex H (upd H x o) h h' := by
  have hx : ∀ b, H b = none → b ≠ x := fun b n z => by subst z; rw [n] at mu; exact mu
  have hb : ∀ b, H b = none → b ≠ e := fun b n z => by
    subst z
    rcases he with r | r
    · exact hx b n r
    · rw [n] at r; cases r
  have hm : ∀ b u, H b = some u → ¬ Mut (some u) → b ≠ x := fun b u q nm z => by subst z; rw [q] at mu; exact nm mu
  refine ⟨fun b u q n _ _ => k b u (hb b n) q, fun b u q n _ _ => ⟨u.slots, k b u (hb b n) q⟩, fun b u q n _ => by rw [upd_ne (hx b n)]; exact n, fun b u q _ => ?_,
    fun b xs q => by rw [upd_ne (hm b _ q fun z => z)]; exact q, fun b u xs q => by rw [upd_ne (hm b _ q fun z => z)]; exact q, fun b ps q => ⟨#[], by rw [upd_ne (hm b _ q fun z => z), q]; simp⟩⟩
  by_cases hbe : b = e
  · subst hbe; exact heo
  · exact ⟨u, k b u hbe q⟩
end
def trk (h : Heap) (H : Hp) : List Addr := (List.range h.objs.size).filter fun a => (H a).isSome
def hidT (h : Heap) (H : Hp) : Heap := PySem.W.hideAll h (trk h H)
theorem hidT_size (h : Heap) (H : Hp) : (hidT h H).objs.size = h.objs.size := PySem.W.hideAll_size _ _
theorem hidT_get {h : Heap} {H : Hp} {b : Addr} {o : Obj} (e : h.get? b = some o) (n : H b = none) : (hidT h H).get? b = some o :=
  PySem.W.hideAll_get _ e fun hm => by
    have q : (H b).isSome = true := (List.mem_filter.mp hm).2
    rw [n] at q; simp at q
theorem of_hidT {h : Heap} {H : Hp} {b : Addr} {o : Obj} (e : (hidT h H).get? b = some o) : h.get? b = some o ∧ H b = none := by
  have e' : h.get? b = some o := PySem.W.of_hideAll (trk h H) e
  refine ⟨e', ?_⟩
  cases q : H b with
  | none => rfl
  | some x =>
    have hm : b ∈ trk h H := List.mem_filter.mpr ⟨List.mem_range.mpr (Heap.lt_size e'), by simp [q]⟩
    have z : (hidT h H).get? b = none := PySem.W.hideAll_none (trk h H) hm
    rw [z] at e; cases e
def allNews (g h : Heap) (L : Addr) : List (Addr × Obj) := (List.range h.objs.size).filterMap fun a => if a = L ∨ (g.get? a).isSome = true then none else (h.get? a).map fun o => (a, o)
def rest (g h : Heap) (L d : Addr) : List (Addr × Obj) := (allNews g h L).filter fun p => decide (p.1 ≠ d)
end L2
namespace L2
open PySem PySem.Spec PyProof.Rows
structure Mod (K : PySem.W.Frag) (mg : Str → Option Value) (base : Heap) : Prop where
  kin : K.In base
  glob : base.Ns mainGlobals mg
  blt : ∃ mb, base.Ns builtinsNs mb ∧ ∀ x : Str, x ≠ "__name__" → mb x = bootBuiltins x
  nolimit : base.NoLimit
structure Cx where
  prog : Program
  w : World
  K : PySem.W.Frag
  mg : Str → Option Value
  base : Heap
  A : Around
  N : List Str
  s₀ : Shared
  H₀ : Hp
  env : Env
  outer : List Env
  stack : List Env
  ex : List Addr
  fn : Str → Bool
  calm : Bool
  pn : List (Addr × Obj)
  xe : Value → Shared → Prop
def frs (l : List Env) : List Addr := l.filterMap (·.frame)
abbrev Cx.fs (X : Cx) : List Addr := frs X.outer
def Vis (sc : Scope) (x : Str) : Prop := sc.names.lookup x = some .local ∨ sc.names.lookup x = some .cell ∨ sc.names.lookup x = some .free
def Loc (sc : Scope) (x : Str) : Prop := sc.names.lookup x = some .local ∨ sc.names.lookup x = some .cell
def Look (env : Env) (h : Heap) (m : Str → Option Value) (x : Str) (u : Value) : Prop :=
  (env.kindOf x = some .local ∧ m x = some u) ∨ ((env.kindOf x = some .cell ∨ env.kindOf x = some .free) ∧ ∃ c, env.cells.lookup x = some c ∧ h.IsCell c (some u))
structure Cx.Ok (X : Cx) : Prop where
  mod : Mod X.K X.mg X.base
  kind : X.env.scope.kind = .function
  glob : X.env.globals = mainGlobals
  blt : X.env.builtins = builtinsNs
  above : X.s₀.heap.objs.size ≤ X.env.locals
  inj : ∀ x y c, X.env.cells.lookup x = some c → X.env.cells.lookup y = some c → x = y
  has : ∀ x, (X.env.kindOf x = some .cell ∨ X.env.kindOf x = some .free) → ∃ c, X.env.cells.lookup x = some c
  cab : ∀ x c, X.fn x = true → X.env.cells.lookup x = some c → X.s₀.heap.objs.size ≤ c
  hd : X.calm = true → X.A.handled = none
  frames : X.A.frames = some X.stack
  stk : X.stack = X.outer ∨ (X.stack = X.env :: X.outer ∧ X.env.frame = some X.env.locals)
  exf : ∀ b ∈ X.ex, b ≠ X.env.locals ∧ ∀ x c, X.env.cells.lookup x = some c → c ≠ b
  bs : ∀ b o, X.base.get? b = some o → X.s₀.heap.get? b = some o ∧ X.H₀ b = none
  bsz : X.base.objs.size ≤ X.s₀.heap.objs.size
  noex : ∀ b o, X.base.get? b = some o → b ∉ X.ex
  exfs : ∀ b ∈ X.ex, b ∉ X.fs
  funs : X.s₀.heap.FunFrames X.base X.outer
  frf : ∀ b ∈ X.fs, X.H₀ b = none
structure Inv (X : Cx) (pins : List (Addr × Obj)) (σ : List (Option V)) (H : Hp) (s : Shared) : Prop where
  ok : X.Ok
  os : s.os = X.s₀.os
  bare : AllBare s.gens
  base : Un X.fs X.ex X.H₀ H X.s₀.heap s.heap
  loc : ∃ m, s.heap.Ns X.env.locals m ∧ ∀ (i : Nat) (x : Str) (v : V), X.N[i]? = some x → σ[i]? = some (some v) → Vis X.env.scope x → ∃ u, RelV v u ∧ Look X.env s.heap m x u
  cell : ∀ x c, X.env.cells.lookup x = some c → ∃ v, s.heap.IsCell c v
  free : H X.env.locals = none
  freeC : ∀ x c, X.env.cells.lookup x = some c → H c = none
  pin : ∀ p ∈ X.pn ++ pins, s.heap.get? p.1 = some p.2 ∧ H p.1 = none ∧ p.1 ≠ X.env.locals ∧ p.1 ∉ X.fs ∧ ∀ v, p.2.data ≠ .cell v
  hok : HOk X.prog X.w H s.heap
  len : σ.length = X.N.length
section
variable {X : Cx} {pins : List (Addr × Obj)} {σ : List (Option V)} {H H' : Hp} {s : Shared} {h' : Heap}
theorem Cx.Ok.nofr (ok : X.Ok) {b : Addr} {o : Obj} (e : X.base.get? b = some o) : b ∉ X.fs := fun hb => by
  have := (ok.funs.mem hb).1
  rw [e] at this; cases this
theorem Inv.bs (I : Inv X pins σ H s) : ∀ b o, X.base.get? b = some o → s.heap.get? b = some o ∧ H b = none := fun b o e =>
  ⟨I.base.keep b o (I.ok.bs b o e).1 (I.ok.bs b o e).2 (I.ok.nofr e) (I.ok.noex b o e), I.base.free b o (I.ok.bs b o e).1 (I.ok.bs b o e).2 (I.ok.noex b o e)⟩
theorem Inv.bk (I : Inv X pins σ H s) : ∀ b o, X.base.get? b = some o → s.heap.get? b = some o := fun b o e => (I.bs b o e).1
theorem Inv.mod (I : Inv X pins σ H s) : Mod X.K X.mg X.base := I.ok.mod
theorem Inv.kIn (I : Inv X pins σ H s) : X.K.In s.heap := I.ok.mod.kin.keeps I.bk
theorem Inv.nolimit (I : Inv X pins σ H s) : s.heap.NoLimit := I.ok.mod.nolimit.keeps I.bk
theorem Inv.fr (I : Inv X pins σ H s) : ∃ m, Fr X.base X.env.locals s.heap m :=
  let ⟨m, hn, _⟩ := I.loc
  ⟨m, hn, I.bk, Nat.le_trans I.ok.bsz I.ok.above⟩
theorem Inv.lt (I : Inv X pins σ H s) : X.env.locals < s.heap.objs.size := let ⟨_, hn, _⟩ := I.loc; hn.lt
theorem Inv.sz (I : Inv X pins σ H s) : X.s₀.heap.objs.size ≤ s.heap.objs.size := Nat.le_trans I.ok.above (Nat.le_of_lt I.lt)
theorem Inv.nofs (I : Inv X pins σ H s) {a : Addr} (h : s.heap.objs.size ≤ a) : a ∉ X.fs := fun hb => by
  obtain ⟨_, o, ho, _⟩ := I.ok.funs.mem hb
  exact absurd (Nat.lt_of_lt_of_le (Heap.lt_size ho) (Nat.le_trans I.sz h)) (Nat.lt_irrefl _)
theorem Inv.cne (I : Inv X pins σ H s) : ∀ x c, X.env.cells.lookup x = some c → c ≠ X.env.locals := fun x c e z => by
  obtain ⟨v, o, ho, hd⟩ := I.cell x c e
  obtain ⟨m, ⟨o', es, ep, ho', hd', _⟩, _⟩ := I.loc
  rw [z, ho'] at ho; cases ho; rw [hd'] at hd; cases hd
theorem Inv.funs (I : Inv X pins σ H s) : s.heap.FunFrames X.base X.outer := by
  have all : ∀ (l : List Env), (∀ b ∈ frs l, b ∈ X.fs) → X.s₀.heap.FunFrames X.base l → s.heap.FunFrames X.base l := by
    intro l
    induction l with
    | nil => intro _ _; trivial
    | cons env r ih =>
      intro hs hl
      obtain ⟨hk, ⟨L, o, hf, hn, ho, hd⟩, hr⟩ := hl
      have hL : L ∈ X.fs := hs L (by unfold frs; rw [List.filterMap_cons, hf]; exact List.mem_cons_self)
      obtain ⟨sl, e⟩ := I.base.slot L o ho (I.ok.frf L hL) hL fun z => I.ok.exfs L z hL
      exact ⟨hk, ⟨L, _, hf, hn, e, hd⟩, ih (fun b hb => hs b (by unfold frs; rw [List.filterMap_cons, hf]; exact List.mem_cons_of_mem _ hb)) hr⟩
  exact all X.outer (fun _ hb => hb) I.ok.funs
theorem Inv.stack (I : Inv X pins σ H s) : s.heap.FunFrames X.base X.stack := by
  rcases I.ok.stk with e | ⟨e, hf⟩
  · rw [e]; exact I.funs
  · rw [e]
    obtain ⟨m, hn, _⟩ := I.loc
    refine .cons (by rw [I.ok.kind]; decide) hf hn ?_ I.funs
    exact Heap.get?_none_of_le (Nat.le_trans I.ok.bsz I.ok.above)
theorem Inv.stkSub (I : Inv X pins σ H s) : ∀ b ∈ frs X.stack, b ∈ X.env.locals :: X.fs := fun b hb => by
  rcases I.ok.stk with e | ⟨e, hf⟩
  · rw [e] at hb; exact List.mem_cons_of_mem _ hb
  · rw [e] at hb
    unfold frs at hb
    rw [List.filterMap_cons, hf] at hb
    exact hb
theorem Inv.stkFree (I : Inv X pins σ H s) : ∀ b ∈ frs X.stack, H b = none := fun b hb => by
  rcases List.mem_cons.mp (I.stkSub b hb) with e | hb
  · rw [e]; exact I.free
  · obtain ⟨_, o, ho, _⟩ := I.ok.funs.mem hb
    exact I.base.free b o ho (I.ok.frf b hb) fun z => I.ok.exfs b z hb
theorem Inv.step {g' : Array GenState} {t' : Nat} {d' : Drawn} {ch : List Addr} (I : Inv X pins σ H s)
    (hch : ∀ b ∈ ch, (b ∈ X.ex ∨ X.s₀.heap.objs.size ≤ b) ∧ b ≠ X.env.locals ∧ (∀ x c, X.env.cells.lookup x = some c → c ≠ b) ∧ ∀ p ∈ X.pn ++ pins, p.1 ≠ b)
    (keep : ∀ b o, b ≠ X.env.locals → b ∉ X.fs → b ∉ ch → s.heap.get? b = some o → H b = none → h'.get? b = some o)
    (slot : ∀ b o, b ≠ X.env.locals → b ∈ X.fs → b ∉ ch → s.heap.get? b = some o → H b = none → ∃ sl, h'.get? b = some { o with slots := sl }) (free : ∀ b o, b ∉ ch → s.heap.get? b = some o → H b = none → H' b = none)
    (there : ∀ b o, b ∉ ch → s.heap.get? b = some o → ∃ o', h'.get? b = some o')
    (tups : ∀ b xs, H b = some (.tup xs) → H' b = some (.tup xs)) (frzs : ∀ b o u, H b = some (.frz o u) → H' b = some (.frz o u)) (tbls : ∀ b ps, H b = some (.tbl ps) → ∃ more, H' b = some (.tbl (ps ++ more)))
    (ns : ∀ m, s.heap.Ns X.env.locals m → h'.Ns X.env.locals m) (hok : HOk X.prog X.w H' h') (hg : AllBare g') :
    Inv X pins σ H' { s with heap := h', gens := g', drawn := d', toks := t' } := by
  have neL : ∀ b o, X.s₀.heap.get? b = some o → b ≠ X.env.locals := fun b o e => Nat.ne_of_lt (Nat.lt_of_lt_of_le (Heap.lt_size e) I.ok.above)
  have neC : ∀ b o, X.s₀.heap.get? b = some o → b ∉ X.ex → b ∉ ch := fun b o e hx hb => by
    rcases (hch b hb).1 with z | z
    · exact hx z
    · exact absurd (Nat.lt_of_lt_of_le (Heap.lt_size e) z) (Nat.lt_irrefl _)
  have cellK : ∀ x c, X.env.cells.lookup x = some c → ∀ v, s.heap.IsCell c v → h'.IsCell c v := fun x c e v ⟨o, ho, hd⟩ => by
    have nch : c ∉ ch := fun z => (hch c z).2.2.1 x c e rfl
    by_cases hc : c ∈ X.fs
    · obtain ⟨sl, q⟩ := slot c o (I.cne x c e) hc nch ho (I.freeC x c e)
      exact ⟨_, q, hd⟩
    · exact ⟨o, keep c o (I.cne x c e) hc nch ho (I.freeC x c e), hd⟩
  refine ⟨I.ok, I.os, hg, ⟨fun b o e n hb hx => ?_, fun b o e n hb hx => ?_, fun b o e n hx => ?_, fun b o e hx => ?_, fun b xs e => tups b xs (I.base.tups b xs e), fun b o xs e => frzs b o xs (I.base.frzs b o xs e), fun b ps e => ?_⟩, ?_, fun x c e => ?_, ?_, fun x c e => ?_, fun p hp => ?_, hok, I.len⟩
  · exact keep b o (neL b o e) hb (neC b o e hx) (I.base.keep b o e n hb hx) (I.base.free b o e n hx)
  · obtain ⟨sl, e1⟩ := I.base.slot b o e n hb hx
    obtain ⟨sl', e2⟩ := slot b _ (neL b o e) hb (neC b o e hx) e1 (I.base.free b o e n hx)
    exact ⟨sl', e2⟩
  · obtain ⟨o', e1⟩ := I.base.there b o e hx
    exact free b o' (neC b o e hx) e1 (I.base.free b o e n hx)
  · obtain ⟨o', e1⟩ := I.base.there b o e hx
    exact there b o' (neC b o e hx) e1
  · obtain ⟨m1, e1⟩ := I.base.tbls b ps e
    obtain ⟨m2, e2⟩ := tbls b _ e1
    exact ⟨m1 ++ m2, by rw [e2, Array.append_assoc]⟩
  · obtain ⟨m, hn, hl⟩ := I.loc
    refine ⟨m, ns m hn, fun i x v e1 e2 e3 => ?_⟩
    obtain ⟨u, r, l⟩ := hl i x v e1 e2 e3
    refine ⟨u, r, ?_⟩
    rcases l with l | ⟨k, c, e, z⟩
    · exact .inl l
    · exact .inr ⟨k, c, e, cellK x c e _ z⟩
  · obtain ⟨v, z⟩ := I.cell x c e
    exact ⟨v, cellK x c e v z⟩
  · obtain ⟨m, ⟨o, _, _, ho, _⟩, _⟩ := I.loc
    exact free _ o (fun z => (hch _ z).2.1 rfl) ho I.free
  · obtain ⟨v, o, ho, hd⟩ := I.cell x c e
    exact free c o (fun z => (hch c z).2.2.1 x c e rfl) ho (I.freeC x c e)
  · obtain ⟨e, n, ne, nf, d⟩ := I.pin p hp
    have nch : p.1 ∉ ch := fun z => (hch p.1 z).2.2.2 p hp rfl
    exact ⟨keep p.1 p.2 ne nf nch e n, free p.1 p.2 nch e n, ne, nf, d⟩
theorem Inv.un {t' : Nat} (I : Inv X pins σ H s) (u : Un X.fs [] H H' s.heap h') (hok : HOk X.prog X.w H' h') : Inv X pins σ H' { s with heap := h', toks := t' } := by
  obtain ⟨m, ⟨o, es, ep, ho, r⟩, _⟩ := id I.loc
  obtain ⟨sl, hL⟩ := u.any ho I.free (by simp)
  exact I.step (g' := s.gens) (d' := s.drawn) (ch := []) (fun _ z => nomatch z) (fun b o _ hb _ e n => u.keep b o e n hb (by simp)) (fun b o _ hb _ e n => u.slot b o e n hb (by simp)) (fun b o _ e n => u.free b o e n (by simp)) (fun b o _ e => u.there b o e (by simp)) u.tups u.frzs u.tbls (fun m' hm => by
    obtain ⟨o', es', ep', ho', r'⟩ := hm
    rw [ho] at ho'; cases ho'
    exact ⟨_, es', ep', hL, r'⟩) hok I.bare
theorem Inv.call {g' : Array GenState} {t' : Nat} {d' : Drawn} {ch : List Addr} (I : Inv X pins σ H s) (u : Un (frs X.stack) ch H H' s.heap h') (hok : HOk X.prog X.w H' h') (hg : AllBare g')
    (hch : ∀ b ∈ ch, (b ∈ X.ex ∨ X.s₀.heap.objs.size ≤ b) ∧ b ≠ X.env.locals ∧ (∀ x c, X.env.cells.lookup x = some c → c ≠ b) ∧ ∀ p ∈ X.pn ++ pins, p.1 ≠ b) :
    Inv X pins σ H' { s with heap := h', gens := g', drawn := d', toks := t' } := by
  obtain ⟨m, ⟨o, es, ep, ho, r⟩, _⟩ := id I.loc
  obtain ⟨sl, hL⟩ := u.any ho I.free fun z => (hch _ z).2.1 rfl
  exact I.step (ch := ch) hch (fun b o hL hb hc e n => u.keep b o e n (fun z => (List.mem_cons.mp (I.stkSub b z)).elim hL hb) hc) (fun b o _ _ hc e n => u.any e n hc) (fun b o hc e n => u.free b o e n hc) (fun b o hc e => u.there b o e hc) u.tups u.frzs u.tbls (fun m' hm => by
    obtain ⟨o', es', ep', ho', r'⟩ := hm
    rw [ho] at ho'; cases ho'
    exact ⟨_, es', ep', hL, r'⟩) hok hg
theorem Inv.turned {t' : Nat} {it : Addr} (I : Inv X pins σ H s) (k : ∀ b o, b ≠ it → s.heap.get? b = some o → h'.get? b = some o) (hn : H it = none) (hL : it ≠ X.env.locals)
    (h1 : it ∈ X.ex ∨ X.s₀.heap.objs.size ≤ it) (h2 : ∀ x c, X.env.cells.lookup x = some c → c ≠ it) (h3 : ∀ p ∈ X.pn ++ pins, p.1 ≠ it) : Inv X pins σ H { s with heap := h', toks := t' } := by
  have nit : ∀ b u, H b = some u → b ≠ it := fun b u e z => by rw [z, hn] at e; cases e
  refine I.step (g' := s.gens) (d' := s.drawn) (ch := [it]) (fun b hb => ?_) (fun b o _ _ hc e _ => k b o (fun z => hc (by simp [z])) e) (fun b o _ _ hc e _ => ⟨o.slots, k b o (fun z => hc (by simp [z])) e⟩) (fun _ _ _ _ n => n)
    (fun b o hc e => ⟨o, k b o (fun z => hc (by simp [z])) e⟩) (fun _ _ e => e) (fun _ _ _ e => e) (fun b ps e => ⟨#[], by rw [e]; simp⟩) (fun m hm => ?_) (fun b u e => ?_) I.bare
  · have e : b = it := by simpa using hb
    subst e
    exact ⟨h1, hL, h2, h3⟩
  · obtain ⟨o, es, ep, ho, r⟩ := hm
    exact ⟨o, es, ep, k _ o (Ne.symm hL) ho, r⟩
  · refine (I.hok b u e).stay (fun c v hc q => k c v ?_ q) (fun _ q => q) fun _ _ q => q
    rcases hc with z | z
    · rw [z]; exact nit b u e
    · exact nit c _ z
theorem Inv.tok (I : Inv X pins σ H s) (t : Nat) : Inv X pins σ H { s with toks := t } := I.un (h' := s.heap) (t' := t) Un.refl I.hok
theorem Inv.kept {t' : Nat} (I : Inv X pins σ H s) (k : ∀ b u, s.heap.get? b = some u → h'.get? b = some u) : Inv X pins σ H { s with heap := h', toks := t' } := I.un (Un.kept k) (I.hok.kept k)
theorem Inv.laid {a : Addr} {o : HO} {t' : Nat} (I : Inv X pins σ H s) (k : ∀ b u, s.heap.get? b = some u → h'.get? b = some u) (hp : s.heap.objs.size ≤ a) (new : ObjOk X.prog X.w (upd H a o) h' a o) :
    Inv X pins σ (upd H a o) { s with heap := h', toks := t' } := I.un (Un.laid k hp (I.hok.fresh hp)) (I.hok.laid k hp new)
theorem Inv.write {x e : Addr} {o : HO} {t' : Nat} (I : Inv X pins σ H s) (mu : Mut (H x)) (he : e = x ∨ H e = some (.own x)) (k : ∀ b u, b ≠ e → s.heap.get? b = some u → h'.get? b = some u) (heo : ∃ u, h'.get? e = some u)
    (new : ObjOk X.prog X.w (upd H x o) h' x o) : Inv X pins σ (upd H x o) { s with heap := h', toks := t' } := I.un (Un.write mu he k heo) (I.hok.write mu he k heo new)
theorem Inv.pins_of {pins' : List (Addr × Obj)} (I : Inv X pins σ H s) (h : ∀ p ∈ pins', s.heap.get? p.1 = some p.2 ∧ H p.1 = none ∧ p.1 ≠ X.env.locals ∧ p.1 ∉ X.fs ∧ ∀ v, p.2.data ≠ .cell v) : Inv X pins' σ H s :=
  ⟨I.ok, I.os, I.bare, I.base, I.loc, I.cell, I.free, I.freeC, fun p hp => (List.mem_append.mp hp).elim (fun z => I.pin p (List.mem_append_left _ z)) (h p), I.hok, I.len⟩
theorem nodup_ix {N : List Str} (hN : N.Nodup) {i j : Nat} {x : Str} (a : N[i]? = some x) (b : N[j]? = some x) : i = j := by
  obtain ⟨h1, e1⟩ := List.getElem?_eq_some_iff.mp a
  obtain ⟨h2, e2⟩ := List.getElem?_eq_some_iff.mp b
  exact (List.getElem_inj hN).mp (e1.trans e2.symm)
theorem store_ok2 {M : Model} {A : Around} {E : Value → Shared → Prop} {i : Nat} {x : Str} {v : V} {u : Value} {Q : Unit → Shared → Prop} (I : Inv X pins σ H s) (hN : X.N.Nodup) (hi : X.N[i]? = some x) (hx : Loc X.env.scope x) (r : RelV v u)
    (h : ∀ s', Inv X pins (σ.set i (some v)) H s' → (∃ a, Heap.SameBut a s.heap s'.heap ∧ (a = X.env.locals ∨ X.env.cells.lookup x = some a)) → Q () s') (hf : X.fn x = true ∨ X.env.scope.names.lookup x = some .local := by first | exact .inl rfl | exact .inr rfl | assumption) : wpAny M A (storeName X.env x u) Q E s := by
  obtain ⟨m, hn, hl⟩ := id I.loc
  have hcls : (X.env.scope.kind == .class || (X.env.scope.kind == .module && X.env.locals != X.env.globals)) = false := by rw [I.ok.kind]; rfl
  have hiσ : i < σ.length := by rw [I.len]; exact (List.getElem?_eq_some_iff.mp hi).1
  have cne := I.cne
  have tracked : ∀ {a : Addr} {h' : Heap}, (∃ o, s.heap.get? a = some o ∧ H a = none) → Heap.SameBut a s.heap h' → HOk X.prog X.w H h' := fun {a h'} ha hs b ob e => by
    obtain ⟨_, _, hfree⟩ := ha
    refine (I.hok b ob e).stay (fun c w' hc q => (hs.2 c ?_).trans q) (fun _ q => q) fun _ _ q => q
    rintro rfl
    rcases hc with rfl | hc
    · rw [hfree] at e; cases e
    · rw [hfree] at hc; cases hc
  rcases hx with hk | hk
  · refine wpAny_storeName_local hk hn (fun h' hn' hs => ?_) hcls
    obtain ⟨oL, _, _, hoL, _⟩ := id hn
    refine h _ ⟨I.ok, I.os, I.bare, ⟨fun b o e n hb hx => ?_, fun b o e n hb hx => ?_, I.base.free, fun b o e hx => ?_, I.base.tups, I.base.frzs, I.base.tbls⟩, ⟨_, hn', fun j y v' e1 e2 e3 => ?_⟩, fun y c e => ?_, I.free, I.freeC, fun p hp => ?_, tracked ⟨oL, hoL, I.free⟩ hs, by simpa using I.len⟩ ⟨_, hs, .inl rfl⟩
    · exact (hs.2 b (Nat.ne_of_lt (Nat.lt_of_lt_of_le (Heap.lt_size e) I.ok.above))).trans (I.base.keep b o e n hb hx)
    · obtain ⟨sl, e1⟩ := I.base.slot b o e n hb hx
      exact ⟨sl, (hs.2 b (Nat.ne_of_lt (Nat.lt_of_lt_of_le (Heap.lt_size e) I.ok.above))).trans e1⟩
    · obtain ⟨o', e1⟩ := I.base.there b o e hx
      exact ⟨o', (hs.2 b (Nat.ne_of_lt (Nat.lt_of_lt_of_le (Heap.lt_size e) I.ok.above))).trans e1⟩
    · by_cases hj : j = i
      · subst hj
        rw [hi] at e1; cases e1
        rw [List.getElem?_set_self hiσ] at e2
        cases e2
        exact ⟨u, r, .inl ⟨hk, by simp⟩⟩
      · rw [List.getElem?_set_ne (Ne.symm hj)] at e2
        obtain ⟨u', r', q⟩ := hl j y v' e1 e2 e3
        refine ⟨u', r', ?_⟩
        rcases q with ⟨k, e⟩ | ⟨k, c, e, z⟩
        · refine .inl ⟨k, ?_⟩
          have : y ≠ x := fun e => hj (nodup_ix hN e1 (e ▸ hi))
          simp [this, e]
        · exact .inr ⟨k, c, e, z.sameBut hs (cne y c e)⟩
    · obtain ⟨w', z⟩ := I.cell y c e
      exact ⟨w', z.sameBut hs (cne y c e)⟩
    · obtain ⟨e, n, ne, nf, d⟩ := I.pin p hp
      exact ⟨(hs.2 p.1 ne).trans e, n, ne, nf, d⟩
  · have hfn : X.fn x = true := by
      rcases hf with z | z
      · exact z
      · rw [z] at hk; cases hk
    obtain ⟨c, hc⟩ := I.ok.has x (.inl hk)
    obtain ⟨w', z⟩ := I.cell x c hc
    refine wpAny_storeName_cell I.ok.kind hk hc z (fun h' hc' hs => ?_)
    obtain ⟨oc, hoc, hocd⟩ := id z
    refine h { s with heap := h' } ⟨I.ok, I.os, I.bare, ⟨fun b o e n hb hx => ?_, fun b o e n hb hx => ?_, I.base.free, fun b o e hx => ?_, I.base.tups, I.base.frzs, I.base.tbls⟩, ⟨m, hn.sameBut hs (Ne.symm (cne x c hc)), fun j y v' e1 e2 e3 => ?_⟩, fun y c' e => ?_, I.free, I.freeC, fun p hp => ?_, tracked ⟨oc, hoc, I.freeC x c hc⟩ hs, by simpa using I.len⟩ ⟨c, hs, .inr hc⟩
    · exact (hs.2 b (Nat.ne_of_lt (Nat.lt_of_lt_of_le (Heap.lt_size e) (I.ok.cab x c hfn hc)))).trans (I.base.keep b o e n hb hx)
    · obtain ⟨sl, e1⟩ := I.base.slot b o e n hb hx
      exact ⟨sl, (hs.2 b (Nat.ne_of_lt (Nat.lt_of_lt_of_le (Heap.lt_size e) (I.ok.cab x c hfn hc)))).trans e1⟩
    · obtain ⟨o', e1⟩ := I.base.there b o e hx
      exact ⟨o', (hs.2 b (Nat.ne_of_lt (Nat.lt_of_lt_of_le (Heap.lt_size e) (I.ok.cab x c hfn hc)))).trans e1⟩
    · by_cases hj : j = i
      · subst hj
        rw [hi] at e1; cases e1
        rw [List.getElem?_set_self hiσ] at e2
        cases e2
        exact ⟨u, r, .inr ⟨.inl hk, c, hc, hc'⟩⟩
      · rw [List.getElem?_set_ne (Ne.symm hj)] at e2
        obtain ⟨u', r', q⟩ := hl j y v' e1 e2 e3
        refine ⟨u', r', ?_⟩
        rcases q with q | ⟨k, c', e, z'⟩
        · exact .inl q
        · refine .inr ⟨k, c', e, z'.sameBut hs ?_⟩
          rintro rfl
          exact hj (nodup_ix hN e1 (I.ok.inj _ _ _ e hc ▸ hi))
    · by_cases hcc : c' = c
      · subst hcc; exact ⟨_, hc'⟩
      · obtain ⟨w2, z2⟩ := I.cell y c' e
        exact ⟨w2, z2.sameBut hs hcc⟩
    · obtain ⟨e, n, ne, nf, d⟩ := I.pin p hp
      refine ⟨(hs.2 p.1 ?_).trans e, n, ne, nf, d⟩
      intro q
      rw [q, hoc] at e
      have q' : oc = p.2 := Option.some.inj e
      exact d w' (by rw [← q']; exact hocd)
theorem store_ok {M : Model} {A : Around} {E : Value → Shared → Prop} {i : Nat} {x : Str} {v : V} {u : Value} {Q : Unit → Shared → Prop} (I : Inv X pins σ H s) (hN : X.N.Nodup) (hi : X.N[i]? = some x) (hx : Loc X.env.scope x) (r : RelV v u)
    (h : ∀ s', Inv X pins (σ.set i (some v)) H s' → Q () s') (hf : X.fn x = true ∨ X.env.scope.names.lookup x = some .local := by first | exact .inl rfl | exact .inr rfl | assumption) : wpAny M A (storeName X.env x u) Q E s :=
  store_ok2 I hN hi hx r (fun s' I' _ => h s' I') hf
theorem Inv.call' {s' : Shared} {ch : List Addr} (I : Inv X pins σ H s) (ho : s'.os = s.os) (u : Un (frs X.stack) ch H H' s.heap s'.heap) (hok : HOk X.prog X.w H' s'.heap) (hg : AllBare s'.gens)
    (hch : ∀ b ∈ ch, (b ∈ X.ex ∨ X.s₀.heap.objs.size ≤ b) ∧ b ≠ X.env.locals ∧ (∀ x c, X.env.cells.lookup x = some c → c ≠ b) ∧ ∀ p ∈ X.pn ++ pins, p.1 ≠ b) : Inv X pins σ H' s' := by
  obtain ⟨h', g', d', t', o'⟩ := s'
  have e : o' = s.os := ho
  subst e
  exact I.call (g' := g') (t' := t') (d' := d') u hok hg hch
end
abbrev XK := Value → Option Addr → Hp → Prop
abbrev St := List (Option V)
abbrev VK := V → Hp → Prop
abbrev TE := St → Hp → VK → Prop
abbrev TT := St → Hp → (Bool → Hp → Prop) → Prop
abbrev TA := St → Hp → (List V → Hp → Prop) → Prop
structure Ends where
  nx : St → Hp → Prop
  rt : VK
  bk : St → Hp → Prop := fun _ _ => False
  ct : St → Hp → Prop := fun _ _ => False
abbrev TS := Ends → St → Hp → Prop
def EP (X : Cx) (pins : List (Addr × Obj)) (σ : St) (Q : VK) (u : Value) (s' : Shared) : Prop := ∃ v H', Inv X pins σ H' s' ∧ RelV v u ∧ Q v H'
def TP (X : Cx) (pins : List (Addr × Obj)) (σ : St) (Q : Bool → Hp → Prop) (b : Bool) (s' : Shared) : Prop := ∃ H', Inv X pins σ H' s' ∧ Q b H'
def AP (X : Cx) (pins : List (Addr × Obj)) (σ : St) (Q : List V → Hp → Prop) (us : List Value) (s' : Shared) : Prop := ∃ vs H', Inv X pins σ H' s' ∧ Vals vs us ∧ Q vs H'
def SP (X : Cx) (pins : List (Addr × Obj)) (D : Ends) (f : Flow) (s' : Shared) : Prop :=
  match f with
  | .next => ∃ σ' H', Inv X pins σ' H' s' ∧ D.nx σ' H'
  | .brk => ∃ σ' H', Inv X pins σ' H' s' ∧ D.bk σ' H'
  | .cont => ∃ σ' H', Inv X pins σ' H' s' ∧ D.ct σ' H'
  | .ret u => ∃ v σ' H', Inv X pins σ' H' s' ∧ RelV v u ∧ D.rt v H'
def PE (X : Cx) (e : Expr) (t : TE) : Prop :=
  ∀ (pins : List (Addr × Obj)) (s : Shared) (σ : St) (H : Hp) (Q : VK), Inv X pins σ H s → t σ H Q → wpAny (model X.prog X.w) X.A (eval e X.env) (EP X pins σ Q) X.xe s
def PT (X : Cx) (e : Expr) (t : TT) : Prop :=
  ∀ (pins : List (Addr × Obj)) (s : Shared) (σ : St) (H : Hp) (Q : Bool → Hp → Prop), Inv X pins σ H s → t σ H Q → wpAny (model X.prog X.w) X.A (isTrue e X.env (eval e X.env)) (TP X pins σ Q) X.xe s
def PW (X : Cx) (e : Expr) (t : TT) : Prop :=
  ∀ (whole : Sem Value) (pins : List (Addr × Obj)) (s : Shared) (σ : St) (H : Hp) (Q : Bool → Hp → Prop), Inv X pins σ H s → t σ H Q → wpAny (model X.prog X.w) X.A (isTrue e X.env whole) (TP X pins σ Q) X.xe s
theorem PW.pt {X : Cx} {e : Expr} {t : TT} (h : PW X e t) : PT X e t := h _
def PA (X : Cx) (es : List Expr) (t : TA) : Prop :=
  ∀ (pos : Pos) (pins : List (Addr × Obj)) (s : Shared) (σ : St) (H : Hp) (Q : List V → Hp → Prop), Inv X pins σ H s → t σ H Q → wpAny (model X.prog X.w) X.A (spliced (backTo pos (starEach es X.env))) (AP X pins σ Q) X.xe s
def PS (X : Cx) (st : Stmt) (t : TS) : Prop :=
  ∀ (pins : List (Addr × Obj)) (s : Shared) (σ : St) (H : Hp) (D : Ends), Inv X pins σ H s → t D σ H → wpAny (model X.prog X.w) X.A (exec st X.env) (SP X pins D) X.xe s
def PSs (X : Cx) (st : List Stmt) (t : TS) : Prop :=
  ∀ (pins : List (Addr × Obj)) (s : Shared) (σ : St) (H : Hp) (D : Ends), Inv X pins σ H s → t D σ H → wpAny (model X.prog X.w) X.A (execs st X.env) (SP X pins D) X.xe s
theorem thn {α : Type} {t : Sem α} {Q Q' : α → Shared → Prop} {M : Model} {A : Around} {E : Value → Shared → Prop} {s : Shared} (h : wpAny M A t Q E s) (hQ : ∀ a s, Q a s → Q' a s) : wpAny M A t Q' E s := wpAny_mono h hQ fun _ _ x => x
end L2
namespace L2
open PySem PySem.Spec PyProof.Rows
section
variable {X : Cx}
theorem bin {a b : Expr} {ta tb : TE} (ha : PE X a ta) (hb : PE X b tb) {pins : List (Addr × Obj)} {s : Shared} {σ : St} {H : Hp} {R : V → V → Hp → Prop} (I : Inv X pins σ H s) (h : ta σ H fun x H1 => tb σ H1 fun y H2 => R x y H2)
    {α : Type} {Q : α → Shared → Prop} {f : Value → Value → Sem α}
    (hf : ∀ v u s2 x y H2, Inv X pins σ H2 s2 → RelV x v → RelV y u → R x y H2 → wpAny (model X.prog X.w) X.A (f v u) Q X.xe s2) :
    wpAny (model X.prog X.w) X.A (eval a X.env) (fun v s₁ => wpAny (model X.prog X.w) X.A (eval b X.env) (fun u s₂ => wpAny (model X.prog X.w) X.A (f v u) Q X.xe s₂) X.xe s₁) X.xe s := by
  refine thn (ha pins s σ H _ I h) fun v s1 ⟨x, H1, I1, r1, q1⟩ => ?_
  refine thn (hb pins s1 σ H1 _ I1 q1) fun u s2 ⟨y, H2, I2, r2, q2⟩ => ?_
  exact hf v u s2 x y H2 I2 r1 r2 q2
def tVar (i : Nat) : TE := fun σ H Q => ∃ v, σ[i]? = some (some v) ∧ Q v H
def tC (v : V) : TE := fun _ H Q => Q v H
theorem pe_var {i : Nat} {x : Str} {pos : Pos} (hN : X.N[i]? = some x) (hv : Vis X.env.scope x) (hd : (x == ("__debug__" : Str)) = false := by decide) (hcd : (x == ("__classdict__" : Str)) = false := by decide) : PE X (.Name x pos) (tVar i) := by
  intro pins s σ H Q I h
  obtain ⟨v, e, h⟩ := h
  obtain ⟨m, hn, hl⟩ := I.loc
  obtain ⟨u, r, l⟩ := hl i x v hN e hv
  have fin : EP X pins σ Q u s := ⟨v, H, I, r, h⟩
  rcases l with ⟨hk, hm⟩ | ⟨hk, c, hc, hcell⟩
  · exact wpAny_Name (wpAny_loadName_local I.ok.kind hk hn hm fin) hd
  · rcases hk with hk | hk
    · exact wpAny_Name (wpAny_loadName_cell I.ok.kind hk hc hcell fin) hd
    · exact wpAny_Name (wpAny_loadName_free I.ok.kind hk hc hcell fin hcd) hd
theorem pe_int {i j pos} : PE X (.Constant (.int i) j pos) (tC (.int i)) := fun _ _ _ H _ I h => wpAny_Constant_int ⟨.int i, H, I.tok _, ⟨_, rfl⟩, h⟩
theorem pe_bl {b j pos} : PE X (.Constant (.bool b) j pos) (tC (.bl b)) := fun _ _ _ H _ I h => Constant_bool ⟨.bl b, H, I, rfl, h⟩
theorem pe_non {j pos} : PE X (.Constant .none j pos) (tC .non) := fun _ _ _ H _ I h => Constant_none ⟨.non, H, I, rfl, h⟩
theorem pe_str {x j pos} : PE X (.Constant (.str x) j pos) (tC (.str x)) := fun _ _ _ H _ I h => Calls.Constant_str ⟨.str x, H, I.tok _, ⟨_, rfl⟩, h⟩
def Gl (X : Cx) (x : Str) : Prop := X.env.kindOf x = some .globalImplicit
theorem ld_glob {E : Value → Shared → Prop} {pins : List (Addr × Obj)} {s : Shared} {σ : St} {H : Hp} {x : Str} {u : Value} {pos : Pos} {Q : Value → Shared → Prop} (I : Inv X pins σ H s) (hg : Gl X x) (hm : X.mg x = some u) (h : Q u s)
    (hd : (x == ("__debug__" : Str)) = false := by decide) : wpAny (model X.prog X.w) X.A (eval (.Name x pos) X.env) Q E s :=
  Calls.Name_function_global I.ok.kind hg (Calls.loadGlobal_global (by rw [I.ok.glob]; exact I.mod.glob.keeps I.bk) hm h) hd
theorem ld_blt {E : Value → Shared → Prop} {pins : List (Addr × Obj)} {s : Shared} {σ : St} {H : Hp} {x : Str} {u : Value} {pos : Pos} {Q : Value → Shared → Prop} (I : Inv X pins σ H s) (hg : Gl X x) (hm : X.mg x = none) (hv : bootBuiltins x = some u) (h : Q u s)
    (hn : x ≠ "__name__" := by decide) (hd : (x == ("__debug__" : Str)) = false := by decide) : wpAny (model X.prog X.w) X.A (eval (.Name x pos) X.env) Q E s := by
  obtain ⟨mb, h1, h2⟩ := I.mod.blt
  exact Calls.Name_function_global I.ok.kind hg (Calls.loadGlobal_builtin (by rw [I.ok.glob]; exact I.mod.glob.keeps I.bk) hm (by rw [I.ok.blt]; exact h1.keeps I.bk) ((h2 x hn).trans hv) h) hd
theorem pe_glob {x : Str} {v : V} {u : Value} {pos : Pos} (hg : Gl X x) (hm : X.mg x = some u) (r : RelV v u) (hd : (x == ("__debug__" : Str)) = false := by decide) : PE X (.Name x pos) (tC v) :=
  fun _ _ _ H _ I h => ld_glob I hg hm ⟨v, H, I, r, h⟩ hd
theorem pe_bltn {x : Str} {v : V} {u : Value} {pos : Pos} (hg : Gl X x) (hm : X.mg x = none) (hv : bootBuiltins x = some u) (r : RelV v u) (hn : x ≠ "__name__" := by decide) (hd : (x == ("__debug__" : Str)) = false := by decide) : PE X (.Name x pos) (tC v) :=
  fun _ _ _ H _ I h => ld_blt I hg hm hv ⟨v, H, I, r, h⟩ hn hd
variable {a b : Expr} {ta tb : TE} {pos : Pos}
def PC (X : Cx) (op : CmpOp) (a b : Expr) (t : TE) : Prop :=
  ∀ (pins : List (Addr × Obj)) (s : Shared) (σ : St) (H : Hp) (Q : VK), Inv X pins σ H s → t σ H Q →
    wpAny (model X.prog X.w) X.A (eval a X.env) (fun v s₁ => wpAny (model X.prog X.w) X.A (eval b X.env) (fun u s₂ => wpAny (model X.prog X.w) X.A (compareOp op v u) (EP X pins σ Q) X.xe s₂) X.xe s₁) X.xe s
theorem nobehind (b : Expr) {op : CmpOp} (h : op ≠ .In) (h2 : op ≠ .NotIn) : behindInMarks op b = false := by
  have e1 : (op == CmpOp.In) = false := by cases op <;> first | rfl | exact absurd rfl h
  have e2 : (op == CmpOp.NotIn) = false := by cases op <;> first | rfl | exact absurd rfl h2
  cases b <;> simp [behindInMarks, e1, e2]
def tIsN (ta : TE) : TE := fun σ H Q => ta σ H fun x H1 => Q (.bl (decide (x = .non))) H1
theorem RelV.none_iff {x : V} {v : Value} (r : RelV x v) : (v == Value.none) = decide (x = .non) := by
  cases x with
  | non => cases r; rfl
  | bl _ => cases r; rfl
  | int _ => obtain ⟨t, rfl⟩ := r; rfl
  | str _ => obtain ⟨t, rfl⟩ := r; rfl
  | byt _ => obtain ⟨t, rfl⟩ := r; rfl
  | flt _ => obtain ⟨t, rfl⟩ := r; rfl
  | ref _ => cases r; rfl
  | ty _ => cases r; rfl
theorem pc_isN {j pos'} (ha : PE X a ta) : PC X .Is a (.Constant .none j pos') (tIsN ta) := by
  intro pins s σ H Q I h
  refine thn (ha pins s σ H _ I h) fun v s1 ⟨x, H1, I1, r1, q1⟩ => ?_
  exact Constant_none (is_none_gen ⟨.bl _, H1, I1, by rw [r1.none_iff]; rfl, q1⟩)
def tB (t : TE) : TT := fun σ H Q => t σ H fun x H1 => ∃ c, x = .bl c ∧ Q c H1
theorem pe_cmp {op : CmpOp} {t : TE} (h : PC X op a b t) (h1 : behindInMarks op b = false := by first | exact nobehind _ (by decide) (by decide) | rfl) : PE X (.Compare a [op] [b] pos) t := fun pins s σ H Q I hw => wpAny_Compare1 (h pins s σ H Q I hw) h1
theorem pt_cmp {op : CmpOp} {t : TE} (h : PC X op a b t) (h1 : behindInMarks op b = false := by first | exact nobehind _ (by decide) (by decide) | rfl) : PT X (.Compare a [op] [b] pos) (tB t) := by
  intro pins s σ H Q I hw
  refine wpAny_isTrue_Compare1 (thn (h pins s σ H _ I hw) fun v s1 h1 => thn h1 fun u s2 h2 => thn h2 fun c s3 ⟨x, H1, I1, r1, q1⟩ => ?_) h1
  obtain ⟨d, rfl, q⟩ := q1
  cases r1
  exact wpAny_truthy_bool ⟨H1, I1, q⟩
theorem pt_val {e : Expr} {t : TE} (h : PE X e t) (he : ∀ whole, isTrue e X.env whole = (do let v ← whole; standAt e.pos; holding [v] (truthy v)) := by intro _; rfl) : PT X e (tB t) := by
  intro pins s σ H Q I hw
  refine isTrue_plain (thn (h pins s σ H _ I hw) fun v s1 ⟨x, H1, I1, r1, q1⟩ => ?_) (he _)
  obtain ⟨d, rfl, q⟩ := q1
  cases r1
  exact wpAny_truthy_bool ⟨H1, I1, q⟩
variable {tA tB' : TT} {rest : List Expr}
def tAnd (t u : TT) : TT := fun σ H Q => t σ H fun c H1 => if c = true then u σ H1 Q else Q false H1
def tOr (t u : TT) : TT := fun σ H Q => t σ H fun c H1 => if c = true then Q true H1 else u σ H1 Q
def tNot (t : TT) : TT := fun σ H Q => t σ H fun c H1 => Q (!c) H1
theorem pw_and1 (ha : PT X a tA) : PW X (.BoolOp .And [a] pos) tA := by
  intro wh pins s σ H Q I h
  refine isTrue_and (thn (ha pins s σ H Q I h) fun c s1 e => ?_)
  cases c with
  | true => exact isTrue_and_nil e
  | false => exact e
theorem pw_or1 (ha : PT X a tA) : PW X (.BoolOp .Or [a] pos) tA := by
  intro wh pins s σ H Q I h
  refine isTrue_or (thn (ha pins s σ H Q I h) fun c s1 e => ?_)
  cases c with
  | false => exact isTrue_or_nil e
  | true => exact e
theorem pw_and (ha : PT X a tA) (hb : PW X (.BoolOp .And (b :: rest) pos) tB') : PW X (.BoolOp .And (a :: b :: rest) pos) (tAnd tA tB') := by
  intro wh pins s σ H Q I h
  refine isTrue_and (thn (ha pins s σ H _ I h) fun c s1 ⟨H1, I1, q1⟩ => ?_)
  cases c with
  | true => exact hb wh pins s1 σ H1 Q I1 q1
  | false => exact ⟨H1, I1, q1⟩
theorem pw_or (ha : PT X a tA) (hb : PW X (.BoolOp .Or (b :: rest) pos) tB') : PW X (.BoolOp .Or (a :: b :: rest) pos) (tOr tA tB') := by
  intro wh pins s σ H Q I h
  refine isTrue_or (thn (ha pins s σ H _ I h) fun c s1 ⟨H1, I1, q1⟩ => ?_)
  cases c with
  | true => exact ⟨H1, I1, q1⟩
  | false => exact hb wh pins s1 σ H1 Q I1 q1
theorem pt_not (ha : PT X a tA) : PT X (.UnaryOp .Not a pos) (tNot tA) := by
  intro pins s σ H Q I h
  exact isTrue_not (ha pins s σ H (fun c H1 => Q (!c) H1) I h)
def tAndV (ta tb : TE) : TE := fun σ H Q => ta σ H fun x H1 => ∃ c, x = .bl c ∧ if c = true then tb σ H1 Q else Q (.bl false) H1
theorem pe_one {op} {t : TE} (h : PE X a t) : PE X (.BoolOp op [a] pos) t := fun pins s σ H Q I hw => BoolOp_one (h pins s σ H Q I hw)
theorem pe_and (ha : PE X a ta) (hb : PE X (.BoolOp .And (b :: rest) pos) tb) : PE X (.BoolOp .And (a :: b :: rest) pos) (tAndV ta tb) := by
  intro pins s σ H Q I h
  refine BoolOp_and (thn (ha pins s σ H _ I h) fun v s1 ⟨x, H1, I1, r1, q1⟩ => ?_)
  obtain ⟨c, rfl, q1⟩ := q1
  cases r1
  refine wpAny_truthy_bool ?_
  cases c with
  | true => exact hb pins s1 σ H1 Q I1 q1
  | false => exact ⟨.bl false, H1, I1, rfl, q1⟩
end
end L2
namespace L2
open PySem PySem.Spec PyProof.Rows
def SqL (K : PySem.W.Frag) (H : Hp) (a : Addr) (xs : List V) : Prop :=
  Rd H a (.lst xs) ∨
    ∃ (o : Obj) (its : Array Value) (n : Nat), K.lookup a = some o ∧ o.cls = .type "list" ∧ o.dict = none ∧ o.data = .seq its n ∧ its.size ≤ sizeLine ∧ Vals xs its.toList
def SqT (K : PySem.W.Frag) (H : Hp) (a : Addr) (xs : List V) : Prop :=
  Rd H a (.tup xs) ∨
    ∃ (o : Obj) (its : Array Value) (n : Nat), K.lookup a = some o ∧ o.cls = .type "tuple" ∧ o.data = .seq its n ∧ its.size ≤ sizeLine ∧ Vals xs its.toList
def absV : Value → Option V
  | .none => some .non
  | .bool b => some (.bl b)
  | .int i _ => some (.int i)
  | .str x _ => some (.str x)
  | .bytes b _ => some (.byt b)
  | .float b _ => some (.flt b)
  | .ref a => some (.ref a)
  | .type n => some (.ty n)
  | _ => none
theorem RelV.abs {x : V} {u : Value} (r : RelV x u) : absV u = some x := by
  cases x with
  | non => cases r; rfl
  | bl _ => cases r; rfl
  | int _ => obtain ⟨t, rfl⟩ := r; rfl
  | str _ => obtain ⟨t, rfl⟩ := r; rfl
  | byt _ => obtain ⟨t, rfl⟩ := r; rfl
  | flt _ => obtain ⟨t, rfl⟩ := r; rfl
  | ref _ => cases r; rfl
  | ty _ => cases r; rfl
theorem RelV.inj {x y : V} {u : Value} (r : RelV x u) (q : RelV y u) : x = y := Option.some.inj (r.abs.symm.trans q.abs)
theorem Vals.inj : ∀ {xs ys : List V} {us : List Value}, Vals xs us → Vals ys us → xs = ys
  | _, _, _, .nil, .nil => rfl
  | _, _, _, .cons r t, .cons r' t' => by rw [r.inj r', Vals.inj t t']
section
variable {X : Cx} {pins : List (Addr × Obj)} {σ : St} {H : Hp} {s : Shared} {a : Addr} {xs ys : List V}
theorem SqL.of {K : PySem.W.Frag} (h : H a = some (.lst xs)) : SqL K H a xs := .inl (.inl h)
theorem SqT.of {K : PySem.W.Frag} (h : H a = some (.tup xs)) : SqT K H a xs := .inl (.inl h)
theorem Inv.list (I : Inv X pins σ H s) (h : SqL X.K H a xs) : ∃ its : List Value, Vals xs its ∧ PlainL s.heap a its.toArray ∧ xs.length ≤ sizeLine := by
  rcases h with h | ⟨o, its, n, hk, hc, hd, hs, hz, r⟩
  · obtain ⟨z, its, n, r, e⟩ := h.ok I.hok
    exact ⟨its, r, ⟨_, n, e, rfl, rfl, rfl⟩, z⟩
  · refine ⟨its.toList, r, ⟨o, n, I.kIn a o hk, hc, hd, by simpa using hs⟩, ?_⟩
    have e := r.length
    simp only [Array.length_toList] at e
    omega
theorem Inv.tuple (I : Inv X pins σ H s) (h : SqT X.K H a xs) : ∃ its : List Value, Vals xs its ∧ IsTup s.heap a its.toArray ∧ xs.length ≤ sizeLine := by
  rcases h with h | ⟨o, its, n, hk, hc, hs, hz, r⟩
  · obtain ⟨z, its, r, p⟩ := h.ok I.hok
    exact ⟨its, r, p, z⟩
  · refine ⟨its.toList, r, ⟨o, I.kIn a o hk, hc, n, by simpa using hs⟩, ?_⟩
    have e := r.length
    simp only [Array.length_toList] at e
    omega
theorem Inv.list_inj (I : Inv X pins σ H s) (h : SqL X.K H a xs) (h' : SqL X.K H a ys) : xs = ys := by
  obtain ⟨its, r, ⟨o, n, e, _, _, d⟩, _⟩ := I.list h
  obtain ⟨its', r', ⟨o', n', e', _, _, d'⟩, _⟩ := I.list h'
  rw [e] at e'; cases e'
  rw [d] at d'
  injection d' with d1 _
  have : its = its' := by simpa using congrArg Array.toList d1
  subst this
  exact r.inj r'
end
abbrev Cx.wish (X : Cx) (E : Value → Shared → Prop) : Cx := { X with xe := E }
abbrev Cx.nox (X : Cx) : Cx := X.wish fun _ _ => False
theorem Cx.Ok.wish {X : Cx} (ok : X.Ok) (E : Value → Shared → Prop) : (X.wish E).Ok :=
  ⟨ok.mod, ok.kind, ok.glob, ok.blt, ok.above, ok.inj, ok.has, ok.cab, ok.hd, ok.frames, ok.stk, ok.exf, ok.bs, ok.bsz, ok.noex, ok.exfs, ok.funs, ok.frf⟩
theorem Cx.Ok.unwish {X : Cx} {E : Value → Shared → Prop} (ok : (X.wish E).Ok) : X.Ok :=
  ⟨ok.mod, ok.kind, ok.glob, ok.blt, ok.above, ok.inj, ok.has, ok.cab, ok.hd, ok.frames, ok.stk, ok.exf, ok.bs, ok.bsz, ok.noex, ok.exfs, ok.funs, ok.frf⟩
section
variable {X : Cx} {pins : List (Addr × Obj)} {σ : St} {H : Hp} {s : Shared} {E : Value → Shared → Prop}
theorem Inv.wish (I : Inv X pins σ H s) (E : Value → Shared → Prop) : Inv (X.wish E) pins σ H s := ⟨I.ok.wish E, I.os, I.bare, I.base, I.loc, I.cell, I.free, I.freeC, I.pin, I.hok, I.len⟩
theorem Inv.unwish (I : Inv (X.wish E) pins σ H s) : Inv X pins σ H s := ⟨I.ok.unwish, I.os, I.bare, I.base, I.loc, I.cell, I.free, I.freeC, I.pin, I.hok, I.len⟩
theorem SP.unwish {D : Ends} {f : Flow} {s' : Shared} (h : SP (X.wish E) pins D f s') : SP X pins D f s' := by
  cases f with
  | next => obtain ⟨σ', H', I, q⟩ := h; exact ⟨σ', H', I.unwish, q⟩
  | brk => obtain ⟨σ', H', I, q⟩ := h; exact ⟨σ', H', I.unwish, q⟩
  | cont => obtain ⟨σ', H', I, q⟩ := h; exact ⟨σ', H', I.unwish, q⟩
  | ret u => obtain ⟨v, σ', H', I, r, q⟩ := h; exact ⟨v, σ', H', I.unwish, r, q⟩
theorem PSs.nox {st : List Stmt} {t : TS} (h : PSs X.nox st t) : PSs X st t := fun pins s σ H D I hw =>
  wpAny_mono (h pins s σ H D (I.wish _) hw) (fun _ _ q => q.unwish) fun _ _ z => False.elim z
end
section
variable {X : Cx} {st : Stmt} {rest : List Stmt} {t u : TS} {e : Expr} {te : TE} {pos : Pos}
def tNext : TS := fun D σ H => D.nx σ H
def tSeq (t u : TS) : TS := fun D σ H => t { D with nx := u D } σ H
theorem pss_nil : PSs X [] tNext := fun _ _ σ H _ I h => wpAny_execs_nil ⟨σ, H, I, h⟩
theorem pss_cons (h1 : PS X st t) (h2 : PSs X rest u) : PSs X (st :: rest) (tSeq t u) := by
  intro pins s σ H D I h
  refine wpAny_execs_cons (thn (h1 pins s σ H { D with nx := u D } I h) fun f s1 q => ?_)
  cases f with
  | next =>
    obtain ⟨σ', H', I', q⟩ := q
    exact h2 pins s1 σ' H' D I' q
  | ret v => exact q
  | brk => exact q
  | cont => exact q
theorem pss_one (h1 : PS X st t) : PSs X [st] t := by
  intro pins s σ H D I h
  refine wpAny_execs_cons (thn (h1 pins s σ H D I h) fun f s1 q => ?_)
  cases f with
  | next => exact wpAny_execs_nil q
  | ret v => exact q
  | brk => exact q
  | cont => exact q
theorem Inv.quiet {pins : List (Addr × Obj)} {σ : St} {H : Hp} {s : Shared} (I : Inv X pins σ H s) : interactive X.env = false := by simp [interactive, I.ok.kind]
def tDrop (te : TE) : TS := fun D σ H => te σ H fun _ H1 => D.nx σ H1
theorem ps_expr (he : PE X e te) (hs : swapsWith e none pos.line X.env = pure false := by rfl) : PS X (.Expr e pos) (tDrop te) := by
  intro pins s σ H D I h
  exact wpAny_Expr_any (thn (he pins s σ H _ I h) fun v s1 ⟨x, H1, I1, r1, q1⟩ => ⟨σ, H1, I1, q1⟩) I.quiet hs
def tRet (te : TE) : TS := fun D σ H => te σ H D.rt
theorem ps_ret (he : PE X e te) : PS X (.Return (some e) pos) (tRet te) := by
  intro pins s σ H D I h
  exact wpAny_Return_some (thn (he pins s σ H _ I h) fun v s1 ⟨x, H1, I1, r1, q1⟩ => ⟨x, σ, H1, I1, r1, q1⟩)
def tIfS (c : TT) (t u : TS) : TS := fun D σ H => c σ H fun b H1 => if b = true then t D σ H1 else u D σ H1
theorem ps_if {c : Expr} {a b : List Stmt} {tc : TT} (hc : PT X c tc) (ha : PSs X a t) (hb : PSs X b u) : PS X (.If c a b pos) (tIfS tc t u) := by
  intro pins s σ H D I h
  refine wpAny_If (thn (hc pins s σ H _ I h) fun d s1 ⟨H1, I1, q1⟩ => ?_)
  cases d with
  | true => exact ha pins s1 σ H1 D I1 q1
  | false => exact hb pins s1 σ H1 D I1 q1
end
abbrev TG := V → St → Hp → (St → Hp → Prop) → Prop
abbrev TGs := List V → St → Hp → (St → Hp → Prop) → Prop
def PG (X : Cx) (target : Expr) (t : TG) : Prop :=
  ∀ (pins : List (Addr × Obj)) (s : Shared) (σ : St) (H : Hp) (v : V) (u : Value) (Q : St → Hp → Prop), Inv X pins σ H s → RelV v u → t v σ H Q →
    wpAny (model X.prog X.w) X.A (assign target X.env u) (fun _ s' => ∃ σ' H', Inv X pins σ' H' s' ∧ Q σ' H') X.xe s
def PGs (X : Cx) (ts : List Expr) (t : TGs) : Prop :=
  ∀ (pins : List (Addr × Obj)) (s : Shared) (σ : St) (H : Hp) (vs : List V) (us : List Value) (Q : St → Hp → Prop), Inv X pins σ H s → Vals vs us → t vs σ H Q →
    wpAny (model X.prog X.w) X.A (assignInOrder ((assignEach ts X.env).map (·.2)) us) (fun _ s' => ∃ σ' H', Inv X pins σ' H' s' ∧ Q σ' H') X.xe s
abbrev TSet := V → V → V → Hp → (Hp → Prop) → Prop
def PSet (X : Cx) (t : TSet) : Prop :=
  ∀ (pins : List (Addr × Obj)) (s : Shared) (σ : St) (H : Hp) (o i v : V) (ov iv u : Value) (Q : Hp → Prop), Inv X pins σ H s → RelV o ov → RelV i iv → RelV v u → t o i v H Q →
    wpAny (model X.prog X.w) X.A (setItem ov iv u) (fun _ s' => ∃ H', Inv X pins σ H' s' ∧ Q H') X.xe s
section
variable {X : Cx} {pos : Pos}
def gName (i : Nat) : TG := fun v σ H Q => Q (σ.set i (some v)) H
theorem pg_name {i : Nat} {x : Str} (hN : X.N.Nodup) (hi : X.N[i]? = some x) (hx : Loc X.env.scope x) (hf : X.fn x = true ∨ X.env.scope.names.lookup x = some .local := by first | exact .inl rfl | exact .inr rfl | assumption) : PG X (.Name x pos) (gName i) := by
  intro pins s σ H v u Q I r h
  exact wpAny_assign_Name (store_ok I hN hi hx r (fun s' I' => ⟨_, H, I', h⟩) hf)
def gNil : TGs := fun vs σ H Q => vs = [] ∧ Q σ H
def gCons (t : TG) (u : TGs) : TGs := fun vs σ H Q => ∃ v r, vs = v :: r ∧ t v σ H fun σ' H' => u r σ' H' Q
theorem pgs_nil : PGs X [] gNil := by
  intro pins s σ H vs us Q I r h
  obtain ⟨e, h⟩ := h
  subst e
  cases r
  exact assignInOrder_nil ⟨σ, H, I, h⟩
theorem pgs_cons {e : Expr} {es : List Expr} {t : TG} {u : TGs} (h1 : PG X e t) (h2 : PGs X es u)
    (hs : (assignEach (e :: es) X.env).map (·.2) = assign e X.env :: (assignEach es X.env).map (·.2) := by rfl) : PGs X (e :: es) (gCons t u) := by
  intro pins s σ H vs us Q I r h
  obtain ⟨v, vr, e1, h⟩ := h
  subst e1
  cases r with
  | cons r rr =>
    rw [hs]
    refine assignInOrder_cons (thn (h1 pins s σ H _ _ _ I r h) fun _ s1 ⟨σ1, H1, I1, q1⟩ => ?_)
    exact h2 pins s1 σ1 H1 _ _ Q I1 rr q1
def gTup (K : PySem.W.Frag) (n : Nat) (t : TGs) : TG := fun v σ H Q => ∃ a xs, v = .ref a ∧ SqT K H a xs ∧ xs.length = n ∧ t xs σ H Q
theorem pg_tup {es : List Expr} {k : Nat} {t : TGs} {n : Nat} (hc : X.calm = true) (h : PGs X es t)
    (hn : (assignEach es X.env).length = n := by rfl) (hst : (assignEach es X.env).findIdx? (·.1) = none := by rfl) : PG X (.Tuple es k pos) (gTup X.K n t) := by
  intro pins s σ H v u Q I r hw
  obtain ⟨a, xs, e1, hq, hl, hw⟩ := hw
  subst e1
  cases r
  obtain ⟨its, rv, ht, hz⟩ := I.tuple hq
  refine assign_Tuple_tuple (I.ok.hd hc) ht (by simp [hn, ← hl, rv.length]) hst fun h' hx => ?_
  have I1 : Inv X pins σ H { s with heap := h' } := I.kept (t' := s.toks) fun b o e => hx b o (Nat.ne_of_lt (Heap.lt_size e)) e
  exact h pins _ σ H xs _ Q I1 (by simpa using rv) hw
def gSub (to ti : TE) (t : TSet) : TG := fun v σ H Q => to σ H fun o H1 => ti σ H1 fun i H2 => t o i v H2 fun H3 => Q σ H3
theorem pg_sub {o i : Expr} {to ti : TE} {t : TSet} (ho : PE X o to) (hi : PE X i ti) (hs : PSet X t)
    (ha : ∀ v, assign (.Subscript o i pos) X.env v = (do
      let ov ← holding [v] (eval o X.env)
      let iv ← holding [v, ov] (eval i X.env)
      standAt pos
      holding [v, ov, iv] (setItem ov iv v)
      release [v, ov, iv] []) := by intro _; rfl) : PG X (.Subscript o i pos) (gSub to ti t) := by
  intro pins s σ H v u Q I r h
  rw [ha]
  refine wpAny_bind (wpAny_holding (thn (ho pins s σ H _ I h) fun ov s1 ⟨x, H1, I1, r1, q1⟩ => ?_))
  refine wpAny_bind (wpAny_holding (thn (hi pins s1 σ H1 _ I1 q1) fun iv s2 ⟨y, H2, I2, r2, q2⟩ => ?_))
  refine wpAny_bind (wpAny_standAt (wpAny_bind (wpAny_holding (thn (hs pins s2 σ H2 x y v ov iv u _ I2 r1 r2 r q2) fun _ s3 ⟨H3, I3, q3⟩ => ?_))))
  exact wpAny_release ⟨σ, H3, I3, q3⟩
def tAsg (te : TE) (g : TG) : TS := fun D σ H => te σ H fun x H1 => g x σ H1 D.nx
theorem ps_asg {tg e : Expr} {te : TE} {g : TG} (he : PE X e te) (hg : PG X tg g) (hs : swapsWithSole [tg] e pos.line X.env = pure false := by rfl) (hw : swappedStores [tg] e X.env = pure none := by rfl)
    (h1 : (assignEach [tg] X.env).map (·.2) = [assign tg X.env] := by rfl) : PS X (.Assign [tg] e pos) (tAsg te g) := by
  intro pins s σ H D I h
  refine wpAny_Assign_stores (thn (he pins s σ H _ I h) fun v s1 ⟨x, H1, I1, r1, q1⟩ => ?_) hs hw
  rw [h1]
  exact thn (hg pins s1 σ H1 x v _ I1 r1 q1) fun _ s2 q => q
theorem ps_set {i : Nat} {x : Str} {e : Expr} {te : TE} {pos' : Pos} (hN : X.N.Nodup) (hi : X.N[i]? = some x) (hx : Loc X.env.scope x) (he : PE X e te) (hs : swapsWith e (some (.Name x pos')) pos.line X.env = pure false := by rfl) (hf : X.fn x = true ∨ X.env.scope.names.lookup x = some .local := by first | exact .inl rfl | exact .inr rfl | assumption) :
    PS X (.Assign [.Name x pos'] e pos) (tAsg te (gName i)) := by
  intro pins s σ H D I h
  refine wpAny_Assign_Name (thn (he pins s σ H _ I h) fun v s1 ⟨y, H1, I1, r1, q1⟩ => ?_) hs
  exact store_ok I1 hN hi hx r1 (fun s2 I2 => ⟨_, H1, I2, q1⟩) hf
end
section
variable {X : Cx} {pos : Pos}
end
structure It where
  go : Nat → Hp → Prop
  yld : Nat → Hp → V → Hp → Prop
  stop : Nat → Hp → Prop
def FpOk (X : Cx) (pins : List (Addr × Obj)) (H : Hp) (b : Addr) : Prop :=
  H b = none ∧ b ≠ X.env.locals ∧ b ∉ X.fs ∧ (b ∈ X.ex ∨ X.s₀.heap.objs.size ≤ b) ∧ (∀ x c, X.env.cells.lookup x = some c → c ≠ b) ∧ ∀ p ∈ X.pn ++ pins, p.1 ≠ b
theorem Inv.fpOk {X : Cx} {pins : List (Addr × Obj)} {σ : St} {H H' : Hp} {s : Shared} {b : Addr} (I : Inv X pins σ H s) (hb : s.heap.objs.size ≤ b) (hn : H' b = none) : FpOk X pins H' b := by
  refine ⟨hn, Nat.ne_of_gt (Nat.lt_of_lt_of_le I.lt hb), I.nofs hb, .inr (Nat.le_trans I.sz hb), fun x c e z => ?_, fun p hp z => ?_⟩
  · obtain ⟨v, q⟩ := I.cell x c e
    exact absurd (Nat.lt_of_lt_of_le q.lt (by rw [z]; exact hb)) (Nat.lt_irrefl _)
  · exact absurd (Nat.lt_of_lt_of_le (Heap.lt_size (I.pin p hp).1) (by rw [z]; exact hb)) (Nat.lt_irrefl _)
structure Turn (P : Program) (w : World) (K : PySem.W.Frag) (tg : Expr) (J : It) (fp : List Addr) (it : Addr) (tn : Nat → Heap → Prop) : Prop where
  mem : it ∈ fp
  obj : ∀ i h, tn i h → ∀ b ∈ fp, ∃ o, h.get? b = some o ∧ ∀ v, o.data ≠ .cell v
  keep : ∀ i h h', tn i h → (∀ b ∈ fp, ∀ o, h.get? b = some o → h'.get? b = some o) → tn i h'
  item : ∀ (X : Cx), X.prog = P → X.w = w → X.K = K → X.calm = true → ∀ (i : Nat) (pins : List (Addr × Obj)) (s : Shared) (σ : St) (H : Hp) (E : Value → Shared → Prop), Inv X pins σ H s → (∀ b ∈ fp, FpOk X pins H b) → tn i s.heap → J.go i H →
    wpAny (model P w) X.A (pyNext (.ref it)) (fun r s1 => ∃ u, r = some u ∧
      wpAny (model P w) X.A (letOwnedTupleGo tg (.ref it) u) (fun _ s2 => ∃ x H', Inv X pins σ H' s2 ∧ RelV x u ∧ J.yld i H x H' ∧ tn (i + 1) s2.heap ∧ ∀ b ∈ fp, H' b = none) E s1) E s
  done : ∀ (X : Cx), X.prog = P → X.w = w → X.K = K → X.calm = true → ∀ (i : Nat) (pins : List (Addr × Obj)) (s : Shared) (σ : St) (H : Hp) (E : Value → Shared → Prop), Inv X pins σ H s → (∀ b ∈ fp, FpOk X pins H b) → tn i s.heap → J.stop i H →
    wpAny (model P w) X.A (pyNext (.ref it)) (fun r s1 => r = none ∧ Inv X pins σ H s1) E s
  self : ∀ (A : Around) (i : Nat) (s : Shared) (Q : Value → Shared → Prop) (E : Value → Shared → Prop), tn i s.heap → Q (.ref it) s → wpAny (model P w) A (pyIter (.ref it)) Q E s
abbrev TI := St → Hp → (It → Hp → Prop) → Prop
def PIE (X : Cx) (pins : List (Addr × Obj)) (σ : St) (tg : Expr) (R : It → Hp → Prop) (itv : Value) (s2 : Shared) : Prop :=
  ∃ (it : Addr) (fp : List Addr) (tn : Nat → Heap → Prop) (J : It) (H' : Hp), itv = .ref it ∧ Inv X pins σ H' s2 ∧ Turn X.prog X.w X.K tg J fp it tn ∧ tn 0 s2.heap ∧ (∀ b ∈ fp, FpOk X pins H' b) ∧ R J H'
def PI (X : Cx) (tg iter : Expr) (wi : TI) : Prop :=
  ∀ (pins : List (Addr × Obj)) (s : Shared) (σ : St) (H : Hp) (R : It → Hp → Prop), Inv X pins σ H s → wi σ H R →
    wpAny (model X.prog X.w) X.A (eval iter X.env) (fun v s1 => wpAny (model X.prog X.w) X.A (pyIter v) (PIE X pins σ tg R) X.xe s1) X.xe s
theorem go_of {M : Model} {A : Around} {E : Value → Shared → Prop} {s : Shared} {tg : Expr} {it : Addr} {u : Value} {o : Obj} {n : String} {vs : Array Value} {Q : Unit → Shared → Prop} (ho : s.heap.get? it = some o) (hc : o.cls = .type n) (hd : o.data = .fields vs)
    (hn : ["enumerate", "zip", "dict_itemiterator", "dict_reverseitemiterator", "odict_iterator", "itertools.zip_longest", "itertools.pairwise"].contains n = false) (hQ : Q () s) : wpAny M A (letOwnedTupleGo tg (.ref it) u) Q E s := by
  unfold letOwnedTupleGo
  cases tg <;> first
    | exact wpAny_pure hQ
    | (cases u <;> first
        | exact wpAny_pure hQ
        | (refine wpAny_bind (wpAny_load ho ?_)
           rw [hc, hd]
           show wpAny M A (if (["enumerate", "zip", "dict_itemiterator", "dict_reverseitemiterator", "odict_iterator", "itertools.zip_longest", "itertools.pairwise"].contains n && vs[0]? == some (rawInt _)) = true then _ else _) Q E s
           rw [if_neg (by intro h; rw [hn, Bool.false_and] at h; cases h)]
           exact wpAny_pure hQ))
def Itl (K : PySem.W.Frag) (a : Addr) : It :=
  ⟨fun i H => ∃ xs x, SqL K H a xs ∧ xs[i]? = some x, fun i H x H' => H' = H ∧ ∀ xs, SqL K H a xs → xs[i]? = some x, fun i H => ∃ xs, SqL K H a xs ∧ xs.length ≤ i⟩
def Itr (lo : Int) (n : Nat) : It := ⟨fun i _ => i < n, fun i H x H' => H' = H ∧ x = .int (lo + i), fun i _ => n ≤ i⟩
theorem turn_list {P : Program} {w : World} {K : PySem.W.Frag} {tg : Expr} (a it : Addr) : Turn P w K tg (Itl K a) [it] it (fun i h => h.IsListIter it a i) where
  mem := by simp
  obj := fun i h st b hb => by
    have e : b = it := by simpa using hb
    subst e
    obtain ⟨o, e, c, d⟩ := st
    exact ⟨o, e, fun v z => by rw [d] at z; cases z⟩
  keep := fun i h h' st k => st.at fun o e => k it (by simp) o e
  item := by
    intro X hP hw hK hc i pins s σ H E I hf st hg
    subst hP hw hK
    obtain ⟨xs, x, hq, hx⟩ := hg
    obtain ⟨its, rv, p, hz⟩ := I.list hq
    obtain ⟨u, hu, ru⟩ := rv.get hx
    obtain ⟨f0, f1, f2, f3, f4, f5⟩ := hf it (by simp)
    refine wpAny_pyNext_list_item st p.isList (x := u) (by simpa using hu) fun h' st' sb => ?_
    have I1 : Inv X pins σ H { s with heap := h' } := I.turned (t' := s.toks) (fun b o hb e => (sb.2 b hb).trans e) f0 f1 f3 f4 f5
    obtain ⟨o, e, c, d⟩ := id st'
    exact ⟨u, rfl, go_of (s := { s with heap := h' }) e c d (by decide) ⟨x, H, I1, ru, ⟨rfl, fun ys hy => by rw [I.list_inj hy hq]; exact hx⟩, st', fun b hb => (hf b hb).1⟩⟩
  done := by
    intro X hP hw hK hc i pins s σ H E I hf st hg
    subst hP hw hK
    obtain ⟨xs, hq, hx⟩ := hg
    obtain ⟨its, rv, p, hz⟩ := I.list hq
    obtain ⟨f0, f1, f2, f3, f4, f5⟩ := hf it (by simp)
    have hl := rv.length
    exact wpAny_pyNext_list_end (I.ok.hd hc) st p.isList (by simp; omega) fun h' eb => ⟨rfl, I.turned (t' := s.toks) (fun b o hb e => eb b o hb e) f0 f1 f3 f4 f5⟩
  self := fun _ _ _ _ _ st h => wpAny_pyIter_listiter st h
theorem turn_range {P : Program} {w : World} {K : PySem.W.Frag} {tg : Expr} (it : Addr) (lo : Int) (n : Nat) : Turn P w K tg (Itr lo n) [it] it (fun i h => IsRangeIter h it (lo + (i : Nat) * 1) ((n : Int) - (i : Nat)) 1) where
  mem := by simp
  obj := fun i h st b hb => by
    have e : b = it := by simpa using hb
    subst e
    exact ⟨_, st, fun v z => by
      have z' : Data.fields _ = Data.cell v := z
      cases z'⟩
  keep := fun i h h' st k => k it (by simp) _ st
  item := by
    intro X hP hw hK hc i pins s σ H E I hf st hg
    subst hP hw hK
    obtain ⟨f0, f1, f2, f3, f4, f5⟩ := hf it (by simp)
    have W := Walks.range (prog := X.prog) (w := X.w) (I.ok.hd hc) it lo 1 n
    refine W.item i s _ _ hg st fun v h' tk hv st' kk => ?_
    obtain ⟨t, rfl⟩ := hv
    have I1 : Inv X pins σ H { s with heap := h', toks := tk } := I.turned (fun b o hb e => kk b o (by simpa using hb) e) f0 f1 f3 f4 f5
    refine ⟨_, rfl, go_of (s := { s with heap := h', toks := tk }) (n := "range_iterator") st' rfl rfl (by decide) ⟨.int (lo + i), H, I1, ⟨t, ?_⟩, ⟨rfl, rfl⟩, st', fun b hb => (hf b hb).1⟩⟩
    rw [Int.mul_one]
  done := by
    intro X hP hw hK hc i pins s σ H E I hf st hg
    subst hP hw hK
    obtain ⟨f0, f1, f2, f3, f4, f5⟩ := hf it (by simp)
    exact wpAny_pyNext_range_end (I.ok.hd hc) st (by have : n ≤ i := hg; omega) fun h' eb => ⟨rfl, I.turned (t' := s.toks) (fun b o hb e => eb b o hb e) f0 f1 f3 f4 f5⟩
  self := fun _ _ _ _ _ st h => wpAny_pyIter_rangeiter st h
end L2
namespace L2
open PySem PySem.Spec PyProof.Rows
section
variable {X : Cx} {tg : Expr}
def iList (K : PySem.W.Frag) (tl : TE) : TI := fun σ H R => tl σ H fun x H1 => ∃ a, x = .ref a ∧ (∃ xs, SqL K H1 a xs) ∧ R (Itl K a) H1
theorem pi_list {l : Expr} {tl : TE} (hl : PE X l tl) : PI X tg l (iList X.K tl) := by
  intro pins s σ H R I h
  refine thn (hl pins s σ H _ I h) fun v s1 ⟨x, H1, I1, r1, q1⟩ => ?_
  obtain ⟨a, e, ⟨xs, hq⟩, q⟩ := q1
  subst e
  cases r1
  obtain ⟨its, rv, p, hz⟩ := I1.list hq
  refine wpAny_pyIter_list p.isList ?_
  refine ⟨s1.heap.objs.size, [s1.heap.objs.size], _, _, H1, rfl, I1.kept (t' := s1.toks) fun b o e => Heap.get?_push_of_some _ e, turn_list a _, ⟨_, Heap.get?_push_size _ rfl, rfl, rfl⟩, fun b hb => ?_, q⟩
  have e : b = s1.heap.objs.size := by simpa using hb
  subst e
  exact I1.fpOk (Nat.le_refl _) (I1.hok.fresh (Nat.le_refl _))
theorem range_it {pins : List (Addr × Obj)} {σ : St} {H : Hp} {s : Shared} {R : It → Hp → Prop} {E : Value → Shared → Prop} {lo hi : Int} {t u v : Tok} {tk : Nat} (I : Inv X pins σ H s) (h1 : -(2 ^ 62) ≤ lo) (h2 : lo < 2 ^ 62) (h3 : -(2 ^ 62) ≤ hi) (h4 : hi < 2 ^ 62)
    (q : R (Itr lo (hi - lo).toNat) H) : wpAny (model X.prog X.w) X.A (pyIter (.ref s.heap.objs.size)) (PIE X pins σ tg R) E { s with heap := s.heap.push { cls := .type "range", data := .fields #[.int lo t, .int hi u, .int 1 v] }, toks := tk } := by
  refine wpAny_pyIter_range (IsRange.new ..) (small_one h1 h2 h3 h4) ?_
  have I1 : Inv X pins σ H { s with heap := s.heap.push { cls := .type "range", data := .fields #[.int lo t, .int hi u, .int 1 v] }, toks := tk } := I.kept fun b o e => Heap.get?_push_of_some _ e
  refine ⟨(s.heap.push { cls := .type "range", data := .fields #[.int lo t, .int hi u, .int 1 v] }).objs.size, [(s.heap.push { cls := .type "range", data := .fields #[.int lo t, .int hi u, .int 1 v] }).objs.size], _, _, H, rfl,
    I1.kept (t' := tk) fun b o e => Heap.get?_push_of_some _ e, turn_range _ lo (hi - lo).toNat, ?_, fun b hb => ?_, q⟩
  · have e1 : lo + ((0 : Nat) : Int) * 1 = lo := by simp
    have e2 : (((hi - lo).toNat : Nat) : Int) - ((0 : Nat) : Int) = Builtin.Range.rangeSize lo hi 1 := by rw [rangeSize_one]; split <;> omega
    show IsRangeIter _ _ (lo + ((0 : Nat) : Int) * 1) ((((hi - lo).toNat : Nat) : Int) - ((0 : Nat) : Int)) 1
    rw [e1, e2]
    exact Heap.get?_push_size _ rfl
  · have e : b = (s.heap.push { cls := .type "range", data := .fields #[.int lo t, .int hi u, .int 1 v] }).objs.size := by simpa using hb
    subst e
    exact I1.fpOk (Nat.le_refl _) (I1.hok.fresh (Nat.le_refl _))
def iRng1 (ta : TA) : TI := fun σ H R => ta σ H fun vs H1 => ∃ j : Int, vs = [.int j] ∧ -(2 ^ 62) ≤ j ∧ j < 2 ^ 62 ∧ R (Itr 0 j.toNat) H1
theorem pi_range1 {a : Expr} {ta : TA} {p pos : Pos} (hg : Gl X "range") (hm : X.mg "range" = none) (ha : PA X [a] ta) (hs : starEach [a] X.env = [(false, eval a X.env)] := by rfl) : PI X tg (.Call (.Name "range" p) [a] [] pos) (iRng1 ta) := by
  intro pins s σ H R I h
  refine Call_ (ld_blt I hg hm boot_range (PyProof.Rows.callWith_type1 (thn (ha pos pins s σ H _ I h) fun us s1 ⟨vs, H1, I1, r1, q1⟩ => ?_) hs rfl))
  obtain ⟨j, e, q1, q2, q⟩ := q1
  subst e
  cases r1 with
  | cons r rr =>
    cases rr
    obtain ⟨t, rfl⟩ := r
    exact call_range_1 (range_it I1 (by omega) (by omega) q1 q2 (by simpa using q))
def tFor (wi : TI) (g : TG) (tb : TS) : TS := fun D σ H => wi σ H fun J H1 => ∃ W : Nat → Nat → St → Hp → Prop, (∃ m, W 0 m σ H1) ∧ ∀ i m σ H, W i m σ H →
  (J.stop i H ∧ D.nx σ H) ∨ (J.go i H ∧ ∃ N : St → Hp → Prop, (∀ σ' H', N σ' H' → ∃ m', m' < m ∧ W (i + 1) m' σ' H') ∧ ∀ x H', J.yld i H x H' → g x σ H' fun σ2 H2 => tb { D with nx := N, ct := N, bk := D.nx } σ2 H2)
def pinsAt (fp : List Addr) (h : Heap) : List (Addr × Obj) := fp.filterMap fun b => (h.get? b).map fun o => (b, o)
theorem mem_pinsAt {fp : List Addr} {h : Heap} {b : Addr} {o : Obj} (hb : b ∈ fp) (e : h.get? b = some o) : (b, o) ∈ pinsAt fp h := List.mem_filterMap.mpr ⟨b, hb, by rw [e]; rfl⟩
theorem of_pinsAt {fp : List Addr} {h : Heap} {p : Addr × Obj} (hp : p ∈ pinsAt fp h) : p.1 ∈ fp ∧ h.get? p.1 = some p.2 := by
  obtain ⟨b, hb, e⟩ := List.mem_filterMap.mp hp
  cases q : h.get? b with
  | none => rw [q] at e; cases e
  | some o =>
    rw [q] at e
    have e' : (b, o) = p := Option.some.inj e
    subst e'
    exact ⟨hb, q⟩
theorem Inv.pinned {pins : List (Addr × Obj)} {σ : St} {H : Hp} {s : Shared} {fp : List Addr} (I : Inv X pins σ H s) (hf : ∀ b ∈ fp, FpOk X pins H b) (ho : ∀ b ∈ fp, ∃ o, s.heap.get? b = some o ∧ ∀ v, o.data ≠ .cell v) : Inv X (pins ++ pinsAt fp s.heap) σ H s :=
  I.pins_of fun p hp => (List.mem_append.mp hp).elim (fun z => I.pin p (List.mem_append_right _ z)) fun z => by
    obtain ⟨hb, e⟩ := of_pinsAt z
    obtain ⟨f0, f1, f2, _⟩ := hf p.1 hb
    obtain ⟨o, e', d⟩ := ho p.1 hb
    rw [e] at e'; cases e'
    exact ⟨e, f0, f1, f2, d⟩
theorem Inv.unpinned {pins pl : List (Addr × Obj)} {σ : St} {H : Hp} {s : Shared} (I : Inv X (pins ++ pl) σ H s) : Inv X pins σ H s := I.pins_of fun p hp => I.pin p (List.mem_append_right _ (List.mem_append_left _ hp))
theorem ps_for {iter : Expr} {body : List Stmt} {wi : TI} {g : TG} {tb : TS} {pos : Pos} (hp : PassesOwn (model X.prog X.w) X.A X.env X.xe) (hc : X.calm = true) (hi : PI X tg iter wi) (hg : PG X tg g) (hb : PSs X body tb)
    (hs : ∀ x, foldedSetIterable iter X.env x = pure x := by intro _; rfl) : PS X (.For tg iter body [] pos) (tFor wi g tb) := by
  intro pins s σ H D I h
  refine wpAny_For (thn (hi pins s σ H _ I h) fun v s1 h1 => thn h1 fun itv s2 h2 => ?_) hs
  obtain ⟨it, fp, tn, J, H2, e, I2, T, st2, f2, W, ⟨m0, w0⟩, turn⟩ := h2
  subst e
  have stat : ∀ {H' : Hp}, (∀ b ∈ fp, H' b = none) → ∀ b ∈ fp, FpOk X pins H' b := fun hn b hb => ⟨hn b hb, (f2 b hb).2⟩
  refine codeAny_forLoop_any (fun n s' => ∃ i σ' H', Inv X pins σ' H' s' ∧ tn i s'.heap ∧ (∀ b ∈ fp, H' b = none) ∧ W i n σ' H') ?_ m0 ⟨0, σ, H2, I2, st2, fun b hb => (f2 b hb).1, w0⟩
  rintro n s3 ⟨i, σ3, H3, I3, st3, fr3, w3⟩
  rcases turn i n σ3 H3 w3 with ⟨stop, qn⟩ | ⟨go, N, hN, step⟩
  · refine wpAny_passesOwn hp (thn (T.done X rfl rfl rfl hc i pins s3 σ3 H3 X.xe I3 (stat fr3) st3 stop) fun r s4 ⟨hr, I4⟩ => ?_)
    subst hr
    exact wpAny_execs_nil ⟨σ3, H3, I4, qn⟩
  · refine wpAny_passesOwn hp (thn (T.item X rfl rfl rfl hc i pins s3 σ3 H3 X.xe I3 (stat fr3) st3 go) fun r s4 ⟨u, hr, h4⟩ => ?_)
    subst hr
    refine wpAny_passesOwn hp (thn h4 fun _ s5 ⟨x, H5, I5, r5, y5, st5, fr5⟩ => ?_)
    have I5' := I5.pinned (stat fr5) (T.obj _ _ st5)
    refine wpAny_passesOwn hp (thn (hg _ s5 σ3 H5 x u _ I5' r5 (step x H5 y5)) fun _ s6 ⟨σ6, H6, I6, q6⟩ => ?_)
    refine wpAny_passesOwn hp (thn (hb _ s6 σ6 H6 _ I6 q6) fun f s7 q7 => ?_)
    have again : ∀ {σ7 : St} {H7 : Hp}, Inv X (pins ++ pinsAt fp s5.heap) σ7 H7 s7 → N σ7 H7 → ∃ m, m < n ∧ ∃ i σ' H', Inv X pins σ' H' s7 ∧ tn i s7.heap ∧ (∀ b ∈ fp, H' b = none) ∧ W i m σ' H' := fun {σ7 H7} I7 n7 => by
      obtain ⟨m', hm, w7⟩ := hN σ7 H7 n7
      refine ⟨m', hm, i + 1, σ7, H7, I7.unpinned, T.keep _ _ _ st5 fun b hb o e => (I7.pin (b, o) (List.mem_append_right _ (List.mem_append_right _ (mem_pinsAt hb e)))).1, fun b hb => ?_, w7⟩
      obtain ⟨o, e, d⟩ := T.obj _ _ st5 b hb
      exact (I7.pin (b, o) (List.mem_append_right _ (List.mem_append_right _ (mem_pinsAt hb e)))).2.1
    cases f with
    | next => obtain ⟨σ7, H7, I7, n7⟩ := q7; exact again I7 n7
    | cont => obtain ⟨σ7, H7, I7, n7⟩ := q7; exact again I7 n7
    | brk => obtain ⟨σ7, H7, I7, q7⟩ := q7; exact ⟨σ7, H7, I7.unpinned, q7⟩
    | ret v => obtain ⟨x7, σ7, H7, I7, r7, q7⟩ := q7; exact ⟨x7, σ7, H7, I7.unpinned, r7, q7⟩
end
theorem for_list {K : PySem.W.Frag} {a : Addr} {xs : List V} {g : TG} {tb : TS} {D : Ends} {σ : St} {H : Hp} (Pv : Nat → St → Hp → Prop) (h0 : Pv 0 σ H) (hl : ∀ i σ H, i ≤ xs.length → Pv i σ H → SqL K H a xs)
    (hs : ∀ i x σ H, xs[i]? = some x → Pv i σ H → g x σ H fun σ2 H2 => tb { D with nx := Pv (i + 1), ct := Pv (i + 1), bk := D.nx } σ2 H2) (hd : ∀ σ H, Pv xs.length σ H → D.nx σ H) :
    ∃ W : Nat → Nat → St → Hp → Prop, (∃ m, W 0 m σ H) ∧ ∀ i m σ H, W i m σ H →
      ((Itl K a).stop i H ∧ D.nx σ H) ∨ ((Itl K a).go i H ∧ ∃ N : St → Hp → Prop, (∀ σ' H', N σ' H' → ∃ m', m' < m ∧ W (i + 1) m' σ' H') ∧ ∀ x H', (Itl K a).yld i H x H' → g x σ H' fun σ2 H2 => tb { D with nx := N, ct := N, bk := D.nx } σ2 H2) := by
  refine ⟨fun i m σ H => m = xs.length - i ∧ i ≤ xs.length ∧ Pv i σ H, ⟨xs.length, by simp, Nat.zero_le _, h0⟩, ?_⟩
  rintro i m σ H ⟨rfl, hi, p⟩
  have q := hl i σ H hi p
  by_cases hlt : i < xs.length
  · refine .inr ⟨⟨xs, xs[i], q, by simp [hlt]⟩, Pv (i + 1), fun σ' H' p' => ⟨xs.length - (i + 1), by omega, rfl, hlt, p'⟩, fun x H' y => ?_⟩
    obtain ⟨e, y⟩ := y
    subst e
    exact hs i x σ _ (y xs q) p
  · have e : i = xs.length := by omega
    subst e
    exact .inl ⟨⟨xs, q, Nat.le_refl _⟩, hd σ H p⟩
theorem for_range {lo : Int} {n : Nat} {g : TG} {tb : TS} {D : Ends} {σ : St} {H : Hp} (Pv : Nat → St → Hp → Prop) (h0 : Pv 0 σ H)
    (hs : ∀ i σ H, i < n → Pv i σ H → g (.int (lo + i)) σ H fun σ2 H2 => tb { D with nx := Pv (i + 1), ct := Pv (i + 1), bk := D.nx } σ2 H2) (hd : ∀ σ H, Pv n σ H → D.nx σ H) :
    ∃ W : Nat → Nat → St → Hp → Prop, (∃ m, W 0 m σ H) ∧ ∀ i m σ H, W i m σ H →
      ((Itr lo n).stop i H ∧ D.nx σ H) ∨ ((Itr lo n).go i H ∧ ∃ N : St → Hp → Prop, (∀ σ' H', N σ' H' → ∃ m', m' < m ∧ W (i + 1) m' σ' H') ∧ ∀ x H', (Itr lo n).yld i H x H' → g x σ H' fun σ2 H2 => tb { D with nx := N, ct := N, bk := D.nx } σ2 H2) := by
  refine ⟨fun i m σ H => m = n - i ∧ i ≤ n ∧ Pv i σ H, ⟨n, by simp, Nat.zero_le _, h0⟩, ?_⟩
  rintro i m σ H ⟨rfl, hi, p⟩
  by_cases hlt : i < n
  · refine .inr ⟨hlt, Pv (i + 1), fun σ' H' p' => ⟨n - (i + 1), by omega, rfl, hlt, p'⟩, fun x H' y => ?_⟩
    obtain ⟨e, y⟩ := y
    subst e y
    exact hs i σ _ hlt p
  · have e : i = n := by omega
    subst e
    exact .inl ⟨Nat.le_refl _, hd σ H p⟩
end L2
namespace L2
open PySem PySem.Spec PyProof.Rows
abbrev R2 := V → V → Hp → VK → Prop
def OpR (X : Cx) (f : Value → Value → Sem Value) (r : R2) : Prop :=
  ∀ (pins : List (Addr × Obj)) (s : Shared) (σ : St) (H : Hp) (x y : V) (v u : Value) (Q : VK), Inv X pins σ H s → RelV x v → RelV y u → r x y H Q →
    wpAny (model X.prog X.w) X.A (f v u) (EP X pins σ Q) X.xe s
def CallR (X : Cx) (f : Value) (r : List V → Hp → VK → Prop) : Prop :=
  ∀ (pins : List (Addr × Obj)) (s : Shared) (σ : St) (H : Hp) (xs : List V) (us : List Value) (Q : VK), Inv X pins σ H s → Vals xs us → r xs H Q →
    wpAny (model X.prog X.w) X.A (call f us) (EP X pins σ Q) X.xe s
def tOp (r : R2) (ta tb : TE) : TE := fun σ H Q => ta σ H fun x H1 => tb σ H1 fun y H2 => r x y H2 Q
def rI (C : Int → Int → Prop) (g : Int → Int → V) : R2 := fun x y H Q => ∃ i j, x = .int i ∧ y = .int j ∧ C i j ∧ Q (g i j) H
def rI0 (g : Int → Int → V) : R2 := fun x y H Q => ∃ i j, x = .int i ∧ y = .int j ∧ Q (g i j) H
section
variable {X : Cx} {a b c : Expr} {ta tb tc : TE} {pos : Pos}
theorem binT (ha : PE X a ta) (hb : PE X b tb) {pins : List (Addr × Obj)} {s : Shared} {σ : St} {H : Hp} {R : V → V → Hp → Prop} (I : Inv X pins σ H s)
    (h : ta σ H fun x H1 => tb σ H1 fun y H2 => R x y H2) {Q : Value → Shared → Prop} {f : Value → Value → Sem Value}
    (hf : ∀ v u s2 x y H2, Inv X pins σ H2 s2 → RelV x v → RelV y u → R x y H2 → wpAny (model X.prog X.w) X.A (f v u) Q X.xe s2) :
    wpAny (model X.prog X.w) X.A (eval a X.env) (fun v s₁ => wpAny (model X.prog X.w) X.A (eval b X.env) (fun u s₂ => wpAny (model X.prog X.w) X.A (f v u) Q X.xe s₂) X.xe s₁) X.xe s := by
  refine thn (ha pins s σ H _ I h) fun v s1 ⟨x, H1, I1, r1, q1⟩ => ?_
  refine thn (hb pins s1 σ H1 _ I1 q1) fun u s2 ⟨y, H2, I2, r2, q2⟩ => ?_
  exact hf v u s2 x y H2 I2 r1 r2 q2
theorem pe_op {op : Operator} {r : R2} (ho : OpR X (binaryOp op) r) (ha : PE X a ta) (hb : PE X b tb) : PE X (.BinOp a op b pos) (tOp r ta tb) := by
  intro pins s σ H Q I h
  exact wpAny_BinOp (binT ha hb I h fun v u s2 x y H2 I2 rx ry q => ho pins s2 σ H2 x y v u Q I2 rx ry q)
theorem opI {f : Value → Value → Sem Value} {C : Int → Int → Prop} {g : Int → Int → Int}
    (rule : ∀ (i j : Int) (t u : Tok) (s : Shared) (Q : Value → Shared → Prop) (E : Value → Shared → Prop), C i j → Q (.int (g i j) s.toks) { s with toks := s.toks + 1 } → wpAny (model X.prog X.w) X.A (f (.int i t) (.int j u)) Q E s) :
    OpR X f (rI C fun i j => .int (g i j)) := by
  intro pins s σ H x y v u Q I rx ry h
  obtain ⟨i, j, rfl, rfl, hc, q⟩ := h
  obtain ⟨t, rfl⟩ := rx
  obtain ⟨t', rfl⟩ := ry
  exact rule i j t t' s _ _ hc ⟨.int (g i j), H, I.tok _, ⟨_, rfl⟩, q⟩
theorem opI0 {f : Value → Value → Sem Value} {g : Int → Int → Int}
    (rule : ∀ (i j : Int) (t u : Tok) (s : Shared) (Q : Value → Shared → Prop) (E : Value → Shared → Prop), Q (.int (g i j) s.toks) { s with toks := s.toks + 1 } → wpAny (model X.prog X.w) X.A (f (.int i t) (.int j u)) Q E s) :
    OpR X f (rI0 fun i j => .int (g i j)) := by
  intro pins s σ H x y v u Q I rx ry h
  obtain ⟨i, j, rfl, rfl, q⟩ := h
  obtain ⟨t, rfl⟩ := rx
  obtain ⟨t', rfl⟩ := ry
  exact rule i j t t' s _ _ ⟨.int (g i j), H, I.tok _, ⟨_, rfl⟩, q⟩
theorem opB0 {f : Value → Value → Sem Value} {g : Int → Int → Bool}
    (rule : ∀ (i j : Int) (t u : Tok) (s : Shared) (Q : Value → Shared → Prop) (E : Value → Shared → Prop), Q (.bool (g i j)) s → wpAny (model X.prog X.w) X.A (f (.int i t) (.int j u)) Q E s) :
    OpR X f (rI0 fun i j => .bl (g i j)) := by
  intro pins s σ H x y v u Q I rx ry h
  obtain ⟨i, j, rfl, rfl, q⟩ := h
  obtain ⟨t, rfl⟩ := rx
  obtain ⟨t', rfl⟩ := ry
  exact rule i j t t' s _ _ ⟨.bl (g i j), H, I, rfl, q⟩
def CDiv (i j : Int) : Prop := 0 < j ∧ j < 1073741824
def CPow (i j : Int) : Prop := 0 ≤ j ∧ j ≤ 1000000 ∧ i.natAbs < 2 ^ 64
def CMul (i j : Int) : Prop := (-(2 ^ 64) < i ∧ i < 2 ^ 64) ∨ (-(2 ^ 64) < j ∧ j < 2 ^ 64)
theorem CMul.ok {i j : Int} (h : CMul i j) : IntMulOk i j := by
  rcases h with ⟨h1, h2⟩ | ⟨h1, h2⟩
  · exact .of_left (intBits_le_64 h1 h2)
  · exact .of_right (intBits_le_64 h1 h2)
theorem op_add : OpR X (binaryOp .Add) (rI0 fun i j => .int (i + j)) := opI0 fun _ _ _ _ _ _ _ q => add_int q
theorem op_mul : OpR X (binaryOp .Mult) (rI CMul fun i j => .int (i * j)) := opI fun _ _ _ _ _ _ _ hc q => mul_int q hc.ok
theorem op_fdiv : OpR X (binaryOp .FloorDiv) (rI CDiv fun i j => .int (i / j)) := opI fun i j _ _ _ _ _ hc q => by
  have h1 : (0 : Int) < j := hc.1
  have h2 : j < 1073741824 := hc.2
  exact floordiv_int (by omega) (by rw [Int.fdiv_eq_ediv_of_nonneg i (by omega)]; exact q) (.inl (PyProof.noPylong_small (by omega)))
theorem op_mod : OpR X (binaryOp .Mod) (rI (fun _ j => 0 < j) fun i j => .int (i % j)) := opI fun i j _ _ _ _ _ hc q => by
  have h1 : (0 : Int) < j := hc
  exact mod_int' (by omega) (by rw [Int.fmod_eq_emod_of_nonneg i (by omega)]; exact q)
theorem op_pow : OpR X (binaryOp .Pow) (rI CPow fun i j => .int (i ^ j.toNat)) := opI fun _ _ _ _ _ _ _ hc q => pow_int_small hc.1 hc.2.1 hc.2.2 q
end
def scal : V → V → Bool
  | .non, .non => true | .non, .int _ => true | .int _, .non => true | .non, .bl _ => true | .bl _, .non => true | .non, .str _ => true | .str _, .non => true
  | .int _, .int _ => true | .bl _, .bl _ => true | .str _, .str _ => true | .byt _, .byt _ => true
  | .int _, .str _ => true | .str _, .int _ => true | .bl _, .str _ => true | .str _, .bl _ => true
  | _, _ => false
def rEq : R2 := fun x y H Q => scal x y = true ∧ Q (.bl (decide (x = y))) H
def rNe : R2 := fun x y H Q => scal x y = true ∧ Q (.bl (!decide (x = y))) H
theorem dec_int {i j : Int} : decide (V.int i = V.int j) = (i == j) := by
  rw [Bool.eq_iff_iff]
  simp
theorem dec_bl {i j : Bool} : decide (V.bl i = V.bl j) = (i == j) := by
  rw [Bool.eq_iff_iff]
  simp
theorem dec_str {i j : Str} : decide (V.str i = V.str j) = (i == j) := by
  rw [Bool.eq_iff_iff]
  simp
theorem dec_byt {i j : Array UInt8} : decide (V.byt i = V.byt j) = (i.toList == j.toList) := by
  rw [Bool.eq_iff_iff]
  cases i
  cases j
  simp
section
variable {X : Cx} {a b c : Expr} {ta tb tc : TE} {pos : Pos}
theorem fin_bl {pins : List (Addr × Obj)} {σ : St} {H : Hp} {s : Shared} {Q : VK} {k k' : Bool} (I : Inv X pins σ H s) (q : Q (.bl k) H) (e : k = k') : EP X pins σ Q (.bool k') s := by
  subst e
  exact ⟨.bl k, H, I, rfl, q⟩
theorem op_eq : OpR X (compareOp .Eq) rEq := by
  intro pins s σ H x y v u Q I rx ry h
  obtain ⟨hs, q⟩ := h
  cases x with
  | non =>
    cases rx
    cases y with
    | non => cases ry; exact PySem.EqNone.eq_none_none (fin_bl I q (by simp))
    | bl j => cases ry; exact PySem.EqNone.eq_none_bool (fin_bl I q (by simp))
    | int j => obtain ⟨t', rfl⟩ := ry; exact PySem.EqNone.eq_none_int (fin_bl I q (by simp))
    | str j => obtain ⟨t', rfl⟩ := ry; exact PySem.EqNone.eq_none_str (fin_bl I q (by simp))
    | _ => exact absurd (show false = true from hs) Bool.false_ne_true
  | bl i =>
    cases rx
    cases y with
    | non => cases ry; exact PySem.EqNone.eq_bool_none (fin_bl I q (by simp))
    | bl j => cases ry; exact eq_bool (fin_bl I q dec_bl)
    | str j => obtain ⟨t', rfl⟩ := ry; exact PySem.EqMixed.eq_bool_str (fin_bl I q (by simp))
    | _ => exact absurd (show false = true from hs) Bool.false_ne_true
  | int i =>
    obtain ⟨t, rfl⟩ := rx
    cases y with
    | non => cases ry; exact PySem.EqNone.eq_int_none (fin_bl I q (by simp))
    | int j => obtain ⟨t', rfl⟩ := ry; exact eq_int (fin_bl I q dec_int)
    | str j => obtain ⟨t', rfl⟩ := ry; exact PySem.EqMixed.eq_int_str (fin_bl I q (by simp))
    | _ => exact absurd (show false = true from hs) Bool.false_ne_true
  | str i =>
    obtain ⟨t, rfl⟩ := rx
    cases y with
    | non => cases ry; exact PySem.EqNone.eq_str_none (fin_bl I q (by simp))
    | bl j => cases ry; exact PySem.EqMixed.eq_str_bool (fin_bl I q (by simp))
    | int j => obtain ⟨t', rfl⟩ := ry; exact PySem.EqMixed.eq_str_int (fin_bl I q (by simp))
    | str j => obtain ⟨t', rfl⟩ := ry; exact eq_str (fin_bl I q dec_str)
    | _ => exact absurd (show false = true from hs) Bool.false_ne_true
  | byt i =>
    obtain ⟨t, rfl⟩ := rx
    cases y with
    | byt j => obtain ⟨t', rfl⟩ := ry; exact PySem.W.eq_bytes (fin_bl I q dec_byt)
    | _ => exact absurd (show false = true from hs) Bool.false_ne_true
  | _ => cases y <;> exact absurd (show false = true from hs) Bool.false_ne_true
theorem op_ne : OpR X (compareOp .NotEq) rNe := by
  intro pins s σ H x y v u Q I rx ry h
  obtain ⟨hs, q⟩ := h
  cases x with
  | non =>
    cases rx
    cases y with
    | non => cases ry; exact PySem.EqNone.ne_none_none (fin_bl I q (by simp))
    | bl j => cases ry; exact PySem.EqNone.ne_none_bool (fin_bl I q (by simp))
    | int j => obtain ⟨t', rfl⟩ := ry; exact PySem.EqNone.ne_none_int (fin_bl I q (by simp))
    | str j => obtain ⟨t', rfl⟩ := ry; exact PySem.EqNone.ne_none_str (fin_bl I q (by simp))
    | _ => exact absurd (show false = true from hs) Bool.false_ne_true
  | bl i =>
    cases rx
    cases y with
    | non => cases ry; exact PySem.EqNone.ne_bool_none (fin_bl I q (by simp))
    | bl j => cases ry; exact ne_bool (fin_bl I q (congrArg not dec_bl))
    | str j => obtain ⟨t', rfl⟩ := ry; exact PySem.EqMixed.ne_bool_str (fin_bl I q (by simp))
    | _ => exact absurd (show false = true from hs) Bool.false_ne_true
  | int i =>
    obtain ⟨t, rfl⟩ := rx
    cases y with
    | non => cases ry; exact PySem.EqNone.ne_int_none (fin_bl I q (by simp))
    | int j => obtain ⟨t', rfl⟩ := ry; exact ne_int (fin_bl I q (congrArg not dec_int))
    | str j => obtain ⟨t', rfl⟩ := ry; exact PySem.EqMixed.ne_int_str (fin_bl I q (by simp))
    | _ => exact absurd (show false = true from hs) Bool.false_ne_true
  | str i =>
    obtain ⟨t, rfl⟩ := rx
    cases y with
    | non => cases ry; exact PySem.EqNone.ne_str_none (fin_bl I q (by simp))
    | bl j => cases ry; exact PySem.EqMixed.ne_str_bool (fin_bl I q (by simp))
    | int j => obtain ⟨t', rfl⟩ := ry; exact PySem.EqMixed.ne_str_int (fin_bl I q (by simp))
    | str j => obtain ⟨t', rfl⟩ := ry; exact ne_str (fin_bl I q (congrArg not dec_str))
    | _ => exact absurd (show false = true from hs) Bool.false_ne_true
  | byt i =>
    obtain ⟨t, rfl⟩ := rx
    cases y with
    | byt j => obtain ⟨t', rfl⟩ := ry; exact PySem.W.ne_bytes (fin_bl I q (congrArg not dec_byt))
    | _ => exact absurd (show false = true from hs) Bool.false_ne_true
  | _ => cases y <;> exact absurd (show false = true from hs) Bool.false_ne_true
theorem op_lt : OpR X (compareOp .Lt) (rI0 fun i j => .bl (decide (i < j))) := opB0 fun _ _ _ _ _ _ _ q => lt_int q
theorem op_le : OpR X (compareOp .LtE) (rI0 fun i j => .bl (decide (i ≤ j))) := opB0 fun _ _ _ _ _ _ _ q => le_int q
theorem op_gt : OpR X (compareOp .Gt) (rI0 fun i j => .bl (decide (j < i))) := opB0 fun _ _ _ _ _ _ _ q => gt_int q
theorem op_in_str : OpR X (compareOp .In) (fun x y H Q => ∃ i j, x = .str i ∧ y = .str j ∧ Q (.bl (!(Builtin.Str.occurrences j i 0 j.length 1).isEmpty)) H) := by
  intro pins s σ H x y v u Q I rx ry h
  obtain ⟨i, j, rfl, rfl, q⟩ := h
  obtain ⟨t, rfl⟩ := rx
  obtain ⟨t', rfl⟩ := ry
  exact in_str (fin_bl I q rfl)
theorem OpR.or {f : Value → Value → Sem Value} {r r' : R2} (h : OpR X f r) (h' : OpR X f r') : OpR X f (fun x y H Q => r x y H Q ∨ r' x y H Q) := by
  intro pins s σ H x y v u Q I rx ry q
  rcases q with q | q
  · exact h pins s σ H x y v u Q I rx ry q
  · exact h' pins s σ H x y v u Q I rx ry q
theorem nomark (b : Expr) {op : CmpOp} (h : op ≠ .In := by decide) (h2 : op ≠ .NotIn := by decide) : behindInMarks op b = false := by
  have e1 : (op == CmpOp.In) = false := by cases op <;> first | rfl | exact absurd rfl h
  have e2 : (op == CmpOp.NotIn) = false := by cases op <;> first | rfl | exact absurd rfl h2
  cases b <;> simp [behindInMarks, e1, e2]
theorem pe_cmpR {op : CmpOp} {r : R2} (ho : OpR X (compareOp op) r) (ha : PE X a ta) (hb : PE X b tb) (hm : behindInMarks op b = false) : PE X (.Compare a [op] [b] pos) (tOp r ta tb) := by
  intro pins s σ H Q I h
  exact wpAny_Compare1 (binT ha hb I h fun v u s2 x y H2 I2 rx ry q => ho pins s2 σ H2 x y v u Q I2 rx ry q) hm
def tTest (t : TE) : TT := fun σ H Q => t σ H fun x H' => ∃ k, x = .bl k ∧ Q k H'
theorem pt_cmpR {op : CmpOp} {r : R2} (ho : OpR X (compareOp op) r) (ha : PE X a ta) (hb : PE X b tb) (hm : behindInMarks op b = false) : PT X (.Compare a [op] [b] pos) (tTest (tOp r ta tb)) := by
  intro pins s σ H Q I h
  refine wpAny_isTrue_Compare1 (thn (ha pins s σ H _ I h) fun v s1 ⟨x, H1, I1, r1, q1⟩ => thn (hb pins s1 σ H1 _ I1 q1) fun u s2 ⟨y, H2, I2, r2, q2⟩ =>
    thn (ho pins s2 σ H2 x y v u _ I2 r1 r2 q2) fun c s3 ⟨z, H3, I3, r3, k, e, q3⟩ => ?_) hm
  subst e
  cases r3
  exact wpAny_truthy_bool ⟨H3, I3, q3⟩
def tChain (r r' : R2) (ta tb tc : TE) : TE := fun σ H Q => ta σ H fun x H1 => tb σ H1 fun y H2 => r x y H2 fun z H3 => ∃ k, z = .bl k ∧
  (if k = true then tc σ H3 fun w' H4 => r' y w' H4 Q else Q (.bl false) H3)
theorem pe_chain {op op' : CmpOp} {r r' : R2} (ho : OpR X (compareOp op) r) (ho' : OpR X (compareOp op') r') (ha : PE X a ta) (hb : PE X b tb) (hc : PE X c tc)
    (hm : lastMarks [op, op'] [b, c] = false := by with_unfolding_all rfl) : PE X (.Compare a [op, op'] [b, c] pos) (tChain r r' ta tb tc) := by
  intro pins s σ H Q I h
  refine Compare_chain (thn (ha pins s σ H _ I h) fun v s1 ⟨x, H1, I1, r1, q1⟩ => chain_link (thn (hb pins s1 σ H1 _ I1 q1) fun u s2 ⟨y, H2, I2, r2, q2⟩ =>
    thn (ho pins s2 σ H2 x y v u _ I2 r1 r2 q2) fun d s3 ⟨z, H3, I3, r3, k, e, q3⟩ => ?_)) hm
  subst e
  cases r3
  refine wpAny_truthy_bool ?_
  cases k with
  | false => exact ite_ff ⟨.bl false, H3, I3, rfl, q3⟩
  | true => exact ite_tt (chain_last (thn (hc pins s3 σ H3 _ I3 q3) fun w' s4 ⟨z', H4, I4, r4, q4⟩ => ho' pins s4 σ H4 y z' u w' Q I4 r2 r4 q4))
theorem line63 : (sizeLine : Nat) < 2 ^ 63 := by rw [sizeLine_eq]; decide
theorem op_add_str : OpR X (binaryOp .Add) (fun x y H Q => ∃ i j, x = .str i ∧ y = .str j ∧ i.length + j.length ≤ sizeLine ∧ Q (.str (i ++ j)) H) := by
  intro pins s σ H x y v u Q I rx ry h
  obtain ⟨i, j, rfl, rfl, hz, q⟩ := h
  obtain ⟨t, rfl⟩ := rx
  obtain ⟨t', rfl⟩ := ry
  exact add_str (fun t' tk => ⟨.str (i ++ j), H, I.tok _, ⟨_, rfl⟩, q⟩) hz
theorem vals1 {x : V} {us : List Value} (r : Vals [x] us) : ∃ u, us = [u] ∧ RelV x u := by
  cases r with
  | cons r1 r2 => cases r2; exact ⟨_, rfl, r1⟩
theorem vals2 {x y : V} {us : List Value} (r : Vals [x, y] us) : ∃ u w', us = [u, w'] ∧ RelV x u ∧ RelV y w' := by
  cases r with
  | cons r1 r2 =>
    cases r2 with
    | cons r3 r4 => cases r4; exact ⟨_, _, rfl, r1, r3⟩
theorem call_min2 (hc : X.calm = true) : CallR X (.builtin "min") (fun xs H Q => ∃ i j, xs = [.int i, .int j] ∧ Q (.int (if j < i then j else i)) H) := by
  intro pins s σ H xs us Q I r h
  obtain ⟨i, j, rfl, q⟩ := h
  obtain ⟨u, w', rfl, ⟨t, rfl⟩, ⟨t', rfl⟩⟩ := vals2 r
  refine min_two_ints (I.ok.hd hc) fun h' tk k => ⟨_, H, I.kept k, ?_, q⟩
  by_cases hj : j < i
  · rw [if_pos hj, if_pos hj]; exact ⟨_, rfl⟩
  · rw [if_neg hj, if_neg hj]; exact ⟨_, rfl⟩
end
end L2
namespace L2
open PySem PySem.Spec PyProof.Rows
structure ObjM (h : Heap) (x dx C : Addr) (mA : Str → Option Value) : Prop where
  obj : h.get? x = some (PySem.W.instObj C dx)
  ns : h.Ns1 dx mA
  ne : dx ≠ x
theorem lookIn_ns {h : Heap} {dx : Addr} {mA : Str → Option Value} (n : h.Ns1 dx mA) : ∃ od, h.get? dx = some od ∧ ∀ name, PySem.W.lookIn name od = some (mA name) := by
  obtain ⟨o, es, ep, ho, hd, hk, _, hm⟩ := n
  refine ⟨o, ho, fun name => ?_⟩
  have e := hm name
  unfold nsFind findBy at e
  rw [← Array.find?_toList] at e
  unfold PySem.W.lookIn
  rw [hd]
  dsimp only
  split
  · rename_i y q
    rw [q] at e
    exact congrArg some e
  · rename_i q
    rw [q] at e
    have a : es.toList.any (·.refKey) = false := by
      rw [List.any_eq_false]
      intro y hy
      obtain ⟨z, t, hkey⟩ := hk y (Array.mem_toList_iff.mp hy)
      simp [DictEntry.refKey, hkey]
    have a' : ¬ es.toList.any (·.refKey) = true := by rw [a]; exact Bool.false_ne_true
    rw [if_neg a']
    exact congrArg some e
theorem ObjM.look {h : Heap} {x dx C : Addr} {mA : Str → Option Value} (I : ObjM h x dx C mA) : ∃ od, PySem.W.InstAt h x (PySem.W.instObj C dx) C (some od) ∧ ∀ name, PySem.W.lookIn name od = some (mA name) :=
  let ⟨od, ho, hl⟩ := lookIn_ns I.ns
  ⟨od, ⟨I.obj, rfl, rfl, ho⟩, hl⟩
section
variable {prog : Program} {w : World} {A : Around} {E : Value → Shared → Prop} {s : Shared} {K : PySem.W.Frag} {x dx C f : Addr} {mA : Str → Option Value} {name : Str} {v : Value}
end
theorem RelO.some_of {v : V} {o : Option Value} (r : RelO (some v) o) : ∃ u, o = some u ∧ RelV v u := by
  cases o with
  | none => exact (show False from r).elim
  | some u => exact ⟨u, rfl, r⟩
theorem handed_of {v : V} {u : Value} (r : RelV v u) : PySem.W.handedIn u = true := by
  cases v with
  | non => cases (show u = Value.none from r); rfl
  | bl b => cases (show u = Value.bool b from r); rfl
  | int i => obtain ⟨t, e⟩ := (show ∃ t, u = Value.int i t from r); cases e; rfl
  | str x => obtain ⟨t, e⟩ := (show ∃ t, u = Value.str x t from r); cases e; rfl
  | byt b => obtain ⟨t, e⟩ := (show ∃ t, u = Value.bytes b t from r); cases e; rfl
  | flt b => obtain ⟨t, e⟩ := (show ∃ t, u = Value.float b t from r); cases e; rfl
  | ref a => cases (show u = Value.ref a from r); rfl
  | ty n => cases (show u = Value.type n from r); rfl
section
variable {P : Program} {w : World} {H H' : Hp} {h h' : Heap} {a C dx : Addr} {fs fs' : List (Str × V)}
theorem ins_get (hok : HOk P w H h) (e : H a = some (.ins C dx fs)) : ∃ mA, ObjM h a dx C mA ∧ (∀ f, RelO (fs.lookup f) (mA f)) ∧ PySem.Within mA (fs.map (·.1)) ∧ fs.length ≤ 1000 ∧ H dx = some (.own a) := by
  obtain ⟨d, z, ne, ob, mA, n, r, q⟩ := (show ObjOk P w H h a (.ins C dx fs) from hok a _ e)
  exact ⟨mA, ⟨ob, n, ne⟩, r, q, z, d⟩
end
structure Cls (K : PySem.W.Frag) (C : Addr) : Prop where
  pg : PySem.W.plainGet K C Str.empty = true
  hd : PySem.W.hasDictIn K C = true
  po : PySem.W.plainOver K C = true
  sa : PySem.W.findIn K (.ref C) "__setattr__" = some (some (.builtin "object.__setattr__"))
theorem Cls.get {K : PySem.W.Frag} {C : Addr} (c : Cls K C) (f : Str) : PySem.W.plainGet K C f = true := c.pg
def NoAttr (K : PySem.W.Frag) (C : Addr) (f : Str) : Prop := PySem.W.findIn K (.ref C) f = some none
section
variable {X : Cx} {pins : List (Addr × Obj)} {σ : St} {H : Hp} {s : Shared} {a C dx : Addr} {fs : List (Str × V)} {f : Str} {v : V} {A : Around} {E : Value → Shared → Prop}
theorem attr_of {prog : Program} {w : World} {env : Env} {e : Expr} {f : Str} {pos : Pos} {s : Shared} {Q : Value → Shared → Prop} (hb : attributeBase e f env (eval e env) = eval e env)
    (h : wpAny (model prog w) A (eval e env) (fun o s₁ => wpAny (model prog w) A (getAttr o f true) Q E s₁) E s) : wpAny (model prog w) A (eval (.Attribute e f pos) env) Q E s :=
  Attribute_any_ h (by rw [arm_eval_Attribute, hb])
end
section
variable {X : Cx} {o e value : Expr} {f : Str} {pos pos' tpos : Pos} {ta tv : TE}
end
section
variable {X : Cx} {pins : List (Addr × Obj)} {σ : St} {H : Hp} {s : Shared} {A : Around} {E : Value → Shared → Prop} {Q : Value → Shared → Prop} {c : Value} {b : Bool}
inductive TyOf (K : PySem.W.Frag) (H : Hp) : V → Value → Prop where
  | non : TyOf K H .non (.type "NoneType")
  | bl (x : Bool) : TyOf K H (.bl x) (.type "bool")
  | int (i : Int) : TyOf K H (.int i) (.type "int")
  | str (x : Str) : TyOf K H (.str x) (.type "str")
  | flt (x : UInt64) : TyOf K H (.flt x) (.type "float")
  | lst {a : Addr} {xs : List V} (e : H a = some (.lst xs)) : TyOf K H (.ref a) (.type "list")
  | frz {a : Addr} {o : Obj} {xs : List V} (e : H a = some (.frz o (.lst xs))) : TyOf K H (.ref a) (.type "list")
  | tup {a : Addr} {xs : List V} (e : H a = some (.tup xs)) : TyOf K H (.ref a) (.type "tuple")
  | dK {a : Addr} {kvs : List (Key × V)} (e : H a = some (.dK kvs)) : TyOf K H (.ref a) (.type "dict")
  | dT {a : Addr} {kvs : List (List Key × V)} (e : H a = some (.dT kvs)) : TyOf K H (.ref a) (.type "dict")
  | ins {a C dx : Addr} {fs : List (Str × V)} (e : H a = some (.ins C dx fs)) (cl : Cls K C) (ha : PySem.W.findIn K (.ref C) "__class__" = some (some (.builtin "object.__class__")))
      (hn : PySem.W.specialIn K (.builtin "object.__class__") "__get__" = some (some (.builtin "getset_descriptor.__get__"))) (htk : PySem.W.takesIn K (.builtin "object.__class__") = some true)
      (hm : PySem.W.mroIn K C (.type "object") = some true) : TyOf K H (.ref a) (.ref C)
theorem isinst_ok {x : V} {u t : Value} (I : Inv X pins σ H s) (rx : RelV x u) (ty : TyOf X.K H x t) (e : PySem.W.kitOne X.K t c = some b) (h : ∀ tk, Q (.bool b) { s with toks := tk }) :
    wpAny (model X.prog X.w) A (call (.builtin "isinstance") [u, c]) Q E s := by
  cases ty with
  | non => cases (show u = Value.none from rx); exact PySem.W.kia_one PySem.W.kitx_none I.kIn True.intro e (fun z => nomatch z) h
  | bl y => cases (show u = Value.bool y from rx); exact PySem.W.kia_one PySem.W.kitx_bool I.kIn True.intro e (fun z => nomatch z) h
  | int i => obtain ⟨t, q⟩ := (show ∃ t, u = Value.int i t from rx); cases q; exact PySem.W.kia_one PySem.W.kitx_int I.kIn True.intro e (fun z => nomatch z) h
  | str y => obtain ⟨t, q⟩ := (show ∃ t, u = Value.str y t from rx); cases q; exact PySem.W.kia_one PySem.W.kitx_str I.kIn True.intro e (fun z => nomatch z) h
  | flt y => obtain ⟨t, q⟩ := (show ∃ t, u = Value.float y t from rx); cases q; exact PySem.W.kia_one PySem.W.kitx_float I.kIn True.intro e (fun z => nomatch z) h
  | @lst a xs ea =>
    cases (show u = Value.ref a from rx)
    obtain ⟨_, _, n, _, h1⟩ := (show ObjOk X.prog X.w H s.heap a (.lst xs) from I.hok a _ ea)
    exact PySem.W.kia_one PySem.W.kitx_list I.kIn ⟨_, h1, rfl⟩ e (fun z => nomatch z) h
  | @frz a ob xs ea =>
    cases (show u = Value.ref a from rx)
    obtain ⟨_, _, _, n, _, h1⟩ := (show ObjOk X.prog X.w H s.heap a (.frz ob (.lst xs)) from I.hok a _ ea)
    exact PySem.W.kia_one PySem.W.kitx_list I.kIn ⟨_, h1, rfl⟩ e (fun z => nomatch z) h
  | @tup a xs ea =>
    cases (show u = Value.ref a from rx)
    obtain ⟨_, _, _, p⟩ := (show ObjOk X.prog X.w H s.heap a (.tup xs) from I.hok a _ ea)
    obtain ⟨o, h1, h2, _⟩ := p
    exact PySem.W.kia_one PySem.W.kitx_tuple I.kIn ⟨o, h1, h2⟩ e (fun z => nomatch z) h
  | @dK a kvs ea =>
    cases (show u = Value.ref a from rx)
    obtain ⟨_, _, vs, _, p⟩ := (show ObjOk X.prog X.w H s.heap a (.dK kvs) from I.hok a _ ea)
    obtain ⟨o, es, ep, h1, h2, _⟩ := p
    exact PySem.W.kia_one PySem.W.kitx_dict I.kIn ⟨o, h1, h2.1⟩ e (fun z => nomatch z) h
  | @dT a kvs ea =>
    cases (show u = Value.ref a from rx)
    obtain ⟨_, _, xs, _, o, es, ep, h1, h2, _⟩ := (show ObjOk X.prog X.w H s.heap a (.dT kvs) from I.hok a _ ea)
    exact PySem.W.kia_one PySem.W.kitx_dict I.kIn ⟨o, h1, h2.1⟩ e (fun z => nomatch z) h
  | @ins a C dx fs ea cl ha hn htk hm =>
    cases (show u = Value.ref a from rx)
    obtain ⟨mA, O, _⟩ := ins_get I.hok ea
    obtain ⟨od, J, _⟩ := O.look
    exact PySem.W.kia_one (PySem.W.kitx_own (cl.get _) cl.hd ha hn htk hm) I.kIn J e (fun z => nomatch z) h
end
end L2
namespace L2
open PySem PySem.Spec PyProof.Rows
structure Room (k : Nat) (A : Around) : Prop where
  hd : A.handled = none
  dp : A.depth + 3 * k + 5 < recursionLimit
  un : A.units + 16 * k + 200 < cLine
theorem Room.mono {j k : Nat} {A : Around} (r : Room k A) (h : j ≤ k) : Room j A := ⟨r.hd, by have := r.dp; omega, by have := r.un; omega⟩
theorem Room.deeper {k : Nat} {A : Around} (r : Room (k + 1) A) (env : Env) : Room k (A.deeper env) :=
  ⟨r.hd, by have := r.dp; show A.depth + 1 + 3 * k + 5 < _; omega, by have := r.un; show A.units + 3 + 16 * k + 200 < _; omega⟩
theorem make_depth {A : Around} {C : Addr} {us : List Value} {kw : List (Str × Value)} : (A.under (.builtin "type.__call__" ⟨.ref C :: us, kw⟩)).depth = A.depth + 1 := by
  first | rfl | simp [Around.under, Code.weight, Code.isCreation, Code.isGuard, Code.isCaller, Code.frames, Code.isFrame, guardIds]
theorem make_units {A : Around} {C : Addr} {us : List Value} {kw : List (Str × Value)} : (A.under (.builtin "type.__call__" ⟨.ref C :: us, kw⟩)).units = A.units + 1 := by
  first | rfl | simp [Around.under, Code.cUnits, Code.frames, Code.isFrame]
theorem Room.make {k : Nat} {A : Around} (r : Room (k + 1) A) (C : Addr) (us : List Value) (kw : List (Str × Value)) : Room k (A.under (.builtin "type.__call__" ⟨.ref C :: us, kw⟩)) :=
  ⟨r.hd, by have := r.dp; rw [make_depth]; omega, by have := r.un; rw [make_units]; omega⟩
theorem Room.depth {k : Nat} {A : Around} (r : Room k A) : A.depth < recursionLimit := by have := r.dp; omega
theorem Room.units {k : Nat} {A : Around} (r : Room k A) : A.units + 64 < cLine := by have := r.un; omega
def tNil : TA := fun _ H Q => Q [] H
def tCons (ta : TE) (tr : TA) : TA := fun σ H Q => ta σ H fun x H1 => tr σ H1 fun xs H2 => Q (x :: xs) H2
section
variable {X : Cx} {e : Expr} {es : List Expr} {te : TE} {t : TA} {pos : Pos}
theorem pa_nil : PA X [] tNil := fun _ _ _ _ H Q I h => Calls.spliced_nil ⟨[], H, I, .nil, h⟩
theorem pa_cons (ha : PE X e te) (hr : PA X es t) (hs : starEach (e :: es) X.env = (false, eval e X.env) :: starEach es X.env := by rfl) : PA X (e :: es) (tCons te t) := by
  intro pos pins s σ H Q I h
  rw [hs]
  show wpAny _ _ (spliced ((false, eval e X.env) :: backTo pos (starEach es X.env))) _ _ s
  refine Calls.spliced_cons (thn (ha pins s σ H _ I h) fun u s1 ⟨x, H1, I1, r1, q1⟩ => ?_)
  exact thn (hr pos pins s1 σ H1 _ I1 q1) fun us s2 ⟨xs, H2, I2, r2, q2⟩ => ⟨x :: xs, H2, I2, .cons r1 r2, q2⟩
def tTup (t : TA) : TE := fun σ H Q => t σ H fun xs H1 => xs.length ≤ sizeLine ∧ ∀ p, H1 p = none → Q (.ref p) (upd H1 p (.tup xs))
def tLst (t : TA) : TE := fun σ H Q => t σ H fun xs H1 => xs.length ≤ sizeLine ∧ ∀ p, H1 p = none → Q (.ref p) (upd H1 p (.lst xs))
theorem pe_tup {x1} (h : PA X es t) : PE X (.Tuple es x1 pos) (tTup t) := by
  intro pins s σ H Q I hq
  refine wpAny_Tuple_spliced (thn (h pos pins s σ H _ I hq) fun us s1 ⟨xs, H1, I1, r, z, q⟩ => ⟨by rw [← r.length]; exact z, ?_⟩)
  have hf : H1 s1.heap.objs.size = none := I1.hok.fresh (Nat.le_refl _)
  refine ⟨.ref s1.heap.objs.size, upd H1 s1.heap.objs.size (.tup xs), I1.laid (t' := s1.toks) (fun b u e => Heap.get?_push_of_some _ e) (Nat.le_refl _) ?_, rfl, q _ hf⟩
  exact ⟨z, us, r, ⟨_, Heap.get?_push_size _ rfl, rfl, _, rfl⟩⟩
theorem pe_lst (h : PA X es t) : PE X (.List es pos) (tLst t) := by
  intro pins s σ H Q I hq
  refine wpAny_List_spliced (thn (h pos pins s σ H _ I hq) fun us s1 ⟨xs, H1, I1, r, z, q⟩ => ⟨by rw [← r.length]; exact z, ?_⟩)
  have hf : H1 s1.heap.objs.size = none := I1.hok.fresh (Nat.le_refl _)
  refine ⟨.ref s1.heap.objs.size, upd H1 s1.heap.objs.size (.lst xs), I1.laid (t' := s1.toks) (fun b u e => Heap.get?_push_of_some _ e) (Nat.le_refl _) ?_, rfl, q _ hf⟩
  exact ⟨z, us, 0, r, Heap.get?_push_size _ rfl⟩
end
abbrev Sp := List V → Hp → VK → XK → Prop
abbrev CXT := List Env → Hp → Shared → XK → Value → Shared → Prop
structure Env0 (P : Program) (w : World) (K : PySem.W.Frag) (mg : Str → Option Value) (base : Heap) (A : Around) (outer : List Env) (s : Shared) (H : Hp) : Prop where
  frames : A.frames = some outer
  mod : Mod K mg base
  bs : ∀ b o, base.get? b = some o → s.heap.get? b = some o ∧ H b = none
  bsz : base.objs.size ≤ s.heap.objs.size
  funs : s.heap.FunFrames base outer
  frf : ∀ b ∈ frs outer, H b = none
  hok : HOk P w H s.heap
  bare : AllBare s.gens
def CE (outer : List Env) (P : Program) (w : World) (H : Hp) (s : Shared) (Q : VK) (u : Value) (s' : Shared) : Prop :=
  ∃ v H', s'.os = s.os ∧ AllBare s'.gens ∧ Un (frs outer) [] H H' s.heap s'.heap ∧ HOk P w H' s'.heap ∧ RelV v u ∧ Q v H'
def CR (CX : CXT) (outer : List Env) (P : Program) (w : World) (H : Hp) (s : Shared) (Q : VK) (E : XK) (r : Result) (s' : Shared) : Prop :=
  match r with
  | .ok (.ret u) => CE outer P w H s Q u s'
  | .ok _ => False
  | .error e => CX outer H s E e s'
structure FnOk (P : Program) (w : World) (K : PySem.W.Frag) (mg : Str → Option Value) (base : Heap) (CX : CXT) (k : Nat) (f : Addr) (fd : FuncData) (ps : List Str) (sp : Sp) : Prop where
  len : ∀ vs H Q E, sp vs H Q E → vs.length = ps.length
  run : ∀ (A : Around) (outer : List Env) (s : Shared) (H : Hp) (args : Args) (us : List Value) (vs : List V) (Q : VK) (E : XK), Room k A → Env0 P w K mg base A outer s H → BindsTo s fd args (ps.zip us) → Vals vs us → sp vs H Q E →
    codeAny (model P w) A (.call (.ref f) args) (CR CX outer P w H s Q E) s
theorem FnOk.mono {P : Program} {w : World} {K : PySem.W.Frag} {mg : Str → Option Value} {base : Heap} {CX : CXT} {j k : Nat} {f : Addr} {fd : FuncData} {ps : List Str} {sp : Sp} (F : FnOk P w K mg base CX j f fd ps sp) (h : j ≤ k) :
    FnOk P w K mg base CX k f fd ps sp := ⟨F.len, fun A outer s H args us vs Q E hr => F.run A outer s H args us vs Q E (hr.mono h)⟩
theorem Env0.make {P : Program} {w : World} {K : PySem.W.Frag} {mg : Str → Option Value} {base : Heap} {A : Around} {outer : List Env} {s : Shared} {H : Hp} (e : Env0 P w K mg base A outer s H) (C : Addr) (us : List Value) (kw : List (Str × Value)) :
    Env0 P w K mg base (A.under (.builtin "type.__call__" ⟨.ref C :: us, kw⟩)) outer s H := ⟨by first | exact e.frames | (simpa [Around.under, Code.envs, Code.isFrame, pushEnvs] using e.frames), e.mod, e.bs, e.bsz, e.funs, e.frf, e.hok, e.bare⟩
section
variable {X : Cx} {pins : List (Addr × Obj)} {σ : St} {H : Hp} {s s' : Shared}
theorem Inv.env0 (I : Inv X pins σ H s) : Env0 X.prog X.w X.K X.mg X.base X.A X.stack s H :=
  ⟨I.ok.frames, I.ok.mod, I.bs, Nat.le_trans I.ok.bsz I.sz, I.stack, I.stkFree, I.hok, I.bare⟩
theorem Inv.after {Q : VK} {u : Value} (I : Inv X pins σ H s) (h : CE X.stack X.prog X.w H s Q u s') : EP X pins σ Q u s' := by
  obtain ⟨v, H', os, bare, un, hok, r, q⟩ := h
  obtain ⟨hh, g, d, t, os'⟩ := s'
  obtain rfl : os' = s.os := os
  exact ⟨v, H', I.call (h' := hh) (g' := g) (d' := d) (t' := t) (ch := []) un hok bare (fun b z => absurd z (by simp)), r, q⟩
end
def tCall (sp : Sp) (dvs : List V) (E : XK) (t : TA) : TE := fun σ H Q => t σ H fun vs H1 => sp (vs ++ dvs) H1 Q E
def Binds (K : PySem.W.Frag) (fd : FuncData) (ps : List Str) (ds : List Value) : Prop :=
  ∀ (s : Shared) (us : List Value), K.In s.heap → (us ++ ds).length = ps.length → BindsTo s fd ⟨us, []⟩ (ps.zip (us ++ ds))
theorem Binds.all {K : PySem.W.Frag} {fd : FuncData} {ps : List Str} (h : ∀ us : List Value, us.length = ps.length → bindArgs fd ⟨us, []⟩ = pure (ps.zip us)) : Binds K fd ps [] := fun s us _ hl => by
  rw [List.append_nil] at hl ⊢
  exact .of_eq (h us hl)
def Passes (CX : CXT) (X : Cx) (E : XK) : Prop := ∀ (pins : List (Addr × Obj)) (σ : St) (H : Hp) (s : Shared) (e : Value) (s' : Shared), Inv X pins σ H s → CX X.stack H s E e s' → X.xe e s'
section
variable {X : Cx} {CX : CXT} {k : Nat} {f C : Addr} {fd : FuncData} {ps : List Str} {sp : Sp} {dvs : List V} {ds : List Value} {E : XK} {x m : Str} {p pos apos : Pos} {e o : Expr} {es : List Expr} {ta : TE} {t : TA}
theorem run_fn {pins : List (Addr × Obj)} {σ : St} {H : Hp} {s : Shared} {Q : VK} {us : List Value} {vs : List V} (F : FnOk X.prog X.w X.K X.mg X.base CX k f fd ps sp) (hr : Room k X.A) (hb : Binds X.K fd ps ds) (hd : Vals dvs ds) (hx : Passes CX X E)
    (I : Inv X pins σ H s) (r : Vals vs us) (h : sp (vs ++ dvs) H Q E) : wpAny (model X.prog X.w) X.A (call (.ref f) us) (EP X pins σ Q) X.xe s := by
  have r2 : Vals (vs ++ dvs) (us ++ ds) := r.append hd
  have hl : (us ++ ds).length = ps.length := by rw [← r2.length]; exact F.len _ _ _ _ h
  refine wpAny_call (codeAny_mono (F.run X.A X.stack s H ⟨us, []⟩ (us ++ ds) (vs ++ dvs) Q E hr I.env0 (hb s us I.kIn hl) r2 h) fun r s' hq => ?_)
  cases r with
  | error e => exact hx pins σ H s e s' I hq
  | ok fl =>
    cases fl with
    | ret u => exact I.after hq
    | next => exact False.elim hq
    | brk => exact False.elim hq
    | cont => exact False.elim hq
theorem pe_call (F : FnOk X.prog X.w X.K X.mg X.base CX k f fd ps sp) (hr : Room k X.A) (hg : Gl X x) (hm : X.mg x = some (.ref f)) (hk : PySem.W.keepIn X.K (.ref f) = true) (hb : Binds X.K fd ps ds) (hd : Vals dvs ds) (hx : Passes CX X E)
    (ha : PA X (e :: es) t) (hdb : (x == ("__debug__" : Str)) = false := by decide) (he : starEach (e :: es) X.env = (false, eval e X.env) :: starEach es X.env := by rfl) (hpl : (backTo pos (starEach es X.env)).any (·.1) = false := by rfl) :
    PE X (.Call (.Name x p) (e :: es) [] pos) (tCall sp dvs E t) := by
  intro pins s σ H Q I h
  refine wpAny_Call_Name_kw (ld_glob I hg hm ?_ hdb)
  refine PySem.W.callWith_K (h₀ := X.base) I.ok.mod.kin hk (thn (ha pos pins s σ H _ I h) fun us s1 ⟨vs, H1, I1, r, q⟩ => ⟨I1.kIn, ?_⟩) he hpl
  exact run_fn F hr hb hd hx I1 r q
end
section
variable {X : Cx} {CX : CXT} {k : Nat} {f C : Addr} {fd : FuncData} {ps ks : List Str} {sp : Sp} {E : XK} {x m : Str} {p pos apos kpos : Pos} {e o : Expr} {es : List Expr} {kws : List Keyword} {te ta : TE} {t tk : TA} {nm : Option Str}
variable {g : List Value → List Value → List Value} {gV : List V → List V → List V}
end
structure FnScope (N P : List Str) (sc : Scope) : Prop where
  kind : sc.kind = .function
  co : sc.isCoroutine = false
  gen : sc.isGenerator = false
  nd : N.Nodup
  pre : N.take P.length = P
  par : ∀ x ∈ P, sc.names.lookup x = some .local ∨ sc.names.lookup x = some .cell
  nofree : ∀ y ∈ sc.names, y.2 ≠ .free
theorem bindL_out {kindOf : Str → Option NameKind} {x : Str} : ∀ {binds : List (Str × Value)} {m : Str → Option Value}, (∀ v, (x, v) ∉ binds) → bindL kindOf binds m x = m x
  | [], _, _ => rfl
  | (n, v) :: r, m, h => by
    unfold bindL
    rw [bindL_out fun w hw => h w (List.mem_cons_of_mem _ hw)]
    split
    · have : x ≠ n := by rintro rfl; exact h v List.mem_cons_self
      simp [this]
    · rfl
theorem bindC_out {kindOf : Str → Option NameKind} {x : Str} : ∀ {binds : List (Str × Value)} {m : Str → Option Value}, (∀ v, (x, v) ∉ binds) → bindC kindOf binds m x = m x
  | [], _, _ => rfl
  | (n, v) :: r, m, h => by
    unfold bindC
    rw [bindC_out fun w hw => h w (List.mem_cons_of_mem _ hw)]
    split
    · rfl
    · have : x ≠ n := by rintro rfl; exact h v List.mem_cons_self
      simp [this]
theorem bindL_get {kindOf : Str → Option NameKind} {x : Str} {v : Value} : ∀ {P : List Str} {vs : List Value} {i : Nat} {m : Str → Option Value}, P.Nodup → P[i]? = some x → vs[i]? = some v → kindOf x = some .local →
    bindL kindOf (P.zip vs) m x = some v
  | [], _, _, _, _, h, _, _ => by simp at h
  | _ :: _, [], _, _, _, _, h, _ => by simp at h
  | p :: P, w :: vs, 0, m, nd, h1, h2, hk => by
    simp at h1 h2; subst h1; subst h2
    show bindL kindOf ((p, w) :: P.zip vs) m p = _
    unfold bindL
    rw [bindL_out fun v hv => (List.nodup_cons.mp nd).1 (List.of_mem_zip hv).1, if_pos hk]
    simp
  | p :: P, w :: vs, i + 1, m, nd, h1, h2, hk => by
    show bindL kindOf ((p, w) :: P.zip vs) m x = _
    unfold bindL
    exact bindL_get (i := i) (List.nodup_cons.mp nd).2 (by simpa using h1) (by simpa using h2) hk
theorem bindC_get {kindOf : Str → Option NameKind} {x : Str} {v : Value} : ∀ {P : List Str} {vs : List Value} {i : Nat} {m : Str → Option Value}, P.Nodup → P[i]? = some x → vs[i]? = some v → kindOf x ≠ some .local →
    bindC kindOf (P.zip vs) m x = some v
  | [], _, _, _, _, h, _, _ => by simp at h
  | _ :: _, [], _, _, _, _, h, _ => by simp at h
  | p :: P, w :: vs, 0, m, nd, h1, h2, hk => by
    simp at h1 h2; subst h1; subst h2
    show bindC kindOf ((p, w) :: P.zip vs) m p = _
    unfold bindC
    rw [bindC_out fun v hv => (List.nodup_cons.mp nd).1 (List.of_mem_zip hv).1, if_neg hk]
    simp
  | p :: P, w :: vs, i + 1, m, nd, h1, h2, hk => by
    show bindC kindOf ((p, w) :: P.zip vs) m x = _
    unfold bindC
    exact bindC_get (i := i) (List.nodup_cons.mp nd).2 (by simpa using h1) (by simpa using h2) hk
def start (N : List Str) (vs : List V) : St := vs.map some ++ List.replicate (N.length - vs.length) none
def cxOf (CX : CXT) (P : Program) (w : World) (K : PySem.W.Frag) (mg : Str → Option Value) (base : Heap) (N : List Str) (qual : Str) (scope : Scope) (f : Addr) (cd : Value) (A : Around) (outer : List Env) (s : Shared) (H : Hp) (E : XK) : Cx where
  prog := P
  w := w
  K := K
  mg := mg
  base := base
  A := A.deeper (envOfC qual scope s.heap.objs.size f cd)
  N := N
  s₀ := s
  H₀ := H
  env := envOfC qual scope s.heap.objs.size f cd
  outer := outer
  stack := envOfC qual scope s.heap.objs.size f cd :: outer
  ex := []
  calm := true
  fn := fun _ => true
  pn := []
  xe := fun e s' => wpAny (model P w) (A.deeper (envOfC qual scope s.heap.objs.size f cd)) (leaving (envOfC qual scope s.heap.objs.size f cd) e) (fun _ s'' => CX outer H s E e s'') (fun e' s'' => CX outer H s E e' s'') s'
theorem cell_has {sc : Scope} {n : Nat} {x : Str} (h : sc.names.lookup x = some .cell) : ∃ c, (cellsFrom n sc.names []).lookup x = some c := by
  have q := PySem.W.cellsFrom_some sc.names n [] (.inl h)
  exact Option.isSome_iff_exists.mp q
theorem inv_start {CX : CXT} {P : Program} {w : World} {K : PySem.W.Frag} {mg : Str → Option Value} {base : Heap} {N ps : List Str} {qual : Str} {scope : Scope} {f : Addr} {cd : Value} {A : Around} {outer : List Env} {s s1 : Shared} {H : Hp} {E : XK} {us : List Value} {vs : List V}
    (S : FnScope N ps scope) (hd : A.handled = none) (e0 : Env0 P w K mg base A outer s H) (hl : vs.length = ps.length) (r : Vals vs us)
    (x : InCallC s s.heap.objs.size (bindL (envOfC qual scope s.heap.objs.size f cd).kindOf (ps.zip us) fun _ => none) (cellsFrom (s.heap.objs.size + 1) scope.names []) (bindC (envOfC qual scope s.heap.objs.size f cd).kindOf (ps.zip us) fun _ => none) s1) :
    Inv (cxOf CX P w K mg base N qual scope f cd A outer s H E) [] (start N vs) H s1 := by
  have hpl : ps.length ≤ N.length := by have := congrArg List.length S.pre; rw [List.length_take] at this; omega
  obtain ⟨h1, tk, rfl, hk⟩ := x.done
  have noA : ∀ b : Addr, b ∉ (cxOf CX P w K mg base N qual scope f cd A outer s H E).ex := fun b z => absurd (show b ∈ ([] : List Addr) from z) (by simp)
  refine ⟨⟨e0.mod, S.kind, rfl, rfl, Nat.le_refl _, fun y z c h1 h2 => ?_, fun y hy => ?_, fun y c _ h => ?_, fun _ => hd, Around.frames_deeper e0.frames, .inr ⟨rfl, rfl⟩, fun b z => absurd z (noA b), e0.bs, e0.bsz, fun b _ _ => noA b, fun b z => absurd z (noA b), e0.funs, e0.frf⟩,
    rfl, e0.bare, Un.kept hk, ⟨_, x.toInCall.ns, fun i y v h1 h2 h3 => ?_⟩, fun y c h => ⟨_, x.cell y c h⟩, e0.hok.fresh (Nat.le_refl _), fun y c h => ?_, fun p hp => absurd (show p ∈ ([] : List (Addr × Obj)) from hp) (by simp), e0.hok.kept hk, ?_⟩
  · exact name_of_addr x.apart (PySem.mem_of_lookup h1) (PySem.mem_of_lookup h2)
  · have hy : scope.names.lookup y = some .cell ∨ scope.names.lookup y = some .free := hy
    rcases hy with hy | hy
    · exact cell_has hy
    · exact absurd rfl (S.nofree _ (PySem.mem_of_lookup hy))
  · exact Nat.le_of_lt (x.above y c (PySem.mem_of_lookup h))
  · have hi : i < vs.length := by
      unfold start at h2
      by_cases hi : i < vs.length
      · exact hi
      · rw [List.getElem?_append_right (by simpa using hi)] at h2
        rw [List.getElem?_replicate] at h2
        split at h2 <;> cases h2
    have ha : vs[i]? = some v := by
      unfold start at h2
      rw [List.getElem?_append_left (by simpa using hi), List.getElem?_map] at h2
      cases e : vs[i]? with
      | none => rw [e] at h2; cases h2
      | some a => rw [e] at h2; cases h2; rfl
    obtain ⟨u, hu, rv⟩ := r.get ha
    have hp : ps[i]? = some y := by
      rw [← S.pre, List.getElem?_take_of_lt (by omega)]; exact h1
    have ndP : ps.Nodup := by rw [← S.pre]; exact S.nd.sublist (List.take_sublist _ _)
    refine ⟨u, rv, ?_⟩
    rcases S.par y (List.mem_of_getElem? hp) with k | k
    · exact .inl ⟨k, bindL_get ndP hp hu k⟩
    · obtain ⟨c, e⟩ := cell_has (n := s.heap.objs.size + 1) k
      refine .inr ⟨.inl k, c, e, ?_⟩
      have q := x.cell y c e
      rw [bindC_get ndP hp hu (by show scope.names.lookup y ≠ _; rw [k]; decide)] at q
      exact q
  · exact e0.hok.fresh (Nat.le_of_lt (x.above y c (PySem.mem_of_lookup h)))
  · unfold start
    show _ = N.length
    rw [List.length_append, List.length_map, List.length_replicate]
    omega
theorem fn_of {CX : CXT} {P : Program} {w : World} {K : PySem.W.Frag} {mg : Str → Option Value} {base : Heap} {k : Nat} {f : Addr} {name qual : Str} {params : Arguments} {body : List Stmt} {scope : Scope} {dV kV doc pm cdv ct oc : Value} {an od : Option Addr}
    {osl : Array (Option Value)} {N ps : List Str} {sp : Sp} (lk : K.lookup f = some ⟨oc, od, .func (PySem.W.fnOf name qual params body scope dV kV doc pm an cdv ct), osl⟩) (hcd : PySem.W.codeIn K cdv qual = true) (S : FnScope N ps scope)
    (len : ∀ vs H Q E, sp vs H Q E → vs.length = ps.length)
    (hbody : ∀ (A : Around) (outer : List Env) (s : Shared) (H : Hp) (vs : List V) (Q : VK) (E : XK), Room k (A.deeper (envOfC qual scope s.heap.objs.size f cdv)) → sp vs H Q E →
      ∃ t, PSs (cxOf CX P w K mg base N qual scope f cdv A outer s H E) body t ∧ t { nx := fun _ H' => Q .non H', rt := Q } (start N vs) H) :
    FnOk P w K mg base CX (k + 1) f (PySem.W.fnOf name qual params body scope dV kV doc pm an cdv ct) ps sp := by
  refine ⟨len, fun A outer s H args us vs Q E hr e0 hb r hsp => ?_⟩
  have hl := len _ _ _ _ hsp
  have KX : K.In s.heap := e0.mod.kin.keeps fun b o e => (e0.bs b o e).1
  have lim : s.heap.NoLimit := e0.mod.nolimit.keeps fun b o e => (e0.bs b o e).1
  have hkind : ∀ y ∈ ps.zip us, scope.names.lookup y.1 = some .local ∨ (scope.names.lookup y.1 = some .cell ∧ ((cellsFrom (s.heap.objs.size + 1) scope.names []).lookup y.1).isSome = true) := fun ⟨n, v⟩ hy => by
    rcases S.par n (List.of_mem_zip hy).1 with q | q
    · exact .inl q
    · exact .inr ⟨q, PySem.W.cellsFrom_some _ _ _ (.inl q)⟩
  refine codeAny_call_function hr.depth (KX _ _ lk) rfl S.co S.gen rfl (PySem.W.codeRec_of KX hcd) (hb _ _ _ _ ?_)
  refine wpAny_newFunctionEnv_cells S.kind hkind fun env he s1 x => ?_
  subst he
  refine ⟨lim.keeps x.toInCall.keep, codeAny_func ?_⟩
  obtain ⟨t, ht, hq⟩ := hbody A outer s H vs Q E (hr.deeper _) hsp
  have I : Inv (cxOf CX P w K mg base N qual scope f cdv A outer s H E) [] (start N vs) H s1 := inv_start S hr.hd e0 hl r x
  refine wpAny_mono (ht [] s1 (start N vs) H _ I hq) (fun fl s' hs => ?_) fun e s' hs => hs
  have fin : ∀ {σ' : St} {H' : Hp} {v : V} {u : Value}, Inv (cxOf CX P w K mg base N qual scope f cdv A outer s H E) [] σ' H' s' → RelV v u → Q v H' → CE outer P w H s Q u s' :=
    fun {σ' H' v u} J rv q => ⟨v, H', J.os, J.bare, J.base, J.hok, rv, q⟩
  cases fl with
  | ret u =>
    obtain ⟨v, σ', H', J, rv, q⟩ := hs
    exact fin J rv q
  | next =>
    obtain ⟨σ', H', J, q⟩ := hs
    exact fin (v := V.non) (u := Value.none) J rfl q
  | brk =>
    obtain ⟨_, _, _, q⟩ := hs
    exact False.elim q
  | cont =>
    obtain ⟨_, _, _, q⟩ := hs
    exact False.elim q
end L2
namespace L2
open PySem PySem.Spec PyProof.Rows
section
variable {X : Cx} {x : Str} {p pos : Pos} {e : Expr} {es : List Expr} {t : TA} {id T : String} {r : List V → Hp → VK → Prop}
def tCB (r : List V → Hp → VK → Prop) (t : TA) : TE := fun σ H Q => t σ H fun vs H1 => r vs H1 Q
theorem pe_callB (hc : CallR X (.builtin id) r) (hg : Gl X x) (hm : X.mg x = none) (hv : bootBuiltins x = some (.builtin id)) (ha : PA X (e :: es) t) (hn : x ≠ "__name__" := by decide) (hdb : (x == ("__debug__" : Str)) = false := by decide)
    (he : starEach (e :: es) X.env = (false, eval e X.env) :: starEach es X.env := by rfl) (hpl : (backTo pos (starEach es X.env)).any (·.1) = false := by rfl) : PE X (.Call (.Name x p) (e :: es) [] pos) (tCB r t) := by
  intro pins s σ H Q I h
  refine wpAny_Call_Name_kw (ld_blt I hg hm hv ?_ hn hdb)
  exact PyProof.Rows.callWith_builtin1 (thn (ha pos pins s σ H _ I h) fun us s1 ⟨vs, H1, I1, r1, q1⟩ => hc pins s1 σ H1 vs us Q I1 r1 q1) he hpl
theorem pe_callTy (hc : CallR X (.type T) r) (hg : Gl X x) (hm : X.mg x = none) (hv : bootBuiltins x = some (.type T)) (ha : PA X (e :: es) t) (hn : x ≠ "__name__" := by decide) (hdb : (x == ("__debug__" : Str)) = false := by decide)
    (he : starEach (e :: es) X.env = (false, eval e X.env) :: starEach es X.env := by rfl) (hpl : (backTo pos (starEach es X.env)).any (·.1) = false := by rfl) : PE X (.Call (.Name x p) (e :: es) [] pos) (tCB r t) := by
  intro pins s σ H Q I h
  refine wpAny_Call_Name_kw (ld_blt I hg hm hv ?_ hn hdb)
  exact PyProof.Rows.callWith_type1 (thn (ha pos pins s σ H _ I h) fun us s1 ⟨vs, H1, I1, r1, q1⟩ => hc pins s1 σ H1 vs us Q I1 r1 q1) he hpl
end
end L2
namespace HT
open PySem PyProof.Rows
section
open PySem.SeqAt
open PySem.AutoSeq1 (wpAny_loadPart')
open PySem.MeetsSeq PySem.MeetsSeq2 PySem.MeetsSeq3
end
section
variable {prog : Program} {w : World} {A : Around} {E : Value → Shared → Prop} {s : Shared}
def sIx (n d : Nat) : Option Int → Nat
  | none => d
  | some v => if v < 0 then (v + (n : Int)).toNat else min v.toNat n
theorem sIx_none (n d : Nat) : sIx n d none = d := rfl
theorem sIx_nat (n d k : Nat) : sIx n d (some (k : Int)) = min k n := by
  show (if (k : Int) < 0 then ((k : Int) + (n : Int)).toNat else min (k : Int).toNat n) = min k n
  rw [if_neg (by omega), Int.toNat_natCast]
end
end HT
namespace L2
open PySem PySem.Spec PyProof.Rows
abbrev TO := St → Hp → (Option Int → Hp → Prop) → Prop
def PO (X : Cx) (e : Option Expr) (t : TO) : Prop :=
  ∀ (pins : List (Addr × Obj)) (s : Shared) (σ : St) (H : Hp) (Q : Option Int → Hp → Prop), Inv X pins σ H s → t σ H Q →
    wpAny (model X.prog X.w) X.A (evalPart e X.env) (fun u s' => ∃ o H', Inv X pins σ H' s' ∧ IsPart u o ∧ Q o H') X.xe s
def tNoPart : TO := fun _ H Q => Q none H
def tPart (t : TE) : TO := fun σ H Q => t σ H fun x H1 => ∃ i, x = .int i ∧ Q (some i) H1
section
variable {X : Cx} {e : Expr} {te : TE} {lo hi : Option Expr} {tl th : TO} {pos p2 : Pos}
theorem po_none : PO X none tNoPart := by
  intro pins s σ H Q I h
  rw [evalPart_none]
  exact wpAny_pure ⟨none, H, I, .none, h⟩
theorem po_some (h : PE X e te) : PO X (some e) (tPart te) := by
  intro pins s σ H Q I hw
  rw [evalPart_some]
  refine thn (h pins s σ H _ I hw) fun u s1 ⟨x, H1, I1, r1, q1⟩ => ?_
  obtain ⟨i, rfl, q⟩ := q1
  obtain ⟨t, rfl⟩ := r1
  exact ⟨some i, H1, I1, .int i t, q⟩
def SlR (X : Cx) (r : V → Option Int → Option Int → Hp → VK → Prop) : Prop :=
  ∀ (pins : List (Addr × Obj)) (s : Shared) (σ : St) (H : Hp) (x : V) (v vl vu : Value) (lo hi : Option Int) (sl : Addr) (Q : VK), Inv X pins σ H s → RelV x v → s.heap.IsSliceOf sl vl vu .none → IsPart vl lo → IsPart vu hi → r x lo hi H Q →
    ∃ T id, typeLookup (.type T) "__getitem__" = pure (some (.builtin id)) ∧ s.TypeIs v T ∧ wpAny (model X.prog X.w) X.A (getItem v (.ref sl)) (EP X pins σ Q) X.xe s
theorem SlR.or {r r' : V → Option Int → Option Int → Hp → VK → Prop} (h : SlR X r) (h' : SlR X r') : SlR X (fun x lo hi H Q => r x lo hi H Q ∨ r' x lo hi H Q) := by
  intro pins s σ H x v vl vu lo hi sl Q I rx hs pl pu q
  rcases q with q | q
  · exact h pins s σ H x v vl vu lo hi sl Q I rx hs pl pu q
  · exact h' pins s σ H x v vl vu lo hi sl Q I rx hs pl pu q
def tSl (r : V → Option Int → Option Int → Hp → VK → Prop) (te : TE) (tl th : TO) : TE := fun σ H Q => te σ H fun x H1 => tl σ H1 fun l H2 => th σ H2 fun u H3 => r x l u H3 Q
theorem pe_slice {r : V → Option Int → Option Int → Hp → VK → Prop} (hr : SlR X r) (he : PE X e te) (hl : PO X lo tl) (hu : PO X hi th) : PE X (.Subscript e (.Slice lo hi none p2) pos) (tSl r te tl th) := by
  intro pins s σ H Q I h
  refine Subscript_ (thn (he pins s σ H _ I h) fun v s1 ⟨x, H1, I1, r1, q1⟩ => ?_)
  refine wpAny_Slice (thn (hl pins s1 σ H1 _ I1 q1) fun vl s2 ⟨l, H2, I2, pl, q2⟩ => thn (hu pins s2 σ H2 _ I2 q2) fun vu s3 ⟨u, H3, I3, pu, q3⟩ => ?_)
  rw [evalPart_none]
  refine wpAny_pure ?_
  have I4 : Inv X pins σ H3 { s3 with heap := s3.heap.push { cls := .type "slice", data := .fields #[vl, vu, .none] } } := I3.kept (t' := s3.toks) fun b ob q => Heap.get?_push_of_some _ q
  obtain ⟨T, id, hT, ht, hg⟩ := hr pins { s3 with heap := s3.heap.push { cls := .type "slice", data := .fields #[vl, vu, .none] } } σ H3 x v vl vu l u s3.heap.objs.size Q I4 r1 (Heap.IsSliceOf.new ..) pl pu q3
  show wpAny (model X.prog X.w) X.A (subscriptTail e (.Slice lo hi none p2) v (.ref s3.heap.objs.size)) (EP X pins σ Q) X.xe { s3 with heap := s3.heap.push { cls := .type "slice", data := .fields #[vl, vu, .none] } }
  exact tail_any (ops := [.ref s3.heap.objs.size, v]) ht hT hg (by with_unfolding_all rfl)
def cutV (xs : List V) (lo hi : Option Int) : List V := (xs.drop (HT.sIx xs.length 0 lo)).take (HT.sIx xs.length xs.length hi - HT.sIx xs.length 0 lo)
theorem cutV_length (xs : List V) (lo hi : Option Int) : (cutV xs lo hi).length ≤ xs.length := by
  unfold cutV
  rw [List.length_take, List.length_drop]
  omega
end
end L2
namespace L2
open PySem PySem.Spec PyProof.Rows
def ixN (n : Nat) (i : Int) : Option Nat := if 0 ≤ i then (if i < n then some i.toNat else none) else if -(n : Int) ≤ i then some (i + n).toNat else none
def atI {α : Type} (xs : List α) (i : Int) : Option α := (ixN xs.length i).bind fun j => xs[j]?
theorem ixN_seq {n : Nat} {i : Int} {j : Nat} (h : ixN n i = some j) : seqIndex? i n = some j ∧ j < n ∧ -(n : Int) ≤ i ∧ i < n := by
  unfold ixN at h
  by_cases h0 : 0 ≤ i
  · rw [if_pos h0] at h
    by_cases h1 : i < n
    · rw [if_pos h1] at h
      have e : i.toNat = j := Option.some.inj h
      exact ⟨by rw [seqIndex_of h0 h1, e], by omega, by omega, h1⟩
    · rw [if_neg h1] at h; cases h
  · rw [if_neg h0] at h
    by_cases h1 : -(n : Int) ≤ i
    · rw [if_pos h1] at h
      have e : (i + n).toNat = j := Option.some.inj h
      exact ⟨by rw [seqIndex_neg (by omega) h1, e], by omega, h1, by omega⟩
    · rw [if_neg h1] at h; cases h
theorem atI_get {α : Type} {xs : List α} {i : Int} {v : α} (h : atI xs i = some v) : ∃ j, seqIndex? i xs.length = some j ∧ xs[j]? = some v ∧ j < xs.length ∧ -(xs.length : Int) ≤ i ∧ i < xs.length := by
  unfold atI at h
  cases e : ixN xs.length i with
  | none => rw [e] at h; cases h
  | some j =>
    rw [e] at h
    obtain ⟨h1, h2, h3, h4⟩ := ixN_seq e
    exact ⟨j, h1, h, h2, h3, h4⟩
theorem atI_nat {α : Type} {xs : List α} {j : Nat} {v : α} (h : xs[j]? = some v) : atI xs (j : Int) = some v := by
  have hj : j < xs.length := (List.getElem?_eq_some_iff.mp h).1
  have e : ixN xs.length (j : Int) = some j := by
    unfold ixN
    rw [if_pos (by omega), if_pos (by omega)]; simp
  unfold atI; rw [e]; exact h
def PlainIx (b : Expr) : Prop := ∀ o i, subscripted b false o i = operate [o, i] (getItem o i)
def IxR (X : Cx) (r : R2) : Prop :=
  ∀ (value slice : Expr) (pins : List (Addr × Obj)) (s : Shared) (σ : St) (H : Hp) (x y : V) (v u : Value) (Q : VK), Inv X pins σ H s → RelV x v → RelV y u → r x y H Q →
    subscripted slice false v u = operate [v, u] (getItem v u) → wpAny (model X.prog X.w) X.A (subscriptTail value slice v u) (EP X pins σ Q) X.xe s
def MtR (X : Cx) (id : String) (r : V → List V → Hp → VK → Prop) : Prop :=
  ∀ (pins : List (Addr × Obj)) (s : Shared) (σ : St) (H : Hp) (x : V) (xs : List V) (v : Value) (us : List Value) (Q : VK), Inv X pins σ H s → RelV x v → Vals xs us → r x xs H Q →
    wpAny (model X.prog X.w) X.A (call (.builtin id) (v :: us)) (EP X pins σ Q) X.xe s
section
variable {X : Cx} {a b : Expr} {ta tb : TE} {pos : Pos}
theorem IxR.or {r r' : R2} (h : IxR X r) (h' : IxR X r') : IxR X (fun x y H Q => r x y H Q ∨ r' x y H Q) := by
  intro value slice pins s σ H x y v u Q I rx ry q hs
  rcases q with q | q
  · exact h value slice pins s σ H x y v u Q I rx ry q hs
  · exact h' value slice pins s σ H x y v u Q I rx ry q hs
theorem MtR.or {id : String} {r r' : V → List V → Hp → VK → Prop} (h : MtR X id r) (h' : MtR X id r') : MtR X id (fun x xs H Q => r x xs H Q ∨ r' x xs H Q) := by
  intro pins s σ H x xs v us Q I rx rs q
  rcases q with q | q
  · exact h pins s σ H x xs v us Q I rx rs q
  · exact h' pins s σ H x xs v us Q I rx rs q
theorem pe_ix {r : R2} (hr : IxR X r) (ha : PE X a ta) (hb : PE X b tb) (hs : PlainIx b) : PE X (.Subscript a b pos) (tOp r ta tb) := by
  intro pins s σ H Q I h
  exact Subscript_ (binT ha hb I h fun v u s2 x y H2 I2 rx ry q => hr a b pins s2 σ H2 x y v u Q I2 rx ry q (hs _ _))
def rIxL (K : PySem.W.Frag) : R2 := fun x y H Q => ∃ p xs i v, x = .ref p ∧ y = .int i ∧ SqL K H p xs ∧ atI xs i = some v ∧ Q v H
def rIxT (K : PySem.W.Frag) : R2 := fun x y H Q => ∃ p xs i v, x = .ref p ∧ y = .int i ∧ SqT K H p xs ∧ atI xs i = some v ∧ Q v H
def rIxS : R2 := fun x y H Q => ∃ z i c, x = .str z ∧ y = .int i ∧ z.length ≤ sizeLine ∧ atI z.cps.toList i = some c ∧ Q (.str ⟨#[c]⟩) H
theorem ix_list : IxR X (rIxL X.K) := by
  intro value slice pins s σ H x y v u Q I rx ry h hs
  obtain ⟨p, xs, i, z, rfl, rfl, hq, he, q⟩ := h
  cases rx
  obtain ⟨t, rfl⟩ := ry
  obtain ⟨its, r, pl, hz⟩ := I.list hq
  obtain ⟨j, h1, h2, h3, h4, h5⟩ := atI_get he
  obtain ⟨w, ew, rw'⟩ := r.get h2
  have hl := r.length
  have hn := line63
  have fin : EP X pins σ Q w s := ⟨z, H, I, rw', q⟩
  by_cases h0 : 0 ≤ i
  · have hj : i.toNat = j := by
      rw [seqIndex_of h0 h5] at h1
      exact Option.some.inj h1
    exact item_listR pl.isList h0 (by omega) (by rw [hj]; simpa using ew) fin hs
  · have hj : (i + (its.toArray.size : Int)).toNat = j := by
      rw [seqIndex_neg (by omega) h4] at h1
      rw [List.size_toArray, ← hl]
      exact Option.some.inj h1
    exact subscriptTail_builtinR (x := w) pl.isList.typeIs slot_list_getitem.lookup
      (wpAny_getItem_list_neg (Q := fun r s' => r = w ∧ EP X pins σ Q r s') pl.isList (by omega) (by rw [List.size_toArray] <;> omega) (by omega) (by rw [hj]; simpa using ew) ⟨rfl, fin⟩) hs
theorem ix_tup : IxR X (rIxT X.K) := by
  intro value slice pins s σ H x y v u Q I rx ry h hs
  obtain ⟨p, xs, i, z, rfl, rfl, hq, he, q⟩ := h
  cases rx
  obtain ⟨t, rfl⟩ := ry
  obtain ⟨its, r, pl, hz⟩ := I.tuple hq
  obtain ⟨j, h1, h2, h3, h4, h5⟩ := atI_get he
  obtain ⟨w, ew, rw'⟩ := r.get h2
  have hl := r.length
  have hn := line63
  have fin : EP X pins σ Q w s := ⟨z, H, I, rw', q⟩
  exact subscriptTail_builtinR (x := w) pl.typeIs slot_tuple_getitem.lookup
    (getItem_tuple (j := j) (Q := fun r s' => r = w ∧ EP X pins σ Q r s') pl (by omega) (by omega) (by rw [List.size_toArray, ← hl]; exact h1) (by simpa using ew) ⟨rfl, fin⟩) hs
theorem ix_str : IxR X rIxS := by
  intro value slice pins s σ H x y v u Q I rx ry h hs
  obtain ⟨z, i, c, rfl, rfl, hz, he, q⟩ := h
  obtain ⟨t, rfl⟩ := rx
  obtain ⟨t', rfl⟩ := ry
  obtain ⟨j, h1, h2, h3, h4, h5⟩ := atI_get he
  have hl : z.cps.toList.length = z.length := by simp [Str.length]
  rw [hl] at h1 h4 h5
  have hn := line63
  exact tail_any (typeIs_str s z t) slot_str_getitem.lookup (getItem_str (c := c) (by
    have e1 : decide (i < -(2 ^ 63 : Int)) = false := decide_eq_false (by omega)
    have e2 : decide (i ≥ 2 ^ 63) = false := decide_eq_false (by omega)
    rw [e1, e2, Bool.or_false]) (by rw [h1]; simpa using h2) ⟨.str ⟨#[c]⟩, H, I.tok _, ⟨_, rfl⟩, q⟩) hs
theorem mapSeq_set (its : List Value) (n j : Nat) (u : Value) : Obj.mapSeq (·.setIfInBounds j u) { cls := .type "list", data := .seq its.toArray n } = { cls := .type "list", data := .seq (its.set j u).toArray n } := by
  simp [Obj.mapSeq]
theorem Inv.lst {pins : List (Addr × Obj)} {σ : St} {H : Hp} {s : Shared} {p : Addr} {xs : List V} (I : Inv X pins σ H s) (h : H p = some (.lst xs)) :
    ∃ (its : List Value) (n : Nat), Vals xs its ∧ s.heap.get? p = some { cls := .type "list", data := .seq its.toArray n } ∧ xs.length ≤ sizeLine := by
  obtain ⟨z, its, n, r, e⟩ := I.hok p _ h
  exact ⟨its, n, r, e, z⟩
theorem Inv.lstUpd {pins : List (Addr × Obj)} {σ : St} {H : Hp} {s : Shared} {p : Addr} {xs ys : List V} {its its' : List Value} {n n' : Nat} {f : Obj → Obj} (I : Inv X pins σ H s) (h : H p = some (.lst xs))
    (ho : s.heap.get? p = some { cls := .type "list", data := .seq its.toArray n }) (hf : f { cls := .type "list", data := .seq its.toArray n } = { cls := .type "list", data := .seq its'.toArray n' }) (r : Vals ys its') (hz : ys.length ≤ sizeLine) (t : Nat) :
    Inv X pins σ (upd H p (.lst ys)) { s with heap := s.heap.update p f, toks := t } := by
  have e : (s.heap.update p f).get? p = some { cls := .type "list", data := .seq its'.toArray n' } := by
    rw [Heap.get?_update_self f ho (by rw [hf] <;> rfl), hf]
  refine I.write (x := p) (e := p) (by rw [h]; trivial) (.inl rfl) (fun b u hb q => (Heap.get?_update_other _ _ (Ne.symm hb)).trans q) ⟨_, e⟩ ?_
  exact ⟨hz, its', n', r, e⟩
def rSetL : V → V → V → Hp → (Hp → Prop) → Prop := fun o i v H Q => ∃ p xs k j, o = .ref p ∧ i = .int k ∧ H p = some (.lst xs) ∧ ixN xs.length k = some j ∧ Q (upd H p (.lst (xs.set j v)))
theorem set_list : PSet X rSetL := by
  intro pins s σ H o i v ov iv u Q I ro ri rv h
  obtain ⟨p, xs, k, j, rfl, rfl, hp, hj, q⟩ := h
  cases ro
  obtain ⟨t, rfl⟩ := ri
  obtain ⟨its, n, r, ho, hz⟩ := I.lst hp
  obtain ⟨h1, h2, h3, h4⟩ := ixN_seq hj
  have hl := r.length
  have hn := line63
  have I' : Inv X pins σ (upd H p (.lst (xs.set j v))) { s with heap := s.heap.update p (Obj.mapSeq (·.setIfInBounds j u)) } :=
    I.lstUpd hp ho (mapSeq_set its n j u) (r.set rv j) (by rw [List.length_set]; exact hz) s.toks
  by_cases h0 : 0 ≤ k
  · have hk : k.toNat = j := by
      rw [seqIndex_of h0 h4] at h1
      exact Option.some.inj h1
    exact PySem.W.ki_setAt ho h0 (by omega) (by rw [List.size_toArray, ← hl]; exact h4) (by rw [hk]; exact ⟨_, I', q⟩)
  · have hk : (k + (its.toArray.size : Int)).toNat = j := by
      rw [seqIndex_neg (by omega) h3] at h1
      rw [List.size_toArray, ← hl]
      exact Option.some.inj h1
    exact PySem.W.ki_setBack ho (by omega) (by rw [List.size_toArray, ← hl]; exact h3) (by omega) (by rw [hk]; exact ⟨_, I', q⟩)
theorem slice_bounds (lo hi : Option Int) (n : Nat) : (sliceBounds lo hi none n).1 = ((HT.sIx n 0 lo : Nat) : Int) ∧ (sliceBounds lo hi none n).2.1 = ((HT.sIx n n hi : Nat) : Int) ∧ (sliceBounds lo hi none n).2.2 = 1 := by
  refine ⟨?_, ?_, rfl⟩
  · cases lo with
    | none => simp [sliceBounds, HT.sIx]
    | some i =>
      simp only [sliceBounds, HT.sIx, Option.getD_none, show (1 : Int) > 0 by decide, if_true]
      by_cases h : i < 0
      · simp only [h, if_true] <;> omega
      · simp only [h, if_false] <;> omega
  · cases hi with
    | none => simp [sliceBounds, HT.sIx]
    | some i =>
      simp only [sliceBounds, HT.sIx, Option.getD_none, show (1 : Int) > 0 by decide, if_true]
      by_cases h : i < 0
      · simp only [h, if_true] <;> omega
      · simp only [h, if_false] <;> omega
theorem slicePick_cut (its : List Value) (lo hi : Option Int) : slicePick its.toArray lo hi none = ((its.drop (HT.sIx its.length 0 lo)).take (HT.sIx its.length its.length hi - HT.sIx its.length 0 lo)).toArray := by
  obtain ⟨h1, h2, h3⟩ := slice_bounds lo hi its.toArray.size
  unfold slicePick
  rw [h1, h2, h3]
  simp only [sliceRange_one, pick_run, List.size_toArray] <;> rfl
def rSlL (K : PySem.W.Frag) : V → Option Int → Option Int → Hp → VK → Prop := fun x lo hi H Q => ∃ a xs, x = .ref a ∧ SqL K H a xs ∧ ∀ p, H p = none → Q (.ref p) (upd H p (.lst (cutV xs lo hi)))
theorem sl_list : SlR X (rSlL X.K) := by
  intro pins s σ H x v vl vu lo hi sl Q I rx hs pl pu h
  obtain ⟨a, xs, rfl, hx, q⟩ := h
  cases rx
  obtain ⟨its, r, ht, hz⟩ := I.list hx
  have hlen := r.length
  refine ⟨"list", _, slot_list_getitem.lookup, ht.isList.typeIs, ?_⟩
  refine wpAny_getItem_list_slice ht.isList hs pl pu .none (by simp) ?_ (by rw [List.size_toArray] <;> omega)
  rw [slicePick_cut, ← hlen]
  refine ⟨.ref s.heap.objs.size, _, I.laid (t' := s.toks) (o := .lst (cutV xs lo hi)) (fun b ob q => Heap.get?_push_of_some _ q) (Nat.le_refl _) ?_, rfl, q _ (I.hok.fresh (Nat.le_refl _))⟩
  exact ⟨Nat.le_trans (cutV_length xs lo hi) hz, _, 0, (r.drop (HT.sIx xs.length 0 lo)).take (HT.sIx xs.length xs.length hi - HT.sIx xs.length 0 lo), Heap.get?_push_size _ rfl⟩
def flatV : V → Bool
  | .non => true
  | .bl _ => true
  | .int _ => true
  | .str _ => true
  | _ => false
def eqV : V → V → Bool
  | .non, .non => true
  | .bl a, .bl b => a == b
  | .bl a, .int b => (if a then 1 else 0) == b
  | .int a, .bl b => a == (if b then 1 else 0)
  | .int a, .int b => a == b
  | .str a, .str b => a == b
  | _, _ => false
theorem eqAt_V {A : Around} {s : Shared} {y x : V} {u v : Value} (ry : RelV y u) (rx : RelV x v) (fy : flatV y = true) (fx : flatV x = true) : SeqAt.EqAt A s u v (eqV y x) := by
  cases y with
  | non =>
    cases ry
    cases x with
    | non => cases rx; exact SeqAt.EqAt.same _
    | bl b => cases rx; exact SeqAt.EqAt.none_bool b
    | int b => obtain ⟨t, rfl⟩ := rx; exact SeqAt.EqAt.none_int b t
    | str b => obtain ⟨t, rfl⟩ := rx; exact SeqAt.EqAt.none_str b t
    | _ => exact absurd (show false = true from fx) Bool.false_ne_true
  | bl a =>
    cases ry
    cases x with
    | non => cases rx; exact SeqAt.EqAt.bool_none a
    | bl b => cases rx; exact SeqAt.EqAt.bool_bool a b
    | int b => obtain ⟨t, rfl⟩ := rx; exact SeqAt.EqAt.bool_int a b t
    | str b => obtain ⟨t, rfl⟩ := rx; exact SeqAt.EqAt.bool_str a b t
    | _ => exact absurd (show false = true from fx) Bool.false_ne_true
  | int a =>
    obtain ⟨t', rfl⟩ := ry
    cases x with
    | non => cases rx; exact SeqAt.EqAt.int_none a t'
    | bl b => cases rx; exact SeqAt.EqAt.int_bool a t' b
    | int b => obtain ⟨t, rfl⟩ := rx; exact SeqAt.EqAt.int_int a t' b t
    | str b => obtain ⟨t, rfl⟩ := rx; exact SeqAt.EqAt.int_str a t' b t
    | _ => exact absurd (show false = true from fx) Bool.false_ne_true
  | str a =>
    obtain ⟨t', rfl⟩ := ry
    cases x with
    | non => cases rx; exact SeqAt.EqAt.str_none a t'
    | bl b => cases rx; exact SeqAt.EqAt.str_bool a t' b
    | int b => obtain ⟨t, rfl⟩ := rx; exact SeqAt.EqAt.str_int a t' b t
    | str b => obtain ⟨t, rfl⟩ := rx; exact SeqAt.EqAt.str_str a t' b t
    | _ => exact absurd (show false = true from fx) Bool.false_ne_true
  | _ => exact absurd (show false = true from fy) Bool.false_ne_true
def eqU (x : V) (u : Value) : Bool := match u with
  | .none => eqV .non x
  | .bool b => eqV (.bl b) x
  | .int i _ => eqV (.int i) x
  | .str z _ => eqV (.str z) x
  | _ => false
theorem eqU_of {x y : V} {u : Value} (r : RelV y u) (f : flatV y = true) : eqU x u = eqV y x := by
  cases y with
  | non => cases r; rfl
  | bl b => cases r; rfl
  | int i => obtain ⟨t, rfl⟩ := r; rfl
  | str z => obtain ⟨t, rfl⟩ := r; rfl
  | _ => exact absurd (show false = true from f) Bool.false_ne_true
theorem any_eqU {x : V} : ∀ {xs : List V} {us : List Value}, Vals xs us → xs.all flatV = true → us.any (eqU x) = xs.any fun y => eqV y x
  | _, _, .nil, _ => rfl
  | y :: xs, u :: us, .cons r t, f => by
    rw [List.all_cons, Bool.and_eq_true] at f
    rw [List.any_cons, List.any_cons, eqU_of r f.1, any_eqU t f.2]
theorem mem_eqAt {A : Around} {s : Shared} {x : V} {v : Value} (rx : RelV x v) (fx : flatV x = true) : ∀ {xs : List V} {us : List Value}, Vals xs us → xs.all flatV = true → ∀ u ∈ us, SeqAt.EqAt A s u v (eqU x u)
  | _, _, .nil, _ => fun u hu => by cases hu
  | y :: xs, u :: us, .cons r t, f => fun u' hu => by
    rw [List.all_cons, Bool.and_eq_true] at f
    rcases List.mem_cons.mp hu with rfl | hu
    · rw [eqU_of r f.1]; exact eqAt_V r rx f.1 fx
    · exact mem_eqAt rx fx t f.2 u' hu
def inV (x : V) (xs : List V) : Bool := xs.any fun y => eqV y x
def rIn (K : PySem.W.Frag) (neg : Bool) : R2 := fun x y H Q => ∃ p xs, y = .ref p ∧ (SqL K H p xs ∨ SqT K H p xs) ∧ flatV x = true ∧ xs.all flatV = true ∧ Q (.bl (if neg then !inV x xs else inV x xs)) H
theorem op_notIn_seq : OpR X (compareOp .NotIn) (rIn X.K true) := by
  intro pins s σ H x y v u Q I rx ry h
  obtain ⟨p, xs, rfl, hq, fx, fs, q⟩ := h
  cases ry
  rcases hq with hq | hq
  · obtain ⟨its, r, pl, hz⟩ := I.list hq
    refine SeqAt.notIn_listAt (eqU x) pl.isList (fun w hw => mem_eqAt rx fx r fs w (by simpa using hw)) ⟨.bl _, H, I, rfl, ?_⟩
    rw [show its.toArray.any (eqU x) = its.any (eqU x) by simp, any_eqU r fs]
    exact q
  · obtain ⟨its, r, pl, hz⟩ := I.tuple hq
    refine SeqAt.notIn_tupleAt (eqU x) pl (fun w hw => mem_eqAt rx fx r fs w (by simpa using hw)) ⟨.bl _, H, I, rfl, ?_⟩
    rw [show its.toArray.any (eqU x) = its.any (eqU x) by simp, any_eqU r fs]
    exact q
theorem op_notIn_str : OpR X (compareOp .NotIn) (fun x y H Q => ∃ i j, x = .str i ∧ y = .str j ∧ Q (.bl (!(!(Builtin.Str.occurrences j i 0 j.length 1).isEmpty))) H) := by
  intro pins s σ H x y v u Q I rx ry h
  obtain ⟨i, j, rfl, rfl, q⟩ := h
  obtain ⟨t, rfl⟩ := rx
  obtain ⟨t', rfl⟩ := ry
  exact notIn_str ⟨.bl _, H, I, rfl, q⟩
theorem call_len_seq : CallR X (.builtin "len") (fun xs H Q => ∃ p ys, xs = [.ref p] ∧ (SqL X.K H p ys ∨ SqT X.K H p ys) ∧ Q (.int ys.length) H) := by
  intro pins s σ H xs us Q I r h
  obtain ⟨p, ys, rfl, hq, q⟩ := h
  obtain ⟨u, rfl, rx⟩ := vals1 r
  cases rx
  have hn := line63
  rcases hq with hq | hq
  · obtain ⟨its, r', pl, hz⟩ := I.list hq
    have hlen := r'.length
    exact Calls.call_len_list pl.isList (by simp only [List.size_toArray] <;> omega) ⟨.int ys.length, H, I.tok _, ⟨s.toks + 1, by rw [List.size_toArray, hlen]⟩, q⟩
  · obtain ⟨its, r', pl, hz⟩ := I.tuple hq
    have hlen := r'.length
    exact len_tuple pl (by simp only [List.size_toArray] <;> omega) ⟨.int ys.length, H, I.tok _, ⟨s.toks + 1, by rw [List.size_toArray, hlen]⟩, q⟩
theorem call_len_str : CallR X (.builtin "len") (fun xs H Q => ∃ z, xs = [.str z] ∧ z.length ≤ sizeLine ∧ Q (.int z.length) H) := by
  intro pins s σ H xs us Q I r h
  obtain ⟨z, rfl, hz, q⟩ := h
  obtain ⟨u, rfl, t, rfl⟩ := vals1 r
  have hn := line63
  exact len_str (by omega) ⟨.int z.length, H, I.tok _, ⟨_, rfl⟩, q⟩
theorem CallR.or {f : Value} {r r' : List V → Hp → VK → Prop} (h : CallR X f r) (h' : CallR X f r') : CallR X f (fun xs H Q => r xs H Q ∨ r' xs H Q) := by
  intro pins s σ H xs us Q I rs q
  rcases q with q | q
  · exact h pins s σ H xs us Q I rs q
  · exact h' pins s σ H xs us Q I rs q
def tyV (K : PySem.W.Frag) (T : String) (x : V) (H : Hp) : Prop := match x with
  | .str _ => T = "str"
  | .int _ => T = "int"
  | .ref p => (T = "list" ∧ ∃ xs, SqL K H p xs) ∨ (T = "tuple" ∧ ∃ o, K.lookup p = some o ∧ o.cls = .type "tuple" ∧ o.dict = none) ∨
      (T = "dict" ∧ ((∃ kvs, H p = some (.dK kvs)) ∨ ∃ kvs, H p = some (.dT kvs))) ∨ (T = "set" ∧ ∃ S n, H p = some (.set S n))
  | _ => False
theorem tyV_is {pins : List (Addr × Obj)} {σ : St} {H : Hp} {s : Shared} {T : String} {x : V} {v : Value} (I : Inv X pins σ H s) (r : RelV x v) (ty : tyV X.K T x H) :
    s.TypeIs v T ∧ ∀ a, v = .ref a → ∃ ob, s.heap.get? a = some ob ∧ ob.dict = none := by
  cases x with
  | str z =>
    obtain ⟨t, rfl⟩ := r
    cases (show T = "str" from ty)
    exact ⟨typeIs_str s z t, fun _ e => nomatch e⟩
  | int i =>
    obtain ⟨t, rfl⟩ := r
    cases (show T = "int" from ty)
    exact ⟨typeIs_int s i t, fun _ e => nomatch e⟩
  | ref p =>
    cases r
    rcases ty with ⟨rfl, xs, hq⟩ | ⟨rfl, o, hk, hc, hd⟩ | ⟨rfl, hk⟩ | ⟨rfl, S, n, hk⟩
    · obtain ⟨its, _, pl, _⟩ := I.list hq
      refine ⟨pl.isList.typeIs, fun a e => ?_⟩
      cases e
      obtain ⟨o, n, e, c, hd, _⟩ := pl
      exact ⟨o, e, hd⟩
    · refine ⟨⟨o, I.kIn p o hk, hc⟩, fun a e => ?_⟩
      cases e
      exact ⟨o, I.kIn _ o hk, hd⟩
    · have z : ∃ o, s.heap.get? p = some o ∧ o.ExactDict := by
        rcases hk with ⟨kvs, hk⟩ | ⟨kvs, hk⟩
        · obtain ⟨_, _, _, _, o, _, _, e, ex, _⟩ := I.hok p _ hk
          exact ⟨o, e, ex⟩
        · obtain ⟨_, _, _, _, o, _, _, e, ex, _⟩ := I.hok p _ hk
          exact ⟨o, e, ex⟩
      obtain ⟨o, e, ex⟩ := z
      refine ⟨⟨o, e, ex.1⟩, fun a e2 => ?_⟩
      cases e2
      exact ⟨o, e, ex.2.1⟩
    · obtain ⟨o, _, _, _, e, ex, _⟩ := I.hok p _ hk
      refine ⟨⟨o, e, ex.1⟩, fun a e2 => ?_⟩
      cases e2
      exact ⟨o, e, ex.2.1⟩
  | _ => exact False.elim ty
def tBM (K : PySem.W.Frag) (T : String) (r : V → List V → Hp → VK → Prop) (to : TE) (t : TA) : TE := fun σ H Q => to σ H fun x H1 => tyV K T x H1 ∧ t σ H1 fun xs H2 => r x xs H2 Q
variable {o e : Expr} {es : List Expr} {to : TE} {t : TA} {name : Str} {apos cpos : Pos} {T id : String} {r : V → List V → Hp → VK → Prop}
theorem pe_bm (pa : PlainAttrs T) (slot : Slot T name id) (hty : typeOf (.builtin id) = pure (.type "method_descriptor")) (hm : MtR X id r) (ho : PE X o to) (ha : PA X (e :: es) t)
    (hbase : attributeBase o name X.env (eval o X.env) = eval o X.env := by rfl)
    (hfew : ((backTo cpos (starEach (e :: es) X.env)).all (fun x => !x.1) && (backToKw cpos (keywordEach [] X.env)).all (fun x => x.1.isSome)
      && decide ((e :: es).length + ([] : List Keyword).length + (if ([] : List Keyword).isEmpty then 0 else 1) < 30)) = true := by rfl)
    (hline : (apos.endLine == cpos.line) = true := by rfl) (hs : starEach (e :: es) X.env = (false, eval e X.env) :: starEach es X.env := by rfl) (hplain : (backTo cpos (starEach es X.env)).any (·.1) = false := by rfl) :
    PE X (.Call (.Attribute o name apos) (e :: es) [] cpos) (tBM X.K T r to t) := by
  intro pins s σ H Q I h
  refine wpAny_Call_method_late hbase hfew hline rfl (thn (ho pins s σ H _ I h) fun v s1 ⟨x, H1, I1, r1, ty, q1⟩ => ?_)
  obtain ⟨h1, h2⟩ := tyV_is I1 r1 ty
  refine ⟨T, id, pa, slot, hty, h1, h2, ?_⟩
  have hA := ha cpos pins s1 σ H1 _ I1 q1
  rw [hs] at hA ⊢
  refine Calls.callWith_builtin (by show (false || (backTo cpos (starEach es X.env)).any (·.1)) = false; rw [hplain] <;> rfl) (Calls.evalArgs_plain ?_)
  exact thn hA fun us s2 ⟨vs, H2, I2, r2, q2⟩ => hm pins s2 σ H2 x vs v us Q I2 r1 r2 q2
end
end L2
namespace L2
open PySem PySem.Spec PyProof.Rows
def MtM (X : Cx) (id : String) (r : V → List V → Hp → VK → Prop) : Prop :=
  ∀ (pins : List (Addr × Obj)) (s : Shared) (σ : St) (H : Hp) (x : V) (xs : List V) (v : Value) (us : List Value) (Q : VK), Inv X pins σ H s → RelV x v → Vals xs us → r x xs H Q →
    wpAny (model X.prog X.w) X.A (call (.builtin id) (v :: us)) (EP X pins σ Q) X.xe s
theorem Vals.one : ∀ {x : V} {us : List Value}, Vals [x] us → ∃ u, us = [u] ∧ RelV x u
  | _, _, .cons r .nil => ⟨_, rfl, r⟩
theorem Vals.zero : ∀ {us : List Value}, Vals [] us → us = []
  | _, .nil => rfl
section
variable {X : Cx} {pins : List (Addr × Obj)} {σ : St} {H : Hp} {s : Shared} {l b : Addr} {xs ys zs : List V}
theorem Inv.lset {its its' : List Value} {n : Nat} {f : Array Value → Array Value} {t' : Nat} (I : Inv X pins σ H s) (hH : H l = some (.lst xs))
    (e : s.heap.get? l = some { cls := .type "list", data := .seq its.toArray n }) (hf : f its.toArray = its'.toArray) (hv : Vals ys its') (hz : ys.length ≤ sizeLine) :
    Inv X pins σ (upd H l (.lst ys)) { s with heap := s.heap.update l (Obj.mapSeq f), toks := t' } := by
  have q := PySem.IsL.update e f
  rw [hf] at q
  refine I.write (x := l) (e := l) (by rw [hH]; exact trivial) (.inl rfl) (fun b' u hb hu => (Heap.get?_update_other s.heap (Obj.mapSeq f) (Ne.symm hb)).trans hu) ⟨_, q⟩ ?_
  exact ⟨hz, its', _, hv, q⟩
theorem Inv.lnew {its : List Value} {t' : Nat} (I : Inv X pins σ H s) (hv : Vals ys its) (hz : ys.length ≤ sizeLine) :
    Inv X pins σ (upd H s.heap.objs.size (.lst ys)) { s with heap := s.heap.push { cls := .type "list", data := .seq its.toArray }, toks := t' } :=
  I.laid (fun _ _ q => Heap.get?_push_of_some _ q) (Nat.le_refl _) ⟨hz, its, 0, hv, Heap.get?_push_size _ rfl⟩
theorem Inv.fresh (I : Inv X pins σ H s) : H s.heap.objs.size = none := I.hok.fresh (Nat.le_refl _)
theorem Inv.lstM (I : Inv X pins σ H s) (hH : H l = some (.lst xs)) : xs.length ≤ sizeLine ∧ ∃ (its : List Value) (n : Nat), Vals xs its ∧ xs.length = its.length ∧ s.heap.get? l = some { cls := .type "list", data := .seq its.toArray n } := by
  obtain ⟨z, its, n, r, e⟩ := I.hok l _ hH
  exact ⟨z, its, n, r, r.length, e⟩
theorem notLongL {n : Nat} (h : n ≤ sizeLine) : Builtin.List.listTooLong n = false := by
  unfold Builtin.List.listTooLong
  exact decide_eq_false (by omega)
end
section
variable {X : Cx}
def rAppend : V → List V → Hp → VK → Prop := fun x vs H Q => ∃ l xs y, x = .ref l ∧ vs = [y] ∧ H l = some (.lst xs) ∧ xs.length < sizeLine ∧ Q .non (upd H l (.lst (xs ++ [y])))
theorem mt_append : MtM X "list.append" rAppend := by
  intro pins s σ H x vs v us Q I rx rv h
  obtain ⟨l, xs, y, rfl, rfl, hH, hz, q⟩ := h
  cases rx
  obtain ⟨u, rfl, ru⟩ := rv.one
  obtain ⟨z, its, n, r, hl, e⟩ := I.lstM hH
  refine call_meets F.slot_list_append ⟨_, e, rfl⟩ F.entry_list_append (F.args_list_append_2 _ _) (PySem.list_append l its.toArray n u (by rw [List.size_toArray]; omega)) ⟨e, ?_⟩
  refine ⟨.non, _, I.lset (its' := its ++ [u]) hH e (by simp) (r.append (.cons ru .nil)) ?_, rfl, q⟩
  rw [List.length_append, List.length_singleton]
  omega
def rExtend : V → List V → Hp → VK → Prop := fun x vs H Q => ∃ l b xs zs, x = .ref l ∧ vs = [.ref b] ∧ H l = some (.lst xs) ∧ H b = some (.lst zs) ∧ xs.length + zs.length ≤ sizeLine ∧ Q .non (upd H l (.lst (xs ++ zs)))
theorem mt_extend : MtM X "list.extend" rExtend := by
  intro pins s σ H x vs v us Q I rx rv h
  obtain ⟨l, b, xs, zs, rfl, rfl, hH, hB, hz, q⟩ := h
  cases rx
  obtain ⟨u, rfl, ru⟩ := rv.one
  cases ru
  obtain ⟨z, its, n, r, hl, e⟩ := I.lstM hH
  obtain ⟨z2, its2, n2, r2, hl2, e2⟩ := I.lstM hB
  have hsz : its.toArray.size + its2.toArray.size ≤ sizeLine := by rw [List.size_toArray, List.size_toArray]; omega
  have hlong : ¬ (!its.toArray.isEmpty && Builtin.List.listTooLong (its.toArray.size + its2.toArray.size)) = true := by
    rw [notLongL hsz, Bool.and_false]
    exact Bool.false_ne_true
  refine call_meets F.slot_list_extend ⟨_, e, rfl⟩ F.entry_list_extend (F.args_list_extend_2 _ _)
    (AutoSeq1.list_extend_list_list_0 l its.toArray n b its2.toArray n2 hlong (by rw [List.size_toArray]; omega) (by omega)) ⟨e, e2, ?_⟩
  refine ⟨.non, _, I.lset (its' := its ++ its2) hH e (by simp) (r.append r2) ?_, rfl, q⟩
  rw [List.length_append]
  omega
def rCat : R2 := fun x y H Q => ∃ l b xs zs, x = .ref l ∧ y = .ref b ∧ H l = some (.lst xs) ∧ H b = some (.lst zs) ∧ xs.length + zs.length ≤ sizeLine ∧ ∀ p, H p = none → Q (.ref p) (upd H p (.lst (xs ++ zs)))
theorem op_cat : OpR X (binaryOp .Add) rCat := by
  intro pins s σ H x y v u Q I rx ry h
  obtain ⟨l, b, xs, zs, rfl, rfl, hH, hB, hz, q⟩ := h
  cases rx
  cases ry
  obtain ⟨z, its, n, r, hl, e⟩ := I.lstM hH
  obtain ⟨z2, its2, n2, r2, hl2, e2⟩ := I.lstM hB
  refine PySem.P.add_list e e2 ?_ (by rw [List.size_toArray, List.size_toArray]; omega)
  have ea : its.toArray ++ its2.toArray = (its ++ its2).toArray := by simp
  rw [ea]
  exact ⟨.ref _, _, I.lnew (t' := s.toks) (r.append r2) (by rw [List.length_append]; omega), rfl, q _ I.fresh⟩
end
section
variable {prog : Program} {w : World} {A : Around} {E : Value → Shared → Prop} {s : Shared}
set_option maxRecDepth 100000 in
end
section
variable {X : Cx}
end
end L2
namespace Att
open PySem PySem.W PySem.Calls PyProof.Rows
theorem ints_of_wellAll {P : Params} {h : Heap} : ∀ (ns : List Int) (vs : List Value), WellAll P h vs (ns.map WData.int) → IntsAre vs ns := by
  intro ns
  induction ns with
  | nil =>
    intro vs w
    rw [List.map_nil] at w
    cases w
    exact .nil
  | cons n ns ih =>
    intro vs w
    rw [List.map_cons] at w
    cases w with
    | cons a b =>
      cases a
      exact .cons _ _ (ih _ b)
theorem script_of {l : OpenLaw} {n : Nat} (hn : l.most = some n) {P : Params} {h : Heap} {args : List WData} {vals : List Value}
    (hpre : l.row.toRowW.claim.pre args = true) (hwl : WellAll P h vals args) :
    ∃ a vs ns, vals = [Value.ref a] ∧ args = [WData.list (ns.map WData.int)] ∧ h.get? a = some { cls := .type "list", data := .seq vs.toArray } ∧ IntsAre vs ns ∧ ns.length ≤ n := by
  have hsh : WShape.hasAll [] args [.list .int] = true := (pre_splitW hpre).1
  have hc : l.pre.holds [] { args := args } = true := (pre_splitW hpre).2
  obtain ⟨d, r, rfl, h1, h2⟩ := hasAllW_cons hsh
  obtain rfl := hasAllW_nil h2
  obtain ⟨xs, rfl, h3⟩ := hasW_list h1
  obtain ⟨ns, rfl⟩ := items_int h3
  have hlen : ns.length ≤ n := by
    unfold OpenLaw.pre at hc
    have h4 : (WTm.not (.lt (.lit (.int (n : Int))) (.len (.arg 0)))).holds [] { args := [.list (ns.map .int)] } = true := by
      have h4 := (holds_andW hc).1
      rw [hn] at h4
      exact h4
    have h5 := condW_of h4 (w_not (w_lt w_lit (w_len_list (w_arg rfl))))
    rw [List.length_map] at h5
    refine Nat.le_of_not_lt fun q => ?_
    have q' : (n : Int) < ((ns.length : Nat) : Int) := by omega
    first
      | (rw [decide_eq_true q'] at h5; exact absurd h5 (by decide))
      | (simp at h5; omega)
  cases hwl with
  | cons w1 w2 =>
    cases w2
    cases w1 with
    | list ho hall => exact ⟨_, _, ns, rfl, rfl, ho, ints_of_wellAll ns _ hall, hlen⟩
theorem post_true (l : OpenLaw) (args : List WData) : l.row.toRowW.claim.post args (.bool true) args = true :=
  postW_of (r := l.row.toRowW) (X := (true == true))
    (show WShape.has [] (.bool true) .bool = true by first | rfl | decide | simp [WShape.has, WShape.arms, WShape.armsAll])
    (show (WTm.eq .res (.lit (.bool true))).value [] { args := args, res := some (.bool true), after := args } = some (.bool (true == true)) from w_eq_bool (w_res rfl) w_lit) rfl
theorem attach_call {l : OpenLaw} {n : Nat} {q : Program} {loose : List Str} {XP : (Str → Option Value) → Heap → Prop} {YP : World → Heap → Prop} {d : DefRec}
    (hn : l.most = some n) (hdf : d.params.defaults = [])
    (call : ∀ (w : World) (s₀ s₁ : Shared) (mg mb : Str → Option Value) (fa : Addr) (o : Obj) (pm cd doc : Value) (a : Addr) (vs : List Value) (ns : List Int),
      Ground q loose [] XP w s₀ mg mb s₁.heap → YP w s₁.heap →
      s₁.heap.get? fa = some o → o.data = .func (docDef d.name d.params d.body d.scope pm cd doc) → s₁.heap.CodeRec cd d.name → mg d.name = some (.ref fa) →
      s₁.heap.get? a = some { cls := .type "list", data := .seq vs.toArray } → IntsAre vs ns → ns.length ≤ n → s₁.gens = #[] →
      codeAny (model l.prog w) callerA (.call (.ref fa) ⟨[.ref a], []⟩) (fun r s' => r = .ok (.ret (.bool true)) ∧ OldK s₁.heap s'.heap ∧ s'.os = s₁.os ∧ AllBare s'.gens) s₁) :
    WalkO q loose XP YP l.row.toRowW d [] (fun f vs => PySem.call f vs) := by
  intro w s₀ s₁ mg mb G Y fa o pm cd doc dV kV ho hd hcd hD hmg hg args vals as hpre hlay hrd hwl hlo
  obtain rfl : dV = .none := Dflts.none hD hdf
  obtain rfl : kV = .none := Dflts.noKw hD
  obtain ⟨a, vs, ns, rfl, rfl, hobj, hints, hlen⟩ := script_of hn hpre hwl
  refine enter_call (codeAny_mono (call w s₀ s₁ mg mb fa o pm cd doc a vs ns G Y ho (fd_plain hd) hcd hmg hobj hints hlen hg) fun r s' hq => ?_)
  obtain ⟨rfl, h2, h3, h4⟩ := hq
  exact ⟨.inl ⟨.bool true, .bool true, [], rfl, fun _ => rfl, .bool true, post_true l _, fun _ => ⟨List.Pairwise.nil, fun _ hm => (nomatch hm)⟩⟩, h2, h3, h4⟩
section
variable {prog : Program} {w : World} {A : Around} {E : Value → Shared → Prop} {s : Shared} {K : Frag}
end
end Att
namespace L2
open PySem PySem.Spec PyProof.Rows
theorem vals_ints : ∀ {vs : List Value} {ns : List Int}, IntsAre vs ns → Vals (ns.map V.int) vs
  | _, _, .nil => .nil
  | _, _, .cons n t h => .cons ⟨t, rfl⟩ (vals_ints h)
def Only (H : Hp) : Prop := ∀ b, H b = none ∨ ∃ o xs, H b = some (.frz o (.lst xs))
theorem law_call {P : Program} {w : World} {K : PySem.W.Frag} {mg mb : Str → Option Value} {CX : CXT} {k : Nat} {fa a : Addr} {fd : FuncData} {x : Str} {sp : Sp} {s₁ : Shared} {vs : List Value} {ns : List Int}
    (KX : K.In s₁.heap) (hns : s₁.heap.Ns mainGlobals mg) (hb : s₁.heap.Ns builtinsNs mb) (hbb : ∀ x : Str, x ≠ "__name__" → mb x = bootBuiltins x) (hlim : s₁.heap.NoLimit) (hg : s₁.gens = #[])
    (ha : s₁.heap.get? a = some { cls := .type "list", data := .seq vs.toArray }) (hi : IntsAre vs ns) (hl : ns.length ≤ sizeLine) (hr : Room k callerA)
    (F : ∀ base : Heap, K.In base → base.Ns mainGlobals mg → FnOk P w K mg base CX k fa fd [x] sp) (hbind : ∀ (s : Shared) (u : Value), BindsTo s fd ⟨[u], []⟩ [(x, u)])
    (hsp : ∀ H : Hp, Only H → SqL K H a (ns.map V.int) → sp [.ref a] H (fun v _ => v = .bl true) fun _ _ _ => False)
    (hCX : ∀ H e s', CX [] H s₁ (fun _ _ _ => False) e s' → False) :
    codeAny (model P w) callerA (.call (.ref fa) ⟨[.ref a], []⟩) (fun r s' => r = .ok (.ret (.bool true)) ∧ OldK s₁.heap s'.heap ∧ s'.os = s₁.os ∧ AllBare s'.gens) s₁ := by
  have rv := vals_ints hi
  have lenV := hi.length
  have core : ∀ H : Hp, Only H → SqL K H a (ns.map V.int) → HOk P w H s₁.heap → (∀ b, H b ≠ none → b = a) → (H a ≠ none → K.lookup a = none) →
      codeAny (model P w) callerA (.call (.ref fa) ⟨[.ref a], []⟩) (fun r s' => r = .ok (.ret (.bool true)) ∧ OldK s₁.heap s'.heap ∧ s'.os = s₁.os ∧ AllBare s'.gens) s₁ := by
    intro H hO hS hok hA hK
    have base_of : ∀ {b : Addr} {o : Obj}, s₁.heap.get? b = some o → H b = none → (hidT s₁.heap H).get? b = some o := fun e n => hidT_get e n
    have noA : ∀ {b : Addr} {o : Obj} {es : Array DictEntry} {ep : Nat}, s₁.heap.get? b = some o → o.data = .dict es ep → H b = none := fun {b o es ep} e d => by
      cases q : H b with
      | none => rfl
      | some u =>
        have e' : b = a := hA b (by rw [q]; simp)
        subst e'
        rw [ha] at e; cases e
        have d' : Data.seq vs.toArray _ = Data.dict es ep := d
        cases d'
    have nsK : ∀ {b : Addr} {m : Str → Option Value}, s₁.heap.Ns b m → (hidT s₁.heap H).Ns b m := fun {b m} ⟨o, es, ep, e, d, r⟩ => ⟨o, es, ep, base_of e (noA e d), d, r⟩
    have hKb : K.In (hidT s₁.heap H) := fun b o e => base_of (KX b o e) (by
      cases q : H b with
      | none => rfl
      | some u =>
        have e' : b = a := hA b (by rw [q]; simp)
        subst e'
        rw [hK (by rw [q]; simp)] at e; cases e)
    have hM : Mod K mg (hidT s₁.heap H) := ⟨hKb, nsK hns, ⟨mb, nsK hb, hbb⟩, let ⟨mc, h1, h2⟩ := hlim; ⟨mc, nsK h1, h2⟩⟩
    have e0 : Env0 P w K mg (hidT s₁.heap H) callerA [] s₁ H := ⟨rfl, hM, fun b o e => of_hidT e, Nat.le_of_eq (hidT_size _ _), trivial, fun b hb => absurd (show b ∈ ([] : List Addr) from hb) (by simp), hok, .of_eq hg⟩
    refine codeAny_mono ((F _ hKb (nsK hns)).run callerA [] s₁ H ⟨[.ref a], []⟩ [.ref a] [.ref a] _ _ hr e0 (hbind s₁ (.ref a)) (.cons rfl .nil) (hsp H hO hS)) fun r s' h => ?_
    cases r with
    | error e => exact (hCX H e s' h).elim
    | ok fl =>
      cases fl with
      | next => exact False.elim h
      | brk => exact False.elim h
      | cont => exact False.elim h
      | ret u =>
        obtain ⟨v, H', os, bare, un, hok', r', q⟩ := h
        have q' : v = .bl true := q
        subst q'
        obtain rfl : u = Value.bool true := r'
        refine ⟨rfl, OldK.of_keep fun b o e => ?_, os, bare⟩
        cases q : H b with
        | none => exact un.keep b o e q (by intro z; exact absurd (show b ∈ ([] : List Addr) from z) (by simp)) (by simp)
        | some u =>
          rcases hO b with z | ⟨ob, xs, z⟩
          · rw [q] at z; cases z
          · have z2 := un.frzs b ob _ z
            obtain ⟨e1, _⟩ := hok b _ z
            obtain ⟨e2, _⟩ := hok' b _ z2
            rw [e] at e1; cases e1
            exact e2
  cases hk : K.lookup a with
  | some o =>
    have e := KX a o hk
    rw [ha] at e
    cases e
    refine core (fun _ => none) (fun _ => .inl rfl) (.inr ⟨_, vs.toArray, _, hk, rfl, rfl, rfl, by rw [List.size_toArray, lenV]; exact hl, by simpa using rv⟩) (fun b u z => by have z' : (none : Option HO) = some u := z; cases z') (fun b z => absurd rfl z) fun z => absurd rfl z
  | none =>
    refine core (fun b => if b = a then some (.frz { cls := .type "list", data := .seq vs.toArray } (.lst (ns.map V.int))) else none) (fun b => ?_) (.inl (.inr ⟨{ cls := .type "list", data := .seq vs.toArray }, if_pos rfl⟩)) (fun b u z => ?_) (fun b z => ?_) fun _ => hk
    · by_cases hb : b = a
      · exact .inr ⟨_, _, if_pos hb⟩
      · exact .inl (if_neg hb)
    · by_cases hb : b = a
      · have z' := (if_pos hb).symm.trans z
        cases z'
        subst hb
        exact ⟨ha, by rw [List.length_map]; exact hl, vs, _, rv, ha⟩
      · have z' := (if_neg hb).symm.trans z
        cases z'
    · by_cases hb : b = a
      · exact hb
      · exact absurd (if_neg hb) z
end L2
namespace L2
open PySem PySem.Spec PyProof.Rows
abbrev KOf {K : PySem.W.Frag} {h : Heap} (_ : K.In h) : PySem.W.Frag := K
theorem walk_of {l : PySem.W.OpenLaw} {n k : Nat} {q : Program} {loose : List Str} {XP : (Str → Option Value) → Heap → Prop} {YP : World → Heap → Prop} {d : DefRec} {K : Params → PySem.W.Frag} {CX : World → CXT} {sp : World → Sp} {x : Str}
    (hn : l.most = some n) (hn2 : n ≤ sizeLine) (hdf : d.params.defaults = []) (hr : Room k callerA)
    (hY : ∀ (w : World) (h : Heap), YP w h → (K w.params).In h)
    (F : ∀ (w : World) (mg : Str → Option Value) (fa : Addr) (h : Heap), (K w.params).In h → h.Ns mainGlobals mg → mg d.name = some (.ref fa) →
      ∃ fd : FuncData, (∀ (s : Shared) (u : Value), BindsTo s fd ⟨[u], []⟩ [(x, u)]) ∧
        ∀ base : Heap, (K w.params).In base → base.Ns mainGlobals mg → FnOk l.prog w (K w.params) mg base (CX w) k fa fd [x] (sp w))
    (hsp : ∀ (w : World) (H : Hp) (a : Addr) (ns : List Int), ns.length ≤ n → Only H → SqL (K w.params) H a (ns.map V.int) → sp w [.ref a] H (fun v _ => v = .bl true) fun _ _ _ => False)
    (hCX : ∀ (w : World) (H : Hp) (s : Shared) (e : Value) (s' : Shared), CX w [] H s (fun _ _ _ => False) e s' → False) :
    PySem.W.WalkO q loose XP YP l.row.toRowW d [] (fun f vs => PySem.call f vs) := by
  refine Att.attach_call hn hdf fun w s₀ s₁ mg mb fa o pm cd doc a vs ns G Y ho hd hcd hmg hobj hints hlen hg => ?_
  have KX := hY w _ Y
  obtain ⟨fd, hb, hF⟩ := F w mg fa _ KX G.T.g hmg
  exact law_call KX G.T.g G.T.b G.T.builtins G.T.nolimit hg hobj hints (Nat.le_trans hlen hn2) hr hF hb (fun H hO hS => hsp w H a ns hlen hO hS) fun H e s' => hCX w H s₁ e s'
theorem walk_ofK {l : PySem.W.OpenLaw} {n k : Nat} {q : Program} {loose : List Str} {XP : (Str → Option Value) → Heap → Prop} {YP : World → Heap → Prop} {d : DefRec} {K : Params → PySem.W.Frag} {CX : CXT} {sp : PySem.W.Frag → Sp} {x : Str}
    (hn : l.most = some n) (hn2 : n ≤ sizeLine) (hdf : d.params.defaults = []) (hr : Room k callerA)
    (hY : ∀ (w : World) (h : Heap), YP w h → (K w.params).In h)
    (F : ∀ (w : World) (mg : Str → Option Value) (fa : Addr) (h : Heap), (K w.params).In h → h.Ns mainGlobals mg → mg d.name = some (.ref fa) →
      ∃ fd : FuncData, (∀ (s : Shared) (u : Value), BindsTo s fd ⟨[u], []⟩ [(x, u)]) ∧
        ∀ base : Heap, (K w.params).In base → base.Ns mainGlobals mg → FnOk l.prog w (K w.params) mg base CX k fa fd [x] (sp (K w.params)))
    (hsp : ∀ (K : PySem.W.Frag) (H : Hp) (a : Addr) (ns : List Int), ns.length ≤ n → Only H → SqL K H a (ns.map V.int) → sp K [.ref a] H (fun v _ => v = .bl true) fun _ _ _ => False)
    (hCX : ∀ (H : Hp) (s : Shared) (e : Value) (s' : Shared), CX [] H s (fun _ _ _ => False) e s' → False) :
    PySem.W.WalkO q loose XP YP l.row.toRowW d [] (fun f vs => PySem.call f vs) :=
  walk_of (K := K) (CX := fun _ => CX) (sp := fun w => sp (K w.params)) hn hn2 hdf hr hY F (fun w H a ns h1 h2 h3 => hsp (K w.params) H a ns h1 h2 h3) fun _ H s e s' => hCX H s e s'
end L2
namespace L2
open PySem PySem.Spec PyProof.Rows
def inClass (s : Stmt) (j : Nat) : Stmt := match s with
  | .ClassDef _ _ _ body _ _ _ _ _ _ _ => body.getD j (.Pass ⟨0, 0, 0, 0⟩)
  | _ => .Pass ⟨0, 0, 0, 0⟩
def defArgs (s : Stmt) : Arguments := match s with
  | .FunctionDef _ a _ _ _ _ _ _ _ _ => a
  | _ => { posonlyargs := [], args := [], vararg := none, kwonlyargs := [], kw_defaults := [], kwarg := none, defaults := [] }
def defBody (s : Stmt) : List Stmt := match s with
  | .FunctionDef _ _ b _ _ _ _ _ _ _ => b
  | _ => []
def defScope (s : Stmt) : Scope := match s with
  | .FunctionDef _ _ _ _ _ _ sc _ _ _ => sc
  | _ => { kind := .function, names := [], isGenerator := false, isCoroutine := false }
abbrev CX0 : CXT := fun _ _ _ _ _ _ => False
abbrev E0 : XK := fun _ _ _ => False
theorem pass0 {X : Cx} : Passes CX0 X E0 := fun _ _ _ _ _ _ _ h => h.elim
structure Fun (K : PySem.W.Frag) (x qual : Str) (st : Stmt) (f : Addr) (fd : FuncData) : Prop where
  ex : ∃ (oc : Value) (od : Option Addr) (kV doc pm : Value) (an : Option Addr) (cdv ct : Value) (osl : Array (Option Value)),
    fd = PySem.W.fnOf x qual (defArgs st) (defBody st) (defScope st) .none kV doc pm an cdv ct ∧ K.lookup f = some ⟨oc, od, .func fd, osl⟩ ∧ PySem.W.codeIn K cdv qual = true
  kp : PySem.W.keepIn K (.ref f) = true
section
variable {P : Program} {w : World} {K : PySem.W.Frag} {mg : Str → Option Value} {base : Heap}
theorem Fun.ok {x qual : Str} {st : Stmt} {f : Addr} {fd : FuncData} {N ps : List Str} {k : Nat} {sp : Sp} (F : Fun K x qual st f fd) (S : FnScope N ps (defScope st)) (len : ∀ vs H Q E, sp vs H Q E → vs.length = ps.length)
    (hbody : ∀ (cdv : Value) (A : Around) (outer : List Env) (s : Shared) (H : Hp) (vs : List V) (Q : VK) (E : XK), Room k (A.deeper (envOfC qual (defScope st) s.heap.objs.size f cdv)) → sp vs H Q E →
      ∃ t, PSs (cxOf CX0 P w K mg base N qual (defScope st) f cdv A outer s H E).nox (defBody st) t ∧ t { nx := fun _ H' => Q .non H', rt := Q } (start N vs) H) : FnOk P w K mg base CX0 (k + 1) f fd ps sp := by
  obtain ⟨oc, od, kV, doc, pm, an, cdv, ct, osl, rfl, lk, hcd⟩ := F.ex
  refine fn_of lk hcd S len fun A outer s H vs Q E hr hsp => ?_
  obtain ⟨t, h, q⟩ := hbody cdv A outer s H vs Q E hr hsp
  exact ⟨t, h.nox, q⟩
theorem Fun.binds {x qual : Str} {st : Stmt} {f : Addr} {fd : FuncData} {ps : List Str} (F : Fun K x qual st f fd)
    (h : ∀ (kV doc pm : Value) (an : Option Addr) (cdv ct : Value) (us : List Value), us.length = ps.length → bindArgs (PySem.W.fnOf x qual (defArgs st) (defBody st) (defScope st) .none kV doc pm an cdv ct) ⟨us, []⟩ = pure (ps.zip us)) : Binds K fd ps [] := by
  obtain ⟨oc, od, kV, doc, pm, an, cdv, ct, osl, rfl, lk, hcd⟩ := F.ex
  exact .all (h kV doc pm an cdv ct)
theorem fun_mk {x qual : Str} {st : Stmt} {f : Addr} {oc : Value} {od an : Option Addr} {osl : Array (Option Value)} {kV doc pm cdv ct : Value} (l : K.lookup f = some ⟨oc, od, .func (PySem.W.fnOf x qual (defArgs st) (defBody st) (defScope st) .none kV doc pm an cdv ct), osl⟩)
    (c : PySem.W.codeIn K cdv qual = true) (k : PySem.W.keepIn K (.ref f) = true) : Fun K x qual st f (PySem.W.fnOf x qual (defArgs st) (defBody st) (defScope st) .none kV doc pm an cdv ct) := ⟨⟨oc, od, kV, doc, pm, an, cdv, ct, osl, rfl, l, c⟩, k⟩
end
section
variable {X : Cx}
theorem pv (i : Nat) {x : Str} {pos : Pos} (hN : X.N[i]? = some x := by rfl) (hv : Vis X.env.scope x := by first | exact Or.inl rfl | exact Or.inr (Or.inl rfl) | exact Or.inr (Or.inr rfl)) (hd : (x == ("__debug__" : Str)) = false := by decide)
    (hcd : (x == ("__classdict__" : Str)) = false := by decide) : PE X (.Name x pos) (tVar i) := pe_var hN hv hd hcd
end
theorem iteF {A B : Prop} (h : B) : if false = true then A else B := by
  rw [if_neg Bool.false_ne_true]
  exact h
theorem iteT {A B : Prop} (h : A) : if true = true then A else B := by
  rw [if_pos rfl]
  exact h
theorem ite2 {c A B : Prop} [Decidable c] (h1 : c → A) (h2 : ¬ c → B) : if c then A else B := by
  by_cases h : c
  · rw [if_pos h]
    exact h1 h
  · rw [if_neg h]
    exact h2 h
def Same (H H' : Hp) : Prop := ∀ b o, H b = some o → H' b = some o
theorem Same.refl (H : Hp) : Same H H := fun _ _ h => h
theorem Same.trans {H H1 H2 : Hp} (a : Same H H1) (b : Same H1 H2) : Same H H2 := fun c o h => b c o (a c o h)
theorem Same.free {H H' : Hp} (e : Same H H') {l : Addr} (h : H' l = Option.none) : H l = Option.none := by
  cases q : H l with
  | none => rfl
  | some o =>
    rw [e l o q] at h
    cases h
theorem Same.seq {K : PySem.W.Frag} {H H' : Hp} {a : Addr} {xs : List V} (e : Same H H') (h : SqL K H a xs) : SqL K H' a xs := by
  rcases h with (h | ⟨o, h⟩) | h
  · exact .inl (.inl (e _ _ h))
  · exact .inl (.inr ⟨o, e _ _ h⟩)
  · exact .inr h
end L2
set_option maxHeartbeats 4000000
namespace L2
open PySem PySem.Spec PyProof.Rows
structure D (K : PySem.W.Frag) (mg : Str → Option Value) (x : Str) (st : Stmt) (ps : List Str) (f : Addr) (fd : FuncData) : Prop where
  fn : Fun K x x st f fd
  ba : ∀ us : List Value, us.length = ps.length → bindArgs fd ⟨us, []⟩ = pure (ps.zip us)
  mg : mg x = some (.ref f)
section
variable {X : Cx} {k j : Nat} {f : Addr} {fd : FuncData} {ps : List Str} {sp : Sp} {x : Str} {st : Stmt} {p pos : Pos} {e : Expr} {es : List Expr} {t : TA}
theorem pcall (d : D X.K X.mg x st ps f fd) (F : FnOk X.prog X.w X.K X.mg X.base CX0 j f fd ps sp) (hr : Room k X.A) (hg : Gl X x) (ha : PA X (e :: es) t) (hjk : j ≤ k := by decide) (hdb : (x == ("__debug__" : Str)) = false := by decide)
    (he : starEach (e :: es) X.env = (false, eval e X.env) :: starEach es X.env := by rfl) (hpl : (backTo pos (starEach es X.env)).any (·.1) = false := by rfl) :
    PE X (.Call (.Name x p) (e :: es) [] pos) (tCall sp [] E0 t) :=
  pe_call (F.mono hjk) hr hg d.mg d.fn.kp (.all d.ba) .nil pass0 ha hdb he hpl
end
theorem bt_len : bootBuiltins "len" = some (.builtin "len") := PySem.boot_len
theorem bt_isinstance : bootBuiltins "isinstance" = some (.builtin "isinstance") := by decide +kernel
theorem bt_all : bootBuiltins "all" = some (.builtin "all") := by decide +kernel
theorem bt_bool : bootBuiltins "bool" = some (.type "bool") := by decide +kernel
theorem bt_int : bootBuiltins "int" = some (.type "int") := by decide +kernel
theorem bt_str : bootBuiltins "str" = some (.type "str") := by decide +kernel
theorem bt_ValueError : bootBuiltins "ValueError" = some (.type "ValueError") := by decide +kernel
section
variable {X : Cx}
theorem call_isinst : CallR X (.builtin "isinstance") (fun xs H Q => ∃ x n t b, xs = [x, .ty n] ∧ TyOf X.K H x t ∧ PySem.W.kitOne X.K t (.type n) = some b ∧ Q (.bl b) H) := by
  intro pins s σ H xs us Q I r h
  obtain ⟨x, n, t, b, rfl, ty, e, q⟩ := h
  obtain ⟨u, w', rfl, rx, rt⟩ := vals2 r
  cases rt
  exact isinst_ok I rx ty e fun tk => ⟨.bl b, H, I.tok _, rfl, q⟩
theorem kit_ib {K : PySem.W.Frag} : PySem.W.kitOne K (.type "int") (.type "bool") = some false := by rfl
end
end L2
namespace L2
open PySem PySem.Spec PyProof.Rows
theorem decV {i j : Int} : decide (V.int i = V.int j) = decide (i = j) := by
  rw [decide_eq_decide]
  exact ⟨fun h => V.int.inj h, fun h => by rw [h]⟩
theorem same_new {H : Hp} {p : Addr} (h : H p = none) (o : HO) : Same H (upd H p o) := fun b u q => by rw [upd_ne (ne_of_none q h)]; exact q
theorem same_upd {H H1 : Hp} {p : Addr} {o : HO} (s : Same H H1) (h : H p = none) : Same H (upd H1 p o) := fun b u q => by rw [upd_ne (ne_of_none q h)]; exact s b u q
theorem same_add {H H1 : Hp} {p : Addr} {o : HO} (s : Same H H1) (h : H1 p = none) : Same H (upd H1 p o) := same_upd s (s.free h)
theorem ints_at {B : Int} {zs : List Int} (h : ∀ z ∈ zs, 0 ≤ z ∧ z < B) {i : Int} (h0 : 0 ≤ i) (h1 : i < (zs.length : Int)) : ∃ z, atI (zs.map V.int) i = some (.int z) ∧ 0 ≤ z ∧ z < B := by
  have hk : i.toNat < zs.length := by omega
  have ek : i = ((i.toNat : Nat) : Int) := by omega
  refine ⟨zs[i.toNat], ?_, h _ (List.getElem_mem hk)⟩
  have q : atI (zs.map V.int) ((i.toNat : Nat) : Int) = some (.int zs[i.toNat]) := atI_nat (by rw [List.getElem?_map, List.getElem?_eq_getElem hk] <;> rfl)
  rw [← ek] at q
  exact q
theorem ints_mem {zs : List Int} {i : Int} (h0 : 0 ≤ i) (h1 : i < (zs.length : Int)) : ∃ z, z ∈ zs ∧ atI (zs.map V.int) i = some (.int z) := by
  have hk : i.toNat < zs.length := by omega
  have ek : i = ((i.toNat : Nat) : Int) := by omega
  refine ⟨zs[i.toNat], List.getElem_mem hk, ?_⟩
  have q : atI (zs.map V.int) ((i.toNat : Nat) : Int) = some (.int zs[i.toNat]) := atI_nat (by rw [List.getElem?_map, List.getElem?_eq_getElem hk] <;> rfl)
  rw [← ek] at q
  exact q
theorem atI_getD {zs : List Int} {i : Int} (h0 : 0 ≤ i) (h1 : i < (zs.length : Int)) : atI (zs.map V.int) i = some (.int (zs.getD i.toNat 0)) := by
  have hk : i.toNat < zs.length := by omega
  have ek : i = ((i.toNat : Nat) : Int) := by omega
  have q : atI (zs.map V.int) ((i.toNat : Nat) : Int) = some (.int zs[i.toNat]) := atI_nat (by rw [List.getElem?_map, List.getElem?_eq_getElem hk] <;> rfl)
  rw [← ek] at q
  rw [q, List.getD_eq_getElem?_getD, List.getElem?_eq_getElem hk] <;> rfl
theorem smallL {n : Nat} (h : n ≤ 100000) : n ≤ sizeLine := Nat.le_trans h (by decide)
theorem smallLt {n : Nat} (h : n ≤ 100000) : n < sizeLine := Nat.lt_of_le_of_lt h (by decide)
end L2
namespace L2
open PySem PySem.Spec PyProof.Rows
def tCut (t : TS) : TS := fun D σ H => ∃ M : St → Hp → Prop, t { D with nx := M } σ H ∧ ∀ σ' H', M σ' H' → D.nx σ' H'
theorem ps_cut {X : Cx} {st : Stmt} {t : TS} (h : PS X st t) : PS X st (tCut t) := by
  intro pins s σ H D I hw
  obtain ⟨M, h1, h2⟩ := hw
  refine thn (h pins s σ H _ I h1) fun f s1 q => ?_
  cases f with
  | next => obtain ⟨σ', H', I', m⟩ := q; exact ⟨σ', H', I', h2 σ' H' m⟩
  | ret v => exact q
  | brk => exact q
  | cont => exact q
end L2
namespace L2
open PySem PySem.Spec PyProof.Rows
section
variable {X : Cx} {pins : List (Addr × Obj)} {σ : St} {H : Hp} {s : Shared} {h' : Heap}
theorem Inv.turnLay {t' : Nat} {ch : List Addr} {l : Addr} {o : HO} (I : Inv X pins σ H s) (k : ∀ b u, b ∉ ch → s.heap.get? b = some u → h'.get? b = some u) (hf : ∀ b ∈ ch, FpOk X pins H b)
    (hp : s.heap.objs.size ≤ l) (new : ObjOk X.prog X.w (upd H l o) h' l o) : Inv X pins σ (upd H l o) { s with heap := h', toks := t' } := by
  have hn := I.hok.fresh hp
  have nch : ∀ b u, H b = some u → b ∉ ch := fun b u e z => by rw [(hf b z).1] at e; cases e
  refine I.step (g' := s.gens) (d' := s.drawn) (ch := ch) (fun b hb => ?_) (fun b u _ _ hc e _ => k b u hc e) (fun b u _ _ hc e _ => ⟨u.slots, k b u hc e⟩)
    (fun b u _ e n => ?_) (fun b u hc e => ⟨u, k b u hc e⟩) (fun b xs e => ?_) (fun b u xs e => ?_) (fun b ps e => ⟨#[], ?_⟩) (fun m hm => ?_) (fun b u e => ?_) I.bare
  · obtain ⟨f0, f1, f2, f3, f4, f5⟩ := hf b hb
    exact ⟨f3, f1, f4, f5⟩
  · rw [upd_ne (Nat.ne_of_lt (Nat.lt_of_lt_of_le (Heap.lt_size e) hp))]
    exact n
  · rw [upd_ne (ne_of_none e hn)]
    exact e
  · rw [upd_ne (ne_of_none e hn)]
    exact e
  · rw [upd_ne (ne_of_none e hn), e]
    simp
  · obtain ⟨ob, es, ep, ho, r⟩ := hm
    exact ⟨ob, es, ep, k _ ob (fun z => (hf _ z).2.1 rfl) ho, r⟩
  · by_cases hb : b = l
    · subst hb
      rw [upd_same] at e
      cases e
      exact new
    · rw [upd_ne hb] at e
      refine (I.hok b u e).stay (fun c v hc q => k c v ?_ q) (fun c q => by rw [upd_ne (ne_of_none q hn)]; exact q) fun c xs q => by rw [upd_ne (ne_of_none q hn)]; exact q
      rcases hc with z | z
      · rw [z]; exact nch b u e
      · exact nch c _ z
end
def Ite (K : PySem.W.Frag) (a : Addr) : It :=
  ⟨fun i H => ∃ xs x, SqL K H a xs ∧ xs[i]? = some x, fun i H v H' => ∃ t x, v = .ref t ∧ H t = none ∧ (∀ xs, SqL K H a xs → xs[i]? = some x) ∧ H' = upd H t (.tup [.int i, x]), fun i H => ∃ xs, SqL K H a xs ∧ xs.length ≤ i⟩
theorem turn_enum {P : Program} {w : World} {K : PySem.W.Frag} {es : List Expr} {k1 : Nat} {tp : Pos} (a e it : Addr) (hne : e ≠ it) :
    Turn P w K (.Tuple es k1 tp) (Ite K a) [e, it] e (fun i h => (∃ old, IsEnum h e it (i : Nat) old) ∧ h.IsListIter it a i) where
  mem := by simp
  obj := fun i h st b hb => by
    obtain ⟨⟨old, e1⟩, o, e2, c, d⟩ := st
    have z : b = e ∨ b = it := by simpa using hb
    rcases z with rfl | rfl
    · refine ⟨_, e1, fun v z => ?_⟩
      have z' : Data.fields _ = Data.cell v := z
      cases z'
    · exact ⟨o, e2, fun v z => by rw [d] at z; cases z⟩
  keep := fun i h h' st k => ⟨let ⟨old, e1⟩ := st.1; ⟨old, k e (by simp) _ e1⟩, st.2.at fun o e => k it (by simp) o e⟩
  item := by
    intro X hP hw hK hc i pins s σ H E I hf st hg
    subst hP hw hK
    obtain ⟨xs, x, hq, hx⟩ := hg
    obtain ⟨its, rv, p, hz⟩ := I.list hq
    obtain ⟨u, hu, ru⟩ := rv.get hx
    obtain ⟨⟨old, he⟩, hit⟩ := st
    have heL : e < s.heap.objs.size := Heap.lt_size he
    refine wpAny_pyNext_enum_item he hit p.isList (x := u) (by simpa using hu) hne fun h1 heo hit1 ht1 hz1 hk1 => ⟨_, rfl, ?_⟩
    refine wpAny_letOwnedTupleGo_enum heo fun h2 he2 hs2 => ?_
    replace hs2 : Heap.SameBut e h1 h2 := hs2
    have ht2 : h2.get? s.heap.objs.size = some { cls := .type "tuple", data := .seq #[.int i s.toks, u] } := (hs2.2 _ (Nat.ne_of_gt heL)).trans ht1
    have kk : ∀ b o, b ∉ [e, it] → s.heap.get? b = some o → h2.get? b = some o := fun b o hb q => by
      have h1 : b ≠ e := fun z => hb (by simp [z])
      have h2 : b ≠ it := fun z => hb (by simp [z])
      exact (hs2.2 b h1).trans (hk1 b o h1 h2 q)
    have hn : H s.heap.objs.size = none := I.hok.fresh (Nat.le_refl _)
    have I2 : Inv X pins σ (upd H s.heap.objs.size (.tup [.int i, x])) { s with heap := h2, toks := s.toks + 1 } :=
      I.turnLay kk hf (Nat.le_refl _) ⟨Nat.le_of_ble_eq_true rfl, [.int i s.toks, u], .cons ⟨_, rfl⟩ (.cons ru .nil), ⟨_, ht2, rfl, 0, rfl⟩⟩
    refine ⟨.ref s.heap.objs.size, _, I2, rfl, ⟨_, x, rfl, hn, fun ys hy => by rw [I.list_inj hy hq]; exact hx, rfl⟩, ⟨⟨u, ?_⟩, hit1.extBut hs2.extBut (Ne.symm hne)⟩, fun b hb => ?_⟩
    · have e1 : ((i + 1 : Nat) : Int) = (i : Int) + 1 := by omega
      rw [e1]
      exact he2
    · rw [upd_ne]
      · exact (hf b hb).1
      · have z : b = e ∨ b = it := by simpa using hb
        obtain ⟨oi, hoi, _⟩ := hit
        rcases z with rfl | rfl
        · exact Nat.ne_of_lt heL
        · exact Nat.ne_of_lt (Heap.lt_size hoi)
  done := by
    intro X hP hw hK hc i pins s σ H E I hf st hg
    subst hP hw hK
    obtain ⟨xs, hq, hx⟩ := hg
    obtain ⟨its, rv, p, hz⟩ := I.list hq
    obtain ⟨f0, f1, f2, f3, f4, f5⟩ := hf it (by simp)
    obtain ⟨⟨old, he⟩, hit⟩ := st
    have hl := rv.length
    exact wpAny_pyNext_enum_end (I.ok.hd hc) he hit p.isList (by simp; omega) fun h' eb => ⟨rfl, I.turned (t' := s.toks) (fun b o hb e => eb b o hb e) f0 f1 f3 f4 f5⟩
  self := fun _ _ _ _ _ st h => let ⟨⟨_, e1⟩, _⟩ := st; wpAny_pyIter_enum e1 h
theorem bt_enumerate : bootBuiltins "enumerate" = some (.type "enumerate") := by decide +kernel
section
variable {X : Cx} {es : List Expr} {k1 : Nat} {tp : Pos}
def iEnum (K : PySem.W.Frag) (ta : TA) : TI := fun σ H R => ta σ H fun vs H1 => ∃ a, vs = [.ref a] ∧ (∃ xs, SqL K H1 a xs) ∧ R (Ite K a) H1
theorem pi_enum {a : Expr} {ta : TA} {p pos : Pos} (hg : Gl X "enumerate") (hm : X.mg "enumerate" = none) (ha : PA X [a] ta) (hs : starEach [a] X.env = (false, eval a X.env) :: starEach [] X.env := by rfl) :
    PI X (.Tuple es k1 tp) (.Call (.Name "enumerate" p) [a] [] pos) (iEnum X.K ta) := by
  intro pins s σ H R I h
  refine wpAny_Call_Name_kw (ld_blt I hg hm bt_enumerate ?_)
  refine PyProof.Rows.callWith_type1 (thn (ha pos pins s σ H _ I h) fun us s1 ⟨vs, H1, I1, r1, q1⟩ => ?_) hs (by rfl)
  obtain ⟨l, rfl, ⟨xs, hq⟩, q⟩ := q1
  obtain ⟨u, rfl, ru⟩ := vals1 r1
  cases ru
  obtain ⟨its, rv, pl, hz⟩ := I1.list hq
  refine call_enumerate_list pl.isList fun h' he hit hsz hk => ?_
  refine wpAny_pyIter_enum he ?_
  refine ⟨s1.heap.objs.size + 1, [s1.heap.objs.size + 1, s1.heap.objs.size], _, _, H1, rfl, I1.kept (t' := s1.toks) hk, turn_enum l _ s1.heap.objs.size (Nat.succ_ne_self _), ⟨⟨.none, he⟩, hit⟩, fun b hb => ?_, q⟩
  have z : b = s1.heap.objs.size + 1 ∨ b = s1.heap.objs.size := by simpa using hb
  have hge : s1.heap.objs.size ≤ b := by rcases z with rfl | rfl <;> omega
  exact I1.fpOk hge (I1.hok.fresh hge)
end
theorem for_enum {K : PySem.W.Frag} {a : Addr} {xs : List V} {g : TG} {tb : TS} {D : Ends} {σ : St} {H : Hp} (Pv : Nat → St → Hp → Prop) (h0 : Pv 0 σ H) (hl : ∀ i σ H, i ≤ xs.length → Pv i σ H → SqL K H a xs)
    (hs : ∀ i x t σ H, xs[i]? = some x → Pv i σ H → H t = none → g (.ref t) σ (upd H t (.tup [.int i, x])) fun σ2 H2 => tb { D with nx := Pv (i + 1), ct := Pv (i + 1), bk := D.nx } σ2 H2) (hd : ∀ σ H, Pv xs.length σ H → D.nx σ H) :
    ∃ W : Nat → Nat → St → Hp → Prop, (∃ m, W 0 m σ H) ∧ ∀ i m σ H, W i m σ H →
      ((Ite K a).stop i H ∧ D.nx σ H) ∨ ((Ite K a).go i H ∧ ∃ N : St → Hp → Prop, (∀ σ' H', N σ' H' → ∃ m', m' < m ∧ W (i + 1) m' σ' H') ∧ ∀ x H', (Ite K a).yld i H x H' → g x σ H' fun σ2 H2 => tb { D with nx := N, ct := N, bk := D.nx } σ2 H2) := by
  refine ⟨fun i m σ H => m = xs.length - i ∧ i ≤ xs.length ∧ Pv i σ H, ⟨xs.length, by simp, Nat.zero_le _, h0⟩, ?_⟩
  rintro i m σ H ⟨rfl, hi, p⟩
  have q := hl i σ H hi p
  by_cases hlt : i < xs.length
  · refine .inr ⟨⟨xs, xs[i], q, by simp [hlt]⟩, Pv (i + 1), fun σ' H' p' => ⟨xs.length - (i + 1), by omega, rfl, hlt, p'⟩, fun v H' y => ?_⟩
    obtain ⟨t, x, rfl, hn, hx, rfl⟩ := y
    exact hs i x t σ _ (hx xs q) p hn
  · have e : i = xs.length := by omega
    subst e
    exact .inl ⟨⟨xs, q, Nat.le_refl _⟩, hd σ H p⟩
end L2
namespace L2
open PySem PySem.Spec PyProof.Rows
mutual
inductive Den (K : PySem.W.Frag) (H : Hp) : V → PyData → Prop
  | non : Den K H .non .none
  | bl (b : Bool) : Den K H (.bl b) (.bool b)
  | int (i : Int) : Den K H (.int i) (.int i)
  | str (x : Str) : PyData.canLay0 (.str x) = true → Den K H (.str x) (.str x)
  | lst {a xs ds} : SqL K H a xs → DenL K H xs ds → Den K H (.ref a) (.list ds)
  | tup {a xs ds} : SqT K H a xs → DenL K H xs ds → Den K H (.ref a) (.tuple ds)
inductive DenL (K : PySem.W.Frag) (H : Hp) : List V → List PyData → Prop
  | nil : DenL K H [] []
  | cons {x xs d ds} : Den K H x d → DenL K H xs ds → DenL K H (x :: xs) (d :: ds)
end
section
variable {X : Cx} {pins : List (Addr × Obj)} {σ : St} {H : Hp} {s : Shared}
mutual
theorem den_reads (I : Inv X pins σ H s) : ∀ (d : PyData) (v : V) (u : Value), Den X.K H v d → RelV v u → ∃ as, Reads s.heap u d as
  | .none, v, u, h, r => by cases h; cases r; exact ⟨_, .none⟩
  | .bool b, v, u, h, r => by cases h; cases r; exact ⟨_, .bool b⟩
  | .int i, v, u, h, r => by cases h; obtain ⟨t, rfl⟩ := r; exact ⟨_, .int i t⟩
  | .str x, v, u, h, r => by cases h; obtain ⟨t, rfl⟩ := r; exact ⟨_, .str x t⟩
  | .list ds, v, u, h, r => by
    cases h with
    | lst hq hl =>
      cases r
      obtain ⟨its, rv, ⟨o, n, e, c, _, d⟩, _⟩ := I.list hq
      obtain ⟨as, q⟩ := denL_reads I ds _ _ hl rv
      exact ⟨_, .list e c d (by simpa using q)⟩
  | .tuple ds, v, u, h, r => by
    cases h with
    | tup hq hl =>
      cases r
      obtain ⟨its, rv, ⟨o, e, c, n, d⟩, _⟩ := I.tuple hq
      obtain ⟨as, q⟩ := denL_reads I ds _ _ hl rv
      exact ⟨_, .tuple e c d (by simpa using q)⟩
  | .dict _, v, u, h, r => by cases h
theorem denL_reads (I : Inv X pins σ H s) : ∀ (ds : List PyData) (xs : List V) (us : List Value), DenL X.K H xs ds → Vals xs us → ∃ as, ReadsAll s.heap us ds as
  | [], xs, us, h, r => by cases h; cases r; exact ⟨_, .nil⟩
  | d :: ds, xs, us, h, r => by
    cases h with
    | cons h1 h2 =>
      cases r with
      | cons r1 r2 =>
        obtain ⟨a1, q1⟩ := den_reads I d _ _ h1 r1
        obtain ⟨a2, q2⟩ := denL_reads I ds _ _ h2 r2
        exact ⟨_, .cons q1 q2⟩
end
mutual
theorem den_lay {K : PySem.W.Frag} : ∀ (d : PyData) (v : V), Den K H v d → d.canLay0 = true
  | .none, v, h => rfl
  | .bool b, v, h => rfl
  | .int i, v, h => rfl
  | .str x, v, h => by cases h with | str _ q => exact q
  | .list ds, v, h => by cases h with | lst _ q => exact denL_lay ds _ q
  | .tuple ds, v, h => by cases h with | tup _ q => exact denL_lay ds _ q
  | .dict _, v, h => by cases h
theorem denL_lay {K : PySem.W.Frag} : ∀ (ds : List PyData) (xs : List V), DenL K H xs ds → PyData.canLayAll0 ds = true
  | [], xs, h => rfl
  | d :: ds, xs, h => by
    cases h with
    | cons h1 h2 =>
      show (PyData.canLay0 d && PyData.canLayAll0 ds) = true
      rw [den_lay d _ h1, denL_lay ds _ h2]
      rfl
end
def rEqD (K : PySem.W.Frag) (neg : Bool) : R2 := fun x y H Q => ∃ d e, Den K H x d ∧ Den K H y e ∧ min d.depth e.depth ≤ 64 ∧ Q (.bl (if neg then !PyData.eqv d e else PyData.eqv d e)) H
theorem op_eqD (hu : X.A.units + 64 < cLine) : OpR X (compareOp .Eq) (rEqD X.K false) := by
  intro pins s σ H x y v u Q I rx ry h
  obtain ⟨d, e, hd, he, hz, q⟩ := h
  obtain ⟨as, ra⟩ := den_reads I d _ _ hd rx
  obtain ⟨bs, rb⟩ := den_reads I e _ _ he ry
  exact PySem.SeqAt.eqOverData X.prog X.w X.A X.xe s v u d e as bs _ ra rb (den_lay d _ hd) (den_lay e _ he) (by omega) ⟨.bl _, H, I, rfl, q⟩
theorem op_neD (hu : X.A.units + 64 < cLine) : OpR X (compareOp .NotEq) (rEqD X.K true) := by
  intro pins s σ H x y v u Q I rx ry h
  obtain ⟨d, e, hd, he, hz, q⟩ := h
  obtain ⟨as, ra⟩ := den_reads I d _ _ hd rx
  obtain ⟨bs, rb⟩ := den_reads I e _ _ he ry
  exact PySem.SeqAt.neOverData X.prog X.w X.A X.xe s v u d e as bs _ ra rb (den_lay d _ hd) (den_lay e _ he) (by omega) ⟨.bl _, H, I, rfl, q⟩
end
mutual
def nb : PyData → Bool
  | .none | .int _ | .str _ => true
  | .bool _ | .dict _ => false
  | .list xs | .tuple xs => nbL xs
def nbL : List PyData → Bool
  | [] => true
  | x :: xs => nb x && nbL xs
end
mutual
theorem eqv_iff : ∀ (d e : PyData), nb d = true → nb e = true → (PyData.eqv d e = true ↔ d = e)
  | .none, e, _, h => by cases e <;> first | (simp [PyData.eqv]; done) | cases h
  | .int i, e, _, h => by cases e <;> first | (simp [PyData.eqv]; done) | cases h
  | .str i, e, _, h => by cases e <;> first | (simp [PyData.eqv]; done) | cases h
  | .bool _, _, h, _ => by cases h
  | .dict _, _, h, _ => by cases h
  | .list xs, e, h1, h => by
    cases e with
    | list ys =>
      have q := eqvL_iff xs ys h1 h
      show PyData.eqvAll xs ys = true ↔ _
      rw [q]
      exact ⟨fun z => by rw [z], fun z => PyData.list.inj z⟩
    | none => simp [PyData.eqv]
    | int _ => simp [PyData.eqv]
    | str _ => simp [PyData.eqv]
    | tuple _ => simp [PyData.eqv]
    | bool _ => cases h
    | dict _ => cases h
  | .tuple xs, e, h1, h => by
    cases e with
    | tuple ys =>
      have q := eqvL_iff xs ys h1 h
      show PyData.eqvAll xs ys = true ↔ _
      rw [q]
      exact ⟨fun z => by rw [z], fun z => PyData.tuple.inj z⟩
    | none => simp [PyData.eqv]
    | int _ => simp [PyData.eqv]
    | str _ => simp [PyData.eqv]
    | list _ => simp [PyData.eqv]
    | bool _ => cases h
    | dict _ => cases h
theorem eqvL_iff : ∀ (xs ys : List PyData), nbL xs = true → nbL ys = true → (PyData.eqvAll xs ys = true ↔ xs = ys)
  | [], [], _, _ => by simp [PyData.eqvAll]
  | [], _ :: _, _, _ => by simp [PyData.eqvAll]
  | _ :: _, [], _, _ => by simp [PyData.eqvAll]
  | x :: xs, y :: ys, h1, h2 => by
    have a : nb x = true ∧ nbL xs = true := by
      have : (nb x && nbL xs) = true := h1
      simpa using this
    have b : nb y = true ∧ nbL ys = true := by
      have : (nb y && nbL ys) = true := h2
      simpa using this
    have q1 := eqv_iff x y a.1 b.1
    have q2 := eqvL_iff xs ys a.2 b.2
    show (PyData.eqv x y && PyData.eqvAll xs ys) = true ↔ _
    rw [Bool.and_eq_true, q1, q2]
    simp
end
theorem eqv_refl {d : PyData} (h : nb d = true) : PyData.eqv d d = true := (eqv_iff d d h h).mpr rfl
abbrev dInts (zs : List Int) : PyData := .list (zs.map .int)
theorem nb_ints : ∀ zs : List Int, nbL (zs.map .int) = true
  | [] => rfl
  | z :: zs => by
    show (nb (.int z) && nbL (zs.map .int)) = true
    rw [nb_ints zs]
    rfl
theorem denL_ints {K : PySem.W.Frag} {H : Hp} : ∀ zs : List Int, DenL K H (zs.map V.int) (zs.map .int)
  | [] => .nil
  | z :: zs => .cons (.int z) (denL_ints zs)
theorem den_ints {K : PySem.W.Frag} {H : Hp} {a : Addr} {zs : List Int} (h : SqL K H a (zs.map V.int)) : Den K H (.ref a) (dInts zs) := .lst h (denL_ints zs)
end L2
namespace L2
open PySem PySem.Spec PyProof.Rows
section
variable {prog : Program} {w : World} {A : Around} {R : Result → Shared → Prop} {s : Shared}
theorem compLoop_any {elt target iter : Expr} {ifs : List Expr} {scope : Scope} {pos : Pos} {it acc : Value} {env : Env} (I : Nat → Shared → Prop)
    (turn : ∀ n s, I n s → wpAny (model prog w) A (pyNext it) (fun r s1 => match r with
      | none => R (.ok .next) s1
      | some v => wpAny (model prog w) A (letOwnedTupleGo target it v) (fun _ s1' => wpAny (model prog w) A (assign target env v) (fun _ s2 =>
          wpAny (model prog w) A (forIn ifs true fun c r => if r = true then do let ok ← isTrue c env (eval c env); pure (ForInStep.yield ok) else pure (ForInStep.yield r)) (fun ok s3 =>
            if ok = true then wpAny (model prog w) A (eval elt env) (fun x s4 =>
              wpAny (model prog w) A (call (.builtin "list.append") [acc, x]) (fun _ s5 => ∃ m, m < n ∧ I m s5) (fun _ _ => False) s4) (fun _ _ => False) s3
            else ∃ m, m < n ∧ I m s3) (fun _ _ => False) s2) (fun _ _ => False) s1') (fun _ _ => False) s1) (fun _ _ => False) s)
    (n : Nat) (h : I n s) :
    codeAny (model prog w) A (.compLoop (.ListComp elt [⟨target, iter, ifs, 0⟩] scope pos) 0 it acc env) R s := by
  refine codeAny_loop rfl I (fun n s hI => ?_) n h
  show wpAny _ A ((compTurn (.ListComp elt [⟨target, iter, ifs, 0⟩] scope pos) 0 it acc env).onRaise (fun x => do noteFrame x env; theTreesLotGoes x)) _ _ s
  refine wpAny_noted ?_
  rw [compTurn_list]
  refine wpAny_bind (wpAny_standAt (wpAny_bind (wpAny_mono (turn n s hI) (fun r s1 h1 => ?_) fun _ _ h' => False.elim h')))
  cases r with
  | none => exact wpAny_pure h1
  | some v =>
    refine wpAny_bind (wpAny_mono h1 (fun _ s1' h1' => ?_) fun _ _ h' => False.elim h')
    refine wpAny_bind (wpAny_mono h1' (fun _ s2 h2 => wpAny_bind (wpAny_mono h2 (fun ok s3 h3 => ?_) fun _ _ h' => False.elim h')) fun _ _ h' => False.elim h')
    cases ok with
    | false => exact wpAny_pure ⟨rfl, h3⟩
    | true =>
      exact wpAny_bind (wpAny_bind (wpAny_mono h3 (fun x s4 h4 => wpAny_bind (wpAny_mono h4 (fun _ s5 h5 => wpAny_pure (wpAny_pure ⟨rfl, h5⟩)) fun _ _ h' => False.elim h')) fun _ _ h' => False.elim h'))
end
def closeFrom (env : Env) : List (Str × NameKind) → List (Str × Addr) → List (Str × Addr)
  | [], acc => acc
  | (n, k) :: r, acc => if (k == .free) = true then closeFrom env r ((n, (env.cells.lookup n).getD 0) :: acc) else closeFrom env r acc
theorem closeFrom_mem {env : Env} (P : Str → Addr → Prop) : ∀ (names : List (Str × NameKind)) (acc : List (Str × Addr)), (∀ x ∈ names, x.2 = .free → ∃ c, env.cells.lookup x.1 = some c) → (∀ n c, (n, c) ∈ acc → P n c) →
    (∀ n c, env.cells.lookup n = some c → P n c) → ∀ n c, (n, c) ∈ closeFrom env names acc → P n c
  | [], acc, _, ha, _, n, c, h => ha n c h
  | (m, k) :: r, acc, hf, ha, hp, n, c, h => by
    unfold closeFrom at h
    split at h
    · rename_i hk
      refine closeFrom_mem P r _ (fun x hx => hf x (List.mem_cons_of_mem _ hx)) (fun n' c' h' => ?_) hp n c h
      rcases List.mem_cons.mp h' with e | h'
      · obtain ⟨c0, e0⟩ := hf (m, k) List.mem_cons_self (eq_of_beq hk)
        injection e with e1 e2
        subst e1 e2
        rw [e0]
        exact hp _ _ e0
      · exact ha n' c' h'
    · exact closeFrom_mem P r acc (fun x hx => hf x (List.mem_cons_of_mem _ hx)) ha hp n c h
theorem closeFrom_acc {env : Env} : ∀ (names : List (Str × NameKind)) (acc : List (Str × Addr)) (x : Str × Addr), x ∈ acc → x ∈ closeFrom env names acc
  | [], _, _, h => h
  | (m, k) :: r, acc, x, h => by
    unfold closeFrom
    split
    · exact closeFrom_acc r _ x (List.mem_cons_of_mem _ h)
    · exact closeFrom_acc r _ x h
theorem closeFrom_has {env : Env} : ∀ (names : List (Str × NameKind)) (acc : List (Str × Addr)) (x : Str), (x, NameKind.free) ∈ names → ∃ c, (x, c) ∈ closeFrom env names acc
  | [], _, _, h => nomatch h
  | (m, k) :: r, acc, x, h => by
    unfold closeFrom
    rcases List.mem_cons.mp h with e | h
    · injection e with e1 e2
      subst e1 e2
      rw [if_pos (by decide)]
      exact ⟨_, closeFrom_acc r _ _ List.mem_cons_self⟩
    · split
      · exact closeFrom_has r _ x h
      · exact closeFrom_has r _ x h
theorem closureFor_eq {scope : Scope} {env : Env} (hf : ∀ x ∈ scope.names, x.2 = .free → ∃ c, env.cells.lookup x.1 = some c) : closureFor scope env = pure (closeFrom env scope.names []) := by
  have go : ∀ (names : List (Str × NameKind)) (acc : List (Str × Addr)), (∀ x ∈ names, x.2 = .free → ∃ c, env.cells.lookup x.1 = some c) →
      (forIn names acc fun (x : Str × NameKind) (r : List (Str × Addr)) => (match x with
        | (name, kind) => if (kind == NameKind.free) = true then do
            let a ← cellOf env name
            pure (ForInStep.yield ((name, a) :: r))
          else pure (ForInStep.yield r) : Sem (ForInStep (List (Str × Addr))))) = pure (closeFrom env names acc) := by
    intro names
    induction names with
    | nil => intro acc _; rw [List.forIn_nil]; rfl
    | cons x r ih =>
      intro acc hf
      obtain ⟨n, k⟩ := x
      rw [List.forIn_cons]
      unfold closeFrom
      by_cases hk : (k == NameKind.free) = true
      · obtain ⟨c, e⟩ := hf (n, k) List.mem_cons_self (eq_of_beq hk)
        simp only [hk, if_true]
        have e2 : cellOf env n = pure c := by unfold cellOf; rw [e]
        rw [e2, e]
        simp only [pure_bind, Option.getD_some]
        exact ih _ fun x hx => hf x (List.mem_cons_of_mem _ hx)
      · simp only [hk, if_false]
        exact ih _ fun x hx => hf x (List.mem_cons_of_mem _ hx)
  simp only [closureFor]
  have := go scope.names [] hf
  first
    | exact this
    | (simp only [bind_pure]; exact this)
    | (rw [this]; rfl)
theorem cellsFrom_app : ∀ (names : List (Str × NameKind)) (n : Nat) (acc : List (Str × Addr)), cellsFrom n names acc = cellsFrom n names [] ++ acc
  | [], _, _ => rfl
  | (m, k) :: r, n, acc => by
    unfold cellsFrom
    split
    · rw [cellsFrom_app r (n + 1) ((m, n) :: acc), cellsFrom_app r (n + 1) [(m, n)], List.append_assoc]
      rfl
    · exact cellsFrom_app r n acc
theorem cellsFrom_src : ∀ (names : List (Str × NameKind)) (n : Nat) (acc : List (Str × Addr)) (x : Str × Addr), x ∈ cellsFrom n names acc → (x.1, NameKind.cell) ∈ names ∨ x ∈ acc
  | [], _, _, _, h => .inr h
  | (m, k) :: r, n, acc, x, h => by
    unfold cellsFrom at h
    split at h
    · rename_i hk
      rcases cellsFrom_src r _ _ x h with q | q
      · exact .inl (List.mem_cons_of_mem _ q)
      · rcases List.mem_cons.mp q with e | q
        · rw [e, eq_of_beq hk]
          exact .inl List.mem_cons_self
        · exact .inr q
    · rcases cellsFrom_src r _ _ x h with q | q
      · exact .inl (List.mem_cons_of_mem _ q)
      · exact .inr q
theorem lookup_app {α : Type} (x : Str) : ∀ (l r : List (Str × α)), (l ++ r).lookup x = (l.lookup x).or (r.lookup x)
  | [], r => by simp
  | (k, v) :: l, r => by
    rw [List.cons_append, List.lookup_cons, List.lookup_cons]
    cases hb : x == k with
    | true => rfl
    | false => exact lookup_app x l r
theorem lookup_some_of_mem {α : Type} {x : Str} : ∀ {l : List (Str × α)} {c : α}, (x, c) ∈ l → ∃ c', l.lookup x = some c'
  | (k, v) :: l, c, h => by
    rw [List.lookup_cons]
    cases hb : x == k with
    | true => exact ⟨v, rfl⟩
    | false =>
      rcases List.mem_cons.mp h with e | h
      · injection e with e1 e2
        subst e1
        rw [beq_self_eq_true] at hb
        cases hb
      · exact lookup_some_of_mem h
theorem lookup_relabel {scope : Scope} {env : Env} {x : Str} {k : NameKind} (h : (relabel scope env).names.lookup x = some k) : ∃ k0, scope.names.lookup x = some k0 ∧ (k = k0 ∨ (k = .cell ∧ k0 = .free)) := by
  have go : ∀ names : List (Str × NameKind), (names.map fun (n, k) => if (k == NameKind.free && env.scope.kind == .function && env.kindOf n == some .cell) then (n, NameKind.cell) else (n, k)).lookup x = some k →
      ∃ k0, names.lookup x = some k0 ∧ (k = k0 ∨ (k = .cell ∧ k0 = .free)) := by
    intro names
    induction names with
    | nil => intro h; cases h
    | cons y r ih =>
      obtain ⟨n, k1⟩ := y
      intro h
      replace h : List.lookup x ((if (k1 == NameKind.free && env.scope.kind == .function && env.kindOf n == some .cell) = true then (n, NameKind.cell) else (n, k1)) :: (r.map fun (n, k) => if (k == NameKind.free && env.scope.kind == .function && env.kindOf n == some .cell) then (n, NameKind.cell) else (n, k))) = some k := h
      by_cases hc : (k1 == NameKind.free && env.scope.kind == .function && env.kindOf n == some .cell) = true
      · rw [if_pos hc] at h
        rw [List.lookup_cons] at h ⊢
        cases hb : x == n with
        | true =>
          rw [hb] at h
          have e : NameKind.cell = k := Option.some.inj h
          simp only [Bool.and_eq_true] at hc
          exact ⟨k1, rfl, .inr ⟨e.symm, eq_of_beq hc.1.1⟩⟩
        | false => rw [hb] at h; exact ih h
      · rw [if_neg hc] at h
        rw [List.lookup_cons] at h ⊢
        cases hb : x == n with
        | true =>
          rw [hb] at h
          have e : k1 = k := Option.some.inj h
          exact ⟨k1, rfl, .inl e.symm⟩
        | false => rw [hb] at h; exact ih h
  exact go _ h
def blkEnv (scope : Scope) (env : Env) (C : Addr) (cells : List (Str × Addr)) : Env :=
  { scope := relabel scope env, locals := C, globals := env.globals, cells := cells, qual := env.qual, func := none, code := env.code, frame := env.frame, builtins := env.builtins }
def blkCx (X : Cx) (N' : List Str) (scope : Scope) (C : Addr) (cells : List (Str × Addr)) (s₀ : Shared) (H₀ : Hp) (ex : List Addr) : Cx :=
  { X with N := N', s₀ := s₀, H₀ := H₀, env := blkEnv scope X.env C cells, outer := X.stack, stack := X.stack, ex := ex, fn := fun x => scope.names.lookup x == some .cell, pn := [], xe := fun _ _ => False }
def blkSt (ms : List Nat) (k : Nat) (σ : St) : St := ms.foldl (fun σ i => σ.set i none) σ ++ List.replicate k none
theorem unset_len (ms : List Nat) : ∀ σ : St, (ms.foldl (fun σ i => σ.set i none) σ).length = σ.length := by
  induction ms with
  | nil => intro σ; rfl
  | cons m ms ih => intro σ; rw [List.foldl_cons, ih, List.length_set]
theorem unset_get (ms : List Nat) : ∀ (σ : St) (i : Nat) (v : V), (ms.foldl (fun σ i => σ.set i none) σ)[i]? = some (some v) → σ[i]? = some (some v) ∧ i ∉ ms := by
  induction ms with
  | nil => intro σ i v h; exact ⟨h, by simp⟩
  | cons m ms ih =>
    intro σ i v h
    rw [List.foldl_cons] at h
    obtain ⟨h1, h2⟩ := ih _ i v h
    by_cases e : m = i
    · subst e
      rw [List.getElem?_set] at h1
      split at h1
      · split at h1 <;> cases h1
      · exact absurd rfl ‹_›
    · rw [List.getElem?_set_ne e] at h1
      exact ⟨h1, by simp only [List.mem_cons, not_or]; exact ⟨fun z => e z.symm, h2⟩⟩
structure BlkOk (X : Cx) (N' : List Str) (scope : Scope) (ms : List Nat) (k : Nat) : Prop where
  kind : scope.kind = .function
  uniq : ∀ x ∈ scope.names, scope.names.lookup x.1 = some x.2
  free : ∀ x ∈ scope.names, x.2 = .free → X.env.kindOf x.1 = some .cell ∨ X.env.kindOf x.1 = some .free
  len : N'.length = X.N.length + k
  pre : ∀ i : Nat, i < X.N.length → N'[i]? = X.N[i]?
  vis : ∀ i : Nat, i < X.N.length → i ∉ ms → ∀ x k', N'[i]? = some x → scope.names.lookup x = some k' → k' = .local ∨ k' = .cell ∨ k' = .free → k' = .free
section
variable {X : Cx} {pins : List (Addr × Obj)} {σ : St} {H : Hp} {s : Shared}
theorem wp_blkEnv {M : Model} {A : Around} {E : Value → Shared → Prop} {scope : Scope} {globals : Addr} {cl : List (Str × Addr)} {qual : Str} {env : Env} {Q : Env → Shared → Prop}
    (hQ : Q { scope := scope, locals := s.heap.objs.size, globals := globals, cells := cellsFrom (s.heap.objs.size + 1) scope.names cl, qual := qual, func := none, code := env.code, frame := env.frame, builtins := env.builtins }
      { s with heap := pushCells (s.heap.push { cls := .type "dict", data := .dict #[] }) scope.names }) :
    wpAny M A (newFunctionEnv scope globals cl [] qual none .none (some env)) Q E s := by
  simp only [newFunctionEnv, Option.isSome_some, if_true]
  refine wpAny_bind (wpAny_alloc ?_)
  refine wpAny_bind (wpAny_layCells _ (fun name kind cells => by cases hkc : kind == NameKind.cell <;> simp [hkc]) _ _ _ _ ?_)
  rw [show ({ s with heap := s.heap.push { cls := .type "dict", data := .dict #[] } } : Shared).heap.objs.size = s.heap.objs.size + 1 from Heap.size_push ..]
  rw [List.forIn_nil]
  exact wpAny_bind (wpAny_pure (wpAny_pure hQ))
theorem inv_blk {N' : List Str} {scope : Scope} {ms : List Nat} {k : Nat} {ex : List Addr} (I : Inv X pins σ H s) (B : BlkOk X N' scope ms k) (hex : ∀ b ∈ ex, FpOk X pins H b ∧ b < s.heap.objs.size) :
    Inv (blkCx X N' scope s.heap.objs.size (cellsFrom (s.heap.objs.size + 1) scope.names (closeFrom X.env scope.names [])) s H ex) [] (blkSt ms k σ) H
      { s with heap := pushCells (s.heap.push { cls := .type "dict", data := .dict #[] }) scope.names } := by
  have hfree : ∀ x ∈ scope.names, x.2 = .free → ∃ c, X.env.cells.lookup x.1 = some c := fun x hx hk => I.ok.has x.1 (B.free x hx hk)
  have keep : ∀ b o, s.heap.get? b = some o → (pushCells (s.heap.push { cls := .type "dict", data := .dict #[] }) scope.names).get? b = some o := fun b o e => pushCells_keeps _ _ b o (Heap.get?_push_of_some _ e)
  have own := cellsFrom_ok scope.names (s.heap.push { cls := .type "dict", data := .dict #[] }) (s.heap.objs.size + 1) [] ⟨fun _ _ hm => (nomatch hm), List.Pairwise.nil⟩ (by rw [Heap.size_push]; exact Nat.le_refl _)
  rw [Heap.size_push] at own
  have clm : ∀ n c, (n, c) ∈ closeFrom X.env scope.names [] → X.env.cells.lookup n = some c := closeFrom_mem (fun n c => X.env.cells.lookup n = some c) scope.names [] hfree (fun _ _ h => nomatch h) fun _ _ h => h
  have clt : ∀ n (c : Addr), X.env.cells.lookup n = some c → @LT.lt Nat instLTNat c s.heap.objs.size := fun n c e => by obtain ⟨v, q⟩ := I.cell n c e; exact q.lt
  have look : ∀ x c, (cellsFrom (s.heap.objs.size + 1) scope.names (closeFrom X.env scope.names [])).lookup x = some c →
      ((x, c) ∈ cellsFrom (s.heap.objs.size + 1) scope.names [] ∧ s.heap.objs.size + 1 ≤ c) ∨ (X.env.cells.lookup x = some c ∧ @LT.lt Nat instLTNat c s.heap.objs.size) := fun x c e => by
    rw [cellsFrom_app, lookup_app] at e
    cases q : (cellsFrom (s.heap.objs.size + 1) scope.names []).lookup x with
    | some c' =>
      rw [q] at e
      have e' : c' = c := Option.some.inj e
      subst e'
      exact .inl ⟨mem_of_lookup q, (own.empty x c' (mem_of_lookup q)).2⟩
    | none =>
      rw [q] at e
      have e2 := clm x c (mem_of_lookup e)
      exact .inr ⟨e2, clt x c e2⟩
  have hasL : ∀ x, scope.names.lookup x = some .cell ∨ scope.names.lookup x = some .free → ∃ c, (cellsFrom (s.heap.objs.size + 1) scope.names (closeFrom X.env scope.names [])).lookup x = some c := fun x hx => by
    rw [cellsFrom_app, lookup_app]
    cases q : (cellsFrom (s.heap.objs.size + 1) scope.names []).lookup x with
    | some c' => exact ⟨c', rfl⟩
    | none =>
      rcases hx with hx | hx
      · obtain ⟨c, e⟩ := cell_has (n := s.heap.objs.size + 1) hx
        rw [q] at e; cases e
      · obtain ⟨c, hc⟩ := closeFrom_has (env := X.env) scope.names [] x (PySem.mem_of_lookup hx)
        exact lookup_some_of_mem hc
  have Ir := I.lt
  refine ⟨⟨I.ok.mod, B.kind, I.ok.glob, I.ok.blt, Nat.le_refl _, fun x y c hx hy => ?_, fun x hx => ?_, fun x c hf hx => ?_, I.ok.hd, I.ok.frames, .inl rfl, fun b hb => ?_, I.bs, Nat.le_trans I.ok.bsz I.sz, fun b o e hb => ?_, fun b hb hfs => ?_, I.stack, I.stkFree⟩,
    rfl, I.bare, Un.kept keep, ⟨fun _ => none, ?_, fun i x v h1 h2 h3 => ?_⟩, fun x c hx => ?_, ?_, fun x c hx => ?_, fun p hp => absurd (show p ∈ ([] : List (Addr × Obj)) from hp) (by simp), I.hok.kept keep, ?_⟩
  · rcases look x c hx with ⟨m1, l1⟩ | ⟨m1, l1⟩
    · rcases look y c hy with ⟨m2, l2⟩ | ⟨m2, l2⟩
      · exact name_of_addr own.apart m1 m2
      · omega
    · rcases look y c hy with ⟨m2, l2⟩ | ⟨m2, l2⟩
      · omega
      · exact I.ok.inj x y c m1 m2
  · have hx : (relabel scope X.env).names.lookup x = some .cell ∨ (relabel scope X.env).names.lookup x = some .free := hx
    rcases hx with hx | hx
    · obtain ⟨k0, e, z | ⟨_, z⟩⟩ := lookup_relabel hx
      · exact hasL x (.inl (by rw [e, ← z]))
      · exact hasL x (.inr (by rw [e, z]))
    · obtain ⟨k0, e, z | ⟨z, _⟩⟩ := lookup_relabel hx
      · exact hasL x (.inr (by rw [e, ← z]))
      · cases z
  · show s.heap.objs.size ≤ c
    have hf : (scope.names.lookup x == some .cell) = true := hf
    have hf' : scope.names.lookup x = some .cell := eq_of_beq hf
    have hx : (cellsFrom (s.heap.objs.size + 1) scope.names (closeFrom X.env scope.names [])).lookup x = some c := hx
    rw [cellsFrom_app, lookup_app] at hx
    obtain ⟨c', e⟩ := cell_has (n := s.heap.objs.size + 1) hf'
    rw [e] at hx
    have z : c' = c := Option.some.inj hx
    subst z
    exact Nat.le_of_succ_le (own.empty x c' (mem_of_lookup e)).2
  · obtain ⟨_, hlt⟩ := hex b hb
    refine ⟨Nat.ne_of_lt hlt, fun x c hx z => ?_⟩
    subst z
    have hlt' : @LT.lt Nat instLTNat c s.heap.objs.size := hlt
    rcases look x c hx with ⟨_, l1⟩ | ⟨m1, _⟩
    · omega
    · obtain ⟨⟨_, _, _, _, f4, _⟩, _⟩ := hex c hb
      exact f4 x c m1 rfl
  · obtain ⟨⟨_, _, _, f3, _, _⟩, _⟩ := hex b hb
    rcases f3 with z | z
    · exact I.ok.noex b o e z
    · have h1 : @LT.lt Nat instLTNat b X.base.objs.size := Heap.lt_size e
      have h2 := I.ok.bsz
      have h3 : @LE.le Nat instLENat X.s₀.heap.objs.size b := z
      omega
  · obtain ⟨⟨_, f1, f2, _, _, _⟩, _⟩ := hex b hb
    rcases List.mem_cons.mp (I.stkSub b hfs) with z | z
    · exact f1 z
    · exact f2 z
  · exact (Heap.Ns.new s.heap (.type "dict")).keeps (pushCells_keeps _ _)
  · have hi : i < X.N.length := by
      by_cases hi : i < X.N.length
      · exact hi
      · exfalso
        unfold blkSt at h2
        have hl : (ms.foldl (fun σ i => σ.set i none) σ).length = X.N.length := by rw [unset_len, I.len]
        rw [List.getElem?_append_right (by omega), List.getElem?_replicate] at h2
        split at h2 <;> cases h2
    have h2' : (ms.foldl (fun σ i => σ.set i none) σ)[i]? = some (some v) := by
      unfold blkSt at h2
      have hl : (ms.foldl (fun σ i => σ.set i none) σ).length = X.N.length := by rw [unset_len, I.len]
      rw [List.getElem?_append_left (by omega)] at h2
      exact h2
    obtain ⟨h4, h5⟩ := unset_get ms σ i v h2'
    have h1' : N'[i]? = some x := h1
    have hXN : X.N[i]? = some x := by rw [← B.pre i hi]; exact h1'
    have h3 : (relabel scope X.env).names.lookup x = some .local ∨ (relabel scope X.env).names.lookup x = some .cell ∨ (relabel scope X.env).names.lookup x = some .free := h3
    have fr : scope.names.lookup x = some .free := by
      have go : ∀ k', (relabel scope X.env).names.lookup x = some k' → k' = .local ∨ k' = .cell ∨ k' = .free → scope.names.lookup x = some .free := fun k' e hk => by
        obtain ⟨k0, e0, z | ⟨_, z⟩⟩ := lookup_relabel e
        · have := B.vis i hi h5 x k0 h1' e0 (z ▸ hk)
          rw [e0, this]
        · rw [e0, z]
      rcases h3 with h3 | h3 | h3
      · exact go _ h3 (.inl rfl)
      · exact go _ h3 (.inr (.inl rfl))
      · exact go _ h3 (.inr (.inr rfl))
    have hk := B.free (x, .free) (PySem.mem_of_lookup fr) rfl
    obtain ⟨m, hn, hl⟩ := I.loc
    obtain ⟨u, r, l⟩ := hl i x v hXN h4 (.inr hk)
    refine ⟨u, r, .inr ⟨?_, ?_⟩⟩
    · rcases h3 with h3 | h3
      · exfalso
        obtain ⟨k0, e0, z | ⟨z, _⟩⟩ := lookup_relabel h3
        · rw [fr] at e0; cases e0; cases z
        · cases z
      · exact h3
    · rcases l with ⟨hloc, _⟩ | ⟨_, c, hc, hcell⟩
      · rcases hk with hk | hk
        · rw [hk] at hloc; cases hloc
        · rw [hk] at hloc; cases hloc
      · refine ⟨c, ?_, hcell.keeps keep⟩
        obtain ⟨c2, e2⟩ := hasL x (.inr fr)
        have e2' : (cellsFrom (s.heap.objs.size + 1) scope.names (closeFrom X.env scope.names [])).lookup x = some c2 := e2
        rcases look x c2 e2' with ⟨m1, _⟩ | ⟨m1, _⟩
        · exfalso
          rcases cellsFrom_src scope.names _ _ _ m1 with q | q
          · have := B.uniq _ q
            rw [fr] at this
            cases this
          · cases q
        · rw [hc] at m1
          have z : c = c2 := Option.some.inj m1
          rw [z]
          exact e2
  · rcases look x c hx with ⟨m1, _⟩ | ⟨m1, _⟩
    · exact ⟨none, (own.empty x c m1).1⟩
    · obtain ⟨v, q⟩ := I.cell x c m1
      exact ⟨v, q.keeps keep⟩
  · exact I.hok.fresh (Nat.le_refl _)
  · rcases look x c hx with ⟨_, l1⟩ | ⟨m1, _⟩
    · exact I.hok.fresh (by omega)
    · exact I.freeC x c m1
  · show (blkSt ms k σ).length = N'.length
    unfold blkSt
    rw [List.length_append, unset_len, List.length_replicate, I.len, B.len]
end
end L2
namespace L2
open PySem PySem.Spec PyProof.Rows
def tTrue : TT := fun _ H Q => Q true H
def CompW (J : It) (g : TG) (tc : TT) (te : TE) (D : Addr) (Q : VK) (σ0 : St) (H0 : Hp) : Prop := ∃ W : Nat → Nat → St → Hp → Prop, (∃ m, W 0 m σ0 (upd H0 D (.lst []))) ∧
  ∀ i m σ' H2, W i m σ' H2 → (J.stop i H2 ∧ Q (.ref D) H2) ∨ (J.go i H2 ∧ ∀ x H3, J.yld i H2 x H3 → g x σ' H3 fun σ2 H4 => tc σ2 H4 fun b H5 =>
    if b = true then te σ2 H5 fun v H6 => ∃ ys, H6 D = some (.lst ys) ∧ ys.length < sizeLine ∧ ∃ m', m' < m ∧ W (i + 1) m' σ2 (upd H6 D (.lst (ys ++ [v])))
    else ∃ m', m' < m ∧ W (i + 1) m' σ2 H5)
def tComp (wi : TI) (g : TG) (tc : TT) (te : TE) (ms : List Nat) (k : Nat) : TE := fun σ H Q => wi σ H fun J H1 => ∀ D, H1 D = none → CompW J g tc te D Q (blkSt ms k σ) H1
def PTs (X : Cx) (ifs : List Expr) (t : TT) : Prop :=
  ∀ (pins : List (Addr × Obj)) (s : Shared) (σ : St) (H : Hp) (Q : Bool → Hp → Prop), Inv X pins σ H s → t σ H Q →
    wpAny (model X.prog X.w) X.A (forIn ifs true fun c r => if r = true then do let ok ← isTrue c X.env (eval c X.env); pure (ForInStep.yield ok) else pure (ForInStep.yield r)) (TP X pins σ Q) X.xe s
section
variable {X : Cx}
theorem pts_nil : PTs X [] tTrue := fun pins s σ H Q I h => wpAny_tests_nil ⟨H, I, h⟩
theorem pts_one {c : Expr} {t : TT} (h : PT X c t) : PTs X [c] t := fun pins s σ H Q I hw => wpAny_tests_one (h pins s σ H Q I hw)
theorem comp_core {elt target iter : Expr} {ifs : List Expr} {scope : Scope} {pos : Pos} {p : Pos} {wi : TI} {g : TG} {tc : TT} {te : TE} {N' : List Str} {ms : List Nat} {k : Nat} {use : Option (Value → Sem Unit)}
    {Q : Value → Shared → Prop} {pins : List (Addr × Obj)} {s : Shared} {σ : St} {H : Hp} {Qv : VK} (hcalm : X.calm = true) (hi : PI X target iter wi)
    (B : BlkOk X N' scope ms k) (hg : ∀ C cells s₀ H₀ ex, PG (blkCx X N' scope C cells s₀ H₀ ex) target g) (hc : ∀ C cells s₀ H₀ ex, PTs (blkCx X N' scope C cells s₀ H₀ ex) ifs tc)
    (he : ∀ C cells s₀ H₀ ex, PE (blkCx X N' scope C cells s₀ H₀ ex) elt te) (hs : ∀ x, foldedSetIterable iter X.env x = pure x) (I : Inv X pins σ H s) (hw : tComp wi g tc te ms k σ H Qv)
    (hpost : ∀ (D : Addr) (H' : Hp) (s' : Shared) (C : Addr) (m : Str → Option Value), Inv X pins σ H' s' → s'.heap.Ns C m → H' C = none → C ≠ X.env.locals → X.s₀.heap.objs.size ≤ C →
      (∀ x c, X.env.cells.lookup x = some c → c ≠ C) → (∀ p ∈ X.pn ++ pins, p.1 ≠ C) → Qv (.ref D) H' → compPost (model X.prog X.w) X.A X.xe use Q (.ref D) C (.ok .next) s') :
    wpAny (model X.prog X.w) X.A (comprehension (.ListComp elt [⟨target, iter, ifs, 0⟩] scope pos) scope X.env p (newList []) false (eval iter X.env) use) Q X.xe s := by
  have hfree : ∀ x ∈ scope.names, x.2 = .free → ∃ c, X.env.cells.lookup x.1 = some c := fun x hx hk => I.ok.has x.1 (B.free x hx hk)
  refine wpAny_comprehension_free (use := use) rfl hs (closureFor_eq hfree) B.kind (fun x hx hl => by rw [B.uniq x hx, hl]) ?_
  refine thn (hi pins s σ H _ I hw) fun v s1 h1 => thn h1 fun itv s2 h2 => ?_
  obtain ⟨it, fp, tn, J, H2, rfl, I2, T, st2, f2, h2⟩ := h2
  refine wpAny_newObj_type ?_
  have I3 : Inv X pins σ (upd H2 s2.heap.objs.size (.lst [])) { s2 with heap := s2.heap.push { cls := .type "list", data := .seq ([] : List Value).toArray } } := I2.lnew (t' := s2.toks) .nil (Nat.zero_le _)
  obtain ⟨W, ⟨m0, w0⟩, turn⟩ := h2 s2.heap.objs.size I2.fresh
  have hfp3 : ∀ b ∈ fp, FpOk X pins (upd H2 s2.heap.objs.size (.lst [])) b ∧ b < (s2.heap.push { cls := .type "list", data := .seq ([] : List Value).toArray }).objs.size := fun b hb => by
    obtain ⟨o, e, _⟩ := T.obj _ _ st2 b hb
    have hlt := Heap.lt_size e
    obtain ⟨f0, fr⟩ := f2 b hb
    refine ⟨⟨by rw [upd_ne (Nat.ne_of_lt hlt)]; exact f0, fr⟩, ?_⟩
    rw [Heap.size_push]
    exact Nat.lt_succ_of_lt hlt
  generalize hs3 : ({ s2 with heap := s2.heap.push { cls := .type "list", data := .seq ([] : List Value).toArray } } : Shared) = s3 at I3
  have hh3 : s2.heap.push { cls := .type "list", data := .seq ([] : List Value).toArray } = s3.heap := by rw [← hs3]
  rw [hh3] at hfp3
  refine wp_blkEnv ?_
  have I4 := inv_blk I3 B hfp3
  have st4 : tn 0 (pushCells (s3.heap.push { cls := .type "dict", data := .dict #[] }) scope.names) := T.keep _ _ _ st2 fun b hb o e => pushCells_keeps _ _ b o (Heap.get?_push_of_some _ (by rw [← hh3]; exact Heap.get?_push_of_some _ e))
  have fr4 : ∀ b ∈ fp, upd H2 s2.heap.objs.size (.lst []) b = none := fun b hb => (hfp3 b hb).1.1
  generalize hs4 : ({ s3 with heap := pushCells (s3.heap.push { cls := .type "dict", data := .dict #[] }) scope.names } : Shared) = s4 at I4
  have hh4 : pushCells (s3.heap.push { cls := .type "dict", data := .dict #[] }) scope.names = s4.heap := by rw [← hs4]
  rw [hh4] at st4
  have stat : ∀ {H' : Hp} {pn' : List (Addr × Obj)}, pn' = [] → (∀ b ∈ fp, H' b = none) → ∀ b ∈ fp, FpOk (blkCx X N' scope s3.heap.objs.size (cellsFrom (s3.heap.objs.size + 1) scope.names (closeFrom X.env scope.names [])) s3 (upd H2 s2.heap.objs.size (.lst [])) fp) pn' H' b := fun hp hn b hb => by
    obtain ⟨x1, x2⟩ := I4.ok.exf b hb
    exact ⟨hn b hb, x1, I4.ok.exfs b hb, .inl hb, x2, fun p hp' => by rw [hp] at hp'; exact absurd (show p ∈ ([] : List (Addr × Obj)) from hp') (by simp)⟩
  have loop : ∀ it' : Value, it' = .ref it → codeAny (model X.prog X.w) X.A (.compLoop (.ListComp elt [⟨target, iter, ifs, 0⟩] scope pos) 0 it' (.ref s2.heap.objs.size) (blkEnv scope X.env s3.heap.objs.size (cellsFrom (s3.heap.objs.size + 1) scope.names (closeFrom X.env scope.names []))))
      (compPost (model X.prog X.w) X.A X.xe use Q (.ref s2.heap.objs.size) s3.heap.objs.size) s4 := by
    rintro it' rfl
    refine compLoop_any (fun n s' => ∃ i σ' H', Inv (blkCx X N' scope s3.heap.objs.size (cellsFrom (s3.heap.objs.size + 1) scope.names (closeFrom X.env scope.names [])) s3 (upd H2 s2.heap.objs.size (.lst [])) fp) [] σ' H' s' ∧ tn i s'.heap ∧ (∀ b ∈ fp, H' b = none) ∧ W i n σ' H') ?_ m0 ⟨0, _, _, I4, st4, fr4, w0⟩
    rintro n s5 ⟨i, σ5, H5, I5, st5, fr5, w5⟩
    rcases turn i n σ5 H5 w5 with ⟨stop, q⟩ | ⟨go, step⟩
    · refine thn (T.done (blkCx X N' scope s3.heap.objs.size (cellsFrom (s3.heap.objs.size + 1) scope.names (closeFrom X.env scope.names [])) s3 (upd H2 s2.heap.objs.size (.lst [])) fp) rfl rfl rfl hcalm i [] s5 σ5 H5 (fun _ _ => False) I5 (stat rfl fr5) st5 stop) fun r s6 ⟨hr, I6⟩ => ?_
      subst hr
      have I7 : Inv X pins σ H5 s6 := I3.call' I6.os I6.base I6.hok I6.bare fun b hb => by
        obtain ⟨⟨_, f1, _, f3, f4, f5⟩, _⟩ := hfp3 b hb
        exact ⟨f3, f1, f4, f5⟩
      obtain ⟨m, hn, _⟩ := I6.loc
      have l3 := I3.lt
      refine hpost _ H5 s6 _ m I7 hn I6.free (Nat.ne_of_gt l3) I3.sz (fun x c e z => ?_) (fun p hp z => ?_) q
      · obtain ⟨v, hv⟩ := I3.cell x c e
        have := hv.lt
        rw [z] at this
        exact Nat.lt_irrefl _ this
      · have := Heap.lt_size (I3.pin p hp).1
        rw [z] at this
        exact Nat.lt_irrefl _ this
    · refine thn (T.item (blkCx X N' scope s3.heap.objs.size (cellsFrom (s3.heap.objs.size + 1) scope.names (closeFrom X.env scope.names [])) s3 (upd H2 s2.heap.objs.size (.lst [])) fp) rfl rfl rfl hcalm i [] s5 σ5 H5 (fun _ _ => False) I5 (stat rfl fr5) st5 go) fun r s6 ⟨u, hr, h6⟩ => ?_
      subst hr
      refine thn h6 fun _ s7 ⟨x, H7, I7, r7, y7, st7, fr7⟩ => ?_
      have I7' := I7.pinned (stat rfl fr7) (T.obj _ _ st7)
      refine thn (hg _ _ _ _ _ _ s7 σ5 H7 x u _ I7' r7 (step x H7 y7)) fun _ s8 ⟨σ8, H8, I8, q8⟩ => ?_
      refine thn (hc _ _ _ _ _ _ s8 σ8 H8 _ I8 q8) fun b s9 ⟨H9, I9, q9⟩ => ?_
      have again : ∀ {σ' : St} {H' : Hp} {s' : Shared}, Inv (blkCx X N' scope s3.heap.objs.size (cellsFrom (s3.heap.objs.size + 1) scope.names (closeFrom X.env scope.names [])) s3 (upd H2 s2.heap.objs.size (.lst [])) fp) ([] ++ pinsAt fp s7.heap) σ' H' s' →
          (∃ m', m' < n ∧ W (i + 1) m' σ' H') → ∃ m, m < n ∧ ∃ i σ'' H'', Inv (blkCx X N' scope s3.heap.objs.size (cellsFrom (s3.heap.objs.size + 1) scope.names (closeFrom X.env scope.names [])) s3 (upd H2 s2.heap.objs.size (.lst [])) fp) [] σ'' H'' s' ∧ tn i s'.heap ∧ (∀ b ∈ fp, H'' b = none) ∧ W i m σ'' H'' := fun {σ' H' s'} I' ⟨m', hm, w'⟩ => by
        refine ⟨m', hm, i + 1, σ', H', I'.unpinned, T.keep _ _ _ st7 fun b hb o e => (I'.pin (b, o) (List.mem_append_right _ (List.mem_append_right _ (mem_pinsAt hb e)))).1, fun b hb => ?_, w'⟩
        obtain ⟨o, e, d⟩ := T.obj _ _ st7 b hb
        exact (I'.pin (b, o) (List.mem_append_right _ (List.mem_append_right _ (mem_pinsAt hb e)))).2.1
      cases b with
      | false =>
        rw [if_neg Bool.false_ne_true] at q9 ⊢
        exact again I9 q9
      | true =>
        rw [if_pos rfl] at q9 ⊢
        refine thn (he _ _ _ _ _ _ s9 σ8 H9 _ I9 q9) fun y s10 ⟨vy, H10, I10, r10, ys, hys, hz, q10⟩ => ?_
        refine thn (mt_append _ s10 σ8 H10 (.ref s2.heap.objs.size) [vy] (.ref s2.heap.objs.size) [y] (fun _ H' => H' = upd H10 s2.heap.objs.size (.lst (ys ++ [vy]))) I10 rfl (.cons r10 .nil) ⟨_, ys, vy, rfl, rfl, hys, hz, rfl⟩) fun _ s11 ⟨_, H11, I11, _, e11⟩ => ?_
        subst e11
        exact again I11 q10
  have fin := codeAny_compStart_list (loop _ rfl) (T.self _ 0 s4 _ _ st4 (loop _ rfl))
  exact fin
theorem pe_compG {elt target iter : Expr} {ifs : List Expr} {scope : Scope} {pos : Pos} {wi : TI} {g : TG} {tc : TT} {te : TE} {N' : List Str} {ms : List Nat} {k : Nat} (hcalm : X.calm = true) (hi : PI X target iter wi)
    (B : BlkOk X N' scope ms k) (hg : ∀ C cells s₀ H₀ ex, PG (blkCx X N' scope C cells s₀ H₀ ex) target g) (hc : ∀ C cells s₀ H₀ ex, PTs (blkCx X N' scope C cells s₀ H₀ ex) ifs tc)
    (he : ∀ C cells s₀ H₀ ex, PE (blkCx X N' scope C cells s₀ H₀ ex) elt te) (hs : ∀ x, foldedSetIterable iter X.env x = pure x := by intro _; rfl) :
    PE X (.ListComp elt [⟨target, iter, ifs, 0⟩] scope pos) (tComp wi g tc te ms k) := by
  intro pins s σ H Q I h
  rw [eval_ListComp]
  refine comp_core (use := none) (Qv := Q) hcalm hi B hg hc he hs I h fun D H' s' C m I' hn f0 f1 f3 f4 f5 q => ?_
  exact ⟨m, hn, fun h' sb => ⟨.ref D, H', I'.turned (t' := s'.toks) (fun b o hb e => (sb.2 b hb).trans e) f0 f1 (.inr f3) f4 f5, rfl, q⟩⟩
theorem ps_setC {i : Nat} {x : Str} {px : Pos} {spos : Pos} {elt target iter : Expr} {ifs : List Expr} {scope : Scope} {pos : Pos} {wi : TI} {g : TG} {tc : TT} {te : TE} {N' : List Str} {ms : List Nat} {k : Nat} (hN : X.N.Nodup) (hx : X.N[i]? = some x) (hl : Loc X.env.scope x)
    (hcalm : X.calm = true) (hi : PI X target iter wi) (B : BlkOk X N' scope ms k) (hg : ∀ C cells s₀ H₀ ex, PG (blkCx X N' scope C cells s₀ H₀ ex) target g) (hc : ∀ C cells s₀ H₀ ex, PTs (blkCx X N' scope C cells s₀ H₀ ex) ifs tc)
    (he : ∀ C cells s₀ H₀ ex, PE (blkCx X N' scope C cells s₀ H₀ ex) elt te) (hsw : swapsWith (.ListComp elt [⟨target, iter, ifs, 0⟩] scope pos) (some (.Name x px)) spos.line X.env = pure true := by rfl) (hs : ∀ x, foldedSetIterable iter X.env x = pure x := by intro _; rfl)
    (hf : X.fn x = true ∨ X.env.scope.names.lookup x = some .local := by first | exact .inl rfl | exact .inr rfl | assumption) :
    PS X (.Assign [.Name x px] (.ListComp elt [⟨target, iter, ifs, 0⟩] scope pos) spos) (tAsg (tComp wi g tc te ms k) (gName i)) := by
  intro pins s σ H D I h
  rw [exec_Assign_Name_used _ _ _ _ hsw]
  refine wpAny_bind (wpAny_standAt (wpAny_bind ?_))
  show wpAny _ X.A (do let _ ← comprehension (.ListComp elt [⟨target, iter, ifs, 0⟩] scope pos) scope X.env _ (newList []) false (eval iter X.env) (some (assign (.Name x px) X.env))) _ _ s
  refine wpAny_bind (wpAny_mono (comp_core (use := some (assign (.Name x px) X.env)) (Q := fun _ s' => ∃ σ' H', Inv X pins σ' H' s' ∧ D.nx σ' H') hcalm hi B hg hc he hs I h fun Da H' s' C m I' hn f0 f1 f3 f4 f5 q => ?_)
    (fun _ s' hq => wpAny_pure (wpAny_pure hq)) fun _ _ e => e)
  show wpAny _ X.A (assign (.Name x px) X.env (.ref Da)) _ _ s'
  refine wpAny_assign_Name (store_ok2 I' hN hx hl (v := .ref Da) rfl (fun s'' I'' ⟨b, sb, hb⟩ => ?_) hf)
  have hCb : C ≠ b := by
    rcases hb with z | z
    · rw [z]; exact f1
    · exact fun e => f4 x b z e.symm
  refine ⟨m, hn.sameBut sb hCb, fun h' sb' => ⟨_, H', I''.turned (t' := s''.toks) (fun b o hb e => (sb'.2 b hb).trans e) f0 f1 (.inr f3) f4 f5, q⟩⟩
end
end L2
namespace L2
open PySem PySem.Spec PyProof.Rows
def blkB (N : List Str) (lk : Str → Option NameKind) (N' : List Str) (scope : Scope) (ms : List Nat) (k : Nat) : Bool :=
  scope.kind == .function && (scope.names.all fun x => scope.names.lookup x.1 == some x.2) && (scope.names.all fun x => !(x.2 == .free) || lk x.1 == some .cell || lk x.1 == some .free) &&
  N'.length == N.length + k && (N'.take N.length == N) &&
  (List.range N.length).all fun i => ms.contains i || (match N'[i]? with | none => true | some x => match scope.names.lookup x with | some .local => false | some .cell => false | _ => true)
theorem BlkOk.of {X : Cx} {N' : List Str} {scope : Scope} {ms : List Nat} {k : Nat} (h : blkB X.N X.env.kindOf N' scope ms k = true) : BlkOk X N' scope ms k := by
  unfold blkB at h
  simp only [Bool.and_eq_true] at h
  obtain ⟨⟨⟨⟨⟨h1, h2⟩, h3⟩, h4⟩, h5⟩, h6⟩ := h
  have e5 : N'.take X.N.length = X.N := eq_of_beq h5
  refine ⟨eq_of_beq h1, fun x hx => eq_of_beq (List.all_eq_true.mp h2 x hx), fun x hx hk => ?_, eq_of_beq h4, fun i hi => ?_, fun i hi hm x k' e1 e2 hk => ?_⟩
  · have q := List.all_eq_true.mp h3 x hx
    simp only [Bool.or_eq_true] at q
    rcases q with (q | q) | q
    · rw [hk] at q; cases q
    · exact .inl (eq_of_beq q)
    · exact .inr (eq_of_beq q)
  · have q : (N'.take X.N.length)[i]? = N'[i]? := List.getElem?_take_of_lt hi
    rw [e5] at q
    exact q.symm
  · have q := List.all_eq_true.mp h6 i (List.mem_range.mpr hi)
    rw [Bool.or_eq_true] at q
    rcases q with q | q
    · exact absurd (by simpa using q) hm
    · rw [e1] at q
      rcases hk with rfl | rfl | rfl
      · simp only [e2] at q; cases q
      · simp only [e2] at q; cases q
      · rfl
section
variable {K : PySem.W.Frag} {a : Addr} {xs : List V} {g : TG} {tc : TT} {te : TE} {D : Addr} {σ : St} {H : Hp} {Q : VK}
def CNext (D : Addr) (n i : Nat) (Pv : Nat → List V → St → Hp → Prop) (σ2 : St) : VK := fun v H6 => ∃ ys, H6 D = some (.lst ys) ∧ ys.length < sizeLine ∧ ∃ m', m' < n - i ∧ (m' = n - (i + 1) ∧ i + 1 ≤ n ∧ ∃ ys', Pv (i + 1) ys' σ2 (upd H6 D (.lst (ys ++ [v]))))
def CSkip (n i : Nat) (Pv : Nat → List V → St → Hp → Prop) (σ2 : St) (H5 : Hp) : Prop := ∃ m', m' < n - i ∧ (m' = n - (i + 1) ∧ i + 1 ≤ n ∧ ∃ ys', Pv (i + 1) ys' σ2 H5)
theorem cnext {n i : Nat} {Pv : Nat → List V → St → Hp → Prop} {σ2 : St} {v : V} {H6 : Hp} {ys : List V} (hi : i < n) (h : H6 D = some (.lst ys)) (hz : ys.length ≤ 100000) (p : Pv (i + 1) (ys ++ [v]) σ2 (upd H6 D (.lst (ys ++ [v])))) : CNext D n i Pv σ2 v H6 :=
  ⟨ys, h, smallLt hz, n - (i + 1), by omega, rfl, hi, _, p⟩
theorem cskip {n i : Nat} {Pv : Nat → List V → St → Hp → Prop} {σ2 : St} {H5 : Hp} {ys : List V} (hi : i < n) (p : Pv (i + 1) ys σ2 H5) : CSkip n i Pv σ2 H5 := ⟨n - (i + 1), by omega, rfl, hi, _, p⟩
theorem comp_list (Pv : Nat → List V → St → Hp → Prop) (h0 : Pv 0 [] σ (upd H D (.lst []))) (hl : ∀ i ys σ H, i ≤ xs.length → Pv i ys σ H → SqL K H a xs)
    (hs : ∀ i x ys σ H, xs[i]? = some x → i < xs.length → Pv i ys σ H → g x σ H fun σ2 H4 => tc σ2 H4 fun b H5 => if b = true then te σ2 H5 (CNext D xs.length i Pv σ2) else CSkip xs.length i Pv σ2 H5)
    (hd : ∀ ys σ H, Pv xs.length ys σ H → Q (.ref D) H) :
    CompW (Itl K a) g tc te D Q σ H := by
  refine ⟨fun i m σ H => m = xs.length - i ∧ i ≤ xs.length ∧ ∃ ys, Pv i ys σ H, ⟨xs.length, by simp, Nat.zero_le _, [], h0⟩, ?_⟩
  rintro i m σ H ⟨rfl, hi, ys, p⟩
  have q := hl i ys σ H hi p
  by_cases hlt : i < xs.length
  · refine .inr ⟨⟨xs, xs[i], q, by simp [hlt]⟩, fun x H' y => ?_⟩
    obtain ⟨e, y⟩ := y
    subst e
    exact hs i x ys σ _ (y xs q) hlt p
  · have e : i = xs.length := by omega
    subst e
    exact .inl ⟨⟨xs, q, Nat.le_refl _⟩, hd ys σ H p⟩
theorem comp_enum (Pv : Nat → List V → St → Hp → Prop) (h0 : Pv 0 [] σ (upd H D (.lst []))) (hl : ∀ i ys σ H, i ≤ xs.length → Pv i ys σ H → SqL K H a xs)
    (hs : ∀ i x t ys σ H, xs[i]? = some x → i < xs.length → Pv i ys σ H → H t = none → g (.ref t) σ (upd H t (.tup [.int i, x])) fun σ2 H4 => tc σ2 H4 fun b H5 => if b = true then te σ2 H5 (CNext D xs.length i Pv σ2) else CSkip xs.length i Pv σ2 H5)
    (hd : ∀ ys σ H, Pv xs.length ys σ H → Q (.ref D) H) :
    CompW (Ite K a) g tc te D Q σ H := by
  refine ⟨fun i m σ H => m = xs.length - i ∧ i ≤ xs.length ∧ ∃ ys, Pv i ys σ H, ⟨xs.length, by simp, Nat.zero_le _, [], h0⟩, ?_⟩
  rintro i m σ H ⟨rfl, hi, ys, p⟩
  have q := hl i ys σ H hi p
  by_cases hlt : i < xs.length
  · refine .inr ⟨⟨xs, xs[i], q, by simp [hlt]⟩, fun v H' y => ?_⟩
    obtain ⟨t, x, rfl, hn, hx, rfl⟩ := y
    exact hs i x t ys σ _ (hx xs q) hlt p hn
  · have e : i = xs.length := by omega
    subst e
    exact .inl ⟨⟨xs, q, Nat.le_refl _⟩, hd ys σ H p⟩
theorem comp_range {lo : Int} {n : Nat} (Pv : Nat → List V → St → Hp → Prop) (h0 : Pv 0 [] σ (upd H D (.lst [])))
    (hs : ∀ i ys σ H, i < n → Pv i ys σ H → g (.int (lo + i)) σ H fun σ2 H4 => tc σ2 H4 fun b H5 => if b = true then te σ2 H5 (CNext D n i Pv σ2) else CSkip n i Pv σ2 H5)
    (hd : ∀ ys σ H, Pv n ys σ H → Q (.ref D) H) :
    CompW (Itr lo n) g tc te D Q σ H := by
  refine ⟨fun i m σ H => m = n - i ∧ i ≤ n ∧ ∃ ys, Pv i ys σ H, ⟨n, by simp, Nat.zero_le _, [], h0⟩, ?_⟩
  rintro i m σ H ⟨rfl, hi, ys, p⟩
  by_cases hlt : i < n
  · refine .inr ⟨hlt, fun x H' y => ?_⟩
    obtain ⟨e, y⟩ := y
    subst e y
    exact hs i ys σ _ hlt p
  · have e : i = n := by omega
    subst e
    exact .inl ⟨Nat.le_refl _, hd ys σ H p⟩
end
end L2
namespace Sr
open PySem PyProof.Rows
def Tells (prog : Program) (w : World) (A : Around) (s : Shared) (κ : KeyKind) (kd : SortKind) : Prop :=
  ∀ (E : Value → Shared → Prop) (x y : Value) (a b : κ.α) (Q : Bool → Shared → Prop), κ.keyOf x = some a → κ.keyOf y = some b → Q (κ.blt a b) s → wpAny (model prog w) A (keyLt' kd x y) Q E s
structure Stays (kd : SortKind) (o : Array Keyed) (st : SortSt) : Prop where
  pm : (arrOf st).Perm o
  kn : kindOf st = kd
  fl : failedOf st = none
  pn : pendingOf st = #[]
section
variable {prog : Program} {w : World} {A : Around} {E : Value → Shared → Prop} {s : Shared} {o : Array Keyed} {κ : KeyKind} {kd : SortKind} {st : SortSt}
theorem Stays.sz (h : Stays kd o st) : (arrOf st).size = o.size := h.pm.size_eq
theorem Stays.put (h : Stays kd o st) {xs : Array Keyed} (p : xs.Perm (arrOf st)) : Stays kd o (setArr st xs) := ⟨p.trans h.pm, h.kn, h.fl, h.pn⟩
theorem less_at (T : Tells prog w A s κ kd) (h0 : KeysOf κ o) (S : Stays kd o st) {i j : Nat} {Q : Option Bool → SortSt → Prop} (hi : i < o.size) (hj : j < o.size)
    (q : Q (some (κ.blt (KK κ (arrOf st) i) (KK κ (arrOf st) j))) st) : wpS (model prog w) A E s (ltAt' i j) Q st := by
  have key : ∀ {k : Nat}, k < o.size → ∃ v p a, (arrOf st)[k]? = some (v, p) ∧ κ.keyOf v = some a ∧ KK κ (arrOf st) k = a := fun {k} hk => by
    have hk' : k < (arrOf st).size := S.sz ▸ hk
    have hin : (arrOf st)[k] ∈ o.toList := (Array.perm_iff_toList_perm.mp S.pm).mem_iff.mp (by simp)
    obtain ⟨a, ea⟩ := h0 _ hin
    have e := getElem?_pos (arrOf st) k hk'
    exact ⟨_, _, a, e, ea, by simp only [KK, e, ea, Option.getD_some]⟩
  obtain ⟨x, p, a, e1, k1, r1⟩ := key hi
  obtain ⟨y, p', b, e2, k2, r2⟩ := key hj
  rw [r1, r2] at q
  rw [ltAt'_eq]
  refine wpS_bind (wpS_get ?_)
  show wpS _ _ _ _ (elem' (arrOf st) i >>= fun u => elem' (arrOf st) j >>= fun v => lt' u v) Q st
  rw [elem'_eq, elem'_eq, e1, e2]
  refine wpS_bind (wpS_pure (wpS_bind (wpS_pure ?_)))
  rw [lt'_eq]
  refine wpS_bind (wpS_get ?_)
  rw [S.kn]
  exact wpS_bind (wpS_lift (wpAny_attempt (T _ x y a b _ k1 k2 ⟨rfl, wpS_pure q⟩)))
theorem up_one {xs : Array Keyed} {x : Nat} (h : SortedToK κ xs x) (hx : x = 0 ∨ κ.kle (KK κ xs (x - 1)) (KK κ xs x)) : SortedToK κ xs (x + 1) := fun i j hij hj => by
  rcases Nat.lt_or_ge j x with hjx | hjx
  · exact h i j hij hjx
  obtain rfl : j = x := by omega
  rcases Nat.lt_or_ge i j with hi | hi
  · rcases hx with z | z
    · omega
    · exact KeyOrd.kle_trans (h i (j - 1) (by omega) (by omega)) z
  · obtain rfl : i = j := by omega
    exact KeyOrd.kle_refl _
theorem down_one {xs : Array Keyed} {x : Nat} (h : NonIncK κ xs x) (hx : x = 0 ∨ κ.kle (KK κ xs x) (KK κ xs (x - 1))) : NonIncK κ xs (x + 1) := fun i j hij hj => by
  rcases Nat.lt_or_ge j x with hjx | hjx
  · exact h i j hij hjx
  obtain rfl : j = x := by omega
  rcases Nat.lt_or_ge i j with hi | hi
  · rcases hx with z | z
    · omega
    · exact KeyOrd.kle_trans z (h i (j - 1) (by omega) (by omega))
  · obtain rfl : i = j := by omega
    exact KeyOrd.kle_refl _
theorem up_1 {xs : Array Keyed} : SortedToK κ xs 1 := up_one (fun _ _ _ hj => absurd hj (Nat.not_lt_zero _)) (.inl rfl)
theorem rise (T : Tells prog w A s κ kd) (h0 : KeysOf κ o) (S : Stays kd o st) {b n : Nat} {Q : AscSt → SortSt → Prop} (hn : n ≤ o.size) (hb : 1 ≤ b) (hbn : b ≤ n) (hs : SortedToK κ (arrOf st) b)
    (q : ∀ m, b ≤ m → m ≤ n → SortedToK κ (arrOf st) m → (m = n ∨ κ.klt (KK κ (arrOf st) m) (KK κ (arrOf st) (m - 1))) → Q (none, m) st) : wpS (model prog w) A E s (ascLoop b n) Q st := by
  unfold ascLoop
  refine wpS_forRange (I := fun m c u => u = st ∧ c = (none, m) ∧ SortedToK κ (arrOf st) m) (fun m c u hbm hmn hI => ?_) (fun c u hI => ?_) ⟨rfl, rfl, hs⟩
  · obtain ⟨rfl, rfl, up⟩ := hI
    refine wpS_bind (less_at T h0 S (i := m) (j := m - 1) (by omega) (by omega) ?_)
    cases lt : κ.blt (KK κ (arrOf u) m) (KK κ (arrOf u) (m - 1)) with
    | true => exact wpS_pure (q m hbm (by omega) up (.inr lt))
    | false => exact wpS_pure ⟨rfl, rfl, up_one up (.inr lt)⟩
  · obtain ⟨rfl, rfl, up⟩ := hI
    have e : max b n = n := by omega
    rw [e] at up ⊢
    exact q n hbn (Nat.le_refl _) up (.inl rfl)
theorem last3 (T : Tells prog w A s κ kd) (h0 : KeysOf κ o) (S : Stays kd o st) {b n : Nat} {Q : Option Nat → SortSt → Prop} (hn : n ≤ o.size) (hb : 1 ≤ b) (hbn : b ≤ n) (hs : NonIncK κ (arrOf st) b)
    (q : ∀ m u, Stays kd o u → 1 ≤ m → m ≤ n → SortedToK κ (arrOf u) m → Q (some m) u) : wpS (model prog w) A E s (tail3 b n) Q st := by
  have z : b ≤ (arrOf st).size := by rw [S.sz]; omega
  have S' : Stays kd o (setArr st (mirror (arrOf st) 0 b ((b - 0) / 2))) := S.put (mirror_perm ..)
  unfold tail3
  refine wpS_bind (wpS_reverse (wpS_bind (rise T h0 S' hn hb hbn (fun i j hij hj => ?_) fun m h1 h2 up _ => wpS_pure (q m _ S' (by omega) h2 up))))
  show κ.kle (KK κ (mirror (arrOf st) 0 b ((b - 0) / 2)) i) (KK κ (mirror (arrOf st) 0 b _) j)
  rw [KK_mirror z i, KK_mirror z j, if_pos ⟨Nat.zero_le _, by omega⟩, if_pos ⟨Nat.zero_le _, by omega⟩]
  exact hs _ _ (by omega) (by omega)
theorem fall (T : Tells prog w A s κ kd) (h0 : KeysOf κ o) (S : Stays kd o st) {b n : Nat} {Q : DescSt → SortSt → Prop} (hn : n ≤ o.size) (hb : 1 ≤ b) (hbn : b ≤ n) (hs : NonIncK κ (arrOf st) b)
    (q : ∀ m e u, Stays kd o u → b ≤ m → m ≤ n → NonIncK κ (arrOf u) m → e + 1 ≤ m → (∀ i, m - (e + 1) ≤ i → i < m → KK κ (arrOf u) i = KK κ (arrOf u) (m - 1)) → Q (none, m, e) u) :
    wpS (model prog w) A E s (descLoop b n) Q st := by
  unfold descLoop
  refine wpS_forRange (I := fun m c u => ∃ e, c = (none, m, e) ∧ Stays kd o u ∧ NonIncK κ (arrOf u) m ∧ e + 1 ≤ m ∧ ∀ i, m - (e + 1) ≤ i → i < m → KK κ (arrOf u) i = KK κ (arrOf u) (m - 1))
    (fun m c u hbm hmn hI => ?_) (fun c u hI => ?_) ⟨0, rfl, S, hs, hb, fun i h1 h2 => congrArg _ (by omega)⟩
  · obtain ⟨e, rfl, S', dn, he, al⟩ := hI
    have z : m ≤ (arrOf u).size := by rw [S'.sz]; omega
    refine wpS_bind (less_at T h0 S' (i := m) (j := m - 1) (by omega) (by omega) ?_)
    cases lt : κ.blt (KK κ (arrOf u) m) (KK κ (arrOf u) (m - 1)) with
    | true =>
      have dn' := down_one dn (.inr (KeyOrd.kle_of_klt lt))
      show wpS _ _ _ _ (if e > 0 then _ else _) _ u
      by_cases h : e > 0
      · rw [if_pos h]
        refine wpS_bind (wpS_reverse (wpS_pure ⟨0, rfl, S'.put (mirror_perm ..), fun i j hij hj => ?_, Nat.succ_le_succ (Nat.zero_le _), fun i h1 h2 => congrArg _ (by omega)⟩))
        show κ.kle (KK κ (mirror _ _ _ _) j) (KK κ (mirror _ _ _ _) i)
        rw [KK_mirror_equal z al i, KK_mirror_equal z al j]
        exact dn' i j hij hj
      · rw [if_neg h]
        exact wpS_pure ⟨0, rfl, S', dn', Nat.succ_le_succ (Nat.zero_le _), fun i h1 h2 => congrArg _ (by omega)⟩
    | false =>
      refine wpS_bind (less_at T h0 S' (i := m - 1) (j := m) (by omega) (by omega) ?_)
      cases gt : κ.blt (KK κ (arrOf u) (m - 1)) (KK κ (arrOf u) m) with
      | true => exact wpS_pure (q m e u S' hbm (by omega) dn he al)
      | false =>
        have same : KK κ (arrOf u) m = KK κ (arrOf u) (m - 1) := KeyOrd.kle_antisymm gt lt
        refine wpS_pure ⟨e + 1, rfl, S', down_one dn (.inr (same ▸ KeyOrd.kle_refl _)), by omega, fun i h1 h2 => ?_⟩
        show KK κ (arrOf u) i = KK κ (arrOf u) m
        rcases Nat.lt_or_ge i m with h | h
        · rw [same]
          exact al i (by omega) h
        · rw [show i = m by omega]
  · obtain ⟨e, rfl, S', dn, he, al⟩ := hI
    have ez : max b n = n := by omega
    rw [ez] at dn he al ⊢
    exact q n e u S' hbn (Nat.le_refl _) dn he al
theorem fallen (T : Tells prog w A s κ kd) (h0 : KeysOf κ o) (S : Stays kd o st) {b n : Nat} {Q : Option Nat → SortSt → Prop} (hn : n ≤ o.size) (hbn : b + 1 ≤ n) (hs : NonIncK κ (arrOf st) (b + 1))
    (q : ∀ m u, Stays kd o u → 1 ≤ m → m ≤ n → SortedToK κ (arrOf u) m → Q (some m) u) : wpS (model prog w) A E s (descPart b n) Q st := by
  unfold descPart
  refine wpS_bind (wpS_lift (wpAny_rule ⟨rfl, wpS_bind (fall T h0 S hn (Nat.succ_le_succ (Nat.zero_le _)) hbn hs fun m e u S' h1 h2 dn he al => ?_)⟩))
  have z : m ≤ (arrOf u).size := by rw [S'.sz]; omega
  show wpS _ _ _ _ (if e > 0 then _ else _) _ u
  by_cases h : e > 0
  · rw [if_pos h]
    refine wpS_bind (wpS_reverse (last3 (b := m) T h0 (S'.put (mirror_perm ..)) hn (by omega) h2 (fun i j hij hj => ?_) q))
    show κ.kle (KK κ (mirror _ _ _ _) j) (KK κ (mirror _ _ _ _) i)
    rw [KK_mirror_equal z al i, KK_mirror_equal z al j]
    exact dn i j hij hj
  · rw [if_neg h]
    exact last3 (b := m) T h0 S' hn (by omega) h2 dn q
theorem run_of (T : Tells prog w A s κ kd) (h0 : KeysOf κ o) (S : Stays kd o st) {n : Nat} {Q : Option Nat → SortSt → Prop} (hn : n ≤ o.size) (h1 : 1 ≤ n)
    (q : ∀ m u, Stays kd o u → 1 ≤ m → m ≤ n → SortedToK κ (arrOf u) m → Q (some m) u) : wpS (model prog w) A E s (countRun' 0 n) Q st := by
  rw [countRun0_eq]
  refine wpS_bind (rise T h0 S hn (Nat.le_refl 1) h1 up_1 fun m hm1 hm2 up hor => ?_)
  show wpS _ _ _ _ (if (m == n) = true then _ else _) _ st
  by_cases e : m = n
  · rw [if_pos (beq_iff_eq.mpr e)]
    exact wpS_pure (q m st S hm1 hm2 up)
  rw [if_neg fun z => e (beq_iff_eq.mp z)]
  have dip := hor.resolve_left e
  by_cases h : m > 1
  · rw [if_pos h]
    refine wpS_bind (less_at T h0 S (i := 0) (j := m - 1) (by omega) (by omega) ?_)
    cases rose : κ.blt (KK κ (arrOf st) 0) (KK κ (arrOf st) (m - 1)) with
    | true => exact wpS_pure (q m st S hm1 hm2 up)
    | false =>
      have z : m ≤ (arrOf st).size := by rw [S.sz]; omega
      have al : ∀ k, 0 ≤ k → k < m → KK κ (arrOf st) k = KK κ (arrOf st) (m - 1) := fun k _ hk =>
        KeyOrd.kle_antisymm (up k (m - 1) (by omega) (by omega)) (KeyOrd.kle_trans rose (up 0 k (Nat.zero_le _) hk))
      have dn : NonIncK κ (arrOf st) (m + 1) := down_one (fun i j hij hj => by rw [al i (Nat.zero_le _) (by omega), al j (Nat.zero_le _) hj]; exact KeyOrd.kle_refl _) (.inr (KeyOrd.kle_of_klt dip))
      refine wpS_bind (wpS_reverse (fallen T h0 (S.put (mirror_perm ..)) hn (by omega) (fun i j hij hj => ?_) q))
      show κ.kle (KK κ (mirror _ _ _ _) j) (KK κ (mirror _ _ _ _) i)
      rw [KK_mirror_equal z al i, KK_mirror_equal z al j]
      exact dn i j hij hj
  · rw [if_neg h]
    obtain rfl : m = 1 := by omega
    exact fallen T h0 S hn (by omega) (down_one (fun i j hij hj => by rw [show i = j by omega]; exact KeyOrd.kle_refl _) (.inr (KeyOrd.kle_of_klt dip))) q
end
end Sr
namespace Sr
open PySem PyProof.Rows
section
variable {prog : Program} {w : World} {A : Around} {E : Value → Shared → Prop} {s : Shared}
end
end Sr
namespace Sr
open PySem PyProof.Rows
section
variable {prog : Program} {w : World} {A : Around} {E : Value → Shared → Prop} {s : Shared}
end
end Sr
namespace L2
open PySem PySem.Spec PyProof.Rows
section
variable {X : Cx}
end
end L2
namespace L2
open PySem PySem.Spec PyProof.Rows
section
variable {X : Cx}
end
end L2
namespace L2
open PySem PySem.Spec PyProof.Rows
section
variable {X : Cx} {e st : Expr} {te tst : TE} {pos p2 : Pos}
end
end L2
namespace L2
open PySem PySem.Spec PyProof.Rows
section
variable {X : Cx} (K : PySem.W.Frag) (hK : X.K = K)
include hK
theorem kix_list : IxR X (rIxL K) := by subst hK; exact ix_list
theorem kix_tup : IxR X (rIxT K) := by subst hK; exact ix_tup
theorem ksl_list : SlR X (rSlL K) := by subst hK; exact sl_list
theorem knotIn_seq : OpR X (compareOp .NotIn) (rIn K true) := by subst hK; exact op_notIn_seq
theorem keqD (hu : X.A.units + 64 < cLine) : OpR X (compareOp .Eq) (rEqD K false) := by subst hK; exact op_eqD hu
theorem kneD (hu : X.A.units + 64 < cLine) : OpR X (compareOp .NotEq) (rEqD K true) := by subst hK; exact op_neD hu
def rLen (K : PySem.W.Frag) : List V → Hp → VK → Prop := fun xs H Q => ∃ p ys, xs = [.ref p] ∧ (SqL K H p ys ∨ SqT K H p ys) ∧ Q (.int ys.length) H
theorem klen_seq : CallR X (.builtin "len") (rLen K) := by subst hK; exact call_len_seq
def rIsi (K : PySem.W.Frag) : List V → Hp → VK → Prop := fun xs H Q => ∃ x n t b, xs = [x, .ty n] ∧ TyOf K H x t ∧ PySem.W.kitOne K t (.type n) = some b ∧ Q (.bl b) H
theorem kisinst : CallR X (.builtin "isinstance") (rIsi K) := by subst hK; exact call_isinst
theorem kpi_list {tg l : Expr} {tl : TE} (hl : PE X l tl) : PI X tg l (iList K tl) := by subst hK; exact pi_list hl
theorem kpi_enum {es : List Expr} {k1 : Nat} {tp : Pos} {e : Expr} {ta : TA} {p pos : Pos} (hg : Gl X "enumerate") (hm : X.mg "enumerate" = none) (ha : PA X [e] ta) (hs : starEach [e] X.env = (false, eval e X.env) :: starEach [] X.env := by rfl) :
    PI X (.Tuple es k1 tp) (.Call (.Name "enumerate" p) [e] [] pos) (iEnum K ta) := by subst hK; exact pi_enum hg hm ha hs
theorem kpg_tup {es : List Expr} {k : Nat} {t : TGs} {n : Nat} {pos : Pos} (hc : X.calm = true) (h : PGs X es t) (hn : (assignEach es X.env).length = n := by rfl) (hst : (assignEach es X.env).findIdx? (·.1) = none := by rfl) :
    PG X (.Tuple es k pos) (gTup K n t) := by subst hK; exact pg_tup hc h hn hst
theorem kpe_bm {o e : Expr} {es : List Expr} {to : TE} {t : TA} {name : Str} {apos cpos : Pos} {T id : String} {r : V → List V → Hp → VK → Prop} (pa : PlainAttrs T) (slot : Slot T name id) (hty : typeOf (.builtin id) = pure (.type "method_descriptor")) (hm : MtR X id r) (ho : PE X o to) (ha : PA X (e :: es) t)
    (hbase : attributeBase o name X.env (eval o X.env) = eval o X.env := by rfl)
    (hfew : ((backTo cpos (starEach (e :: es) X.env)).all (fun x => !x.1) && (backToKw cpos (keywordEach [] X.env)).all (fun x => x.1.isSome)
      && decide ((e :: es).length + ([] : List Keyword).length + (if ([] : List Keyword).isEmpty then 0 else 1) < 30)) = true := by rfl)
    (hline : (apos.endLine == cpos.line) = true := by rfl) (hs : starEach (e :: es) X.env = (false, eval e X.env) :: starEach es X.env := by rfl) (hplain : (backTo cpos (starEach es X.env)).any (·.1) = false := by rfl) :
    PE X (.Call (.Attribute o name apos) (e :: es) [] cpos) (tBM K T r to t) := by subst hK; exact pe_bm pa slot hty hm ho ha hbase hfew hline hs hplain
end
section
variable {X : Cx}
end
end L2
namespace Mt
open PySem
def has (t o : Int) : Bool := decide (∀ k : Nat, k < 7 → o / 2 ^ k % 2 ≤ t / 2 ^ k % 2)
end Mt
namespace Mt
open PySem L2
def optV : Option Nat → V
  | none => .non
  | some i => .int i
end Mt
namespace Mt
open PySem L2
def TupAt (H : Hp) (x : V) (p : Nat × Option Nat) : Prop := ∃ t, x = .ref t ∧ H t = some (.tup [.int p.1, optV p.2])
theorem TupAt.same {H H' : Hp} {x : V} {p : Nat × Option Nat} (h : TupAt H x p) (s : Same H H') : TupAt H' x p := let ⟨t, e, h⟩ := h; ⟨t, e, s _ _ h⟩
def optD : Option Nat → PyData
  | none => .none
  | some i => .int i
end Mt
namespace Mt
open PySem L2
def pc (c : Int) : Int := (([1, 2, 4, 8, 16, 32, 64] : List Int).map fun b => c / b % 2).sum
end Mt
namespace Mt
open PySem L2
end Mt
namespace L2
open PySem PySem.Spec PyProof.Rows
section
variable {X : Cx} {pins : List (Addr × Obj)} {σ : St} {H : Hp} {s : Shared} {h' : Heap}
end
section
variable {X : Cx} {k : Nat} {f : Addr} {fd : FuncData} {ps : List Str} {sp : Sp}
theorem vals_back : ∀ {xs : List V} {us : List Value} {j : Nat} {u : Value}, Vals xs us → us[j]? = some u → ∃ v, xs[j]? = some v ∧ RelV v u
  | _, _, _, _, .nil, e => by simp at e
  | _, _, 0, _, .cons r _, e => by simp at e; subst e; exact ⟨_, rfl, r⟩
  | _, _, j + 1, u, .cons _ t, e => by
    obtain ⟨v, h1, h2⟩ := vals_back (j := j) (u := u) t (by simpa using e)
    exact ⟨v, by simpa using h1, h2⟩
end
end L2
namespace L2
open PySem PySem.Spec PyProof.Rows
section
variable {X : Cx} (K : PySem.W.Frag) (hK : X.K = K)
include hK
end
end L2
namespace L2
open PySem PySem.Spec PyProof.Rows
end L2
namespace L2
open PySem PySem.Spec PyProof.Rows
section
variable {X : Cx}
end
section
variable {X : Cx} (K : PySem.W.Frag) (hK : X.K = K)
include hK
end
end L2
namespace L2
open PySem PySem.Spec PyProof.Rows
end L2
namespace Mt
open PySem L2
end Mt
namespace L2
open PySem PySem.Spec PyProof.Rows
def sg (c : Nat) : Str := ⟨#[c]⟩
def Its (x : Str) : It := ⟨fun i _ => i < x.cps.size, fun i H v H' => H' = H ∧ ∃ c, x.cps[i]? = some c ∧ v = .str (sg c), fun i _ => x.cps.size ≤ i⟩
theorem turn_str {P : Program} {w : World} {K : PySem.W.Frag} {tg : Expr} {ty : String} (it : Addr) (x : Str) (t : Tok) (hty : ty = "str_ascii_iterator" ∨ ty = "str_iterator") :
    Turn P w K tg (Its x) [it] it (fun i h => h.IsStrIter it ty x t i) where
  mem := by simp
  obj := fun i h st b hb => by
    obtain rfl : b = it := by simpa using hb
    obtain ⟨o, e, c, d⟩ := st
    exact ⟨o, e, fun v z => by rw [d] at z; cases z⟩
  keep := fun i h h' st k => by
    obtain ⟨o, e, r⟩ := st
    exact ⟨o, k it (by simp) o e, r⟩
  item := by
    intro X hP hw hK hc i pins s σ H E I hf st hg
    subst hP hw hK
    obtain ⟨f0, f1, f2, f3, f4, f5⟩ := hf it (by simp)
    have W : ∀ (Q : Option Value → Shared → Prop), (∀ v h' tk, SignAt x i v → h'.IsStrIter it ty x t (i + 1) → (∀ b o, b ∉ [it] → s.heap.get? b = some o → h'.get? b = some o) → Q (some v) { s with heap := h', toks := tk }) →
        wpAny (model X.prog X.w) X.A (pyNext (.ref it)) Q E s := by
      intro Q hQ
      rcases hty with rfl | rfl
      · exact (Walks.strAscii (prog := X.prog) (w := X.w) (I.ok.hd hc) it x t).item i s Q E hg st hQ
      · exact (Walks.strWide (prog := X.prog) (w := X.w) (I.ok.hd hc) it x t).item i s Q E hg st hQ
    refine W _ fun v h' tk hv st' kk => ?_
    obtain ⟨c, u, hcx, rfl⟩ := hv
    have I1 : Inv X pins σ H { s with heap := h', toks := tk } := I.turned (fun b o hb e => kk b o (by simpa using hb) e) f0 f1 f3 f4 f5
    obtain ⟨o, e, c', d⟩ := id st'
    exact ⟨_, rfl, go_of (s := { s with heap := h', toks := tk }) e c' d (by rcases hty with rfl | rfl <;> decide) ⟨.str (sg c), H, I1, ⟨u, rfl⟩, ⟨rfl, c, hcx, rfl⟩, st', fun b hb => (hf b hb).1⟩⟩
  done := by
    intro X hP hw hK hc i pins s σ H E I hf st hg
    subst hP hw hK
    obtain ⟨f0, f1, f2, f3, f4, f5⟩ := hf it (by simp)
    have hi : x.cps.size ≤ i := hg
    rcases hty with rfl | rfl
    · exact wpAny_pyNext_ascii_end (I.ok.hd hc) st (by simpa using hi) fun h' eb => ⟨rfl, I.turned (t' := s.toks) (fun b o hb e => eb b o hb e) f0 f1 f3 f4 f5⟩
    · exact wpAny_pyNext_wide_end (I.ok.hd hc) st (by simpa using hi) fun h' eb => ⟨rfl, I.turned (t' := s.toks) (fun b o hb e => eb b o hb e) f0 f1 f3 f4 f5⟩
  self := fun A i s Q E st h => by
    rcases hty with rfl | rfl
    · exact wpAny_pyIter_striter_ascii st h
    · exact wpAny_pyIter_striter_wide st h
section
variable {X : Cx} {tg : Expr}
def iStr (tl : TE) : TI := fun σ H R => tl σ H fun v H1 => ∃ x, v = .str x ∧ R (Its x) H1
theorem pi_str {l : Expr} {tl : TE} (hl : PE X l tl) : PI X tg l (iStr tl) := by
  intro pins s σ H R I h
  refine thn (hl pins s σ H _ I h) fun v s1 ⟨y, H1, I1, r1, q1⟩ => ?_
  obtain ⟨x, rfl, q⟩ := q1
  obtain ⟨t, rfl⟩ := r1
  have fin : ∀ (ty : String) (hty : ty = "str_ascii_iterator" ∨ ty = "str_iterator"), PIE X pins σ tg R (.ref s1.heap.objs.size) { s1 with heap := s1.heap.push { cls := .type ty, data := .fields #[.str x t, .int 0 0] } } := by
    intro ty hty
    refine ⟨s1.heap.objs.size, [s1.heap.objs.size], _, _, H1, rfl, I1.kept (t' := s1.toks) fun b o e => Heap.get?_push_of_some _ e, turn_str _ x t hty, ⟨_, Heap.get?_push_size _ rfl, rfl, rfl⟩, fun b hb => ?_, q⟩
    obtain rfl : b = s1.heap.objs.size := by simpa using hb
    exact I1.fpOk (Nat.le_refl _) (I1.hok.fresh (Nat.le_refl _))
  refine wpAny_pyIter_strU ?_
  unfold strIterType
  split
  · exact fin _ (.inl rfl)
  · exact fin _ (.inr rfl)
end
theorem for_str {x : Str} {g : TG} {tb : TS} {D : Ends} {σ : St} {H : Hp} (Pv : Nat → St → Hp → Prop) (h0 : Pv 0 σ H)
    (hs : ∀ i c σ H, x.cps[i]? = some c → i < x.cps.size → Pv i σ H → g (.str (sg c)) σ H fun σ2 H2 => tb { D with nx := Pv (i + 1), ct := Pv (i + 1), bk := D.nx } σ2 H2) (hd : ∀ σ H, Pv x.cps.size σ H → D.nx σ H) :
    ∃ W : Nat → Nat → St → Hp → Prop, (∃ m, W 0 m σ H) ∧ ∀ i m σ H, W i m σ H →
      ((Its x).stop i H ∧ D.nx σ H) ∨ ((Its x).go i H ∧ ∃ N : St → Hp → Prop, (∀ σ' H', N σ' H' → ∃ m', m' < m ∧ W (i + 1) m' σ' H') ∧ ∀ v H', (Its x).yld i H v H' → g v σ H' fun σ2 H2 => tb { D with nx := N, ct := N, bk := D.nx } σ2 H2) := by
  refine ⟨fun i m σ H => m = x.cps.size - i ∧ i ≤ x.cps.size ∧ Pv i σ H, ⟨x.cps.size, by simp, Nat.zero_le _, h0⟩, ?_⟩
  rintro i m σ H ⟨rfl, hi, p⟩
  by_cases hlt : i < x.cps.size
  · refine .inr ⟨hlt, Pv (i + 1), fun σ' H' p' => ⟨x.cps.size - (i + 1), by omega, rfl, hlt, p'⟩, fun v H' y => ?_⟩
    obtain ⟨rfl, c, hc, rfl⟩ := y
    exact hs i c σ _ hc hlt p
  · have e : i = x.cps.size := by omega
    subst e
    exact .inl ⟨Nat.le_refl _, hd σ H p⟩
theorem comp_str {x : Str} {g : TG} {tc : TT} {te : TE} {D : Addr} {σ : St} {H : Hp} {Q : VK} (Pv : Nat → List V → St → Hp → Prop) (h0 : Pv 0 [] σ (upd H D (.lst [])))
    (hs : ∀ i c ys σ H, x.cps[i]? = some c → i < x.cps.size → Pv i ys σ H → g (.str (sg c)) σ H fun σ2 H4 => tc σ2 H4 fun b H5 => if b = true then te σ2 H5 (CNext D x.cps.size i Pv σ2) else CSkip x.cps.size i Pv σ2 H5)
    (hd : ∀ ys σ H, Pv x.cps.size ys σ H → Q (.ref D) H) : CompW (Its x) g tc te D Q σ H := by
  refine ⟨fun i m σ H => m = x.cps.size - i ∧ i ≤ x.cps.size ∧ ∃ ys, Pv i ys σ H, ⟨x.cps.size, by simp, Nat.zero_le _, [], h0⟩, ?_⟩
  rintro i m σ H ⟨rfl, hi, ys, p⟩
  by_cases hlt : i < x.cps.size
  · refine .inr ⟨hlt, fun v H' y => ?_⟩
    obtain ⟨rfl, c, hc, rfl⟩ := y
    exact hs i c ys σ _ hc hlt p
  · have e : i = x.cps.size := by omega
    subst e
    exact .inl ⟨Nat.le_refl _, hd ys σ H p⟩
section
variable {X : Cx}
theorem sl_str : SlR X (fun x lo hi H Q => ∃ z, x = .str z ∧ z.length ≤ sizeLine ∧ Q (.str (Txt.slice z lo hi)) H) := by
  intro pins s σ H x v vl vu lo hi sl Q I rx hs pl pu h
  obtain ⟨z, rfl, hz, q⟩ := h
  obtain ⟨t, rfl⟩ := rx
  refine ⟨"str", _, F.slot_str_getitem.lookup, typeIs_str _ _ _, ?_⟩
  have fin : ∀ (l u : Option (Int × Tok)), s.heap.IsSlice sl l u none → l.map (·.1) = lo → u.map (·.1) = hi → wpAny (model X.prog X.w) X.A (getItem (.str z t) (.ref sl)) (EP X pins σ Q) X.xe s := by
    rintro l u h1 rfl rfl
    refine wpAny_getItem_str_slice (l := l) (u := u) (st := none) h1 rfl ?_
    exact post_val_or_str ⟨Nat.le_trans (Txt.slice_le z _ _) hz, fun t' k => ⟨.str _, H, I.tok _, ⟨_, rfl⟩, q⟩⟩
  obtain ⟨o, e, c, d⟩ := hs
  cases pl with
  | none =>
    cases pu with
    | none => exact fin none none ⟨o, e, c, d⟩ rfl rfl
    | int j tj => exact fin none (some (j, tj)) ⟨o, e, c, d⟩ rfl rfl
  | int i ti =>
    cases pu with
    | none => exact fin (some (i, ti)) none ⟨o, e, c, d⟩ rfl rfl
    | int j tj => exact fin (some (i, ti)) (some (j, tj)) ⟨o, e, c, d⟩ rfl rfl
theorem strsAre_of : ∀ {ys : List Str} {us : List Value}, Vals (ys.map V.str) us → StrsAre us ys
  | [], _, r => by cases r; exact .nil
  | y :: ys, _, r => by
    cases r with
    | cons r1 r2 =>
      obtain ⟨t, rfl⟩ := r1
      exact .cons y t (strsAre_of r2)
def rJoin (K : PySem.W.Frag) : V → List V → Hp → VK → Prop := fun x xs H Q => ∃ (z : Str) (p : Addr) (ys : List Str), x = .str z ∧ xs = [.ref p] ∧ SqL K H p (ys.map V.str) ∧ (ys.map (·.length)).sum + ys.length * z.length ≤ 16777216 ∧ Q (.str (Txt.join z ys)) H
theorem mt_join : MtR X "str.join" (rJoin X.K) := by
  intro pins s σ H x xs v us Q I rx rs h
  obtain ⟨z, p, ys, rfl, rfl, hq, hb, q⟩ := h
  obtain ⟨t, rfl⟩ := rx
  obtain ⟨u, rfl, ru⟩ := vals1 rs
  cases ru
  obtain ⟨its, rv, pl, hz⟩ := I.list hq
  exact join_list pl.isList (by simpa using strsAre_of rv) hb fun t' k => ⟨.str _, H, I.tok _, ⟨_, rfl⟩, q⟩
def rAll (K : PySem.W.Frag) : List V → Hp → VK → Prop := fun xs H Q => ∃ (p : Addr) (bs : List Bool), xs = [.ref p] ∧ SqL K H p (bs.map V.bl) ∧ Q (.bl (bs.all id)) H
theorem call_all (hc : X.calm = true) : CallR X (.builtin "all") (rAll X.K) := by
  intro pins s σ H xs us Q I r h
  obtain ⟨p, bs, rfl, hq, q⟩ := h
  obtain ⟨u, rfl, ru⟩ := vals1 r
  cases ru
  obtain ⟨its, rv, pl, hz⟩ := I.list hq
  have hl : its.length = bs.length := by rw [← rv.length, List.length_map]
  obtain ⟨ol, hol, hoc⟩ := id pl.isList
  have hlt : p < s.heap.objs.size := Heap.lt_size hol
  refine call_all_walk (wpAny_pyIter_list pl.isList ?_)
  refine ⟨s.heap.objs.size, _, _, _, _, _, fun i => bs.getD i false, rfl, Walks.list (A := X.A.in1) (I.ok.hd hc) s.heap.objs.size p (Nat.ne_of_lt hlt) its.toArray, ⟨⟨_, Heap.get?_push_size _ rfl, rfl, rfl⟩, ol, Heap.get?_push_of_some _ hol, hoc⟩, fun i v s' Q' E' hv hQ => ?_, fun h' tk hk => ?_⟩
  · have hv' : its[i]? = some v := by simpa using hv
    obtain ⟨y, hy, ry⟩ := vals_back rv hv'
    rw [List.getElem?_map] at hy
    cases e : bs[i]? with
    | none => rw [e] at hy; cases hy
    | some b =>
      rw [e] at hy
      have hy' : V.bl b = y := Option.some.inj hy
      subst hy'
      cases ry
      have hQ : Q' (bs.getD i false) s' := hQ
      rw [List.getD_eq_getElem?_getD, e] at hQ
      exact wpAny_truthy_bool hQ
  · have e : (List.range its.toArray.size).all (fun i => bs.getD i false) = bs.all id := by
      rw [List.size_toArray, hl, Bool.eq_iff_iff, List.all_eq_true, List.all_eq_true]
      constructor
      · intro h b hb
        obtain ⟨i, hi, e⟩ := List.getElem_of_mem hb
        have := h i (List.mem_range.mpr hi)
        rw [List.getD_eq_getElem?_getD, List.getElem?_eq_getElem hi, e] at this
        exact this
      · intro h i hi
        have hi := List.mem_range.mp hi
        rw [List.getD_eq_getElem?_getD, List.getElem?_eq_getElem hi]
        exact h _ (List.getElem_mem hi)
    rw [e]
    exact ⟨.bl _, H, I.kept (fun b o e => hk b o (by simp; exact Nat.ne_of_lt (Heap.lt_size e)) (Heap.get?_push_of_some _ e)), rfl, q⟩
end
section
variable {X : Cx} (K : PySem.W.Frag) (hK : X.K = K)
include hK
theorem kall (hc : X.calm = true) : CallR X (.builtin "all") (rAll K) := by subst hK; exact call_all hc
theorem kmt_join : MtR X "str.join" (rJoin K) := by subst hK; exact mt_join
end
end L2
namespace Cs
open PySem L2
structure Row where
  s : Str
  w : Int
  t : Int
  n : Int
abbrev rowV (r : Row) : List V := [.str r.s, .int r.w, .int r.t, .int r.n]
def RowAt (H : Hp) (v : V) (r : Row) : Prop := ∃ a, v = .ref a ∧ H a = some (.tup (rowV r))
theorem RowAt.same {H H' : Hp} {v : V} {r : Row} (h : RowAt H v r) (s : Same H H') : RowAt H' v r := let ⟨a, e, h⟩ := h; ⟨a, e, s _ _ h⟩
theorem rows_same {H H' : Hp} {xs : List V} {rs : List Row} (h : Paired (RowAt H) xs rs) (s : Same H H') : Paired (RowAt H') xs rs := Paired.mapP h fun _ _ z => z.same s
theorem rows_upd {H : Hp} {l : Addr} {o ys : HO} {xs : List V} {rs : List Row} (h : Paired (RowAt H) xs rs) (hl : H l = some ys) (hn : ∀ z, ys ≠ .tup z) : Paired (RowAt (upd H l o)) xs rs :=
  Paired.mapP h fun x p ⟨t, e, ht⟩ => ⟨t, e, by rw [upd_ne (ne_of ht hl fun z => hn _ z.symm)]; exact ht⟩
theorem rows_len {H : Hp} {xs : List V} {rs : List Row} (h : Paired (RowAt H) xs rs) : xs.length = rs.length := Paired.length h
theorem pd_get {α β : Type} {F : α → β → Prop} : ∀ {xs : List α} {ys : List β} {i : Nat} {x : α}, Paired F xs ys → xs[i]? = some x → ∃ y, ys[i]? = some y ∧ F x y
  | _, _, _, _, .nil, e => by simp at e
  | _, _, 0, _, .cons r _, e => by simp at e; subst e; exact ⟨_, rfl, r⟩
  | _, _, i + 1, x, .cons _ t, e => by
    obtain ⟨p, h1, h2⟩ := pd_get (i := i) (x := x) t (by simpa using e)
    exact ⟨p, by simpa using h1, h2⟩
def CaseAt (K : PySem.W.Frag) (H : Hp) (l : Addr) (rs : List Row) : Prop := ∃ xs, SqL K H l xs ∧ Paired (RowAt H) xs rs
theorem CaseAt.same {K : PySem.W.Frag} {H H' : Hp} {l : Addr} {rs : List Row} (h : CaseAt K H l rs) (s : Same H H') : CaseAt K H' l rs := let ⟨xs, h1, h2⟩ := h; ⟨xs, s.seq h1, rows_same h2 s⟩
def place (rs : List Row) (x : Str) : Option Nat := rs.findIdx? fun r => decide (r.s = x)
theorem place_some {rs : List Row} {x : Str} {i : Nat} {r : Row} (h : rs[i]? = some r) (hx : r.s = x) (hj : ∀ (j : Nat) r', j < i → rs[j]? = some r' → r'.s ≠ x) : place rs x = some i := by
  obtain ⟨hi, e⟩ := List.getElem?_eq_some_iff.mp h
  unfold place
  rw [List.findIdx?_eq_some_iff_getElem]
  refine ⟨hi, by rw [e]; exact decide_eq_true hx, fun j hji => ?_⟩
  have := hj j rs[j] hji (List.getElem?_eq_getElem (by omega))
  rw [decide_eq_false this]
  exact Bool.false_ne_true
theorem place_none {rs : List Row} {x : Str} (hj : ∀ (j : Nat) r, j < rs.length → rs[j]? = some r → r.s ≠ x) : place rs x = none := by
  unfold place
  rw [List.findIdx?_eq_none_iff]
  intro r hr
  obtain ⟨j, hjl, e⟩ := List.getElem_of_mem hr
  exact decide_eq_false (hj j r hjl (by rw [List.getElem?_eq_getElem hjl, e]))
theorem strV {x y : Str} : decide (V.str x = V.str y) = decide (x = y) := by
  rw [decide_eq_decide]
  exact ⟨fun h => V.str.inj h, fun h => by rw [h]⟩
def rowD (r : Row) : PyData := .tuple [.str r.s, .int r.w, .int r.t, .int r.n]
theorem denL_rows {K : PySem.W.Frag} {H : Hp} : ∀ {xs : List V} {rs : List Row}, Paired (RowAt H) xs rs → (∀ r ∈ rs, PyData.canLay0 (.str r.s) = true) → DenL K H xs (rs.map rowD)
  | _, _, .nil, _ => .nil
  | _, _, .cons ⟨t, e, h⟩ r, c => by
    subst e
    exact .cons (.tup (SqT.of h) (.cons (.str _ (c _ List.mem_cons_self)) (.cons (.int _) (.cons (.int _) (.cons (.int _) .nil))))) (denL_rows r fun x hx => c x (List.mem_cons_of_mem _ hx))
theorem nb_rows : ∀ rs : List Row, nbL (rs.map rowD) = true
  | [] => rfl
  | r :: rs => by
    show (nb (rowD r) && nbL (rs.map rowD)) = true
    rw [nb_rows rs]
    rfl
theorem depth_rows : ∀ rs : List Row, PyData.depthAll (rs.map rowD) ≤ 1
  | [] => Nat.zero_le _
  | r :: rs => Nat.max_le.mpr ⟨Nat.le_refl _, depth_rows rs⟩
def signs : List Nat := "abcdefghijklmnopqrstuvwxyz.,-'".toList.map Char.toNat
theorem signs_cps : (Str.ofString "abcdefghijklmnopqrstuvwxyz.,-'").cps.toList = signs := by decide +kernel
end Cs
namespace L2
open PySem PySem.Spec PyProof.Rows
section
variable {X : Cx}
end
end L2
namespace Mt
open PySem L2
end Mt
namespace Mt
open PySem L2
end Mt
namespace Mt
open PySem L2
end Mt
namespace Mt
open PySem L2
def sb (p : Bool) : Int := if p then 1 else 0
end Mt
namespace L2
open PySem PySem.Spec PyProof.Rows
section
variable {κ : Type} [DecidableEq κ]
def valV (kvs : List (κ × V)) (k : κ) : Option V := (kvs.find? fun kv => decide (kv.1 = k)).map (·.2)
def putK (kvs : List (κ × V)) (k : κ) (v : V) : List (κ × V) :=
  if (kvs.any fun kv => decide (kv.1 = k)) = true then kvs.map (fun kv => if kv.1 = k then (kv.1, v) else kv) else kvs ++ [(k, v)]
theorem valV_pos {p : κ × V} {r : List (κ × V)} {k : κ} (e : p.1 = k) : valV (p :: r) k = some p.2 := by simp [valV, List.find?_cons, e]
theorem valV_neg {p : κ × V} {r : List (κ × V)} {k : κ} (e : ¬ p.1 = k) : valV (p :: r) k = valV r k := by simp [valV, List.find?_cons, e]
theorem valV_any (k : κ) : ∀ kvs : List (κ × V), (kvs.any fun kv => decide (kv.1 = k)) = (valV kvs k).isSome
  | [] => rfl
  | p :: r => by
    rw [List.any_cons]
    by_cases e : p.1 = k
    · simp only [valV_pos e, decide_eq_true e, Bool.true_or, Option.isSome_some]
    · rw [valV_neg e, decide_eq_false e, Bool.false_or]; exact valV_any k r
theorem RelO.isSome_eq {o : Option V} {u : Option Value} (r : RelO o u) : o.isSome = u.isSome := by
  cases o with
  | none => cases u with
    | none => rfl
    | some _ => exact (show False from r).elim
  | some _ => cases u with
    | none => exact (show False from r).elim
    | some _ => rfl
theorem RelO.getD {o : Option V} {u : Option Value} {d : V} {d' : Value} (r : RelO o u) (rd : RelV d d') : RelV (o.getD d) (u.getD d') := by
  cases o with
  | none => cases u with
    | none => exact rd
    | some _ => exact (show False from r).elim
  | some _ => cases u with
    | none => exact (show False from r).elim
    | some _ => exact r
theorem KV.val {kvs : List (κ × V)} {vs : List (κ × Value)} (r : KV kvs vs) (k : κ) : RelO (valV kvs k) (valueAt vs k) := by
  unfold KV at r
  induction r with
  | nil => exact True.intro
  | @cons p q ps qs h t ih =>
    obtain ⟨h1, h2⟩ := h
    by_cases e : p.1 = k
    · have e' : q.1 = k := h1.symm.trans e
      have b : valueAt (q :: qs) k = some q.2 := by simp [valueAt, List.find?_cons, e']
      rw [valV_pos e, b]; exact h2
    · have e' : ¬ q.1 = k := fun z => e (h1.trans z)
      have b : valueAt (q :: qs) k = valueAt qs k := by simp [valueAt, List.find?_cons, e']
      rw [valV_neg e, b]; exact ih
theorem KV.any {kvs : List (κ × V)} {vs : List (κ × Value)} (r : KV kvs vs) (k : κ) : (kvs.any fun kv => decide (kv.1 = k)) = vs.any fun kv => decide (kv.1 = k) := by
  unfold KV at r
  induction r with
  | nil => rfl
  | cons h t ih => rw [List.any_cons, List.any_cons, ih, h.1]
theorem KV.repl {kvs : List (κ × V)} {vs : List (κ × Value)} (r : KV kvs vs) (k : κ) {y : V} {u : Value} (ry : RelV y u) :
    KV (kvs.map fun kv => if kv.1 = k then (kv.1, y) else kv) (vs.map fun kv => if kv.1 = k then (kv.1, u) else kv) := by
  unfold KV at r ⊢
  induction r with
  | nil => exact .nil
  | @cons p q ps qs h t ih =>
    rw [List.map_cons, List.map_cons]
    refine .cons ?_ ih
    obtain ⟨h1, h2⟩ := h
    by_cases e : p.1 = k
    · rw [if_pos e, if_pos (h1.symm.trans e)]; exact ⟨h1, ry⟩
    · rw [if_neg e, if_neg (fun z => e (h1.trans z))]; exact ⟨h1, h2⟩
theorem KV.put {kvs : List (κ × V)} {vs : List (κ × Value)} (r : KV kvs vs) (k : κ) {y : V} {u : Value} (ry : RelV y u) : KV (putK kvs k y) (stored vs k u) := by
  unfold putK stored
  rw [r.any k]
  by_cases e : (vs.any fun kv => decide (kv.1 = k)) = true
  · rw [if_pos e, if_pos e]; exact r.repl k ry
  · rw [if_neg e, if_neg e]; exact Paired.snoc r ⟨rfl, ry⟩
theorem KV.length {kvs : List (κ × V)} {vs : List (κ × Value)} (r : KV kvs vs) : kvs.length = vs.length := Paired.length r
end
abbrev KT (H : Hp) : List (List Key × V) → List (List Key × Addr × Value) → Prop := Paired fun p q => p.1 = q.1 ∧ H q.2.1 = some (.tup (p.1.map kV)) ∧ RelV p.2 q.2.2
theorem KT.val {H : Hp} {kvs : List (List Key × V)} {xs : List (List Key × Addr × Value)} (r : KT H kvs xs) (k : List Key) : RelO (valV kvs k) ((atKey xs k).map (·.2)) := by
  induction r with
  | nil => exact True.intro
  | @cons p q ps qs h t ih =>
    obtain ⟨h1, _, h2⟩ := h
    by_cases e : p.1 = k
    · have e' : q.1 = k := h1.symm.trans e
      have b : atKey (q :: qs) k = some q.2 := by simp [atKey, List.find?_cons, e']
      rw [valV_pos e, b]; exact h2
    · have e' : ¬ q.1 = k := fun z => e (h1.trans z)
      have b : atKey (q :: qs) k = atKey qs k := by simp [atKey, List.find?_cons, e']
      rw [valV_neg e, b]; exact ih
theorem KT.repl {H : Hp} {kvs : List (List Key × V)} {xs : List (List Key × Addr × Value)} (r : KT H kvs xs) (k : List Key) {y : V} {u : Value} (ry : RelV y u) :
    KT H (kvs.map fun kv => if kv.1 = k then (kv.1, y) else kv) (xs.map (putAt k u)) := by
  induction r with
  | nil => exact .nil
  | @cons p q ps qs h t ih =>
    rw [List.map_cons, List.map_cons]
    refine .cons ?_ ih
    obtain ⟨h1, h2, h3⟩ := h
    unfold putAt
    by_cases e : p.1 = k
    · rw [if_pos e, if_pos (h1.symm.trans e)]; exact ⟨h1, h2, ry⟩
    · rw [if_neg e, if_neg (fun z => e (h1.trans z))]; exact ⟨h1, h2, h3⟩
theorem KT.put {H : Hp} {kvs : List (List Key × V)} {xs : List (List Key × Addr × Value)} (r : KT H kvs xs) (k : List Key) {b : Addr} {y : V} {u : Value} (hb : H b = some (.tup (k.map kV))) (ry : RelV y u) :
    KT H (putK kvs k y) (storedH xs k b u) := by
  have e : (kvs.any fun kv => decide (kv.1 = k)) = (atKey xs k).isSome := by
    rw [valV_any, (r.val k).isSome_eq, Option.isSome_map]
  unfold putK storedH
  rw [e]
  by_cases q : (atKey xs k).isSome = true
  · rw [if_pos q, if_pos q]; exact r.repl k ry
  · rw [if_neg q, if_neg q]; exact Paired.snoc r ⟨rfl, hb, ry⟩
theorem KT.keeps {H H' : Hp} {kvs : List (List Key × V)} {xs : List (List Key × Addr × Value)} (r : KT H kvs xs) (ht : ∀ b ys, H b = some (.tup ys) → H' b = some (.tup ys)) : KT H' kvs xs :=
  Paired.mapP r fun _ _ z => ⟨z.1, ht _ _ z.2.1, z.2.2⟩
section
variable {P : Program} {w : World} {H : Hp} {h : Heap} {a : Addr}
end
def DGet (H : Hp) (a : Addr) (y : V) (r : Option V) : Prop :=
  (∃ kvs k, Rd H a (.dK kvs) ∧ y = kV k ∧ r = valV kvs k) ∨ ∃ kvs k b, Rd H a (.dT kvs) ∧ y = .ref b ∧ H b = some (.tup (k.map kV)) ∧ r = valV kvs k
def DPut (H : Hp) (a : Addr) (y v : V) (H' : Hp) : Prop :=
  (∃ kvs k, H a = some (.dK kvs) ∧ y = kV k ∧ kvs.length < sizeLine ∧ H' = upd H a (.dK (putK kvs k v))) ∨
  ∃ kvs k b, H a = some (.dT kvs) ∧ y = .ref b ∧ H b = some (.tup (k.map kV)) ∧ kvs.length < sizeLine ∧ H' = upd H a (.dT (putK kvs k v))
theorem DGet.k {H : Hp} {a : Addr} {kvs : List (Key × V)} {k : Key} (e : H a = some (.dK kvs)) : DGet H a (kV k) (valV kvs k) := .inl ⟨kvs, k, .inl e, rfl, rfl⟩
theorem DGet.t {H : Hp} {a b : Addr} {kvs : List (List Key × V)} {k : List Key} (e : H a = some (.dT kvs)) (eb : H b = some (.tup (k.map kV))) : DGet H a (.ref b) (valV kvs k) := .inr ⟨kvs, k, b, .inl e, rfl, eb, rfl⟩
theorem DPut.k {H : Hp} {a : Addr} {kvs : List (Key × V)} {k : Key} {v : V} (e : H a = some (.dK kvs)) (hl : kvs.length < sizeLine) : DPut H a (kV k) v (upd H a (.dK (putK kvs k v))) := .inl ⟨kvs, k, e, rfl, hl, rfl⟩
theorem DPut.t {H : Hp} {a b : Addr} {kvs : List (List Key × V)} {k : List Key} {v : V} (e : H a = some (.dT kvs)) (eb : H b = some (.tup (k.map kV))) (hl : kvs.length < sizeLine) :
    DPut H a (.ref b) v (upd H a (.dT (putK kvs k v))) := .inr ⟨kvs, k, b, e, rfl, eb, hl, rfl⟩
section
variable {X : Cx} {pins : List (Addr × Obj)} {σ : St} {H : Hp} {s : Shared} {a : Addr} {y v : V} {u r : Value} {o : Option V} {A : Around} {E : Value → Shared → Prop}
end
section
variable {X : Cx} {pins : List (Addr × Obj)} {σ : St} {H : Hp} {s : Shared} {a : Addr} {kvs : List (Key × V)} {k : Key} {u : Value} {A : Around} {E : Value → Shared → Prop}
end
section
variable {X : Cx} {o i e value : Expr} {pos pos' tpos : Pos} {td ty tv : TE}
end
section
variable {X : Cx} {pos : Pos}
end
section
variable {X : Cx} {pins : List (Addr × Obj)} {σ : St} {H : Hp} {s : Shared} {a : Addr} {y d : V} {u r : Value} {o : Option V} {A : Around} {E : Value → Shared → Prop}
end
section
variable {X : Cx} {o e f : Expr} {apos cpos : Pos} {td ty tx : TE}
end
section
variable {X : Cx} {pins : List (Addr × Obj)} {σ : St} {H : Hp} {s : Shared} {a : Addr} {kvs : List (Key × V)} {A : Around} {E : Value → Shared → Prop}
end
section
variable {X : Cx} {pins : List (Addr × Obj)} {σ : St} {H : Hp} {s : Shared} {a : Addr} {y : V} {u : Value} {A : Around} {E : Value → Shared → Prop}
end
end L2
namespace L2
open PySem PySem.Spec PyProof.Rows
section
variable {X : Cx}
end
section
variable {κ : Type} [DecidableEq κ]
end
end L2
namespace Cs
open PySem L2
end Cs
namespace L2
open PySem
theorem bt_min : bootBuiltins "min" = some (.builtin "min") := by decide +kernel
end L2
namespace L2
open PySem PySem.Spec PyProof.Rows
def Least (g : Nat → Int) (n : Nat) (m : Int) : Prop := (∃ i, i < n ∧ g i = m) ∧ ∀ i, i < n → m ≤ g i
theorem Least.one {g : Nat → Int} : Least g 1 (g 0) := ⟨⟨0, by omega, rfl⟩, fun i hi => by
  have e : i = 0 := by omega
  subst e
  exact Int.le_refl _⟩
theorem Least.yes {g : Nat → Int} {n : Nat} {m : Int} (h : Least g n m) (hl : g n < m) : Least g (n + 1) (g n) := ⟨⟨n, by omega, rfl⟩, fun i hi => by
  by_cases e : i = n
  · subst e; exact Int.le_refl _
  · have := h.2 i (by omega)
    omega⟩
theorem Least.no {g : Nat → Int} {n : Nat} {m : Int} (h : Least g n m) (hl : ¬ g n < m) : Least g (n + 1) m := ⟨by obtain ⟨i, hi, e⟩ := h.1; exact ⟨i, by omega, e⟩, fun i hi => by
  by_cases e : i = n
  · subst e; omega
  · exact h.2 i (by omega)⟩
section
variable {P : Program} {w : World} {A : Around} {R : Result → Shared → Prop} {it : Addr} {fp wr : List Addr} {n : Nat} {Pr : Nat → Value → Prop} {St : Nat → Heap → Prop}
end
section
variable {P : Program} {w : World} {A : Around} {E : Value → Shared → Prop} {s : Shared}
end
section
variable {X : Cx}
end
section
variable {X : Cx} (K : PySem.W.Frag) (hK : X.K = K)
include hK
end
end L2
namespace L2
open PySem PySem.Spec PyProof.Rows
section
variable {X : Cx} {a b : Expr} {rest : List Expr} {pos : Pos} {ta tb : TE}
end
section
variable {X : Cx} {a b : Expr} {rest : List Expr} {pos : Pos} {ta tb : TE} (K : PySem.W.Frag) (hK : X.K = K)
include hK
end
end L2
namespace Ln
open PySem L2
def abc : List Nat := [97, 98, 99, 100, 101, 102]
theorem abc_nd : (abc.map sg).Nodup := by decide +kernel
structure AbcCase (rs : List Cs.Row) : Prop where
  sg : (rs.map fun r => r.s) = abc.map sg
  wd : ∀ r ∈ rs, 1 ≤ r.w ∧ r.w ≤ 100
theorem AbcCase.len {rs : List Cs.Row} (h : AbcCase rs) : rs.length = 6 := by
  have := congrArg List.length h.sg
  rwa [List.length_map, List.length_map] at this
theorem AbcCase.nd {rs : List Cs.Row} (h : AbcCase rs) : (rs.map fun r => r.s).Nodup := by rw [h.sg]; exact abc_nd
theorem AbcCase.place {rs : List Cs.Row} (h : AbcCase rs) {c : Nat} (hc : c ∈ abc) : (Cs.place rs (L2.sg c)).isSome = true := by
  have h1 : L2.sg c ∈ rs.map fun r => r.s := by rw [h.sg]; exact List.mem_map_of_mem hc
  obtain ⟨r, hr, e⟩ := List.mem_map.mp h1
  unfold Cs.place
  rw [List.findIdx?_isSome, List.any_eq_true]
  exact ⟨r, hr, decide_eq_true e⟩
theorem denL_texts {K : PySem.W.Frag} {H : Hp} : ∀ {ws : List Str}, (∀ x ∈ ws, PyData.canLay0 (.str x) = true) → DenL K H (ws.map V.str) (ws.map PyData.str)
  | [], _ => .nil
  | x :: ws, h => .cons (.str _ (h x List.mem_cons_self)) (denL_texts fun y hy => h y (List.mem_cons_of_mem _ hy))
end Ln
namespace L2
open PySem PySem.Spec PyProof.Rows
section
variable {X : Cx} {tg : Expr}
end
end L2
namespace L2
open PySem PySem.Spec PyProof.Rows
section
variable {X : Cx} {pins : List (Addr × Obj)} {σ : St} {H : Hp} {s : Shared} {h' : Heap}
end
section
variable {X : Cx} {es : List Expr} {k1 : Nat} {tp : Pos}
end
end L2
namespace L2
open PySem PySem.Spec PyProof.Rows
section
variable {X : Cx} (K : PySem.W.Frag) (hK : X.K = K)
include hK
end
end L2
namespace Lns
open PySem L2
def LineN (no : Addr) (H : Hp) (v : V) (ws : List Str) : Prop := ∃ p, v = .ref p ∧ p ≠ no ∧ H p = some (.lst (ws.map V.str))
theorem LineN.same {no : Addr} {H H' : Hp} {v : V} {ws : List Str} (h : LineN no H v ws) (s : Same H H') : LineN no H' v ws := let ⟨p, e, n, h⟩ := h; ⟨p, e, n, s _ _ h⟩
theorem pd_take {α β : Type} {F : α → β → Prop} : ∀ {xs : List α} {ys : List β} (n : Nat), Paired F xs ys → Paired F (xs.take n) (ys.take n)
  | _, _, 0, _ => .nil
  | _, _, _ + 1, .nil => .nil
  | _, _, n + 1, .cons r t => .cons r (pd_take n t)
end Lns
namespace L2
open PySem PySem.Spec PyProof.Rows PySem.Builtin PySem.Builtin.Str
section
variable {X : Cx}
theorem vals_strs : ∀ (tk : Nat) (xs : List Str), Vals (xs.map V.str) (strsFrom tk xs)
  | _, [] => .nil
  | tk, x :: r => .cons ⟨tk, rfl⟩ (vals_strs (tk + 1) r)
theorem parts_len (x y : Str) : (partsBetween x (occurrences x y 0 x.length (x.length + 1)) y.length).length ≤ x.length + 2 := by
  unfold partsBetween
  have := StrLaws.occ_length_le x y 0 x.length (x.length + 1)
  simp only [List.length_map, List.length_zip, List.length_cons, List.length_append]
  omega
theorem split_len (x y : Str) : (Txt.split x y).length ≤ x.length + 2 := by
  have := parts_len x y
  unfold Txt.split
  split
  · show 1 ≤ _
    omega
  · split
    · show 1 ≤ _
      omega
    · exact this
def rSplit : V → List V → Hp → VK → Prop := fun x xs H Q => ∃ z y, x = .str z ∧ xs = [.str y] ∧ 1 ≤ y.length ∧ z.length ≤ 90000 ∧ ∀ D, H D = none → Q (.ref D) (upd H D (.lst ((Txt.split z y).map V.str)))
theorem mt_split : MtR X "str.split" rSplit := by
  intro pins s σ H v0 xs v us Q I rx rs h
  obtain ⟨x, y, rfl, rfl, hy1, hx, q⟩ := h
  obtain ⟨t, rfl⟩ := rx
  obtain ⟨u0, rfl, ru⟩ := vals1 rs
  obtain ⟨u, rfl⟩ := ru
  have hy : (y.length == 0) = false := by
    rw [beq_eq_false_iff_ne]
    omega
  have hl := parts_len x y
  have hq := q s.heap.objs.size I.fresh
  have hz : (Txt.split x y).length ≤ sizeLine := Nat.le_trans (split_len x y) (smallL (by omega))
  cases h1 : (decide (x.length < y.length) || decide (strKind x < strKind y))
  · cases hf : (occurrences x y 0 x.length (x.length + 1)).isEmpty
    · have e : Txt.split x y = partsBetween x (occurrences x y 0 x.length (x.length + 1)) y.length := by
        unfold Txt.split
        rw [if_neg (ne_true_of_eq_false h1), if_neg (ne_true_of_eq_false hf)]
      rw [e] at hq hz
      refine call_meets F.slot_str_split (typeIs_str _ _ _) F.entry_str_split (F.args_str_split_2 _ _) (meets_str_split_sep x y t u h1 hy hf (smallL (by omega)) hz) ?_
      exact ⟨.ref _, _, I.lnew (vals_strs _ _) (by rw [List.length_map]; exact hz), rfl, hq⟩
    · have e : Txt.split x y = [x] := by
        unfold Txt.split
        rw [if_neg (ne_true_of_eq_false h1), if_pos hf]
      rw [e] at hq
      exact call_meets F.slot_str_split (typeIs_str _ _ _) F.entry_str_split (F.args_str_split_2 _ _) (meets_str_split_not_found x y t u h1 hy hf)
        ⟨.ref _, _, I.lnew (t' := s.toks) (its := [.str x t]) (ys := [.str x]) (.cons ⟨t, rfl⟩ .nil) (by show 1 ≤ sizeLine; exact smallL (by omega)), rfl, hq⟩
  · have e : Txt.split x y = [x] := by
      unfold Txt.split
      rw [if_pos h1]
    rw [e] at hq
    exact call_meets F.slot_str_split (typeIs_str _ _ _) F.entry_str_split (F.args_str_split_2 _ _) (meets_str_split_cannot_occur x y t u h1)
      ⟨.ref _, _, I.lnew (t' := s.toks) (its := [.str x t]) (ys := [.str x]) (.cons ⟨t, rfl⟩ .nil) (by show 1 ≤ sizeLine; exact smallL (by omega)), rfl, hq⟩
end
end L2
namespace Lns
open PySem L2
theorem str_ext {x y : Str} (h : x.cps.toList = y.cps.toList) : x = y := Str.ext' (Array.toList_inj.mp h)
theorem app_list (x y : Str) : (x ++ y).cps.toList = x.cps.toList ++ y.cps.toList := by rw [Str.cps_append, Array.toList_append]
theorem free_eq {c : Nat} : ∀ {a b r s : List Nat}, c ∉ a → c ∉ b → a ++ c :: r = b ++ c :: s → a = b ∧ r = s
  | [], [], _, _, _, _, h => ⟨rfl, (List.cons.inj h).2⟩
  | [], y :: b, _, _, _, hb, h => absurd ((List.cons.inj h).1 ▸ List.mem_cons_self) hb
  | x :: a, [], _, _, ha, _, h => absurd ((List.cons.inj h).1 ▸ List.mem_cons_self) ha
  | x :: a, y :: b, _, _, ha, hb, h => by
    obtain ⟨h1, h2⟩ := List.cons.inj h
    obtain ⟨h3, h4⟩ := free_eq (fun z => ha (List.mem_cons_of_mem _ z)) (fun z => hb (List.mem_cons_of_mem _ z)) h2
    exact ⟨by rw [h1, h3], h4⟩
theorem free_ne {c : Nat} {a b r : List Nat} (ha : c ∉ a) (h : a = b ++ c :: r) : False := ha (h ▸ List.mem_append_right _ List.mem_cons_self)
theorem join_uniq (c : Nat) : ∀ (ps qs : List Str), ps ≠ [] → qs ≠ [] → (∀ p ∈ ps, c ∉ p.cps.toList) → (∀ p ∈ qs, c ∉ p.cps.toList) → Str.join ⟨#[c]⟩ ps = Str.join ⟨#[c]⟩ qs → ps = qs
  | [], _, h, _, _, _, _ => absurd rfl h
  | _, [], _, h, _, _, _ => absurd rfl h
  | [p], [q], _, _, _, _, h => by
    have h : p = q := h
    rw [h]
  | [p], q :: q2 :: qs, _, _, hp, _, h => by
    have h : p = q ++ ⟨#[c]⟩ ++ Str.join ⟨#[c]⟩ (q2 :: qs) := h
    have h := congrArg (fun z : Str => z.cps.toList) h
    simp only [app_list, List.append_assoc] at h
    exact (free_ne (hp p List.mem_cons_self) h).elim
  | p :: p2 :: ps, [q], _, _, _, hq, h => by
    have h : p ++ ⟨#[c]⟩ ++ Str.join ⟨#[c]⟩ (p2 :: ps) = q := h
    have h := congrArg (fun z : Str => z.cps.toList) h
    simp only [app_list, List.append_assoc] at h
    exact (free_ne (hq q List.mem_cons_self) h.symm).elim
  | p :: p2 :: ps, q :: q2 :: qs, _, _, hp, hq, h => by
    have h : p ++ ⟨#[c]⟩ ++ Str.join ⟨#[c]⟩ (p2 :: ps) = q ++ ⟨#[c]⟩ ++ Str.join ⟨#[c]⟩ (q2 :: qs) := h
    have h := congrArg (fun z : Str => z.cps.toList) h
    simp only [app_list, List.append_assoc] at h
    obtain ⟨h1, h2⟩ := free_eq (hp p List.mem_cons_self) (hq q List.mem_cons_self) h
    have ih := join_uniq c (p2 :: ps) (q2 :: qs) (by simp) (by simp) (fun x hx => hp x (List.mem_cons_of_mem _ hx)) (fun x hx => hq x (List.mem_cons_of_mem _ hx)) (str_ext h2)
    rw [str_ext h1, ih]
theorem split_ne (x y : Str) : Txt.split x y ≠ [] := by
  unfold Txt.split
  split
  · simp
  · split
    · simp
    · rw [StrLaws.partsBetween_eq]
      obtain ⟨p, r, e⟩ := StrLaws.partsFrom_ne x y.length 0 (Builtin.Str.occurrences x y 0 x.length (x.length + 1))
      rw [e]
      simp
theorem split_join (c : Nat) {ps : List Str} (hne : ps ≠ []) (hf : ∀ p ∈ ps, c ∉ p.cps.toList) : Txt.split (Str.join ⟨#[c]⟩ ps) ⟨#[c]⟩ = ps :=
  join_uniq c _ _ (split_ne _ _) hne (StrLaws.split_free _ c) hf (StrLaws.join_split _ _)
def Plain (x : Str) : Prop := 32 ∉ x.cps.toList ∧ 47 ∉ x.cps.toList
def LineF (H0 : Hp) (no : Addr) (H : Hp) (v : V) (ws : List Str) : Prop := ∃ p, v = .ref p ∧ p ≠ no ∧ H0 p = none ∧ H p = some (.lst (ws.map V.str))
theorem LineF.n {H0 : Hp} {no : Addr} {H : Hp} {xs : List V} {ls : List (List Str)} (h : Paired (LineF H0 no H) xs ls) : Paired (LineN no H) xs ls := Paired.mapP h fun _ _ ⟨p, e, n, _, z⟩ => ⟨p, e, n, z⟩
def ListF (H0 : Hp) (no : Addr) (B : Nat) (H : Hp) (v : V) : Prop := ∃ p ws, v = .ref p ∧ p ≠ no ∧ H0 p = none ∧ H p = some (.lst ws) ∧ ws.length ≤ B
theorem ListF.same {H0 : Hp} {no : Addr} {B : Nat} {H H' : Hp} {v : V} (h : ListF H0 no B H v) (s : Same H H') : ListF H0 no B H' v := let ⟨p, ws, e, n, f, z, b⟩ := h; ⟨p, ws, e, n, f, s _ _ z, b⟩
def isS (c : Nat) : Bool := !decide (c = 32) && !decide (c = 47)
def Settable (rs : List Cs.Row) (x : Str) : Prop := 1 ≤ x.length ∧ ∀ c ∈ x.cps.toList, isS c = true ∧ (Cs.place rs (sg c)).isSome = true
theorem Settable.ne {rs : List Cs.Row} {x : Str} (h : Settable rs x) : (!x.cps.toList.isEmpty) = true := by
  have h1 := h.1
  unfold Str.length at h1
  cases e : x.cps.toList with
  | nil =>
    have : x.cps.toList.length = 0 := by rw [e]; rfl
    rw [Array.length_toList] at this
    omega
  | cons a b => rfl
theorem Settable.plain {rs : List Cs.Row} {x : Str} (h : Settable rs x) : Plain x := by
  constructor
  · intro z
    have := (h.2 _ z).1
    revert this
    decide
  · intro z
    have := (h.2 _ z).1
    revert this
    decide
end Lns
namespace L2
open PySem PySem.Spec PyProof.Rows
section
variable {M : Model} {A : Around} {E : Value → Shared → Prop} {s : Shared}
def Stays (S : List Addr) (ch : List Addr) (h h' : Heap) : Prop := ∀ b o, h.get? b = some o → b ∉ ch → (b ∉ S → h'.get? b = some o) ∧ ∃ sl, h'.get? b = some { o with slots := sl }
theorem Stays.trans {S ch : List Addr} {h h1 h2 : Heap} (x : Stays S ch h h1) (y : Stays S ch h1 h2) : Stays S ch h h2 := fun b o e n => by
  obtain ⟨x1, sl, x2⟩ := x b o e n
  refine ⟨fun hb => ?_, ?_⟩
  · exact (y b o (x1 hb) n).1 hb
  · obtain ⟨_, sl2, y2⟩ := y b _ x2 n
    exact ⟨sl2, y2⟩
theorem dict_mapFields (o : Obj) (f) : (o.mapFields f).dict = o.dict := by
  obtain ⟨c, d, dt, sl⟩ := o
  cases dt <;> rfl
def ExcAt (P : Heap → Value → Prop) (h : Heap) (e : Addr) (cls : Value) (dx : Option Addr) : Prop :=
  ∃ oe vs hd, h.get? e = some oe ∧ oe.cls = cls ∧ oe.dict = dx ∧ oe.data = .fields vs ∧ vs[1]? = some hd ∧ P h hd
def TbAt (F : Addr → Prop) (e : Addr) (x : Value) (h : Heap) (hd : Value) : Prop := ∃ T oT ts, hd = .ref T ∧ F T ∧ T ≠ e ∧ h.get? T = some oT ∧ oT.data = .fields ts ∧ ts[3]? = some x
theorem note_new {base : Heap} {env : Env} {outer : List Env} {L e : Addr} {oe : Obj} {vs : Array Value} {head : Value} {hadNext : Bool} {Q : Unit → Shared → Prop}
    (hfr : A.frames = some (env :: outer)) (hl : s.heap.FunFrames base (env :: outer)) (hf : env.frame = some L)
    (he : s.heap.get? e = some oe) (hd : oe.data = .fields vs) (hsz : 1 < vs.size)
    (h : ∀ h', s.heap.objs.size ≤ h'.objs.size → Stays ((env :: outer).filterMap (·.frame)) [e] s.heap h' → ExcAt (TbAt (fun b => s.heap.objs.size ≤ b) e (rawInt L)) h' e oe.cls oe.dict → Q () { s with heap := h' }) :
    wpAny M A (do let a ← frameOf env; let pl ← entryPlaceOf L hadNext; let b ← EntryCells.newEntry head a .none (rawInt L) .none pl; setField (.ref e) 1 b) Q E s := by
  have hene : e ∉ (env :: outer).filterMap (·.frame) := fun hm => by
    obtain ⟨_, o, ho, hnf⟩ := hl.mem hm
    rw [he] at ho; injection ho with ho; subst ho; exact hnf vs hd
  refine wpAny_bind (wpAny_frameOf_fun hfr hl hf fun h₁ hs₁ => ?_)
  refine wpAny_bind (wpAny_entryPlaceOf fun pl hpl => ?_)
  unfold EntryCells.newEntry newFields
  refine wpAny_bind (wpAny_newObj_type ?_ (hpl.sizeOk5 _ _ _ _ _))
  have he₁ : h₁.get? e = some oe := (hs₁.2.1 e hene).trans he
  have he₂ := Heap.get?_push_of_some (h := h₁) { cls := .type "traceback", dict := none, data := .fields ([head, .ref L, .none, rawInt L, .none] ++ (if pl.isEmpty then List.replicate 6 Value.none else pl)).toArray } he₁
  refine wpAny_setField he₂ hd hsz ?_
  have hTe : h₁.objs.size ≠ e := Nat.ne_of_gt (Heap.lt_size he₁)
  have hd₃ := Obj.data_mapFields hd (·.setIfInBounds 1 (Value.ref h₁.objs.size))
  have he₃ := Heap.get?_update_self (Obj.mapFields (·.setIfInBounds 1 (Value.ref h₁.objs.size))) he₂ (Obj.isFreed_of_fields hd₃)
  have hT₃ := (Heap.get?_update_other (h₁.push { cls := .type "traceback", dict := none, data := .fields ([head, .ref L, .none, rawInt L, .none] ++ (if pl.isEmpty then List.replicate 6 Value.none else pl)).toArray })
    (Obj.mapFields (·.setIfInBounds 1 (Value.ref h₁.objs.size))) (Ne.symm hTe)).trans (Heap.get?_push_size h₁ rfl)
  have hsz1 : h₁.objs.size = s.heap.objs.size := hs₁.1
  refine h _ ?_ ?_ ?_
  · rw [Heap.size_after_update, Heap.size_push, hsz1]
    exact Nat.le_succ _
  · intro b o hb hn
    have hbe : b ≠ e := fun q => hn (List.mem_singleton.mpr q)
    have keep : ∀ o, h₁.get? b = some o → ((h₁.push { cls := .type "traceback", dict := none, data := .fields ([head, .ref L, .none, rawInt L, .none] ++ (if pl.isEmpty then List.replicate 6 Value.none else pl)).toArray }).update e (Obj.mapFields (·.setIfInBounds 1 (Value.ref h₁.objs.size)))).get? b = some o := fun o hb => by
      rw [Heap.get?_update_other _ _ (Ne.symm hbe)]
      exact Heap.get?_push_of_some _ hb
    refine ⟨fun hS => keep o ((hs₁.2.1 b hS).trans hb), ?_⟩
    obtain ⟨sl, hs⟩ := hs₁.2.2 b o hb
    exact ⟨sl, keep _ hs⟩
  · exact ⟨_, _, .ref h₁.objs.size, he₃, Obj.cls_mapFields _ _, dict_mapFields _ _, hd₃, by simp [hsz], h₁.objs.size, _, _, rfl, Nat.le_of_eq hsz1.symm, hTe, hT₃, rfl, by simp⟩
theorem ExcAt.mono {P P' : Heap → Value → Prop} {h : Heap} {e : Addr} {cls : Value} {dx : Option Addr} (x : ExcAt P h e cls dx) (f : ∀ hd, P h hd → P' h hd) : ExcAt P' h e cls dx :=
  let ⟨oe, vs, hd, a, b, c, d, g, p⟩ := x
  ⟨oe, vs, hd, a, b, c, d, g, f hd p⟩
theorem TbAt.mono {F F' : Addr → Prop} {e : Addr} {x : Value} {h : Heap} {hd : Value} (t : TbAt F e x h hd) (f : ∀ b, F b → F' b) : TbAt F' e x h hd :=
  let ⟨T, oT, ts, a, b, c⟩ := t
  ⟨T, oT, ts, a, f T b, c⟩
def HdOk (F : Addr → Prop) (e L : Addr) (h : Heap) (hd : Value) : Prop := hd = .none ∨ ∃ x, TbAt F e x h hd
def Recs (F : Addr → Prop) (h : Heap) (ch : List Addr) : Prop := ∀ b ∈ ch, F b ∧ ∃ o vs, h.get? b = some o ∧ o.data = .fields vs
theorem stays_refl (S ch : List Addr) (h : Heap) : Stays S ch h h := fun _ o e _ => ⟨fun _ => e, o.slots, e⟩
theorem note_any {F : Addr → Prop} {base : Heap} {env : Env} {outer : List Env} {L e : Addr} {cls : Value} {dx : Option Addr} {Q : Unit → Shared → Prop}
    (hfr : A.frames = some (env :: outer)) (hl : s.heap.FunFrames base (env :: outer)) (hf : env.frame = some L) (hF : ∀ b, s.heap.objs.size ≤ b → F b) (hFe : F e)
    (hx : ExcAt (HdOk F e L) s.heap e cls dx)
    (h : ∀ h' ch, Recs F s.heap ch → s.heap.objs.size ≤ h'.objs.size → Stays ((env :: outer).filterMap (·.frame)) ch s.heap h' → ExcAt (TbAt F e (rawInt L)) h' e cls dx → Q () { s with heap := h' }) :
    wpAny M A (noteFrame (.ref e) env) Q E s := by
  obtain ⟨oe, vs, hd, he, rfl, rfl, hdt, h1, hp⟩ := hx
  have hsz : 1 < vs.size := (Array.getElem?_eq_some_iff.mp h1).1
  unfold noteFrame
  simp only [hf]
  refine wpAny_bind (wpAny_field he hdt h1 ?_)
  rcases hp with rfl | ⟨x, T, oT, ts, rfl, hFT, hTe, hT, hdT, h3⟩
  · rw [if_neg (by decide)]
    exact note_new hfr hl hf he hdt hsz fun h' hs hst hx => h h' [e] (fun b hb => by rw [List.mem_singleton.mp hb]; exact ⟨hFe, _, _, he, hdt⟩) hs hst (hx.mono fun hd t => t.mono hF)
  by_cases hxL : (x == rawInt L) = true
  · rw [if_pos (show (Value.ref T != Value.none) = true from by simp)]
    refine wpAny_bind (wpAny_field hT hdT h3 ?_)
    rw [if_pos hxL]
    have h3 : ts[3]? = some (rawInt L) := by rw [h3, eq_of_beq hxL]
    exact wpAny_pure (h s.heap [] (fun b hb => nomatch hb) (Nat.le_refl _) (stays_refl _ _ _) ⟨oe, vs, _, he, rfl, rfl, hdt, h1, T, oT, ts, rfl, hFT, hTe, hT, hdT, h3⟩)
  · rw [if_pos (show (Value.ref T != Value.none) = true from by simp)]
    refine wpAny_bind (wpAny_field hT hdT h3 ?_)
    rw [if_neg hxL]
    refine wpAny_bind (wpAny_setField hT hdT (Array.getElem?_eq_some_iff.mp h3).1 ?_)
    have other : ∀ b, b ≠ T → (s.heap.update T (Obj.mapFields (·.setIfInBounds 3 Value.none))).get? b = s.heap.get? b := fun b hb => Heap.get?_update_other _ _ (Ne.symm hb)
    have noRecord : ∀ b o, s.heap.get? b = some o → (∀ vs, o.data ≠ .fields vs) → b ≠ T := fun b o hb hnf q => by
      rw [q, hT] at hb; injection hb with hb; subst hb; exact hnf ts hdT
    have hsz0 : (s.heap.update T (Obj.mapFields (·.setIfInBounds 3 Value.none))).objs.size = s.heap.objs.size := Heap.size_after_update ..
    refine note_new (s := { s with heap := s.heap.update T (Obj.mapFields (·.setIfInBounds 3 Value.none)) }) hfr (hl.of_keeps fun b o hb hnf => ⟨o, (other b (noRecord b o hb hnf)).trans hb, rfl⟩) hf ((other e (Ne.symm hTe)).trans he) hdt hsz fun h' hs hst hx => ?_
    refine h h' [e, T] (fun b hb => ?_) (Nat.le_trans (Nat.le_of_eq hsz0.symm) hs) (fun b o hb hn => ?_) (hx.mono fun hd t => t.mono fun b hb => hF b (Nat.le_trans (Nat.le_of_eq hsz0.symm) hb))
    · rcases List.mem_cons.mp hb with rfl | hb
      · exact ⟨hFe, _, _, he, hdt⟩
      · rw [List.mem_singleton.mp hb]
        exact ⟨hFT, _, _, hT, hdT⟩
    · have hbT : b ≠ T := fun q => hn (by rw [q]; exact List.mem_cons_of_mem _ List.mem_cons_self)
      exact hst b o ((other b hbT).trans hb) fun q => hn (by rw [List.mem_singleton.mp q]; exact List.mem_cons_self)
theorem flight_any {F : Addr → Prop} {S : List Addr} {e : Addr} {cls x : Value} {dx : Option Addr} {fr : Option Addr} {Q : Unit → Shared → Prop} (hFe : F e) (hx : ExcAt (TbAt F e x) s.heap e cls dx)
    (h : ∀ h' ch, Recs F s.heap ch → s.heap.objs.size ≤ h'.objs.size → Stays S ch s.heap h' → ExcAt (TbAt F e (fr.elim .none fun f => rawInt f)) h' e cls dx → Q () { s with heap := h' }) :
    wpAny M A (setFlight (.ref e) fr) Q E s := by
  obtain ⟨oe, vs, hd, he, rfl, rfl, hdt, h1, T, oT, ts, rfl, hFT, hTe, hT, hdT, h3⟩ := hx
  unfold setFlight
  refine wpAny_bind (wpAny_field he hdt h1 ?_)
  rw [if_pos (show (Value.ref T != Value.none) = true from by simp)]
  have h3s := (Array.getElem?_eq_some_iff.mp h3).1
  refine wpAny_setField hT hdT h3s (h _ [T] (fun b hb => by rw [List.mem_singleton.mp hb]; exact ⟨hFT, _, _, hT, hdT⟩) (Nat.le_of_eq (Heap.size_after_update ..).symm) (fun b o hb hn => ?_) ?_)
  · have hbT : T ≠ b := fun q => hn (by rw [q]; exact List.mem_cons_self)
    have k := (Heap.get?_update_other s.heap (Obj.mapFields (·.setIfInBounds 3 (fr.elim Value.none fun f => rawInt f))) hbT).trans hb
    exact ⟨fun _ => k, o.slots, k⟩
  · have hdT3 := Obj.data_mapFields hdT (·.setIfInBounds 3 (fr.elim Value.none fun f => rawInt f))
    exact ⟨oe, vs, _, (Heap.get?_update_other _ _ hTe).trans he, rfl, rfl, hdt, h1, T, _, _, rfl, hFT, hTe, Heap.get?_update_self _ hT (Obj.isFreed_of_fields hdT3), hdT3, by simp [h3s]⟩
end
def Fr0 (X : Cx) (H : Hp) (b : Addr) : Prop := X.s₀.heap.objs.size ≤ b ∧ H b = none ∧ ∀ p ∈ X.pn, p.1 ≠ b
section
variable {X : Cx} {pins : List (Addr × Obj)} {σ : St} {H : Hp} {s : Shared}
theorem hok_ex {P : Program} {w : World} {H : Hp} {h h' : Heap} (hok : HOk P w H h) (k : ∀ b o, h.get? b = some o → H b ≠ none → h'.get? b = some o) : HOk P w H h' := fun a o e =>
  (hok a o e).stay (fun b u hb q => k b u q (by
    rcases hb with rfl | hb
    · rw [e]; exact fun z => nomatch z
    · rw [hb]; exact fun z => nomatch z)) (fun _ q => q) fun _ _ q => q
theorem Inv.exc {h' : Heap} {ch : List Addr} (I : Inv X [] σ H s) (hr : Recs (Fr0 X H) s.heap ch) (st : Stays (frs X.stack) ch s.heap h') : Inv X [] σ H { s with heap := h' } := by
  have nch : ∀ b, H b ≠ none → b ∉ ch := fun b hb q => hb (hr b q).1.2.1
  have nfr : ∀ b, H b ≠ none → b ∉ frs X.stack := fun b hb q => hb (I.stkFree b q)
  refine Inv.call' (ch := ch) I rfl ⟨fun b o q _ hb hx => (st b o q hx).1 hb, fun b o q _ _ hx => (st b o q hx).2, fun _ _ _ q _ => q, fun b o q hx => ?_, fun _ _ q => q, fun _ _ _ q => q, fun b ps q => ⟨#[], by rw [Array.append_empty]; exact q⟩⟩
    (hok_ex I.hok fun b o q hb => (st b o q (nch b hb)).1 (nfr b hb)) I.bare fun b hb => ?_
  · obtain ⟨sl, z⟩ := (st b o q hx).2
    exact ⟨_, z⟩
  · obtain ⟨⟨h1, h2, h3⟩, o, vs, ho, hd⟩ := hr b hb
    refine ⟨.inr h1, fun q => ?_, fun x c hc q => ?_, fun p hp => ?_⟩
    · obtain ⟨m, ⟨o2, es, ep, ho2, hd2, _⟩, _⟩ := I.loc
      rw [← q, ho] at ho2
      cases ho2
      rw [hd] at hd2
      cases hd2
    · obtain ⟨v, o2, ho2, hd2⟩ := I.cell x c hc
      rw [q, ho] at ho2
      cases ho2
      rw [hd] at hd2
      cases hd2
    · rw [List.append_nil] at hp
      exact h3 p hp
end
def Fly (X : Cx) (E : St → XK) (ev : Value) (s : Shared) : Prop := ∃ e cls dx σ H L, ev = .ref e ∧ X.env.frame = some L ∧ Inv X [] σ H s ∧ Fr0 X H e ∧ ExcAt (HdOk (Fr0 X H) e L) s.heap e cls dx ∧ E σ cls dx H
abbrev CX1 (P : Program) (w : World) : CXT := fun outer H s E ev s' => ∃ e cls dx H', ev = .ref e ∧ s'.os = s.os ∧ AllBare s'.gens ∧ Un (frs outer) [] H H' s.heap s'.heap ∧ HOk P w H' s'.heap ∧
  (s.heap.objs.size ≤ e ∧ H' e = none) ∧ ExcAt (TbAt (fun b => s.heap.objs.size ≤ b ∧ H' b = none) e .none) s'.heap e cls dx ∧ E cls dx H'
section
variable {X : Cx} {pins : List (Addr × Obj)} {σ : St} {H : Hp} {s : Shared}
theorem Inv.nopins (I : Inv X pins σ H s) : Inv X [] σ H s := ⟨I.ok, I.os, I.bare, I.base, I.loc, I.cell, I.free, I.freeC, fun p hp => I.pin p (List.mem_append_left _ (by rwa [List.append_nil] at hp)), I.hok, I.len⟩
theorem Inv.pnlt (I : Inv X pins σ H s) {b : Addr} (h : s.heap.objs.size ≤ b) : ∀ p ∈ X.pn, p.1 ≠ b := fun p hp q => by
  have := Heap.lt_size (I.pin p (List.mem_append_left _ hp)).1
  exact absurd (Nat.lt_of_lt_of_le this h) (by rw [q]; exact Nat.lt_irrefl _)
theorem Inv.fr0 (I : Inv X pins σ H s) {b : Addr} (h : s.heap.objs.size ≤ b) : Fr0 X H b := ⟨Nat.le_trans I.sz h, I.hok.fresh h, I.pnlt h⟩
theorem fly_note {E : St → XK} {A : Around} {M : Model} {ev : Value} {N : Value → Shared → Prop} {Q : Unit → Shared → Prop} (hA : A.frames = some X.stack) (hst : X.stack = X.env :: X.outer) (h : Fly X E ev s)
    (q : ∀ h' e cls dx σ H L, ev = .ref e → X.env.frame = some L → Inv X [] σ H { s with heap := h' } → Fr0 X H e → ExcAt (TbAt (Fr0 X H) e (rawInt L)) h' e cls dx → E σ cls dx H → Q () { s with heap := h' }) :
    wpAny M A (noteFrame ev X.env) Q N s := by
  obtain ⟨e, cls, dx, σ, H, L, rfl, hL, I, he, hx, hE⟩ := h
  have hl := I.stack
  rw [hst] at hA hl
  refine note_any hA hl hL (fun b hb => I.fr0 hb) he hx fun h' ch hr hs st hx' => ?_
  exact q h' e cls dx σ H L rfl hL (I.exc hr (by rw [hst]; exact st)) he hx' hE
theorem fly_mark {A : Around} {M : Model} {N : Value → Shared → Prop} {Q : Unit → Shared → Prop} {e : Addr} {cls x : Value} {dx fr : Option Addr} (I : Inv X [] σ H s) (he : Fr0 X H e)
    (hx : ExcAt (TbAt (Fr0 X H) e x) s.heap e cls dx) (q : ∀ h', Inv X [] σ H { s with heap := h' } → ExcAt (TbAt (Fr0 X H) e (fr.elim .none fun f => rawInt f)) h' e cls dx → Q () { s with heap := h' }) :
    wpAny M A (setFlight (.ref e) fr) Q N s :=
  flight_any (S := frs X.stack) he hx fun h' _ hr _ st hx' => q h' (I.exc hr st) hx'
theorem fly_own {E : St → XK} {M : Model} (hst : X.stack = X.env :: X.outer) : PassesOwn M X.A X.env (Fly X E) := by
  intro ev s h
  have hA : X.A.frames = some X.stack := let ⟨_, _, _, _, _, _, _, _, I, _⟩ := h; I.ok.frames
  refine fly_note hA hst h fun h' e cls dx σ H L hev hL I he hx hE => ?_
  subst hev
  obtain ⟨oe, vs, hd, ho, hc, hdi, hdt, h1, T, oT, ts, rfl, r⟩ := id hx
  unfold cameBackBy
  refine wpAny_bind (wpAny_field (s := { s with heap := h' }) ho hdt h1 ?_)
  rw [if_neg (show ¬ ((Value.ref T == Value.none) = true) from by simp)]
  rw [hL]
  exact fly_mark (s := { s with heap := h' }) (fr := some L) I he hx fun h2 I2 hx2 => ⟨e, cls, dx, σ, H, L, rfl, hL, I2, he, hx2.mono fun hd t => .inr ⟨_, t⟩, hE⟩
theorem PSs.wishTo {E' : Value → Shared → Prop} {st : List Stmt} {t : TS} (h : PSs (X.wish E') st t) (hE : ∀ e s, E' e s → X.xe e s) : PSs X st t := fun pins s σ H D I hw =>
  wpAny_mono (h pins s σ H D (I.wish _) hw) (fun _ _ q => q.unwish) hE
end
def tCallS (sp : Sp) (E : St → XK) (t : TA) : TE := fun σ H Q => t σ H fun vs H1 => sp vs H1 Q (E σ)
section
variable {X : Cx} {k : Nat} {f L : Addr} {fd : FuncData} {ps : List Str} {sp : Sp} {E : St → XK} {x : Str} {p pos : Pos} {e : Expr} {es : List Expr} {t : TA}
theorem run_fnX {pins : List (Addr × Obj)} {σ : St} {H : Hp} {s : Shared} {Q : VK} {us : List Value} {vs : List V} (hL : X.env.frame = some L) (F : FnOk X.prog X.w X.K X.mg X.base (CX1 X.prog X.w) k f fd ps sp) (hr : Room k X.A) (hb : Binds X.K fd ps [])
    (I : Inv (X.wish (Fly X E)) pins σ H s) (r : Vals vs us) (h : sp vs H Q (E σ)) : wpAny (model X.prog X.w) X.A (call (.ref f) us) (EP (X.wish (Fly X E)) pins σ Q) (Fly X E) s := by
  have hl : (us ++ []).length = ps.length := by rw [List.append_nil, ← r.length]; exact F.len _ _ _ _ h
  have hb0 := hb s us I.kIn hl
  rw [List.append_nil] at hb0
  refine wpAny_call (codeAny_mono (F.run X.A X.stack s H ⟨us, []⟩ us vs Q (E σ) hr I.env0 hb0 r h) fun r s' hq => ?_)
  cases r with
  | error ev =>
    have hq : CX1 X.prog X.w X.stack H s (E σ) ev s' := hq
    obtain ⟨e, cls, dx, H', rfl, os, bare, un, hok, ⟨h1, h2⟩, hx, hE⟩ := hq
    have I0 := I.unwish
    have I1 : Inv X pins σ H' s' := I0.call' (ch := []) os un hok bare fun b z => absurd z (by simp)
    exact ⟨e, cls, dx, σ, H', L, rfl, hL, I1.nopins, ⟨Nat.le_trans I0.sz h1, h2, I0.pnlt h1⟩, hx.mono fun hd t => .inr ⟨_, t.mono fun b hb => ⟨Nat.le_trans I0.sz hb.1, hb.2, I0.pnlt hb.1⟩⟩, hE⟩
  | ok fl =>
    cases fl with
    | ret u => exact I.after hq
    | next => exact False.elim hq
    | brk => exact False.elim hq
    | cont => exact False.elim hq
theorem pe_callX (hL : X.env.frame = some L) (F : FnOk X.prog X.w X.K X.mg X.base (CX1 X.prog X.w) k f fd ps sp) (hr : Room k X.A) (hg : Gl X x) (hm : X.mg x = some (.ref f)) (hk : PySem.W.keepIn X.K (.ref f) = true) (hb : Binds X.K fd ps [])
    (ha : PA (X.wish (Fly X E)) (e :: es) t) (hdb : (x == ("__debug__" : Str)) = false := by decide) (he : starEach (e :: es) X.env = (false, eval e X.env) :: starEach es X.env := by rfl) (hpl : (backTo pos (starEach es X.env)).any (·.1) = false := by rfl) :
    PE (X.wish (Fly X E)) (.Call (.Name x p) (e :: es) [] pos) (tCallS sp E t) := by
  intro pins s σ H Q I h
  refine wpAny_Call_Name_kw (ld_glob I hg hm ?_ hdb)
  refine PySem.W.callWith_K (h₀ := X.base) I.ok.mod.kin hk (thn (ha pos pins s σ H _ I h) fun us s1 ⟨vs, H1, I1, r, q⟩ => ⟨I1.kIn, ?_⟩) he hpl
  exact run_fnX hL F hr hb I1 r q
end
section
variable {P : Program} {w : World} {K : PySem.W.Frag} {mg : Str → Option Value} {base : Heap}
abbrev cxF (P : Program) (w : World) (K : PySem.W.Frag) (mg : Str → Option Value) (base : Heap) (N : List Str) (qual : Str) (scope : Scope) (f : Addr) (cd : Value) (A : Around) (outer : List Env) (s : Shared) (H : Hp) (E : XK) : Cx :=
  (cxOf (CX1 P w) P w K mg base N qual scope f cd A outer s H E).wish (Fly (cxOf (CX1 P w) P w K mg base N qual scope f cd A outer s H E) fun _ => E)
theorem fly_leaves {N : List Str} {qual : Str} {scope : Scope} {f : Addr} {cd : Value} {A : Around} {outer : List Env} {s : Shared} {H : Hp} {E : XK} :
    ∀ ev s', Fly (cxOf (CX1 P w) P w K mg base N qual scope f cd A outer s H E) (fun _ => E) ev s' → (cxOf (CX1 P w) P w K mg base N qual scope f cd A outer s H E).xe ev s' := by
  intro ev s' h
  show wpAny (model P w) (A.deeper (envOfC qual scope s.heap.objs.size f cd)) (leaving (envOfC qual scope s.heap.objs.size f cd) ev) _ _ s'
  unfold leaving
  refine wpAny_bind (fly_note (X := cxOf (CX1 P w) P w K mg base N qual scope f cd A outer s H E) (let ⟨_, _, _, _, _, _, _, _, I, _⟩ := h; I.ok.frames) rfl h fun h' e cls dx σ H1 L hev hL I he hx hE => ?_)
  subst hev
  refine fly_mark (s := { s' with heap := h' }) (fr := none) I he hx fun h2 I2 hx2 => ?_
  exact ⟨e, cls, dx, H1, rfl, I2.os, I2.bare, I2.base, I2.hok, ⟨he.1, he.2.1⟩, hx2.mono fun hd t => t.mono fun b hb => ⟨hb.1, hb.2.1⟩, hE⟩
theorem Fun.okX {x qual : Str} {st : Stmt} {f : Addr} {fd : FuncData} {N ps : List Str} {k : Nat} {sp : Sp} (F : Fun K x qual st f fd) (S : FnScope N ps (defScope st)) (len : ∀ vs H Q E, sp vs H Q E → vs.length = ps.length)
    (hbody : ∀ (cdv : Value) (A : Around) (outer : List Env) (s : Shared) (H : Hp) (vs : List V) (Q : VK) (E : XK), Room k (A.deeper (envOfC qual (defScope st) s.heap.objs.size f cdv)) → sp vs H Q E →
      ∃ t, PSs (cxF P w K mg base N qual (defScope st) f cdv A outer s H E) (defBody st) t ∧ t { nx := fun _ H' => Q .non H', rt := Q } (start N vs) H) : FnOk P w K mg base (CX1 P w) (k + 1) f fd ps sp := by
  obtain ⟨oc, od, kV, doc, pm, an, cdv, ct, osl, rfl, lk, hcd⟩ := F.ex
  refine fn_of lk hcd S len fun A outer s H vs Q E hr hsp => ?_
  obtain ⟨t, h, q⟩ := hbody cdv A outer s H vs Q E hr hsp
  exact ⟨t, h.wishTo fly_leaves, q⟩
end
end L2
namespace L2
open PySem PySem.Spec PyProof.Rows PySem.W PySem.Calls
abbrev bmV : List Value := [.type "ValueError", .type "Exception", .type "BaseException", .type "object"]
section
variable {prog : Program} {w : World} {A : Around} {R : Result → Shared → Prop} {h : Heap} {g : Array GenState} {d : Drawn} {t : Nat} {os : OsState}
variable {nm q : Str} {C N : Addr} {bs bm : List Value} {hdct : Bool} {sn : List Str} {sub : List Value} {ab : Bool} {col : Option Bool} {dd : Option Addr} {k0 k1 k2 k3 k5 : Option Value}
abbrev excObj (C : Addr) (t : Addr) (dx : Option Addr) : Obj := { cls := .ref C, dict := dx, data := .fields #[.ref t, .none, .none, .none, .bool false, .none] }
theorem exc_type_call {E : Value → Shared → Prop} {f : Addr} {mN : Str → Option Value} {rest : List Value} {Q : Fin → Shared → Prop} (T : OwnTail h bmV bm) (hC : h.get? C = some (excClassObj nm q C N bs bm hdct sn sub ab col dd k0 k1 k2 k3 k5 "ValueError.__new__")) (hn : h.Ns N mN)
    (hni : mN "__init__" = some (.ref f)) (hb : ∀ self, Looks (model prog w) h (bindSpecial (.ref f) self) (.ref f, [self])) (hrest : rest.length ≤ sizeLine)
    (hq : codeAny (model prog w) A (.call (.ref f) ⟨.ref (h.objs.size + 1) :: rest, []⟩) (fun r s' => match r with | .ok (.ret v) => v = .none ∧ Q (.done (.ret (.ref (h.objs.size + 1)))) s' | .ok _ => False | .error x => E x s')
      ⟨(h.push { cls := .type "tuple", data := .seq rest.toArray }).push (excObj C h.objs.size none), g, d, t, os⟩) :
    wpAny (model prog w) A (Builtin.«type.__call__» ⟨.ref C :: rest, []⟩) Q E ⟨h, g, d, t, os⟩ := by
  have F := PySem.F.excBase_ValueError
  have hBn : bmV.contains (.type "ValueError") = true := by decide
  repeat (first | with_reducible refine wpAny_loadPart_at hC ?_ | with_reducible refine wpAny_madeBy_exc hC ?_ | wp_step)
  refine codeAny_call_builtin_code (Code.quiet_builtin _ F.quiet) (wpAny_check_new_subU F hBn T hC ?_)
  refine codeAny_exc_new_subU F hBn F T hC ?_ hrest
  show wpAny _ _ _ _ _ _
  have hC₁ := Heap.get?_push_of_some { cls := .ref C, data := .fields #[.ref h.objs.size, .none, .none, .none, .bool false, .none] }
    (Heap.get?_push_of_some { cls := .type "tuple", data := .seq rest.toArray } hC)
  have hn₁ : ((h.push { cls := .type "tuple", data := .seq rest.toArray }).push { cls := .ref C, data := .fields #[.ref h.objs.size, .none, .none, .none, .bool false, .none] }).Ns N mN :=
    let ⟨o, es, ep, e, r⟩ := hn; ⟨o, es, ep, Heap.get?_push_of_some _ (Heap.get?_push_of_some _ e), r⟩
  have hget : ((h.push { cls := .type "tuple", data := .seq rest.toArray }).push
      { cls := .ref C, data := .fields #[.ref h.objs.size, .none, .none, .none, .bool false, .none] }).get? (h.objs.size + 1) = some
      { cls := .ref C, data := .fields #[.ref h.objs.size, .none, .none, .none, .bool false, .none] } := by heap_get
  have hcC : (Value.ref C :: bm).contains (.ref C) = true := by simp
  have T₁ := T.keeps (h' := (h.push { cls := .type "tuple", data := .seq rest.toArray }).push { cls := .ref C, data := .fields #[.ref h.objs.size, .none, .none, .none, .bool false, .none] })
    fun b o e => Heap.get?_push_of_some _ (Heap.get?_push_of_some _ e)
  have b1 := (hb (.ref (h.objs.size + 1))).keeps (h' := (h.push { cls := .type "tuple", data := .seq rest.toArray }).push { cls := .ref C, data := .fields #[.ref h.objs.size, .none, .none, .none, .bool false, .none] })
    fun b o e => Heap.get?_push_of_some _ (Heap.get?_push_of_some _ e)
  unfold isInstance
  repeat (first | with_reducible refine wpAny_loadPart_at hget ?_ | (with_reducible refine wpAny_isSubtype_exc hC₁ ?_; rw [hcC]) | wp_step)
  show wpAny _ _ (typeLookup (.ref C) _) _ _ _
  refine wpAny_typeLookup_tail hC₁ hn₁ T₁ F.mroIs F.init.lookup ?_
  rw [hni]
  refine wpAny_holding (wpAny_bind (b1.here ?_))
  refine wpAny_bind (wpAny_call ?_)
  refine codeAny_mono hq fun r s' z => ?_
  rcases r with e | (v | _ | _ | _) <;> first | exact z | exact z.elim | skip
  obtain ⟨rfl, z⟩ := z
  exact wpAny_pure (wpAny_pure z)
theorem exc_core {f : Addr} {mN : Str → Option Value} {rest : List Value} (T : OwnTail h bmV bm) (hC : h.get? C = some (excClassObj nm q C N bs bm hdct sn sub ab col dd k0 k1 k2 k3 k5 "ValueError.__new__")) (hn : h.Ns N mN)
    (hni : mN "__init__" = some (.ref f)) (hb : ∀ self, Looks (model prog w) h (bindSpecial (.ref f) self) (.ref f, [self])) (hrest : rest.length ≤ sizeLine)
    (hq : codeAny (model prog w) (A.under (.builtin "type.__call__" ⟨.ref C :: rest, []⟩)) (.call (.ref f) ⟨.ref (h.objs.size + 1) :: rest, []⟩) (InitBack (h.objs.size + 1) R)
      ⟨(h.push { cls := .type "tuple", data := .seq rest.toArray }).push (excObj C h.objs.size none), g, d, t, os⟩) :
    codeAny (model prog w) A (.call (.ref C) ⟨rest, []⟩) R ⟨h, g, d, t, os⟩ := by
  have f1 := tc_lookup
  have f2 := PySem.tc_bind (.ref C)
  have hT : (⟨h, g, d, t, os⟩ : Shared).TypeIs (.ref C) "type" := ⟨_, hC, rfl⟩
  refine codeAny_of_tree ?_
  show wpAny _ _ (callAny (.ref C) _) _ _ _
  repeat (any_goals (first | assumption | with_reducible refine wpAny_loadPart_at hC ?_ | wp_step))
  refine ⟨rfl, ?_⟩
  refine codeAny_call_builtin_at (Code.quiet_builtin _ (by decide +kernel)) entry_typeCall (wpAny_check_type_call_sub hC ?_)
  exact exc_type_call T hC hn hni hb hrest (codeAny_mono hq fun r s' z => by
    rcases r with e | (v | _ | _ | _) <;> first | exact z | exact z.elim)
end
theorem ns_some_of {K : PySem.W.Frag} {h : Heap} {N : Addr} {mg : Str → Option Value} {n : Str} {v : Value} (X : K.In h) (G : h.Ns N mg) (e : nsIn K N n = some (some v)) : mg n = some v := by
  obtain ⟨o, es, ep, ho, hd, _, hf⟩ := G
  unfold nsIn at e
  split at e
  · rename_i c d es' n' sl q
    have := X _ _ q
    rw [ho] at this
    cases this
    cases hd
    split at e
    · rename_i en he
      cases e
      rw [← hf]
      unfold nsFind findBy
      rw [← Array.find?_toList, he]
      rfl
    · split at e <;> cases e
  · cases e
def xclsIn (K : PySem.W.Frag) (C : Addr) (init : Option Addr) : Bool := match K.lookup C with
  | some ⟨.type "type", _, .cls cd, sl⟩ => (match cd.mro, sl.toList with
    | .ref C' :: bm, [_, _, _, _, some (.builtin n), _] => C' == C && n == "ValueError.__new__" && !cd.hasDel && tailIn K bmV bm && nsOkIn K cd.ns && nsIn K cd.ns "__init__" == some (init.map Value.ref)
    | _, _ => false)
  | _ => false
theorem xcls_of {K : PySem.W.Frag} {h : Heap} {C : Addr} {init : Option Addr} (X : K.In h) (q : xclsIn K C init = true) :
    ∃ bm N nm qn bs hd sn sub ab col dd k0 k1 k2 k3 k5 mN, h.get? C = some (excClassObj nm qn C N bs bm hd sn sub ab col dd k0 k1 k2 k3 k5 "ValueError.__new__") ∧ h.Ns N mN ∧ mN "__init__" = init.map Value.ref ∧ OwnTail h bmV bm := by
  unfold xclsIn at q
  split at q
  · rename_i dd cd sl ho
    split at q
    · rename_i C' bm k0 k1 k2 k3 n k5 hm hs
      simp only [Bool.and_eq_true, beq_iff_eq, Bool.not_eq_true'] at q
      obtain ⟨⟨⟨⟨⟨rfl, rfl⟩, hdel⟩, ht⟩, hok⟩, hni⟩ := q
      obtain ⟨nm, bs, mro, ns, qn, hd, sn, sub, ab, col, del⟩ := cd
      dsimp only at hm hdel hok hni
      subst hm hdel
      have hsl : sl = #[k0, k1, k2, k3, some (.builtin "ValueError.__new__"), k5] := by
        obtain ⟨l⟩ := sl
        simp only at hs
        rw [hs]
      subst hsl
      have G : h.Ns ns (h.nsMap ns) := .of_isNs (isNs_of_in X hok)
      refine ⟨bm, ns, nm, qn, bs, hd, sn, sub, ab, col, dd, k0, k1, k2, k3, k5, _, X _ _ ho, G, ?_, tail_of_in X ht⟩
      cases init with
      | none => exact ns_none_of X G hni
      | some f => exact ns_some_of X G hni
    · cases q
  · cases q
theorem xcls_same {K : PySem.W.Frag} {h h' : Heap} {C : Addr} {init : Option Addr} (X : K.In h) (X' : K.In h') (q : xclsIn K C init = true) : h'.get? C = h.get? C := by
  unfold xclsIn at q
  split at q
  · rename_i ho
    rw [X _ _ ho, X' _ _ ho]
  · cases q
abbrev XO (e C : Addr) (dx : Option Addr) : HO := .ext fun h => ∃ t, h.get? e = some (excObj C t dx)
structure MkX (K : PySem.W.Frag) (C f : Addr) : Prop where
  cls : xclsIn K C (some f) = true
  fn : PySem.W.isFn K (.ref f) = true
  kp : PySem.W.keepIn K (.ref C) = true
section
variable {X : Cx} {CX : CXT} {k : Nat} {f C : Addr} {fd : FuncData} {ps : List Str} {sp : Sp} {x m : Str} {p pos apos : Pos} {e o : Expr} {es : List Expr} {ta : TE} {t : TA} {pins : List (Addr × Obj)} {σ : St} {H : Hp} {s : Shared}
theorem Inv.exmade {vs : List Value} (I : Inv X pins σ H s) : Inv X pins σ (upd H (s.heap.objs.size + 1) (XO (s.heap.objs.size + 1) C none))
    { s with heap := (s.heap.push { cls := .type "tuple", data := .seq vs.toArray }).push (excObj C s.heap.objs.size none) } := by
  have e2 : ((s.heap.push { cls := .type "tuple", data := .seq vs.toArray }).push (excObj C s.heap.objs.size none)).get? (s.heap.objs.size + 1) = some (excObj C s.heap.objs.size none) := by
    have := Heap.get?_push_size (s.heap.push { cls := .type "tuple", data := .seq vs.toArray }) (o := excObj C s.heap.objs.size none) rfl
    rwa [Heap.size_push] at this
  refine I.laid (t' := s.toks) (fun b u q => Heap.get?_push_of_some _ (Heap.get?_push_of_some _ q)) (Nat.le_succ _) ⟨⟨_, e2⟩, ⟨_, e2⟩, ?_⟩
  rintro h1 h2 ⟨t, e⟩ k
  exact ⟨t, k _ e⟩
theorem run_excAt {Q : VK} {us : List Value} {vs : List V} (M : MkX X.K C f) (F : FnOk X.prog X.w X.K X.mg X.base CX0 k f fd ps sp) (hr : Room (k + 1) X.A) (hb : Binds X.K fd ps []) (I : Inv X pins σ H s) (r : Vals vs us) (hlen : vs.length ≤ 10)
    (hq : sp (.ref (s.heap.objs.size + 1) :: vs) (upd H (s.heap.objs.size + 1) (XO (s.heap.objs.size + 1) C none)) (fun v H2 => v = .non ∧ Q (.ref (s.heap.objs.size + 1)) H2) E0) :
    wpAny (model X.prog X.w) X.A (call (.ref C) us) (EP X pins σ Q) X.xe s := by
  have I2 := Inv.exmade (C := C) (vs := us) I
  have r2 : Vals (V.ref (s.heap.objs.size + 1) :: vs) (Value.ref (s.heap.objs.size + 1) :: us) := .cons rfl r
  have hl : (Value.ref (s.heap.objs.size + 1) :: us ++ []).length = ps.length := by
    have e := r2.length
    rw [F.len _ _ _ _ hq] at e
    rw [List.append_nil]
    exact e.symm
  obtain ⟨bm, N, nm, qn, bs, hd, sn, sub, ab, col, dd, k0, k1, k2, k3, k5, mN, hC, hn, hni, T⟩ := xcls_of I.kIn M.cls
  have hus : us.length ≤ sizeLine := smallL (by have := r.length; omega)
  have hb0 := hb { s with heap := (s.heap.push { cls := .type "tuple", data := .seq us.toArray }).push (excObj C s.heap.objs.size none) } (Value.ref (s.heap.objs.size + 1) :: us) I2.kIn hl
  rw [List.append_nil] at hb0
  obtain ⟨hp, g, d, tk, os⟩ := s
  refine wpAny_call (exc_core T hC hn hni (fun self => bind_fn I.kIn self (beq_iff_eq.mp M.fn)) hus (codeAny_mono (F.run _ X.stack _ _ ⟨Value.ref (hp.objs.size + 1) :: us, []⟩ (Value.ref (hp.objs.size + 1) :: us) _ _ E0 (hr.make C us [])
    (I2.env0.make C us []) hb0 r2 hq) fun r s' hq' => ?_))
  cases r with
  | error e => exact False.elim hq'
  | ok fl =>
    cases fl with
    | ret u =>
      obtain ⟨v, H', I3, rv, ev, q3⟩ := I2.after hq'
      subst ev
      exact ⟨rv, ⟨V.ref (hp.objs.size + 1), H', I3, rfl, q3⟩⟩
    | next => exact False.elim hq'
    | brk => exact False.elim hq'
    | cont => exact False.elim hq'
end
end L2
namespace L2
open PySem PySem.Spec PyProof.Rows PySem.W PySem.Calls Builtin Builtin.ObjectAttr
theorem get_push_lt {h : Heap} {o : Obj} {b : Addr} (hb : b < h.objs.size) : (h.push o).get? b = h.get? b := by
  have e : (h.push o).objs[b]? = h.objs[b]? := by
    cases h
    simp [Heap.push, Array.getElem?_push]
    intro q
    exact absurd q (Nat.ne_of_lt hb)
  unfold Heap.get?
  rw [e]
def xTail : List Value → Bool
  | [] => false
  | .ref c :: r => xTail r
  | v :: r => (v :: r) == bmV
theorem refuse_x (self : Value) : ∀ {l : List Value}, xTail l = true → refuseLoop self "__setattr__" l = pure () ∧ l.contains (.type "object") = true
  | [], e => by cases e
  | v :: r, e => by
    cases v with
    | ref c =>
      have ih := refuse_x self (l := r) e
      rw [refuseLoop_ref, List.contains_cons, ih.2]
      exact ⟨ih.1, Bool.or_true _⟩
    | _ =>
      have e2 := beq_iff_eq.mp (show ((_ :: r) == bmV) = true from e)
      rw [e2]
      exact ⟨PySem.F.store_ValueError.passes self, by decide⟩
section
variable {prog : Program} {w : World} {A : Around} {K : PySem.W.Frag} {C x : Addr} {s : Shared} {R : Result → Shared → Prop}
theorem osx_open {ox : Obj} {od : Option Obj} {name : Str} {tk : Tok} {v : Value} {cd : ClassData} (X : K.In s.heap) (I : PySem.W.InstAt s.heap x ox C od) (hc : clsIn K C = some cd) (ho : xTail cd.mro = true) (ha : findIn K (.ref C) name = some none)
    (h : wpAny (model prog w) A.in1 (storeInOwnDict (.ref x) (.ref C) (.str name tk) name v false)
      (fun fin s' => match fin with | .done f => R (.ok f) s' | .again c' => c'.quiet = true ∧ codeAny (model prog w) A c' R s') (fun e s' => R (.error e) s') s) :
    codeAny (model prog w) A (.call (.builtin "object.__setattr__") ⟨[.ref x, .str name tk, v], []⟩) R s := by
  have SF := PySem.F.store_object
  have ne : cd.mro.isEmpty = false := by cases q : cd.mro with | nil => rw [q] at ho; cases ho | cons _ _ => rfl
  have sub : Looks (model prog w) s.heap (isInstance (.ref x) (.type "object")) true := I.type.andThen (looks_mroIn X (by unfold mroIn; rw [hc, Option.bind_some, if_neg (by rw [ne]; decide), (refuse_x (.ref x) ho).2]))
  refine codeAny_call_builtin SF.slot.plain SF.entry (@check_slot (model prog w) _ _ s "object.__setattr__" "object" "__setattr__" (.ref x) [.str name tk, v] [] _ SF.kind SF.split sub (SF.args (.ref x) (.str name tk) v) ?_)
  have hm : Looks (model prog w) s.heap (mroOf (.ref C)) cd.mro := (looks_clsIn X hc).andThen .now
  rw [osa_eq, refuse_eq]
  refine wpAny_bind (wpAny_bind (I.type.here (wpAny_bind (hm.here ?_))))
  rw [(refuse_x (.ref x) ho).1]
  refine wpAny_pure (wpAny_bind (I.type.here (wpAny_bind ((looks_findIn X ha).here (wpAny_bind ?_)))))
  exact wpAny_pure h
structure XF (K : PySem.W.Frag) (C : Addr) (f : Str) : Prop where
  cd : ∃ cd, clsIn K C = some cd ∧ xTail cd.mro = true ∧ cd.hasDict = true
  sa : findIn K (.ref C) "__setattr__" = some (some (.builtin "object.__setattr__"))
  no : findIn K (.ref C) f = some none
theorem set_exc {E : Value → Shared → Prop} {t : Addr} {name : Str} {v : Value} {Q : Unit → Shared → Prop} (X : K.In s.heap) (hx : s.heap.get? x = some (excObj C t none)) (F : XF K C name)
    (h : ∀ h' k, s.heap.objs.size ≤ h'.objs.size → (∀ b o, b ≠ x → s.heap.get? b = some o → h'.get? b = some o) → h'.get? x = some (excObj C t (some s.heap.objs.size)) → h'.Ns1 s.heap.objs.size (fun y => if y = name then some v else none) → Q () { s with heap := h', toks := k }) :
    wpAny (model prog w) A (setAttr (.ref x) name v) Q E s := by
  obtain ⟨⟨cd, hc, ht, hd⟩, hsa, hno⟩ := F
  have J : PySem.W.InstAt s.heap x (excObj C t none) C none := ⟨hx, rfl, rfl, True.intro⟩
  refine set_plain X J hsa (osx_open (s := { s with toks := s.toks + 1 }) X J hc ht hno ?_)
  have hxd : x ≠ s.heap.objs.size := Nat.ne_of_lt (Heap.lt_size hx)
  refine wpAny_bind (wpAny_pure (wpAny_bind (wpAny_bind (wpAny_loadPart (s := { s with toks := s.toks + 1 }) hx (wpAny_bind (PySem.W.Looks.here (s := { s with toks := s.toks + 1 }) (looks_clsIn X hc) ?_))))))
  rw [hd]
  show wpAny _ _ (do
    let d ← alloc { cls := Value.type "dict", data := Data.dict #[] }
    update x fun o => { o with dict := some d }
    dictMade (.ref C) x d) _ _ _
  refine wpAny_bind (wpAny_alloc (wpAny_bind ?_))
  have hx1 := Heap.get?_push_of_some (h := s.heap) emptyDict hx
  refine wpAny_update (o := excObj C t none) (s := { s with heap := s.heap.push emptyDict, toks := s.toks + 1 }) hx1 ?_
  show wpAny _ _ (pure (some s.heap.objs.size)) _ _ _
  refine wpAny_pure ?_
  have e1 : (s.heap.push emptyDict).get? s.heap.objs.size = some emptyDict := Heap.get?_push_size s.heap rfl
  have e2 : ((s.heap.push emptyDict).update x fun o => { o with dict := some s.heap.objs.size }).get? s.heap.objs.size = some emptyDict := (Heap.get?_update_other _ _ hxd).trans e1
  have e3 : ((s.heap.push emptyDict).update x fun o => { o with dict := some s.heap.objs.size }).get? x = some (excObj C t (some s.heap.objs.size)) := Heap.get?_update_self _ hx1 rfl
  have n1 : ((s.heap.push emptyDict).update x fun o => { o with dict := some s.heap.objs.size }).Ns1 s.heap.objs.size (fun _ => none) := Heap.Ns1.of_empty ⟨emptyDict, #[], _, e2, rfl, (fun e he => absurd he (by simp)), fun _ => rfl⟩
  have k1 : ∀ b o, b ≠ x → s.heap.get? b = some o → ((s.heap.push emptyDict).update x fun o => { o with dict := some s.heap.objs.size }).get? b = some o := fun b o hb q => (Heap.get?_update_other _ _ (Ne.symm hb)).trans (Heap.get?_push_of_some _ q)
  have z1 : ((s.heap.push emptyDict).update x fun o => { o with dict := some s.heap.objs.size }).objs.size = s.heap.objs.size + 1 := by rw [Heap.size_after_update, Heap.size_push]
  generalize ((s.heap.push emptyDict).update x fun o => { o with dict := some s.heap.objs.size }) = h1 at e2 e3 n1 k1 z1 ⊢
  refine wpAny_bind (wpAny_pure (wpAny_bind ?_))
  refine wpAny_nsSet1 (s := { s with heap := h1, toks := s.toks + 1 }) n1 fun h' hn2 hs2 => ?_
  obtain ⟨oD, esD, epD, hoD, hdD, hcD⟩ := hn2.count (PySem.Within.cons (ns := []) name v (fun y hy => absurd rfl hy))
  refine wpAny_bind (wpAny_lookBehind hoD (by rw [hdD]; exact pastItsLine_dict (Nat.le_trans hcD (Nat.le_trans (smallL (show 1 ≤ 100000 by decide)) (Nat.le_succ _)))) ?_)
  refine wpAny_pure (h h' _ ?_ (fun b o hb q => ?_) ?_ hn2)
  · rw [hs2.1]
    show s.heap.objs.size ≤ h1.objs.size
    omega
  · have hbd : b ≠ s.heap.objs.size := Nat.ne_of_lt (Heap.lt_size q)
    exact (hs2.2 b hbd).trans (k1 b o hb q)
  · exact (hs2.2 x hxd).trans e3
end
section
variable {X : Cx} {pins : List (Addr × Obj)} {σ : St} {H : Hp} {s : Shared}
theorem Inv.exset {e C t : Addr} {y : V} {u : Value} {f : Str} {h' : Heap} {k : Nat} (I : Inv X pins σ H s) (he : H e = some (XO e C none)) (ry : RelV y u)
    (k1 : ∀ b o, b ≠ e → s.heap.get? b = some o → h'.get? b = some o) (e3 : h'.get? e = some (excObj C t (some s.heap.objs.size))) (n1 : h'.Ns1 s.heap.objs.size (fun z => if z = f then some u else none)) :
    Inv X pins σ (upd (upd H s.heap.objs.size (.xd [(f, y)])) e (XO e C (some s.heap.objs.size))) { s with heap := h', toks := k } := by
  obtain ⟨oD, es, ep, hoD, r⟩ := id n1
  have hfr : oD.isFreed = false := (Heap.get?_some_iff.mp hoD).2
  have g1 : (s.heap.push oD).get? s.heap.objs.size = some oD := Heap.get?_push_size s.heap hfr
  have hed : e ≠ s.heap.objs.size := Nat.ne_of_lt (I.hok.lt he)
  have I1 := I.laid (a := s.heap.objs.size) (o := .xd [(f, y)]) (h' := s.heap.push oD) (t' := s.toks) (fun b u q => Heap.get?_push_of_some _ q) (Nat.le_refl _) ⟨_, ⟨oD, es, ep, g1, r⟩, fun g => by
    show RelO (List.lookup g [(f, y)]) (if g = f then some u else none)
    by_cases q : g = f
    · rw [if_pos q, q]
      simp
      exact ry
    · rw [if_neg q]
      have : List.lookup g [(f, y)] = none := by simp [q]
      rw [this]
      exact True.intro⟩
  refine I1.write (x := e) (e := e) (h' := h') (o := XO e C (some s.heap.objs.size)) (t' := k) (by rw [upd_ne hed, he]; exact True.intro) (.inl rfl) (fun b v hb q => ?_) ⟨_, e3⟩ ⟨⟨_, e3⟩, ⟨_, e3⟩, ?_⟩
  · by_cases hbd : b = s.heap.objs.size
    · subst hbd
      rw [g1] at q
      cases q
      exact hoD
    · refine k1 b v hb ?_
      have hlt := Heap.lt_size q
      rw [Heap.size_push] at hlt
      have hlt2 : b < s.heap.objs.size := Nat.lt_of_le_of_ne (Nat.lt_succ_iff.mp hlt) hbd
      rwa [get_push_lt hlt2] at q
  · rintro h1 h2 ⟨t, q⟩ kk
    exact ⟨t, kk _ q⟩
def sXF (K : PySem.W.Frag) (ta tv : TE) (f : Str) : TS := fun D σ H => tv σ H fun y H1 => ta σ H1 fun x H2 => ∃ e C, x = .ref e ∧ H2 e = some (XO e C none) ∧ XF K C f ∧ ∀ dx, H2 dx = none → D.nx σ (upd (upd H2 dx (.xd [(f, y)])) e (XO e C (some dx)))
theorem ps_xfld {o value : Expr} {f : Str} {pos pos' : Pos} {ta tv : TE} (ha : PE X o ta) (hv : PE X value tv) (hs : swapsWith value (some (.Attribute o f pos')) pos.line X.env = pure false) : PS X (.Assign [.Attribute o f pos'] value pos) (sXF X.K ta tv f) := by
  intro pins s σ H D I h
  refine plainObj_wpAny_Assign_Attribute (thn (hv pins s σ H _ I h) fun u s1 ⟨y, H1, I1, ry, q⟩ => thn (ha pins s1 σ H1 _ I1 q) fun ov s2 ⟨x, H2, I2, rx, e, C, ex, ea, F, q2⟩ => ?_) hs
  subst ex
  obtain rfl : ov = Value.ref e := rx
  obtain ⟨⟨t, he⟩, _⟩ := I2.hok e _ ea
  refine set_exc I2.kIn he F fun h' k _ k1 e3 n1 => ?_
  exact ⟨σ, _, I2.exset ea ry k1 e3 n1, q2 _ I2.fresh⟩
end
end L2
namespace L2
open PySem PySem.Spec PyProof.Rows PySem.W PySem.Calls
structure BI (K : PySem.W.Frag) (CB : Addr) : Prop where
  reads : readsIn K CB (.type "type") = true
  find : findCls K (.ref CB) (.type "type") "__init__" = some (.val (.builtin "ValueError.__init__"))
  ga : specialIn K (.ref CB) "__getattribute__" = some (some (.builtin "type.__getattribute__"))
section
variable {X : Cx} {pins : List (Addr × Obj)} {σ : St} {H : Hp} {s : Shared}
theorem run_binit {e C : Addr} {dx init : Option Addr} {u : Value} {Q : VK} (I : Inv X pins σ H s) (he : H e = some (XO e C dx)) (hC : xclsIn X.K C init = true) (q : Q .non H) :
    wpAny (model X.prog X.w) X.A (call (.builtin "ValueError.__init__") [.ref e, u]) (EP X pins σ Q) X.xe s := by
  obtain ⟨⟨t0, hx⟩, _⟩ := I.hok e _ he
  obtain ⟨bm, N, nm, qn, bs, hd, sn, sub, ab, col, dd, k0, k1, k2, k3, k5, mN, hC, hn, hni, T⟩ := xcls_of I.kIn hC
  have F := PySem.F.excBase_ValueError
  obtain ⟨hp, g, d, tk, os⟩ := s
  refine wpAny_call (codeAny_call_builtin F.init.plain F.initEntry (wpAny_check_init_subU F T hC hx rfl ?_))
  wp_walk
  have hx : hp.get? e = some (excObj C t0 dx) := hx
  have I1 := I.kept (h' := hp.push { cls := Value.type "tuple", data := Data.seq #[u] }) (t' := tk) (fun b u q => Heap.get?_push_of_some _ q)
  have g2 : ((hp.push { cls := Value.type "tuple", data := Data.seq #[u] }).update e (Obj.mapFields fun x => x.setIfInBounds 0 (Value.ref hp.objs.size))).get? e = some (excObj C hp.objs.size dx) :=
    Heap.get?_update_self _ (Heap.get?_push_of_some _ hx) rfl
  have I2 := I1.write (x := e) (e := e) (o := XO e C dx) (h' := (hp.push { cls := Value.type "tuple", data := Data.seq #[u] }).update e (Obj.mapFields fun x => x.setIfInBounds 0 (Value.ref hp.objs.size))) (t' := tk)
    (by rw [he]; exact True.intro) (.inl rfl) (fun b v hb q => (Heap.get?_update_other _ _ (Ne.symm hb)).trans q) ⟨_, g2⟩ ⟨⟨_, g2⟩, ⟨_, g2⟩, fun h1 h2 ⟨t, z⟩ kk => ⟨t, kk _ z⟩⟩
  have eH : upd H e (XO e C dx) = H := by
    funext b
    by_cases hb : b = e
    · subst hb
      rw [upd_same, he]
    · rw [upd_ne hb]
  rw [eH] at I2
  exact ⟨.non, H, I2, rfl, q⟩
def tBI (K : PySem.W.Frag) (t : TA) : TE := fun σ H Q => t σ H fun vs H1 => ∃ e C dx init x, vs = [.ref e, .str x] ∧ H1 e = some (XO e C dx) ∧ xclsIn K C init = true ∧ Q .non H1
theorem pe_binit {CB : Addr} {x : Str} {np apos pos : Pos} {e : Expr} {es : List Expr} {t : TA} {pl : Sem Bool} (F : BI X.K CB) (hg : Gl X x) (hm : X.mg x = some (.ref CB)) (ha : PA X (e :: es) t) (hdb : (x == ("__debug__" : Str)) = false := by decide)
    (hst : starEach (e :: es) X.env = (false, eval e X.env) :: starEach es X.env := by rfl) (hpl : (backTo pos (starEach es X.env)).any (·.1) = false := by rfl)
    (ht : eval (.Call (.Attribute (.Name x np) "__init__" apos) (e :: es) [] pos) X.env = (do
      let ov ← eval (.Name x np) X.env
      standAt apos.atName
      let (f, first) ← holding [ov] (getMethod ov "__init__" pl)
      callWith pos f first (backTo pos (starEach (e :: es) X.env)) (backToKw pos (keywordEach [] X.env))) := by rfl) :
    PE X (.Call (.Attribute (.Name x np) "__init__" apos) (e :: es) [] pos) (tBI X.K t) := by
  intro pins s σ H Q I h
  refine PySem.W.methodCall_KW (pl := pl) (ld_glob I hg hm ?_ hdb) ht
  refine method_cls I.kIn F.ga (cls_value I.kIn F.reads F.find rfl ?_)
  have hA := ha pos pins { s with toks := s.toks + 1 } σ H _ (I.tok _) h
  rw [hst] at hA ⊢
  refine Calls.callWith_builtin (by show (false || (backTo pos (starEach es X.env)).any (·.1)) = false; rw [hpl] <;> rfl) (Calls.evalArgs_plain ?_)
  refine thn hA fun us s2 ⟨vs, H2, I2, r2, ex, C, dx, init, z, evs, he, hC, q⟩ => ?_
  subst evs
  cases r2 with
  | cons r1 r2 =>
    cases r2 with
    | cons r2 r3 =>
      cases r3
      obtain rfl := (show _ = Value.ref ex from r1)
      exact run_binit I2 he hC q
def tFmt (tv : TE) : TE := fun σ H Q => tv σ H fun v H1 => ∃ i : Int, v = .int i ∧ i.natAbs ≤ 1000000000 ∧ ∀ x : Str, x.length ≤ 2000 → Q (.str x) H1
theorem log_small {n : Nat} (h : n ≤ 1000000000) : n.log2 < 1920 := by
  by_cases h0 : n = 0
  · subst h0
    decide
  · have h1 : n < 2 ^ 30 := Nat.lt_of_le_of_lt h (by decide)
    exact Nat.lt_trans ((Nat.log2_lt h0).mpr h1) (by decide)
theorem pe_fmt {value : Expr} {pos : Pos} {tv : TE} (hv : PE X value tv) : PE X (.FormattedValue value (-1) none pos) (tFmt tv) := by
  intro pins s σ H Q I h
  refine wpAny_FormattedValue_plain (thn (hv pins s σ H _ I h) fun v s1 ⟨y, H1, I1, ry, i, ey, hi, q⟩ => ?_)
  subst ey
  obtain ⟨t, rfl⟩ := ry
  have hl : (Str.ofString (toString i)).length ≤ 2000 := by
    have e := int_text_length_le (k := 1920) (by decide) (log_small hi)
    rw [PySem.ofString_length]
    omega
  exact wpAny_formatField_int (log_small hi) ⟨.str _, H1, I1.tok _, ⟨_, rfl⟩, q _ hl⟩
def tJ3 (t1 t2 t3 : TE) : TE := fun σ H Q => t1 σ H fun a H1 => ∃ x1 : Str, a = .str x1 ∧ x1.length ≤ 2000 ∧ t2 σ H1 fun b H2 => ∃ x2 : Str, b = .str x2 ∧ x2.length ≤ 2000 ∧ t3 σ H2 fun c H3 => ∃ x3 : Str, c = .str x3 ∧ x3.length ≤ 2000 ∧ ∀ x, Q (.str x) H3
end
end L2
namespace L2
open PySem PySem.Spec PyProof.Rows PySem.W PySem.Calls
def unt (H : Hp) (e : Addr) : Hp := fun b => if b = e then none else H b
theorem unt_same {H : Hp} {e : Addr} : unt H e e = none := by unfold unt; rw [if_pos rfl]
theorem unt_ne {H : Hp} {e b : Addr} (h : b ≠ e) : unt H e b = H b := by unfold unt; rw [if_neg h]
section
variable {M : Model} {A : Around} {E : Value → Shared → Prop} {env : Env}
variable {nm q : Str} {C N : Addr} {bs bm : List Value} {hdct : Bool} {sn : List Str} {sub : List Value} {ab : Bool} {col : Option Bool} {dd : Option Addr} {k0 k1 k2 k3 k5 : Option Value} {newId : String}
theorem raise_made {s : Shared} {x : Sem Value} {Q : Flow → Shared → Prop} (hbase : bm.contains (.type "BaseException") = true) (hh : A.handled = none)
    (h : wpAny M A x (fun v s₁ => ∃ e t dx, v = .ref e ∧ s₁.heap.get? C = some (excClassObj nm q C N bs bm hdct sn sub ab col dd k0 k1 k2 k3 k5 newId) ∧ s₁.heap.get? e = some (excObj C t dx) ∧ E (.ref e) s₁) E s) :
    wpAny M A (raiseStmt env (some x) none) Q E s := by
  have hcB : (Value.ref C :: bm).contains (.type "BaseException") = true := by rw [List.contains_cons, hbase, Bool.or_true]
  unfold raiseStmt
  refine wpAny_bind (wpAny_mono h (fun v s₁ h₁ => ?_) fun _ _ x => x)
  obtain ⟨e, t, dx, rfl, hC, he, hE⟩ := h₁
  obtain ⟨hp, g, d, tk, os⟩ := s₁
  have he : hp.get? e = some { cls := .ref C, dict := dx, data := .fields #[.ref t, .none, .none, .none, .bool false, .none] } := he
  repeat (first | with_reducible refine wpAny_loadPart_at he ?_ | with_reducible refine wpAny_loadPart_at hC ?_ | (with_reducible refine wpAny_isSubtype_exc hC ?_; rw [hcB]) | wp_step)
  exact wpAny_raiseNew_none hh hE
end
section
variable {prog : Program} {w : World} {A : Around} {E : Value → Shared → Prop} {h : Heap} {g : Array GenState} {d : Drawn} {t : Nat} {os : OsState}
variable {nm q : Str} {C N : Addr} {bs bm : List Value} {hdct : Bool} {sn : List Str} {sub : List Value} {ab : Bool} {col : Option Bool} {dd : Option Addr} {k0 k1 k2 k3 k5 : Option Value}
theorem exc_type_call0 (T : OwnTail h bmV bm) {mN : Str → Option Value} {rest : List Value} {Q : PySem.Fin → Shared → Prop}
    (hC : h.get? C = some (excClassObj nm q C N bs bm hdct sn sub ab col dd k0 k1 k2 k3 k5 "ValueError.__new__")) (hn : h.Ns N mN) (hni : mN "__init__" = none) (hrest : rest.length ≤ sizeLine)
    (hq : ∀ h' t2, (∀ b o, h.get? b = some o → h'.get? b = some o) → h'.get? (h.objs.size + 1) = some (excObj C t2 none) → Q (.done (.ret (.ref (h.objs.size + 1)))) ⟨h', g, d, t, os⟩) :
    wpAny (model prog w) A (Builtin.«type.__call__» ⟨.ref C :: rest, []⟩) Q E ⟨h, g, d, t, os⟩ := by
  have F := PySem.F.excBase_ValueError
  have hBn : bmV.contains (.type "ValueError") = true := by decide
  repeat (first | with_reducible refine wpAny_loadPart_at hC ?_ | with_reducible refine wpAny_madeBy_exc hC ?_ | wp_step)
  refine codeAny_call_builtin_code (Code.quiet_builtin _ F.quiet) (wpAny_check_new_subU F hBn T hC ?_)
  refine codeAny_exc_new_subU F hBn F T hC ?_ hrest
  show wpAny _ _ _ _ _ _
  have hC₁ := Heap.get?_push_of_some { cls := .ref C, data := .fields #[.ref h.objs.size, .none, .none, .none, .bool false, .none] }
    (Heap.get?_push_of_some { cls := .type "tuple", data := .seq rest.toArray } hC)
  have hn₁ : ((h.push { cls := .type "tuple", data := .seq rest.toArray }).push { cls := .ref C, data := .fields #[.ref h.objs.size, .none, .none, .none, .bool false, .none] }).Ns N mN :=
    let ⟨o, es, ep, e, r⟩ := hn; ⟨o, es, ep, Heap.get?_push_of_some _ (Heap.get?_push_of_some _ e), r⟩
  have hget : ((h.push { cls := .type "tuple", data := .seq rest.toArray }).push
      { cls := .ref C, data := .fields #[.ref h.objs.size, .none, .none, .none, .bool false, .none] }).get? (h.objs.size + 1) = some
      { cls := .ref C, data := .fields #[.ref h.objs.size, .none, .none, .none, .bool false, .none] } := by heap_get
  have hcC : (Value.ref C :: bm).contains (.ref C) = true := by simp
  have T₁ := T.keeps (h' := (h.push { cls := .type "tuple", data := .seq rest.toArray }).push { cls := .ref C, data := .fields #[.ref h.objs.size, .none, .none, .none, .bool false, .none] })
    fun b o e => Heap.get?_push_of_some _ (Heap.get?_push_of_some _ e)
  unfold isInstance
  repeat (first | with_reducible refine wpAny_loadPart_at hget ?_ | (with_reducible refine wpAny_isSubtype_exc hC₁ ?_; rw [hcC]) | wp_step)
  show wpAny _ _ (typeLookup (.ref C) _) _ _ _
  refine wpAny_typeLookup_tail hC₁ hn₁ T₁ F.mroIs F.init.lookup ?_
  rw [hni]
  refine wpAny_holding (wpAny_bind (wpAny_of_eq (F.init.bind _) ?_))
  refine wpAny_bind (wpAny_call (codeAny_call_builtin F.init.plain F.initEntry (wpAny_check_init_subU F T₁ hC₁ hget rfl ?_)))
  wp_walk
  refine hq _ (h.objs.size + 2) (fun b o hb => ?_) ?_
  · rw [Heap.get?_update_other _ _ (Nat.ne_of_gt (Nat.lt_succ_of_lt (Heap.lt_size hb)))]
    exact Heap.get?_push_of_some _ (Heap.get?_push_of_some _ (Heap.get?_push_of_some _ hb))
  · rw [Heap.get?_update_self _ (Heap.get?_push_of_some _ hget) rfl]
    simp only [Heap.size_push]
    rfl
theorem call_exc0 (T : OwnTail h bmV bm) {mN : Str → Option Value} {rest : List Value} {Q : Value → Shared → Prop}
    (hC : h.get? C = some (excClassObj nm q C N bs bm hdct sn sub ab col dd k0 k1 k2 k3 k5 "ValueError.__new__")) (hn : h.Ns N mN) (hni : mN "__init__" = none) (hrest : rest.length ≤ sizeLine)
    (hq : ∀ h' t2, (∀ b o, h.get? b = some o → h'.get? b = some o) → h'.get? (h.objs.size + 1) = some (excObj C t2 none) → Q (.ref (h.objs.size + 1)) ⟨h', g, d, t, os⟩) :
    wpAny (model prog w) A (call (.ref C) rest) Q E ⟨h, g, d, t, os⟩ := by
  have f1 := tc_lookup
  have f2 := PySem.tc_bind (.ref C)
  have hT : (⟨h, g, d, t, os⟩ : Shared).TypeIs (.ref C) "type" := ⟨_, hC, rfl⟩
  refine wpAny_call (codeAny_of_tree ?_)
  show wpAny _ _ (callAny (.ref C) _) _ _ _
  repeat (any_goals (first | assumption | with_reducible refine wpAny_loadPart_at hC ?_ | wp_step))
  refine ⟨rfl, ?_⟩
  refine codeAny_call_builtin_at (Code.quiet_builtin _ (by decide +kernel)) entry_typeCall (wpAny_check_type_call_sub hC (exc_type_call0 T hC hn hni hrest fun h' t2 hk hg => ?_))
  exact hq h' t2 hk hg
end
section
variable {X : Cx} {pins : List (Addr × Obj)} {σ : St} {H : Hp} {s : Shared}
theorem Inv.unt {e : Addr} {φ : Heap → Prop} (I : Inv X pins σ H s) (he : H e = some (.ext φ)) : Inv X pins σ (unt H e) s := by
  have hn : ∀ b, H b = none → L2.unt H e b = none := fun b h => by
    by_cases q : b = e
    · rw [q, unt_same]
    · rw [unt_ne q]; exact h
  have hk : ∀ b o, H b = some o → (∀ φ, o ≠ .ext φ) → L2.unt H e b = some o := fun b o h ho => by
    rw [unt_ne (fun q => ?_)]
    · exact h
    · rw [q, he] at h
      cases h
      exact ho _ rfl
  refine ⟨I.ok, I.os, I.bare, ⟨I.base.keep, I.base.slot, fun b o q n hx => hn b (I.base.free b o q n hx), I.base.there, fun b xs q => hk b _ (I.base.tups b xs q) (fun φ z => nomatch z), fun b o u q => hk b _ (I.base.frzs b o u q) (fun φ z => nomatch z), fun b ps q => ?_⟩, I.loc, I.cell, hn _ I.free, fun x c h => hn _ (I.freeC x c h), fun p hp => ?_, fun b o q => ?_, I.len⟩
  · obtain ⟨more, z⟩ := I.base.tbls b ps q
    exact ⟨more, hk b _ z (fun φ w => nomatch w)⟩
  · obtain ⟨a, b, c⟩ := I.pin p hp
    exact ⟨a, hn _ b, c⟩
  · have hb : b ≠ e := fun z => by rw [z, unt_same] at q; cases q
    rw [unt_ne hb] at q
    exact (I.hok b o q).stay (fun _ _ _ z => z) (fun c z => hk c _ z (fun φ w => nomatch w)) fun c xs z => hk c _ z (fun φ w => nomatch w)
def RaiseX (C : Addr) (sp : Sp) (E : St → XK) (σ : St) (vs : List V) (H1 : Hp) : Prop := vs.length ≤ 10 ∧ ∀ e, H1 e = none → sp (.ref e :: vs) (upd H1 e (XO e C none)) (fun v H2 => v = .non ∧ V.ref e = .ref e ∧ ∃ dx, H2 e = some (XO e C dx) ∧ E σ (.ref C) dx (L2.unt H2 e)) E0
theorem ps_raiseX {E : St → XK} {R : St → List V → Hp → Prop} {k : Nat} {f C L : Addr} {fd : FuncData} {ps : List Str} {sp : Sp} {x : Str} {np cpos pos : Pos} {e : Expr} {es : List Expr} {t : TA} (hL : X.env.frame = some L) (hcm : X.calm = true)
    (M : MkX X.K C f) (F : FnOk X.prog X.w X.K X.mg X.base CX0 k f fd ps sp) (hr : Room (k + 1) X.A) (hg : Gl X x) (hm : X.mg x = some (.ref C)) (hb : Binds X.K fd ps []) (hR : ∀ σ vs H1, R σ vs H1 → RaiseX C sp E σ vs H1)
    (ha : PA (X.wish (Fly X E)) (e :: es) t) (hdb : (x == ("__debug__" : Str)) = false := by decide) (he : starEach (e :: es) X.env = (false, eval e X.env) :: starEach es X.env := by rfl) (hpl : (backTo cpos (starEach es X.env)).any (·.1) = false := by rfl) :
    PS (X.wish (Fly X E)) (.Raise (some (.Call (.Name x np) (e :: es) [] cpos)) none pos) (fun _ σ H => t σ H (R σ)) := by
  intro pins s σ H D I h
  obtain ⟨bm, N, nm, qn, bs, hd, sn, sub, ab, col, dd, k0, k1, k2, k3, k5, mN, hC, hn, hni, T⟩ := xcls_of I.kIn M.cls
  have hbase : bm.contains (.type "BaseException") = true := T.hasType (by decide)
  rw [arm_exec_Raise]
  refine wpAny_bind (wpAny_standAt (raise_made (C := C) (nm := nm) (q := qn) (N := N) (bs := bs) (bm := bm) (hdct := hd) (sn := sn) (sub := sub) (ab := ab) (col := col) (dd := dd) (k0 := k0) (k1 := k1) (k2 := k2) (k3 := k3) (k5 := k5) (newId := "ValueError.__new__") hbase (I.ok.hd hcm) ?_))
  show wpAny _ _ (do let v ← eval (.Call (.Name x np) (e :: es) [] cpos) X.env; standAt pos; pure v) _ _ _
  refine wpAny_bind (wpAny_mono (wpAny_Call_Name_kw (ld_glob I hg hm ?_ hdb)) (fun v s₃ h₃ => wpAny_bind (wpAny_standAt (wpAny_pure h₃))) fun _ _ z => z)
  refine PySem.W.callWith_K (h₀ := X.base) I.ok.mod.kin M.kp (thn (ha cpos pins s σ H _ I h) fun us s1 ⟨vs, H1, I1, r, q0⟩ => ⟨I1.kIn, ?_⟩) he hpl
  obtain ⟨hl, q⟩ := hR σ vs H1 q0
  refine thn (run_excAt (X := X.wish (Fly X E)) (Q := fun v H2 => v = .ref (s1.heap.objs.size + 1) ∧ ∃ dx, H2 (s1.heap.objs.size + 1) = some (XO (s1.heap.objs.size + 1) C dx) ∧ E σ (.ref C) dx (L2.unt H2 (s1.heap.objs.size + 1))) M F hr hb I1 r hl ?_) fun v s2 ⟨y, H2, I2, ry, ey, dx, he2, hE2⟩ => ?_
  · exact q (s1.heap.objs.size + 1) (I1.hok.fresh (Nat.le_succ _))
  · subst ey
    obtain rfl : v = Value.ref (s1.heap.objs.size + 1) := ry
    obtain ⟨⟨t2, ho2⟩, _⟩ := I2.hok _ _ he2
    refine ⟨_, t2, dx, rfl, (xcls_same I.kIn I2.kIn M.cls).trans hC, ho2, ?_⟩
    exact ⟨_, .ref C, dx, σ, _, L, rfl, hL, (I2.unwish.nopins).unt he2, ⟨Nat.le_trans I1.sz (Nat.le_succ _), unt_same, I1.unwish.pnlt (Nat.le_succ _)⟩, ⟨_, _, .none, ho2, rfl, rfl, rfl, rfl, .inl rfl⟩, hE2⟩
def tRaise0 (C : Addr) (E : St → XK) (t : TA) : TS := fun _ σ H => t σ H fun vs H1 => vs.length ≤ 10 ∧ E σ (.ref C) none H1
structure MkX0 (K : PySem.W.Frag) (C : Addr) : Prop where
  cls : xclsIn K C none = true
  kp : PySem.W.keepIn K (.ref C) = true
theorem ps_raise0 {E : St → XK} {C L : Addr} {x : Str} {np cpos pos : Pos} {e : Expr} {es : List Expr} {t : TA} (hL : X.env.frame = some L) (hcm : X.calm = true)
    (M : MkX0 X.K C) (hg : Gl X x) (hm : X.mg x = some (.ref C))
    (ha : PA (X.wish (Fly X E)) (e :: es) t) (hdb : (x == ("__debug__" : Str)) = false := by decide) (he : starEach (e :: es) X.env = (false, eval e X.env) :: starEach es X.env := by rfl) (hpl : (backTo cpos (starEach es X.env)).any (·.1) = false := by rfl) :
    PS (X.wish (Fly X E)) (.Raise (some (.Call (.Name x np) (e :: es) [] cpos)) none pos) (tRaise0 C E t) := by
  intro pins s σ H D I h
  obtain ⟨bm, N, nm, qn, bs, hd, sn, sub, ab, col, dd, k0, k1, k2, k3, k5, mN, hC, hn, hni, T⟩ := xcls_of I.kIn M.cls
  have hbase : bm.contains (.type "BaseException") = true := T.hasType (by decide)
  rw [arm_exec_Raise]
  refine wpAny_bind (wpAny_standAt (raise_made (C := C) (nm := nm) (q := qn) (N := N) (bs := bs) (bm := bm) (hdct := hd) (sn := sn) (sub := sub) (ab := ab) (col := col) (dd := dd) (k0 := k0) (k1 := k1) (k2 := k2) (k3 := k3) (k5 := k5) (newId := "ValueError.__new__") hbase (I.ok.hd hcm) ?_))
  show wpAny _ _ (do let v ← eval (.Call (.Name x np) (e :: es) [] cpos) X.env; standAt pos; pure v) _ _ _
  refine wpAny_bind (wpAny_mono (wpAny_Call_Name_kw (ld_glob I hg hm ?_ hdb)) (fun v s₃ h₃ => wpAny_bind (wpAny_standAt (wpAny_pure h₃))) fun _ _ z => z)
  refine PySem.W.callWith_K (h₀ := X.base) I.ok.mod.kin M.kp (thn (ha cpos pins s σ H _ I h) fun us s1 ⟨vs, H1, I1, r, hl, q⟩ => ⟨I1.kIn, ?_⟩) he hpl
  obtain ⟨bm2, N2, nm2, qn2, bs2, hd2, sn2, sub2, ab2, col2, dd2, j0, j1, j2, j3, j5, mN2, hC2, hn2, hni2, T2⟩ := xcls_of I1.kIn M.cls
  have hus : us.length ≤ sizeLine := smallL (by have := r.length; omega)
  obtain ⟨hp, g, d, tk, os⟩ := s1
  refine call_exc0 T2 hC2 hn2 hni2 hus fun h' t2 hk ho2 => ?_
  have I2 : Inv (X.wish (Fly X E)) pins σ H1 ⟨h', g, d, tk, os⟩ := I1.kept (t' := tk) hk
  refine ⟨_, t2, none, rfl, (xcls_same I.kIn I2.kIn M.cls).trans hC, ho2, ?_⟩
  exact ⟨_, .ref C, none, σ, H1, L, rfl, hL, I2.unwish.nopins, I1.unwish.fr0 (Nat.le_succ _), ⟨_, _, .none, ho2, rfl, rfl, rfl, rfl, .inl rfl⟩, q⟩
end
end L2
namespace L2
open PySem PySem.Spec PyProof.Rows PySem.W PySem.Calls
section
variable {M : Model} {A : Around} {E : Value → Shared → Prop} {s : Shared}
theorem find_erase {α : Type} {p : α → Bool} : ∀ {l : List α} {i : Nat}, (∀ x, l[i]? = some x → p x = false) → (l.eraseIdx i).find? p = l.find? p
  | [], _, _ => rfl
  | x :: l, 0, h => by
    have hx := h x rfl
    show l.find? p = (x :: l).find? p
    rw [List.find?_cons, hx]
  | x :: l, i + 1, h => by
    have ih := find_erase (l := l) (i := i) fun y hy => h y (by simpa using hy)
    show (x :: l.eraseIdx i).find? p = (x :: l).find? p
    rw [List.find?_cons, List.find?_cons, ih]
theorem nsDelX {a : Addr} {m} {name : Str} {Q : Bool → Shared → Prop} (hn : s.heap.Ns a m)
    (hQ : ∀ h' m', h'.Ns a m' → (∀ y, y ≠ name → m' y = m y) → Heap.SameBut a s.heap h' → Q (m name).isSome { s with heap := h' }) : wpAny M A (nsDel a name) Q E s := by
  obtain ⟨o, es, ep, ho, hd, hk, hm⟩ := id hn
  have hany : es.any (·.refKey) = false := by
    rw [Array.any_eq_false']; intro e he; obtain ⟨n, t, h⟩ := hk e he; simp [DictEntry.refKey, h]
  have hsome : (m name).isSome = es.any (·.key.isStr name) := by
    rw [← hm name]; simp only [nsFind, findBy, Option.isSome_map]
    rw [Bool.eq_iff_iff]; simp only [Array.find?_isSome, Array.any_eq_true]
    constructor
    · rintro ⟨x, hx, hp⟩; obtain ⟨i, hi, rfl⟩ := Array.mem_iff_getElem.mp hx; exact ⟨i, hi, hp⟩
    · rintro ⟨i, hi, hp⟩; exact ⟨_, Array.getElem_mem hi, hp⟩
  have hhas : nsHas name o = pure (es.any (·.key.isStr name)) := by
    rw [nsHas_eq]; unfold nsHasByArray; rw [hd]
    show (if (es.any fun x => x.key.isStr name) = true then _ else _) = _
    generalize (es.any fun x => x.key.isStr name) = b
    cases b <;> simp [hany]
  unfold nsDel
  refine wpAny_bind (wpAny_loadPart ho ?_)
  rw [hhas]
  refine wpAny_bind (wpAny_pure ?_)
  rw [← hsome]
  cases hmn : (m name).isSome
  · have := hQ s.heap m hn (fun _ _ => rfl) (.refl ..)
    rw [hmn] at this
    exact wpAny_pure this
  · refine wpAny_bind (wpAny_updatePart ho (wpAny_pure ?_))
    have key : ∃ m', (s.heap.update a (Obj.dropName name)).Ns a m' ∧ ∀ y, y ≠ name → m' y = m y := by
      obtain ⟨cl, d, dt, sl⟩ := o
      subst hd
      cases hi : es.findIdx? (·.key.isStr name) with
      | some i =>
        refine ⟨_, ⟨_, _, ep + 1, Heap.get?_update_self _ ho (by simp only [Obj.dropName_eq, Obj.dropNameByArray, hi] <;> rfl), (by simp only [Obj.dropName_eq, Obj.dropNameByArray, hi] <;> rfl), hk.erase i, fun _ => rfl⟩, fun y hy => ?_⟩
        rw [← hm y]
        show nsFind (es.eraseIdxIfInBounds i) y = nsFind es y
        obtain ⟨l⟩ := es
        simp only [nsFind, findBy, List.eraseIdxIfInBounds_toArray, List.find?_toArray, List.findIdx?_toArray] at hi ⊢
        rw [L2.find_erase fun x hx => ?_]
        obtain ⟨hil, hp, _⟩ := List.findIdx?_eq_some_iff_getElem.mp hi
        have ex : l[i] = x := by
          rw [List.getElem?_eq_getElem hil] at hx
          exact Option.some.inj hx
        rw [ex] at hp
        cases hk2 : x.key with
        | str z t =>
          rw [hk2] at hp
          have hz : z = name := by simpa [Value.isStr] using hp
          show (z == y) = false
          rw [hz, beq_eq_false_iff_ne]
          exact fun e => hy e.symm
        | _ => rfl
      | none => exact ⟨_, ⟨_, _, ep, Heap.get?_update_self _ ho (by simp only [Obj.dropName_eq, Obj.dropNameByArray, hi] <;> rfl), (by simp only [Obj.dropName_eq, Obj.dropNameByArray, hi] <;> rfl), hk, fun _ => rfl⟩, fun y _ => hm y⟩
    obtain ⟨m', hm', hy⟩ := key
    have := hQ _ m' hm' hy (Heap.SameBut.update ..)
    rw [hmn] at this
    exact this
theorem nameGoesX {env : Env} {n : Str} {pos : Pos} {m : Str → Option Value} {Q : Unit → Shared → Prop} (hl : env.kindOf n = some .local) (hn : s.heap.Ns env.locals m)
    (hp : (env.scope.kind == .class || (env.scope.kind == .module && env.locals != env.globals)) = false)
    (h : ∀ h' m', h'.Ns env.locals m' → (∀ y, y ≠ n → m' y = m y) → Heap.SameBut env.locals s.heap h' → Q () { s with heap := h', toks := s.toks + 1 }) :
    wpAny M A (do bindName env n .none; unbindBehindTheSuite env n pos) Q E s := by
  refine wpAny_bind (wpAny_bindName (wpAny_storeName_local hl hn (fun h₁ hn₁ hs₁ => ?_) hp))
  unfold unbindBehindTheSuite
  refine wpAny_onRaise ?_
  unfold unbindName
  refine wpAny_bind (wpAny_point (wpAny_bind ?_))
  unfold deleteName
  simp only [hl, hp]
  rw [if_neg (by decide)]
  refine wpAny_bind (nsDelX hn₁ fun h₂ m₂ hn₂ hy hs₂ => ?_)
  simp only [if_true, Option.isSome_some, Bool.not_true, Bool.false_eq_true, if_false]
  exact wpAny_pure (wpAny_point (h h₂ m₂ hn₂ (fun y hyn => by rw [hy y hyn, if_neg hyn]) (hs₁.trans hs₂)))
end
section
variable {X : Cx} {pins : List (Addr × Obj)} {σ : St} {H : Hp} {s : Shared}
theorem gone_ok {M : Model} {A : Around} {E : Value → Shared → Prop} {i : Nat} {x : Str} {pos : Pos} {Q : Unit → Shared → Prop} (I : Inv X pins σ H s) (hN : X.N.Nodup) (hi : X.N[i]? = some x) (hk : X.env.scope.names.lookup x = some .local)
    (h : ∀ s', Inv X pins (σ.set i none) H s' → Q () s') : wpAny M A (do bindName X.env x .none; unbindBehindTheSuite X.env x pos) Q E s := by
  obtain ⟨m, hn, hl⟩ := id I.loc
  have hcls : (X.env.scope.kind == .class || (X.env.scope.kind == .module && X.env.locals != X.env.globals)) = false := by rw [I.ok.kind]; rfl
  have hiσ : i < σ.length := by rw [I.len]; exact (List.getElem?_eq_some_iff.mp hi).1
  have cne := I.cne
  refine nameGoesX hk hn hcls fun h' m' hn' hy hs => ?_
  obtain ⟨oL, _, _, hoL, _⟩ := id hn
  refine h _ ⟨I.ok, I.os, I.bare, ⟨fun b o e n hb hx => ?_, fun b o e n hb hx => ?_, I.base.free, fun b o e hx => ?_, I.base.tups, I.base.frzs, I.base.tbls⟩, ⟨_, hn', fun j y v' e1 e2 e3 => ?_⟩, fun y c e => ?_, I.free, I.freeC, fun p hp => ?_, fun b ob e => ?_, by simpa using I.len⟩
  · exact (hs.2 b (Nat.ne_of_lt (Nat.lt_of_lt_of_le (Heap.lt_size e) I.ok.above))).trans (I.base.keep b o e n hb hx)
  · obtain ⟨sl, e1⟩ := I.base.slot b o e n hb hx
    exact ⟨sl, (hs.2 b (Nat.ne_of_lt (Nat.lt_of_lt_of_le (Heap.lt_size e) I.ok.above))).trans e1⟩
  · obtain ⟨o', e1⟩ := I.base.there b o e hx
    exact ⟨o', (hs.2 b (Nat.ne_of_lt (Nat.lt_of_lt_of_le (Heap.lt_size e) I.ok.above))).trans e1⟩
  · by_cases hj : j = i
    · subst hj
      rw [List.getElem?_set_self hiσ] at e2
      cases e2
    · rw [List.getElem?_set_ne (Ne.symm hj)] at e2
      obtain ⟨u', r', q⟩ := hl j y v' e1 e2 e3
      refine ⟨u', r', ?_⟩
      rcases q with ⟨k, e⟩ | ⟨k, c, e, z⟩
      · refine .inl ⟨k, ?_⟩
        have : y ≠ x := fun e => hj (nodup_ix hN e1 (e ▸ hi))
        rw [hy y this, e]
      · exact .inr ⟨k, c, e, z.sameBut hs (cne y c e)⟩
  · obtain ⟨w', z⟩ := I.cell y c e
    exact ⟨w', z.sameBut hs (cne y c e)⟩
  · obtain ⟨e, n, ne, nf, d⟩ := I.pin p hp
    exact ⟨(hs.2 p.1 ne).trans e, n, ne, nf, d⟩
  · refine (I.hok b ob e).stay (fun c w' hc q => (hs.2 c ?_).trans q) (fun _ q => q) fun _ _ q => q
    rintro rfl
    rcases hc with rfl | hc
    · rw [I.free] at e; cases e
    · rw [I.free] at hc; cases hc
abbrev Cx.suite (X : Cx) (e : Addr) : Cx := { X with A := X.A.mark (some (.ref e)), calm := false, xe := fun _ _ => False }
theorem Inv.suite (I : Inv X pins σ H s) (e : Addr) : Inv (X.suite e) pins σ H s :=
  ⟨⟨I.ok.mod, I.ok.kind, I.ok.glob, I.ok.blt, I.ok.above, I.ok.inj, I.ok.has, I.ok.cab, (fun z => nomatch z), I.ok.frames, I.ok.stk, I.ok.exf, I.ok.bs, I.ok.bsz, I.ok.noex, I.ok.exfs, I.ok.funs, I.ok.frf⟩, I.os, I.bare, I.base, I.loc, I.cell, I.free, I.freeC, I.pin, I.hok, I.len⟩
theorem Inv.unsuite {e : Addr} {A : Around} {c : Bool} {xe : Value → Shared → Prop} (hA : A.frames = some X.stack) (hd : c = true → A.handled = none) (I : Inv (X.suite e) pins σ H s) : Inv { X with A := A, calm := c, xe := xe } pins σ H s :=
  ⟨⟨I.ok.mod, I.ok.kind, I.ok.glob, I.ok.blt, I.ok.above, I.ok.inj, I.ok.has, I.ok.cab, hd, hA, I.ok.stk, I.ok.exf, I.ok.bs, I.ok.bsz, I.ok.noex, I.ok.exfs, I.ok.funs, I.ok.frf⟩, I.os, I.bare, I.base, I.loc, I.cell, I.free, I.freeC, I.pin, I.hok, I.len⟩
end
end L2
namespace L2
open PySem PySem.Spec PyProof.Rows PySem.W PySem.Calls
theorem xcls_mro {K : PySem.W.Frag} {h : Heap} {C : Addr} {init : Option Addr} {nm q : Str} {N : Addr} {bs bm : List Value} {hdct : Bool} {sn : List Str} {sub : List Value} {ab : Bool} {col : Option Bool} {dd : Option Addr} {k0 k1 k2 k3 k5 : Option Value} {newId : String}
    (X : K.In h) (hq : xclsIn K C init = true) (hC : h.get? C = some (excClassObj nm q C N bs bm hdct sn sub ab col dd k0 k1 k2 k3 k5 newId)) (v : Value) : mroIn K C v = some ((Value.ref C :: bm).contains v) := by
  unfold xclsIn at hq
  split at hq
  · rename_i ho
    have e := X _ _ ho
    rw [hC] at e
    cases e
    unfold mroIn clsIn
    rw [ho]
    rfl
  · cases hq
section
variable {M : Model} {A : Around} {E : Value → Shared → Prop} {h : Heap} {g : Array GenState} {d : Drawn} {t : Nat} {os : OsState}
theorem match_x {K : PySem.W.Frag} {e C B : Addr} {oe : Obj} {init initB : Option Addr} {b : Bool} {Q : Bool → Shared → Prop} (X : K.In h) (hC : xclsIn K C init = true) (hB : xclsIn K B initB = true) (he : h.get? e = some oe) (hcls : oe.cls = .ref C)
    (hm : mroIn K C (.ref B) = some b) (hq : Q b ⟨h, g, d, t, os⟩) : wpAny M A (excMatches (.ref e) (.ref B)) Q E ⟨h, g, d, t, os⟩ := by
  obtain ⟨bm, N, nm, qn, bs, hd, sn, sub, ab, col, dd, k0, k1, k2, k3, k5, mN, oC, _, _, T⟩ := xcls_of X hC
  obtain ⟨bm2, N2, nm2, qn2, bs2, hd2, sn2, sub2, ab2, col2, dd2, j0, j1, j2, j3, j5, mN2, oB, _, _, T2⟩ := xcls_of X hB
  have hcm : (Value.ref C :: bm).contains (.ref B) = b := by
    have := xcls_mro X hC oC (.ref B)
    rw [hm] at this
    exact (Option.some.inj this).symm
  have hbB : (Value.ref B :: bm2).contains (.type "BaseException") = true := by rw [List.contains_cons, T2.hasType (show bmV.contains (.type "BaseException") = true by decide), Bool.or_true]
  have f := tc_notTuple
  unfold excMatches
  repeat (first | (with_reducible refine wpAny_loadPart_at he ?_; rw [hcls]) | with_reducible refine wpAny_loadPart_at oB ?_ | with_reducible refine wpAny_loadPart_at oC ?_ | (with_reducible refine wpAny_isSubtype_exc oB ?_; rw [hbB]) | (with_reducible refine wpAny_isSubtype_exc oC ?_; rw [hcm]) | wp_step)
  cases b <;> (wp_walk; exact hq)
end
abbrev XE (e C : Addr) (dx : Option Addr) : HO := .ext fun h => ∃ o vs, h.get? e = some o ∧ o.cls = .ref C ∧ o.dict = dx ∧ o.data = .fields vs
abbrev THd := Ends → St → Value → Option Addr → Hp → Prop
def PHs (X : Cx) (hs : List ExceptHandler) (th : THd) : Prop := ∀ (e : Addr) (cls : Value) (dx : Option Addr) (σ : St) (H : Hp) (s : Shared) (D : Ends), Inv X [] σ H s → Fr0 X H e → ExcAt (TbAt (Fr0 X H) e .none) s.heap e cls dx → th D σ cls dx H →
  wpAny (model X.prog X.w) X.A (handleBy (.ref e) X.env hs) (SP X [] D) X.xe s
def tNoHd : THd := fun _ _ _ _ _ => False
theorem ph_nil {X : Cx} : PHs X [] tNoHd := fun _ _ _ _ _ _ _ _ _ _ h => h.elim
def Dg (i : Nat) (D : Ends) : Ends := { nx := fun σ H => D.nx (σ.set i none) H, rt := D.rt, bk := fun σ H => D.bk (σ.set i none) H, ct := fun σ H => D.ct (σ.set i none) H }
def tHd (K : PySem.W.Frag) (B : Addr) (i : Nat) (ts : TS) (tr : THd) : THd := fun D σ cls dx H => ∃ C init b, cls = .ref C ∧ xclsIn K C init = true ∧ mroIn K C (.ref B) = some b ∧
  (if b = true then ∀ e, H e = none → ts (Dg i D) (σ.set i (some (.ref e))) (upd H e (XE e C dx)) else tr D σ cls dx H)
section
variable {X : Cx} {σ : St} {H : Hp} {s : Shared}
theorem Inv.track {e C : Addr} {dx : Option Addr} {o : Obj} {vs : Array Value} (I : Inv X [] σ H s) (he : Fr0 X H e) (ho : s.heap.get? e = some o) (hc : o.cls = .ref C) (hdx : o.dict = dx) (hd : o.data = .fields vs) : Inv X [] σ (upd H e (XE e C dx)) s := by
  obtain ⟨h1, h2, h3⟩ := he
  have hk : ∀ b u, H b = some u → upd H e (XE e C dx) b = some u := fun b u q => by rw [upd_ne (ne_of_none q h2)]; exact q
  have hne : ∀ b, b ≠ e → H b = none → upd H e (XE e C dx) b = none := fun b hb q => by rw [upd_ne hb]; exact q
  have hl : X.env.locals ≠ e := fun q => by
    obtain ⟨m, ⟨o2, es, ep, ho2, hd2, _⟩, _⟩ := I.loc
    rw [q, ho] at ho2
    cases ho2
    rw [hd] at hd2
    cases hd2
  refine ⟨I.ok, I.os, I.bare, ⟨I.base.keep, I.base.slot, fun b u q n hx => hne b (fun z => ?_) (I.base.free b u q n hx), I.base.there, fun b xs q => hk b _ (I.base.tups b xs q), fun b u v q => hk b _ (I.base.frzs b u v q), fun b ps q => ?_⟩, I.loc, I.cell, hne _ hl I.free, fun x c h => hne _ (fun z => ?_) (I.freeC x c h), fun p hp => ?_, fun b u q => ?_, I.len⟩
  · rw [z] at q
    exact absurd (Heap.lt_size q) (Nat.not_lt.mpr h1)
  · obtain ⟨more, z⟩ := I.base.tbls b ps q
    exact ⟨more, hk b _ z⟩
  · obtain ⟨v, o2, ho2, hd2⟩ := I.cell x c h
    rw [z, ho] at ho2
    cases ho2
    rw [hd] at hd2
    cases hd2
  · obtain ⟨p1, p2, p3⟩ := I.pin p hp
    rw [List.append_nil] at hp
    exact ⟨p1, hne _ (h3 p hp) p2, p3⟩
  · by_cases hb : b = e
    · subst hb
      rw [upd_same] at q
      cases q
      refine ⟨⟨o, vs, ho, hc, hdx, hd⟩, ⟨o, ho⟩, ?_⟩
      rintro g1 g2 ⟨o', vs', a1, a2⟩ kk
      exact ⟨o', vs', kk _ a1, a2⟩
    · rw [upd_ne hb] at q
      exact (I.hok b u q).stay (fun _ _ _ z => z) (fun c z => hk c _ z) fun c xs z => hk c _ z
theorem ph_cons {B : Addr} {initB : Option Addr} {x n : Str} {i : Nat} {np hpos : Pos} {b₀ : Stmt} {suite : List Stmt} {rest : List ExceptHandler} {ts : TS} {tr : THd} (hg : Gl X x) (hm : X.mg x = some (.ref B)) (hB : xclsIn X.K B initB = true)
    (hN : X.N.Nodup) (hi : X.N[i]? = some n) (hk : X.env.scope.names.lookup n = some .local) (hsuite : ∀ e, PSs (X.suite e) (b₀ :: suite) ts) (hrest : PHs X rest tr) (hdb : (x == ("__debug__" : Str)) = false := by decide) :
    PHs X (.ExceptHandler (some (.Name x np)) (some n) (b₀ :: suite) hpos :: rest) (tHd X.K B i ts tr) := by
  rintro e cls dx σ H s D I he hx ⟨C, init, b, rfl, hC, hmr, hb⟩
  obtain ⟨oe, vs, hd, ho, hc, hdi, hdt, h1, hT⟩ := id hx
  refine wpAny_handleBy_cons (codeAny_handlers_test (ld_glob (X := X.suite e) (I.suite e) hg hm ?_ hdb)) (by intro q; cases q)
  obtain ⟨hp, g, d, tk, os⟩ := s
  refine match_x I.kIn hC hB ho hc hmr ?_
  cases b with
  | false => exact hrest e (.ref C) dx σ H _ D I he hx hb
  | true =>
    refine codeAny_handlers_suite_as ?_
    refine fly_mark (s := ⟨hp, g, d, tk, os⟩) (fr := none) I he hx fun h2 I2 hx2 => ?_
    obtain ⟨oe2, vs2, hd2, ho2, hc2, hdi2, hdt2, h12, hT2⟩ := id hx2
    have I3 := I2.track he ho2 hc2 hdi2 hdt2
    refine store_ok (v := .ref e) I3 hN hi (.inl hk) rfl (fun s' I4 => ?_) (.inr hk)
    have hb2 := hb e he.2.1
    refine wpAny_mono (hsuite e [] s' (σ.set i (some (.ref e))) _ (Dg i D) (I4.suite e) hb2) (fun f s3 q => ?_) fun _ _ z => z.elim
    cases f with
    | next =>
      obtain ⟨σ', H', I5, q⟩ := q
      exact gone_ok (X := X) (I5.unsuite (X := X) (A := X.A) (c := X.calm) (xe := X.xe) I.ok.frames I.ok.hd) hN hi hk fun s5 I6 => ⟨_, H', I6, q⟩
    | brk =>
      obtain ⟨σ', H', I5, q⟩ := q
      exact gone_ok (X := X) (I5.unsuite (X := X) (A := X.A) (c := X.calm) (xe := X.xe) I.ok.frames I.ok.hd) hN hi hk fun s5 I6 => ⟨_, H', I6, q⟩
    | cont =>
      obtain ⟨σ', H', I5, q⟩ := q
      exact gone_ok (X := X) (I5.unsuite (X := X) (A := X.A) (c := X.calm) (xe := X.xe) I.ok.frames I.ok.hd) hN hi hk fun s5 I6 => ⟨_, H', I6, q⟩
    | ret u =>
      obtain ⟨v, σ', H', I5, r5, q⟩ := q
      exact gone_ok (X := X) (I5.unsuite (X := X) (A := X.A) (c := X.calm) (xe := X.xe) I.ok.frames I.ok.hd) hN hi hk fun s5 I6 => ⟨v, _, H', I6, r5, q⟩
abbrev Cx.pinned (X : Cx) (pn : List (Addr × Obj)) : Cx := { X with pn := pn }
theorem Inv.heldP {pins : List (Addr × Obj)} (I : Inv X pins σ H s) : Inv (X.pinned (X.pn ++ pins)) [] σ H s :=
  ⟨⟨I.ok.mod, I.ok.kind, I.ok.glob, I.ok.blt, I.ok.above, I.ok.inj, I.ok.has, I.ok.cab, I.ok.hd, I.ok.frames, I.ok.stk, I.ok.exf, I.ok.bs, I.ok.bsz, I.ok.noex, I.ok.exfs, I.ok.funs, I.ok.frf⟩, I.os, I.bare, I.base, I.loc, I.cell, I.free, I.freeC, fun p hp => I.pin p (by rwa [List.append_nil] at hp), I.hok, I.len⟩
theorem Inv.unheldP {pins : List (Addr × Obj)} (I : Inv (X.pinned (X.pn ++ pins)) [] σ H s) : Inv X pins σ H s :=
  ⟨⟨I.ok.mod, I.ok.kind, I.ok.glob, I.ok.blt, I.ok.above, I.ok.inj, I.ok.has, I.ok.cab, I.ok.hd, I.ok.frames, I.ok.stk, I.ok.exf, I.ok.bs, I.ok.bsz, I.ok.noex, I.ok.exfs, I.ok.funs, I.ok.frf⟩, I.os, I.bare, I.base, I.loc, I.cell, I.free, I.freeC, fun p hp => I.pin p (by rw [List.append_nil]; exact hp), I.hok, I.len⟩
theorem SP.unheldP {pins : List (Addr × Obj)} {D : Ends} {f : Flow} {s' : Shared} (h : SP (X.pinned (X.pn ++ pins)) [] D f s') : SP X pins D f s' := by
  cases f with
  | next => obtain ⟨σ', H', I, q⟩ := h; exact ⟨σ', H', I.unheldP, q⟩
  | brk => obtain ⟨σ', H', I, q⟩ := h; exact ⟨σ', H', I.unheldP, q⟩
  | cont => obtain ⟨σ', H', I, q⟩ := h; exact ⟨σ', H', I.unheldP, q⟩
  | ret u => obtain ⟨v, σ', H', I, r, q⟩ := h; exact ⟨v, σ', H', I.unheldP, r, q⟩
theorem ps_try {body : List Stmt} {h₀ : ExceptHandler} {hs : List ExceptHandler} {pos : Pos} {tb : Ends → TS} {th : THd} (hst : X.stack = X.env :: X.outer) (hb : ∀ D pn, PSs ((X.pinned pn).wish (Fly (X.pinned pn) (th D))) body (tb D)) (hh : ∀ pn, PHs (X.pinned pn) (h₀ :: hs) th) :
    PS X (.Try body (h₀ :: hs) [] [] pos) (fun D σ H => tb D D σ H) := by
  intro pins s σ H D I h
  have I0 := I.heldP
  refine wpAny_Try_except (wpAny_mono (hb D (X.pn ++ pins) [] s σ H D (I0.wish _) h) (fun f s1 q => ?_) fun ev s1 q => ?_)
  · cases f with
    | next =>
      obtain ⟨σ', H', I', q⟩ := q
      exact wpAny_execs_nil ⟨σ', H', I'.unwish.unheldP, q⟩
    | ret v => exact SP.unheldP (SP.unwish q)
    | brk => exact SP.unheldP (SP.unwish q)
    | cont => exact SP.unheldP (SP.unwish q)
  · refine fly_note (X := X.pinned (X.pn ++ pins)) I0.ok.frames hst q fun h' e cls dx σ1 H1 L hev hL I1 he hx hE => ?_
    subst hev
    exact fly_mark (s := { s1 with heap := h' }) (fr := none) I1 he hx fun h2 I2 hx2 => thn (hh (X.pn ++ pins) e cls dx σ1 H1 _ D I2 he hx2 hE) fun f s3 q => SP.unheldP q
end
end L2
namespace L2
open PySem PySem.Spec PyProof.Rows PySem.W PySem.Calls Builtin Builtin.ObjectAttr
structure XG (K : PySem.W.Frag) (C : Addr) : Prop where
  ga : findIn K (.ref C) "__getattribute__" = some (some (.builtin "BaseException.__getattribute__"))
  gt : findIn K (.ref C) "__getattr__" = some none
  be : mroIn K C (.type "BaseException") = some true
  ob : mroIn K C (.type "object") = some true
  cc : findIn K (.ref C) "__class__" = some (some (.builtin "object.__class__"))
  hd : ∃ cd, clsIn K C = some cd ∧ cd.hasDict = true
section
variable {prog : Program} {w : World} {A : Around} {E : Value → Shared → Prop} {s : Shared} {K : PySem.W.Frag} {x C : Addr} {ox : Obj} {od : Option Obj} {name : Str}
theorem slot_bga : Slot "ValueError" "__getattribute__" "BaseException.__getattribute__" := PySem.F.excAttr_ValueError.ga
theorem getx_open {expr fill : Bool} {tk : Tok} {Q : Value → Shared → Prop} (X : K.In s.heap) (I : PySem.W.InstAt s.heap x ox C od) (G : XG K C)
    (h : wpAny (model prog w) A.in1 (Builtin.«object.__getattribute__» ⟨[.ref x, .str name tk], []⟩) (fun fin s' => match fin with | .done (.ret v) => wpAny (model prog w) A (handedOut v) Q E s' | _ => False) (fun _ _ => False) s) :
    wpAny (model prog w) A (getAttrBy (.ref x) (.str name tk) fill expr) Q E s := by
  have hf : (Value.builtin "BaseException.__getattribute__" == Value.builtin "object.__getattribute__") = false := by decide +kernel
  unfold getAttrBy
  refine wpAny_holding (wpAny_bind (I.type.here (wpAny_bind ((looks_findIn X G.ga).here ?_))))
  dsimp only
  rw [hf, Bool.and_false, if_neg (by decide)]
  unfold getAttrByItsOwn
  have hk : Looks (model prog w) s.heap (hookBefore (.ref C)) none := looks_hook X (by rw [if_pos (show onTheHeap (Value.ref C) = true from rfl)]; exact G.gt)
  refine wpAny_bind (hk.here (wpAny_bind (wpAny_attempt (wpAny_holding ?_))))
  unfold callGetattribute
  rw [show (expr && onTheHeap (Value.builtin "BaseException.__getattribute__")) = false from Bool.and_false _, if_neg (by decide)]
  unfold boundAndCalled
  rw [slot_bga.bind]
  refine wpAny_bind (wpAny_pure ?_)
  show wpAny _ _ (call (.builtin "BaseException.__getattribute__") [.ref x, .str name tk]) _ _ _
  refine wpAny_call (codeAny_call_builtin slot_bga.plain PySem.F.entry_bexc_ga ?_)
  refine @check_slot (model prog w) _ _ s "BaseException.__getattribute__" "BaseException" "__getattribute__" (.ref x) [.str name tk] [] _ (by decide +kernel) (by decide +kernel) (I.type.andThen (looks_mroIn X G.be)) (PySem.F.args_bexc_ga _ _) ?_
  refine wpAny_mono h (fun fin s' z => ?_) fun _ _ z => z.elim
  rcases fin with (_ | _ | _ | _) | _ <;> first | exact z | exact z.elim
theorem getx_value {expr : Bool} {v : Value} {Q : Value → Shared → Prop} (X : K.In s.heap) (I : PySem.W.InstAt s.heap x ox C od) (G : XG K C) (hf : findObj K C od name = some (.value v)) (hh : handedIn v = true) (h : Q v { s with toks := s.toks + 1 }) :
    wpAny (model prog w) A (getAttr (.ref x) name expr) Q E s := by
  unfold getAttr
  refine wpAny_bind (wpAny_mkText (getx_open (s := { s with toks := s.toks + 1 }) X I G ?_))
  unfold Builtin.«object.__getattribute__»
  refine wpAny_bind (wpAny_pure (wpAny_bind (wpAny_pure (wpAny_bind (PySem.W.Looks.here (s := { s with toks := s.toks + 1 }) I.type (wpAny_bind (PySem.W.Looks.here (s := { s with toks := s.toks + 1 }) (looks_find X I hf) ?_)))))))
  refine wpAny_pure ?_
  show wpAny _ _ (handedOut v) _ _ _
  rw [handedOut_of hh]
  exact wpAny_pure h
theorem getx_class {Q : Option Value → Shared → Prop} (X : K.In s.heap) (I : PySem.W.InstAt s.heap x ox C od) (G : XG K C) (hn : specialIn K (.builtin "object.__class__") "__get__" = some (some (.builtin "getset_descriptor.__get__"))) (htk : takesIn K (.builtin "object.__class__") = some true)
    (h : Q (some (.ref C)) { s with toks := s.toks + 1 }) : wpAny (model prog w) A (getAttr? (.ref x) "__class__") Q E s := by
  have hf : findObj K C od "__class__" = some (.bind (.builtin "getset_descriptor.__get__") (.builtin "object.__class__")) := by
    obtain ⟨cd, hc, _⟩ := G.hd
    unfold findObj
    rw [hc, Option.bind_some, G.cc, Option.bind_some]
    simp [hn, htk]
  unfold getAttr? getAttrBy?
  refine wpAny_bind (wpAny_mkText (wpAny_bind (wpAny_attempt (getx_open (s := { s with toks := s.toks + 1 }) X I G ?_))))
  unfold Builtin.«object.__getattribute__»
  refine wpAny_bind (wpAny_pure (wpAny_bind (wpAny_pure (wpAny_bind (PySem.W.Looks.here (s := { s with toks := s.toks + 1 }) I.type (wpAny_bind (PySem.W.Looks.here (s := { s with toks := s.toks + 1 }) (looks_find X I hf) ?_)))))))
  show wpAny _ _ (bindTo (.builtin "getset_descriptor.__get__") (.builtin "object.__class__") (.ref x) (.ref C)) _ _ _
  unfold bindTo
  refine wpAny_bind (wpAny_holding (wpAny_call (class_get (s := { s with toks := s.toks + 1 }) (ox := ox) (od := od) X I G.ob ?_)))
  refine wpAny_pure ?_
  show wpAny _ _ (handedOut (.ref C)) _ _ _
  exact handed_on rfl (wpAny_pure h)
theorem kitx_exc (G : XG K C) (hn : specialIn K (.builtin "object.__class__") "__get__" = some (some (.builtin "getset_descriptor.__get__"))) (htk : takesIn K (.builtin "object.__class__") = some true) :
    KitX K (.ref x) (.ref C) (fun h => ∃ ox od, PySem.W.InstAt h x ox C od) where
  ty := fun _ _ _ ⟨_, _, I⟩ => I.type
  it := fun _ _ X _ => by
    obtain ⟨cd, hc, _⟩ := G.hd
    unfold clsIn at hc
    split at hc
    · rename_i ho
      intro A' Q' E' s' k q
      unfold isType loadHead
      exact wpAny_bind (wpAny_loadPart (k _ _ (X _ _ ho)) (wpAny_pure q))
    · cases hc
  ne := fun h tp dd its n sl X htp => by
    obtain ⟨cd, hc, _⟩ := G.hd
    refine Bool.eq_false_iff.mpr fun q => ?_
    have e : C = tp := Value.ref.inj (beq_iff_eq.mp q)
    subst e
    unfold clsIn at hc
    split at hc
    · rename_i ho
      have z := (X _ _ ho).symm.trans htp
      cases z
    · cases hc
  ca := fun X ⟨_, _, I⟩ k => getx_class X I G hn htk k
end
theorem cls_get {K : PySem.W.Frag} : specialIn K (.builtin "object.__class__") "__get__" = some (some (.builtin "getset_descriptor.__get__")) := by rfl
theorem cls_takes {K : PySem.W.Frag} : takesIn K (.builtin "object.__class__") = some true := by rfl
end L2
namespace L2
open PySem PySem.Spec PyProof.Rows PySem.W PySem.Calls
section
variable {X : Cx} {pins : List (Addr × Obj)} {σ : St} {H : Hp} {s : Shared}
theorem xe_inst {e C : Addr} {dx : Option Addr} (I : Inv X pins σ H s) (he : H e = some (XE e C dx)) (hd : ∀ a, dx = some a → ∃ o, s.heap.get? a = some o) : ∃ ox od, PySem.W.InstAt s.heap e ox C od := by
  obtain ⟨⟨o, vs, ho, hc, hdx, hdt⟩, _⟩ := I.hok e _ he
  have hno : notCls o = true := by unfold notCls; rw [hdt]
  cases hq : dx with
  | none => exact ⟨o, none, ho, hc, hno, by rw [hdx, hq]; exact True.intro⟩
  | some a =>
    obtain ⟨oa, ha⟩ := hd a hq
    exact ⟨o, some oa, ho, hc, hno, by rw [hdx, hq]; exact ha⟩
def tXG (K : PySem.W.Frag) (ta : TE) (f : Str) : TE := fun σ H Q => ta σ H fun x H1 => ∃ e C dx fs v, x = .ref e ∧ H1 e = some (XE e C (some dx)) ∧ H1 dx = some (.xd fs) ∧ XG K C ∧ NoAttr K C f ∧ fs.lookup f = some v ∧ Q v H1
theorem pe_xg {e : Expr} {f : Str} {pos : Pos} {ta : TE} (he : PE X e ta) (hb : attributeBase e f X.env (eval e X.env) = eval e X.env) : PE X (.Attribute e f pos) (tXG X.K ta f) := by
  intro pins s σ H Q I h
  refine attr_of hb (thn (he pins s σ H _ I h) fun u s1 ⟨x, H1, I1, rx, ea, C, dx, fs, v, ex, h1, h2, G, n, l, q⟩ => ?_)
  subst ex
  obtain rfl : u = Value.ref ea := rx
  obtain ⟨⟨o, vs, ho, hc, hdx, hdt⟩, _⟩ := I1.hok ea _ h1
  obtain ⟨mA, n1, r⟩ := (show ObjOk X.prog X.w H1 s1.heap dx (.xd fs) from I1.hok dx _ h2)
  obtain ⟨od, hod, hl⟩ := lookIn_ns n1
  obtain ⟨u, hu, ru⟩ := RelO.some_of (v := v) (o := mA f) (by rw [← l]; exact r f)
  have J : PySem.W.InstAt s1.heap ea o C (some od) := ⟨ho, hc, by unfold notCls; rw [hdt], by rw [hdx]; exact hod⟩
  obtain ⟨cd, hcd, hhd⟩ := G.hd
  have hh : hasDictIn X.K C = true := by unfold hasDictIn; rw [hcd]; exact hhd
  exact getx_value I1.kIn J G (findObj_own hh n rfl (by rw [hl, hu])) (handed_of ru) ⟨v, H1, I1.tok _, ru, q⟩
def clsV : V → Option Value
  | .ref B => some (.ref B)
  | .ty n => some (.type n)
  | _ => none
theorem clsV_rel {c : V} {u v : Value} (h : clsV c = some v) (r : RelV c u) : u = v := by
  cases c <;> cases h <;> exact r
def rIsX (K : PySem.W.Frag) : List V → Hp → VK → Prop := fun xs H Q => ∃ e C dx c v b, xs = [.ref e, c] ∧ H e = some (XE e C dx) ∧ (∀ a, dx = some a → ∃ fs, H a = some (.xd fs)) ∧ XG K C ∧ clsV c = some v ∧ kitOne K (.ref C) v = some b ∧ Q (.bl b) H
theorem call_isX : CallR X (.builtin "isinstance") (rIsX X.K) := by
  intro pins s σ H xs us Q I r h
  obtain ⟨e, C, dx, c, v, b, rfl, he, hd, G, hc, hk, q⟩ := h
  obtain ⟨u, w', rfl, rx, rt⟩ := vals2 r
  obtain rfl : u = Value.ref e := rx
  obtain rfl := clsV_rel hc rt
  exact kia_one (kitx_exc G cls_get cls_takes) I.kIn (xe_inst I he fun a ha => let ⟨fs, z⟩ := hd a ha; let ⟨_, ⟨o, _, _, z2, _⟩, _⟩ := (show ObjOk X.prog X.w H s.heap a (.xd fs) from I.hok a _ z); ⟨o, z2⟩) hk (fun z => nomatch z) fun tk => ⟨.bl b, H, I.tok _, rfl, q⟩
variable {K : PySem.W.Frag} (hK : X.K = K)
include hK
theorem kcall_isX : CallR X (.builtin "isinstance") (rIsX K) := by subst hK; exact call_isX
theorem kpe_xg {e : Expr} {f : Str} {pos : Pos} {ta : TE} (he : PE X e ta) (hb : attributeBase e f X.env (eval e X.env) = eval e X.env := by rfl) : PE X (.Attribute e f pos) (tXG K ta f) := by subst hK; exact pe_xg he hb
end
end L2
namespace L2
open PySem PySem.Spec PyProof.Rows
structure RoomH (k : Nat) (A : Around) : Prop where
  dp : A.depth + 3 * k + 5 < recursionLimit
  un : A.units + 16 * k + 200 < cLine
theorem Room.h {k : Nat} {A : Around} (r : Room k A) (e : Option Value) : RoomH k (A.mark e) := ⟨r.dp, r.un⟩
theorem RoomH.deeper {k : Nat} {A : Around} (r : RoomH (k + 1) A) (env : Env) : RoomH k (A.deeper env) :=
  ⟨by have := r.dp; show A.depth + 1 + 3 * k + 5 < _; omega, by have := r.un; show A.units + 3 + 16 * k + 200 < _; omega⟩
structure FnOkH (P : Program) (w : World) (K : PySem.W.Frag) (mg : Str → Option Value) (base : Heap) (k : Nat) (f : Addr) (fd : FuncData) (ps : List Str) (sp : Sp) : Prop where
  len : ∀ vs H Q E, sp vs H Q E → vs.length = ps.length
  run : ∀ (A : Around) (outer : List Env) (s : Shared) (H : Hp) (args : Args) (us : List Value) (vs : List V) (Q : VK), RoomH k A → Env0 P w K mg base A outer s H → BindsTo s fd args (ps.zip us) → Vals vs us → sp vs H Q E0 →
    codeAny (model P w) A (.call (.ref f) args) (CR CX0 outer P w H s Q E0) s
abbrev cxH (P : Program) (w : World) (K : PySem.W.Frag) (mg : Str → Option Value) (base : Heap) (N : List Str) (qual : Str) (scope : Scope) (f : Addr) (cd : Value) (A : Around) (outer : List Env) (s : Shared) (H : Hp) : Cx :=
  { cxOf CX0 P w K mg base N qual scope f cd A outer s H E0 with calm := false, xe := fun _ _ => False }
section
variable {P : Program} {w : World} {K : PySem.W.Frag} {mg : Str → Option Value} {base : Heap}
theorem inv_startH {N ps : List Str} {qual : Str} {scope : Scope} {f : Addr} {cd : Value} {A : Around} {outer : List Env} {s s1 : Shared} {H : Hp} {us : List Value} {vs : List V}
    (S : FnScope N ps scope) (e0 : Env0 P w K mg base A outer s H) (hl : vs.length = ps.length) (r : Vals vs us)
    (x : InCallC s s.heap.objs.size (bindL (envOfC qual scope s.heap.objs.size f cd).kindOf (ps.zip us) fun _ => none) (cellsFrom (s.heap.objs.size + 1) scope.names []) (bindC (envOfC qual scope s.heap.objs.size f cd).kindOf (ps.zip us) fun _ => none) s1) :
    Inv (cxH P w K mg base N qual scope f cd A outer s H) [] (start N vs) H s1 := by
  have e1 : Env0 P w K mg base { A with handled := none } outer s H := ⟨e0.frames, e0.mod, e0.bs, e0.bsz, e0.funs, e0.frf, e0.hok, e0.bare⟩
  have I := inv_start (CX := CX0) (E := E0) (A := { A with handled := none }) (qual := qual) (f := f) (cd := cd) S rfl e1 hl r x
  exact ⟨⟨I.ok.mod, I.ok.kind, I.ok.glob, I.ok.blt, I.ok.above, I.ok.inj, I.ok.has, I.ok.cab, (fun z => nomatch z), Around.frames_deeper e0.frames, I.ok.stk, I.ok.exf, I.ok.bs, I.ok.bsz, I.ok.noex, I.ok.exfs, I.ok.funs, I.ok.frf⟩, I.os, I.bare, I.base, I.loc, I.cell, I.free, I.freeC, I.pin, I.hok, I.len⟩
theorem Fun.okH {x qual : Str} {st : Stmt} {f : Addr} {fd : FuncData} {N ps : List Str} {k : Nat} {sp : Sp} (F : Fun K x qual st f fd) (S : FnScope N ps (defScope st)) (len : ∀ vs H Q E, sp vs H Q E → vs.length = ps.length)
    (hbody : ∀ (cdv : Value) (A : Around) (outer : List Env) (s : Shared) (H : Hp) (vs : List V) (Q : VK), RoomH k (A.deeper (envOfC qual (defScope st) s.heap.objs.size f cdv)) → sp vs H Q E0 →
      ∃ t, PSs (cxH P w K mg base N qual (defScope st) f cdv A outer s H) (defBody st) t ∧ t { nx := fun _ H' => Q .non H', rt := Q } (start N vs) H) : FnOkH P w K mg base (k + 1) f fd ps sp := by
  obtain ⟨oc, od, kV, doc, pm, an, cdv, ct, osl, rfl, lk, hcd⟩ := F.ex
  refine ⟨len, fun A outer s H args us vs Q hr e0 hb r hsp => ?_⟩
  have KX : K.In s.heap := e0.mod.kin.keeps fun b o e => (e0.bs b o e).1
  have lim : s.heap.NoLimit := e0.mod.nolimit.keeps fun b o e => (e0.bs b o e).1
  have hkind : ∀ y ∈ ps.zip us, (defScope st).names.lookup y.1 = some .local ∨ ((defScope st).names.lookup y.1 = some .cell ∧ ((cellsFrom (s.heap.objs.size + 1) (defScope st).names []).lookup y.1).isSome = true) := fun ⟨n, v⟩ hy =>
    (S.par n (List.of_mem_zip hy).1).elim .inl fun q => .inr ⟨q, PySem.W.cellsFrom_some _ _ _ (.inl q)⟩
  have hdep : A.depth < recursionLimit := by have := hr.dp; omega
  refine codeAny_call_function hdep (KX _ _ lk) rfl S.co S.gen rfl (PySem.W.codeRec_of KX hcd) (hb _ _ _ _ ?_)
  refine wpAny_newFunctionEnv_cells S.kind hkind fun env he s1 x => ?_
  subst he
  refine ⟨lim.keeps x.toInCall.keep, codeAny_func ?_⟩
  obtain ⟨t, ht, hq⟩ := hbody cdv A outer s H vs Q (hr.deeper _) hsp
  have I := inv_startH (qual := qual) (f := f) (cd := cdv) S e0 (len _ _ _ _ hsp) r x
  refine wpAny_mono (ht [] s1 (start N vs) H _ I hq) (fun fl s' hs => ?_) fun e s' hs => False.elim hs
  cases fl with
  | ret u =>
    obtain ⟨v, σ', H', J, rv, q⟩ := hs
    exact ⟨v, H', J.os, J.bare, J.base, J.hok, rv, q⟩
  | next =>
    obtain ⟨σ', H', J, q⟩ := hs
    exact ⟨V.non, H', J.os, J.bare, J.base, J.hok, rfl, q⟩
  | brk => exact let ⟨_, _, _, q⟩ := hs; False.elim q
  | cont => exact let ⟨_, _, _, q⟩ := hs; False.elim q
end
section
variable {X : Cx} {k : Nat} {f : Addr} {fd : FuncData} {ps : List Str} {sp : Sp} {x : Str} {p pos : Pos} {e : Expr} {es : List Expr} {t : TA}
theorem pe_callH (F : FnOkH X.prog X.w X.K X.mg X.base k f fd ps sp) (hr : RoomH k X.A) (hg : Gl X x) (hm : X.mg x = some (.ref f)) (hk : PySem.W.keepIn X.K (.ref f) = true) (hb : Binds X.K fd ps [])
    (ha : PA X (e :: es) t) (hdb : (x == ("__debug__" : Str)) = false := by decide) (he : starEach (e :: es) X.env = (false, eval e X.env) :: starEach es X.env := by rfl) (hpl : (backTo pos (starEach es X.env)).any (·.1) = false := by rfl) :
    PE X (.Call (.Name x p) (e :: es) [] pos) (tCall sp [] E0 t) := by
  intro pins s σ H Q I h
  refine wpAny_Call_Name_kw (ld_glob I hg hm ?_ hdb)
  refine PySem.W.callWith_K (h₀ := X.base) I.ok.mod.kin hk (thn (ha pos pins s σ H _ I h) fun us s1 ⟨vs, H1, I1, r, q⟩ => ⟨I1.kIn, ?_⟩) he hpl
  have q : sp (vs ++ []) H1 Q E0 := q
  rw [List.append_nil] at q
  have hl : (us ++ []).length = ps.length := by rw [List.append_nil, ← r.length]; exact F.len _ _ _ _ q
  have hb0 := hb s1 us I1.kIn hl
  rw [List.append_nil] at hb0
  refine wpAny_call (codeAny_mono (F.run X.A X.stack s1 H1 ⟨us, []⟩ us vs Q hr I1.env0 hb0 r q) fun r s' hq => ?_)
  cases r with
  | error ev => exact False.elim hq
  | ok fl =>
    cases fl with
    | ret u => exact I1.after hq
    | next => exact False.elim hq
    | brk => exact False.elim hq
    | cont => exact False.elim hq
end
end L2
namespace L2
open PySem PySem.Spec PyProof.Rows PySem.W PySem.Calls
structure NsF (K : PySem.W.Frag) (N : Addr) (init : Option Addr) : Prop where
  lk : ∃ oc od es n sl, K.lookup N = some ⟨oc, od, .dict es n, sl⟩ ∧ (es.all fun e => match e.key with | .str _ _ => true | _ => false) = true
  ni : nsIn K N "__init__" = some (init.map Value.ref)
theorem NsF.ok {K : PySem.W.Frag} {N : Addr} {init : Option Addr} (h : NsF K N init) : nsOkIn K N = true := by
  obtain ⟨oc, od, es, n, sl, e, q⟩ := h.lk
  unfold nsOkIn
  rw [e]
  exact q
theorem tail_mk {K : PySem.W.Frag} {R : Addr} {oc : Value} {od : Option Addr} {cd : ClassData} {sl : Array (Option Value)} (lk : K.lookup R = some ⟨oc, od, .cls cd, sl⟩) (n : NsF K cd.ns none) : tailIn K bmV (.ref R :: bmV) = true := by
  have hb : tailIn K bmV bmV = true := by
    unfold tailIn
    rw [Bool.or_eq_true]
    exact .inl (beq_self_eq_true _)
  unfold tailIn
  rw [Bool.or_eq_true]
  refine .inr ?_
  dsimp only
  rw [lk]
  dsimp only
  rw [n.ok, hb, n.ni]
  rfl
theorem xcls_mk {K : PySem.W.Frag} {C : Addr} {init od : Option Addr} {cd : ClassData} {sl : Array (Option Value)} {bm : List Value} {k0 k1 k2 k3 k5 : Option Value} (lk : K.lookup C = some ⟨.type "type", od, .cls cd, sl⟩) (cm : cd.mro = .ref C :: bm)
    (hs : sl.toList = [k0, k1, k2, k3, some (.builtin "ValueError.__new__"), k5]) (hdel : cd.hasDel = false) (ht : tailIn K bmV bm = true) (n : NsF K cd.ns init) : xclsIn K C init = true := by
  unfold xclsIn
  rw [lk]
  show (match cd.mro, sl.toList with
    | .ref C' :: bm, [_, _, _, _, some (.builtin n), _] => C' == C && n == "ValueError.__new__" && !cd.hasDel && tailIn K bmV bm && nsOkIn K cd.ns && nsIn K cd.ns "__init__" == some (init.map Value.ref)
    | _, _ => false) = true
  rw [cm, hs]
  show (C == C && "ValueError.__new__" == "ValueError.__new__" && !cd.hasDel && tailIn K bmV bm && nsOkIn K cd.ns && nsIn K cd.ns "__init__" == some (init.map Value.ref)) = true
  rw [hdel, ht, n.ok, n.ni]
  simp
structure CL (K : PySem.W.Frag) (mg : Str → Option Value) (x : Str) (C : Addr) : Prop where
  mg : mg x = some (.ref C)
  is : isClsIn K C = true
  ty : typeIn K (.ref C) = some (.type "type")
theorem CL.kit {K : PySem.W.Frag} {mg : Str → Option Value} {x : Str} {C B : Addr} {b : Bool} (d : CL K mg x B) (h : mroIn K C (.ref B) = some b) (hs : C = B → b = true) : kitOne K (.ref C) (.ref B) = some b := by
  have hc : (clsIn K B).isSome = true := d.is
  unfold kitOne
  by_cases e : C = B
  · subst e
    rw [if_pos (by simp), hs rfl]
  · rw [if_neg (fun z => e (Value.ref.inj (beq_iff_eq.mp z)))]
    unfold kitCls
    show (if ((clsIn K B).isSome && typeIn K (.ref B) == some (.type "type")) = true then subIn K (.ref C) (.ref B) else none) = some b
    rw [hc, d.ty, if_pos (by simp)]
    exact h
def xAsk (K : PySem.W.Frag) (C : Addr) : Bool :=
  findIn K (.ref C) "__getattribute__" == some (some (.builtin "BaseException.__getattribute__")) && findIn K (.ref C) "__getattr__" == some none && mroIn K C (.type "BaseException") == some true && mroIn K C (.type "object") == some true &&
  findIn K (.ref C) "__class__" == some (some (.builtin "object.__class__")) && (clsIn K C).any (·.hasDict) && PySem.W.keepIn K (.ref C) && typeIn K (.ref C) == some (.type "type") && mroIn K C (.type "ValueError") == some true
structure XQ (K : PySem.W.Frag) (C : Addr) : Prop where
  g : XG K C
  kp : PySem.W.keepIn K (.ref C) = true
  ty : typeIn K (.ref C) = some (.type "type")
  ve : mroIn K C (.type "ValueError") = some true
theorem xq_of {K : PySem.W.Frag} {C : Addr} (h : xAsk K C = true) : XQ K C := by
  simp only [xAsk, Bool.and_eq_true, beq_iff_eq] at h
  obtain ⟨⟨⟨⟨⟨⟨⟨⟨h1, h2⟩, h3⟩, h4⟩, h5⟩, h6⟩, h7⟩, h8⟩, h9⟩ := h
  obtain ⟨cd, hc, hd⟩ := any_some h6
  exact ⟨⟨h1, h2, h3, h4, h5, cd, hc, hd⟩, h7, h8, h9⟩
def xFld (K : PySem.W.Frag) (C f : Addr) (fld : Str) : Bool :=
  (clsIn K C).any (fun cd => xTail cd.mro && cd.hasDict) && findIn K (.ref C) "__setattr__" == some (some (.builtin "object.__setattr__")) && findIn K (.ref C) fld == some none && PySem.W.isFn K (.ref f)
theorem xf_of {K : PySem.W.Frag} {C f : Addr} {fld : Str} (h : xFld K C f fld = true) : XF K C fld ∧ PySem.W.isFn K (.ref f) = true := by
  simp only [xFld, Bool.and_eq_true, beq_iff_eq] at h
  obtain ⟨⟨⟨h1, h2⟩, h3⟩, h4⟩ := h
  obtain ⟨cd, hc, hd⟩ := any_some h1
  rw [Bool.and_eq_true] at hd
  exact ⟨⟨⟨cd, hc, hd.1, hd.2⟩, h2, h3⟩, h4⟩
theorem xq_mk {K : PySem.W.Frag} {C : Addr} (h1 : findIn K (.ref C) "__getattribute__" = some (some (.builtin "BaseException.__getattribute__"))) (h2 : findIn K (.ref C) "__getattr__" = some none) (h3 : mroIn K C (.type "BaseException") = some true) (h4 : mroIn K C (.type "object") = some true)
    (h5 : findIn K (.ref C) "__class__" = some (some (.builtin "object.__class__"))) (h6 : hasDictIn K C = true) (h7 : PySem.W.keepIn K (.ref C) = true) (h8 : typeIn K (.ref C) = some (.type "type")) (h9 : mroIn K C (.type "ValueError") = some true) : xAsk K C = true := by
  unfold xAsk
  have h6 : (clsIn K C).any (·.hasDict) = true := h6
  rw [h1, h2, h3, h4, h5, h6, h7, h8, h9]
  simp
theorem xf_mk {K : PySem.W.Frag} {C f : Addr} {fld : Str} {oc : Value} {od : Option Addr} {cd : ClassData} {sl : Array (Option Value)} (lk : K.lookup C = some ⟨oc, od, .cls cd, sl⟩) (cm : xTail cd.mro = true) (hd : cd.hasDict = true)
    (h2 : findIn K (.ref C) "__setattr__" = some (some (.builtin "object.__setattr__"))) (h3 : findIn K (.ref C) fld = some none) (h4 : PySem.W.isFn K (.ref f) = true) : xFld K C f fld = true := by
  have hc : clsIn K C = some cd := by
    unfold clsIn
    rw [lk]
  unfold xFld
  rw [hc, h2, h3, h4]
  show ((xTail cd.mro && cd.hasDict) && _ && _ && _) = true
  rw [cm, hd]
  simp
theorem kit_own {K : PySem.W.Frag} {C B : Addr} {initB : Option Addr} {b : Bool} (hB : xclsIn K B initB = true) (q : XQ K B) (h : mroIn K C (.ref B) = some b) (hs : C = B → b = true) : kitOne K (.ref C) (.ref B) = some b := by
  unfold kitOne
  by_cases e : C = B
  · subst e
    rw [if_pos (by simp), hs rfl]
  · rw [if_neg (fun z => e (Value.ref.inj (beq_iff_eq.mp z)))]
    unfold kitCls
    have hc : (clsIn K B).isSome = true := by
      unfold xclsIn at hB
      split at hB
      · rename_i ho
        unfold clsIn
        rw [ho]
        rfl
      · cases hB
    show (if ((clsIn K B).isSome && typeIn K (.ref B) == some (.type "type")) = true then subIn K (.ref C) (.ref B) else none) = some b
    rw [hc, q.ty, if_pos (by simp)]
    exact h
theorem kit_value {K : PySem.W.Frag} {C : Addr} (q : XQ K C) : kitOne K (.ref C) (.type "ValueError") = some true := by
  unfold kitOne
  rw [if_neg (fun z => by cases beq_iff_eq.mp z)]
  exact q.ve
structure CI (K : PySem.W.Frag) (mg : Str → Option Value) (x qual : Str) (st : Stmt) (ps : List Str) (C f : Addr) (fd : FuncData) (fld : Str) : Prop where
  mg : mg x = some (.ref C)
  cls : xclsIn K C (some f) = true
  q : XQ K C
  xf : XF K C fld
  fn : PySem.W.isFn K (.ref f) = true
  fi : Fun K "__init__" qual st f fd
  ba : ∀ us : List Value, us.length = ps.length → bindArgs fd ⟨us, []⟩ = pure (ps.zip us)
structure CN (K : PySem.W.Frag) (mg : Str → Option Value) (x : Str) (C : Addr) : Prop where
  mg : mg x = some (.ref C)
  cls : xclsIn K C none = true
  q : XQ K C
def sp_init (C : Addr) (fld : Str) : Sp := fun vs H Q _ => ∃ (e : Addr) (i : Int), vs = [.ref e, .int i] ∧ H e = some (XO e C none) ∧ i.natAbs ≤ 1000000000 ∧ ∀ dx, H dx = none → Q .non (upd (upd H dx (.xd [(fld, .int i)])) e (XO e C (some dx)))
def tRz (C : Addr) (fld : Str) (E : St → XK) (t : TA) : TS := fun _ σ H => t σ H fun vs H1 => ∃ i : Int, vs = [.int i] ∧ i.natAbs ≤ 1000000000 ∧ ∀ dx, H1 dx = none → E σ (.ref C) (some dx) (upd H1 dx (.xd [(fld, .int i)]))
section
variable {X : Cx} {k j : Nat} {f C : Addr} {fd : FuncData} {ps : List Str} {sp : Sp} {x qual fld : Str} {st : Stmt} {p np cpos pos : Pos} {e : Expr} {es : List Expr} {t : TA} {E : St → XK} {L : Addr}
theorem unt_init {H1 : Hp} {ea dx : Addr} {o o' y : HO} (he : H1 ea = none) (hn : dx ≠ ea) : unt (upd (upd (upd H1 ea o) dx y) ea o') ea = upd H1 dx y := by
  funext b
  by_cases hb : b = ea
  · subst hb
    rw [unt_same, upd_ne hn.symm, he]
  · rw [unt_ne hb, upd_ne hb]
    by_cases hd : b = dx
    · subst hd
      rw [upd_same, upd_same]
    · rw [upd_ne hd, upd_ne hd, upd_ne hb]
theorem praiseX (d : CI X.K X.mg x qual st ps C f fd fld) (F : FnOk X.prog X.w X.K X.mg X.base CX0 j f fd ps (sp_init C fld)) (hr : Room k X.A) (hg : Gl X x) (hL : X.env.frame = some L) (hcm : X.calm = true) (ha : PA (X.wish (Fly X E)) (e :: es) t) (hjk : j + 1 ≤ k := by decide) (hdb : (x == ("__debug__" : Str)) = false := by decide)
    (he : starEach (e :: es) X.env = (false, eval e X.env) :: starEach es X.env := by rfl) (hpl : (backTo cpos (starEach es X.env)).any (·.1) = false := by rfl) :
    PS (X.wish (Fly X E)) (.Raise (some (.Call (.Name x np) (e :: es) [] cpos)) none pos) (tRz C fld E t) := by
  refine ps_raiseX (R := fun σ vs H1 => ∃ i : Int, vs = [.int i] ∧ i.natAbs ≤ 1000000000 ∧ ∀ dx, H1 dx = none → E σ (.ref C) (some dx) (upd H1 dx (.xd [(fld, .int i)]))) hL hcm ⟨d.cls, d.fn, d.q.kp⟩ F (hr.mono hjk) hg d.mg (.all d.ba) (fun σ vs H1 h1 => ?_) ha hdb he hpl
  obtain ⟨i, rfl, hi, q⟩ := h1
  refine ⟨by show 1 ≤ 10; decide, fun ea hea => ⟨ea, i, rfl, upd_same, hi, fun dx hdx => ⟨rfl, rfl, some dx, upd_same, ?_⟩⟩⟩
  have hne : dx ≠ ea := fun z => by rw [z, upd_same] at hdx; cases hdx
  rw [upd_ne hne] at hdx
  rw [unt_init hea hne]
  exact q dx hdx
theorem praise0 (d : CN X.K X.mg x C) (hg : Gl X x) (hL : X.env.frame = some L) (hcm : X.calm = true) (ha : PA (X.wish (Fly X E)) (e :: es) t) (hdb : (x == ("__debug__" : Str)) = false := by decide)
    (he : starEach (e :: es) X.env = (false, eval e X.env) :: starEach es X.env := by rfl) (hpl : (backTo cpos (starEach es X.env)).any (·.1) = false := by rfl) :
    PS (X.wish (Fly X E)) (.Raise (some (.Call (.Name x np) (e :: es) [] cpos)) none pos) (tRaise0 C E t) := ps_raise0 hL hcm ⟨d.cls, d.q.kp⟩ hg d.mg ha hdb he hpl
theorem pcallX (d : D X.K X.mg x st ps f fd) (F : FnOk X.prog X.w X.K X.mg X.base (CX1 X.prog X.w) j f fd ps sp) (hr : Room k X.A) (hg : Gl X x) (hL : X.env.frame = some L) (ha : PA (X.wish (Fly X E)) (e :: es) t) (hjk : j ≤ k := by decide) (hdb : (x == ("__debug__" : Str)) = false := by decide)
    (he : starEach (e :: es) X.env = (false, eval e X.env) :: starEach es X.env := by rfl) (hpl : (backTo pos (starEach es X.env)).any (·.1) = false := by rfl) :
    PE (X.wish (Fly X E)) (.Call (.Name x p) (e :: es) [] pos) (tCallS sp E t) := pe_callX hL (F.mono hjk) hr hg d.mg d.fn.kp (.all d.ba) ha hdb he hpl
theorem RoomH.mono {A : Around} (r : RoomH k A) (h : j ≤ k) : RoomH j A := ⟨by have := r.dp; omega, by have := r.un; omega⟩
theorem pcallH (d : D X.K X.mg x st ps f fd) (F : FnOkH X.prog X.w X.K X.mg X.base j f fd ps sp) (hr : RoomH k X.A) (hg : Gl X x) (ha : PA X (e :: es) t) (hjk : j ≤ k := by decide) (hdb : (x == ("__debug__" : Str)) = false := by decide)
    (he : starEach (e :: es) X.env = (false, eval e X.env) :: starEach es X.env := by rfl) (hpl : (backTo pos (starEach es X.env)).any (·.1) = false := by rfl) :
    PE X (.Call (.Name x p) (e :: es) [] pos) (tCall sp [] E0 t) := pe_callH F (hr.mono hjk) hg d.mg d.fn.kp (.all d.ba) ha hdb he hpl
end
theorem kph_cons {X : Cx} (K : PySem.W.Frag) (hK : X.K = K) {B : Addr} {initB : Option Addr} {x n : Str} {i : Nat} {np hpos : Pos} {b₀ : Stmt} {suite : List Stmt} {rest : List ExceptHandler} {ts : TS} {tr : THd} (hg : Gl X x) (hm : X.mg x = some (.ref B)) (hB : xclsIn K B initB = true)
    (hN : X.N.Nodup) (hi : X.N[i]? = some n) (hk : X.env.scope.names.lookup n = some .local) (hsuite : ∀ e, PSs (X.suite e) (b₀ :: suite) ts) (hrest : PHs X rest tr) (hdb : (x == ("__debug__" : Str)) = false := by decide) :
    PHs X (.ExceptHandler (some (.Name x np)) (some n) (b₀ :: suite) hpos :: rest) (tHd K B i ts tr) := by subst hK; exact ph_cons hg hm hB hN hi hk hsuite hrest hdb
end L2
namespace L2
open PySem PySem.Spec PyProof.Rows
section
variable {X : Cx}
end
end L2
namespace Cs
open PySem L2
theorem sign_in : ∀ c, c < 128 → (!(Builtin.Str.occurrences (Str.ofString "abcdefghijklmnopqrstuvwxyz.,-'") (sg c) 0 (Str.ofString "abcdefghijklmnopqrstuvwxyz.,-'").length 1).isEmpty) = decide (c ∈ signs) := by decide +kernel
def SgOk (n : Nat) (x : Str) : Prop := x.length ≤ n ∧ ∀ c ∈ x.cps.toList, c < 128
end Cs
namespace Cs
open PySem L2
theorem SgOk.lay {n : Nat} {x : Str} (h : SgOk n x) : PyData.canLay0 (.str x) = true := by
  show (x.cps.all fun c => decide (c < 0x110000)) = true
  rw [← Array.all_toList, List.all_eq_true]
  intro c hc
  have := h.2 c hc
  exact decide_eq_true (by omega)
def isSign (x : Str) : Bool := match x.cps.toList with
  | [c] => decide (c ∈ signs)
  | _ => false
def isChan (r : Row) : Bool := isSign r.s && decide (1 ≤ r.w ∧ r.w ≤ 99) && decide (0 ≤ r.t ∧ r.t ≤ 127) && decide (0 ≤ r.n ∧ r.n ≤ 40)
def stand (ah : List Row) (r : Row) : Bool := isChan r && (place ah r.s).isNone && !decide (r.t ∈ ah.map fun x => x.t)
def AllStand (rs : List Row) (k : Nat) : Prop := ∀ i r, i < k → rs[i]? = some r → stand (rs.take i) r = true
inductive Looks (rs : List Row) : Option Nat → Prop
  | none0 : rs = [] → Looks rs (some 0)
  | bad {k : Nat} {r : Row} : AllStand rs k → rs[k]? = some r → stand (rs.take k) r = false → Looks rs (some k)
  | good : rs ≠ [] → AllStand rs rs.length → Looks rs none
theorem Looks.uniq {rs : List Row} {a b : Option Nat} (ha : Looks rs a) (hb : Looks rs b) : a = b := by
  have lt : ∀ {k : Nat} {r : Row}, rs[k]? = some r → k < rs.length := fun h => (List.getElem?_eq_some_iff.mp h).1
  cases ha with
  | none0 e =>
    cases hb with
    | none0 _ => rfl
    | bad _ h _ => rw [e] at h; simp at h
    | good n _ => exact absurd e n
  | bad a1 h1 s1 =>
    cases hb with
    | none0 e => rw [e] at h1; simp at h1
    | bad a2 h2 s2 =>
      rename_i k r k' r'
      rcases Nat.lt_trichotomy k k' with z | z | z
      · have := a2 k r z h1
        rw [s1] at this
        cases this
      · rw [z]
      · have := a1 k' r' z h2
        rw [s2] at this
        cases this
    | good _ a2 =>
      have := a2 _ _ (lt h1) h1
      rw [s1] at this
      cases this
  | good n a1 =>
    cases hb with
    | none0 e => exact absurd e n
    | bad a2 h2 s2 =>
      have := a1 _ _ (lt h2) h2
      rw [s2] at this
      cases this
    | good _ _ => rfl
theorem fits_in {α : Type} [DecidableEq α] : ∀ {xs ys : List α}, xs.Nodup → (∀ x ∈ xs, x ∈ ys) → xs.length ≤ ys.length
  | [], _, _, _ => Nat.zero_le _
  | x :: xs, ys, h, hs => by
    obtain ⟨h1, h2⟩ := List.nodup_cons.mp h
    have hx := hs x List.mem_cons_self
    have ih := fits_in (xs := xs) (ys := ys.erase x) h2 fun y hy => by
      have hne : y ≠ x := fun e => h1 (by rw [← e]; exact hy)
      exact (List.mem_erase_of_ne hne).mpr (hs y (List.mem_cons_of_mem _ hy))
    rw [List.length_erase_of_mem hx] at ih
    have := List.length_pos_of_mem hx
    rw [List.length_cons]
    omega
theorem isSign_mem {x : Str} (h : isSign x = true) : x ∈ signs.map sg := by
  unfold isSign at h
  split at h
  · rename_i c e
    refine List.mem_map.mpr ⟨c, of_decide_eq_true h, ?_⟩
    exact (Lns.str_ext e).symm
  · cases h
theorem stand_sign {ah : List Row} {r : Row} (h : stand ah r = true) : isSign r.s = true ∧ place ah r.s = none := by
  unfold stand isChan at h
  simp only [Bool.and_eq_true] at h
  exact ⟨h.1.1.1.1.1, Option.isNone_iff_eq_none.mp h.1.2⟩
theorem place_mem_none {rs : List Row} {x : Str} (h : place rs x = none) : x ∉ rs.map fun r => r.s := by
  unfold place at h
  rw [List.findIdx?_eq_none_iff] at h
  intro hm
  obtain ⟨r, hr, e⟩ := List.mem_map.mp hm
  have := h r hr
  rw [decide_eq_true e] at this
  cases this
theorem AllStand.signs {rs : List Row} {k : Nat} (h : AllStand rs k) (hk : k ≤ rs.length) : ((rs.take k).map fun r => r.s).Nodup ∧ ∀ x ∈ (rs.take k).map fun r => r.s, x ∈ signs.map sg := by
  induction k with
  | zero => exact ⟨by simp, fun x hx => by simp at hx⟩
  | succ k ih =>
    obtain ⟨i1, i2⟩ := ih (fun i r hi hr => h i r (by omega) hr) (by omega)
    have hr : rs[k]? = some rs[k] := List.getElem?_eq_getElem (by omega)
    obtain ⟨s1, s2⟩ := stand_sign (h k _ (Nat.lt_succ_self k) hr)
    have e : rs.take (k + 1) = rs.take k ++ [rs[k]] := by rw [List.take_add_one, hr]; rfl
    rw [e, List.map_append]
    constructor
    · rw [List.nodup_append]
      refine ⟨i1, by simp, fun a ha b hb => ?_⟩
      have hb : b = rs[k].s := List.mem_singleton.mp hb
      intro z
      rw [z, hb] at ha
      exact place_mem_none s2 ha
    · intro x hx
      rcases List.mem_append.mp hx with z | z
      · exact i2 x z
      · rw [List.mem_singleton.mp z]
        exact isSign_mem s1
theorem AllStand.few {rs : List Row} {k : Nat} (h : AllStand rs k) (hk : k ≤ rs.length) : k ≤ 30 := by
  obtain ⟨h1, h2⟩ := h.signs hk
  have := fits_in h1 h2
  rw [List.length_map, List.length_take, Nat.min_eq_left hk, List.length_map] at this
  exact this
theorem AllStand.succ {rs : List Row} {k : Nat} {r : Row} (h : AllStand rs k) (hr : rs[k]? = some r) (hs : stand (rs.take k) r = true) : AllStand rs (k + 1) := fun i r' hi hr' => by
  by_cases e : i = k
  · subst e
    rw [hr] at hr'
    cases hr'
    exact hs
  · exact h i r' (by omega) hr'
end Cs
namespace L2
open PySem PySem.Spec PyProof.Rows
section
variable {prog : Program} {w : World} {A : Around} {E : Value → Shared → Prop} {s : Shared}
end
end L2
namespace L2
open PySem PySem.Spec PyProof.Rows
open AutoSeq1 (wpAny_loadPart')
section
variable {prog : Program} {w : World} {A : Around} {E : Value → Shared → Prop} {s : Shared}
end
section
variable {X : Cx} {es : List Expr} {k1 : Nat} {tp : Pos}
end
end L2
namespace L2
open PySem PySem.Spec PyProof.Rows
section
variable {X : Cx} (K : PySem.W.Frag) (hK : X.K = K)
include hK
end
end L2
namespace Unl
open PySem L2 PySem.Builtin.Str
theorem pick_range (x : Str) (a : Nat) : ∀ n, ((List.range n).map fun (k : Nat) => a + k).filterMap (x.cps[·]?) = (x.cps.toList.drop a).take n
  | 0 => rfl
  | n + 1 => by
    rw [List.range_succ, List.map_append, List.filterMap_append, pick_range x a n, List.take_add_one, List.getElem?_drop]
    congr 1
    show List.filterMap _ [a + n] = _
    rw [Array.getElem?_toList, List.filterMap_cons, List.filterMap_nil]
    cases x.cps[a + n]? <;> rfl
theorem range_of {a b : Int} {p m : Nat} (ha : a = (p : Int)) (hb : (b - a).toNat = m) : sliceRange a b 1 = (List.range m).map fun (k : Nat) => p + k := by
  subst ha
  unfold sliceRange
  simp only [show (1 : Int) > 0 by decide, if_true]
  have e : (if (p : Int) < b then (b - p + 1 - 1) / 1 else 0).toNat = m := by
    split <;> omega
  rw [e]
  refine List.map_congr_left fun k _ => ?_
  omega
theorem slice_by {x : Str} {lo hi : Option Int} {p m : Nat} (e : strSliceIndices lo hi 1 x.length = (List.range m).map fun (k : Nat) => p + k) (hm : m = x.length → p = 0) : (Txt.slice x lo hi).cps.toList = (x.cps.toList.drop p).take m := by
  have hl : x.cps.toList.length = x.length := Array.length_toList
  unfold Txt.slice
  rw [e]
  split
  · rename_i h
    simp only [List.length_map, List.length_range, beq_self_eq_true, Bool.true_and, beq_iff_eq] at h
    rw [hm h, List.drop_zero, List.take_of_length_le (by omega)]
  · show ((((List.range m).map fun (k : Nat) => p + k).filterMap (x.cps[·]?)).toArray).toList = _
    rw [pick_range]
theorem slice_to (x : Str) {z : Int} (n : Nat) (hz : z = (n : Int)) : (Txt.slice x none (some z)).cps.toList = x.cps.toList.take n := by
  have hl : x.cps.toList.length = x.length := Array.length_toList
  have e : strSliceIndices none (some z) 1 x.length = (List.range (min n x.length)).map fun (k : Nat) => 0 + k := by
    unfold strSliceIndices
    simp only [show (1 : Int) > 0 by decide, if_true]
    exact range_of rfl (by split <;> omega)
  rw [slice_by e (fun _ => rfl), List.drop_zero, ← hl, ← List.take_take, List.take_length]
theorem slice_from (x : Str) {z : Int} (n : Nat) (hz : z = (n : Int)) : (Txt.slice x (some z) none).cps.toList = x.cps.toList.drop n := by
  have hl : x.cps.toList.length = x.length := Array.length_toList
  have e : strSliceIndices (some z) none 1 x.length = (List.range (x.length - min n x.length)).map fun (k : Nat) => min n x.length + k := by
    unfold strSliceIndices
    simp only [show (1 : Int) > 0 by decide, if_true]
    exact range_of (by split <;> omega) (by split <;> omega)
  rw [slice_by e (fun _ => by omega), List.take_of_length_le (by rw [List.length_drop]; omega)]
  by_cases h : n ≤ x.length
  · rw [Nat.min_eq_left h]
  · rw [Nat.min_eq_right (by omega), List.drop_of_length_le (by omega), List.drop_of_length_le (by omega)]
def TextOk (m : Nat) (x : Str) : Prop := x.cps.toList.length ≤ m ∧ ∀ c ∈ x.cps.toList, c < 0x110000
theorem TextOk.len {m : Nat} {x : Str} (h : TextOk m x) : x.length ≤ m := by
  have hl : x.cps.toList.length = x.length := Array.length_toList
  rw [← hl]
  exact h.1
theorem TextOk.take {m : Nat} {x y : Str} {n : Nat} (h : TextOk m x) (e : y.cps.toList = x.cps.toList.take n) : TextOk m y :=
  ⟨by rw [e]; exact Nat.le_trans (List.length_take_le' ..) h.1, fun c hc => h.2 c (by rw [e] at hc; exact List.mem_of_mem_take hc)⟩
def cp : List Nat → List Nat → Nat
  | a :: x, b :: y => if a = b then cp x y + 1 else 0
  | _, _ => 0
def un : Nat → List Str → List Str → Option (Nat × Nat)
  | k, t :: ts, s :: ss => if t = s then un (k + 1) ts ss else some (k, cp t.cps.toList s.cps.toList)
  | _, [], [] => none
  | k, _, _ => some (k, 0)
def UnAt (H : Hp) (v : V) : Option (Nat × Nat) → Prop
  | none => v = .non
  | some (i, p) => ∃ t, v = .ref t ∧ H t = some (.tup [.int i, .int p])
theorem UnAt.same {H H' : Hp} {v : V} {o : Option (Nat × Nat)} (h : UnAt H v o) (hs : Same H H') : UnAt H' v o := by
  cases o with
  | none => exact h
  | some ip =>
    obtain ⟨t, e, ht⟩ := h
    exact ⟨t, e, hs _ _ ht⟩
end Unl
namespace PySem
open Sem (wp)
end PySem
namespace L2
open PySem PySem.Spec PyProof.Rows
section
variable {prog : Program} {w : World} {A : Around} {E : Value → Shared → Prop} {s : Shared}
end
section
variable {X : Cx}
end
end L2
namespace L2
open PySem PySem.Spec PyProof.Rows
section
variable {prog : Program} {w : World} {A : Around} {E : Value → Shared → Prop} {s : Shared}
theorem draw_list {it t : Addr} {items : Array Value} (hne : t ≠ it) : ∀ (n i : Nat) (s : Shared) (Q : List Value → Shared → Prop), s.heap.IsListIter it t i → s.heap.IsList t items → i + n ≤ items.size →
    (∀ h', h'.IsListIter it t (i + n) → Heap.SameBut it s.heap h' → Q ((items.toList.drop i).take n) { s with heap := h' }) → wpAny (model prog w) A (draw (.ref it) n) Q E s
  | 0, i, s, Q, hit, _, _, hQ => by
    show wpAny _ _ (pure []) Q E s
    exact wpAny_pure (by simpa using hQ s.heap hit (Heap.SameBut.refl ..))
  | n + 1, i, s, Q, hit, ht, hle, hQ => by
    have hlt : i < items.size := by omega
    show wpAny _ _ (pyNext (.ref it) >>= _) Q E s
    refine wpAny_bind (wpAny_pyNext_list_item hit ht (x := items[i]) (by simp [hlt]) fun h₁ hit₁ hs₁ => ?_)
    refine wpAny_bind (wpAny_holding (draw_list hne n (i + 1) _ _ hit₁ (ht.extBut hs₁.extBut hne) (by omega) fun h₂ hit₂ hs₂ => wpAny_pure ?_))
    have hd : items.toList.drop i = items[i] :: items.toList.drop (i + 1) := by simp [List.drop_eq_getElem_cons, hlt]
    have := hQ h₂ (by rw [show i + (n + 1) = i + 1 + n by omega]; exact hit₂) (hs₁.trans hs₂)
    rw [hd, List.take_succ_cons] at this
    exact this
theorem unpackItems_list {t : Addr} {items : Array Value} {Q : List Value → Shared → Prop} (hh : A.handled = none) (ht : s.heap.IsList t items)
    (hQ : ∀ h', Heap.ExtBut s.heap.objs.size s.heap h' → Q items.toList { s with heap := h' }) : wpAny (model prog w) A (unpackItems (.ref t) items.size none) Q E s := by
  have hlt : t ≠ s.heap.objs.size := by obtain ⟨o, ho, _⟩ := ht; exact Nat.ne_of_lt (Heap.lt_size ho)
  unfold unpackItems
  refine wpAny_bind ?_
  unfold notIterableAtAll
  refine wpAny_bind (wpAny_specialOf ht.typeIs slot_list_iter.lookup ?_)
  refine wpAny_pure ?_
  simp only [Bool.false_eq_true, if_false]
  refine wpAny_bind (wpAny_holding (wpAny_pyIter_list ht ?_))
  refine wpAny_bind (wpAny_holding (draw_list hlt items.size 0 _ _ ⟨_, Heap.get?_push_size _ rfl, rfl, rfl⟩ (ht.push _) (by omega) fun h₁ hit₁ hs₁ => ?_))
  have hall : List.take items.size (List.drop 0 items.toList) = items.toList := by
    rw [List.drop_zero]; exact List.take_of_length_le (by simp)
  rw [hall]
  rw [if_neg (by simp)]
  have ht₁ : h₁.IsList t items := (ht.push _).extBut hs₁.extBut hlt
  refine wpAny_bind (wpAny_holding (wpAny_pyNext_list_end hh hit₁ ht₁ (by simp) fun h₂ he₂ => ?_))
  simp only [Option.isSome_none, Bool.false_eq_true, if_false]
  refine wpAny_pure (hQ h₂ fun b o hb e => he₂ b o hb (hs₁.extBut b o hb (Heap.get?_push_of_some _ e)))
theorem assign_Tuple_list {env : Env} {elts : List Expr} {x1} {pos : Pos} {t : Addr} {items : Array Value} {Q : Unit → Shared → Prop} (hh : A.handled = none) (ht : s.heap.IsList t items)
    (hn : (assignEach elts env).length = items.size) (hstar : (assignEach elts env).findIdx? (·.1) = none)
    (h : ∀ h', Heap.ExtBut s.heap.objs.size s.heap h' → wpAny (model prog w) A (assignInOrder ((assignEach elts env).map (·.2)) items.toList) Q E { s with heap := h' }) :
    wpAny (model prog w) A (assign (.Tuple elts x1 pos) env (.ref t)) Q E s := by
  rw [assign_Tuple]
  refine wpAny_bind (wpAny_standAt ?_)
  unfold unpack
  rw [hn, hstar]
  exact wpAny_bind (wpAny_holding (unpackItems_list hh ht h))
end
section
variable {X : Cx} {pos : Pos}
def gLst (K : PySem.W.Frag) (n : Nat) (t : TGs) : TG := fun v σ H Q => ∃ a xs, v = .ref a ∧ SqL K H a xs ∧ xs.length = n ∧ t xs σ H Q
theorem pg_lst {es : List Expr} {k : Nat} {t : TGs} {n : Nat} (hc : X.calm = true) (h : PGs X es t)
    (hn : (assignEach es X.env).length = n := by rfl) (hst : (assignEach es X.env).findIdx? (·.1) = none := by rfl) : PG X (.Tuple es k pos) (gLst X.K n t) := by
  intro pins s σ H v u Q I r hw
  obtain ⟨a, xs, e1, hq, hl, hw⟩ := hw
  subst e1
  cases r
  obtain ⟨its, rv, ht, hz⟩ := I.list hq
  refine assign_Tuple_list (I.ok.hd hc) ht.isList (by simp [hn, ← hl, rv.length]) hst fun h' hx => ?_
  have I1 : Inv X pins σ H { s with heap := h' } := I.kept (t' := s.toks) fun b o e => hx b o (Nat.ne_of_lt (Heap.lt_size e)) e
  exact h pins _ σ H xs _ Q I1 (by simpa using rv) hw
theorem kpg_lst (K : PySem.W.Frag) (hK : X.K = K) {es : List Expr} {k : Nat} {t : TGs} {n : Nat} (hc : X.calm = true) (h : PGs X es t) (hn : (assignEach es X.env).length = n := by rfl) (hst : (assignEach es X.env).findIdx? (·.1) = none := by rfl) :
    PG X (.Tuple es k pos) (gLst K n t) := by subst hK; exact pg_lst hc h hn hst
end
end L2
namespace L2
open PySem PySem.Spec PyProof.Rows
section
variable {X : Cx}
end
end L2
namespace L2
open PySem PySem.Spec PyProof.Rows PySem.W PySem.Calls
section
variable {X : Cx} {pins : List (Addr × Obj)} {σ : St} {H : Hp} {s : Shared}
end
section
variable {X : Cx} {k j : Nat} {f C : Addr} {fd : FuncData} {ps : List Str} {x qual fld : Str} {st : Stmt} {p pos : Pos} {e : Expr} {es : List Expr} {t : TA}
end
end L2
namespace Jb
open PySem L2
inductive Bas where
  | ms (n : Int)
  | gp (a b c : Int)
  | st (ws : List Str)
def Job : Nat → Type
  | 0 => Bas
  | d + 1 => Bas ⊕ (Nat × List (Job d))
abbrev St := Int × List Int
abbrev Para := Int × List Int × List Str
def words (ps : List Para) : Nat := (ps.map fun p => p.2.2.length).sum
def fits (ps : List Para) : Prop := ps.length ≤ 60 ∧ words ps ≤ 400
theorem words_app (a b : List Para) : words (a ++ b) = words a + words b := by
  unfold words
  rw [List.map_append, List.sum_append]
theorem fits.left {a b : List Para} (h : fits (a ++ b)) : fits a := by
  unfold fits at h ⊢
  rw [List.length_append, words_app] at h
  omega
noncomputable instance (ps : List Para) : Decidable (fits ps) := by unfold fits; infer_instance
def SameN (no : Addr) (H H' : Hp) : Prop := ∀ a o, a ≠ no → H a = some o → H' a = some o
theorem SameN.trans {no : Addr} {H1 H2 H3 : Hp} (h : SameN no H1 H2) (h' : SameN no H2 H3) : SameN no H1 H3 := fun a o n e => h' a o n (h a o n e)
theorem SameN.of {no : Addr} {H H' : Hp} (h : Same H H') : SameN no H H' := fun a o _ e => h a o e
theorem SameN.upd {no : Addr} {H H' : Hp} {o : HO} (h : SameN no H H') : SameN no H (upd H' no o) := fun a o' n e => by
  rw [upd_ne n]
  exact h a o' n e
theorem SameN.tup {no : Addr} {H H' : Hp} {vs xs : List V} {t : Addr} (h : SameN no H H') (hno : H no = some (.lst vs)) (ht : H t = some (.tup xs)) : H' t = some (.tup xs) := h t _ (fun e => by rw [e, hno] at ht; cases ht) ht
theorem SameN.sqt {K : PySem.W.Frag} {no : Addr} {H H' : Hp} {vs xs : List V} {t : Addr} (h : SameN no H H') (hno : H no = some (.lst vs)) (ht : SqT K H t xs) : SqT K H' t xs := by
  rcases ht with ht | ht
  · rcases ht with ht | ht
    · exact .inl (.inl (h.tup hno ht))
    · obtain ⟨o, ht⟩ := ht
      exact .inl (.inr ⟨o, h t _ (fun e => by rw [e, hno] at ht; cases ht) ht⟩)
  · exact .inr ht
def BasAt (no : Addr) (H : Hp) (v : V) : Bas → Prop
  | .ms n => ∃ t, v = .ref t ∧ H t = some (.tup [.str "measure", .int n])
  | .gp a b c => ∃ t, v = .ref t ∧ H t = some (.tup [.str "gaps", .int a, .int b, .int c])
  | .st ws => ∃ t p, v = .ref t ∧ H t = some (.tup [.str "set", .ref p]) ∧ p ≠ no ∧ H p = some (.lst (ws.map V.str))
def JobAt (no : Addr) (H : Hp) : (d : Nat) → V → Job d → Prop
  | 0, v, b => BasAt no H v b
  | _ + 1, v, .inl b => BasAt no H v b
  | d + 1, v, .inr (n, js) => n ≤ 1000 ∧ js.length ≤ 1000 ∧ ∃ t p xs, v = .ref t ∧ H t = some (.tup [.str "times", .int (n : Int), .ref p]) ∧ p ≠ no ∧ H p = some (.lst xs) ∧ Paired (JobAt no H d) xs js
theorem BasAt.same {no : Addr} {H H' : Hp} {vs : List V} {v : V} {b : Bas} (h : BasAt no H v b) (s : SameN no H H') (hno : H no = some (.lst vs)) : BasAt no H' v b := by
  cases b with
  | ms n => obtain ⟨t, e, z⟩ := h; exact ⟨t, e, s.tup hno z⟩
  | gp a b c => obtain ⟨t, e, z⟩ := h; exact ⟨t, e, s.tup hno z⟩
  | st ws => obtain ⟨t, p, e, z, n, y⟩ := h; exact ⟨t, p, e, s.tup hno z, n, s _ _ n y⟩
theorem JobAt.same {no : Addr} {H H' : Hp} {vs : List V} (s : SameN no H H') (hno : H no = some (.lst vs)) : ∀ (d : Nat) {v : V} {j : Job d}, JobAt no H d v j → JobAt no H' d v j
  | 0, _, _, h => BasAt.same h s hno
  | _ + 1, _, .inl _, h => BasAt.same h s hno
  | d + 1, _, .inr (_, _), h => by
    obtain ⟨b1, b2, t, p, xs, e, z, n, y, w⟩ := h
    exact ⟨b1, b2, t, p, xs, e, s.tup hno z, n, s _ _ n y, Paired.mapP w fun _ _ q => JobAt.same s hno d q⟩
def ParaAt (K : PySem.W.Frag) (no : Addr) (H : Hp) (v : V) (p : Para) : Prop := ∃ t g w, v = .ref t ∧ H t = some (.tup [.int p.1, .ref g, .ref w]) ∧ SqT K H g (p.2.1.map V.int) ∧ w ≠ no ∧ H w = some (.lst (p.2.2.map V.str))
theorem ParaAt.same {K : PySem.W.Frag} {no : Addr} {H H' : Hp} {vs : List V} {v : V} {p : Para} (h : ParaAt K no H v p) (s : SameN no H H') (hno : H no = some (.lst vs)) : ParaAt K no H' v p := by
  obtain ⟨t, g, w, e, z, y, n, x⟩ := h
  exact ⟨t, g, w, e, s.tup hno z, s.sqt hno y, n, s _ _ n x⟩
end Jb
namespace Jb
open PySem L2
structure WordOk (x : Str) : Prop where
  l1 : 1 ≤ x.cps.toList.length
  l2 : x.cps.toList.length ≤ 12
  sn : ∀ c ∈ x.cps.toList, c ∈ Cs.signs
  ne : x ≠ "end"
def GoodB : Bas → Prop
  | .ms n => 1 ≤ n ∧ n ≤ 2000
  | .gp a b c => 0 ≤ a ∧ a ≤ b ∧ b ≤ c ∧ c ≤ 99
  | .st ws => 1 ≤ ws.length ∧ ws.length ≤ 200 ∧ ∀ x ∈ ws, WordOk x
def GoodJ : (d : Nat) → Job d → Prop
  | 0, b => GoodB b
  | _ + 1, .inl b => GoodB b
  | d + 1, .inr (n, js) => 1 ≤ n ∧ n ≤ 9 ∧ js ≠ [] ∧ js.length ≤ 100 ∧ ∀ j ∈ js, GoodJ d j
def BasN (N : Addr → Prop) (H : Hp) (v : V) : Bas → Prop
  | .ms n => ∃ t, v = .ref t ∧ H t = some (.tup [.str "measure", .int n])
  | .gp a b c => ∃ t, v = .ref t ∧ H t = some (.tup [.str "gaps", .int a, .int b, .int c])
  | .st ws => ∃ t p, v = .ref t ∧ H t = some (.tup [.str "set", .ref p]) ∧ ¬ N p ∧ H p = some (.lst (ws.map V.str))
def JobN (N : Addr → Prop) (H : Hp) : (d : Nat) → V → Job d → Prop
  | 0, v, b => BasN N H v b
  | _ + 1, v, .inl b => BasN N H v b
  | d + 1, v, .inr (n, js) => n ≤ 1000 ∧ js.length ≤ 1000 ∧ ∃ t p xs, v = .ref t ∧ H t = some (.tup [.str "times", .int (n : Int), .ref p]) ∧ ¬ N p ∧ H p = some (.lst xs) ∧ Paired (JobN N H d) xs js
structure SameS (N : Addr → Prop) (H H' : Hp) : Prop where
  tup : ∀ a xs, H a = some (.tup xs) → H' a = some (.tup xs)
  lst : ∀ a xs, ¬ N a → H a = some (.lst xs) → H' a = some (.lst xs)
theorem SameS.of {N : Addr → Prop} {H H' : Hp} (s : Same H H') : SameS N H H' := ⟨fun a xs h => s _ _ h, fun a xs _ h => s _ _ h⟩
theorem SameS.upd {N : Addr → Prop} {H : Hp} {q : Addr} {ys : List V} {o : HO} (hq : H q = some (.lst ys)) (hN : N q) : SameS N H (upd H q o) := by
  refine ⟨fun a xs h => ?_, fun a xs n h => ?_⟩
  · rw [upd_ne (ne_of h hq (fun z => by cases z))]
    exact h
  · rw [upd_ne (fun z => n (by rw [z]; exact hN))]
    exact h
theorem SameS.trans {N : Addr → Prop} {H1 H2 H3 : Hp} (h : SameS N H1 H2) (h' : SameS N H2 H3) : SameS N H1 H3 := ⟨fun a xs e => h'.tup a xs (h.tup a xs e), fun a xs n e => h'.lst a xs n (h.lst a xs n e)⟩
section
variable {N M : Addr → Prop} {H H' : Hp}
theorem BasN.to (s : SameS N H H') (hm : ∀ p xs, H p = some (.lst xs) → ¬ N p → ¬ M p) {v : V} {b : Bas} (h : BasN N H v b) : BasN M H' v b := by
  cases b with
  | ms n => obtain ⟨t, e, z⟩ := h; exact ⟨t, e, s.tup _ _ z⟩
  | gp a b c => obtain ⟨t, e, z⟩ := h; exact ⟨t, e, s.tup _ _ z⟩
  | st ws => obtain ⟨t, p, e, z, n, y⟩ := h; exact ⟨t, p, e, s.tup _ _ z, hm _ _ y n, s.lst _ _ n y⟩
theorem JobN.to (s : SameS N H H') (hm : ∀ p xs, H p = some (.lst xs) → ¬ N p → ¬ M p) : ∀ (d : Nat) {v : V} {j : Job d}, JobN N H d v j → JobN M H' d v j
  | 0, _, _, h => BasN.to s hm h
  | _ + 1, _, .inl _, h => BasN.to s hm h
  | d + 1, _, .inr (_, _), h => by
    obtain ⟨b1, b2, t, p, xs, e, z, n, y, w⟩ := h
    exact ⟨b1, b2, t, p, xs, e, s.tup _ _ z, hm _ _ y n, s.lst _ _ n y, Paired.mapP w fun _ _ q => JobN.to s hm d q⟩
theorem JobN.same (s : SameS N H H') (d : Nat) {v : V} {j : Job d} (h : JobN N H d v j) : JobN N H' d v j := JobN.to s (fun _ _ _ n => n) d h
theorem BasN.at {q : Addr} {v : V} {b : Bas} (h : BasN (fun a => a = q) H v b) : BasAt q H v b := by
  cases b with
  | ms n => exact h
  | gp a b c => exact h
  | st ws => exact h
theorem JobN.at {q : Addr} : ∀ (d : Nat) {v : V} {j : Job d}, JobN (fun a => a = q) H d v j → JobAt q H d v j
  | 0, _, _, h => BasN.at h
  | _ + 1, _, .inl _, h => BasN.at h
  | d + 1, _, .inr (_, _), h => by
    obtain ⟨b1, b2, t, p, xs, e, z, n, y, w⟩ := h
    exact ⟨b1, b2, t, p, xs, e, z, n, y, Paired.mapP w fun _ _ q => JobN.at d q⟩
end
theorem depth_nil (d : PyData) : min d.depth (dInts []).depth ≤ 64 := by
  have : (dInts []).depth = 1 := rfl
  omega
def ListOk (N : Addr → Prop) (H : Hp) (b d : Nat) (L : Addr) : Prop := ∃ (xs : List V) (js : List (Job d)), H L = some (.lst xs) ∧ Paired (JobN N H d) xs js ∧ (∀ j ∈ js, GoodJ d j) ∧ js.length ≤ b
structure Stk (H0 H : Hp) (S M : Addr) (ls : List Addr) (ms : List Int) (b : Nat) : Prop where
  sm : Same H0 H
  hS : H S = some (.lst (ls.map V.ref))
  hM : H M = some (.lst (ms.map V.int))
  l5 : ls.length ≤ 5
  mb : ∀ m ∈ ms, 1 ≤ m ∧ m ≤ 9
  nd : (S :: M :: ls).Nodup
  fr : ∀ a ∈ S :: M :: ls, H0 a = none
  ok : ∀ i L, ls[i]? = some L → ListOk (fun a => a ∈ S :: M :: ls) H b (4 - i) L
section
variable {H0 H H' : Hp} {S M : Addr} {ls : List Addr} {ms : List Int} {b : Nat}
theorem ListOk.same {N : Addr → Prop} {d : Nat} {L : Addr} (h : ListOk N H b d L) (s : SameS N H H') (e : ∀ xs, H L = some (.lst xs) → H' L = some (.lst xs)) {c : Nat} (hc : b ≤ c) : ListOk N H' c d L := by
  obtain ⟨xs, js, h1, h2, h3, h4⟩ := h
  exact ⟨xs, js, e _ h1, Paired.mapP h2 fun _ _ z => JobN.same s d z, h3, by omega⟩
theorem Stk.same (h : Stk H0 H S M ls ms b) (s : Same H H') : Stk H0 H' S M ls ms b :=
  ⟨h.sm.trans s, s _ _ h.hS, s _ _ h.hM, h.l5, h.mb, h.nd, h.fr, fun i L e => (h.ok i L e).same (SameS.of s) (fun _ z => s _ _ z) (Nat.le_refl _)⟩
theorem Stk.mem {i : Nat} {L : Addr} (e : ls[i]? = some L) : L ∈ S :: M :: ls := List.mem_cons_of_mem _ (List.mem_cons_of_mem _ (List.mem_of_getElem? e))
theorem Stk.ne (h : Stk H0 H S M ls ms b) : S ≠ M ∧ S ∉ ls ∧ M ∉ ls ∧ ls.Nodup := by
  have h1 := List.nodup_cons.mp h.nd
  have h2 := List.nodup_cons.mp h1.2
  exact ⟨fun z => h1.1 (by rw [z]; exact List.mem_cons_self), fun z => h1.1 (List.mem_cons_of_mem _ z), h2.1, h2.2⟩
theorem Stk.many (h : Stk H0 H S M ls ms b) {ns : List Int} (hn : ∀ m ∈ ns, 1 ≤ m ∧ m ≤ 9) : Stk H0 (upd H M (.lst (ns.map V.int))) S M ls ns b := by
  obtain ⟨n1, n2, n3, n4⟩ := h.ne
  have hs : SameS (fun a => a ∈ S :: M :: ls) H (upd H M (.lst (ns.map V.int))) := SameS.upd h.hM (List.mem_cons_of_mem _ List.mem_cons_self)
  exact ⟨same_upd h.sm (h.fr M (List.mem_cons_of_mem _ List.mem_cons_self)), by rw [upd_ne n1]; exact h.hS, upd_same, h.l5, hn, h.nd, h.fr, fun k L e => (h.ok k L e).same hs (fun _ y => by rw [upd_ne (fun z => n3 (by rw [← z]; exact List.mem_of_getElem? e))]; exact y) (Nat.le_refl _)⟩
end
end Jb
namespace L2
open PySem PySem.Spec PyProof.Rows
section
variable {X : Cx}
theorem call_intT : CallR X (.type "int") (fun xs H Q => ∃ (x : Str) (n : Int), xs = [.str x] ∧ PySem.intText? x = some n ∧ x.length ≤ 640 ∧ Q (.int n) H) := by
  intro pins s σ H xs us Q I r h
  obtain ⟨x, n, rfl, hn, hl, q⟩ := h
  obtain ⟨u, rfl, t, rfl⟩ := vals1 r
  exact PySem.W.KIN.call_text hn hl ⟨.int _, H, I.tok _, ⟨_, rfl⟩, q⟩
theorem call_strB : CallR X (.type "str") (fun xs H Q => ∃ i : Int, xs = [.int i] ∧ i.natAbs < 100000 ∧ Q (.str (Str.ofString (toString i))) H) := by
  intro pins s σ H xs us Q I r h
  obtain ⟨i, rfl, hi, q⟩ := h
  obtain ⟨u, rfl, t, rfl⟩ := vals1 r
  refine P.str_of_int ?_ ⟨.str _, H, I.tok _, ⟨_, rfl⟩, q⟩
  have : i.natAbs.log2 < 17 := by
    rcases Nat.eq_zero_or_pos i.natAbs with e | e
    · rw [e]; decide
    · exact (Nat.log2_lt (by omega)).mpr (by omega)
  omega
end
end L2
namespace Cp
open PySem L2 Jb
def isFig (c : Nat) : Bool := decide (48 ≤ c) && decide (c ≤ 57)
def isNum (x : Str) : Bool := !(decide (1 < x.cps.toList.length) && decide (x.cps.toList[0]? = some 48)) && (decide (1 ≤ x.cps.toList.length) && decide (x.cps.toList.length ≤ 4)) && x.cps.toList.all isFig
def numV (x : Str) : Int := (PySem.intText? x).getD 0
theorem num_len {x : Str} (h : isNum x = true) : 1 ≤ x.cps.toList.length ∧ x.cps.toList.length ≤ 4 := by
  unfold isNum at h
  simp only [Bool.and_eq_true, decide_eq_true_iff] at h
  exact h.1.2
theorem num_text {x : Str} (h : isNum x = true) : PySem.intText? x = some (numV x) := by
  have hl := num_len h
  unfold isNum at h
  simp only [Bool.and_eq_true] at h
  have hd : PySem.NumText.AllDigits x.cps.toList := fun c hc => by
    have := List.all_eq_true.mp h.2 c hc
    unfold isFig at this
    simp only [Bool.and_eq_true, decide_eq_true_iff] at this
    exact this
  have e : x.cps.toList.length = x.length := Array.length_toList
  have := PySem.intText_digits hd (fun z => by rw [z] at hl; exact absurd hl.1 (by decide)) (by omega)
  unfold numV
  rw [this]
  rfl
def hd (r : List Str) (k : Nat) : Str := (r[k]?).getD ""
abbrev Rd (α : Type) := Option (α × Nat)
end Cp
namespace L2
open PySem PySem.Spec PyProof.Rows
section
variable {X : Cx}
end
end L2
namespace L2
open PySem PySem.Spec PyProof.Rows
section
variable {X : Cx}
theorem joins_step {v : Expr} {t : TE} (h : PE X v t) {pins : List (Addr × Obj)} {s : Shared} {σ : St} {H : Hp} {acc : Str} {n : Nat} {rest : List (Sem Value)} {Qj : Str → Shared → Prop} {R : Hp → Prop} (I : Inv X pins σ H s)
    (q : t σ H fun a H1 => ∃ x : Str, a = .str x ∧ x.length ≤ 2000 ∧ R H1) (ha : acc.length ≤ n) (hn : (n + 2000).ble 100000 = true)
    (hr : ∀ (x : Str) (s1 : Shared) (H1 : Hp), Inv X pins σ H1 s1 → R H1 → (acc ++ x).length ≤ n + 2000 → Joins (model X.prog X.w) X.A X.xe rest (acc ++ x) Qj s1) : Joins (model X.prog X.w) X.A X.xe (eval v X.env :: rest) acc Qj s := by
  refine thn (h pins s σ H _ I q) fun a s1 z => ?_
  obtain ⟨y, H1, I1, r1, x, e, l, q1⟩ := z
  subst e
  obtain ⟨t1, rfl⟩ := r1
  have hl : (acc ++ x).length ≤ n + 2000 := by rw [Str.length_append]; exact Nat.add_le_add ha l
  exact ⟨x, t1, rfl, Nat.le_trans hl (smallL (Nat.le_of_ble_eq_true hn)), hr x s1 H1 I1 q1 hl⟩
theorem joins_end {pins : List (Addr × Obj)} {s : Shared} {σ : St} {H : Hp} {acc : Str} {n : Nat} {Q : VK} (I : Inv X pins σ H s) (q : ∀ x, Q (.str x) H) (ha : acc.length ≤ n) (hn : n.ble 100000 = true) :
    Joins (model X.prog X.w) X.A X.xe (evalEach [] X.env) acc (fun out s₁ => out.length ≤ sizeLine ∧ EP X pins σ Q (.str out s₁.toks) { s₁ with toks := s₁.toks + 1 }) s :=
  ⟨Nat.le_trans ha (smallL (Nat.le_of_ble_eq_true hn)), .str _, H, I.tok _, ⟨_, rfl⟩, q _⟩
theorem pe_k3 {v1 v2 v3 : Expr} {pos : Pos} {t1 t2 t3 : TE} (h1 : PE X v1 t1) (h2 : PE X v2 t2) (h3 : PE X v3 t3) : PE X (.JoinedStr [v1, v2, v3] pos) (tJ3 t1 t2 t3) := fun _ _ _ _ _ I h =>
  wpAny_JoinedStr (joins_step h1 I h (Nat.le_refl 0) rfl fun _ _ _ I1 q1 l1 => joins_step h2 I1 q1 l1 rfl fun _ _ _ I2 q2 l2 => joins_step h3 I2 q2 l2 rfl fun _ _ _ I3 q3 l3 => joins_end I3 q3 l3 rfl)
end
end L2
namespace L2
open PySem PySem.Spec PyProof.Rows
theorem note_env {ev : Value} {env env' : Env} (h : env'.frame = env.frame) : noteFrame ev env' = noteFrame ev env := by
  unfold noteFrame PySem.frameOf
  rw [h]
section
variable {prog : Program} {w : World} {A : Around} {R : Result → Shared → Prop} {s : Shared}
theorem compLoop_anyX {elt target iter : Expr} {ifs : List Expr} {scope : Scope} {pos : Pos} {it acc : Value} {env : Env} (I : Nat → Shared → Prop) (EX : Value → Shared → Prop)
    (turn : ∀ n s, I n s → wpAny (model prog w) A (pyNext it) (fun r s1 => match r with
      | none => R (.ok .next) s1
      | some v => wpAny (model prog w) A (letOwnedTupleGo target it v) (fun _ s1' => wpAny (model prog w) A (assign target env v) (fun _ s2 =>
          wpAny (model prog w) A (forIn ifs true fun c r => if r = true then do let ok ← isTrue c env (eval c env); pure (ForInStep.yield ok) else pure (ForInStep.yield r)) (fun ok s3 =>
            if ok = true then wpAny (model prog w) A (eval elt env) (fun x s4 =>
              wpAny (model prog w) A (call (.builtin "list.append") [acc, x]) (fun _ s5 => ∃ m, m < n ∧ I m s5) (fun _ _ => False) s4) EX s3
            else ∃ m, m < n ∧ I m s3) (fun _ _ => False) s2) (fun _ _ => False) s1') (fun _ _ => False) s1) (fun _ _ => False) s)
    (hE : ∀ x s, EX x s → notedBy (model prog w) A env (fun x s' => R (.error x) s') x s)
    (n : Nat) (h : I n s) :
    codeAny (model prog w) A (.compLoop (.ListComp elt [⟨target, iter, ifs, 0⟩] scope pos) 0 it acc env) R s := by
  refine codeAny_loop rfl I (fun n s hI => ?_) n h
  show wpAny _ A ((compTurn (.ListComp elt [⟨target, iter, ifs, 0⟩] scope pos) 0 it acc env).onRaise (fun x => do noteFrame x env; theTreesLotGoes x)) _ _ s
  refine wpAny_noted ?_
  rw [compTurn_list]
  refine wpAny_bind (wpAny_standAt (wpAny_bind (wpAny_mono (turn n s hI) (fun r s1 h1 => ?_) fun _ _ h' => False.elim h')))
  cases r with
  | none => exact wpAny_pure h1
  | some v =>
    refine wpAny_bind (wpAny_mono h1 (fun _ s1' h1' => ?_) fun _ _ h' => False.elim h')
    refine wpAny_bind (wpAny_mono h1' (fun _ s2 h2 => wpAny_bind (wpAny_mono h2 (fun ok s3 h3 => ?_) fun _ _ h' => False.elim h')) fun _ _ h' => False.elim h')
    cases ok with
    | false => exact wpAny_pure ⟨rfl, h3⟩
    | true =>
      exact wpAny_bind (wpAny_bind (wpAny_mono h3 (fun x s4 h4 => wpAny_bind (wpAny_mono h4 (fun _ s5 h5 => wpAny_pure (wpAny_pure ⟨rfl, h5⟩)) fun _ _ h' => False.elim h')) hE))
end
section
variable {X : Cx}
theorem comp_coreX {elt target iter : Expr} {scope : Scope} {pos : Pos} {p : Pos} {wi : TI} {g : TG} {te : TE} {N' : List Str} {ms : List Nat} {k : Nat} {use : Option (Value → Sem Unit)} {E : XK} {L : Addr}
    {Q : Value → Shared → Prop} {pins : List (Addr × Obj)} {s : Shared} {σ : St} {H : Hp} {Qv : VK} (hL : X.env.frame = some L) (hst : X.stack = X.env :: X.outer) (hcalm : X.calm = true) (hi : PI (X.wish (Fly X fun _ => E)) target iter wi)
    (B : BlkOk X N' scope ms k) (hg : ∀ C cells s₀ H₀ ex, PG (blkCx X N' scope C cells s₀ H₀ ex) target g)
    (he : ∀ C cells s₀ H₀ ex, PE ((blkCx X N' scope C cells s₀ H₀ ex).wish (Fly (blkCx X N' scope C cells s₀ H₀ ex) fun _ => E)) elt te) (hs : ∀ x, foldedSetIterable iter X.env x = pure x) (I : Inv (X.wish (Fly X fun _ => E)) pins σ H s) (hw : tComp wi g tTrue te ms k σ H Qv)
    (hpost : ∀ (D : Addr) (H' : Hp) (s' : Shared) (C : Addr) (m : Str → Option Value), Inv X pins σ H' s' → s'.heap.Ns C m → H' C = none → C ≠ X.env.locals → X.s₀.heap.objs.size ≤ C →
      (∀ x c, X.env.cells.lookup x = some c → c ≠ C) → (∀ p ∈ X.pn ++ pins, p.1 ≠ C) → Qv (.ref D) H' → compPost (model X.prog X.w) X.A (Fly X fun _ => E) use Q (.ref D) C (.ok .next) s') :
    wpAny (model X.prog X.w) X.A (comprehension (.ListComp elt [⟨target, iter, [], 0⟩] scope pos) scope X.env p (newList []) false (eval iter X.env) use) Q (Fly X fun _ => E) s := by
  have hfree : ∀ x ∈ scope.names, x.2 = .free → ∃ c, X.env.cells.lookup x.1 = some c := fun x hx hk => I.ok.has x.1 (B.free x hx hk)
  refine wpAny_comprehension_free (use := use) rfl hs (closureFor_eq hfree) B.kind (fun x hx hl => by rw [B.uniq x hx, hl]) ?_
  refine thn (hi pins s σ H _ I hw) fun v s1 h1 => thn h1 fun itv s2 h2 => ?_
  obtain ⟨it, fp, tn, J, H2, rfl, I2, T, st2, f2, h2⟩ := h2
  have I2 := I2.unwish
  refine wpAny_newObj_type ?_
  have I3 : Inv X pins σ (upd H2 s2.heap.objs.size (.lst [])) { s2 with heap := s2.heap.push { cls := .type "list", data := .seq ([] : List Value).toArray } } := I2.lnew (t' := s2.toks) .nil (Nat.zero_le _)
  obtain ⟨W, ⟨m0, w0⟩, turn⟩ := h2 s2.heap.objs.size I2.fresh
  have hfp3 : ∀ b ∈ fp, FpOk X pins (upd H2 s2.heap.objs.size (.lst [])) b ∧ b < (s2.heap.push { cls := .type "list", data := .seq ([] : List Value).toArray }).objs.size := fun b hb => by
    obtain ⟨o, e, _⟩ := T.obj _ _ st2 b hb
    have hlt := Heap.lt_size e
    obtain ⟨f0, fr⟩ := f2 b hb
    refine ⟨⟨by rw [upd_ne (Nat.ne_of_lt hlt)]; exact f0, fr⟩, ?_⟩
    rw [Heap.size_push]
    exact Nat.lt_succ_of_lt hlt
  generalize hs3 : ({ s2 with heap := s2.heap.push { cls := .type "list", data := .seq ([] : List Value).toArray } } : Shared) = s3 at I3
  have hh3 : s2.heap.push { cls := .type "list", data := .seq ([] : List Value).toArray } = s3.heap := by rw [← hs3]
  rw [hh3] at hfp3
  refine wp_blkEnv ?_
  have I4 := inv_blk I3 B hfp3
  have st4 : tn 0 (pushCells (s3.heap.push { cls := .type "dict", data := .dict #[] }) scope.names) := T.keep _ _ _ st2 fun b hb o e => pushCells_keeps _ _ b o (Heap.get?_push_of_some _ (by rw [← hh3]; exact Heap.get?_push_of_some _ e))
  have fr4 : ∀ b ∈ fp, upd H2 s2.heap.objs.size (.lst []) b = none := fun b hb => (hfp3 b hb).1.1
  generalize hs4 : ({ s3 with heap := pushCells (s3.heap.push { cls := .type "dict", data := .dict #[] }) scope.names } : Shared) = s4 at I4
  have hh4 : pushCells (s3.heap.push { cls := .type "dict", data := .dict #[] }) scope.names = s4.heap := by rw [← hs4]
  rw [hh4] at st4
  have l3 := I3.lt
  have up : ∀ {σ' : St} {H' : Hp} {s' : Shared}, Inv (blkCx X N' scope s3.heap.objs.size (cellsFrom (s3.heap.objs.size + 1) scope.names (closeFrom X.env scope.names [])) s3 (upd H2 s2.heap.objs.size (.lst [])) fp) [] σ' H' s' → Inv X pins σ H' s' := fun {σ' H' s'} I6 => I3.call' I6.os I6.base I6.hok I6.bare fun b hb => by
    obtain ⟨⟨_, f1, _, f3, f4, f5⟩, _⟩ := hfp3 b hb
    exact ⟨f3, f1, f4, f5⟩
  have g1 : ∀ x c, X.env.cells.lookup x = some c → c ≠ s3.heap.objs.size := fun x c e z => by
    obtain ⟨v, hv⟩ := I3.cell x c e
    have := hv.lt
    rw [z] at this
    exact Nat.lt_irrefl _ this
  have g2 : ∀ p ∈ X.pn ++ pins, p.1 ≠ s3.heap.objs.size := fun p hp z => by
    have := Heap.lt_size (I3.pin p hp).1
    rw [z] at this
    exact Nat.lt_irrefl _ this
  have raised : ∀ ev s', Fly (blkCx X N' scope s3.heap.objs.size (cellsFrom (s3.heap.objs.size + 1) scope.names (closeFrom X.env scope.names [])) s3 (upd H2 s2.heap.objs.size (.lst [])) fp) (fun _ => E) ev s' → notedBy (model X.prog X.w) X.A (blkEnv scope X.env s3.heap.objs.size (cellsFrom (s3.heap.objs.size + 1) scope.names (closeFrom X.env scope.names []))) (fun x s'' => compPost (model X.prog X.w) X.A (Fly X fun _ => E) use Q (.ref s2.heap.objs.size) s3.heap.objs.size (.error x) s'') ev s' := by
    rintro ev s' ⟨e, cls, dx, σ', H', L', rfl, hL', IY, ef, hx, hE⟩
    have hLL : L' = L := Option.some.inj (hL'.symm.trans hL)
    subst hLL
    have frX : ∀ b, Fr0 (blkCx X N' scope s3.heap.objs.size (cellsFrom (s3.heap.objs.size + 1) scope.names (closeFrom X.env scope.names [])) s3 (upd H2 s2.heap.objs.size (.lst [])) fp) H' b → Fr0 X H' b := fun b hb => ⟨Nat.le_trans I3.sz hb.1, hb.2.1, I3.pnlt hb.1⟩
    have hA : X.A.frames = some (X.env :: X.outer) := by rw [← hst]; exact I3.ok.frames
    have hl : s'.heap.FunFrames X.base (X.env :: X.outer) := by rw [← hst]; exact IY.stack
    show wpAny _ _ (noteFrame (.ref e) _) _ _ s'
    rw [note_env (env := X.env) (env' := blkEnv scope X.env s3.heap.objs.size (cellsFrom (s3.heap.objs.size + 1) scope.names (closeFrom X.env scope.names []))) rfl]
    refine note_any hA hl hL (fun b hb => IY.fr0 hb) ef hx fun h' ch hr hsz st hx' => ?_
    have IY' := IY.exc hr (by show Stays (frs X.stack) ch s'.heap h'; rw [hst]; exact st)
    have IX := up IY'
    obtain ⟨m, hn, _⟩ := IY'.loc
    obtain ⟨oc, es, ep, hoc, hdc, _⟩ := id hn
    refine ⟨m, hn, fun h'' sb cenv _ => ?_⟩
    have IX2 : Inv X [] σ H' { s' with heap := h'' } := Inv.nopins (IX.turned (h' := h'') (t' := s'.toks) (fun b o hb e => (sb.2 b hb).trans e) IY'.free (Nat.ne_of_gt l3) (.inr I3.sz) g1 g2)
    obtain ⟨oe, vs, hd, ho, hc1, hc2, hdt, h1, T', oT, ts, rfl, hFT, hTe, hT, hdT, h3⟩ := hx'
    have neC : ∀ {b : Addr} {o : Obj} {fs : Array Value}, h'.get? b = some o → o.data = .fields fs → b ≠ s3.heap.objs.size := fun {b o fs} q1 q2 z => by
      rw [z] at q1
      have q3 : some oc = some o := hoc.symm.trans q1
      cases q3
      rw [q2] at hdc
      cases hdc
    have ho2 : h''.get? e = some oe := (sb.2 e (neC ho hdt)).trans ho
    have hT2 : h''.get? T' = some oT := (sb.2 T' (neC hT hdT)).trans hT
    have hx2 : ExcAt (TbAt (Fr0 X H') e (rawInt L')) h'' e cls dx := ⟨oe, vs, _, ho2, hc1, hc2, hdt, h1, T', oT, ts, rfl, frX T' hFT, hTe, hT2, hdT, h3⟩
    unfold PySem.passOn
    refine wpAny_bind (wpAny_field (s := { s' with heap := h'' }) ho2 hdt h1 ?_)
    rw [if_neg (show ¬ ((Value.ref T' == Value.none) = true) from by simp)]
    refine wpAny_bind (fly_mark (X := X) (s := { s' with heap := h'' }) (fr := cenv.frame) IX2 (frX e ef) hx2 fun h3' I3' hx3 => ?_)
    exact wpAny_throw ⟨e, cls, dx, σ, H', L', rfl, hL, I3', frX e ef, hx3.mono fun hd t => .inr ⟨_, t⟩, hE⟩
  have stat : ∀ {H' : Hp} {pn' : List (Addr × Obj)}, pn' = [] → (∀ b ∈ fp, H' b = none) → ∀ b ∈ fp, FpOk (blkCx X N' scope s3.heap.objs.size (cellsFrom (s3.heap.objs.size + 1) scope.names (closeFrom X.env scope.names [])) s3 (upd H2 s2.heap.objs.size (.lst [])) fp) pn' H' b := fun hp hn b hb => by
    obtain ⟨x1, x2⟩ := I4.ok.exf b hb
    exact ⟨hn b hb, x1, I4.ok.exfs b hb, .inl hb, x2, fun p hp' => by rw [hp] at hp'; exact absurd (show p ∈ ([] : List (Addr × Obj)) from hp') (by simp)⟩
  have loop : ∀ it' : Value, it' = .ref it → codeAny (model X.prog X.w) X.A (.compLoop (.ListComp elt [⟨target, iter, [], 0⟩] scope pos) 0 it' (.ref s2.heap.objs.size) (blkEnv scope X.env s3.heap.objs.size (cellsFrom (s3.heap.objs.size + 1) scope.names (closeFrom X.env scope.names []))))
      (compPost (model X.prog X.w) X.A (Fly X fun _ => E) use Q (.ref s2.heap.objs.size) s3.heap.objs.size) s4 := by
    rintro it' rfl
    refine compLoop_anyX (fun n s' => ∃ i σ' H', Inv (blkCx X N' scope s3.heap.objs.size (cellsFrom (s3.heap.objs.size + 1) scope.names (closeFrom X.env scope.names [])) s3 (upd H2 s2.heap.objs.size (.lst [])) fp) [] σ' H' s' ∧ tn i s'.heap ∧ (∀ b ∈ fp, H' b = none) ∧ W i n σ' H') (Fly (blkCx X N' scope s3.heap.objs.size (cellsFrom (s3.heap.objs.size + 1) scope.names (closeFrom X.env scope.names [])) s3 (upd H2 s2.heap.objs.size (.lst [])) fp) fun _ => E) ?_ raised m0 ⟨0, _, _, I4, st4, fr4, w0⟩
    rintro n s5 ⟨i, σ5, H5, I5, st5, fr5, w5⟩
    rcases turn i n σ5 H5 w5 with ⟨stop, q⟩ | ⟨go, step⟩
    · refine thn (T.done (blkCx X N' scope s3.heap.objs.size (cellsFrom (s3.heap.objs.size + 1) scope.names (closeFrom X.env scope.names [])) s3 (upd H2 s2.heap.objs.size (.lst [])) fp) rfl rfl rfl hcalm i [] s5 σ5 H5 (fun _ _ => False) I5 (stat rfl fr5) st5 stop) fun r s6 ⟨hr, I6⟩ => ?_
      subst hr
      obtain ⟨m, hn, _⟩ := I6.loc
      exact hpost _ H5 s6 _ m (up I6) hn I6.free (Nat.ne_of_gt l3) I3.sz g1 g2 q
    · refine thn (T.item (blkCx X N' scope s3.heap.objs.size (cellsFrom (s3.heap.objs.size + 1) scope.names (closeFrom X.env scope.names [])) s3 (upd H2 s2.heap.objs.size (.lst [])) fp) rfl rfl rfl hcalm i [] s5 σ5 H5 (fun _ _ => False) I5 (stat rfl fr5) st5 go) fun r s6 ⟨u, hr, h6⟩ => ?_
      subst hr
      refine thn h6 fun _ s7 ⟨x, H7, I7, r7, y7, st7, fr7⟩ => ?_
      have I7' := I7.pinned (stat rfl fr7) (T.obj _ _ st7)
      refine thn (hg _ _ _ _ _ _ s7 σ5 H7 x u _ I7' r7 (step x H7 y7)) fun _ s8 ⟨σ8, H8, I8, q8⟩ => ?_
      refine thn (pts_nil (X := blkCx X N' scope s3.heap.objs.size (cellsFrom (s3.heap.objs.size + 1) scope.names (closeFrom X.env scope.names [])) s3 (upd H2 s2.heap.objs.size (.lst [])) fp) _ s8 σ8 H8 _ I8 q8) fun b s9 ⟨H9, I9, q9⟩ => ?_
      have again : ∀ {σ' : St} {H' : Hp} {s' : Shared}, Inv (blkCx X N' scope s3.heap.objs.size (cellsFrom (s3.heap.objs.size + 1) scope.names (closeFrom X.env scope.names [])) s3 (upd H2 s2.heap.objs.size (.lst [])) fp) ([] ++ pinsAt fp s7.heap) σ' H' s' →
          (∃ m', m' < n ∧ W (i + 1) m' σ' H') → ∃ m, m < n ∧ ∃ i σ'' H'', Inv (blkCx X N' scope s3.heap.objs.size (cellsFrom (s3.heap.objs.size + 1) scope.names (closeFrom X.env scope.names [])) s3 (upd H2 s2.heap.objs.size (.lst [])) fp) [] σ'' H'' s' ∧ tn i s'.heap ∧ (∀ b ∈ fp, H'' b = none) ∧ W i m σ'' H'' := fun {σ' H' s'} I' ⟨m', hm, w'⟩ => by
        refine ⟨m', hm, i + 1, σ', H', I'.unpinned, T.keep _ _ _ st7 fun b hb o e => (I'.pin (b, o) (List.mem_append_right _ (List.mem_append_right _ (mem_pinsAt hb e)))).1, fun b hb => ?_, w'⟩
        obtain ⟨o, e, d⟩ := T.obj _ _ st7 b hb
        exact (I'.pin (b, o) (List.mem_append_right _ (List.mem_append_right _ (mem_pinsAt hb e)))).2.1
      cases b with
      | false =>
        rw [if_neg Bool.false_ne_true] at q9 ⊢
        exact again I9 q9
      | true =>
        rw [if_pos rfl] at q9 ⊢
        refine thn (he _ _ _ _ _ _ s9 σ8 H9 _ (I9.wish _) q9) fun y s10 ⟨vy, H10, I10, r10, ys, hys, hz, q10⟩ => ?_
        refine thn (mt_append _ s10 σ8 H10 (.ref s2.heap.objs.size) [vy] (.ref s2.heap.objs.size) [y] (fun _ H' => H' = upd H10 s2.heap.objs.size (.lst (ys ++ [vy]))) I10.unwish rfl (.cons r10 .nil) ⟨_, ys, vy, rfl, rfl, hys, hz, rfl⟩) fun _ s11 ⟨_, H11, I11, _, e11⟩ => ?_
        subst e11
        exact again I11 q10
  exact codeAny_compStart_list (loop _ rfl) (T.self _ 0 s4 _ _ st4 (loop _ rfl))
theorem ps_setCX {i : Nat} {x : Str} {px : Pos} {spos : Pos} {elt target iter : Expr} {scope : Scope} {pos : Pos} {wi : TI} {g : TG} {te : TE} {N' : List Str} {ms : List Nat} {k : Nat} {E : XK} {L : Addr} (hL : X.env.frame = some L) (hst : X.stack = X.env :: X.outer) (hN : X.N.Nodup) (hx : X.N[i]? = some x) (hl : Loc X.env.scope x)
    (hcalm : X.calm = true) (hi : PI (X.wish (Fly X fun _ => E)) target iter wi) (B : BlkOk X N' scope ms k) (hg : ∀ C cells s₀ H₀ ex, PG (blkCx X N' scope C cells s₀ H₀ ex) target g)
    (he : ∀ C cells s₀ H₀ ex, PE ((blkCx X N' scope C cells s₀ H₀ ex).wish (Fly (blkCx X N' scope C cells s₀ H₀ ex) fun _ => E)) elt te) (hsw : swapsWith (.ListComp elt [⟨target, iter, [], 0⟩] scope pos) (some (.Name x px)) spos.line X.env = pure true := by rfl) (hs : ∀ x, foldedSetIterable iter X.env x = pure x := by intro _; rfl)
    (hf : X.fn x = true ∨ X.env.scope.names.lookup x = some .local := by first | exact .inl rfl | exact .inr rfl | assumption) :
    PS (X.wish (Fly X fun _ => E)) (.Assign [.Name x px] (.ListComp elt [⟨target, iter, [], 0⟩] scope pos) spos) (tAsg (tComp wi g tTrue te ms k) (gName i)) := by
  intro pins s σ H D I h
  rw [exec_Assign_Name_used _ _ _ _ hsw]
  refine wpAny_bind (wpAny_standAt (wpAny_bind ?_))
  show wpAny _ X.A (do let _ ← comprehension (.ListComp elt [⟨target, iter, [], 0⟩] scope pos) scope X.env _ (newList []) false (eval iter X.env) (some (assign (.Name x px) X.env))) _ _ s
  refine wpAny_bind (wpAny_mono (comp_coreX (X := X) (E := E) (L := L) (use := some (assign (.Name x px) X.env)) (Q := fun _ s' => ∃ σ' H', Inv X pins σ' H' s' ∧ D.nx σ' H') hL hst hcalm hi B hg he hs I h fun Da H' s' C m I' hn f0 f1 f3 f4 f5 q => ?_)
    (fun _ s' ⟨σ', H', I', q⟩ => wpAny_pure (wpAny_pure ⟨σ', H', I'.wish _, q⟩)) fun _ _ e => e)
  show wpAny _ X.A (assign (.Name x px) X.env (.ref Da)) _ _ s'
  refine wpAny_assign_Name (store_ok2 I' hN hx hl (v := .ref Da) rfl (fun s'' I'' ⟨b, sb, hb⟩ => ?_) hf)
  have hCb : C ≠ b := by
    rcases hb with z | z
    · rw [z]; exact f1
    · exact fun e => f4 x b z e.symm
  refine ⟨m, hn.sameBut sb hCb, fun h' sb' => ⟨_, H', I''.turned (t' := s''.toks) (fun b o hb e => (sb'.2 b hb).trans e) f0 f1 (.inr f3) f4 f5, q⟩⟩
end
end L2
namespace Hd
open PySem PySem.W PyProof.Rows L2
noncomputable section
abbrev qr (n : Nat) : Value := .ref n
abbrev qi (n : Nat) : Value := .int (Int.ofNat n) 0
abbrev qs (x : String) (t : Nat) : Value := .str (Str.ofString x) t
abbrev qt (x : String) : Value := .type x
abbrev qb (x : String) : Value := .builtin x
abbrev qe (P : Params) (x : String) (t : Nat) (v : Value) : DictEntry := ⟨PyData.keyHash P (Str.ofString x), .str (Str.ofString x) t, v⟩
abbrev qF (x y : String) (st : Stmt) (dV kV doc pm : Value) (an : Option Addr) (cd ct : Value) : Data := .func (fnOf (Str.ofString x) (Str.ofString y) (defArgs st) (defBody st) (defScope st) dV kV doc pm an cd ct)
abbrev qG (g b : Addr) (x y : String) (st : Stmt) (dV kV doc pm : Value) (an : Option Addr) (cd ct : Value) : Data := .func { name := Str.ofString x, qualname := Str.ofString y, params := defArgs st, body := .stmts (defBody st), scope := defScope st, globals := g, closure := [], defaults := dV, kwdefaults := kV, doc, pyModule := pm, annotations := an, code := cd, closureTuple := ct, builtins := b }
abbrev qT (l : List Value) : Obj := ⟨.type "tuple", .none, .seq l.toArray 0, #[]⟩
abbrev qN (l : List Value) : Obj := ⟨.none, .none, .fields l.toArray, #[]⟩
abbrev qf (x y : String) (st : Stmt) (pm cd : Value) : Obj := ⟨.type "function", .none, qF x y st .none .none .none pm .none cd .none, #[]⟩
abbrev qg (x y : String) (st : Stmt) : Obj := ⟨.none, .none, qG 0 0 x y st .none .none .none .none .none .none .none, #[]⟩
abbrev qC (x y : String) (t l a b d f r1 : Nat) (g : Bool) (r2 : Nat) (v1 v2 v3 v4 : Value) (k t3 : Nat) : Obj := ⟨.type "code", .none, .fields #[qs x t, qs y (t + 1), qs "/claim/cut.py" (t + 2), qi l, qi a, qi b, qi d, qi f, qr r1, .bool g, qi 181, qr r2, v1, v2, v3, v4, qi k, qi l, qs "/claim/cut.py" t3], #[]⟩
structure HD where
  N : Nat
  n1 : Nat
  n2 : Nat
  n3 : Nat
  n4 : Nat
  d1 : Drawn
  k1 : Nat
  d2 : Drawn
  k2 : Nat
  d3 : Drawn
  k3 : Nat
  many : Nat
  few : Nat
  fp : Pos
  p1 : Pos
  p2 : Pos
  p3 : Pos
  cd : Value
  fr : Nat
  ann : Option Value
def alt : List Obj → List Obj × List Obj
  | [] => ([], [])
  | a :: l => let r := alt l; (a :: r.2, r.1)
def tree : Nat → List Obj → BT
  | 0, _ => .nil
  | n + 1, l => match l with
    | [] => .nil
    | a :: l => let r := alt l; .node a (tree n r.1) (tree n r.2)
abbrev envH (p : Program) (D : HD) : Env := { scope := p.main.scope, locals := mainNs, globals := mainNs, cells := [], code := D.cd, frame := some D.fr }
abbrev codeH (p : Program) (D : HD) : Code := .body (behindTheImports p) (envH p D)
abbrev S0 (w : World) (os : OsState) : Shared := ⟨boot_heap w.params, Array.mk [], boot_drawn, boot_toks, os⟩
abbrev SA (D : HD) (L : Life) (A : Params → List Obj) (w : World) (os : OsState) : Shared := ⟨⟨⟨A w.params⟩, L⟩, Array.mk [], D.d1, D.k1, os⟩
abbrev SB (D : HD) (L : Life) (A : Params → List Obj) (w : World) (os : OsState) : SharedT := ⟨tree 12 (A w.params), D.few, L, Array.mk [], D.d2, D.k2, os⟩
abbrev SC (D : HD) (L : Life) (O : Params → List Obj) (w : World) (os : OsState) : SharedT := ⟨tree 12 (O w.params), D.many, L, Array.mk [], D.d3, D.k3, os⟩
abbrev SF (D : HD) (L : Life) (O : Params → List Obj) (w : World) (os : OsState) : Shared := ⟨⟨⟨O w.params⟩, L⟩, Array.mk [], D.d3, D.k3, os⟩
abbrev tbF := PySem.W.Fast.tw14364793385576792824
abbrev Pre (p : Program) (D : HD) (L : Life) (A : Params → List Obj) : Prop := ∀ (w : World) (os : OsState), PySem.W.Fast.tw15667345088766844465 tbF p w 11 D.ann D.n1 (S0 w os) (topStub p) =
  some (SA D L A w os, ⟨PySem.W.Fast.tw11892475500146522536 tbF (codeH p D), codeH p D, D.p1, [topFrame D.fp]⟩)
abbrev Blk (p : Program) (D : HD) (L : Life) (A : Params → List Obj) : Prop := ∀ (w : World) (os : OsState), PySem.W.Fast.tw14374325043358763698 tbF p w 11 D.ann 1 (D.n2 + 1) (SA D L A w os) (blockOf (behindTheImports p) (envH p D) (codeH p D) D.p1 [topFrame D.fp]) =
  some (.next, (SB D L A w os).abs, codeH p D, D.p2)
abbrev Go (p : Program) (D : HD) (L : Life) (A O : Params → List Obj) : Prop := ∀ (w : World) (os : OsState), PySem.W.Fast.tw10110043849684766642 tbF p w 11 D.ann 1 (D.n3 + 1) (SB D L A w os) (piecesOf (behindTheImports p) (envH p D) (codeH p D) D.p2 [topFrame D.fp]) =
  some (.next, SC D L O w os, codeH p D, D.p3)
abbrev Fin (p : Program) (D : HD) (L : Life) (O : Params → List Obj) : Prop := ∀ (w : World) (os : OsState), PySem.W.Fast.tw14082659384304107361 tbF p w 11 D.ann (D.n4 + 1) (SC D L O w os).abs ⟨doneF .next, codeH p D, D.p3, [topFrame D.fp]⟩ = some (SF D L O w os)
theorem te_tb : treeTable = tbF := PySem.W.Fast.te14364793385576792824
theorem run_of {p : Program} {D : HD} {L : Life} {A O : Params → List Obj} (h1 : Pre p D L A) (h2 : Blk p D L A) (h3 : Go p D L A O) (h4 : Fin p D L O) (w : World) (os : OsState) :
    topRun treeTable p w 11 D.ann (D.n1 + ((D.n2 + 1) + ((D.n3 + 1) + (D.n4 + 1)))) (S0 w os) (topStub p) = some (SF D L O w os) := by
  have e1 : topGo treeTable p w 11 D.ann D.n1 (S0 w os) (topStub p) = some (SA D L A w os, ⟨denote treeTable (codeH p D), codeH p D, D.p1, [topFrame D.fp]⟩) := by
    rw [PySem.W.Fast.te15667345088766844465, PySem.W.Fast.te11892475500146522536, te_tb]; exact h1 w os
  have e2 : segRun treeTable p w 11 D.ann 1 (D.n2 + 1) (SA D L A w os) (blockOf (behindTheImports p) (envH p D) (codeH p D) D.p1 [topFrame D.fp]) = some (.next, (SB D L A w os).abs, codeH p D, D.p2) := by
    rw [PySem.W.Fast.te14374325043358763698, te_tb]; exact h2 w os
  have e3 : segRunT treeTable p w 11 D.ann 1 (D.n3 + 1) (SB D L A w os) (piecesOf (behindTheImports p) (envH p D) (codeH p D) D.p2 [topFrame D.fp]) = some (.next, SC D L O w os, codeH p D, D.p3) := by
    rw [PySem.W.Fast.te10110043849684766642, te_tb]; exact h3 w os
  have e4 : topRun treeTable p w 11 D.ann (D.n4 + 1) (SC D L O w os).abs ⟨doneF .next, codeH p D, D.p3, [topFrame D.fp]⟩ = some (SF D L O w os) := by
    rw [PySem.W.Fast.te14082659384304107361, te_tb]; exact h4 w os
  refine go_top e1 (piece_block e2 ?_)
  have := piece_app (rest := []) (segRun_of e3) (piece_nil (env := envH p D) e4)
  rw [List.append_nil] at this
  exact this
abbrev HF (L : Life) (O : Params → List Obj) (w : World) : Heap := ⟨⟨O w.params⟩, L⟩
abbrev imF := PySem.W.Fast.tw5923862056798008813
theorem te_im : importedModules = imF := PySem.W.Fast.te5923862056798008813
abbrev Lk1 (p : Program) (D : HD) (L : Life) (O : Params → List Obj) : Prop := ∀ (w : World) (os : OsState),
  (staticsOk (imF p.main.body) (boot_heap w.params) (HF L O w) && namesBound p (HF L O w) && gensDone (SF D L O w os) && laidKept (boot_heap w.params) (HF L O w)) = true
abbrev Lk2 (p q : Program) (D : HD) (L : Life) (O : Params → List Obj) (Xt : Shared → Bool) : Prop := ∀ (w : World) (os : OsState),
  PySem.W.Fast.tw4187177175401517315 q [] (imF p.main.body) Xt true (SF D L O w os) = openGood q []
abbrev Lk3 (D : HD) (L : Life) (O : Params → List Obj) (K : Params → Frag) (as : List Addr) : Prop := ∀ (w : World) (os : OsState),
  as.map (SF D L O w os).heap.get? = (K w.params).map fun x => some x.2
theorem boot_size (w : World) (D : HD) (ha : D.ann = some (.ref 6)) : ((boot_heap w.params).isNs mainGlobals && (Array.mk [] : Array GenState).size == 0, (boot_heap w.params).objs.size, (boot_heap w.params).nsMap mainGlobals "__annotations__") = (true, 11, D.ann) := by
  rw [ha]; kernel_rfl
theorem left_of {p q : Program} {D : HD} {L : Life} {A O : Params → List Obj} {Xt : Shared → Bool} {K : Params → Frag} {as : List Addr} {N : Nat} {e : ∀ P, as = (K P).map (·.1)}
    (h0 : opening p = plainProg p.main.scope.names) (h0' : ∀ s, fenceModules? p s = some s) (h6 : Nat.ble 600 N = true) (ha : D.ann = some (.ref 6)) (hn : Nat.ble (D.n1 + ((D.n2 + 1) + ((D.n3 + 1) + (D.n4 + 1)))) N = true)
    (h1 : Pre p D L A) (h2 : Blk p D L A) (h3 : Go p D L A O) (h4 : Fin p D L O) (l1 : Lk1 p D L O) (l2 : Lk2 p q D L O Xt) (l3 : Lk3 D L O K as) :
    LeftO p q [] Xt (Hook.obs (kHook K as e)) (Hook.val (kHook K as e)) N :=
  LeftO.of_pieces (H₀ := boot_heap) (H₁ := fun P => ⟨⟨O P⟩, L⟩) (gs₀ := Array.mk []) (gs₁ := Array.mk []) (d₁ := D.d3) (k₁ := D.k3) (m₀ := 11) (ann := D.ann) (boot_open h0 h6 h0') (fun w => boot_size w D ha) (run_of h1 h2 h3 h4) hn fun w => funext fun os => by
    have a1 := l1 w os
    have a2 := l2 w os
    rw [← te_im] at a1 a2
    rw [← PySem.W.Fast.te4187177175401517315] at a2
    exact looks_pair a1 (looks_pair a2 (l3 w os))
abbrev saidF := PySem.W.Fast.tw9446332074065402090
abbrev defPos (s : Stmt) : Pos := match s with
  | .FunctionDef _ _ _ _ _ _ _ _ _ p => p
  | _ => ⟨0, 0, 0, 0⟩
abbrev recOf (x : String) (s : Stmt) : DefRec := ⟨Str.ofString x, defArgs s, defBody s, defScope s, defPos s⟩
abbrev XtH (l : OpenLaw) (q : Program) : Shared → Bool := fun s => xlAt q [] s && recOk (RowW.records l.row.toRowW) s
theorem holds {l : OpenLaw} {q : Program} {K : Params → Frag} {as : List Addr} {e : ∀ P, as = (K P).map (·.1)} {N : Nat} {x : String} {st : Stmt} (said : saidF l = true)
    (left : LeftO l.row.prog q [] (XtH l q) (Hook.obs (kHook K as e)) (Hook.val (kHook K as e)) N) (hdef : defOf q l.row.name = some (recOf x st, []))
    (hp : l.row.prog.theDef l.row.name = some (defArgs st, defBody st, defScope st)) (hk : kwWritten? (defArgs st).kwonlyargs (defArgs st).kw_defaults = some []) (hwr : (!l.row.writes || l.row.records.isEmpty) = true)
    (ok : (chainsOk q && opensWell l.row.prog && (frees l.row.toRowW && l.row.within.isEmpty)) = true) (hb : l.row.prog.bare) (hw : l.row.toRowW.promised)
    (call : WalkO q [] (XL q []) (Hook.says (kHook K as e)) l.row.toRowW (recOf x st) [] fun f vs => PySem.call f vs) : l.Holds :=
  have said : l.wellSaid = true := (congrFun PySem.W.Fast.te9446332074065402090 l).trans said
  holds_law said fun rs => holds_open (d := recOf x st) (kwd := []) left (Hook.of _) (Hook.keeps _) (fun s z => xl_of s (Bool.and_eq_true_iff.mp z).1) XL.keeps hdef hp hk (fun s z => recFacts_of (Bool.and_eq_true_iff.mp z).2) hwr rs ok hb hw call
end
end Hd
namespace L2
open PySem PySem.Spec PyProof.Rows
section
variable {X : Cx}
def rInD (K : PySem.W.Frag) : R2 := fun x y H Q => ∃ (l : Addr) (xs : List V) (ds : List PyData) (d : PyData), y = .ref l ∧ SqL K H l xs ∧ DenL K H xs ds ∧ Den K H x d ∧ d.depth ≤ 60 ∧ Q (.bl (ds.any fun c => PyData.eqv c d)) H
theorem op_inD (hu : X.A.units + 64 < cLine) : OpR X (compareOp .In) (rInD X.K) := by
  intro pins s σ H x y v u Q I rx ry h
  obtain ⟨l, xs, ds, d, rfl, hq, hD, hd, hdp, q⟩ := h
  cases ry
  obtain ⟨its, r, pl, hz⟩ := I.list hq
  obtain ⟨as, rs⟩ := denL_reads I ds xs its hD r
  obtain ⟨bs, rx⟩ := den_reads I d x v hd rx
  have hc := denL_lay ds xs hD
  have hcd := den_lay d x hd
  have hm := PySem.SeqAt.readsAll_map ds _ _ hc rs
  refine PySem.SeqAt.in_listAt (fun y => PyData.eqv (PySem.SeqAt.readOf s.heap y) d) pl.isList (PySem.SeqAt.items_eqAt (by simpa using rs) rx hc hcd ?_) ⟨.bl _, H, I, rfl, ?_⟩
  · have h1 : min (PyData.depthAll ds) d.depth ≤ 60 := Nat.le_trans (Nat.min_le_right _ _) hdp
    have h2 : X.A.in1.units ≤ X.A.units + 2 := by first | exact Nat.le_refl _ | (show X.A.units + 1 ≤ _; omega) | (show X.A.units ≤ _; omega)
    omega
  · rw [show its.toArray.any (fun y => PyData.eqv (PySem.SeqAt.readOf s.heap y) d) = ds.any fun c => PyData.eqv c d by rw [← hm, List.any_map]; simp [Function.comp_def]]
    exact q
end
theorem kin_seqD {X : Cx} (K : PySem.W.Frag) (hK : X.K = K) (hu : X.A.units + 64 < cLine) : OpR X (compareOp .In) (rInD K) := by subst hK; exact op_inD hu
end L2
namespace L2
open PySem
/-- behind a statement the rest and the names are lets: the proofs' terms stay small -/
theorem hideSeq {t u : TS} {D : Ends} {σ : St} {H : Hp} (h : let D' : Ends := { D with nx := u D }; t D' σ H) : tSeq t u D σ H := h
theorem hideAll {t u : TS} {D : Ends} {σ : St} {H : Hp} (h : let D' : Ends := { D with nx := u D }; let σ' : St := σ; t D' σ' H) : tSeq t u D σ H := h
theorem exE {α β : Type} {f : β} {g : α → β} {P : α → Prop} {w : α} (e : f = g w) (h : P w) : ∃ v, f = g v ∧ P v := ⟨w, e, h⟩
theorem gNameH {i : Nat} {v : V} {σ : St} {H : Hp} {Q : St → Hp → Prop} (h : Q (σ.set i (some v)) H) : gName i v σ H Q := h
end L2
namespace Lw
open PySem L2
set_option maxHeartbeats 4000000
section

def top (i : Nat) : Stmt := PySem.Challenge.pw_linecaster_k54_cases_read_or_not.main.body.getD i (.Pass ⟨0, 0, 0, 0⟩)
abbrev s_is_sign : Stmt := top 14
theorem sc_is_sign : FnScope ["text"] ["text"] (defScope s_is_sign) := ⟨rfl, rfl, rfl, by decide +kernel, rfl, by decide +kernel, by decide +kernel⟩
abbrev s_is_channel : Stmt := top 15
theorem sc_is_channel : FnScope ["channel", "sign", "width", "teeth", "many"] ["channel"] (defScope s_is_channel) := ⟨rfl, rfl, rfl, by decide +kernel, rfl, by decide +kernel, by decide +kernel⟩
abbrev s_can_stand : Stmt := top 16
theorem sc_can_stand : FnScope ["ahead", "channel", "sign", "width", "teeth", "many"] ["ahead", "channel"] (defScope s_can_stand) := ⟨rfl, rfl, rfl, by decide +kernel, rfl, by decide +kernel, by decide +kernel⟩
abbrev s_look_at_case : Stmt := top 17
theorem sc_look_at_case : FnScope ["case", "at", "channel"] ["case"] (defScope s_look_at_case) := ⟨rfl, rfl, rfl, by decide +kernel, rfl, by decide +kernel, by decide +kernel⟩
abbrev s_channel_of : Stmt := top 18
theorem sc_channel_of : FnScope ["case", "sign", "number", "channel"] ["case", "sign"] (defScope s_channel_of) := ⟨rfl, rfl, rfl, by decide +kernel, rfl, by decide +kernel, by decide +kernel⟩
abbrev s_codes_of_ : Stmt := top 19
theorem sc_codes_of_ : FnScope ["case"] ["case"] (defScope s_codes_of_) := ⟨rfl, rfl, rfl, by decide +kernel, rfl, by decide +kernel, by decide +kernel⟩
abbrev s_is_number : Stmt := top 22
theorem sc_is_number : FnScope ["word"] ["word"] (defScope s_is_number) := ⟨rfl, rfl, rfl, by decide +kernel, rfl, by decide +kernel, by decide +kernel⟩
abbrev s_is_teeth : Stmt := top 25
theorem sc_is_teeth : FnScope ["word"] ["word"] (defScope s_is_teeth) := ⟨rfl, rfl, rfl, by decide +kernel, rfl, by decide +kernel, by decide +kernel⟩
abbrev s_read_teeth : Stmt := top 26
theorem sc_read_teeth : FnScope ["word", "teeth", "figure"] ["word"] (defScope s_read_teeth) := ⟨rfl, rfl, rfl, by decide +kernel, rfl, by decide +kernel, by decide +kernel⟩
abbrev s_is_row : Stmt := top 27
theorem sc_is_row : FnScope ["words", "sign", "width", "teeth", "many"] ["words"] (defScope s_is_row) := ⟨rfl, rfl, rfl, by decide +kernel, rfl, by decide +kernel, by decide +kernel⟩
abbrev s_read_row : Stmt := top 28
theorem sc_read_row : FnScope ["at", "row", "words", "sign", "width", "teeth", "many"] ["at", "row"] (defScope s_read_row) := ⟨rfl, rfl, rfl, by decide +kernel, rfl, by decide +kernel, by decide +kernel⟩
abbrev s_read_case : Stmt := top 29
theorem sc_read_case : FnScope ["text", "case"] ["text"] (defScope s_read_case) := ⟨rfl, rfl, rfl, by decide +kernel, rfl, by decide +kernel, by decide +kernel⟩
abbrev s_law_cell_at : Stmt := top 31
theorem sc_law_cell_at : FnScope ["_law_script", "_law_k"] ["_law_script", "_law_k"] (defScope s_law_cell_at) := ⟨rfl, rfl, rfl, by decide +kernel, rfl, by decide +kernel, by decide +kernel⟩
abbrev s_law_mixed : Stmt := top 32
theorem sc_law_mixed : FnScope ["_law_cell", "_law_k"] ["_law_cell", "_law_k"] (defScope s_law_mixed) := ⟨rfl, rfl, rfl, by decide +kernel, rfl, by decide +kernel, by decide +kernel⟩
abbrev s_law_case : Stmt := top 33
theorem sc_law_case : FnScope ["_law_script", "_law_signs", "_law_first", "_law_case_here", "_law_k", "_law_number_here", "_law_sign_here", "_law_teeth", "_law_many"] ["_law_script"] (defScope s_law_case) := ⟨rfl, rfl, rfl, by decide +kernel, rfl, by decide +kernel, by decide +kernel⟩
abbrev s_law_others : Stmt := top 34
theorem sc_law_others : FnScope ["_law_e", "_law_some"] ["_law_e"] (defScope s_law_others) := ⟨rfl, rfl, rfl, by decide +kernel, rfl, by decide +kernel, by decide +kernel⟩
abbrev s_law_sign : Stmt := top 35
theorem sc_law_sign : FnScope ["_law_cell", "_law_menu", "_law_some"] ["_law_cell", "_law_menu"] (defScope s_law_sign) := ⟨rfl, rfl, rfl, by decide +kernel, rfl, by decide +kernel, by decide +kernel⟩
abbrev s_law_spoiled : Stmt := top 36
theorem sc_law_spoiled : FnScope ["_law_text", "_law_number_here", "_law_sign_here", "_law_at"] ["_law_text", "_law_number_here", "_law_sign_here"] (defScope s_law_spoiled) := ⟨rfl, rfl, rfl, by decide +kernel, rfl, by decide +kernel, by decide +kernel⟩
abbrev s_law_row : Stmt := top 37
theorem sc_law_row : FnScope ["_law_channel_here", "_law_sign_here", "_law_width", "_law_teeth", "_law_many", "_law_figures", "_law_k"] ["_law_channel_here"] (defScope s_law_row) := ⟨rfl, rfl, rfl, by decide +kernel, rfl, by decide +kernel, by decide +kernel⟩
abbrev s_law_odd : Stmt := top 38
theorem sc_law_odd : FnScope ["_law_row_here", "_law_number_here", "_law_words", "_law_at", "_law_some"] ["_law_row_here", "_law_number_here"] (defScope s_law_odd) := ⟨rfl, rfl, rfl, by decide +kernel, rfl, by decide +kernel, by decide +kernel⟩
abbrev s_law_rows_spoiled : Stmt := top 39
theorem sc_law_rows_spoiled : FnScope ["_law_text", "_law_number_here", "_law_rows", "_law_at", "_law_way", "_law_turned", "_law_some"] ["_law_text", "_law_number_here"] (defScope s_law_rows_spoiled) := ⟨rfl, rfl, rfl, by decide +kernel, rfl, by decide +kernel, by decide +kernel⟩
abbrev s_law_number : Stmt := top 40
theorem sc_law_number : FnScope ["_law_word"] ["_law_word"] (defScope s_law_number) := ⟨rfl, rfl, rfl, by decide +kernel, rfl, by decide +kernel, by decide +kernel⟩
abbrev s_law_channel : Stmt := top 41
theorem sc_law_channel : FnScope ["_law_row_here", "_law_words", "_law_teeth", "_law_k"] ["_law_row_here"] (defScope s_law_channel) := ⟨rfl, rfl, rfl, by decide +kernel, rfl, by decide +kernel, by decide +kernel⟩
abbrev s_law_due : Stmt := top 42
theorem sc_law_due : FnScope ["_law_text", "_law_case_here", "_law_at", "_law_sign_here", "_law_width", "_law_teeth", "_law_many", "_law_other"] ["_law_text"] (defScope s_law_due) := ⟨rfl, rfl, rfl, by decide +kernel, rfl, by decide +kernel, by decide +kernel⟩
abbrev s_law_told : Stmt := top 43
theorem sc_law_told : FnScope ["_law_text", "_law_told_here", "_law_e"] ["_law_text"] (defScope s_law_told) := ⟨rfl, rfl, rfl, by decide +kernel, rfl, by decide +kernel, by decide +kernel⟩
abbrev s_law : Stmt := top 44
theorem sc_law : FnScope ["_law_script", "_law_case_here", "_law_text", "_law_k", "_law_number_here", "_law_spoiled_here", "_law_signs", "_law_long"] ["_law_script"] (defScope s_law) := ⟨rfl, rfl, rfl, by decide +kernel, rfl, by decide +kernel, by decide +kernel⟩
abbrev s_init_NoCase : Stmt := inClass (top 2) 0
theorem sc_init_NoCase : FnScope ["self", "at"] ["self", "at"] (defScope s_init_NoCase) := ⟨rfl, rfl, rfl, by decide +kernel, rfl, by decide +kernel, by decide +kernel⟩
set_option genInjectivity false
set_option genSizeOf false
structure Ad where
  f_is_sign : Addr
  d_is_sign : FuncData
  f_is_channel : Addr
  d_is_channel : FuncData
  f_can_stand : Addr
  d_can_stand : FuncData
  f_look_at_case : Addr
  d_look_at_case : FuncData
  f_channel_of : Addr
  d_channel_of : FuncData
  f_codes_of_ : Addr
  d_codes_of_ : FuncData
  f_is_number : Addr
  d_is_number : FuncData
  f_is_teeth : Addr
  d_is_teeth : FuncData
  f_read_teeth : Addr
  d_read_teeth : FuncData
  f_is_row : Addr
  d_is_row : FuncData
  f_read_row : Addr
  d_read_row : FuncData
  f_read_case : Addr
  d_read_case : FuncData
  f_law_cell_at : Addr
  d_law_cell_at : FuncData
  f_law_mixed : Addr
  d_law_mixed : FuncData
  f_law_case : Addr
  d_law_case : FuncData
  f_law_others : Addr
  d_law_others : FuncData
  f_law_sign : Addr
  d_law_sign : FuncData
  f_law_spoiled : Addr
  d_law_spoiled : FuncData
  f_law_row : Addr
  d_law_row : FuncData
  f_law_odd : Addr
  d_law_odd : FuncData
  f_law_rows_spoiled : Addr
  d_law_rows_spoiled : FuncData
  f_law_number : Addr
  d_law_number : FuncData
  f_law_channel : Addr
  d_law_channel : FuncData
  f_law_due : Addr
  d_law_due : FuncData
  f_law_told : Addr
  d_law_told : FuncData
  f_law : Addr
  d_law : FuncData
  c_CasterError : Addr
  c_NoCase : Addr
  f_init_NoCase : Addr
  d_init_NoCase : FuncData
  c_TooMany : Addr
  c_Loose : Addr
  c_Tight : Addr
  c_NoBreak : Addr
  c_NoCopy : Addr
  c_NoKeys : Addr
  c_NoText : Addr
  c_NoNumber : Addr
  c_NoRow : Addr
  t_SIGNS : Tok
  t_FIGURES : Tok
  t_NUMBER_OF_TEETH : Tok
structure Tx (K : PySem.W.Frag) (mg : Str → Option Value) (a : Ad) : Prop where
  is_sign : D K mg "is_sign" s_is_sign ["text"] a.f_is_sign a.d_is_sign
  is_channel : D K mg "is_channel" s_is_channel ["channel"] a.f_is_channel a.d_is_channel
  can_stand : D K mg "can_stand" s_can_stand ["ahead", "channel"] a.f_can_stand a.d_can_stand
  look_at_case : D K mg "look_at_case" s_look_at_case ["case"] a.f_look_at_case a.d_look_at_case
  channel_of : D K mg "channel_of" s_channel_of ["case", "sign"] a.f_channel_of a.d_channel_of
  codes_of_ : D K mg "codes_of" s_codes_of_ ["case"] a.f_codes_of_ a.d_codes_of_
  is_number : D K mg "is_number" s_is_number ["word"] a.f_is_number a.d_is_number
  is_teeth : D K mg "is_teeth" s_is_teeth ["word"] a.f_is_teeth a.d_is_teeth
  read_teeth : D K mg "read_teeth" s_read_teeth ["word"] a.f_read_teeth a.d_read_teeth
  is_row : D K mg "is_row" s_is_row ["words"] a.f_is_row a.d_is_row
  read_row : D K mg "read_row" s_read_row ["at", "row"] a.f_read_row a.d_read_row
  read_case : D K mg "read_case" s_read_case ["text"] a.f_read_case a.d_read_case
  law_cell_at : D K mg "_law_cell_at" s_law_cell_at ["_law_script", "_law_k"] a.f_law_cell_at a.d_law_cell_at
  law_mixed : D K mg "_law_mixed" s_law_mixed ["_law_cell", "_law_k"] a.f_law_mixed a.d_law_mixed
  law_case : D K mg "_law_case" s_law_case ["_law_script"] a.f_law_case a.d_law_case
  law_others : D K mg "_law_others" s_law_others ["_law_e"] a.f_law_others a.d_law_others
  law_sign : D K mg "_law_sign" s_law_sign ["_law_cell", "_law_menu"] a.f_law_sign a.d_law_sign
  law_spoiled : D K mg "_law_spoiled" s_law_spoiled ["_law_text", "_law_number_here", "_law_sign_here"] a.f_law_spoiled a.d_law_spoiled
  law_row : D K mg "_law_row" s_law_row ["_law_channel_here"] a.f_law_row a.d_law_row
  law_odd : D K mg "_law_odd" s_law_odd ["_law_row_here", "_law_number_here"] a.f_law_odd a.d_law_odd
  law_rows_spoiled : D K mg "_law_rows_spoiled" s_law_rows_spoiled ["_law_text", "_law_number_here"] a.f_law_rows_spoiled a.d_law_rows_spoiled
  law_number : D K mg "_law_number" s_law_number ["_law_word"] a.f_law_number a.d_law_number
  law_channel : D K mg "_law_channel" s_law_channel ["_law_row_here"] a.f_law_channel a.d_law_channel
  law_due : D K mg "_law_due" s_law_due ["_law_text"] a.f_law_due a.d_law_due
  law_told : D K mg "_law_told" s_law_told ["_law_text"] a.f_law_told a.d_law_told
  law : D K mg "law" s_law ["_law_script"] a.f_law a.d_law
  cl_CasterError : CL K mg "CasterError" a.c_CasterError
  cl_NoCase : CI K mg "NoCase" "NoCase.__init__" s_init_NoCase ["self", "at"] a.c_NoCase a.f_init_NoCase a.d_init_NoCase "at"
  cl_TooMany : CL K mg "TooMany" a.c_TooMany
  cl_Loose : CL K mg "Loose" a.c_Loose
  cl_Tight : CL K mg "Tight" a.c_Tight
  cl_NoBreak : CL K mg "NoBreak" a.c_NoBreak
  cl_NoCopy : CL K mg "NoCopy" a.c_NoCopy
  cl_NoKeys : CL K mg "NoKeys" a.c_NoKeys
  cl_NoText : CN K mg "NoText" a.c_NoText
  cl_NoNumber : CL K mg "NoNumber" a.c_NoNumber
  cl_NoRow : CL K mg "NoRow" a.c_NoRow
  bi : BI K a.c_CasterError
  m_NoCase_CasterError : PySem.W.mroIn K a.c_NoCase (.ref a.c_CasterError) = some true
  m_NoCase_NoCase : PySem.W.mroIn K a.c_NoCase (.ref a.c_NoCase) = some true
  m_NoCase_TooMany : PySem.W.mroIn K a.c_NoCase (.ref a.c_TooMany) = some false
  m_NoCase_Loose : PySem.W.mroIn K a.c_NoCase (.ref a.c_Loose) = some false
  m_NoCase_Tight : PySem.W.mroIn K a.c_NoCase (.ref a.c_Tight) = some false
  m_NoCase_NoBreak : PySem.W.mroIn K a.c_NoCase (.ref a.c_NoBreak) = some false
  m_NoCase_NoCopy : PySem.W.mroIn K a.c_NoCase (.ref a.c_NoCopy) = some false
  m_NoCase_NoKeys : PySem.W.mroIn K a.c_NoCase (.ref a.c_NoKeys) = some false
  m_NoCase_NoText : PySem.W.mroIn K a.c_NoCase (.ref a.c_NoText) = some false
  m_NoCase_NoNumber : PySem.W.mroIn K a.c_NoCase (.ref a.c_NoNumber) = some false
  m_NoCase_NoRow : PySem.W.mroIn K a.c_NoCase (.ref a.c_NoRow) = some false
  m_NoText_CasterError : PySem.W.mroIn K a.c_NoText (.ref a.c_CasterError) = some true
  m_NoText_NoCase : PySem.W.mroIn K a.c_NoText (.ref a.c_NoCase) = some false
  m_NoText_TooMany : PySem.W.mroIn K a.c_NoText (.ref a.c_TooMany) = some false
  m_NoText_Loose : PySem.W.mroIn K a.c_NoText (.ref a.c_Loose) = some false
  m_NoText_Tight : PySem.W.mroIn K a.c_NoText (.ref a.c_Tight) = some false
  m_NoText_NoBreak : PySem.W.mroIn K a.c_NoText (.ref a.c_NoBreak) = some false
  m_NoText_NoCopy : PySem.W.mroIn K a.c_NoText (.ref a.c_NoCopy) = some false
  m_NoText_NoKeys : PySem.W.mroIn K a.c_NoText (.ref a.c_NoKeys) = some false
  m_NoText_NoText : PySem.W.mroIn K a.c_NoText (.ref a.c_NoText) = some true
  m_NoText_NoNumber : PySem.W.mroIn K a.c_NoText (.ref a.c_NoNumber) = some false
  m_NoText_NoRow : PySem.W.mroIn K a.c_NoText (.ref a.c_NoRow) = some false
  g_SIGNS : mg "SIGNS" = some (.str "abcdefghijklmnopqrstuvwxyz.,-'" a.t_SIGNS)
  g_FIGURES : mg "FIGURES" = some (.str "0123456789" a.t_FIGURES)
  g_NUMBER_OF_TEETH : mg "NUMBER_OF_TEETH" = some (.int 7 a.t_NUMBER_OF_TEETH)
  b_ValueError : mg "ValueError" = none
  b_all : mg "all" = none
  b_bool : mg "bool" = none
  b_enumerate : mg "enumerate" = none
  b_int : mg "int" = none
  b_isinstance : mg "isinstance" = none
  b_len : mg "len" = none
  b_min : mg "min" = none
  b_range : mg "range" = none
  b_str : mg "str" = none
abbrev lawLevel : Nat := 8
end
end Lw
namespace Lw
open PySem L2
set_option maxHeartbeats 4000000
section
variable {P : Program} {w : World} {K : PySem.W.Frag} {mg : Str → Option Value} {base : Heap} {a : Ad}
local macro_rules | `(tactic| walk_at "hk") => `(tactic| first | assumption | exact upd_same | exact same_new (by assumption) _ _ _ (by walk_at "hk"))
local macro_rules | `(tactic| walk_at "rd1") => `(tactic| first | (with_reducible refine hideAll ?_; intro Dzz σzz) | with_reducible refine gNameH ?_ | refine ⟨_, rfl, ?_⟩ | refine ⟨_, _, rfl, rfl, ?_⟩ | refine ⟨_, _, _, _, rfl, rfl, SqL.of (by walk_at "hk"), (by assumption), ?_⟩ | refine And.intro rfl ?_ | refine And.intro (Nat.le_of_ble_eq_true rfl) ?_ | refine And.intro (by first | decide | omega) ?_ | refine And.intro ⟨by first | decide | omega, by first | decide | omega⟩ ?_ | refine And.intro (.inl ⟨by first | decide | omega, by first | decide | omega⟩) ?_ | refine And.intro (.inr ⟨by first | decide | omega, by first | decide | omega⟩) ?_ | refine ⟨_, _, rfl, SqT.of (by first | exact upd_same | assumption), rfl, ?_⟩)
local macro_rules | `(tactic| walk_at "rd") => `(tactic| repeat (walk_at "rd1"))
local macro_rules | `(tactic| walk_at "tg") => `(tactic| refine ⟨_, _, rfl, ?_⟩)
theorem ok_init_NoCase (T : Tx K mg a) : FnOk P w K mg base CX0 1 a.f_init_NoCase a.d_init_NoCase ["self", "at"] (sp_init a.c_NoCase "at") := by
  refine T.cl_NoCase.fi.ok sc_init_NoCase (fun vs H Q E h => ?_) (fun cdv A outer s H vs Q E hr h => ?_)
  · obtain ⟨e, i, rfl, _⟩ := h
    rfl
  obtain ⟨e, i, rfl, he, hi, q⟩ := h
  refine ⟨_, (pss_cons (ps_expr (pe_binit T.bi rfl T.cl_CasterError.mg (pa_cons (pv 0) (pa_cons (pe_k3 pe_str (pe_fmt (pv 1)) pe_str) pa_nil)))) (pss_one (ps_xfld (pv 0) (pv 1) rfl))), ?_⟩
  refine ⟨_, rfl, ?_⟩
  refine ⟨_, rfl, by decide, ?_⟩
  refine ⟨_, rfl, ?_⟩
  refine ⟨i, rfl, hi, fun x hx => ?_⟩
  refine ⟨x, rfl, hx, ?_⟩
  refine ⟨_, rfl, by decide, fun y => ?_⟩
  refine ⟨e, a.c_NoCase, none, some a.f_init_NoCase, y, rfl, he, T.cl_NoCase.cls, ?_⟩
  refine ⟨_, rfl, ?_⟩
  refine ⟨_, rfl, ?_⟩
  exact ⟨e, a.c_NoCase, rfl, he, T.cl_NoCase.xf, fun dx hdx => q dx hdx⟩
def sp_law_mixed : Sp := fun vs H Q _ => ∃ c k : Int, vs = [.int c, .int k] ∧ 0 ≤ k ∧ k ≤ 1000000 ∧ ∀ z, 0 ≤ z → z < 2147483629 → Q (.int z) H
theorem ok_law_mixed (T : Tx K mg a) : FnOk P w K mg base CX0 1 a.f_law_mixed a.d_law_mixed ["_law_cell", "_law_k"] sp_law_mixed := by
  refine T.law_mixed.fn.ok sc_law_mixed (fun vs H Q E h => ?_) (fun cdv A outer s H vs Q E hr h => ?_)
  · obtain ⟨c, k, rfl, _⟩ := h
    rfl
  obtain ⟨c, k, rfl, h0, h1, q⟩ := h
  refine ⟨_, (pss_one (ps_ret (pe_op op_mod (pe_op op_mul (pe_op op_add (pe_op op_mod (pv 0) (pe_op op_pow pe_int pe_int)) pe_int) (pe_op op_add pe_int (pe_op op_mul (pe_op op_mul pe_int (pv 1)) (pv 1)))) pe_int))), ?_⟩
  have e18 : (10 : Int) ^ (18 : Int).toNat = 1000000000000000000 := by decide
  have hc0 := Int.emod_nonneg c (show (1000000000000000000 : Int) ≠ 0 by decide)
  have hc1 := Int.emod_lt_of_pos c (show (0 : Int) < 1000000000000000000 by decide)
  refine ⟨_, rfl, ?_⟩
  refine ⟨_, _, rfl, rfl, ⟨by decide, by decide, by decide⟩, ?_⟩
  refine ⟨_, _, rfl, rfl, (by show (0 : Int) < (10 : Int) ^ (18 : Int).toNat; rw [e18]; decide), ?_⟩
  dsimp only
  rw [e18]
  refine ⟨_, _, rfl, rfl, ?_⟩
  refine ⟨_, rfl, ?_⟩
  refine ⟨_, _, rfl, rfl, .inl ⟨by decide, by decide⟩, ?_⟩
  refine ⟨_, rfl, ?_⟩
  refine ⟨_, _, rfl, rfl, .inl ⟨by omega, by omega⟩, ?_⟩
  refine ⟨_, _, rfl, rfl, ?_⟩
  refine ⟨_, _, rfl, rfl, .inl ⟨by omega, by omega⟩, ?_⟩
  refine ⟨_, _, rfl, rfl, (by show (0 : Int) < 2147483629; decide), ?_⟩
  exact q _ (Int.emod_nonneg _ (by decide)) (Int.emod_lt_of_pos _ (by decide))
def sp_law_cell_at (K : PySem.W.Frag) : Sp := fun vs H Q _ => ∃ (l : Addr) (k : Int) (ns : List Int), vs = [.ref l, .int k] ∧ SqL K H l (ns.map V.int) ∧ 0 ≤ k ∧ ∀ z, Q (.int z) H
theorem ok_law_cell_at (T : Tx K mg a) : FnOk P w K mg base CX0 1 a.f_law_cell_at a.d_law_cell_at ["_law_script", "_law_k"] (sp_law_cell_at K) := by
  refine T.law_cell_at.fn.ok sc_law_cell_at (fun vs H Q E h => ?_) (fun cdv A outer s H vs Q E hr h => ?_)
  · obtain ⟨l, k, ns, rfl, _⟩ := h
    rfl
  obtain ⟨l, k, ns, rfl, hS, h0, q⟩ := h
  refine ⟨_, (pss_cons (ps_if (pt_cmpR op_lt (pv 1) (pe_callB (klen_seq K rfl) rfl T.b_len bt_len (pa_cons (pv 0) pa_nil)) (nomark _)) (pss_one (ps_ret (pe_ix (kix_list K rfl) (pv 0) (pv 1) (fun _ _ => rfl)))) pss_nil)
      (pss_one (ps_ret pe_int))), ?_⟩
  walk_at "rd"
  refine ⟨l, _, rfl, .inl hS, ?_⟩
  walk_at "rd"
  refine ite2 (fun c => ?_) (fun c => ?_)
  · have c' := of_decide_eq_true c
    rw [List.length_map] at c'
    walk_at "rd"
    exact ⟨l, _, _, _, rfl, rfl, hS, atI_getD h0 c', q _⟩
  · exact q _
def stepsI : List Int := [1, 7, 11, 13, 17, 19, 23, 29]
/-- a step coprime to 30 leads to another place each time -/
theorem steps_apart {a st i j : Int} (hst : st ∈ stepsI) (hi : 0 ≤ i ∧ i < 30) (hj : 0 ≤ j ∧ j < 30) (h : (a + st * i) % 30 = (a + st * j) % 30) : i = j := by
  simp only [stepsI, List.mem_cons, List.not_mem_nil, or_false] at hst
  rcases hst with rfl | rfl | rfl | rfl | rfl | rfl | rfl | rfl <;> omega
def signAt (i : Int) : Nat := Cs.signs.getD i.toNat 0
theorem signs_at2 {i : Int} (h0 : 0 ≤ i) (h1 : i < 30) : signAt i ∈ Cs.signs ∧ atI (Str.ofString "abcdefghijklmnopqrstuvwxyz.,-'").cps.toList i = some (signAt i) := by
  rw [Cs.signs_cps]
  have hl : Cs.signs.length = 30 := by decide +kernel
  have hk : i.toNat < Cs.signs.length := by omega
  have ek : i = ((i.toNat : Nat) : Int) := by omega
  have e : signAt i = Cs.signs[i.toNat] := by
    unfold signAt
    rw [List.getD_eq_getElem?_getD, List.getElem?_eq_getElem hk]
    rfl
  have q : atI Cs.signs ((i.toNat : Nat) : Int) = some Cs.signs[i.toNat] := atI_nat (List.getElem?_eq_getElem hk)
  rw [← ek] at q
  rw [e]
  exact ⟨List.getElem_mem hk, q⟩
theorem signAt_inj' : ∀ i j : Fin 30, signAt (i.val : Int) = signAt (j.val : Int) → i = j := by decide +kernel
theorem signAt_inj {i j : Int} (hi : 0 ≤ i ∧ i < 30) (hj : 0 ≤ j ∧ j < 30) (h : signAt i = signAt j) : i = j := by
  have e1 : ((i.toNat : Nat) : Int) = i := by omega
  have e2 : ((j.toNat : Nat) : Int) = j := by omega
  have := signAt_inj' ⟨i.toNat, by omega⟩ ⟨j.toNat, by omega⟩ (by simpa only [e1, e2] using h)
  have q := congrArg Fin.val this
  have q : i.toNat = j.toNat := q
  omega
theorem sg_inj {c d : Nat} (h : sg c = sg d) : c = d := by
  have := congrArg (fun s : Str => s.cps.toList) h
  simpa [sg] using this
/-- the rows' signs, by their places -/
theorem rows_apart {rs : List Cs.Row} {a st : Int} (hst : st ∈ stepsI) (hl : rs.length ≤ 30) (h : ∀ (j : Nat) r, rs[j]? = some r → r.s = sg (signAt ((a + st * (j : Int)) % 30))) : (rs.map fun r => r.s).Nodup := by
  rw [List.Nodup, List.pairwise_map, List.pairwise_iff_getElem]
  intro i j hi hj hij e
  rw [h i _ (List.getElem?_eq_getElem hi), h j _ (List.getElem?_eq_getElem hj)] at e
  have e1 := signAt_inj (by omega) (by omega) (sg_inj e)
  have e2 := steps_apart hst (by omega) (by omega) e1
  omega
theorem odd_apart : ∀ (m : Fin 64) (d : Fin 30), d.val ≠ 0 → ((2 * m.val + 1) * d.val) % 128 ≠ 0 := by decide +kernel
theorem teeth_apart {a m i j : Int} (hm : 0 ≤ m ∧ m < 64) (hi : 0 ≤ i ∧ i < 30) (hj : 0 ≤ j ∧ j < 30) (hij : i < j) (h : (a + (2 * m + 1) * i) % 128 = (a + (2 * m + 1) * j) % 128) : False := by
  obtain ⟨m', rfl⟩ := Int.eq_ofNat_of_zero_le hm.1
  obtain ⟨d, hd⟩ := Int.eq_ofNat_of_zero_le (show 0 ≤ j - i by omega)
  have k := odd_apart ⟨m', by omega⟩ ⟨d, by omega⟩ (by show d ≠ 0; omega)
  apply k
  show ((2 * m' + 1) * d) % 128 = 0
  have e : (2 * (m' : Int) + 1) * j - (2 * (m' : Int) + 1) * i = ((2 * m' + 1) * d : Nat) := by
    rw [← Int.mul_sub, hd]
    push_cast
    rfl
  generalize (2 * (m' : Int) + 1) * j = x at h e
  generalize (2 * (m' : Int) + 1) * i = y at h e
  omega
theorem rows_teeth {rs : List Cs.Row} {a m : Int} (hm : 0 ≤ m ∧ m < 64) (hl : rs.length ≤ 30) (h : ∀ (j : Nat) r, rs[j]? = some r → r.t = (a + (2 * m + 1) * (j : Int)) % 128) : (rs.map fun r => r.t).Nodup := by
  rw [List.Nodup, List.pairwise_map, List.pairwise_iff_getElem]
  intro i j hi hj hij e
  rw [h i _ (List.getElem?_eq_getElem hi), h j _ (List.getElem?_eq_getElem hj)] at e
  exact teeth_apart hm (by omega) (by omega) (by omega) e
def sp_law_case (K : PySem.W.Frag) : Sp := fun vs H Q _ => ∃ (l : Addr) (ns : List Int), vs = [.ref l] ∧ SqL K H l (ns.map V.int) ∧
  ∀ (r : Addr) (xs : List V) (rs : List Cs.Row) (H' : Hp), H r = none → Same H H' → H' r = some (.lst xs) → Paired (Cs.RowAt H') xs rs → 1 ≤ rs.length → rs.length ≤ 30 → (∀ x ∈ rs, ∃ c ∈ Cs.signs, x.s = sg c) → (rs.map fun x => x.s).Nodup → (rs.map fun x => x.t).Nodup → (∀ x ∈ rs, 1 ≤ x.w ∧ x.w ≤ 99 ∧ 0 ≤ x.t ∧ x.t ≤ 127 ∧ 0 ≤ x.n ∧ x.n ≤ 40) → Q (.ref r) H'
theorem ok_law_case (T : Tx K mg a) : FnOk P w K mg base CX0 2 a.f_law_case a.d_law_case ["_law_script"] (sp_law_case K) := by
  have G_law_cell_at := ok_law_cell_at (P := P) (w := w) (base := base) T
  have G_law_mixed := ok_law_mixed (P := P) (w := w) (base := base) T
  refine T.law_case.fn.ok sc_law_case (fun vs H Q E h => ?_) (fun cdv A outer s H vs Q E hr h => ?_)
  · obtain ⟨l, ns, rfl, _⟩ := h
    rfl
  obtain ⟨l, ns, rfl, hS, q⟩ := h
  refine ⟨_, (pss_cons (ps_set (i := 1) sc_law_case.nd rfl (Or.inl rfl) pe_str)
      (pss_cons (ps_set (i := 2) sc_law_case.nd rfl (Or.inl rfl) (pcall T.law_mixed G_law_mixed hr rfl (pa_cons (pcall T.law_cell_at G_law_cell_at hr rfl (pa_cons (pv 0) (pa_cons pe_int pa_nil))) (pa_cons pe_int pa_nil))))
      (pss_cons (ps_set (i := 3) sc_law_case.nd rfl (Or.inl rfl) (pe_lst pa_nil))
      (pss_cons (ps_for PassesOwn.never rfl (pi_range1 rfl T.b_range (pa_cons (pe_op op_add pe_int (pe_op op_mod (pcall T.law_mixed G_law_mixed hr rfl (pa_cons (pcall T.law_cell_at G_law_cell_at hr rfl (pa_cons (pv 0) (pa_cons pe_int pa_nil))) (pa_cons pe_int pa_nil))) pe_int)) pa_nil)) (pg_name (i := 4) sc_law_case.nd rfl (Or.inl rfl)) (pss_cons (ps_set (i := 5) sc_law_case.nd rfl (Or.inl rfl) (pcall T.law_mixed G_law_mixed hr rfl (pa_cons (pe_op op_add (pcall T.law_cell_at G_law_cell_at hr rfl (pa_cons (pv 0) (pa_cons (pe_op op_mod (pv 4) pe_int) pa_nil))) (pv 4)) (pa_cons (pe_op op_add (pv 4) pe_int) pa_nil))))
      (pss_cons (ps_set (i := 6) sc_law_case.nd rfl (Or.inl rfl) (pe_ix ix_str (pv 1) (pe_op op_mod (pe_op op_add (pv 2) (pe_op op_mul (pe_ix (kix_list K rfl) (pe_lst (pa_cons pe_int (pa_cons pe_int (pa_cons pe_int (pa_cons pe_int (pa_cons pe_int (pa_cons pe_int (pa_cons pe_int (pa_cons pe_int pa_nil))))))))) (pe_op op_mod (pe_op op_fdiv (pv 2) pe_int) pe_int) (fun _ _ => rfl)) (pv 4))) pe_int) (fun _ _ => rfl)))
      (pss_cons (ps_set (i := 7) sc_law_case.nd rfl (Or.inl rfl) (pe_op op_mod (pe_op op_add (pe_op op_fdiv (pv 2) pe_int) (pe_op op_mul (pe_op op_add (pe_op op_mul pe_int (pe_op op_mod (pe_op op_fdiv (pv 2) pe_int) pe_int)) pe_int) (pv 4))) pe_int))
      (pss_cons (ps_set (i := 8) sc_law_case.nd rfl (Or.inl rfl) (pe_op op_mul (pe_op op_mod (pe_op op_fdiv (pv 5) pe_int) pe_int) (pe_callB (call_min2 rfl) rfl T.b_min bt_min (pa_cons pe_int (pa_cons (pe_op op_mod (pe_op op_fdiv (pv 5) pe_int) pe_int) pa_nil)))))
      (pss_one (ps_expr (kpe_bm K rfl PySem.F.plainAttrs_list PySem.F.slot_list_append PySem.F.type_list_append mt_append (pv 3) (pa_cons (pe_tup (pa_cons (pv 6) (pa_cons (pe_op op_add pe_int (pe_op op_mod (pv 5) (pe_ix (kix_list K rfl) (pe_lst (pa_cons pe_int (pa_cons pe_int (pa_cons pe_int pa_nil)))) (pe_op op_mod (pe_op op_fdiv (pv 2) pe_int) pe_int) (fun _ _ => rfl)))) (pa_cons (pv 7) (pa_cons (pv 8) pa_nil))))) pa_nil)))))))))
      (pss_one (ps_ret (pv 3))))))), ?_⟩
  walk_at "rd"
  refine ⟨l, 0, ns, rfl, hS, by decide, fun c0 => ?_⟩
  walk_at "rd"
  refine ⟨_, _, rfl, by decide, by decide, fun f hf0 hf1 => ?_⟩
  walk_at "rd"
  intro rc hrc
  obtain ⟨st, hst, est⟩ := ints_mem (zs := [1, 7, 11, 13, 17, 19, 23, 29]) (i := f / 30 % 8) (by omega) (by show f / 30 % 8 < 8; omega)
  have hst' : 1 ≤ st ∧ st ≤ 29 := by simp at hst; omega
  obtain ⟨wd, hwd, ewd⟩ := ints_mem (zs := [3, 12, 99]) (i := f / 5 % 3) (by omega) (by show f / 5 % 3 < 3; omega)
  have hwd' : 3 ≤ wd ∧ wd ≤ 99 := by simp at hwd; omega
  have hs1 := same_new hrc (.lst [])
  walk_at "rd"
  refine ⟨l, 1, ns, rfl, hs1.seq hS, by decide, fun c1 => ?_⟩
  walk_at "rd"
  refine ⟨_, _, rfl, by decide, by decide, fun g hg0 hg1 => ?_⟩
  walk_at "rd"
  refine for_range (n := (1 + g % 30).toNat) (fun i σ H2 => ∃ (xs : List V) (rs : List Cs.Row) (v4 v5 v6 v7 v8 : Option V), σ = [some (.ref l), some (.str "abcdefghijklmnopqrstuvwxyz.,-'"), some (.int f), some (.ref rc), v4, v5, v6, v7, v8] ∧ Same H H2 ∧ H2 rc = some (.lst xs) ∧ Paired (Cs.RowAt H2) xs rs ∧ rs.length = i ∧ (∀ (j : Nat) r, rs[j]? = some r → r.s = sg (signAt ((f + st * (j : Int)) % 30)) ∧ r.t = (f / 240 + (2 * (f / 30000 % 64) + 1) * (j : Int)) % 128) ∧ ∀ x ∈ rs, 1 ≤ x.w ∧ x.w ≤ 99 ∧ 0 ≤ x.t ∧ x.t ≤ 127 ∧ 0 ≤ x.n ∧ x.n ≤ 40)
    ⟨[], [], none, none, none, none, none, rfl, hs1, upd_same, .nil, rfl, fun j r h => by simp at h, fun x h => nomatch h⟩ ?_ ?_
  · rintro i σ H2 hi ⟨xs, rs, v4, v5, v6, v7, v8, rfl, hs, hhc, hpd, hrl, hsg, hwb⟩
    have hi30 : (i : Int) < 30 := by omega
    obtain ⟨hcs, ec⟩ := signs_at2 (i := (f + st * (0 + (i : Int))) % 30) (by omega) (by omega)
    walk_at "rd"
    refine ⟨l, _, ns, rfl, hs.seq hS, by omega, fun c2 => ?_⟩
    walk_at "rd"
    refine ⟨_, _, rfl, by omega, by omega, fun z hz0 hz1 => ?_⟩
    walk_at "rd"
    intro p1 hp1
    walk_at "rd"
    refine ⟨_, _, _, rfl, rfl, by decide, ec, ?_⟩
    walk_at "rd"
    try refine ⟨_, _, rfl, ?_⟩
    walk_at "rd"
    have hsA := same_new hp1 (.lst [.int 1, .int 7, .int 11, .int 13, .int 17, .int 19, .int 23, .int 29])
    have hhA := hsA _ _ hhc
    refine ⟨.inl ⟨rfl, _, SqL.of hhA⟩, ?_⟩
    walk_at "rd"
    intro p2 hp2
    have hsB := same_add (o := .lst [.int 3, .int 12, .int 99]) hsA hp2
    have hz2 := Int.emod_nonneg z (show wd ≠ 0 by omega)
    have hz3 := Int.emod_lt_of_pos z (show 0 < wd by omega)
    walk_at "rd"
    intro t ht
    have hsC := same_add (o := .tup (Cs.rowV ⟨sg (signAt ((f + st * (0 + (i : Int))) % 30)), 1 + z % wd, (f / 240 + (2 * (f / 30000 % 64) + 1) * (0 + (i : Int))) % 128, z / 99 % 41 * (if z / 11 % 5 < 1 then z / 11 % 5 else 1)⟩)) hsB ht
    have hhC := hsC _ _ hhc
    have hxl := Cs.rows_len hpd
    refine ⟨rc, _, _, rfl, rfl, hhC, smallLt (by omega), ?_⟩
    refine ⟨xs ++ [.ref t], rs ++ [⟨sg (signAt ((f + st * (0 + (i : Int))) % 30)), 1 + z % wd, (f / 240 + (2 * (f / 30000 % 64) + 1) * (0 + (i : Int))) % 128, z / 99 % 41 * (if z / 11 % 5 < 1 then z / 11 % 5 else 1)⟩], _, _, _, _, _, rfl, same_upd (hs.trans hsC) hrc, upd_same, ?_, by rw [List.length_append, hrl]; rfl, fun j r hj => ?_, fun x hx => ?_⟩
    · refine Paired.snoc (Cs.rows_upd (Cs.rows_same hpd hsC) hhC (fun z e => by cases e)) ⟨t, rfl, ?_⟩
      rw [upd_ne (ne_of upd_same hhC (fun e => by cases e)), upd_same]
      rfl
    · by_cases hji : j < rs.length
      · rw [List.getElem?_append_left hji] at hj
        exact hsg j r hj
      · have hj2 := (List.getElem?_eq_some_iff.mp hj).1
        rw [List.length_append] at hj2
        have hj3 : j = rs.length := by
          have : j < rs.length + 1 := hj2
          omega
        subst hj3
        rw [List.getElem?_append_right (Nat.le_refl _), Nat.sub_self] at hj
        have hj : _ = r := Option.some.inj hj
        subst hj
        refine ⟨?_, ?_⟩
        · show sg (signAt ((f + st * (0 + (i : Int))) % 30)) = _
          rw [Int.zero_add, hrl]
        · show (f / 240 + (2 * (f / 30000 % 64) + 1) * (0 + (i : Int))) % 128 = _
          rw [Int.zero_add, hrl]
    · rcases List.mem_append.mp hx with h | h
      · exact hwb x h
      · rw [List.mem_singleton.mp h]
        have hn : 0 ≤ z / 99 % 41 * (if z / 11 % 5 < 1 then z / 11 % 5 else 1) ∧ z / 99 % 41 * (if z / 11 % 5 < 1 then z / 11 % 5 else 1) ≤ 40 := by
          split
          · rw [show z / 11 % 5 = 0 by omega]
            omega
          · omega
        generalize z / 99 % 41 * (if z / 11 % 5 < 1 then z / 11 % 5 else 1) = nn at hn
        show 1 ≤ 1 + z % wd ∧ 1 + z % wd ≤ 99 ∧ 0 ≤ (f / 240 + (2 * (f / 30000 % 64) + 1) * (0 + (i : Int))) % 128 ∧ (f / 240 + (2 * (f / 30000 % 64) + 1) * (0 + (i : Int))) % 128 ≤ 127 ∧ 0 ≤ nn ∧ nn ≤ 40
        generalize (f / 240 + (2 * (f / 30000 % 64) + 1) * (0 + (i : Int))) = yy
        omega
  · rintro σ H2 ⟨xs, rs, v4, v5, v6, v7, v8, rfl, hs, hhc, hpd, hrl, hsg, hwb⟩
    refine ⟨_, rfl, ?_⟩
    refine q rc xs rs H2 hrc hs hhc hpd (by omega) (by omega) (fun x hx => ?_) (rows_apart hst (by omega) fun j r h => (hsg j r h).1) (rows_teeth (m := f / 30000 % 64) (by omega) (by omega) fun j r h => (hsg j r h).2) hwb
    obtain ⟨j, hj, e⟩ := List.getElem_of_mem hx
    rw [← e, (hsg j _ (List.getElem?_eq_getElem hj)).1]
    exact ⟨_, (signs_at2 (by omega) (by omega)).1, rfl⟩
def sp_channel_of (K : PySem.W.Frag) : Sp := fun vs H Q _ => ∃ (l : Addr) (x : Str) (rs : List Cs.Row), vs = [.ref l, .str x] ∧ Cs.CaseAt K H l rs ∧ ∀ H', Same H H' → Q (Mt.optV (Cs.place rs x)) H'
theorem ok_channel_of (T : Tx K mg a) : FnOk P w K mg base CX0 1 a.f_channel_of a.d_channel_of ["case", "sign"] (sp_channel_of K) := by
  refine T.channel_of.fn.ok sc_channel_of (fun vs H Q E h => ?_) (fun cdv A outer s H vs Q E hr h => ?_)
  · obtain ⟨l, x, rs, rfl, _⟩ := h
    rfl
  obtain ⟨l, x, rs, rfl, ⟨xs, hS, hp⟩, q⟩ := h
  refine ⟨_, (pss_cons (ps_for PassesOwn.never rfl (kpi_enum K rfl rfl T.b_enumerate (pa_cons (pv 0) pa_nil)) (kpg_tup K rfl (n := 2) rfl (pgs_cons (pg_name (i := 2) sc_channel_of.nd rfl (Or.inl rfl)) (pgs_cons (pg_name (i := 3) sc_channel_of.nd rfl (Or.inl rfl)) pgs_nil))) (pss_one (ps_if (pt_cmpR op_eq (pe_ix (kix_tup K rfl) (pv 3) pe_int (fun _ _ => rfl)) (pv 1) (nomark _)) (pss_one (ps_ret (pv 2))) pss_nil)))
      (pss_one (ps_ret pe_non))), ?_⟩
  walk_at "rd"
  try refine ⟨⟨_, hS⟩, ?_⟩
  refine for_enum (a := l) (xs := xs) (fun i σ H2 => ∃ (v1 v2 : Option V), σ = [some (.ref l), some (.str x), v1, v2] ∧ Same H H2 ∧ ∀ (j : Nat) r, j < i → rs[j]? = some r → r.s ≠ x)
    ⟨none, none, rfl, Same.refl _, fun j _ h => absurd h (Nat.not_lt_zero _)⟩ (fun i σ H2 _ ⟨_, _, _, hs, _⟩ => hs.seq hS) ?_ ?_
  · rintro i y p σ H2 hy ⟨v1, v2, rfl, hs, hb⟩ hpn
    obtain ⟨r, hri, t, rfl, ht⟩ := Cs.pd_get hp hy
    have hs2 := same_add (o := .tup [.int i, .ref t]) hs hpn
    have ht2 := hs2 _ _ ht
    walk_at "rd"
    walk_at "tg"
    walk_at "tg"
    walk_at "rd"
    refine ⟨t, _, _, _, rfl, rfl, SqT.of ht2, rfl, ?_⟩
    walk_at "rd"
    rw [Cs.strV]
    by_cases e : r.s = x
    · rw [decide_eq_true e]
      refine iteT ?_
      walk_at "rd"
      have := q _ hs2
      rw [Cs.place_some hri e hb] at this
      exact this
    · rw [decide_eq_false e]
      refine iteF ?_
      refine ⟨_, _, rfl, hs2, fun j r' hj hr' => ?_⟩
      by_cases z : j = i
      · subst z
        rw [hri] at hr'
        cases hr'
        exact e
      · exact hb j r' (by omega) hr'
  · rintro σ H2 ⟨v1, v2, rfl, hs, hb⟩
    have := q _ hs
    rw [Cs.place_none (fun j r hj => hb j r (by rw [Cs.rows_len hp]; exact hj))] at this
    exact this
def sp_codes_of_ (K : PySem.W.Frag) : Sp := fun vs H Q _ => ∃ (l : Addr) (rs : List Cs.Row), vs = [.ref l] ∧ Cs.CaseAt K H l rs ∧ rs.length ≤ 1000 ∧ ∀ (r : Addr) H', H r = none → Same H H' → H' r = some (.lst ((rs.map fun x => x.t).map V.int)) → Q (.ref r) H'
theorem ok_codes_of_ (T : Tx K mg a) : FnOk P w K mg base CX0 1 a.f_codes_of_ a.d_codes_of_ ["case"] (sp_codes_of_ K) := by
  refine T.codes_of_.fn.ok sc_codes_of_ (fun vs H Q E h => ?_) (fun cdv A outer s H vs Q E hr h => ?_)
  · obtain ⟨l, rs, rfl, _⟩ := h
    rfl
  obtain ⟨l, rs, rfl, ⟨xs, hS, hp⟩, hl, q⟩ := h
  refine ⟨_, (pss_one (ps_ret (pe_compG rfl (kpi_list K rfl (pv 0)) (BlkOk.of (N' := ["case", "sign", "width", "teeth", "many"]) (ms := []) (k := 4) (by rfl)) (fun _ _ _ _ _ => (kpg_tup K rfl (n := 4) rfl (pgs_cons (pg_name (i := 1) (show List.Nodup (["case", "sign", "width", "teeth", "many"] : List Str) from by decide +kernel) rfl (Or.inl rfl)) (pgs_cons (pg_name (i := 2) (show List.Nodup (["case", "sign", "width", "teeth", "many"] : List Str) from by decide +kernel) rfl (Or.inl rfl)) (pgs_cons (pg_name (i := 3) (show List.Nodup (["case", "sign", "width", "teeth", "many"] : List Str) from by decide +kernel) rfl (Or.inl rfl)) (pgs_cons (pg_name (i := 4) (show List.Nodup (["case", "sign", "width", "teeth", "many"] : List Str) from by decide +kernel) rfl (Or.inl rfl)) pgs_nil)))))) (fun _ _ _ _ _ => pts_nil) (fun _ _ _ _ _ => (pv 3))))), ?_⟩
  have hxl := Cs.rows_len hp
  walk_at "rd"
  intro D hD
  refine comp_list (a := l) (xs := xs) (fun i ys σ H2 => ∃ (v1 v2 v3 v4 : Option V), ys = ((rs.take i).map fun x => x.t).map V.int ∧ σ = [some (.ref l), v1, v2, v3, v4] ∧ Same H H2 ∧ H2 D = some (.lst ys))
    ?_ ?_ ?_ ?_
  · exact ⟨none, none, none, none, rfl, rfl, same_new hD _, upd_same⟩
  · exact fun i ys σ H2 _ ⟨_, _, _, _, _, _, hs, _⟩ => hs.seq hS
  · rintro i y ys σ H2 hy hil ⟨v1, v2, v3, v4, rfl, rfl, hs, hh⟩
    obtain ⟨r, hri, t, rfl, ht⟩ := Cs.pd_get hp hy
    have ht2 := hs _ _ ht
    refine ⟨_, _, rfl, SqT.of ht2, rfl, ?_⟩
    walk_at "tg"
    walk_at "tg"
    walk_at "tg"
    walk_at "tg"
    walk_at "rd"
    refine cnext hil hh ?_ ⟨_, _, _, _, ?_, rfl, same_upd hs hD, upd_same⟩
    · rw [List.length_map, List.length_map, List.length_take]
      omega
    · rw [List.take_add_one, hri, List.map_append, List.map_append]
      rfl
  · rintro ys σ H2 ⟨v1, v2, v3, v4, rfl, rfl, hs, hh⟩
    rw [hxl, List.take_of_length_le (Nat.le_refl _)] at hh
    exact q D H2 hD hs hh
theorem in_ints (z : Int) : ∀ zs : List Int, inV (.int z) (zs.map V.int) = decide (z ∈ zs)
  | [] => rfl
  | y :: zs => by
    have ih := in_ints z zs
    unfold inV at ih ⊢
    rw [List.map_cons, List.any_cons, ih]
    have e : eqV (V.int y) (V.int z) = decide (z = y) := by
      show (y == z) = _
      rw [Bool.eq_iff_iff, beq_iff_eq, decide_eq_true_iff]
      exact eq_comm
    rw [e, ← Bool.decide_or, decide_eq_decide]
    exact List.mem_cons.symm
theorem flat_ints : ∀ zs : List Int, (zs.map V.int).all flatV = true
  | [] => rfl
  | y :: zs => by
    rw [List.map_cons, List.all_cons, flat_ints zs]
    rfl
def sp_is_sign : Sp := fun vs H Q _ => ∃ x : Str, vs = [.str x] ∧ Cs.SgOk 1000 x ∧ Q (.bl (Cs.isSign x)) H
theorem ok_is_sign (T : Tx K mg a) : FnOk P w K mg base CX0 1 a.f_is_sign a.d_is_sign ["text"] sp_is_sign := by
  refine T.is_sign.fn.ok sc_is_sign (fun vs H Q E h => ?_) (fun cdv A outer s H vs Q E hr h => ?_)
  · obtain ⟨x, rfl, _⟩ := h
    rfl
  obtain ⟨x, rfl, hx, q⟩ := h
  have hxl : x.cps.toList.length = x.length := Array.length_toList
  refine ⟨_, (pss_one (ps_ret (pe_and (pe_cmpR op_eq (pe_callB call_len_str rfl T.b_len bt_len (pa_cons (pv 0) pa_nil)) pe_int (nomark _)) (pe_one (pe_cmpR op_in_str (pv 0) (pe_glob (v := .str "abcdefghijklmnopqrstuvwxyz.,-'") rfl T.g_SIGNS ⟨_, rfl⟩) (by with_unfolding_all rfl)))))), ?_⟩
  walk_at "rd"
  refine ⟨smallL (by have := hx.1; omega), ?_⟩
  walk_at "rd"
  refine ite2 (fun c1 => ?_) (fun c1 => ?_)
  · have c1 : V.int (x.length : Int) = V.int 1 := of_decide_eq_true c1
    have c1 : (x.length : Int) = 1 := V.int.inj c1
    obtain ⟨c, hc⟩ : ∃ c, x.cps.toList = [c] := List.length_eq_one_iff.mp (by omega)
    have ex : x = sg c := Lns.str_ext hc
    have hc128 : c < 128 := hx.2 c (by rw [hc]; exact List.mem_singleton.mpr rfl)
    walk_at "rd"
    unfold Cs.isSign at q
    rw [hc] at q
    rw [ex]
    have e := Cs.sign_in c hc128
    have q : Q (.bl (decide (c ∈ Cs.signs))) H := q
    rw [← e] at q
    exact q
  · have c1 : ¬ (x.length : Int) = 1 := fun z => c1 (decide_eq_true (congrArg V.int z))
    have e : Cs.isSign x = false := by
      unfold Cs.isSign
      split
      · rename_i c e
        rw [e] at hxl
        have hxl : 1 = x.length := hxl
        omega
      · rfl
    rw [e] at q
    exact q
def sp_is_channel (K : PySem.W.Frag) : Sp := fun vs H Q _ => ∃ (t : Addr) (r : Cs.Row), vs = [.ref t] ∧ H t = some (.tup (Cs.rowV r)) ∧ Cs.SgOk 1000 r.s ∧ Q (.bl (Cs.isChan r)) H
theorem ok_is_channel (T : Tx K mg a) : FnOk P w K mg base CX0 2 a.f_is_channel a.d_is_channel ["channel"] (sp_is_channel K) := by
  have G_is_sign := ok_is_sign (P := P) (w := w) (base := base) T
  refine T.is_channel.fn.ok sc_is_channel (fun vs H Q E h => ?_) (fun cdv A outer s H vs Q E hr h => ?_)
  · obtain ⟨t, r, rfl, _⟩ := h
    rfl
  obtain ⟨t, r, rfl, ht, hs, q⟩ := h
  have iff : Cs.isChan r = true ↔ Cs.isSign r.s = true ∧ (1 ≤ r.w ∧ r.w ≤ 99) ∧ (0 ≤ r.t ∧ r.t ≤ 127) ∧ (0 ≤ r.n ∧ r.n ≤ 40) := by
    unfold Cs.isChan
    simp only [Bool.and_eq_true, decide_eq_true_eq, and_assoc]
  have qt : Cs.isSign r.s = true ∧ (1 ≤ r.w ∧ r.w ≤ 99) ∧ (0 ≤ r.t ∧ r.t ≤ 127) ∧ (0 ≤ r.n ∧ r.n ≤ 40) → Q (.bl true) H := fun h => by rw [iff.mpr h] at q; exact q
  have qf : ¬ (Cs.isSign r.s = true ∧ (1 ≤ r.w ∧ r.w ≤ 99) ∧ (0 ≤ r.t ∧ r.t ≤ 127) ∧ (0 ≤ r.n ∧ r.n ≤ 40)) → Q (.bl false) H := fun h => by
    have e : Cs.isChan r = false := Bool.eq_false_iff.mpr fun z => h (iff.mp z)
    rw [e] at q
    exact q
  clear q iff
  refine ⟨_, (pss_cons (ps_asg (pv 0) (kpg_tup K rfl (n := 4) rfl (pgs_cons (pg_name (i := 1) sc_is_channel.nd rfl (Or.inl rfl)) (pgs_cons (pg_name (i := 2) sc_is_channel.nd rfl (Or.inl rfl)) (pgs_cons (pg_name (i := 3) sc_is_channel.nd rfl (Or.inl rfl)) (pgs_cons (pg_name (i := 4) sc_is_channel.nd rfl (Or.inl rfl)) pgs_nil))))))
      (pss_one (ps_ret (pe_and (pcall T.is_sign G_is_sign hr rfl (pa_cons (pv 1) pa_nil)) (pe_and (pe_chain op_le op_le pe_int (pv 2) pe_int) (pe_and (pe_chain op_le op_le pe_int (pv 3) pe_int) (pe_one (pe_chain op_le op_le pe_int (pv 4) pe_int)))))))), ?_⟩
  walk_at "rd"
  try refine ⟨_, _, rfl, SqT.of ht, rfl, ?_⟩
  walk_at "tg"
  walk_at "tg"
  walk_at "tg"
  walk_at "tg"
  walk_at "rd"
  try refine ⟨r.s, rfl, hs, ?_⟩
  try refine ⟨_, rfl, ?_⟩
  cases hsg : Cs.isSign r.s with
  | false =>
    try refine iteF ?_
    exact qf (by rw [hsg]; exact fun z => nomatch z.1)
  | true =>
    rw [hsg] at qt qf
    try refine iteT ?_
    walk_at "rd"
    refine ite2 (fun c1 => ?_) (fun c1 => ?_)
    · have c1 : 1 ≤ r.w := of_decide_eq_true c1
      walk_at "rd"
      refine ite2 (fun c2 => ?_) (fun c2 => ?_)
      · have c2 : r.w ≤ 99 := of_decide_eq_true c2
        walk_at "rd"
        refine ite2 (fun c3 => ?_) (fun c3 => ?_)
        · have c3 : 0 ≤ r.t := of_decide_eq_true c3
          walk_at "rd"
          refine ite2 (fun c4 => ?_) (fun c4 => ?_)
          · have c4 : r.t ≤ 127 := of_decide_eq_true c4
            walk_at "rd"
            refine ite2 (fun c5 => ?_) (fun c5 => ?_)
            · have c5 : 0 ≤ r.n := of_decide_eq_true c5
              walk_at "rd"
              by_cases c6 : r.n ≤ 40
              · show Q (.bl (decide (r.n ≤ 40))) H
                rw [decide_eq_true c6]
                exact qt ⟨rfl, ⟨c1, c2⟩, ⟨c3, c4⟩, c5, c6⟩
              · show Q (.bl (decide (r.n ≤ 40))) H
                rw [decide_eq_false c6]
                exact qf fun z => c6 z.2.2.2.2
            · try refine ⟨_, rfl, ?_⟩
              exact qf fun z => c5 (decide_eq_true z.2.2.2.1)
          · try refine ⟨_, rfl, ?_⟩
            try refine iteF ?_
            exact qf fun z => c4 (decide_eq_true z.2.2.1.2)
        · try refine ⟨_, rfl, ?_⟩
          try refine iteF ?_
          exact qf fun z => c3 (decide_eq_true z.2.2.1.1)
      · try refine ⟨_, rfl, ?_⟩
        try refine iteF ?_
        exact qf fun z => c2 (decide_eq_true z.2.1.2)
    · try refine ⟨_, rfl, ?_⟩
      try refine iteF ?_
      exact qf fun z => c1 (decide_eq_true z.2.1.1)
def sp_can_stand (K : PySem.W.Frag) : Sp := fun vs H Q _ => ∃ (l t : Addr) (ah : List Cs.Row) (r : Cs.Row), vs = [.ref l, .ref t] ∧ Cs.CaseAt K H l ah ∧ ah.length ≤ 1000 ∧ H t = some (.tup (Cs.rowV r)) ∧ Cs.SgOk 1000 r.s ∧ ∀ H', Same H H' → Q (.bl (Cs.stand ah r)) H'
theorem ok_can_stand (T : Tx K mg a) : FnOk P w K mg base CX0 3 a.f_can_stand a.d_can_stand ["ahead", "channel"] (sp_can_stand K) := by
  have G_is_channel := ok_is_channel (P := P) (w := w) (base := base) T
  have G_channel_of := ok_channel_of (P := P) (w := w) (base := base) T
  have G_codes_of_ := ok_codes_of_ (P := P) (w := w) (base := base) T
  refine T.can_stand.fn.ok sc_can_stand (fun vs H Q E h => ?_) (fun cdv A outer s H vs Q E hr h => ?_)
  · obtain ⟨l, t, ah, r, rfl, _⟩ := h
    rfl
  obtain ⟨l, t, ah, r, rfl, hC, hl, ht, hs, q⟩ := h
  unfold Cs.stand at q
  refine ⟨_, (pss_cons (ps_asg (pv 1) (kpg_tup K rfl (n := 4) rfl (pgs_cons (pg_name (i := 2) sc_can_stand.nd rfl (Or.inl rfl)) (pgs_cons (pg_name (i := 3) sc_can_stand.nd rfl (Or.inl rfl)) (pgs_cons (pg_name (i := 4) sc_can_stand.nd rfl (Or.inl rfl)) (pgs_cons (pg_name (i := 5) sc_can_stand.nd rfl (Or.inl rfl)) pgs_nil))))))
      (pss_one (ps_ret (pe_and (pcall T.is_channel G_is_channel hr rfl (pa_cons (pv 1) pa_nil)) (pe_and (pe_cmp (pc_isN (pcall T.channel_of G_channel_of hr rfl (pa_cons (pv 0) (pa_cons (pv 2) pa_nil))))) (pe_one (pe_cmpR (knotIn_seq K rfl) (pv 4) (pcall T.codes_of_ G_codes_of_ hr rfl (pa_cons (pv 0) pa_nil)) (by with_unfolding_all rfl)))))))), ?_⟩
  walk_at "rd"
  try refine ⟨_, _, rfl, SqT.of ht, rfl, ?_⟩
  walk_at "tg"
  walk_at "tg"
  walk_at "tg"
  walk_at "tg"
  try refine And.intro rfl ?_
  refine ⟨_, rfl, ?_⟩
  refine ⟨t, r, rfl, ht, hs, ?_⟩
  try refine ⟨_, rfl, ?_⟩
  cases hch : Cs.isChan r with
  | false =>
    rw [hch] at q
    try refine iteF ?_
    exact q H (Same.refl _)
  | true =>
    rw [hch] at q
    try refine iteT ?_
    refine ⟨_, rfl, ?_⟩
    refine ⟨_, rfl, ?_⟩
    refine ⟨l, r.s, ah, rfl, hC, fun H1 hs1 => ?_⟩
    try refine ⟨_, rfl, ?_⟩
    cases hpl : Cs.place ah r.s with
    | some k =>
      rw [hpl] at q
      try refine ⟨_, rfl, ?_⟩
      try refine iteF ?_
      exact q H1 hs1
    | none =>
      rw [hpl] at q
      try refine ⟨_, rfl, ?_⟩
      try refine iteT ?_
      refine ⟨_, rfl, ?_⟩
      try refine ⟨_, rfl, ?_⟩
      refine ⟨l, ah, rfl, hC.same hs1, hl, fun p H2 hp0 hs2 hp => ?_⟩
      have hin : inV (.int r.t) ((ah.map fun x => x.t).map V.int) = decide (r.t ∈ ah.map fun x => x.t) := in_ints _ _
      refine ⟨p, _, rfl, .inl (SqL.of hp), rfl, flat_ints _, ?_⟩
      rw [hin]
      exact q H2 (hs1.trans hs2)
theorem cut_pre (xs : List V) (n : Nat) (h : n ≤ xs.length) : cutV xs none (some (n : Int)) = xs.take n := by
  unfold cutV
  have e3 : HT.sIx xs.length 0 none = 0 := rfl
  rw [HT.sIx_nat, e3, List.drop_zero, Nat.min_eq_left h, Nat.sub_zero]
theorem pd_take {α β : Type} {F : α → β → Prop} : ∀ (n : Nat) {xs : List α} {ys : List β}, Paired F xs ys → Paired F (xs.take n) (ys.take n)
  | 0, _, _, _ => .nil
  | _ + 1, _, _, .nil => .nil
  | n + 1, _, _, .cons r t => .cons r (pd_take n t)
def sp_look_at_case (K : PySem.W.Frag) (C : Addr) : Sp := fun vs H Q E => ∃ (l : Addr) (xs : List V) (rs : List Cs.Row), vs = [.ref l] ∧ H l = some (.lst xs) ∧ Paired (Cs.RowAt H) xs rs ∧ rs.length ≤ 1000 ∧ (∀ r ∈ rs, Cs.SgOk 1000 r.s) ∧
  (∀ H' dx (k : Nat), Same H H' → H' dx = none → Cs.Looks rs (some k) → E (.ref C) (some dx) (upd H' dx (.xd [("at", .int (k : Int))]))) ∧
  (∀ H', Same H H' → Cs.Looks rs none → Q .non H')
theorem ok_look_at_case (T : Tx K mg a) : FnOk P w K mg base (CX1 P w) 4 a.f_look_at_case a.d_look_at_case ["case"] (sp_look_at_case K a.c_NoCase) := by
  have G_can_stand := ok_can_stand (P := P) (w := w) (base := base) T
  have G_init_NoCase := ok_init_NoCase (P := P) (w := w) (base := base) T
  refine T.look_at_case.fn.okX sc_look_at_case (fun vs H Q E h => ?_) (fun cdv A outer s H vs Q E hr h => ?_)
  · obtain ⟨l, xs, rs, rfl, _⟩ := h
    rfl
  obtain ⟨l, xs, rs, rfl, hl, hpd, hrl, hsg, qx, q⟩ := h
  have hxl := Cs.rows_len hpd
  refine ⟨_, (pss_cons (ps_if (pt_cmpR op_eq (pe_callB (klen_seq K rfl) rfl T.b_len bt_len (pa_cons (pv 0) pa_nil)) pe_int (nomark _)) (pss_one (praiseX T.cl_NoCase G_init_NoCase hr rfl rfl rfl (pa_cons pe_int pa_nil))) pss_nil)
      (pss_one (ps_for (fly_own rfl) rfl (kpi_enum K rfl rfl T.b_enumerate (pa_cons (pv 0) pa_nil)) (kpg_tup K rfl (n := 2) rfl (pgs_cons (pg_name (i := 1) sc_look_at_case.nd rfl (Or.inl rfl)) (pgs_cons (pg_name (i := 2) sc_look_at_case.nd rfl (Or.inl rfl)) pgs_nil))) (pss_one (ps_if (pt_not (pt_val (pcall T.can_stand G_can_stand hr rfl (pa_cons (pe_slice (ksl_list K rfl) (pv 0) po_none (po_some (pv 1))) (pa_cons (pv 2) pa_nil))))) (pss_one (praiseX T.cl_NoCase G_init_NoCase hr rfl rfl rfl (pa_cons (pv 1) pa_nil))) pss_nil))))), ?_⟩
  refine ⟨_, rfl, ?_⟩
  refine ⟨l, _, rfl, .inl (SqL.of hl), ?_⟩
  refine And.intro rfl ?_
  refine ⟨_, rfl, ?_⟩
  refine ite2 (fun c => ?_) (fun c => ?_)
  · have c : V.int (xs.length : Int) = V.int 0 := of_decide_eq_true c
    have c : (xs.length : Int) = 0 := V.int.inj c
    have hr0 : rs = [] := List.length_eq_zero_iff.mp (by omega)
    walk_at "rd"
    exact fun dx hdx => qx H dx 0 (Same.refl _) hdx (.none0 hr0)
  have c : ¬ (xs.length : Int) = 0 := fun z => c (decide_eq_true (congrArg V.int z))
  have hne : rs ≠ [] := fun z => c (by rw [hxl, z]; rfl)
  walk_at "rd"
  try refine ⟨⟨_, SqL.of hl⟩, ?_⟩
  refine for_enum (a := l) (xs := xs) (fun i σ H2 => ∃ (v1 v2 : Option V), σ = [some (.ref l), v1, v2] ∧ Same H H2 ∧ Cs.AllStand rs i)
    ⟨none, none, rfl, Same.refl _, fun i r h => absurd h (Nat.not_lt_zero _)⟩ (fun i σ H2 _ ⟨_, _, _, hs, _⟩ => hs.seq (SqL.of hl)) ?_ ?_
  · rintro i y p σ H2 hy ⟨v1, v2, rfl, hs, hall⟩ hpn
    obtain ⟨r, hri, t, rfl, ht⟩ := Cs.pd_get hpd hy
    have hs2 := same_add (o := .tup [.int i, .ref t]) hs hpn
    have ht2 := hs2 _ _ ht
    walk_at "rd"
    walk_at "tg"
    walk_at "tg"
    try refine And.intro rfl ?_
    generalize upd H2 p (.tup [.int i, .ref t]) = H3 at hs2 ht2 ⊢
    walk_at "rd"
    refine ⟨l, _, rfl, SqL.of (hs2 _ _ hl), fun p4 hp4 => ?_⟩
    have hil : i ≤ xs.length := by
      have := (List.getElem?_eq_some_iff.mp hy).1
      omega
    rw [cut_pre xs i hil]
    have hs4 := same_add (o := .lst (xs.take i)) hs2 hp4
    have h44 : upd H3 p4 (.lst (xs.take i)) p4 = some (.lst (xs.take i)) := upd_same
    have ht4 := hs4 _ _ ht
    generalize upd H3 p4 (.lst (xs.take i)) = H4 at hs4 h44 ht4 ⊢
    refine ⟨_, rfl, ?_⟩
    refine ⟨p4, t, rs.take i, r, rfl, ⟨_, SqL.of h44, pd_take i (Cs.rows_same hpd hs4)⟩, by rw [List.length_take]; omega, ht4, hsg r (List.mem_of_getElem? hri), fun H5 hs5 => ?_⟩
    refine ⟨_, rfl, ?_⟩
    cases hst : Cs.stand (rs.take i) r with
    | true =>
      refine iteF ?_
      exact ⟨_, _, rfl, hs4.trans hs5, hall.succ hri hst⟩
    | false =>
      refine iteT ?_
      walk_at "rd"
      exact fun dx hdx => qx H5 dx i (hs4.trans hs5) hdx (.bad hall hri hst)
  · rintro σ H2 ⟨v1, v2, rfl, hs, hall⟩
    rw [hxl] at hall
    exact q H2 hs (.good hne hall)
/-- a text of plain signs -/
def AW (x : Str) : Prop := x.cps.toList.length ≤ 90000 ∧ ∀ c ∈ x.cps.toList, c < 128
theorem AW.len {x : Str} (h : AW x) : x.length ≤ 90000 := by rw [← show x.cps.toList.length = x.length from Array.length_toList]; exact h.1
theorem fig_in : ∀ c, c < 128 → (!(Builtin.Str.occurrences (Str.ofString "0123456789") (sg c) 0 (Str.ofString "0123456789").length 1).isEmpty) = Cp.isFig c := by decide +kernel
theorem sgV {c d : Nat} : decide (V.str (sg c) = V.str (sg d)) = decide (c = d) := by
  rw [Cs.strV, decide_eq_decide]
  exact ⟨fun h => by have := congrArg (fun s : Str => s.cps.toList) h; simpa [sg] using this, fun h => by rw [h]⟩
def sp_is_number : Sp := fun vs H Q _ => ∃ x : Str, vs = [.str x] ∧ AW x ∧ ∀ H', Same H H' → Q (.bl (Cp.isNum x)) H'
theorem ok_is_number (T : Tx K mg a) : FnOk P w K mg base CX0 1 a.f_is_number a.d_is_number ["word"] sp_is_number := by
  refine T.is_number.fn.ok sc_is_number (fun vs H Q E h => ?_) (fun cdv A outer s H vs Q E hr h => ?_)
  · obtain ⟨x, rfl, _⟩ := h
    rfl
  obtain ⟨x, rfl, hx, q⟩ := h
  have hl : x.cps.toList.length = x.length := Array.length_toList
  have hsz : x.length ≤ sizeLine := smallL (by have := hx.len; omega)
  have no : ∀ H', Same H H' → Cp.isNum x = false → Q (.bl false) H' := fun H' s e => by rw [← e]; exact q H' s
  refine ⟨_, (pss_cons (ps_cut (ps_if (PW.pt (pw_and (pt_cmpR op_gt (pe_callB call_len_str rfl T.b_len bt_len (pa_cons (pv 0) pa_nil)) pe_int (nomark _)) (pw_and1 (pt_cmpR op_eq (pe_ix ix_str (pv 0) pe_int (fun _ _ => rfl)) pe_str (nomark _))))) (pss_one (ps_ret pe_bl)) pss_nil))
      (pss_one (ps_ret (pe_and (pe_chain op_le op_le pe_int (pe_callB call_len_str rfl T.b_len bt_len (pa_cons (pv 0) pa_nil)) pe_int) (pe_one (pe_callB (kall K rfl rfl) rfl T.b_all bt_all (pa_cons (pe_compG rfl (pi_str (pv 0)) (BlkOk.of (N' := ["word", "figure"]) (ms := []) (k := 1) (by rfl)) (fun _ _ _ _ _ => (pg_name (i := 1) (show List.Nodup (["word", "figure"] : List Str) from by decide +kernel) rfl (Or.inl rfl))) (fun _ _ _ _ _ => pts_nil) (fun _ _ _ _ _ => (pe_cmpR op_in_str (pv 1) (pe_glob (v := .str "0123456789") rfl T.g_FIGURES ⟨_, rfl⟩) (by with_unfolding_all rfl)))) pa_nil))))))), ?_⟩
  refine ⟨fun σ H2 => σ = [some (.str x)] ∧ H2 = H ∧ (decide (1 < x.cps.toList.length) && decide (x.cps.toList[0]? = some 48)) = false, ?_, ?_⟩
  · walk_at "rd"
    try refine ⟨hsz, ?_⟩
    walk_at "rd"
    by_cases hg : 1 < x.length
    · rw [decide_eq_true (show (1 : Int) < (x.length : Int) by omega)]
      refine iteT ?_
      have e0 : atI x.cps.toList 0 = some (x.cps.toList[0]'(by omega)) := atI_nat (j := 0) (List.getElem?_eq_getElem (by omega))
      have e1 : x.cps.toList[0]? = some (x.cps.toList[0]'(by omega)) := List.getElem?_eq_getElem (by omega)
      generalize x.cps.toList[0]'(by omega) = c at e0 e1
      refine ⟨_, rfl, ?_⟩
      refine ⟨_, _, _, rfl, rfl, hsz, e0, ?_⟩
      walk_at "rd"
      rw [show decide (V.str ({ cps := #[c] } : Str) = V.str (Str.ofString "0")) = decide (c = 48) from sgV (d := 48)]
      refine ite2 (fun hc => ?_) (fun hc => ?_)
      · have hc := of_decide_eq_true hc
        walk_at "rd"
        refine no _ (Same.refl _) ?_
        unfold Cp.isNum
        rw [e1, hc, decide_eq_true (show 1 < x.cps.toList.length by omega)]
        rfl
      · refine ⟨rfl, rfl, ?_⟩
        rw [e1, decide_eq_false (fun z => hc (decide_eq_true (Option.some.inj z))), Bool.and_false]
    · rw [decide_eq_false (show ¬ (1 : Int) < (x.length : Int) by omega)]
      refine iteF ?_
      refine ⟨rfl, rfl, ?_⟩
      rw [decide_eq_false (show ¬ 1 < x.cps.toList.length by omega), Bool.false_and]
  rintro σ H2 ⟨rfl, rfl, hlead⟩
  have en : Cp.isNum x = ((decide (1 ≤ x.cps.toList.length) && decide (x.cps.toList.length ≤ 4)) && x.cps.toList.all Cp.isFig) := by
    unfold Cp.isNum
    rw [hlead]
    rfl
  walk_at "rd"
  try refine ⟨hsz, ?_⟩
  walk_at "rd"
  by_cases h1 : 1 ≤ x.length
  · rw [decide_eq_true (show (1 : Int) ≤ (x.length : Int) by omega)]
    refine iteT ?_
    walk_at "rd"
    by_cases h2 : x.length ≤ 4
    · rw [decide_eq_true (show (x.length : Int) ≤ (4 : Int) by omega)]
      refine iteT ?_
      rw [decide_eq_true (show 1 ≤ x.cps.toList.length by omega), decide_eq_true (show x.cps.toList.length ≤ 4 by omega)] at en
      walk_at "rd"
      intro D hD
      refine comp_str (x := x) (fun j zs σ H6 => ∃ (v1 : Option V), σ = [some (.str x), v1] ∧ Same H2 H6 ∧ H6 D = some (.lst zs) ∧ zs = ((x.cps.toList.take j).map Cp.isFig).map V.bl)
        ?_ ?_ ?_
      · exact ⟨none, rfl, same_new hD _, upd_same, rfl⟩
      · rintro j c zs σ H6 hc hjl ⟨v1, rfl, hs, hh, rfl⟩
        have hc' : x.cps.toList[j]? = some c := by rw [Array.getElem?_toList]; exact hc
        walk_at "rd"
        rw [fig_in c (hx.2 c (List.mem_of_getElem? hc'))]
        refine cnext hjl hh (by rw [List.length_map, List.length_map, List.length_take]; omega) ⟨_, rfl, same_upd hs hD, upd_same, ?_⟩
        rw [List.take_add_one, hc', List.map_append, List.map_append]
        rfl
      · rintro zs σ H6 ⟨v1, rfl, hs, hh, rfl⟩
        refine ⟨D, _, rfl, SqL.of hh, ?_⟩
        have e2 : ((x.cps.toList.take x.cps.size).map Cp.isFig).all id = Cp.isNum x := by
          rw [en, List.take_of_length_le (by rw [Array.length_toList]; exact Nat.le_refl _), List.all_map]
          rfl
        rw [e2]
        exact q _ hs
    · rw [decide_eq_false (show ¬ (x.length : Int) ≤ (4 : Int) by omega)]
      try refine iteF ?_
      refine no _ (Same.refl _) ?_
      rw [en, decide_eq_false (show ¬ x.cps.toList.length ≤ 4 by omega), Bool.and_false, Bool.false_and]
  · rw [decide_eq_false (show ¬ (1 : Int) ≤ (x.length : Int) by omega)]
    try refine iteF ?_
    refine ⟨_, rfl, ?_⟩
    try refine iteF ?_
    refine no _ (Same.refl _) ?_
    rw [en, decide_eq_false (show ¬ 1 ≤ x.cps.toList.length by omega), Bool.false_and, Bool.false_and]
/-- seven figures, each 0 or 1 -/
def isBit (c : Nat) : Bool := decide (c = 48) || decide (c = 49)
def isTth (x : Str) : Bool := decide (x.cps.toList.length = 7) && x.cps.toList.all isBit
def tthN (cs : List Nat) : Nat := cs.foldl (fun n c => n * 2 + (c - 48)) 0
theorem bit_in54 : ∀ c, c < 128 → (!(Builtin.Str.occurrences (Str.ofString "01") (sg c) 0 (Str.ofString "01").length 1).isEmpty) = isBit c := by decide +kernel
theorem isBit_iff {c : Nat} (h : isBit c = true) : c = 48 ∨ c = 49 := by
  unfold isBit at h
  rcases Bool.or_eq_true_iff.mp h with z | z
  · exact .inl (of_decide_eq_true z)
  · exact .inr (of_decide_eq_true z)
def sp_is_teeth : Sp := fun vs H Q _ => ∃ x : Str, vs = [.str x] ∧ AW x ∧ ∀ H', Same H H' → Q (.bl (isTth x)) H'
theorem ok_is_teeth (T : Tx K mg a) : FnOk P w K mg base CX0 1 a.f_is_teeth a.d_is_teeth ["word"] sp_is_teeth := by
  refine T.is_teeth.fn.ok sc_is_teeth (fun vs H Q E h => ?_) (fun cdv A outer s H vs Q E hr h => ?_)
  · obtain ⟨x, rfl, _⟩ := h
    rfl
  obtain ⟨x, rfl, hx, q⟩ := h
  have hl : x.cps.toList.length = x.length := Array.length_toList
  have hsz : x.length ≤ sizeLine := smallL (by have := hx.len; omega)
  refine ⟨_, (pss_one (ps_ret (pe_and (pe_cmpR op_eq (pe_callB call_len_str rfl T.b_len bt_len (pa_cons (pv 0) pa_nil)) (pe_glob (v := .int 7) rfl T.g_NUMBER_OF_TEETH ⟨_, rfl⟩) (nomark _)) (pe_one (pe_callB (kall K rfl rfl) rfl T.b_all bt_all (pa_cons (pe_compG rfl (pi_str (pv 0)) (BlkOk.of (N' := ["word", "figure"]) (ms := []) (k := 1) (by rfl)) (fun _ _ _ _ _ => (pg_name (i := 1) (show List.Nodup (["word", "figure"] : List Str) from by decide +kernel) rfl (Or.inl rfl))) (fun _ _ _ _ _ => pts_nil) (fun _ _ _ _ _ => (pe_cmpR op_in_str (pv 1) pe_str (by with_unfolding_all rfl)))) pa_nil)))))), ?_⟩
  walk_at "rd"
  try refine ⟨hsz, ?_⟩
  walk_at "rd"
  refine ite2 (fun c1 => ?_) (fun c1 => ?_)
  · have c1 : (x.length : Int) = 7 := V.int.inj (of_decide_eq_true c1)
    walk_at "rd"
    intro D hD
    refine comp_str (x := x) (fun j zs σ H6 => ∃ (v1 : Option V), σ = [some (.str x), v1] ∧ Same H H6 ∧ H6 D = some (.lst zs) ∧ zs = ((x.cps.toList.take j).map isBit).map V.bl)
      ?_ ?_ ?_
    · exact ⟨none, rfl, same_new hD _, upd_same, rfl⟩
    · rintro j c zs σ H6 hc hjl ⟨v1, rfl, hs, hh, rfl⟩
      have hc' : x.cps.toList[j]? = some c := by rw [Array.getElem?_toList]; exact hc
      walk_at "rd"
      rw [bit_in54 c (hx.2 c (List.mem_of_getElem? hc'))]
      refine cnext hjl hh (by rw [List.length_map, List.length_map, List.length_take]; omega) ⟨_, rfl, same_upd hs hD, upd_same, ?_⟩
      rw [List.take_add_one, hc', List.map_append, List.map_append]
      rfl
    · rintro zs σ H6 ⟨v1, rfl, hs, hh, rfl⟩
      refine ⟨D, _, rfl, SqL.of hh, ?_⟩
      have e2 : ((x.cps.toList.take x.cps.size).map isBit).all id = isTth x := by
        unfold isTth
        rw [decide_eq_true (show x.cps.toList.length = 7 by omega), List.take_of_length_le (by rw [Array.length_toList]; exact Nat.le_refl _), List.all_map]
        rfl
      rw [e2]
      exact q _ hs
  · have c1 : ¬ x.cps.toList.length = 7 := fun z => c1 (decide_eq_true (congrArg V.int (by omega)))
    have e : isTth x = false := by
      unfold isTth
      rw [decide_eq_false c1]
      rfl
    rw [e] at q
    exact q _ (Same.refl _)
theorem tthN_succ {cs : List Nat} {j c : Nat} (h : cs[j]? = some c) : tthN (cs.take (j + 1)) = tthN (cs.take j) * 2 + (c - 48) := by
  unfold tthN
  rw [List.take_add_one, h, Option.toList_some, List.foldl_append]
  rfl
theorem bit_int : ∀ c, c = 48 ∨ c = 49 → PySem.intText? (sg c) = some ((c - 48 : Nat) : Int) := by
  intro c h
  rcases h with rfl | rfl <;> decide +kernel
def sp_read_teeth : Sp := fun vs H Q _ => ∃ x : Str, vs = [.str x] ∧ isTth x = true ∧ ∀ H', Same H H' → Q (.int (tthN x.cps.toList : Nat)) H'
theorem ok_read_teeth (T : Tx K mg a) : FnOk P w K mg base CX0 1 a.f_read_teeth a.d_read_teeth ["word"] sp_read_teeth := by
  refine T.read_teeth.fn.ok sc_read_teeth (fun vs H Q E h => ?_) (fun cdv A outer s H vs Q E hr h => ?_)
  · obtain ⟨x, rfl, _⟩ := h
    rfl
  obtain ⟨x, rfl, hx, q⟩ := h
  unfold isTth at hx
  obtain ⟨hx7, hxb⟩ := Bool.and_eq_true_iff.mp hx
  have hx7 := of_decide_eq_true hx7
  refine ⟨_, (pss_cons (ps_set (i := 1) sc_read_teeth.nd rfl (Or.inl rfl) pe_int)
      (pss_cons (ps_for PassesOwn.never rfl (pi_str (pv 0)) (pg_name (i := 2) sc_read_teeth.nd rfl (Or.inl rfl)) (pss_one (ps_set (i := 1) sc_read_teeth.nd rfl (Or.inl rfl) (pe_op op_add (pe_op op_mul (pv 1) pe_int) (pe_callTy call_intT rfl T.b_int bt_int (pa_cons (pv 2) pa_nil))))))
      (pss_one (ps_ret (pv 1))))), ?_⟩
  walk_at "rd"
  refine for_str (x := x) (fun j σ H2 => ∃ (v2 : Option V), σ = [some (.str x), some (.int (tthN (x.cps.toList.take j) : Nat)), v2] ∧ Same H H2) ⟨none, rfl, Same.refl _⟩ ?_ ?_
  · rintro j c σ H2 hc hjl ⟨v2, rfl, hs⟩
    have hc' : x.cps.toList[j]? = some c := by rw [Array.getElem?_toList]; exact hc
    have hb := isBit_iff (List.all_eq_true.mp hxb c (List.mem_of_getElem? hc'))
    walk_at "rd"
    refine ⟨sg c, _, rfl, bit_int c hb, by show 1 ≤ 640; decide, ?_⟩
    walk_at "rd"
    refine ⟨some (.str (sg c)), ?_, hs⟩
    rw [tthN_succ hc', Int.natCast_add, Int.natCast_mul]
    rfl
  · rintro σ H2 ⟨v2, rfl, hs⟩
    walk_at "rd"
    rw [List.take_of_length_le (by rw [Array.length_toList]; exact Nat.le_refl _)]
    exact q _ hs
/-- four words that make a row -/
def isRow : List Str → Bool
  | [s, w, t, n] => decide (s ≠ "") && Cp.isNum w && isTth t && Cp.isNum n
  | _ => false
def sp_is_row : Sp := fun vs H Q _ => ∃ (p : Addr) (ws : List Str), vs = [.ref p] ∧ H p = some (.lst (ws.map V.str)) ∧ ws.length ≤ 90100 ∧ (∀ x ∈ ws, AW x) ∧ ∀ H', Same H H' → Q (.bl (isRow ws)) H'
theorem ok_is_row (T : Tx K mg a) : FnOk P w K mg base CX0 2 a.f_is_row a.d_is_row ["words"] sp_is_row := by
  have G_is_number := ok_is_number (P := P) (w := w) (base := base) T
  have G_is_teeth := ok_is_teeth (P := P) (w := w) (base := base) T
  refine T.is_row.fn.ok sc_is_row (fun vs H Q E h => ?_) (fun cdv A outer s H vs Q E hr h => ?_)
  · obtain ⟨p, ws, rfl, _⟩ := h
    rfl
  obtain ⟨p, ws, rfl, hp, hl, hw, q⟩ := h
  have ev : ∀ x y : Str, decide (V.str x = V.str y) = decide (x = y) := fun x y => Cs.strV
  refine ⟨_, (pss_cons (ps_if (pt_cmpR op_ne (pe_callB (klen_seq K rfl) rfl T.b_len bt_len (pa_cons (pv 0) pa_nil)) pe_int (nomark _)) (pss_one (ps_ret pe_bl)) pss_nil)
      (pss_cons (ps_asg (pv 0) (kpg_lst K rfl (n := 4) rfl (pgs_cons (pg_name (i := 1) sc_is_row.nd rfl (Or.inl rfl)) (pgs_cons (pg_name (i := 2) sc_is_row.nd rfl (Or.inl rfl)) (pgs_cons (pg_name (i := 3) sc_is_row.nd rfl (Or.inl rfl)) (pgs_cons (pg_name (i := 4) sc_is_row.nd rfl (Or.inl rfl)) pgs_nil))))))
      (pss_one (ps_ret (pe_and (pe_cmpR op_ne (pv 1) pe_str (nomark _)) (pe_and (pcall T.is_number G_is_number hr rfl (pa_cons (pv 2) pa_nil)) (pe_and (pcall T.is_teeth G_is_teeth hr rfl (pa_cons (pv 3) pa_nil)) (pe_one (pcall T.is_number G_is_number hr rfl (pa_cons (pv 4) pa_nil)))))))))), ?_⟩
  walk_at "rd"
  refine ⟨p, _, rfl, .inl (SqL.of hp), ?_⟩
  rw [List.length_map]
  walk_at "rd"
  refine ite2 (fun c => ?_) (fun c => ?_)
  · have c : ws.length ≠ 4 := fun z => by
      rw [z] at c
      exact absurd c (by decide)
    have e : isRow ws = false := by
      unfold isRow
      split
      · exact absurd rfl c
      · rfl
    rw [e] at q
    walk_at "rd"
    exact q _ (Same.refl _)
  have c : ws.length = 4 := by
    apply Classical.byContradiction
    intro z
    exact c (by rw [decide_eq_false (fun y => z (by have := V.int.inj y; omega))]; rfl)
  obtain ⟨s0, w0, t0, n0, rfl⟩ : ∃ a b c d, ws = [a, b, c, d] := by
    match ws, c with
    | [a, b, c, d], _ => exact ⟨a, b, c, d, rfl⟩
  have a1 := hw w0 (by simp)
  have a2 := hw t0 (by simp)
  have a3 := hw n0 (by simp)
  have hS : SqL K H p [.str s0, .str w0, .str t0, .str n0] := SqL.of hp
  have q : ∀ H', Same H H' → Q (.bl (decide (s0 ≠ "") && Cp.isNum w0 && isTth t0 && Cp.isNum n0)) H' := q
  walk_at "rd"
  refine ⟨p, _, rfl, hS, rfl, ?_⟩
  walk_at "tg"
  walk_at "tg"
  walk_at "tg"
  walk_at "tg"
  try refine And.intro rfl ?_
  walk_at "rd"
  rw [ev]
  by_cases h1 : s0 = ""
  · rw [decide_eq_true h1]
    rw [decide_eq_false (fun z => z h1)] at q
    try refine iteF ?_
    exact q _ (Same.refl _)
  rw [decide_eq_false h1]
  rw [decide_eq_true h1] at q
  try refine iteT ?_
  walk_at "rd"
  first | intro H1 hs1 | refine ⟨w0, rfl, a1, fun H1 hs1 => ?_⟩
  cases h2 : Cp.isNum w0 with
  | false =>
    rw [h2] at q
    walk_at "rd"
    try refine iteF ?_
    exact q _ hs1
  | true =>
  rw [h2] at q
  walk_at "rd"
  try refine iteT ?_
  walk_at "rd"
  first | intro H2 hs2 | refine ⟨t0, rfl, a2, fun H2 hs2 => ?_⟩
  cases h3 : isTth t0 with
  | false =>
    rw [h3] at q
    walk_at "rd"
    try refine iteF ?_
    exact q _ (hs1.trans hs2)
  | true =>
  rw [h3] at q
  walk_at "rd"
  try refine iteT ?_
  walk_at "rd"
  first | intro H3 hs3 | refine ⟨n0, rfl, a3, fun H3 hs3 => ?_⟩
  have q := q _ (hs1.trans (hs2.trans hs3))
  cases h4 : Cp.isNum n0 with
  | false => rw [h4] at q; exact q
  | true => rw [h4] at q; exact q
theorem join_part {d : Nat} : ∀ {ws : List Str} {y : Str}, y ∈ ws → (∀ c ∈ y.cps.toList, c ∈ (Str.join ⟨#[d]⟩ ws).cps.toList) ∧ y.cps.toList.length ≤ (Str.join ⟨#[d]⟩ ws).cps.toList.length := by
  intro ws
  induction ws with
  | nil => intro y hy; cases hy
  | cons a r ih =>
    intro y hy
    cases r with
    | nil => rw [List.mem_singleton.mp hy]; exact ⟨fun c hc => hc, Nat.le_refl _⟩
    | cons b r =>
      have e : (Str.join ⟨#[d]⟩ (a :: b :: r)).cps.toList = a.cps.toList ++ [d] ++ (Str.join ⟨#[d]⟩ (b :: r)).cps.toList := by
        show (a ++ ⟨#[d]⟩ ++ Str.join ⟨#[d]⟩ (b :: r)).cps.toList = _
        rw [Lns.app_list, Lns.app_list]
      rw [e]
      rcases List.mem_cons.mp hy with z | z
      · rw [z]
        exact ⟨fun c hc => List.mem_append_left _ (List.mem_append_left _ hc), by rw [List.length_append, List.length_append]; omega⟩
      · obtain ⟨h1, h2⟩ := ih z
        exact ⟨fun c hc => List.mem_append_right _ (h1 c hc), by rw [List.length_append]; omega⟩
theorem split_part {d : Nat} {x : Str} : ∀ y ∈ Txt.split x ⟨#[d]⟩, AW x → AW y := fun y hy hx => by
  have h := join_part (d := d) hy
  rw [StrLaws.join_split] at h
  exact ⟨Nat.le_trans h.2 hx.1, fun c hc => hx.2 c (h.1 c hc)⟩
def rowOf : List Str → Cs.Row
  | [s, w, t, n] => ⟨s, Cp.numV w, ((tthN t.cps.toList : Nat) : Int), Cp.numV n⟩
  | _ => ⟨"", 0, 0, 0⟩
/-- a row read -/
def rdRow (x : Str) : Option Cs.Row := if isRow (Txt.split x " ") = true then some (rowOf (Txt.split x " ")) else none
theorem isRow_four {ws : List Str} (h : isRow ws = true) : ∃ s w t n, ws = [s, w, t, n] ∧ s ≠ "" ∧ Cp.isNum w = true ∧ isTth t = true ∧ Cp.isNum n = true := by
  unfold isRow at h
  split at h
  · rename_i s w t n
    simp only [Bool.and_eq_true, decide_eq_true_iff] at h
    exact ⟨s, w, t, n, rfl, h.1.1.1, h.1.1.2, h.1.2, h.2⟩
  · cases h
def sp_read_row (C : Addr) : Sp := fun vs H Q E => ∃ (i : Nat) (x : Str), vs = [.int (i : Int), .str x] ∧ AW x ∧ i ≤ 100000 ∧ (∀ r, rdRow x = some r → ∀ p H', Same H H' → H p = none → H' p = some (.tup (Cs.rowV r)) → Q (.ref p) H') ∧ (rdRow x = none → ∀ H', Same H H' → E (.ref C) none H')
theorem ok_read_row (T : Tx K mg a) : FnOk P w K mg base (CX1 P w) 3 a.f_read_row a.d_read_row ["at", "row"] (sp_read_row a.c_NoText) := by
  have G_is_row := ok_is_row (P := P) (w := w) (base := base) T
  have G_read_teeth := ok_read_teeth (P := P) (w := w) (base := base) T
  refine T.read_row.fn.okX sc_read_row (fun vs H Q E h => ?_) (fun cdv A outer s H vs Q E hr h => ?_)
  · obtain ⟨i, x, rfl, _⟩ := h
    rfl
  obtain ⟨i, x, rfl, hx, hi, q, qx⟩ := h
  have hxl := hx.len
  have haw : ∀ y ∈ Txt.split x (Str.ofString " "), AW y := fun y hy => split_part (d := 32) y hy hx
  have hsl := split_len x (Str.ofString " ")
  unfold rdRow at q qx
  refine ⟨_, (pss_cons (ps_set (i := 2) sc_read_row.nd rfl (Or.inl rfl) (kpe_bm K rfl PySem.F.plainAttrs_str PySem.F.slot_str_split PySem.F.type_str_split mt_split (pv 1) (pa_cons pe_str pa_nil)))
      (pss_cons (ps_if (pt_not (pt_val (pcall T.is_row G_is_row hr rfl (pa_cons (pv 2) pa_nil)))) (pss_one (praise0 T.cl_NoText rfl rfl rfl (pa_cons (pe_k3 pe_str (pe_fmt (pv 0)) pe_str) pa_nil))) pss_nil)
      (pss_cons (ps_asg (pv 2) (kpg_lst K rfl (n := 4) rfl (pgs_cons (pg_name (i := 3) sc_read_row.nd rfl (Or.inl rfl)) (pgs_cons (pg_name (i := 4) sc_read_row.nd rfl (Or.inl rfl)) (pgs_cons (pg_name (i := 5) sc_read_row.nd rfl (Or.inl rfl)) (pgs_cons (pg_name (i := 6) sc_read_row.nd rfl (Or.inl rfl)) pgs_nil))))))
      (pss_one (ps_ret (pe_tup (pa_cons (pv 3) (pa_cons (pe_callTy call_intT rfl T.b_int bt_int (pa_cons (pv 4) pa_nil)) (pa_cons (pcall T.read_teeth G_read_teeth hr rfl (pa_cons (pv 5) pa_nil)) (pa_cons (pe_callTy call_intT rfl T.b_int bt_int (pa_cons (pv 6) pa_nil)) pa_nil)))))))))), ?_⟩
  walk_at "rd"
  intro D hD
  have hs1 := same_new hD (.lst ((Txt.split x (Str.ofString " ")).map V.str))
  have hD1 : upd H D (.lst ((Txt.split x (Str.ofString " ")).map V.str)) D = some (.lst ((Txt.split x (Str.ofString " ")).map V.str)) := upd_same
  generalize upd H D (.lst ((Txt.split x (Str.ofString " ")).map V.str)) = H1 at hs1 hD1 ⊢
  generalize Txt.split x (Str.ofString " ") = ws at q qx haw hsl hD1
  walk_at "rd"
  refine ⟨D, ws, rfl, hD1, by omega, haw, fun H2 hs2 => ?_⟩
  have hs02 := hs1.trans hs2
  cases hrow : isRow ws with
  | false =>
    walk_at "rd"
    try refine iteT ?_
    walk_at "rd"
    intro x2 hx2
    refine ⟨x2, rfl, hx2, ?_⟩
    walk_at "rd"
    exact fun _ => ⟨(by show 1 ≤ 10; decide), qx (by rw [hrow]; rfl) _ hs02⟩
  | true =>
    obtain ⟨s0, w0, t0, n0, rfl, h1, h2, h3, h4⟩ := isRow_four hrow
    have hD2 : SqL K H2 D [.str s0, .str w0, .str t0, .str n0] := SqL.of (hs2 _ _ hD1)
    have q := q _ (by rw [if_pos hrow])
    have b1 := Cp.num_text h2
    have b2 := Cp.num_text h4
    have l1 := Cp.num_len h2
    have l2 := Cp.num_len h4
    have l1' : w0.cps.toList.length = w0.length := Array.length_toList
    have l2' : n0.cps.toList.length = n0.length := Array.length_toList
    walk_at "rd"
    try refine iteF ?_
    refine ⟨D, _, rfl, hD2, rfl, ?_⟩
    walk_at "tg"
    walk_at "tg"
    walk_at "tg"
    walk_at "tg"
    try refine And.intro rfl ?_
    walk_at "rd"
    try refine ⟨w0, _, rfl, b1, by omega, ?_⟩
    walk_at "rd"
    first | intro H3 hs3 | refine ⟨t0, rfl, h3, fun H3 hs3 => ?_⟩ | refine ⟨h3, fun H3 hs3 => ?_⟩
    walk_at "rd"
    try refine ⟨n0, _, rfl, b2, by omega, ?_⟩
    walk_at "rd"
    intro p hp
    exact q p _ (hs02.trans (hs3.trans (same_new hp _))) ((hs02.trans hs3).free hp) upd_same
/-- rows read one by one: all of them, or none -/
def rdRows : List Str → Option (List Cs.Row)
  | [] => some []
  | x :: xs => match rdRow x with
    | none => none
    | some r => (rdRows xs).map (r :: ·)
theorem rdRows_all : ∀ {xs : List Str} {rs : List Cs.Row}, xs.map rdRow = rs.map some → rdRows xs = some rs
  | [], [], _ => rfl
  | [], _ :: _, h => by cases h
  | _ :: _, [], h => by cases h
  | x :: xs, r :: rs, h => by
    have h1 : rdRow x = some r := (List.cons.inj h).1
    have h2 : rdRows xs = some rs := rdRows_all (List.cons.inj h).2
    show (match rdRow x with | none => none | some r => (rdRows xs).map (r :: ·)) = _
    rw [h1, h2]
    rfl
theorem rdRows_no : ∀ {xs : List Str} {i : Nat} {x : Str}, xs[i]? = some x → rdRow x = none → rdRows xs = none
  | [], _, _, h, _ => by simp at h
  | y :: xs, 0, x, h, hn => by
    have h : some y = some x := h
    have h := Option.some.inj h
    show (match rdRow y with | none => none | some r => (rdRows xs).map (r :: ·)) = _
    rw [h, hn]
  | y :: xs, i + 1, x, h, hn => by
    have h2 : rdRows xs = none := rdRows_no (i := i) h hn
    show (match rdRow y with | none => none | some r => (rdRows xs).map (r :: ·)) = _
    rw [h2]
    cases rdRow y <;> rfl
theorem rdRow_sign {x : Str} {r : Cs.Row} (h : rdRow x = some r) (hx : AW x) (hl : x.length ≤ 1000) : Cs.SgOk 1000 r.s := by
  unfold rdRow at h
  by_cases c : isRow (Txt.split x " ") = true
  · rw [if_pos c] at h
    obtain ⟨s0, w0, t0, n0, e, _⟩ := isRow_four c
    rw [e] at h
    cases h
    have hm : s0 ∈ Txt.split x ⟨#[32]⟩ := by
      show s0 ∈ Txt.split x (Str.ofString " ")
      rw [e]
      exact List.mem_cons_self
    have h1 := split_part s0 hm hx
    have h2 := join_part (d := 32) hm
    rw [StrLaws.join_split] at h2
    have e2 : x.cps.toList.length = x.length := Array.length_toList
    exact ⟨by have := h2.2; show s0.cps.toList.length ≤ 1000; omega, h1.2⟩
  · rw [if_neg c] at h
    cases h
/-- a case read: the rows; none where some row is none -/
def sp_read_case (CT CC : Addr) : Sp := fun vs H Q E => ∃ (x : Str), vs = [.str x] ∧ AW x ∧ (Txt.split x (Str.ofString "\n")).length ≤ 1000 ∧ (∀ y ∈ Txt.split x (Str.ofString "\n"), y.length ≤ 1000) ∧
  (∀ rs, rdRows (Txt.split x (Str.ofString "\n")) = some rs → Cs.Looks rs none → ∀ D xs H', H D = none → Same H H' → H' D = some (.lst xs) → Paired (Cs.RowAt H') xs rs → Q (.ref D) H') ∧
  (∀ rs k, rdRows (Txt.split x (Str.ofString "\n")) = some rs → Cs.Looks rs (some k) → ∀ H' dx, Same H H' → H' dx = none → E (.ref CC) (some dx) (upd H' dx (.xd [("at", .int (k : Int))]))) ∧
  (rdRows (Txt.split x (Str.ofString "\n")) = none → ∀ H', Same H H' → E (.ref CT) none H')
theorem ok_read_case (T : Tx K mg a) : FnOk P w K mg base (CX1 P w) 5 a.f_read_case a.d_read_case ["text"] (sp_read_case a.c_NoText a.c_NoCase) := by
  have G_read_row := ok_read_row (P := P) (w := w) (base := base) T
  have G_look_at_case := ok_look_at_case (P := P) (w := w) (base := base) T
  refine T.read_case.fn.okX sc_read_case (fun vs H Q E h => ?_) (fun cdv A outer s H vs Q E hr h => ?_)
  · obtain ⟨x, rfl, _⟩ := h
    rfl
  obtain ⟨x, rfl, hx, hm, hrl, q, qc, qt⟩ := h
  have hxl := hx.len
  have haw : ∀ y ∈ Txt.split x (Str.ofString "\n"), AW y := fun y hy => split_part (d := 10) y hy hx
  refine ⟨_, (pss_cons (ps_setCX (i := 1) rfl rfl sc_read_case.nd rfl (Or.inl rfl) rfl (kpi_enum K rfl rfl T.b_enumerate (pa_cons (kpe_bm K rfl PySem.F.plainAttrs_str PySem.F.slot_str_split PySem.F.type_str_split mt_split (pv 0) (pa_cons pe_str pa_nil)) pa_nil)) (BlkOk.of (N' := ["text", "case", "at", "row"]) (ms := []) (k := 2) (by rfl)) (fun _ _ _ _ _ => (kpg_tup K rfl (n := 2) rfl (pgs_cons (pg_name (i := 2) (show List.Nodup (["text", "case", "at", "row"] : List Str) from by decide +kernel) rfl (Or.inl rfl)) (pgs_cons (pg_name (i := 3) (show List.Nodup (["text", "case", "at", "row"] : List Str) from by decide +kernel) rfl (Or.inl rfl)) pgs_nil)))) (fun _ _ _ _ _ => (pcallX T.read_row G_read_row hr rfl rfl (pa_cons (pv 2) (pa_cons (pv 3) pa_nil)))))
      (pss_cons (ps_expr (pcallX T.look_at_case G_look_at_case hr rfl rfl (pa_cons (pv 1) pa_nil)))
      (pss_one (ps_ret (pv 1))))), ?_⟩
  walk_at "rd"
  intro p1 hp1
  have hs1 := same_new hp1 (.lst ((Txt.split x (Str.ofString "\n")).map V.str))
  have h11 : upd H p1 (.lst ((Txt.split x (Str.ofString "\n")).map V.str)) p1 = some (.lst ((Txt.split x (Str.ofString "\n")).map V.str)) := upd_same
  generalize upd H p1 (.lst ((Txt.split x (Str.ofString "\n")).map V.str)) = H1 at hs1 h11 ⊢
  generalize Txt.split x (Str.ofString "\n") = ls at hm hrl q qc qt haw h11
  refine ⟨p1, rfl, ⟨_, SqL.of h11⟩, fun D hD => ?_⟩
  refine comp_enum (a := p1) (xs := ls.map V.str) (fun j zs σ H6 => ∃ (v2 v3 : Option V) (rs : List Cs.Row), σ = [some (.str x), none, v2, v3] ∧ Same H1 H6 ∧ H6 D = some (.lst zs) ∧ Paired (Cs.RowAt H6) zs rs ∧ (∀ v ∈ zs, v ≠ .ref D) ∧ (ls.take j).map rdRow = rs.map some)
    ?_ ?_ ?_ ?_
  · exact ⟨none, none, [], rfl, same_new hD _, upd_same, .nil, fun v h => (nomatch h), rfl⟩
  · rintro j zs σ H6 hj ⟨_, _, _, _, hs, _⟩
    exact hs.seq (SqL.of h11)
  · rintro j y t zs σ H6 hy hjl ⟨v2, v3, rs, rfl, hs, hh, hz, hzD, hrd⟩ ht
    rw [List.getElem?_map] at hy
    obtain ⟨y, hyj, rfl⟩ := Option.map_eq_some_iff.mp hy
    have hym := List.mem_of_getElem? hyj
    have hjl2 : j < ls.length := (List.getElem?_eq_some_iff.mp hyj).1
    have hs7 := same_new ht (.tup [.int (j : Int), .str y])
    have h7t : upd H6 t (.tup [.int (j : Int), .str y]) t = some (.tup [.int (j : Int), .str y]) := upd_same
    generalize upd H6 t (.tup [.int (j : Int), .str y]) = H7 at hs7 h7t ⊢
    have hzl := Cs.rows_len hz
    have hrl2 : rs.length = j := by
      have := congrArg List.length hrd
      rw [List.length_map, List.length_map, List.length_take] at this
      omega
    walk_at "rd"
    walk_at "tg"
    walk_at "tg"
    try refine And.intro rfl ?_
    walk_at "rd"
    refine ⟨j, y, rfl, haw y hym, by omega, fun r hr pr H8 hs8 hpr hpr8 => ?_, fun hno H8 hs8 => ?_⟩
    · have hs68 := hs7.trans hs8
      have hh8 := hs68 _ _ hh
      have hprD : pr ≠ D := fun e => by rw [e, hs7 _ _ hh] at hpr; cases hpr
      refine cnext hjl hh8 (by omega) ⟨_, _, rs ++ [r], rfl, same_upd (hs.trans hs68) hD, upd_same, ?_, fun v hv => ?_, ?_⟩
      · exact Paired.snoc (Cs.rows_upd (Cs.rows_same hz hs68) hh8 (fun z e => by cases e)) ⟨pr, rfl, by rw [upd_ne hprD]; exact hpr8⟩
      · rcases List.mem_append.mp hv with h | h
        · exact hzD v h
        · rw [List.mem_singleton.mp h]
          exact fun e => hprD (by injection e)
      · rw [List.take_add_one, hyj, List.map_append, List.map_append, hrd]
        show _ ++ [rdRow y] = _ ++ [some r]
        rw [hr]
    · exact qt (rdRows_no hyj hno) _ ((hs1.trans hs).trans (hs7.trans hs8))
  · rintro zs σ H6 ⟨v2, v3, rs, rfl, hs, hh, hz, hzD, hrd⟩
    rw [List.length_map, List.take_of_length_le (Nat.le_refl _)] at hrd
    have hall := rdRows_all hrd
    have hrl2 : rs.length = ls.length := by
      have := congrArg List.length hrd
      rw [List.length_map, List.length_map] at this
      omega
    have hsg : ∀ r ∈ rs, Cs.SgOk 1000 r.s := fun r hr => by
      have : some r ∈ ls.map rdRow := by rw [hrd]; exact List.mem_map.mpr ⟨r, hr, rfl⟩
      obtain ⟨y, hy, e⟩ := List.mem_map.mp this
      exact rdRow_sign e (haw y hy) (hrl y hy)
    walk_at "rd"
    refine ⟨D, zs, rs, rfl, hh, hz, by omega, hsg, fun H7 dx k hs7 hdx hlk => ?_, fun H7 hs7 hlk => ?_⟩
    · exact qc rs k hall hlk H7 dx ((hs1.trans hs).trans hs7) hdx
    · walk_at "rd"
      exact q rs hall hlk D zs H7 (hs1.free hD) ((hs1.trans hs).trans hs7) (hs7 _ _ hh) (Cs.rows_same hz hs7)
theorem at_some {α : Type} (l : List α) {z : Int} (h0 : 0 ≤ z) (h1 : z < l.length) : ∃ a, a ∈ l ∧ atI l z = some a := by
  obtain ⟨n, rfl⟩ := Int.eq_ofNat_of_zero_le h0
  have hn : n < l.length := by omega
  exact ⟨l[n], List.getElem_mem hn, atI_nat (List.getElem?_eq_getElem hn)⟩
def some96 : Str := Str.ofString " !\"#$&'()*+,-./0123456789:;<=>?@ABCDEFGHIJKLMNOPQRSTUVWXYZ[\\]^_`" ++ Str.ofString "abcdefghijklmnopqrstuvwxyz{|}~\n\t"
theorem some96_ok : (decide (96 ≤ some96.cps.toList.length) && some96.cps.toList.all fun c => decide (c < 128)) = true := by decide +kernel
def menu30 : Str := Str.ofString "0123456789 \nabz"
theorem menu30_ok : (decide (menu30.length = 15) && decide (menu30.cps.toList.length = 15) && menu30.cps.toList.all fun c => decide (c < 128)) = true := by decide +kernel
def sp_law_sign : Sp := fun vs H Q _ => ∃ (n : Int), vs = [.int n, .str menu30] ∧ ∀ c, c < 128 → Q (.str (sg c)) H
theorem ok_law_sign (T : Tx K mg a) : FnOk P w K mg base CX0 1 a.f_law_sign a.d_law_sign ["_law_cell", "_law_menu"] sp_law_sign := by
  refine T.law_sign.fn.ok sc_law_sign (fun vs H Q E h => ?_) (fun cdv A outer s H vs Q E hr h => ?_)
  · obtain ⟨n, rfl, _⟩ := h
    rfl
  obtain ⟨n, rfl, q⟩ := h
  have h96 := some96_ok
  rw [Bool.and_eq_true, decide_eq_true_iff, List.all_eq_true] at h96
  have hm := menu30_ok
  rw [Bool.and_eq_true, Bool.and_eq_true, decide_eq_true_iff, decide_eq_true_iff, List.all_eq_true] at hm
  obtain ⟨⟨hm1, hm2⟩, hm3⟩ := hm
  generalize menu30 = mn at hm1 hm2 hm3 ⊢
  refine ⟨_, (pss_cons (ps_set (i := 2) sc_law_sign.nd rfl (Or.inl rfl) pe_str)
      (pss_cons (ps_set (i := 2) sc_law_sign.nd rfl (Or.inl rfl) (pe_op op_add_str (pv 2) pe_str))
      (pss_cons (ps_if (pt_cmpR op_eq (pe_op op_mod (pv 0) pe_int) pe_int (nomark _)) (pss_one (ps_ret (pe_ix ix_str (pv 1) (pe_op op_mod (pe_op op_fdiv (pv 0) pe_int) (pe_callB call_len_str rfl T.b_len bt_len (pa_cons (pv 1) pa_nil))) (fun _ _ => rfl)))) pss_nil)
      (pss_one (ps_ret (pe_ix ix_str (pv 2) (pe_op op_mod (pe_op op_fdiv (pv 0) pe_int) pe_int) (fun _ _ => rfl))))))), ?_⟩
  walk_at "rd"
  rw [decV]
  refine ite2 (fun _ => ?_) (fun _ => ?_)
  · have hz0 := Int.emod_nonneg (n / 2) (show (15 : Int) ≠ 0 by decide)
    have hz1 := Int.emod_lt_of_pos (n / 2) (show (0 : Int) < 15 by decide)
    obtain ⟨c, hc, ec⟩ := at_some mn.cps.toList hz0 (by rw [hm2]; exact hz1)
    walk_at "rd"
    try refine ⟨smallL (by omega), ?_⟩
    rw [hm1]
    walk_at "rd"
    refine ⟨_, _, _, rfl, rfl, smallL (by omega), ec, ?_⟩
    exact q c (of_decide_eq_true (hm3 c hc))
  · have hz0 := Int.emod_nonneg (n / 2) (show (96 : Int) ≠ 0 by decide)
    have hz1 := Int.emod_lt_of_pos (n / 2) (show (0 : Int) < 96 by decide)
    obtain ⟨c, hc, ec⟩ := at_some some96.cps.toList hz0 (by omega)
    walk_at "rd"
    refine ⟨_, _, _, rfl, rfl, smallL (by decide +kernel), ec, ?_⟩
    exact q c (of_decide_eq_true (h96.2 c hc))
theorem len_eq (x : Str) : x.length = x.cps.toList.length := Array.length_toList.symm
/-- a text with a sign put in, exchanged or taken out -/
structure Near (x z : Str) : Prop where
  len : z.cps.toList.length ≤ x.cps.toList.length + 1
  as : ∀ c ∈ z.cps.toList, c < 128
  bl : z.cps.toList.count 32 ≤ x.cps.toList.count 32 + 1
theorem near_of {x z : Str} {n e c : Nat} {ys : List Nat} (ha : ∀ c ∈ x.cps.toList, c < 128) (hc : c < 128) (he : n ≤ e) (hy : ys = [c] ∨ ys = []) (h : z.cps.toList = x.cps.toList.take n ++ ys ++ x.cps.toList.drop e) : Near x z := by
  have hl : ys.length ≤ 1 := by rcases hy with y | y <;> rw [y] <;> simp
  have hq : ys.count 32 ≤ 1 := Nat.le_trans List.count_le_length hl
  refine ⟨?_, fun d hd => ?_, ?_⟩
  · rw [h, List.length_append, List.length_append, List.length_take, List.length_drop]
    omega
  · rw [h] at hd
    rcases List.mem_append.mp hd with y | y
    · rcases List.mem_append.mp y with y | y
      · exact ha d (List.mem_of_mem_take y)
      · rcases hy with z | z
        · rw [z] at y; rw [List.mem_singleton.mp y]; exact hc
        · rw [z] at y; cases y
    · exact ha d (List.mem_of_mem_drop y)
  · rw [h, List.count_append, List.count_append]
    have h1 : (x.cps.toList.take n).count 32 + (x.cps.toList.drop e).count 32 ≤ x.cps.toList.count 32 := by
      have h2 : (x.cps.toList.drop e).count 32 ≤ (x.cps.toList.drop n).count 32 := by
        have : x.cps.toList.drop e = (x.cps.toList.drop n).drop (e - n) := by rw [List.drop_drop]; congr 1; omega
        rw [this]
        exact (List.drop_sublist _ _).count_le _
      have h3 : x.cps.toList.count 32 = (x.cps.toList.take n).count 32 + (x.cps.toList.drop n).count 32 := by rw [← List.count_append, List.take_append_drop]
      omega
    omega
def sp_law_spoiled : Sp := fun vs H Q _ => ∃ (x : Str) (n : Int) (c : Nat), vs = [.str x, .int n, .str (sg c)] ∧ (∀ c ∈ x.cps.toList, c < 128) ∧ x.length ≤ 20000 ∧ c < 128 ∧ ∀ z, Near x z → Q (.str z) H
theorem ok_law_spoiled (T : Tx K mg a) : FnOk P w K mg base CX0 1 a.f_law_spoiled a.d_law_spoiled ["_law_text", "_law_number_here", "_law_sign_here"] sp_law_spoiled := by
  refine T.law_spoiled.fn.ok sc_law_spoiled (fun vs H Q E h => ?_) (fun cdv A outer s H vs Q E hr h => ?_)
  · obtain ⟨x, n, c, rfl, _⟩ := h
    rfl
  obtain ⟨x, n, c, rfl, ha, hx, hc, q⟩ := h
  have hl : x.cps.toList.length = x.length := Array.length_toList
  have hxs : x.length ≤ sizeLine := smallL (by omega)
  refine ⟨_, (pss_cons (ps_set (i := 3) sc_law_spoiled.nd rfl (Or.inl rfl) (pe_op op_mod (pe_op op_fdiv (pv 1) pe_int) (pe_op op_add (pe_callB call_len_str rfl T.b_len bt_len (pa_cons (pv 0) pa_nil)) pe_int)))
      (pss_cons (ps_if (pt_cmpR op_eq (pe_op op_mod (pv 1) pe_int) pe_int (nomark _)) (pss_one (ps_ret (pe_op op_add_str (pe_op op_add_str (pe_slice sl_str (pv 0) po_none (po_some (pv 3))) (pv 2)) (pe_slice sl_str (pv 0) (po_some (pv 3)) po_none)))) pss_nil)
      (pss_cons (ps_if (pt_cmpR op_eq (pe_op op_mod (pv 1) pe_int) pe_int (nomark _)) (pss_one (ps_ret (pe_op op_add_str (pe_op op_add_str (pe_slice sl_str (pv 0) po_none (po_some (pv 3))) (pv 2)) (pe_slice sl_str (pv 0) (po_some (pe_op op_add (pv 3) pe_int)) po_none)))) pss_nil)
      (pss_one (ps_ret (pe_op op_add_str (pe_slice sl_str (pv 0) po_none (po_some (pv 3))) (pe_slice sl_str (pv 0) (po_some (pe_op op_add (pv 3) pe_int)) po_none))))))), ?_⟩
  walk_at "rd"
  try refine ⟨hxs, ?_⟩
  walk_at "rd"
  have hz0 := Int.emod_nonneg (n / 3) (show (x.length : Int) + 1 ≠ 0 by omega)
  try refine And.intro (by omega) ?_
  obtain ⟨p, hp⟩ := Int.eq_ofNat_of_zero_le hz0
  have e1 := Unl.slice_to x p hp
  have e2 := Unl.slice_from x p hp
  have e3 := Unl.slice_from x (z := n / 3 % ((x.length : Int) + 1) + 1) (p + 1) (by omega)
  have n1 : Near x (Txt.slice x none (some (n / 3 % ((x.length : Int) + 1))) ++ sg c ++ Txt.slice x (some (n / 3 % ((x.length : Int) + 1))) none) := near_of (n := p) (e := p) (ys := [c]) ha hc (Nat.le_refl _) (.inl rfl) (by rw [Lns.app_list, Lns.app_list, e1, e2]; rfl)
  have n2 : Near x (Txt.slice x none (some (n / 3 % ((x.length : Int) + 1))) ++ sg c ++ Txt.slice x (some (n / 3 % ((x.length : Int) + 1) + 1)) none) := near_of (n := p) (e := p + 1) (ys := [c]) ha hc (Nat.le_succ _) (.inl rfl) (by rw [Lns.app_list, Lns.app_list, e1, e3]; rfl)
  have n3 : Near x (Txt.slice x none (some (n / 3 % ((x.length : Int) + 1))) ++ Txt.slice x (some (n / 3 % ((x.length : Int) + 1) + 1)) none) := near_of (n := p) (e := p + 1) (c := 0) (ys := []) ha (by decide) (Nat.le_succ _) (.inr rfl) (by rw [Lns.app_list, e1, e3, List.append_nil])
  have l1 : (Txt.slice x none (some (n / 3 % ((x.length : Int) + 1)))).length ≤ 20000 := by rw [len_eq, e1]; have := List.length_take_le' p x.cps.toList; omega
  have l2 : (Txt.slice x (some (n / 3 % ((x.length : Int) + 1))) none).length ≤ 20000 := by rw [len_eq, e2, List.length_drop]; omega
  have l3 : (Txt.slice x (some (n / 3 % ((x.length : Int) + 1) + 1)) none).length ≤ 20000 := by rw [len_eq, e3, List.length_drop]; omega
  have l5 : (sg c).length = 1 := rfl
  have l4 : (Txt.slice x none (some (n / 3 % ((x.length : Int) + 1))) ++ sg c).length ≤ 20001 := by
    rw [len_eq, Lns.app_list, List.length_append, e1]
    have := List.length_take_le' p x.cps.toList
    show _ + 1 ≤ _
    omega
  clear e1 e2 e3 hp
  refine ite2 (fun _ => ?_) (fun _ => ?_)
  · walk_at "rd"
    refine ⟨smallL (by omega), ?_⟩
    walk_at "rd"
    refine ⟨smallL (by omega), ?_⟩
    exact q _ n1
  · walk_at "rd"
    refine ite2 (fun _ => ?_) (fun _ => ?_)
    · walk_at "rd"
      refine ⟨smallL (by omega), ?_⟩
      walk_at "rd"
      refine ⟨smallL (by omega), ?_⟩
      exact q _ n2
    · walk_at "rd"
      refine ⟨smallL (by omega), ?_⟩
      exact q _ n3
def sp_law_number : Sp := fun vs H Q _ => ∃ (x : Str), vs = [.str x] ∧ AW x ∧ ∀ H', Same H H' → Q (if Cp.isNum x = true then .int (Cp.numV x) else .non) H'
theorem fig_in' : ∀ c, c < 128 → (!(!(Builtin.Str.occurrences (Str.ofString "0123456789") (sg c) 0 (Str.ofString "0123456789").length 1).isEmpty)) = !Cp.isFig c := fun c h => by rw [fig_in c h]
theorem ok_law_number (T : Tx K mg a) : FnOk P w K mg base CX0 1 a.f_law_number a.d_law_number ["_law_word"] sp_law_number := by
  refine T.law_number.fn.ok sc_law_number (fun vs H Q E h => ?_) (fun cdv A outer s H vs Q E hr h => ?_)
  · obtain ⟨x, rfl, _⟩ := h
    rfl
  obtain ⟨x, rfl, hx, q⟩ := h
  have hl : x.cps.toList.length = x.length := Array.length_toList
  have hsz : x.length ≤ sizeLine := smallL (by have := hx.len; omega)
  refine ⟨_, (pss_cons (ps_if (PW.pt (pw_or (pt_cmpR op_lt (pe_callB call_len_str rfl T.b_len bt_len (pa_cons (pv 0) pa_nil)) pe_int (nomark _)) (pw_or (pt_cmpR op_gt (pe_callB call_len_str rfl T.b_len bt_len (pa_cons (pv 0) pa_nil)) pe_int (nomark _)) (pw_or1 (pt_cmpR (kneD K rfl hr.units) (pe_compG rfl (pi_str (pv 0)) (BlkOk.of (N' := ["_law_word", "_law_sign_here"]) (ms := []) (k := 1) (by rfl)) (fun _ _ _ _ _ => (pg_name (i := 1) (show List.Nodup (["_law_word", "_law_sign_here"] : List Str) from by decide +kernel) rfl (Or.inl rfl))) (fun _ _ _ _ _ => (pts_one (pt_cmpR op_notIn_str (pv 1) pe_str (by with_unfolding_all rfl)))) (fun _ _ _ _ _ => (pv 1))) (pe_lst pa_nil) (nomark _)))))) (pss_one (ps_ret pe_non)) pss_nil)
      (pss_cons (ps_if (PW.pt (pw_and (pt_cmpR op_eq (pe_ix ix_str (pv 0) pe_int (fun _ _ => rfl)) pe_str (nomark _)) (pw_and1 (pt_cmpR op_gt (pe_callB call_len_str rfl T.b_len bt_len (pa_cons (pv 0) pa_nil)) pe_int (nomark _))))) (pss_one (ps_ret pe_non)) pss_nil)
      (pss_one (ps_ret (pe_callTy call_intT rfl T.b_int bt_int (pa_cons (pv 0) pa_nil)))))), ?_⟩
  walk_at "rd"
  try refine ⟨hsz, ?_⟩
  walk_at "rd"
  have no : Cp.isNum x = false → ∀ H', Same H H' → Q .non H' := fun e H' hs => by
    have := q H' hs
    rw [e] at this
    exact this
  by_cases c1 : x.length < 1
  · rw [decide_eq_true (show (x.length : Int) < 1 by omega)]
    try refine iteT ?_
    walk_at "rd"
    refine no ?_ _ (Same.refl _)
    unfold Cp.isNum
    rw [decide_eq_false (show ¬ 1 ≤ x.cps.toList.length by omega), Bool.false_and, Bool.and_false, Bool.false_and]
  rw [decide_eq_false (show ¬ (x.length : Int) < 1 by omega)]
  try refine iteF ?_
  walk_at "rd"
  try refine ⟨hsz, ?_⟩
  walk_at "rd"
  by_cases c2 : 4 < x.length
  · rw [decide_eq_true (show (4 : Int) < (x.length : Int) by omega)]
    try refine iteT ?_
    walk_at "rd"
    refine no ?_ _ (Same.refl _)
    unfold Cp.isNum
    rw [decide_eq_false (show ¬ x.cps.toList.length ≤ 4 by omega), Bool.and_false, Bool.and_false, Bool.false_and]
  rw [decide_eq_false (show ¬ (4 : Int) < (x.length : Int) by omega)]
  try refine iteF ?_
  walk_at "rd"
  intro D hD
  refine comp_str (x := x) (fun j zs σ H6 => ∃ (v1 : Option V), σ = [some (.str x), v1] ∧ Same H H6 ∧ H6 D = some (.lst zs) ∧ zs = (((x.cps.toList.take j).filter fun c => !Cp.isFig c).map sg).map V.str)
    ?_ ?_ ?_
  · exact ⟨none, rfl, same_new hD _, upd_same, rfl⟩
  · rintro j c zs σ H6 hc hjl ⟨v1, rfl, hs, hh, rfl⟩
    have hc' : x.cps.toList[j]? = some c := by rw [Array.getElem?_toList]; exact hc
    have hfl : ((x.cps.toList.take j).filter fun c => !Cp.isFig c).length ≤ 4 := by
      have h1 := List.length_filter_le (fun c => !Cp.isFig c) (x.cps.toList.take j)
      rw [List.length_take] at h1
      omega
    walk_at "rd"
    rw [fig_in' c (hx.2 c (List.mem_of_getElem? hc'))]
    refine ite2 (fun z => ?_) (fun z => ?_)
    · walk_at "rd"
      refine cnext hjl hh (by rw [List.length_map, List.length_map]; omega) ⟨_, rfl, same_upd hs hD, upd_same, ?_⟩
      rw [List.take_add_one, hc', List.filter_append, List.map_append, List.map_append]
      congr 1
      show _ = ((([c].filter fun c => !Cp.isFig c).map sg).map V.str)
      rw [List.filter_cons, if_pos z]
      rfl
    · refine cskip hjl ⟨_, rfl, hs, hh, ?_⟩
      rw [List.take_add_one, hc', List.filter_append, List.map_append, List.map_append]
      show _ = _ ++ ((([c].filter fun c => !Cp.isFig c).map sg).map V.str)
      rw [List.filter_cons, if_neg z]
      exact (List.append_nil _).symm
  · rintro zs σ H6 ⟨v1, rfl, hs, hh, rfl⟩
    rw [List.take_of_length_le (by rw [Array.length_toList]; exact Nat.le_refl _)] at hh
    walk_at "rd"
    intro p2 hp2
    have s7 := same_new hp2 (.lst [])
    have h7 : upd H6 p2 (.lst []) p2 = some (.lst []) := upd_same
    have hh7 := s7 _ _ hh
    have s07 := hs.trans s7
    generalize upd H6 p2 (.lst []) = H7 at s7 h7 hh7 s07 ⊢
    have hlay : ∀ y ∈ (x.cps.toList.filter fun c => !Cp.isFig c).map sg, PyData.canLay0 (.str y) = true := fun y hy => by
      obtain ⟨c, hc, rfl⟩ := List.mem_map.mp hy
      have := hx.2 c (List.mem_filter.mp hc).1
      show ((sg c).cps.all fun c => decide (c < 0x110000)) = true
      rw [← Array.all_toList, List.all_eq_true]
      intro d hd
      have hd : d ∈ [c] := hd
      rw [List.mem_singleton.mp hd]
      exact decide_eq_true (by omega)
    refine ⟨.list (((x.cps.toList.filter fun c => !Cp.isFig c).map sg).map .str), dInts [], .lst (SqL.of hh7) (Ln.denL_texts hlay), den_ints (SqL.of h7), Jb.depth_nil _, ?_⟩
    have en : PyData.eqv (.list (((x.cps.toList.filter fun c => !Cp.isFig c).map sg).map .str)) (dInts []) = x.cps.toList.all Cp.isFig := by
      cases e : x.cps.toList.filter fun c => !Cp.isFig c with
      | nil =>
        rw [List.filter_eq_nil_iff] at e
        have : x.cps.toList.all Cp.isFig = true := List.all_eq_true.mpr fun c hc => by
          have := e c hc
          cases z : Cp.isFig c with
          | true => rfl
          | false => rw [z] at this; exact absurd rfl this
        rw [this]
        rfl
      | cons c r =>
        have hc : c ∈ x.cps.toList.filter fun c => !Cp.isFig c := by rw [e]; exact List.mem_cons_self
        obtain ⟨hc1, hc2⟩ := List.mem_filter.mp hc
        have : x.cps.toList.all Cp.isFig = false := by
          cases z : x.cps.toList.all Cp.isFig with
          | false => rfl
          | true =>
            rw [List.all_eq_true.mp z c hc1] at hc2
            cases hc2
        rw [this]
        rfl
    rw [en]
    have ei : Cp.isNum x = (!(decide (1 < x.cps.toList.length) && decide (x.cps.toList[0]? = some 48)) && x.cps.toList.all Cp.isFig) := by
      unfold Cp.isNum
      rw [decide_eq_true (show 1 ≤ x.cps.toList.length by omega), decide_eq_true (show x.cps.toList.length ≤ 4 by omega)]
      simp only [Bool.and_true]
    cases c3 : x.cps.toList.all Cp.isFig with
    | false =>
      walk_at "rd"
      try refine iteT ?_
      walk_at "rd"
      exact no (by rw [ei, c3, Bool.and_false]) _ s07
    | true =>
    rw [c3, Bool.and_true] at ei
    walk_at "rd"
    try refine iteF ?_
    walk_at "rd"
    have e0 : atI x.cps.toList 0 = some (x.cps.toList[0]'(by omega)) := atI_nat (j := 0) (List.getElem?_eq_getElem (by omega))
    have e1 : x.cps.toList[0]? = some (x.cps.toList[0]'(by omega)) := List.getElem?_eq_getElem (by omega)
    generalize x.cps.toList[0]'(by omega) = c at e0 e1
    try refine ⟨_, rfl, ?_⟩
    refine ⟨_, _, _, rfl, rfl, hsz, e0, ?_⟩
    walk_at "rd"
    rw [show decide (V.str ({ cps := #[c] } : Str) = V.str (Str.ofString "0")) = decide (c = 48) from sgV (d := 48)]
    have yes : Cp.isNum x = true → Q (.int (Cp.numV x)) H7 := fun e => by
      have := q _ s07
      rw [e] at this
      exact this
    have fin : Cp.isNum x = true → ∃ y n, [V.str x] = [V.str y] ∧ PySem.intText? y = some n ∧ y.length ≤ 640 ∧ Q (.int n) H7 := fun e => ⟨x, _, rfl, Cp.num_text e, by omega, yes e⟩
    by_cases c4 : c = 48
    · rw [decide_eq_true c4]
      rw [c4] at e1
      rw [decide_eq_true e1, Bool.and_true] at ei
      try refine iteT ?_
      walk_at "rd"
      try refine ⟨hsz, ?_⟩
      walk_at "rd"
      by_cases c5 : 1 < x.length
      · rw [decide_eq_true (show (1 : Int) < (x.length : Int) by omega)]
        try refine iteT ?_
        walk_at "rd"
        exact no (by rw [ei, decide_eq_true (show 1 < x.cps.toList.length by omega)]; rfl) _ s07
      · rw [decide_eq_false (show ¬ (1 : Int) < (x.length : Int) by omega)]
        try refine iteF ?_
        walk_at "rd"
        exact fin (by rw [ei, decide_eq_false (show ¬ 1 < x.cps.toList.length by omega)]; rfl)
    · rw [decide_eq_false c4]
      rw [e1, decide_eq_false (fun z => c4 (Option.some.inj z)), Bool.and_false] at ei
      try refine iteF ?_
      walk_at "rd"
      try refine iteF ?_
      walk_at "rd"
      exact fin (by rw [ei]; rfl)
/-- the number of the first j of seven figures -/
def tS (cs : List Nat) : Nat → Nat
  | 0 => 0
  | j + 1 => tS cs j + (cs.getD j 48 - 48) * 2 ^ (6 - j)
theorem tS_all {cs : List Nat} (h : cs.length = 7) : tS cs 7 = tthN cs := by
  match cs, h with
  | [a, b, c, d, e, f, g], _ =>
    show (0 + (a - 48) * 64 + (b - 48) * 32 + (c - 48) * 16 + (d - 48) * 8 + (e - 48) * 4 + (f - 48) * 2 + (g - 48) * 1) = ((((((0 * 2 + (a - 48)) * 2 + (b - 48)) * 2 + (c - 48)) * 2 + (d - 48)) * 2 + (e - 48)) * 2 + (f - 48)) * 2 + (g - 48)
    omega
theorem two_pow : ∀ j : Fin 7, atI [V.int 64, V.int 32, V.int 16, V.int 8, V.int 4, V.int 2, V.int 1] (j.val : Int) = some (.int ((2 ^ (6 - j.val) : Nat) : Int)) := by decide +kernel
theorem two_small : ∀ j : Fin 7, (2 ^ (6 - j.val) : Nat) ≤ 64 := by decide +kernel
/-- what is told of a row -/
def ChanV (H H' : Hp) (v : V) : Option Cs.Row → Prop
  | none => v = .non
  | some r => ∃ p, v = .ref p ∧ H p = none ∧ H' p = some (.tup (Cs.rowV r))
def sp_law_channel : Sp := fun vs H Q _ => ∃ (x : Str), vs = [.str x] ∧ AW x ∧ ∀ v H', Same H H' → ChanV H H' v (rdRow x) → Q v H'
theorem ok_law_channel (T : Tx K mg a) : FnOk P w K mg base CX0 2 a.f_law_channel a.d_law_channel ["_law_row_here"] sp_law_channel := by
  have G_law_number := ok_law_number (P := P) (w := w) (base := base) T
  refine T.law_channel.fn.ok sc_law_channel (fun vs H Q E h => ?_) (fun cdv A outer s H vs Q E hr h => ?_)
  · obtain ⟨x, rfl, _⟩ := h
    rfl
  obtain ⟨x, rfl, hx, q⟩ := h
  have ev : ∀ x y : Str, decide (V.str x = V.str y) = decide (x = y) := fun x y => Cs.strV
  have hxl := hx.len
  have haw : ∀ y ∈ Txt.split x (Str.ofString " "), AW y := fun y hy => split_part (d := 32) y hy hx
  have hsl := split_len x (Str.ofString " ")
  unfold rdRow at q
  refine ⟨_, (pss_cons (ps_set (i := 1) sc_law_channel.nd rfl (Or.inl rfl) (kpe_bm K rfl PySem.F.plainAttrs_str PySem.F.slot_str_split PySem.F.type_str_split mt_split (pv 0) (pa_cons pe_str pa_nil)))
      (pss_cons (ps_if (PW.pt (pw_or (pt_cmpR op_ne (pe_callB (klen_seq K rfl) rfl T.b_len bt_len (pa_cons (pv 1) pa_nil)) pe_int (nomark _)) (pw_or (pt_cmpR op_eq (pe_ix (kix_list K rfl) (pv 1) pe_int (fun _ _ => rfl)) pe_str (nomark _)) (pw_or1 (pt_cmpR op_ne (pe_callB call_len_str rfl T.b_len bt_len (pa_cons (pe_ix (kix_list K rfl) (pv 1) pe_int (fun _ _ => rfl)) pa_nil)) pe_int (nomark _)))))) (pss_one (ps_ret pe_non)) pss_nil)
      (pss_cons (ps_set (i := 2) sc_law_channel.nd rfl (Or.inl rfl) pe_int)
      (pss_cons (ps_for PassesOwn.never rfl (pi_range1 rfl T.b_range (pa_cons pe_int pa_nil)) (pg_name (i := 3) sc_law_channel.nd rfl (Or.inl rfl)) (pss_cons (ps_if (pt_cmpR op_notIn_str (pe_ix ix_str (pe_ix (kix_list K rfl) (pv 1) pe_int (fun _ _ => rfl)) (pv 3) (fun _ _ => rfl)) pe_str (by with_unfolding_all rfl)) (pss_one (ps_ret pe_non)) pss_nil)
      (pss_one (ps_set (i := 2) sc_law_channel.nd rfl (Or.inl rfl) (pe_op op_add (pv 2) (pe_op op_mul (pe_callTy call_intT rfl T.b_int bt_int (pa_cons (pe_ix ix_str (pe_ix (kix_list K rfl) (pv 1) pe_int (fun _ _ => rfl)) (pv 3) (fun _ _ => rfl)) pa_nil)) (pe_ix (kix_list K rfl) (pe_lst (pa_cons pe_int (pa_cons pe_int (pa_cons pe_int (pa_cons pe_int (pa_cons pe_int (pa_cons pe_int (pa_cons pe_int pa_nil)))))))) (pv 3) (fun _ _ => rfl))))))))
      (pss_cons (ps_if (PW.pt (pw_or (pt_cmp (pc_isN (pcall T.law_number G_law_number hr rfl (pa_cons (pe_ix (kix_list K rfl) (pv 1) pe_int (fun _ _ => rfl)) pa_nil)))) (pw_or1 (pt_cmp (pc_isN (pcall T.law_number G_law_number hr rfl (pa_cons (pe_ix (kix_list K rfl) (pv 1) pe_int (fun _ _ => rfl)) pa_nil))))))) (pss_one (ps_ret pe_non)) pss_nil)
      (pss_one (ps_ret (pe_tup (pa_cons (pe_ix (kix_list K rfl) (pv 1) pe_int (fun _ _ => rfl)) (pa_cons (pcall T.law_number G_law_number hr rfl (pa_cons (pe_ix (kix_list K rfl) (pv 1) pe_int (fun _ _ => rfl)) pa_nil)) (pa_cons (pv 2) (pa_cons (pcall T.law_number G_law_number hr rfl (pa_cons (pe_ix (kix_list K rfl) (pv 1) pe_int (fun _ _ => rfl)) pa_nil)) pa_nil)))))))))))), ?_⟩
  walk_at "rd"
  intro D hD
  have hs1 := same_new hD (.lst ((Txt.split x (Str.ofString " ")).map V.str))
  have hD1 : upd H D (.lst ((Txt.split x (Str.ofString " ")).map V.str)) D = some (.lst ((Txt.split x (Str.ofString " ")).map V.str)) := upd_same
  generalize upd H D (.lst ((Txt.split x (Str.ofString " ")).map V.str)) = H1 at hs1 hD1 ⊢
  generalize Txt.split x (Str.ofString " ") = ws at q haw hsl hD1
  have no : isRow ws = false → ∀ H', Same H H' → Q .non H' := fun e H' hs => q .non H' hs (by rw [if_neg (by rw [e]; exact Bool.false_ne_true)]; rfl)
  walk_at "rd"
  refine ⟨D, _, rfl, .inl (SqL.of hD1), ?_⟩
  rw [List.length_map]
  walk_at "rd"
  by_cases c1 : ws.length = 4
  · obtain ⟨s0, w0, t0, n0, rfl⟩ : ∃ a b c d, ws = [a, b, c, d] := by
      match ws, c1 with
      | [a, b, c, d], _ => exact ⟨a, b, c, d, rfl⟩
    have a0 := haw s0 (by simp)
    have a1 := haw w0 (by simp)
    have a2 := haw t0 (by simp)
    have a3 := haw n0 (by simp)
    have hD1 : H1 D = some (.lst [.str s0, .str w0, .str t0, .str n0]) := hD1
    have l2 : t0.cps.toList.length = t0.length := Array.length_toList
    have hsz : t0.length ≤ sizeLine := smallL (by have := a2.len; omega)
    have er : isRow [s0, w0, t0, n0] = (decide (s0 ≠ "") && Cp.isNum w0 && isTth t0 && Cp.isNum n0) := rfl
    rw [decide_eq_true (congrArg V.int (by rfl))]
    try refine iteF ?_
    walk_at "rd"
    refine ⟨D, _, _, _, rfl, rfl, SqL.of hD1, atI_nat (j := 0) rfl, ?_⟩
    walk_at "rd"
    rw [ev]
    by_cases c2 : s0 = ""
    · rw [decide_eq_true c2]
      try refine iteT ?_
      walk_at "rd"
      exact no (by rw [er, decide_eq_false (fun z => z c2), Bool.false_and, Bool.false_and, Bool.false_and]) _ hs1
    rw [decide_eq_false c2]
    try refine iteF ?_
    walk_at "rd"
    refine ⟨D, _, _, _, rfl, rfl, SqL.of hD1, atI_nat (j := 2) rfl, ?_⟩
    try refine ⟨_, rfl, hsz, ?_⟩
    walk_at "rd"
    by_cases c3 : t0.length = 7
    · rw [decide_eq_true (congrArg V.int (show (t0.length : Int) = 7 by omega))]
      try refine iteF ?_
      walk_at "rd"
      refine for_range (n := 7) (fun j σ H2 => ∃ (v3 : Option V), σ = [some (.str x), some (.ref D), some (.int (tS t0.cps.toList j : Nat)), v3] ∧ Same H1 H2 ∧ ∀ i c, i < j → t0.cps.toList[i]? = some c → isBit c = true)
        ⟨none, rfl, Same.refl _, fun i c hi => absurd hi (Nat.not_lt_zero _)⟩ ?_ ?_
      · rintro j σ H2 hj ⟨v3, rfl, hs2, hb⟩
        have hs02 := hs1.trans hs2
        have hD2 := hs2 _ _ hD1
        have hjl : j < t0.cps.toList.length := by omega
        have ec : t0.cps.toList[j]? = some (t0.cps.toList[j]) := List.getElem?_eq_getElem hjl
        generalize t0.cps.toList[j] = c at ec
        have ea : atI t0.cps.toList (0 + (j : Int)) = some c := by rw [Int.zero_add]; exact atI_nat ec
        have hc128 := a2.2 c (List.mem_of_getElem? ec)
        walk_at "rd"
        refine ⟨D, _, _, _, rfl, rfl, SqL.of hD2, atI_nat (j := 2) rfl, ?_⟩
        walk_at "rd"
        refine ⟨_, _, _, rfl, rfl, hsz, ea, ?_⟩
        walk_at "rd"
        rw [show (!!(Builtin.Str.occurrences (Str.ofString "01") ({ cps := #[c] } : Str) 0 (Str.ofString "01").length 1).isEmpty) = !isBit c by rw [← bit_in54 c hc128]; rfl]
        cases hcb : isBit c with
        | false =>
          try refine iteT ?_
          walk_at "rd"
          refine no ?_ _ hs02
          rw [er]
          have : isTth t0 = false := by
            unfold isTth
            have : t0.cps.toList.all isBit = false := by
              cases z : t0.cps.toList.all isBit with
              | false => rfl
              | true => rw [List.all_eq_true.mp z c (List.mem_of_getElem? ec)] at hcb; cases hcb
            rw [this, Bool.and_false]
          rw [this, Bool.and_false, Bool.false_and]
        | true =>
          have hcc := isBit_iff hcb
          have ep := two_pow ⟨j, hj⟩
          have es := two_small ⟨j, hj⟩
          have ep : atI [V.int 64, V.int 32, V.int 16, V.int 8, V.int 4, V.int 2, V.int 1] (0 + (j : Int)) = some (.int ((2 ^ (6 - j) : Nat) : Int)) := by rw [Int.zero_add]; exact ep
          have enx : tS t0.cps.toList (j + 1) = tS t0.cps.toList j + (c - 48) * 2 ^ (6 - j) := by
            show _ + (t0.cps.toList.getD j 48 - 48) * _ = _
            rw [List.getD_eq_getElem?_getD, ec]
            rfl
          have ebi := bit_int c hcc
          generalize 2 ^ (6 - j) = pw at ep es enx
          walk_at "rd"
          refine ⟨D, _, _, _, rfl, rfl, SqL.of hD2, atI_nat (j := 2) rfl, ?_⟩
          walk_at "rd"
          refine ⟨_, _, _, rfl, rfl, hsz, ea, ?_⟩
          refine ⟨sg c, _, rfl, ebi, by show 1 ≤ 640; decide, ?_⟩
          walk_at "rd"
          intro pl hpl
          have sl := same_new hpl (.lst [V.int 64, V.int 32, V.int 16, V.int 8, V.int 4, V.int 2, V.int 1])
          have hl1 : upd H2 pl (.lst [V.int 64, V.int 32, V.int 16, V.int 8, V.int 4, V.int 2, V.int 1]) pl = some (.lst [V.int 64, V.int 32, V.int 16, V.int 8, V.int 4, V.int 2, V.int 1]) := upd_same
          generalize upd H2 pl (.lst [V.int 64, V.int 32, V.int 16, V.int 8, V.int 4, V.int 2, V.int 1]) = H3 at sl hl1 ⊢
          walk_at "rd"
          try refine ⟨pl, _, _, _, rfl, rfl, SqL.of hl1, ep, ?_⟩
          refine ⟨some (.int (0 + (j : Int))), ?_, hs2.trans sl, fun i c' hi hc' => ?_⟩
          · have e : ((tS t0.cps.toList j + (c - 48) * pw : Nat) : Int) = (tS t0.cps.toList j : Int) + ((c - 48 : Nat) : Int) * (pw : Int) := by rw [Int.natCast_add, Int.natCast_mul]
            rw [enx, e]
            rfl
          · by_cases hij : i = j
            · rw [hij, ec] at hc'
              rw [← Option.some.inj hc']
              exact hcb
            · exact hb i c' (by omega) hc'
      · rintro σ H2 ⟨v3, rfl, hs2, hb⟩
        have e7 := tS_all (cs := t0.cps.toList) (by omega)
        have htt : isTth t0 = true := by
          unfold isTth
          rw [decide_eq_true (by omega), Bool.true_and, List.all_eq_true]
          intro c hc
          obtain ⟨i, hi, ei⟩ := List.mem_iff_getElem.mp hc
          exact hb i c (by omega) (by rw [List.getElem?_eq_getElem hi, ei])
        rw [e7]
        have q2 : Cp.isNum w0 = true → Cp.isNum n0 = true → ∀ p H', Same H H' → H p = none → H' p = some (.tup [.str s0, .int (Cp.numV w0), .int (tthN t0.cps.toList : Nat), .int (Cp.numV n0)]) → Q (.ref p) H' := fun e1 e2 p H' hs h0 h1 => q _ H' hs (by
          rw [if_pos (by rw [er, e1, e2, htt, decide_eq_true c2]; rfl)]
          exact ⟨p, rfl, h0, h1⟩)
        generalize tthN t0.cps.toList = tt at q2 ⊢
        clear e7 hb
        have hD2 := hs2 _ _ hD1
        have hs02 := hs1.trans hs2
        walk_at "rd"
        refine ⟨D, _, _, _, rfl, rfl, SqL.of hD2, atI_nat (j := 1) rfl, ?_⟩
        walk_at "rd"
        first | refine ⟨w0, rfl, a1, fun H3 hs3 => ?_⟩ | refine ⟨a1, fun H3 hs3 => ?_⟩ | intro H3 hs3
        have hD3 := hs3 _ _ hD2
        cases c4 : Cp.isNum w0 with
        | false =>
          walk_at "rd"
          try refine iteT ?_
          walk_at "rd"
          exact no (by rw [er, c4, Bool.and_false, Bool.false_and, Bool.false_and]) _ (hs02.trans hs3)
        | true =>
        walk_at "rd"
        try refine iteF ?_
        walk_at "rd"
        refine ⟨D, _, _, _, rfl, rfl, SqL.of hD3, atI_nat (j := 3) rfl, ?_⟩
        walk_at "rd"
        first | refine ⟨n0, rfl, a3, fun H4 hs4 => ?_⟩ | refine ⟨a3, fun H4 hs4 => ?_⟩ | intro H4 hs4
        have hD4 := hs4 _ _ hD3
        have hs04 := hs02.trans (hs3.trans hs4)
        cases c5 : Cp.isNum n0 with
        | false =>
          walk_at "rd"
          try refine iteT ?_
          walk_at "rd"
          exact no (by rw [er, c5, Bool.and_false]) _ hs04
        | true =>
        walk_at "rd"
        try refine iteF ?_
        walk_at "rd"
        refine ⟨D, _, _, _, rfl, rfl, SqL.of hD4, atI_nat (j := 0) rfl, ?_⟩
        walk_at "rd"
        refine ⟨D, _, _, _, rfl, rfl, SqL.of hD4, atI_nat (j := 1) rfl, ?_⟩
        walk_at "rd"
        first | refine ⟨w0, rfl, a1, fun H5 hs5 => ?_⟩ | refine ⟨a1, fun H5 hs5 => ?_⟩ | intro H5 hs5
        rw [if_pos c4]
        refine ⟨_, rfl, ?_⟩
        refine ⟨_, rfl, ?_⟩
        refine ⟨D, _, _, _, rfl, rfl, SqL.of (hs5 _ _ hD4), atI_nat (j := 3) rfl, ?_⟩
        walk_at "rd"
        first | refine ⟨n0, rfl, a3, fun H6 hs6 => ?_⟩ | refine ⟨a3, fun H6 hs6 => ?_⟩ | intro H6 hs6
        rw [if_pos c5]
        refine ⟨smallL (by show 4 ≤ _; decide), ?_⟩
        intro p hp
        have hs06 := hs04.trans (hs5.trans hs6)
        exact q2 c4 c5 p _ (hs06.trans (same_new hp _)) (hs06.free hp) upd_same
    · rw [decide_eq_false (fun z => c3 (by have := V.int.inj z; omega))]
      try refine iteT ?_
      walk_at "rd"
      refine no ?_ _ hs1
      rw [er]
      have : isTth t0 = false := by
        unfold isTth
        rw [decide_eq_false (by omega)]
        rfl
      rw [this, Bool.and_false, Bool.false_and]
  · rw [decide_eq_false (fun z => c1 (by have := V.int.inj z; omega))]
    try refine iteT ?_
    walk_at "rd"
    refine no ?_ _ hs1
    unfold isRow
    split
    · exact absurd rfl c1
    · rfl
/-- a number's text -/
abbrev numT (n : Nat) : Str := Str.ofString (toString n)
/-- seven teeth, as figures -/
def btL (t : Nat) : List Nat := [48 + t / 64 % 2, 48 + t / 32 % 2, 48 + t / 16 % 2, 48 + t / 8 % 2, 48 + t / 4 % 2, 48 + t / 2 % 2, 48 + t % 2]
def btT (t : Nat) : Str := ⟨(btL t).toArray⟩
theorem num54 : ∀ n : Fin 100, (Cp.isNum (numT n.val) && decide (Cp.numV (numT n.val) = (n.val : Int)) && decide ((numT n.val).cps.toList.length ≤ 2) && (numT n.val).cps.toList.all (fun c => decide (48 ≤ c ∧ c ≤ 57))) = true := by decide +kernel
theorem bt54 : ∀ t : Fin 128, (isTth (btT t.val) && decide (tthN (btT t.val).cps.toList = t.val) && (btT t.val).cps.toList.all (fun c => decide (48 ≤ c ∧ c ≤ 57))) = true := by decide +kernel
theorem num_facts {n : Nat} (hn : n < 100) : Cp.isNum (numT n) = true ∧ Cp.numV (numT n) = (n : Int) ∧ (numT n).cps.toList.length ≤ 2 ∧ ∀ c ∈ (numT n).cps.toList, 48 ≤ c ∧ c ≤ 57 := by
  have h := num54 ⟨n, hn⟩
  simp only [Bool.and_eq_true, decide_eq_true_iff, List.all_eq_true] at h
  exact ⟨h.1.1.1, h.1.1.2, h.1.2, h.2⟩
theorem bt_facts {t : Nat} (ht : t < 128) : isTth (btT t) = true ∧ tthN (btT t).cps.toList = t ∧ ∀ c ∈ (btT t).cps.toList, 48 ≤ c ∧ c ≤ 57 := by
  have h := bt54 ⟨t, ht⟩
  simp only [Bool.and_eq_true, decide_eq_true_iff, List.all_eq_true] at h
  exact ⟨h.1.1, h.1.2, h.2⟩
/-- a row that a case may have -/
def RowG (r : Cs.Row) : Prop := (∃ c ∈ Cs.signs, r.s = sg c) ∧ 1 ≤ r.w ∧ r.w ≤ 99 ∧ 0 ≤ r.t ∧ r.t ≤ 127 ∧ 0 ≤ r.n ∧ r.n ≤ 40
def rowW (r : Cs.Row) : List Str := [r.s, numT r.w.toNat, btT r.t.toNat, numT r.n.toNat]
/-- a word of a row: short, of plain signs, without blank and line feed -/
def Wrd (n : Nat) (x : Str) : Prop := x.length ≤ n ∧ ∀ c ∈ x.cps.toList, c < 128 ∧ c ≠ 32 ∧ c ≠ 10
theorem sign54 : ∀ d ∈ Cs.signs, d < 128 ∧ d ≠ 32 ∧ d ≠ 10 := by decide +kernel
theorem figs_wrd {n : Nat} {x : Str} (h : x.cps.toList.length ≤ n) (hc : ∀ c ∈ x.cps.toList, 48 ≤ c ∧ c ≤ 57) : Wrd n x :=
  ⟨by rw [len_eq]; exact h, fun c z => by have := hc c z; omega⟩
theorem row_wrds {r : Cs.Row} (h : RowG r) : Wrd 1 r.s ∧ Wrd 2 (numT r.w.toNat) ∧ Wrd 7 (btT r.t.toNat) ∧ Wrd 2 (numT r.n.toNat) := by
  obtain ⟨⟨c, hc, hce⟩, h1, h2, h3, h4, h5, h6⟩ := h
  obtain ⟨_, _, a1, a2⟩ := num_facts (n := r.w.toNat) (by omega)
  obtain ⟨_, _, b2⟩ := bt_facts (t := r.t.toNat) (by omega)
  obtain ⟨_, _, c1, c2⟩ := num_facts (n := r.n.toNat) (by omega)
  refine ⟨?_, figs_wrd a1 a2, figs_wrd (Nat.le_refl 7) b2, figs_wrd c1 c2⟩
  rw [hce]
  refine ⟨Nat.le_refl 1, fun d hd => ?_⟩
  have e : (sg c).cps.toList = [c] := rfl
  rw [e] at hd
  rw [List.mem_singleton.mp hd]
  exact sign54 c hc
def rowT (r : Cs.Row) : Str := Str.join ⟨#[32]⟩ (rowW r)
theorem rowT_eq (r : Cs.Row) : rowT r = r.s ++ Str.ofString " " ++ numT r.w.toNat ++ Str.ofString " " ++ btT r.t.toNat ++ Str.ofString " " ++ numT r.n.toNat := by
  unfold rowT
  show r.s ++ Str.ofString " " ++ (numT r.w.toNat ++ Str.ofString " " ++ (btT r.t.toNat ++ Str.ofString " " ++ numT r.n.toNat)) = _
  simp only [Str.append_assoc]
theorem rowT_list (r : Cs.Row) : (rowT r).cps.toList = r.s.cps.toList ++ [32] ++ (numT r.w.toNat).cps.toList ++ [32] ++ (btT r.t.toNat).cps.toList ++ [32] ++ (numT r.n.toNat).cps.toList := by
  rw [rowT_eq]
  simp only [Lns.app_list]
  rfl
/-- a row's text: at most fifteen plain signs, no line feed -/
theorem rowT_wrd {r : Cs.Row} (h : RowG r) : (rowT r).length ≤ 15 ∧ ∀ c ∈ (rowT r).cps.toList, c < 128 ∧ c ≠ 10 := by
  obtain ⟨⟨a1, a2⟩, ⟨b1, b2⟩, ⟨c1, c2⟩, ⟨d1, d2⟩⟩ := row_wrds h
  rw [len_eq] at a1 b1 c1 d1 ⊢
  rw [rowT_list]
  refine ⟨?_, fun c hc => ?_⟩
  · simp only [List.length_append, List.length_cons, List.length_nil]
    omega
  · simp only [List.mem_append, List.mem_singleton] at hc
    rcases hc with (((((z | z) | z) | z) | z) | z) | z
    · exact ⟨(a2 c z).1, (a2 c z).2.2⟩
    · rw [z]; exact ⟨by decide, by decide⟩
    · exact ⟨(b2 c z).1, (b2 c z).2.2⟩
    · rw [z]; exact ⟨by decide, by decide⟩
    · exact ⟨(c2 c z).1, (c2 c z).2.2⟩
    · rw [z]; exact ⟨by decide, by decide⟩
    · exact ⟨(d2 c z).1, (d2 c z).2.2⟩
theorem rdRow_rowT {r : Cs.Row} (h : RowG r) : rdRow (rowT r) = some r := by
  obtain ⟨w1, w2, w3, w4⟩ := row_wrds h
  have hsp : Txt.split (rowT r) (Str.ofString " ") = rowW r := by
    refine Lns.split_join 32 (by simp [rowW]) fun y hy => ?_
    simp only [rowW, List.mem_cons, List.not_mem_nil, or_false] at hy
    rcases hy with rfl | rfl | rfl | rfl
    · exact fun z => (w1.2 _ z).2.1 rfl
    · exact fun z => (w2.2 _ z).2.1 rfl
    · exact fun z => (w3.2 _ z).2.1 rfl
    · exact fun z => (w4.2 _ z).2.1 rfl
  obtain ⟨⟨c, hc, hce⟩, h1, h2, h3, h4, h5, h6⟩ := h
  obtain ⟨a1, a2, _, _⟩ := num_facts (n := r.w.toNat) (by omega)
  obtain ⟨b1, b2, _⟩ := bt_facts (t := r.t.toNat) (by omega)
  obtain ⟨c1, c2, _, _⟩ := num_facts (n := r.n.toNat) (by omega)
  unfold rdRow
  rw [hsp]
  have hne : r.s ≠ "" := fun e => by
    rw [hce] at e
    have := congrArg Str.length e
    have this : 1 = 0 := this
    cases this
  have er : isRow (rowW r) = true := by
    show (decide (r.s ≠ "") && Cp.isNum (numT r.w.toNat) && isTth (btT r.t.toNat) && Cp.isNum (numT r.n.toNat)) = true
    rw [a1, b1, c1, decide_eq_true hne]
    rfl
  rw [if_pos er]
  show some (⟨r.s, Cp.numV (numT r.w.toNat), ((tthN (btT r.t.toNat).cps.toList : Nat) : Int), Cp.numV (numT r.n.toNat)⟩ : Cs.Row) = some r
  rw [a2, b2, c2, Int.toNat_of_nonneg (by omega), Int.toNat_of_nonneg h3, Int.toNat_of_nonneg h5]
/-- the last figures -/
def btR (t : Nat) (k : Nat) : Str := ⟨((btL t).drop (7 - k)).toArray⟩
theorem btR_succ' : ∀ (t : Fin 128) (k : Fin 7), ((Str.ofString (toString (((t.val : Int) / 2 ^ k.val) % 2))) ++ btR t.val k.val).cps.toList = (btR t.val (k.val + 1)).cps.toList ∧ ((t.val : Int) / 2 ^ k.val) / 2 = (t.val : Int) / 2 ^ (k.val + 1) := by decide +kernel
def sp_law_row (K : PySem.W.Frag) : Sp := fun vs H Q _ => ∃ (t : Addr) (r : Cs.Row), vs = [.ref t] ∧ H t = some (.tup (Cs.rowV r)) ∧ RowG r ∧ ∀ H', Same H H' → Q (.str (rowT r)) H'
theorem int_txt (z : Int) (h : 0 ≤ z) : Str.ofString (toString z) = numT z.toNat := by
  obtain ⟨n, rfl⟩ := Int.eq_ofNat_of_zero_le h
  rfl
theorem rowT_nat (s0 : Str) (wn tn nn : Nat) : rowT ⟨s0, (wn : Int), (tn : Int), (nn : Int)⟩ = s0 ++ Str.ofString " " ++ Str.ofString (toString (wn : Int)) ++ Str.ofString " " ++ btT tn ++ Str.ofString " " ++ Str.ofString (toString (nn : Int)) := by
  rw [rowT_eq, int_txt (wn : Int) (by omega), int_txt (nn : Int) (by omega)]
  rfl
theorem ok_law_row (T : Tx K mg a) : FnOk P w K mg base CX0 1 a.f_law_row a.d_law_row ["_law_channel_here"] (sp_law_row K) := by
  refine T.law_row.fn.ok sc_law_row (fun vs H Q E h => ?_) (fun cdv A outer s H vs Q E hr h => ?_)
  · obtain ⟨t, r, rfl, _⟩ := h
    rfl
  obtain ⟨t, ⟨s0, w0, t0, n0⟩, rfl, ht, hg, q⟩ := h
  obtain ⟨h1, h2, h3, h4, h5, h6⟩ : 1 ≤ w0 ∧ w0 ≤ 99 ∧ 0 ≤ t0 ∧ t0 ≤ 127 ∧ 0 ≤ n0 ∧ n0 ≤ 40 := hg.2
  obtain ⟨wn, rfl⟩ := Int.eq_ofNat_of_zero_le (show 0 ≤ w0 by omega)
  obtain ⟨tn, rfl⟩ := Int.eq_ofNat_of_zero_le h3
  obtain ⟨nn, rfl⟩ := Int.eq_ofNat_of_zero_le h5
  have a1 : wn < 100 := by omega
  have a2 : tn < 128 := by omega
  have a3 : nn < 100 := by omega
  obtain ⟨hw1, hw2, hw3, hw4⟩ := row_wrds hg
  have l1 : s0.length ≤ 7 := Nat.le_trans hw1.1 (by decide)
  have l2 : (numT wn).length ≤ 7 := Nat.le_trans hw2.1 (by decide)
  have l3 : (btT tn).length ≤ 7 := Nat.le_refl 7
  have l4 : (numT nn).length ≤ 7 := Nat.le_trans hw4.1 (by decide)
  have ht' : H t = some (.tup [.str s0, .int (wn : Int), .int (tn : Int), .int (nn : Int)]) := ht
  have q : ∀ H', Same H H' → Q (.str (s0 ++ Str.ofString " " ++ Str.ofString (toString (wn : Int)) ++ Str.ofString " " ++ btT tn ++ Str.ofString " " ++ Str.ofString (toString (nn : Int)))) H' := fun H' hs => by
    rw [← rowT_nat]
    exact q H' hs
  clear hw1 hw2 hw3 hw4 hg h1 h2 h3 h4 h5 h6 ht
  refine ⟨_, (pss_cons (ps_asg (pv 0) (kpg_tup K rfl (n := 4) rfl (pgs_cons (pg_name (i := 1) sc_law_row.nd rfl (Or.inl rfl)) (pgs_cons (pg_name (i := 2) sc_law_row.nd rfl (Or.inl rfl)) (pgs_cons (pg_name (i := 3) sc_law_row.nd rfl (Or.inl rfl)) (pgs_cons (pg_name (i := 4) sc_law_row.nd rfl (Or.inl rfl)) pgs_nil))))))
      (pss_cons (ps_set (i := 5) sc_law_row.nd rfl (Or.inl rfl) pe_str)
      (pss_cons (ps_for PassesOwn.never rfl (pi_range1 rfl T.b_range (pa_cons pe_int pa_nil)) (pg_name (i := 6) sc_law_row.nd rfl (Or.inl rfl)) (pss_cons (ps_set (i := 5) sc_law_row.nd rfl (Or.inl rfl) (pe_op op_add_str (pe_callTy call_strB rfl T.b_str bt_str (pa_cons (pe_op op_mod (pv 3) pe_int) pa_nil)) (pv 5)))
      (pss_one (ps_set (i := 3) sc_law_row.nd rfl (Or.inl rfl) (pe_op op_fdiv (pv 3) pe_int)))))
      (pss_one (ps_ret (pe_op op_add_str (pe_op op_add_str (pe_op op_add_str (pe_op op_add_str (pe_op op_add_str (pe_op op_add_str (pv 1) pe_str) (pe_callTy call_strB rfl T.b_str bt_str (pa_cons (pv 2) pa_nil))) pe_str) (pv 5)) pe_str) (pe_callTy call_strB rfl T.b_str bt_str (pa_cons (pv 4) pa_nil)))))))), ?_⟩
  refine ⟨_, rfl, ?_⟩
  refine ⟨_, _, rfl, SqT.of ht', rfl, ?_⟩
  walk_at "tg"
  walk_at "tg"
  walk_at "tg"
  walk_at "tg"
  try refine And.intro rfl ?_
  walk_at "rd"
  refine for_range (n := 7) (fun k σ H2 => ∃ (v6 : Option V), σ = [some (.ref t), some (.str s0), some (.int (wn : Int)), some (.int ((tn : Int) / 2 ^ k)), some (.int (nn : Int)), some (.str (btR tn k)), v6] ∧ Same H H2) ⟨none, ?_, Same.refl _⟩ ?_ ?_
  · rw [show (tn : Int) / 2 ^ 0 = (tn : Int) by rw [show (2 : Int) ^ 0 = 1 from rfl, Int.ediv_one]]
    rfl
  · rintro k σ H2 hk ⟨v6, rfl, hs⟩
    have hb := btR_succ' ⟨tn, a2⟩ ⟨k, hk⟩
    have hb1 : Str.ofString (toString (((tn : Int) / 2 ^ k) % 2)) ++ btR tn k = btR tn (k + 1) := Lns.str_ext hb.1
    have hb2 : (tn : Int) / 2 ^ k / 2 = (tn : Int) / 2 ^ (k + 1) := hb.2
    have hbl : (Str.ofString (toString (((tn : Int) / 2 ^ k) % 2))).length + (btR tn k).length ≤ 7 := by
      rw [← Str.length_append, hb1]
      show ((btL tn).drop (7 - (k + 1))).toArray.size ≤ 7
      rw [List.size_toArray, List.length_drop]
      exact Nat.sub_le 7 _
    walk_at "rd"
    refine ⟨smallL (by omega), ?_⟩
    rw [hb1]
    walk_at "rd"
    refine ⟨some (.int (0 + (k : Int))), ?_, hs⟩
    rw [← hb2]
    rfl
  · rintro σ H2 ⟨v6, rfl, hs⟩
    have e7 : btR tn 7 = btT tn := rfl
    rw [e7]
    have g : (Str.ofString " ").length = 1 := by decide
    have la : ∀ (x y : Str), (x ++ y).length = x.length + y.length := fun x y => Str.length_append ..
    have l2' : (Str.ofString (toString (wn : Int))).length ≤ 7 := by rw [int_txt (wn : Int) (by omega), Int.toNat_natCast]; exact l2
    have l4' : (Str.ofString (toString (nn : Int))).length ≤ 7 := by rw [int_txt (nn : Int) (by omega), Int.toNat_natCast]; exact l4
    have z1 : (s0 ++ Str.ofString " ").length ≤ 8 := by rw [la]; omega
    have z2 : (s0 ++ Str.ofString " " ++ Str.ofString (toString (wn : Int))).length ≤ 15 := by rw [la]; omega
    have z3 : (s0 ++ Str.ofString " " ++ Str.ofString (toString (wn : Int)) ++ Str.ofString " ").length ≤ 16 := by rw [la]; omega
    have z4 : (s0 ++ Str.ofString " " ++ Str.ofString (toString (wn : Int)) ++ Str.ofString " " ++ btT tn).length ≤ 23 := by rw [la]; omega
    have z5 : (s0 ++ Str.ofString " " ++ Str.ofString (toString (wn : Int)) ++ Str.ofString " " ++ btT tn ++ Str.ofString " ").length ≤ 24 := by rw [la]; omega
    have q2 := q H2 hs
    clear q
    refine ⟨_, rfl, ?_⟩
    refine ⟨_, _, rfl, rfl, smallL (by omega), ?_⟩
    refine ⟨_, rfl, ?_⟩
    refine ⟨_, rfl, by omega, ?_⟩
    refine ⟨_, _, rfl, rfl, smallL (by omega), ?_⟩
    refine ⟨_, _, rfl, rfl, smallL (by omega), ?_⟩
    refine ⟨_, rfl, ?_⟩
    refine ⟨_, _, rfl, rfl, smallL (by omega), ?_⟩
    refine ⟨_, _, rfl, rfl, smallL (by omega), ?_⟩
    refine ⟨_, rfl, ?_⟩
    refine ⟨_, rfl, by omega, ?_⟩
    refine ⟨_, _, rfl, rfl, smallL (by omega), ?_⟩
    exact q2
theorem kit_light {K : PySem.W.Frag} {mg : Str → Option Value} {x : Str} {C B : Addr} {b : Bool} (d : CL K mg x B) (hself : PySem.W.mroIn K C (.ref C) = some true) (h : PySem.W.mroIn K C (.ref B) = some b) : PySem.W.kitOne K (.ref C) (.ref B) = some b :=
  d.kit h fun e => by
    subst e
    rw [hself] at h
    exact (Option.some.inj h).symm
/-- what is asked of a class whose exception is caught: none of the eight others -/
structure Kd (K : PySem.W.Frag) (a : Ad) (C : Addr) : Prop where
  g : XG K C
  k1 : PySem.W.kitOne K (.ref C) (.ref a.c_TooMany) = some false
  k2 : PySem.W.kitOne K (.ref C) (.ref a.c_Loose) = some false
  k3 : PySem.W.kitOne K (.ref C) (.ref a.c_Tight) = some false
  k4 : PySem.W.kitOne K (.ref C) (.ref a.c_NoBreak) = some false
  k5 : PySem.W.kitOne K (.ref C) (.ref a.c_NoCopy) = some false
  k6 : PySem.W.kitOne K (.ref C) (.ref a.c_NoKeys) = some false
  k7 : PySem.W.kitOne K (.ref C) (.ref a.c_NoNumber) = some false
  k8 : PySem.W.kitOne K (.ref C) (.ref a.c_NoRow) = some false
  kb : PySem.W.kitOne K (.ref C) (.ref a.c_CasterError) = some true
  kv : PySem.W.kitOne K (.ref C) (.type "ValueError") = some true
theorem kd_text (T : Tx K mg a) : Kd K a a.c_NoText :=
  have h := T.m_NoText_NoText
  ⟨T.cl_NoText.q.g, kit_light T.cl_TooMany h T.m_NoText_TooMany, kit_light T.cl_Loose h T.m_NoText_Loose, kit_light T.cl_Tight h T.m_NoText_Tight, kit_light T.cl_NoBreak h T.m_NoText_NoBreak, kit_light T.cl_NoCopy h T.m_NoText_NoCopy, kit_light T.cl_NoKeys h T.m_NoText_NoKeys, kit_light T.cl_NoNumber h T.m_NoText_NoNumber, kit_light T.cl_NoRow h T.m_NoText_NoRow, kit_light T.cl_CasterError h T.m_NoText_CasterError, kit_value T.cl_NoText.q⟩
theorem kd_case (T : Tx K mg a) : Kd K a a.c_NoCase :=
  have h := T.m_NoCase_NoCase
  ⟨T.cl_NoCase.q.g, kit_light T.cl_TooMany h T.m_NoCase_TooMany, kit_light T.cl_Loose h T.m_NoCase_Loose, kit_light T.cl_Tight h T.m_NoCase_Tight, kit_light T.cl_NoBreak h T.m_NoCase_NoBreak, kit_light T.cl_NoCopy h T.m_NoCase_NoCopy, kit_light T.cl_NoKeys h T.m_NoCase_NoKeys, kit_light T.cl_NoNumber h T.m_NoCase_NoNumber, kit_light T.cl_NoRow h T.m_NoCase_NoRow, kit_light T.cl_CasterError h T.m_NoCase_CasterError, kit_value T.cl_NoCase.q⟩
def sp_law_others (K : PySem.W.Frag) (a : Ad) : Sp := fun vs H Q _ => ∃ (e C : Addr) (d : Option Addr), vs = [.ref e] ∧ Kd K a C ∧ H e = some (XE e C d) ∧ (∀ a0, d = some a0 → ∃ fs, H a0 = some (.xd fs)) ∧ ∀ H', Same H H' → Q (.bl true) H'
theorem ok_law_others (T : Tx K mg a) : FnOkH P w K mg base 1 a.f_law_others a.d_law_others ["_law_e"] (sp_law_others K a) := by
  refine T.law_others.fn.okH sc_law_others (fun vs H Q E h => ?_) (fun cdv A outer s H vs Q hr h => ?_)
  · obtain ⟨e, C, d, rfl, _⟩ := h
    rfl
  obtain ⟨e, C, d, rfl, hk, he, hd, q⟩ := h
  have hg := hk.g
  have ask : ∀ {H2 : Hp}, Same H H2 → ∀ a0, d = some a0 → ∃ fs, H2 a0 = some (.xd fs) := fun hs a0 z => by
    obtain ⟨fs, h⟩ := hd a0 z
    exact ⟨fs, hs _ _ h⟩
  refine ⟨_, (pss_cons (ps_set (i := 1) sc_law_others.nd rfl (Or.inl rfl) (pe_lst (pa_cons (pe_callB (kcall_isX (K := K) rfl) rfl T.b_isinstance bt_isinstance (pa_cons (pv 0) (pa_cons (pe_glob (v := .ref a.c_TooMany) rfl T.cl_TooMany.mg rfl) pa_nil))) (pa_cons (pe_callB (kcall_isX (K := K) rfl) rfl T.b_isinstance bt_isinstance (pa_cons (pv 0) (pa_cons (pe_glob (v := .ref a.c_Loose) rfl T.cl_Loose.mg rfl) pa_nil))) (pa_cons (pe_callB (kcall_isX (K := K) rfl) rfl T.b_isinstance bt_isinstance (pa_cons (pv 0) (pa_cons (pe_glob (v := .ref a.c_Tight) rfl T.cl_Tight.mg rfl) pa_nil))) (pa_cons (pe_callB (kcall_isX (K := K) rfl) rfl T.b_isinstance bt_isinstance (pa_cons (pv 0) (pa_cons (pe_glob (v := .ref a.c_NoBreak) rfl T.cl_NoBreak.mg rfl) pa_nil))) pa_nil))))))
      (pss_cons (ps_set (i := 1) sc_law_others.nd rfl (Or.inl rfl) (pe_op op_cat (pv 1) (pe_lst (pa_cons (pe_callB (kcall_isX (K := K) rfl) rfl T.b_isinstance bt_isinstance (pa_cons (pv 0) (pa_cons (pe_glob (v := .ref a.c_NoCopy) rfl T.cl_NoCopy.mg rfl) pa_nil))) (pa_cons (pe_callB (kcall_isX (K := K) rfl) rfl T.b_isinstance bt_isinstance (pa_cons (pv 0) (pa_cons (pe_glob (v := .ref a.c_NoKeys) rfl T.cl_NoKeys.mg rfl) pa_nil))) (pa_cons (pe_callB (kcall_isX (K := K) rfl) rfl T.b_isinstance bt_isinstance (pa_cons (pv 0) (pa_cons (pe_glob (v := .ref a.c_NoNumber) rfl T.cl_NoNumber.mg rfl) pa_nil))) (pa_cons (pe_callB (kcall_isX (K := K) rfl) rfl T.b_isinstance bt_isinstance (pa_cons (pv 0) (pa_cons (pe_glob (v := .ref a.c_NoRow) rfl T.cl_NoRow.mg rfl) pa_nil))) pa_nil)))))))
      (pss_one (ps_ret (pe_and (pe_callB (kcall_isX (K := K) rfl) rfl T.b_isinstance bt_isinstance (pa_cons (pv 0) (pa_cons (pe_glob (v := .ref a.c_CasterError) rfl T.cl_CasterError.mg rfl) pa_nil))) (pe_and (pe_callB (kcall_isX (K := K) rfl) rfl T.b_isinstance bt_isinstance (pa_cons (pv 0) (pa_cons (pe_bltn (v := .ty "ValueError") rfl T.b_ValueError bt_ValueError rfl) pa_nil))) (pe_one (pe_cmpR (knotIn_seq K rfl) pe_bl (pv 1) (by with_unfolding_all rfl))))))))), ?_⟩
  walk_at "rd"
  refine ⟨e, _, d, _, _, false, rfl, he, ask (Same.refl _), hg, rfl, hk.k1, ?_⟩
  walk_at "rd"
  refine ⟨e, _, d, _, _, false, rfl, he, ask (Same.refl _), hg, rfl, hk.k2, ?_⟩
  walk_at "rd"
  refine ⟨e, _, d, _, _, false, rfl, he, ask (Same.refl _), hg, rfl, hk.k3, ?_⟩
  walk_at "rd"
  refine ⟨e, _, d, _, _, false, rfl, he, ask (Same.refl _), hg, rfl, hk.k4, ?_⟩
  walk_at "rd"
  intro p1 hp1
  have hs1 := same_new hp1 (.lst [.bl false, .bl false, .bl false, .bl false])
  have h11 : upd H p1 (.lst [.bl false, .bl false, .bl false, .bl false]) p1 = some (.lst [.bl false, .bl false, .bl false, .bl false]) := upd_same
  generalize upd H p1 (.lst [.bl false, .bl false, .bl false, .bl false]) = H1 at hs1 h11 ⊢
  walk_at "rd"
  refine ⟨e, _, d, _, _, false, rfl, (hs1 _ _ he), ask hs1, hg, rfl, hk.k5, ?_⟩
  walk_at "rd"
  refine ⟨e, _, d, _, _, false, rfl, (hs1 _ _ he), ask hs1, hg, rfl, hk.k6, ?_⟩
  walk_at "rd"
  refine ⟨e, _, d, _, _, false, rfl, (hs1 _ _ he), ask hs1, hg, rfl, hk.k7, ?_⟩
  walk_at "rd"
  refine ⟨e, _, d, _, _, false, rfl, (hs1 _ _ he), ask hs1, hg, rfl, hk.k8, ?_⟩
  walk_at "rd"
  intro p2 hp2
  have hs2 := same_new hp2 (.lst [.bl false, .bl false, .bl false, .bl false])
  have h22 : upd H1 p2 (.lst [.bl false, .bl false, .bl false, .bl false]) p2 = some (.lst [.bl false, .bl false, .bl false, .bl false]) := upd_same
  generalize upd H1 p2 (.lst [.bl false, .bl false, .bl false, .bl false]) = H2 at hs2 h22 ⊢
  refine ⟨p1, p2, _, _, rfl, rfl, hs2 _ _ h11, h22, smallL (by decide), fun p3 hp3 => ?_⟩
  have hs3 := same_new hp3 (.lst ([V.bl false, V.bl false, V.bl false, V.bl false] ++ [V.bl false, V.bl false, V.bl false, V.bl false]))
  have h33 : upd H2 p3 (.lst ([V.bl false, V.bl false, V.bl false, V.bl false] ++ [V.bl false, V.bl false, V.bl false, V.bl false])) p3 = some (.lst ([V.bl false, V.bl false, V.bl false, V.bl false] ++ [V.bl false, V.bl false, V.bl false, V.bl false])) := upd_same
  generalize upd H2 p3 (.lst ([V.bl false, V.bl false, V.bl false, V.bl false] ++ [V.bl false, V.bl false, V.bl false, V.bl false])) = H3 at hs3 h33 ⊢
  have hs03 := hs1.trans (hs2.trans hs3)
  walk_at "rd"
  refine ⟨e, _, d, _, _, true, rfl, hs03 _ _ he, ask hs03, hg, rfl, hk.kb, ?_⟩
  walk_at "rd"
  try refine iteT ?_
  walk_at "rd"
  refine ⟨e, _, d, _, _, true, rfl, hs03 _ _ he, ask hs03, hg, rfl, hk.kv, ?_⟩
  walk_at "rd"
  try refine iteT ?_
  exact ⟨p3, _, rfl, .inl (SqL.of h33), rfl, rfl, q _ hs03⟩
/-- the words that are put in the place of one -/
abbrev odA (y : Str) : List Str := [Str.ofString "", Str.ofString "0", Str.ofString "100", Str.ofString "99", Str.ofString "0" ++ y, y ++ Str.ofString "0", Str.ofString "ab", Str.ofString "A", Str.ofString "1111111"]
abbrev odB : List Str := [Str.ofString "11111111", Str.ofString "000000", Str.ofString "41", Str.ofString "40", Str.ofString "12345", Str.ofString "-1", Str.ofString "+1", Str.ofString "1x", Str.ofString "2000000"]
abbrev odC : List Str := [Str.ofString ".", Str.ofString "1 1", Str.ofString "a1", Str.ofString "0000000", Str.ofString "0000002", Str.ofString "00000001", Str.ofString "1.0", Str.ofString "1000", Str.ofString "9999"]
abbrev lA (y : Str) : List V := [V.str (Str.ofString ""), V.str (Str.ofString "0"), V.str (Str.ofString "100"), V.str (Str.ofString "99"), V.str (Str.ofString "0" ++ y), V.str (y ++ Str.ofString "0"), V.str (Str.ofString "ab"), V.str (Str.ofString "A"), V.str (Str.ofString "1111111")]
abbrev lB : List V := [V.str (Str.ofString "11111111"), V.str (Str.ofString "000000"), V.str (Str.ofString "41"), V.str (Str.ofString "40"), V.str (Str.ofString "12345"), V.str (Str.ofString "-1"), V.str (Str.ofString "+1"), V.str (Str.ofString "1x"), V.str (Str.ofString "2000000")]
abbrev lC : List V := [V.str (Str.ofString "."), V.str (Str.ofString "1 1"), V.str (Str.ofString "a1"), V.str (Str.ofString "0000000"), V.str (Str.ofString "0000002"), V.str (Str.ofString "00000001"), V.str (Str.ofString "1.0"), V.str (Str.ofString "1000"), V.str (Str.ofString "9999")]
def odd27 (y : Str) : List Str := odA y ++ odB ++ odC
theorem odd27_ok : (odd27 (Str.ofString "")).all (fun t => decide (t.cps.toList.length ≤ 8) && t.cps.toList.all fun c => decide (c < 128)) = true := by decide +kernel
theorem odd27_mem {y t : Str} (h : t ∈ odd27 y) (hy : ∀ c ∈ y.cps.toList, c < 128) : t.cps.toList.length ≤ y.cps.toList.length + 8 ∧ ∀ c ∈ t.cps.toList, c < 128 := by
  have h1 : t ∈ odd27 (Str.ofString "") ∨ t = Str.ofString "0" ++ y ∨ t = y ++ Str.ofString "0" := by
    unfold odd27 at h ⊢
    simp only [List.mem_append, List.mem_cons, List.not_mem_nil, or_false] at h ⊢
    rcases h with (((h | h | h | h | h | h | h | h | h) | h) | h)
    all_goals first
      | exact .inr (.inl h)
      | exact .inr (.inr h)
      | exact .inl (.inl (.inr h))
      | exact .inl (.inr h)
      | (left; left; left; simp only [h, true_or, or_true])
  rcases h1 with z | z | z
  · have h2 := List.all_eq_true.mp odd27_ok t z
    rw [Bool.and_eq_true, decide_eq_true_iff, List.all_eq_true] at h2
    exact ⟨Nat.le_trans h2.1 (Nat.le_add_left _ _), fun c hc => of_decide_eq_true (h2.2 c hc)⟩
  · have e : t.cps.toList = 48 :: y.cps.toList := by rw [z, Lns.app_list]; rfl
    rw [e]
    refine ⟨by rw [List.length_cons]; omega, fun c hc => ?_⟩
    rcases List.mem_cons.mp hc with z | z
    · rw [z]; decide
    · exact hy c z
  · have e : t.cps.toList = y.cps.toList ++ [48] := by rw [z, Lns.app_list]; rfl
    rw [e]
    refine ⟨by rw [List.length_append]; show _ + 1 ≤ _; omega, fun c hc => ?_⟩
    rcases List.mem_append.mp hc with z | z
    · exact hy c z
    · rw [List.mem_singleton.mp z]; decide
/-- how long joined texts are -/
def jl : List Str → Nat
  | [] => 0
  | [y] => y.cps.toList.length
  | y :: z :: r => y.cps.toList.length + 1 + jl (z :: r)
theorem join_jl (d : Nat) : ∀ ws : List Str, (Str.join ⟨#[d]⟩ ws).cps.toList.length = jl ws
  | [] => rfl
  | [y] => rfl
  | y :: z :: r => by
    have e : (Str.join ⟨#[d]⟩ (y :: z :: r)).cps.toList = y.cps.toList ++ [d] ++ (Str.join ⟨#[d]⟩ (z :: r)).cps.toList := by
      show (y ++ ⟨#[d]⟩ ++ Str.join ⟨#[d]⟩ (z :: r)).cps.toList = _
      rw [Lns.app_list, Lns.app_list]
    rw [e, List.length_append, List.length_append, join_jl d (z :: r)]
    rfl
theorem jl_sum : ∀ ws : List Str, jl ws + 1 ≤ (ws.map fun y => y.cps.toList.length + 1).sum + 1 ∧ (ws ≠ [] → (ws.map fun y => y.cps.toList.length + 1).sum = jl ws + 1)
  | [] => ⟨Nat.le_refl _, fun h => absurd rfl h⟩
  | [y] => ⟨by simp [jl], fun _ => by simp [jl]⟩
  | y :: z :: r => by
    have h := (jl_sum (z :: r)).2 (by simp)
    have e : ((y :: z :: r).map fun y => y.cps.toList.length + 1).sum = y.cps.toList.length + 1 + ((z :: r).map fun y => y.cps.toList.length + 1).sum := by rw [List.map_cons, List.sum_cons]
    have e2 : jl (y :: z :: r) = y.cps.toList.length + 1 + jl (z :: r) := rfl
    exact ⟨by omega, fun _ => by omega⟩
theorem jl_add (us vs : List Str) : jl (us ++ vs) ≤ jl us + 1 + jl vs := by
  by_cases hu : us = []
  · rw [hu, List.nil_append]; omega
  by_cases hv : vs = []
  · rw [hv, List.append_nil]; omega
  have h1 := (jl_sum us).2 hu
  have h2 := (jl_sum vs).2 hv
  have h3 := (jl_sum (us ++ vs)).2 (by simp [hu])
  rw [List.map_append, List.sum_append] at h3
  omega
theorem jl_part {us vs : List Str} : jl us ≤ jl (us ++ vs) ∧ jl vs ≤ jl (us ++ vs) := by
  by_cases hu : us = []
  · rw [hu, List.nil_append]; exact ⟨Nat.zero_le _, Nat.le_refl _⟩
  by_cases hv : vs = []
  · rw [hv, List.append_nil]; exact ⟨Nat.le_refl _, Nat.zero_le _⟩
  have h1 := (jl_sum us).2 hu
  have h2 := (jl_sum vs).2 hv
  have h3 := (jl_sum (us ++ vs)).2 (by simp [hu])
  rw [List.map_append, List.sum_append] at h3
  constructor <;> omega
/-- one text in the place of another -/
theorem jl_set {ws : List Str} {i m : Nat} {y t : Str} (h : ws[i]? = some y) (ht : t.cps.toList.length ≤ y.cps.toList.length + m) : jl (ws.set i t) ≤ jl ws + m := by
  obtain ⟨hi, hy⟩ := List.getElem?_eq_some_iff.mp h
  have hne : ws ≠ [] := fun z => by rw [z] at hi; exact absurd hi (Nat.not_lt_zero _)
  have hne2 : ws.set i t ≠ [] := fun z => by have := congrArg List.length z; rw [List.length_set] at this; exact hne (List.length_eq_zero_iff.mp this)
  have h1 := (jl_sum ws).2 hne
  have h2 := (jl_sum (ws.set i t)).2 hne2
  have e : ws = ws.take i ++ y :: ws.drop (i + 1) := by rw [← hy, List.getElem_cons_drop, List.take_append_drop]
  have e2 : ws.set i t = ws.take i ++ t :: ws.drop (i + 1) := by rw [List.set_eq_take_append_cons_drop, if_pos hi]
  rw [e2, List.map_append, List.sum_append, List.map_cons, List.sum_cons] at h2
  have h1' : ((ws.take i).map fun y => y.cps.toList.length + 1).sum + ((y.cps.toList.length + 1) + ((ws.drop (i + 1)).map fun y => y.cps.toList.length + 1).sum) = jl ws + 1 := by
    rw [← h1]
    conv => rhs; rw [e]
    rw [List.map_append, List.sum_append, List.map_cons, List.sum_cons]
  rw [e2]
  omega
theorem join_as {d : Nat} (hd : d < 128) : ∀ {ws : List Str}, (∀ y ∈ ws, ∀ c ∈ y.cps.toList, c < 128) → ∀ c ∈ (Str.join ⟨#[d]⟩ ws).cps.toList, c < 128
  | [], _, c, hc => by cases hc
  | [y], h, c, hc => h y List.mem_cons_self c hc
  | y :: z :: r, h, c, hc => by
    have e : (Str.join ⟨#[d]⟩ (y :: z :: r)).cps.toList = y.cps.toList ++ [d] ++ (Str.join ⟨#[d]⟩ (z :: r)).cps.toList := by
      show (y ++ ⟨#[d]⟩ ++ Str.join ⟨#[d]⟩ (z :: r)).cps.toList = _
      rw [Lns.app_list, Lns.app_list]
    rw [e] at hc
    rcases List.mem_append.mp hc with z1 | z1
    · rcases List.mem_append.mp z1 with z2 | z2
      · exact h y List.mem_cons_self c z2
      · rw [List.mem_singleton.mp z2]; exact hd
    · exact join_as hd (fun y hy => h y (List.mem_cons_of_mem _ hy)) c z1
theorem at_str {l : List Str} {z : Int} (h0 : 0 ≤ z) (h1 : z < l.length) : ∃ t, t ∈ l ∧ atI (l.map V.str) z = some (.str t) := by
  obtain ⟨n, rfl⟩ := Int.eq_ofNat_of_zero_le h0
  have hn : n < l.length := by omega
  exact ⟨l[n], List.getElem_mem hn, atI_nat (by rw [List.getElem?_map, List.getElem?_eq_getElem hn]; rfl)⟩
/-- what join takes -/
theorem join_fit {ws : List Str} {d n : Nat} (h1 : jl ws ≤ n) (h2 : ws.length ≤ n) (hn : n ≤ 100000) : (ws.map (·.length)).sum + ws.length * (⟨#[d]⟩ : Str).length ≤ 16777216 := by
  have h3 := jl_sum ws
  have e : (⟨#[d]⟩ : Str).length = 1 := rfl
  have h4 : (ws.map (·.length)).sum + ws.length = (ws.map fun y => y.cps.toList.length + 1).sum := by
    clear h1 h2 h3
    induction ws with
    | nil => rfl
    | cons y r ih =>
      rw [List.map_cons, List.sum_cons, List.length_cons, List.map_cons, List.sum_cons, ← ih, len_eq y]
      omega
  rw [e, Nat.mul_one, h4]
  by_cases hw : ws = []
  · rw [hw]
    show 0 ≤ 16777216
    omega
  · rw [h3.2 hw]
    omega
theorem join_eq {d : Nat} (ws : List Str) : Txt.join ⟨#[d]⟩ ws = Str.join ⟨#[d]⟩ ws := by
  unfold Txt.join
  rw [StrLaws.glued_eq_join]
def sp_law_odd : Sp := fun vs H Q _ => ∃ (x : Str) (n : Int), vs = [.str x, .int n] ∧ AW x ∧ x.length ≤ 2000 ∧ ∀ z H', Same H H' → (∀ c ∈ z.cps.toList, c < 128) → z.cps.toList.length ≤ x.cps.toList.length + 8 → Q (.str z) H'
theorem ok_law_odd (T : Tx K mg a) : FnOk P w K mg base CX0 1 a.f_law_odd a.d_law_odd ["_law_row_here", "_law_number_here"] sp_law_odd := by
  refine T.law_odd.fn.ok sc_law_odd (fun vs H Q E h => ?_) (fun cdv A outer s H vs Q E hr h => ?_)
  · obtain ⟨x, n, rfl, _⟩ := h
    rfl
  obtain ⟨x, n, rfl, hx, hxl, q⟩ := h
  have hl : x.cps.toList.length = x.length := Array.length_toList
  have haw : ∀ y ∈ Txt.split x (Str.ofString " "), AW y := fun y hy => split_part (d := 32) y hy hx
  have hsl := split_len x (Str.ofString " ")
  have hsn := Lns.split_ne x (Str.ofString " ")
  have hjl : jl (Txt.split x (Str.ofString " ")) = x.cps.toList.length := by
    rw [← join_jl 32, show Str.join ⟨#[32]⟩ (Txt.split x (Str.ofString " ")) = x from StrLaws.join_split ..]
  refine ⟨_, (pss_cons (ps_set (i := 2) sc_law_odd.nd rfl (Or.inl rfl) (kpe_bm K rfl PySem.F.plainAttrs_str PySem.F.slot_str_split PySem.F.type_str_split mt_split (pv 0) (pa_cons pe_str pa_nil)))
      (pss_cons (ps_set (i := 3) sc_law_odd.nd rfl (Or.inl rfl) (pe_op op_mod (pe_op op_fdiv (pv 1) pe_int) (pe_callB (klen_seq K rfl) rfl T.b_len bt_len (pa_cons (pv 2) pa_nil))))
      (pss_cons (ps_set (i := 4) sc_law_odd.nd rfl (Or.inl rfl) (pe_lst (pa_cons pe_str (pa_cons pe_str (pa_cons pe_str (pa_cons pe_str (pa_cons (pe_op op_add_str pe_str (pe_ix (kix_list K rfl) (pv 2) (pv 3) (fun _ _ => rfl))) (pa_cons (pe_op op_add_str (pe_ix (kix_list K rfl) (pv 2) (pv 3) (fun _ _ => rfl)) pe_str) (pa_cons pe_str (pa_cons pe_str (pa_cons pe_str pa_nil)))))))))))
      (pss_cons (ps_set (i := 4) sc_law_odd.nd rfl (Or.inl rfl) (pe_op op_cat (pv 4) (pe_lst (pa_cons pe_str (pa_cons pe_str (pa_cons pe_str (pa_cons pe_str (pa_cons pe_str (pa_cons pe_str (pa_cons pe_str (pa_cons pe_str (pa_cons pe_str pa_nil))))))))))))
      (pss_cons (ps_set (i := 4) sc_law_odd.nd rfl (Or.inl rfl) (pe_op op_cat (pv 4) (pe_lst (pa_cons pe_str (pa_cons pe_str (pa_cons pe_str (pa_cons pe_str (pa_cons pe_str (pa_cons pe_str (pa_cons pe_str (pa_cons pe_str (pa_cons pe_str pa_nil))))))))))))
      (pss_cons (ps_asg (pe_ix (kix_list K rfl) (pv 4) (pe_op op_mod (pe_op op_fdiv (pv 1) pe_int) pe_int) (fun _ _ => rfl)) (pg_sub (pv 2) (pv 3) set_list))
      (pss_one (ps_ret (kpe_bm K rfl PySem.F.plainAttrs_str PySem.F.slot_str_join PySem.F.type_str_join (kmt_join K rfl) pe_str (pa_cons (pv 2) pa_nil)))))))))), ?_⟩
  walk_at "rd"
  intro D hD
  have hs1 := same_new hD (.lst ((Txt.split x (Str.ofString " ")).map V.str))
  have hD1 : upd H D (.lst ((Txt.split x (Str.ofString " ")).map V.str)) D = some (.lst ((Txt.split x (Str.ofString " ")).map V.str)) := upd_same
  generalize upd H D (.lst ((Txt.split x (Str.ofString " ")).map V.str)) = H1 at hs1 hD1 ⊢
  generalize Txt.split x (Str.ofString " ") = ws at haw hsl hsn hjl hD1
  have hwl : 0 < ws.length := List.length_pos_iff.mpr hsn
  have hz0 := Int.emod_nonneg (n / 8) (show (ws.length : Int) ≠ 0 by omega)
  have hz1 := Int.emod_lt_of_pos (n / 8) (show (0 : Int) < ws.length by omega)
  obtain ⟨i, hi⟩ := Int.eq_ofNat_of_zero_le hz0
  have hil : i < ws.length := by omega
  have hiy : ws[i]? = some ws[i] := List.getElem?_eq_getElem hil
  have hya := haw ws[i] (List.getElem_mem hil)
  generalize ws[i] = y at hiy hya
  have ea : atI (ws.map V.str) (n / 8 % (ws.length : Int)) = some (.str y) := by
    rw [hi]
    exact atI_nat (by rw [List.getElem?_map, hiy]; rfl)
  have hyl := hya.len
  have el : ((ws.map V.str).length : Int) = (ws.length : Int) := by rw [List.length_map]
  have hseq : ∀ {H2 : Hp}, Same H1 H2 → SqL K H2 D (ws.map V.str) := fun hs => SqL.of (hs _ _ hD1)
  have g1 : (Str.ofString "0").length = 1 := by decide
  walk_at "rd"
  refine ⟨D, _, rfl, .inl (SqL.of hD1), ?_⟩
  rw [el]
  refine ⟨_, _, rfl, rfl, by omega, ?_⟩
  walk_at "rd"
  refine ⟨smallL (by omega), ?_⟩
  walk_at "rd"
  refine ⟨smallL (by omega), ?_⟩
  walk_at "rd"
  intro p1 hp1
  have hs2 := same_new hp1 (.lst (lA y))
  have h21 : upd H1 p1 (.lst (lA y)) p1 = _ := upd_same
  generalize upd H1 p1 (.lst (lA y)) = H2 at hs2 h21 ⊢
  walk_at "rd"
  intro p2 hp2
  have hs3 := same_new hp2 (.lst lB)
  have h32 : upd H2 p2 (.lst lB) p2 = _ := upd_same
  generalize upd H2 p2 (.lst lB) = H3 at hs3 h32 ⊢
  refine ⟨p1, p2, _, _, rfl, rfl, hs3 _ _ h21, h32, smallL (show 9 + 9 ≤ 100000 by decide), fun p3 hp3 => ?_⟩
  have hs4 := same_new hp3 (.lst (lA y ++ lB))
  have h43 : upd H3 p3 (.lst (lA y ++ lB)) p3 = _ := upd_same
  generalize upd H3 p3 (.lst (lA y ++ lB)) = H4 at hs4 h43 ⊢
  walk_at "rd"
  intro p4 hp4
  have hs5 := same_new hp4 (.lst lC)
  have h54 : upd H4 p4 (.lst lC) p4 = _ := upd_same
  generalize upd H4 p4 (.lst lC) = H5 at hs5 h54 ⊢
  refine ⟨p3, p4, _, _, rfl, rfl, hs5 _ _ h43, h54, smallL (show 18 + 9 ≤ 100000 by decide), fun p5 hp5 => ?_⟩
  rw [show lA y ++ lB ++ lC = (odd27 y).map V.str from rfl]
  have hs6 := same_new hp5 (.lst ((odd27 y).map V.str))
  have h65 : upd H5 p5 (.lst ((odd27 y).map V.str)) p5 = _ := upd_same
  generalize upd H5 p5 (.lst ((odd27 y).map V.str)) = H6 at hs6 h65 ⊢
  have hs16 := hs2.trans (hs3.trans (hs4.trans (hs5.trans hs6)))
  have h27 : (odd27 y).length = 27 := rfl
  have hy0 := Int.emod_nonneg (n / 32) (show (27 : Int) ≠ 0 by decide)
  have hy1 := Int.emod_lt_of_pos (n / 32) (show (0 : Int) < 27 by decide)
  obtain ⟨t, ht, et⟩ := at_str (l := odd27 y) hy0 (by rw [h27]; exact hy1)
  obtain ⟨t1, t2⟩ := odd27_mem ht hya.2
  walk_at "rd"
  refine ⟨D, _, _, i, rfl, rfl, hs16 _ _ hD1, ?_, ?_⟩
  · rw [List.length_map]
    show ixN ws.length (n / 8 % (ws.length : Int)) = some i
    rw [hi]
    unfold ixN
    rw [if_pos (by omega), if_pos (by omega)]
    rfl
  have eset : (ws.map V.str).set i (.str t) = (ws.set i t).map V.str := by rw [List.map_set]
  rw [eset]
  have hs7 : Same H (upd H6 D (.lst ((ws.set i t).map V.str))) := same_upd (hs1.trans hs16) hD
  have h7D : upd H6 D (.lst ((ws.set i t).map V.str)) D = some (.lst ((ws.set i t).map V.str)) := upd_same
  generalize upd H6 D (.lst ((ws.set i t).map V.str)) = H7 at hs7 h7D ⊢
  have hjs := jl_set (m := 8) hiy t1
  walk_at "rd"
  refine ⟨_, D, ws.set i t, rfl, rfl, SqL.of h7D, join_fit (d := 32) (n := 3000) (by omega) (by rw [List.length_set]; omega) (by decide), ?_⟩
  refine q _ _ hs7 ?_ ?_
  · show ∀ c ∈ (Txt.join ⟨#[32]⟩ (ws.set i t)).cps.toList, c < 128
    rw [join_eq]
    refine join_as (by decide) fun z hz => ?_
    rcases List.mem_or_eq_of_mem_set hz with z1 | z1
    · exact (haw z z1).2
    · rw [z1]; exact t2
  · show (Txt.join ⟨#[32]⟩ (ws.set i t)).cps.toList.length ≤ _
    rw [join_eq, join_jl]
    omega
/-- how much texts hold, each with the sign behind it -/
def sm (ws : List Str) : Nat := (ws.map fun y => y.cps.toList.length + 1).sum
theorem sm_app (us vs : List Str) : sm (us ++ vs) = sm us + sm vs := by
  unfold sm
  rw [List.map_append, List.sum_append]
theorem sm_one (y : Str) : sm [y] = y.cps.toList.length + 1 := by
  show y.cps.toList.length + 1 + 0 = _
  rfl
theorem sm_cut (ws : List Str) (i : Nat) : sm (ws.take i) + sm (ws.drop i) = sm ws := by rw [← sm_app, List.take_append_drop]
theorem sm_at {ws : List Str} {i : Nat} {y : Str} (h : ws[i]? = some y) : sm (ws.take (i + 1)) = sm (ws.take i) + (y.cps.toList.length + 1) := by
  rw [List.take_add_one, h, Option.toList_some, sm_app, sm_one]
theorem sm_step (ws : List Str) (i : Nat) : sm (ws.drop i) = sm ((ws.drop i).take 1) + sm (ws.drop (i + 1)) := by
  rw [← sm_cut (ws.drop i) 1, List.drop_drop]
theorem sm_jl {ws : List Str} : jl ws ≤ sm ws := by
  have := (jl_sum ws).1
  unfold sm
  omega
theorem sm_len : ∀ ws : List Str, ws.length ≤ sm ws
  | [] => Nat.le_refl _
  | y :: r => by
    have := sm_len r
    have e : sm (y :: r) = sm [y] + sm r := sm_app [y] r
    rw [e, sm_one, List.length_cons]
    omega
theorem sm_set {ws : List Str} {i m : Nat} {y t : Str} (h : ws[i]? = some y) (ht : t.cps.toList.length ≤ y.cps.toList.length + m) : sm (ws.set i t) ≤ sm ws + m := by
  obtain ⟨hi, hy⟩ := List.getElem?_eq_some_iff.mp h
  have e2 : ws.set i t = ws.take i ++ [t] ++ ws.drop (i + 1) := by rw [List.set_eq_take_append_cons_drop, if_pos hi, List.append_assoc]; rfl
  have h1 := sm_cut ws (i + 1)
  have h2 := sm_at h
  rw [e2, sm_app, sm_app, sm_one]
  omega
theorem cut_lo (ws : List Str) (b : Nat) : cutV (ws.map V.str) none (some (b : Int)) = (ws.take b).map V.str := by
  unfold cutV
  rw [HT.sIx_none, HT.sIx_nat, List.drop_zero, Nat.sub_zero, List.length_map, List.map_take, Nat.min_def]
  split
  · rfl
  · rw [List.take_of_length_le (by rw [List.length_map]; exact Nat.le_refl _), List.take_of_length_le (by rw [List.length_map]; omega)]
theorem cut_hi (ws : List Str) (a : Nat) : cutV (ws.map V.str) (some (a : Int)) none = (ws.drop a).map V.str := by
  unfold cutV
  rw [HT.sIx_none, HT.sIx_nat, List.length_map, List.map_drop, Nat.min_def]
  split
  · rw [List.take_of_length_le (by rw [List.length_drop, List.length_map]; exact Nat.le_refl _)]
  · rw [Nat.sub_self, List.take_zero, List.drop_of_length_le (by rw [List.length_map]; omega)]
theorem cut_one (ws : List Str) (a : Nat) : cutV (ws.map V.str) (some (a : Int)) (some ((a + 1 : Nat) : Int)) = ((ws.drop a).take 1).map V.str := by
  unfold cutV
  rw [HT.sIx_nat, HT.sIx_nat, List.length_map, List.map_take, List.map_drop]
  by_cases h : a < ws.length
  · rw [Nat.min_eq_left (show a ≤ ws.length by omega), Nat.min_eq_left (show a + 1 ≤ ws.length by omega), Nat.add_sub_cancel_left]
  · rw [Nat.min_eq_right (show ws.length ≤ a by omega), Nat.min_eq_right (show ws.length ≤ a + 1 by omega), Nat.sub_self, List.take_zero, List.drop_of_length_le (by rw [List.length_map]; omega)]
    rfl
theorem aw_short {n : Nat} {x : Str} (h1 : x.cps.toList.length ≤ n) (h2 : n ≤ 90000) (h : ∀ c ∈ x.cps.toList, c < 128) : AW x := ⟨Nat.le_trans h1 h2, h⟩
/-- the four rows that may be put in -/
abbrev four54 : List Str := [Str.ofString "", Str.ofString "b 5 0101010 3", Str.ofString "abc 5 0101011 3", Str.ofString "z 5 0101012 3"]
abbrev four54V : List V := [V.str (Str.ofString ""), V.str (Str.ofString "b 5 0101010 3"), V.str (Str.ofString "abc 5 0101011 3"), V.str (Str.ofString "z 5 0101012 3")]
theorem four54_ok : four54.all (fun t => decide (t.cps.toList.length ≤ 15) && t.cps.toList.all fun c => decide (c < 128)) = true := by decide +kernel
theorem four54_mem {t : Str} (h : t ∈ four54) : t.cps.toList.length ≤ 15 ∧ ∀ c ∈ t.cps.toList, c < 128 := by
  have h2 := List.all_eq_true.mp four54_ok t h
  rw [Bool.and_eq_true, decide_eq_true_iff, List.all_eq_true] at h2
  exact ⟨h2.1, fun c hc => of_decide_eq_true (h2.2 c hc)⟩
theorem ixS {ws : List Str} {i : Nat} (h : i < ws.length) : ixN (ws.map V.str).length (i : Int) = some i := by
  rw [List.length_map]
  unfold ixN
  rw [if_pos (by omega), if_pos (by omega)]
  rfl
def sp_law_rows_spoiled : Sp := fun vs H Q _ => ∃ (x : Str) (n : Int) (r : Nat), vs = [.str x, .int n] ∧ (∀ c ∈ x.cps.toList, c < 128) ∧ x.cps.toList.length ≤ 500 ∧ 15 ≤ r ∧ r ≤ 500 ∧ (∀ y ∈ Txt.split x (Str.ofString "\n"), y.cps.toList.length ≤ r) ∧
  ∀ z H', Same H H' → (∀ c ∈ z.cps.toList, c < 128) → z.cps.toList.length ≤ x.cps.toList.length + r + 2 → Q (.str z) H'
theorem ok_law_rows_spoiled (T : Tx K mg a) : FnOk P w K mg base CX0 2 a.f_law_rows_spoiled a.d_law_rows_spoiled ["_law_text", "_law_number_here"] sp_law_rows_spoiled := by
  have G_law_odd := ok_law_odd (P := P) (w := w) (base := base) T
  refine T.law_rows_spoiled.fn.ok sc_law_rows_spoiled (fun vs H Q E h => ?_) (fun cdv A outer s H vs Q E hr h => ?_)
  · obtain ⟨x, n, r, rfl, _⟩ := h
    rfl
  obtain ⟨x, n, r, rfl, hxa, hxl, hr1, hr2, hrow, q⟩ := h
  have hx : AW x := aw_short hxl (by decide) hxa
  have haw : ∀ y ∈ Txt.split x (Str.ofString "\n"), ∀ c ∈ y.cps.toList, c < 128 := fun y hy => (split_part (d := 10) y hy hx).2
  have hsn := Lns.split_ne x (Str.ofString "\n")
  have hsm : sm (Txt.split x (Str.ofString "\n")) = x.cps.toList.length + 1 := by
    have h1 := (jl_sum (Txt.split x (Str.ofString "\n"))).2 hsn
    have h2 : jl (Txt.split x (Str.ofString "\n")) = x.cps.toList.length := by
      rw [← join_jl 10, show Str.join ⟨#[10]⟩ (Txt.split x (Str.ofString "\n")) = x from StrLaws.join_split ..]
    unfold sm
    omega
  have hxs : x.length ≤ 90000 := hx.len
  refine ⟨_, (pss_cons (ps_set (i := 2) sc_law_rows_spoiled.nd rfl (Or.inl rfl) (kpe_bm K rfl PySem.F.plainAttrs_str PySem.F.slot_str_split PySem.F.type_str_split mt_split (pv 0) (pa_cons pe_str pa_nil)))
      (pss_cons (ps_set (i := 3) sc_law_rows_spoiled.nd rfl (Or.inl rfl) (pe_op op_mod (pe_op op_fdiv (pv 1) pe_int) (pe_callB (klen_seq K rfl) rfl T.b_len bt_len (pa_cons (pv 2) pa_nil))))
      (pss_cons (ps_cut (ps_set (i := 4) sc_law_rows_spoiled.nd rfl (Or.inl rfl) (pe_op op_mod (pv 1) pe_int)))
      (pss_cons (ps_cut (ps_if (pt_cmpR op_eq (pv 4) pe_int (nomark _)) (pss_one (ps_set (i := 2) sc_law_rows_spoiled.nd rfl (Or.inl rfl) (pe_op op_cat (pe_slice (ksl_list K rfl) (pv 2) po_none (po_some (pe_op op_add (pv 3) pe_int))) (pe_slice (ksl_list K rfl) (pv 2) (po_some (pv 3)) po_none)))) pss_nil))
      (pss_cons (ps_cut (ps_if (pt_cmpR op_eq (pv 4) pe_int (nomark _)) (pss_cons (ps_set (i := 5) sc_law_rows_spoiled.nd rfl (Or.inl rfl) (pe_op op_cat (pe_slice (ksl_list K rfl) (pv 2) (po_some (pe_op op_add (pv 3) pe_int)) (po_some (pe_op op_add (pv 3) pe_int))) (pe_slice (ksl_list K rfl) (pv 2) (po_some (pv 3)) (po_some (pe_op op_add (pv 3) pe_int)))))
      (pss_one (ps_set (i := 2) sc_law_rows_spoiled.nd rfl (Or.inl rfl) (pe_op op_cat (pe_op op_cat (pe_slice (ksl_list K rfl) (pv 2) po_none (po_some (pv 3))) (pv 5)) (pe_slice (ksl_list K rfl) (pv 2) (po_some (pe_op op_add (pv 3) pe_int)) po_none))))) pss_nil))
      (pss_cons (ps_cut (ps_if (pt_cmpR op_eq (pv 4) pe_int (nomark _)) (pss_one (ps_asg (pe_slice sl_str (pe_ix (kix_list K rfl) (pv 2) (pv 3) (fun _ _ => rfl)) po_none (po_some (pe_op op_mod (pe_op op_fdiv (pv 1) pe_int) (pe_op op_add (pe_callB call_len_str rfl T.b_len bt_len (pa_cons (pe_ix (kix_list K rfl) (pv 2) (pv 3) (fun _ _ => rfl)) pa_nil)) pe_int)))) (pg_sub (pv 2) (pv 3) set_list))) pss_nil))
      (pss_cons (ps_cut (ps_if (pt_cmpR op_eq (pv 4) pe_int (nomark _)) (pss_cons (ps_set (i := 6) sc_law_rows_spoiled.nd rfl (Or.inl rfl) (pe_lst (pa_cons pe_str (pa_cons pe_str (pa_cons pe_str (pa_cons pe_str pa_nil))))))
      (pss_one (ps_set (i := 2) sc_law_rows_spoiled.nd rfl (Or.inl rfl) (pe_op op_cat (pe_op op_cat (pe_slice (ksl_list K rfl) (pv 2) po_none (po_some (pv 3))) (pe_lst (pa_cons (pe_ix (kix_list K rfl) (pv 6) (pe_op op_mod (pe_op op_fdiv (pv 1) pe_int) pe_int) (fun _ _ => rfl)) pa_nil))) (pe_slice (ksl_list K rfl) (pv 2) (po_some (pv 3)) po_none))))) pss_nil))
      (pss_cons (ps_cut (ps_if (pt_cmpR op_gt (pv 4) pe_int (nomark _)) (pss_one (ps_asg (pcall T.law_odd G_law_odd hr rfl (pa_cons (pe_ix (kix_list K rfl) (pv 2) (pv 3) (fun _ _ => rfl)) (pa_cons (pe_op op_fdiv (pv 1) pe_int) pa_nil))) (pg_sub (pv 2) (pv 3) set_list))) pss_nil))
      (pss_one (ps_ret (kpe_bm K rfl PySem.F.plainAttrs_str PySem.F.slot_str_join PySem.F.type_str_join (kmt_join K rfl) pe_str (pa_cons (pv 2) pa_nil)))))))))))), ?_⟩
  walk_at "rd"
  intro D hD
  have hs1 := same_new hD (.lst ((Txt.split x (Str.ofString "\n")).map V.str))
  have hD1 : upd H D (.lst ((Txt.split x (Str.ofString "\n")).map V.str)) D = some (.lst ((Txt.split x (Str.ofString "\n")).map V.str)) := upd_same
  generalize upd H D (.lst ((Txt.split x (Str.ofString "\n")).map V.str)) = H1 at hs1 hD1 ⊢
  generalize Txt.split x (Str.ofString "\n") = ws at haw hsn hsm hrow hD1
  have hwl : 0 < ws.length := List.length_pos_iff.mpr hsn
  have hwl2 := sm_len ws
  have hz0 := Int.emod_nonneg (n / 8) (show (ws.length : Int) ≠ 0 by omega)
  have hz1 := Int.emod_lt_of_pos (n / 8) (show (0 : Int) < ws.length by omega)
  obtain ⟨i, hi⟩ := Int.eq_ofNat_of_zero_le hz0
  have hil : i < ws.length := by omega
  have hiy : ws[i]? = some ws[i] := List.getElem?_eq_getElem hil
  have hya := haw ws[i] (List.getElem_mem hil)
  have hyr := hrow ws[i] (List.getElem_mem hil)
  generalize ws[i] = y at hiy hya hyr
  have el : ((ws.map V.str).length : Int) = (ws.length : Int) := by rw [List.length_map]
  have m0 := Int.emod_nonneg n (show (8 : Int) ≠ 0 by decide)
  walk_at "rd"
  refine ⟨D, _, rfl, .inl (SqL.of hD1), ?_⟩
  rw [el]
  refine ⟨_, _, rfl, rfl, by omega, ?_⟩
  walk_at "rd"
  refine ⟨fun σ H' => σ = [some (.str x), some (.int n), some (.ref D), some (.int (i : Int)), some (.int (n % 8)), none, none] ∧ H1 = H', ?_, ?_⟩
  · walk_at "rd"
    refine ⟨?_, rfl⟩
    rw [← hi]
    rfl
  clear el hz0 hz1 hi
  rintro σ H2 ⟨rfl, rfl⟩
  let M : Nat → St → Hp → Prop := fun k σ H' => ∃ (p : Addr) (us : List Str) (v5 v6 : Option V), σ = [some (.str x), some (.int n), some (.ref p), some (.int (i : Int)), some (.int (n % 8)), v5, v6] ∧ Same H H' ∧ H p = none ∧ H' p = some (.lst (us.map V.str)) ∧ (∀ y ∈ us, ∀ c ∈ y.cps.toList, c < 128) ∧ ((n % 8 < (k : Int) ∧ sm us ≤ sm ws + r + 1) ∨ ((k : Int) ≤ n % 8 ∧ us = ws))
  have keep : ∀ {k : Nat} {p : Addr} {us : List Str} {v5 v6 : Option V} {H' : Hp}, ¬ n % 8 = (k : Int) → Same H H' → H p = none → H' p = some (.lst (us.map V.str)) → (∀ y ∈ us, ∀ c ∈ y.cps.toList, c < 128) → ((n % 8 < (k : Int) ∧ sm us ≤ sm ws + r + 1) ∨ ((k : Int) ≤ n % 8 ∧ us = ws)) →
      M (k + 1) [some (.str x), some (.int n), some (.ref p), some (.int (i : Int)), some (.int (n % 8)), v5, v6] H' := fun hk hs hp hp' ha ho =>
    ⟨_, _, _, _, rfl, hs, hp, hp', ha, by
      rcases ho with ⟨o1, o2⟩ | ⟨o1, o2⟩
      · exact .inl ⟨by omega, o2⟩
      · exact .inr ⟨by omega, o2⟩⟩
  have same : ∀ {k : Nat} {us : List Str}, n % 8 = (k : Int) → ((n % 8 < (k : Int) ∧ sm us ≤ sm ws + r + 1) ∨ ((k : Int) ≤ n % 8 ∧ us = ws)) → us = ws := fun hk ho => by
    rcases ho with ⟨o1, _⟩ | ⟨_, o2⟩
    · omega
    · exact o2
  have ei : ∀ k : Nat, (i : Int) + (k : Int) = ((i + k : Nat) : Int) := fun k => by omega
  have e1 : cutV (ws.map V.str) none (some ((i : Int) + 1)) = (ws.take (i + 1)).map V.str := cut_lo ws (i + 1)
  have e2 : cutV (ws.map V.str) (some (i : Int)) none = (ws.drop i).map V.str := cut_hi ws i
  have e3 : cutV (ws.map V.str) none (some (i : Int)) = (ws.take i).map V.str := cut_lo ws i
  have e4 : cutV (ws.map V.str) (some ((i : Int) + 2)) none = (ws.drop (i + 2)).map V.str := cut_hi ws (i + 2)
  have e5 : cutV (ws.map V.str) (some ((i : Int) + 1)) (some ((i : Int) + 2)) = ((ws.drop (i + 1)).take 1).map V.str := cut_one ws (i + 1)
  have e6 : cutV (ws.map V.str) (some (i : Int)) (some ((i : Int) + 1)) = ((ws.drop i).take 1).map V.str := cut_one ws i
  have d1 := sm_cut ws (i + 1)
  have d2 := sm_cut ws i
  have d3 := sm_at hiy
  have d4 := sm_step ws i
  have d5 : sm (ws.drop (i + 1)) = sm ((ws.drop (i + 1)).take 1) + sm (ws.drop (i + 2)) := sm_step ws (i + 1)
  have lt : ∀ k, (ws.take k).length ≤ 600 := fun k => by rw [List.length_take]; omega
  have ld : ∀ k, (ws.drop k).length ≤ 600 := fun k => by rw [List.length_drop]; omega
  have hs1c := hs1
  refine ⟨M 1, ?_, ?_⟩
  · walk_at "rd"
    rw [decV]
    refine ite2 (fun c1 => ?_) (fun c1 => ?_)
    · have c1 : n % 8 = 0 := of_decide_eq_true c1
      walk_at "rd"
      refine ⟨D, _, rfl, SqL.of hD1, fun p1 hp1 => ?_⟩
      rw [e1]
      have ha := same_new hp1 (.lst ((ws.take (i + 1)).map V.str))
      have ha1 : upd H1 p1 (.lst ((ws.take (i + 1)).map V.str)) p1 = _ := upd_same
      generalize upd H1 p1 (.lst ((ws.take (i + 1)).map V.str)) = H2 at ha ha1 ⊢
      walk_at "rd"
      refine ⟨D, _, rfl, SqL.of (ha _ _ hD1), fun p2 hp2 => ?_⟩
      rw [e2]
      have hb := same_new hp2 (.lst ((ws.drop i).map V.str))
      have hb2 : upd H2 p2 (.lst ((ws.drop i).map V.str)) p2 = _ := upd_same
      generalize upd H2 p2 (.lst ((ws.drop i).map V.str)) = H3 at hb hb2 ⊢
      refine ⟨p1, p2, _, _, rfl, rfl, hb _ _ ha1, hb2, smallL (by rw [List.length_map, List.length_map]; have := lt (i + 1); have := ld i; omega), fun p3 hp3 => ?_⟩
      rw [← List.map_append]
      have h03 := hs1.trans (ha.trans hb)
      refine ⟨p3, _, _, _, rfl, same_add h03 hp3, h03.free hp3, upd_same, fun z hz => ?_, .inl ⟨by omega, ?_⟩⟩
      · rcases List.mem_append.mp hz with z1 | z1
        · exact haw z (List.mem_of_mem_take z1)
        · exact haw z (List.mem_of_mem_drop z1)
      · rw [sm_app]
        omega
    · have c1 : ¬ n % 8 = 0 := fun z => c1 (decide_eq_true z)
      exact keep (k := 0) c1 hs1 hD hD1 haw (.inr ⟨m0, rfl⟩)
  rintro σ H2 ⟨p, us, v5, v6, rfl, hs, hp, hpp, hua, ho⟩
  refine ⟨M 2, ?_, ?_⟩
  · walk_at "rd"
    rw [decV]
    refine ite2 (fun c1 => ?_) (fun c1 => ?_)
    · have c1 : n % 8 = 1 := of_decide_eq_true c1
      have eu : us = ws := same (k := 1) c1 ho
      subst eu
      walk_at "rd"
      refine ⟨p, _, rfl, SqL.of hpp, fun p1 hp1 => ?_⟩
      rw [e5]
      have ha := same_new hp1 (.lst (((us.drop (i + 1)).take 1).map V.str))
      have ha1 : upd H2 p1 (.lst (((us.drop (i + 1)).take 1).map V.str)) p1 = _ := upd_same
      generalize upd H2 p1 (.lst (((us.drop (i + 1)).take 1).map V.str)) = H3 at ha ha1 ⊢
      walk_at "rd"
      refine ⟨p, _, rfl, SqL.of (ha _ _ hpp), fun p2 hp2 => ?_⟩
      rw [e6]
      have hb := same_new hp2 (.lst (((us.drop i).take 1).map V.str))
      have hb2 : upd H3 p2 (.lst (((us.drop i).take 1).map V.str)) p2 = _ := upd_same
      generalize upd H3 p2 (.lst (((us.drop i).take 1).map V.str)) = H4 at hb hb2 ⊢
      have l1 : ∀ k, (((us.drop k).take 1).map V.str).length ≤ 1 := fun k => by rw [List.length_map, List.length_take]; exact Nat.min_le_left _ _
      refine ⟨p1, p2, _, _, rfl, rfl, hb _ _ ha1, hb2, smallL (by have := l1 (i + 1); have := l1 i; omega), fun p3 hp3 => ?_⟩
      rw [← List.map_append]
      have hc := same_new hp3 (.lst (((us.drop (i + 1)).take 1 ++ (us.drop i).take 1).map V.str))
      have hc3 : upd H4 p3 (.lst (((us.drop (i + 1)).take 1 ++ (us.drop i).take 1).map V.str)) p3 = _ := upd_same
      generalize upd H4 p3 (.lst (((us.drop (i + 1)).take 1 ++ (us.drop i).take 1).map V.str)) = H5 at hc hc3 ⊢
      have h5 := ha.trans (hb.trans hc)
      walk_at "rd"
      refine ⟨p, _, rfl, SqL.of (h5 _ _ hpp), fun p4 hp4 => ?_⟩
      rw [e3]
      have hd := same_new hp4 (.lst ((us.take i).map V.str))
      have hd4 : upd H5 p4 (.lst ((us.take i).map V.str)) p4 = _ := upd_same
      generalize upd H5 p4 (.lst ((us.take i).map V.str)) = H6 at hd hd4 ⊢
      walk_at "rd"
      refine ⟨p4, p3, _, _, rfl, rfl, hd4, hd _ _ hc3, smallL (by rw [List.length_map, List.length_map, List.length_append, List.length_take, List.length_take, List.length_take]; omega), fun p5 hp5 => ?_⟩
      rw [← List.map_append]
      have he := same_new hp5 (.lst ((us.take i ++ ((us.drop (i + 1)).take 1 ++ (us.drop i).take 1)).map V.str))
      have he5 : upd H6 p5 (.lst ((us.take i ++ ((us.drop (i + 1)).take 1 ++ (us.drop i).take 1)).map V.str)) p5 = _ := upd_same
      generalize upd H6 p5 (.lst ((us.take i ++ ((us.drop (i + 1)).take 1 ++ (us.drop i).take 1)).map V.str)) = H7 at he he5 ⊢
      have h7 := h5.trans (hd.trans he)
      walk_at "rd"
      refine ⟨p, _, rfl, SqL.of (h7 _ _ hpp), fun p6 hp6 => ?_⟩
      rw [e4]
      have hf := same_new hp6 (.lst ((us.drop (i + 2)).map V.str))
      have hf6 : upd H7 p6 (.lst ((us.drop (i + 2)).map V.str)) p6 = _ := upd_same
      generalize upd H7 p6 (.lst ((us.drop (i + 2)).map V.str)) = H8 at hf hf6 ⊢
      refine ⟨p5, p6, _, _, rfl, rfl, hf _ _ he5, hf6, smallL (by rw [List.length_map, List.length_map, List.length_append, List.length_append, List.length_take, List.length_take, List.length_take]; have := ld (i + 2); omega), fun p7 hp7 => ?_⟩
      rw [← List.map_append]
      have h08 := hs.trans (h7.trans hf)
      refine ⟨p7, _, _, _, rfl, same_add h08 hp7, h08.free hp7, upd_same, fun z hz => ?_, .inl ⟨by omega, ?_⟩⟩
      · rcases List.mem_append.mp hz with z1 | z1
        · rcases List.mem_append.mp z1 with z2 | z2
          · exact haw z (List.mem_of_mem_take z2)
          · rcases List.mem_append.mp z2 with z3 | z3
            · exact haw z (List.mem_of_mem_drop (List.mem_of_mem_take z3))
            · exact haw z (List.mem_of_mem_drop (List.mem_of_mem_take z3))
        · exact haw z (List.mem_of_mem_drop z1)
      · rw [sm_app, sm_app, sm_app]
        omega
    · have c1 : ¬ n % 8 = 1 := fun z => c1 (decide_eq_true z)
      exact keep (k := 1) c1 hs hp hpp hua ho
  rintro σ H2 ⟨p, us, v5, v6, rfl, hs, hp, hpp, hua, ho⟩
  refine ⟨M 3, ?_, ?_⟩
  · walk_at "rd"
    rw [decV]
    refine ite2 (fun c1 => ?_) (fun c1 => ?_)
    · have c1 : n % 8 = 2 := of_decide_eq_true c1
      have eu : us = ws := same (k := 2) c1 ho
      subst eu
      have ea : atI (us.map V.str) (i : Int) = some (.str y) := atI_nat (by rw [List.getElem?_map, hiy]; rfl)
      have hyz : y.length ≤ sizeLine := smallL (by have := len_eq y; omega)
      have hq0 := Int.emod_nonneg (n / 64) (show (y.length : Int) + 1 ≠ 0 by omega)
      obtain ⟨j, hj⟩ := Int.eq_ofNat_of_zero_le hq0
      have esl := Unl.slice_to y j hj
      walk_at "rd"
      generalize Txt.slice y none (some (n / 64 % ((y.length : Int) + 1))) = t at esl ⊢
      refine ⟨p, _, _, i, rfl, rfl, hpp, ?_, ?_⟩
      · exact ixS hil
      have eset : (us.map V.str).set i (.str t) = (us.set i t).map V.str := by rw [List.map_set]
      rw [eset]
      refine ⟨p, _, _, _, rfl, same_upd hs hp, hp, upd_same, fun z hz => ?_, .inl ⟨by omega, ?_⟩⟩
      · rcases List.mem_or_eq_of_mem_set hz with z1 | z1
        · exact haw z z1
        · rw [z1, esl]
          exact fun c hc => hya c (List.mem_of_mem_take hc)
      · have := sm_set (m := 0) (t := t) hiy (by rw [esl, List.length_take]; omega)
        omega
    · have c1 : ¬ n % 8 = 2 := fun z => c1 (decide_eq_true z)
      exact keep (k := 2) c1 hs hp hpp hua ho
  rintro σ H2 ⟨p, us, v5, v6, rfl, hs, hp, hpp, hua, ho⟩
  refine ⟨M 4, ?_, ?_⟩
  · walk_at "rd"
    rw [decV]
    refine ite2 (fun c1 => ?_) (fun c1 => ?_)
    · have c1 : n % 8 = 3 := of_decide_eq_true c1
      have eu : us = ws := same (k := 3) c1 ho
      subst eu
      walk_at "rd"
      intro p1 hp1
      have ha := same_new hp1 (.lst four54V)
      have ha1 : upd H2 p1 (.lst four54V) p1 = some (.lst (four54.map V.str)) := upd_same
      generalize upd H2 p1 (.lst four54V) = H3 at ha ha1 ⊢
      walk_at "rd"
      refine ⟨p, _, rfl, SqL.of (ha _ _ hpp), fun p2 hp2 => ?_⟩
      rw [e3]
      have hb := same_new hp2 (.lst ((us.take i).map V.str))
      have hb2 : upd H3 p2 (.lst ((us.take i).map V.str)) p2 = _ := upd_same
      generalize upd H3 p2 (.lst ((us.take i).map V.str)) = H4 at hb hb2 ⊢
      have hq0 := Int.emod_nonneg (n / 64) (show (4 : Int) ≠ 0 by decide)
      have hq1 := Int.emod_lt_of_pos (n / 64) (show (0 : Int) < 4 by decide)
      obtain ⟨t, ht, et⟩ := at_str (l := four54) hq0 hq1
      obtain ⟨t1, t2⟩ := four54_mem ht
      have hb1 := hb _ _ ha1
      walk_at "rd"
      intro p3 hp3
      have hc := same_new hp3 (.lst [V.str t])
      have hc3 : upd H4 p3 (.lst [V.str t]) p3 = some (.lst ([t].map V.str)) := upd_same
      generalize upd H4 p3 (.lst [V.str t]) = H5 at hc hc3 ⊢
      refine ⟨p2, p3, _, _, rfl, rfl, hc _ _ hb2, hc3, smallL (by rw [List.length_map, List.length_map]; have := lt i; show _ + 1 ≤ _; omega), fun p4 hp4 => ?_⟩
      rw [← List.map_append]
      have hd := same_new hp4 (.lst ((us.take i ++ [t]).map V.str))
      have hd4 : upd H5 p4 (.lst ((us.take i ++ [t]).map V.str)) p4 = _ := upd_same
      generalize upd H5 p4 (.lst ((us.take i ++ [t]).map V.str)) = H6 at hd hd4 ⊢
      have h6 := ha.trans (hb.trans (hc.trans hd))
      walk_at "rd"
      refine ⟨p, _, rfl, SqL.of (h6 _ _ hpp), fun p5 hp5 => ?_⟩
      rw [e2]
      have he := same_new hp5 (.lst ((us.drop i).map V.str))
      have he5 : upd H6 p5 (.lst ((us.drop i).map V.str)) p5 = _ := upd_same
      generalize upd H6 p5 (.lst ((us.drop i).map V.str)) = H7 at he he5 ⊢
      refine ⟨p4, p5, _, _, rfl, rfl, he _ _ hd4, he5, smallL (by rw [List.length_map, List.length_map, List.length_append]; have := lt i; have := ld i; show _ + 1 + _ ≤ _; omega), fun p6 hp6 => ?_⟩
      rw [← List.map_append]
      have h07 := hs.trans (h6.trans he)
      refine ⟨p6, _, _, _, rfl, same_add h07 hp6, h07.free hp6, upd_same, fun z hz => ?_, .inl ⟨by omega, ?_⟩⟩
      · rcases List.mem_append.mp hz with z1 | z1
        · rcases List.mem_append.mp z1 with z2 | z2
          · exact haw z (List.mem_of_mem_take z2)
          · rw [List.mem_singleton.mp z2]; exact t2
        · exact haw z (List.mem_of_mem_drop z1)
      · rw [sm_app, sm_app, sm_one]
        omega
    · have c1 : ¬ n % 8 = 3 := fun z => c1 (decide_eq_true z)
      exact keep (k := 3) c1 hs hp hpp hua ho
  rintro σ H2 ⟨p, us, v5, v6, rfl, hs, hp, hpp, hua, ho⟩
  have m8 := Int.emod_lt_of_pos n (show (0 : Int) < 8 by decide)
  refine ⟨M 8, ?_, ?_⟩
  · walk_at "rd"
    refine ite2 (fun c1 => ?_) (fun c1 => ?_)
    · have c1 : 3 < n % 8 := of_decide_eq_true c1
      have eu : us = ws := by
        rcases ho with ⟨o1, _⟩ | ⟨_, o2⟩
        · omega
        · exact o2
      subst eu
      have ea : atI (us.map V.str) (i : Int) = some (.str y) := atI_nat (by rw [List.getElem?_map, hiy]; rfl)
      have hyw : AW y := aw_short hyr (by omega) hya
      have hyl : y.length ≤ 2000 := by have := len_eq y; omega
      walk_at "rd"
      refine ⟨y, n / 64, rfl, hyw, hyl, fun t H3 hs3 t2 t1 => ?_⟩
      walk_at "rd"
      refine ⟨p, _, _, i, rfl, rfl, hs3 _ _ hpp, ixS hil, ?_⟩
      have eset : (us.map V.str).set i (.str t) = (us.set i t).map V.str := by rw [List.map_set]
      rw [eset]
      refine ⟨p, _, _, _, rfl, same_upd (hs.trans hs3) hp, hp, upd_same, fun z hz => ?_, .inl ⟨by omega, ?_⟩⟩
      · rcases List.mem_or_eq_of_mem_set hz with z1 | z1
        · exact haw z z1
        · rw [z1]; exact t2
      · have := sm_set (m := 8) (t := t) hiy t1
        omega
    · have c1 : ¬ 3 < n % 8 := fun z => c1 (decide_eq_true z)
      refine ⟨p, us, _, _, rfl, hs, hp, hpp, hua, .inl ⟨by omega, ?_⟩⟩
      rcases ho with ⟨_, o2⟩ | ⟨o1, _⟩
      · exact o2
      · omega
  rintro σ H2 ⟨p, us, v5, v6, rfl, hs, hp, hpp, hua, ho⟩
  have hsu : sm us ≤ sm ws + r + 1 := by
    rcases ho with ⟨_, o2⟩ | ⟨o1, _⟩
    · exact o2
    · omega
  have hju := sm_jl (ws := us)
  have hlu := sm_len us
  walk_at "rd"
  refine ⟨_, p, us, rfl, rfl, SqL.of hpp, join_fit (d := 10) (n := 3000) (by omega) (by omega) (by decide), ?_⟩
  refine q _ _ hs ?_ ?_
  · show ∀ c ∈ (Txt.join ⟨#[10]⟩ us).cps.toList, c < 128
    rw [join_eq]
    exact join_as (by decide) hua
  · show (Txt.join ⟨#[10]⟩ us).cps.toList.length ≤ _
    rw [join_eq, join_jl]
    omega
/-- what stands for a row that was read, or for one that could not be -/
def OptAt (H : Hp) (v : V) : Option Cs.Row → Prop
  | none => v = .non
  | some r => Cs.RowAt H v r
theorem OptAt.same {H H' : Hp} {v : V} {o : Option Cs.Row} (h : OptAt H v o) (s : Same H H') : OptAt H' v o := by
  cases o with
  | none => exact h
  | some r => exact Cs.RowAt.same h s
theorem opts_same {H H' : Hp} {vs : List V} {os : List (Option Cs.Row)} (h : Paired (OptAt H) vs os) (s : Same H H') : Paired (OptAt H') vs os := Paired.mapP h fun _ _ z => z.same s
theorem opts_upd {H : Hp} {l : Addr} {o ys : HO} {vs : List V} {os : List (Option Cs.Row)} (h : Paired (OptAt H) vs os) (hl : H l = some ys) (hn : ∀ z, ys ≠ .tup z) : Paired (OptAt (upd H l o)) vs os :=
  Paired.mapP h fun v p hv => by
    cases p with
    | none => exact hv
    | some r =>
      obtain ⟨t, e, ht⟩ := hv
      exact ⟨t, e, by rw [upd_ne (ne_of ht hl fun z => hn _ z.symm)]; exact ht⟩
def optD : Option Cs.Row → PyData
  | none => .none
  | some r => Cs.rowD r
theorem opts_den {K : PySem.W.Frag} {H : Hp} : ∀ {vs : List V} {os : List (Option Cs.Row)}, Paired (OptAt H) vs os → (∀ r, some r ∈ os → PyData.canLay0 (.str r.s) = true) → DenL K H vs (os.map optD)
  | _, _, .nil, _ => .nil
  | _, _, .cons (b := none) e r, c => by
    have e : _ = V.non := e
    subst e
    exact .cons .non (opts_den r fun x hx => c x (List.mem_cons_of_mem _ hx))
  | _, _, .cons (b := some q) ⟨t, e, h⟩ r, c => by
    subst e
    exact .cons (.tup (SqT.of h) (.cons (.str _ (c q List.mem_cons_self)) (.cons (.int _) (.cons (.int _) (.cons (.int _) .nil))))) (opts_den r fun x hx => c x (List.mem_cons_of_mem _ hx))
theorem opts_none : ∀ os : List (Option Cs.Row), (os.map optD).any (fun c => PyData.eqv c .none) = os.any (·.isNone)
  | [] => rfl
  | none :: os => by
    rw [List.map_cons, List.any_cons, List.any_cons]
    rfl
  | some r :: os => by
    rw [List.map_cons, List.any_cons, List.any_cons, opts_none os]
    rfl
theorem opts_all : ∀ {os : List (Option Cs.Row)}, os.any (·.isNone) = false → ∃ rs : List Cs.Row, os = rs.map some
  | [], _ => ⟨[], rfl⟩
  | none :: os, h => by rw [List.any_cons] at h; cases h
  | some r :: os, h => by
    rw [List.any_cons] at h
    obtain ⟨rs, e⟩ := opts_all (os := os) h
    exact ⟨r :: rs, by rw [e]; rfl⟩
theorem opts_rows {H : Hp} : ∀ {vs : List V} {rs : List Cs.Row}, Paired (OptAt H) vs (rs.map some) → Paired (Cs.RowAt H) vs rs
  | _, [], h => by cases h; exact .nil
  | _, r :: rs, h => by
    cases h with
    | cons x t => exact .cons x (opts_rows t)
theorem rdRows_none {ls : List Str} (h : (ls.map rdRow).any (·.isNone) = true) : rdRows ls = none := by
  obtain ⟨o, ho, hn⟩ := List.any_eq_true.mp h
  obtain ⟨x, hx, e⟩ := List.mem_map.mp ho
  obtain ⟨i, hi, ei⟩ := List.getElem_of_mem hx
  exact rdRows_no (i := i) (x := x) (by rw [List.getElem?_eq_getElem hi, ei]) (by rw [e]; exact Option.isNone_iff_eq_none.mp hn)
theorem tth_le : ∀ (cs : List Nat) (n : Nat), (∀ c ∈ cs, isBit c = true) → cs.foldl (fun n c => n * 2 + (c - 48)) n + 1 ≤ (n + 1) * 2 ^ cs.length
  | [], n, _ => by simp
  | c :: cs, n, h => by
    have h1 := tth_le cs (n * 2 + (c - 48)) fun d hd => h d (List.mem_cons_of_mem _ hd)
    have h2 : c - 48 ≤ 1 := by rcases isBit_iff (h c List.mem_cons_self) with z | z <;> omega
    rw [List.foldl_cons, List.length_cons, Nat.pow_succ]
    refine Nat.le_trans h1 ?_
    rw [Nat.mul_comm (2 ^ cs.length) 2, ← Nat.mul_assoc]
    exact Nat.mul_le_mul_right _ (by omega)
theorem num_nn {x : Str} (h : Cp.isNum x = true) : 0 ≤ Cp.numV x := by
  have hl := Cp.num_len h
  unfold Cp.isNum at h
  simp only [Bool.and_eq_true] at h
  have hd : PySem.NumText.AllDigits x.cps.toList := fun c hc => by
    have := List.all_eq_true.mp h.2 c hc
    unfold Cp.isFig at this
    simp only [Bool.and_eq_true, decide_eq_true_iff] at this
    exact this
  have e : x.cps.toList.length = x.length := Array.length_toList
  have := PySem.intText_digits hd (fun z => by rw [z] at hl; exact absurd hl.1 (by decide)) (by omega)
  unfold Cp.numV
  rw [this]
  exact Int.natCast_nonneg _
/-- what a row that was read holds -/
theorem rdRow_in {x : Str} {r : Cs.Row} (h : rdRow x = some r) : 0 ≤ r.w ∧ 0 ≤ r.t ∧ r.t ≤ 127 ∧ 0 ≤ r.n := by
  unfold rdRow at h
  by_cases c : isRow (Txt.split x " ") = true
  · rw [if_pos c] at h
    obtain ⟨s0, w0, t0, n0, e, _, h2, h3, h4⟩ := isRow_four c
    rw [e] at h
    cases h
    have hb : t0.cps.toList.length = 7 ∧ ∀ c ∈ t0.cps.toList, isBit c = true := by
      unfold isTth at h3
      rw [Bool.and_eq_true, decide_eq_true_iff, List.all_eq_true] at h3
      exact h3
    have h5 := tth_le t0.cps.toList 0 hb.2
    rw [hb.1] at h5
    refine ⟨num_nn h2, Int.natCast_nonneg _, ?_, num_nn h4⟩
    show ((tthN t0.cps.toList : Nat) : Int) ≤ 127
    unfold tthN
    omega
  · rw [if_neg c] at h
    cases h
theorem not_sign {x : Str} (h : ¬ (x.length : Int) = 1) : Cs.isSign x = false := by
  have hxl : x.cps.toList.length = x.length := Array.length_toList
  unfold Cs.isSign
  split
  · rename_i c e
    rw [e] at hxl
    have hxl : 1 = x.length := hxl
    omega
  · rfl
theorem in_sign {n : Nat} {x : Str} (hx : Cs.SgOk n x) (h : (x.length : Int) = 1) : (!(Builtin.Str.occurrences (Str.ofString "abcdefghijklmnopqrstuvwxyz.,-'") x 0 (Str.ofString "abcdefghijklmnopqrstuvwxyz.,-'").length 1).isEmpty) = Cs.isSign x := by
  have hxl : x.cps.toList.length = x.length := Array.length_toList
  obtain ⟨c, hc⟩ : ∃ c, x.cps.toList = [c] := List.length_eq_one_iff.mp (by omega)
  have ex : x = sg c := Lns.str_ext hc
  have hc128 : c < 128 := hx.2 c (by rw [hc]; exact List.mem_singleton.mpr rfl)
  unfold Cs.isSign
  rw [hc, ex]
  exact Cs.sign_in c hc128
theorem cut_take_all (xs : List V) (n : Nat) : cutV xs none (some (n : Int)) = xs.take n := by
  unfold cutV
  rw [HT.sIx_none, HT.sIx_nat, List.drop_zero, Nat.sub_zero, Nat.min_def]
  split
  · rfl
  · rw [List.take_of_length_le (Nat.le_refl _), List.take_of_length_le (by omega)]
theorem chan_iff (r : Cs.Row) : Cs.isChan r = true ↔ Cs.isSign r.s = true ∧ (1 ≤ r.w ∧ r.w ≤ 99) ∧ (0 ≤ r.t ∧ r.t ≤ 127) ∧ (0 ≤ r.n ∧ r.n ≤ 40) := by
  unfold Cs.isChan
  simp only [Bool.and_eq_true, decide_eq_true_iff, and_assoc]
theorem stand_ok {ah : List Cs.Row} {r : Cs.Row} (h1 : Cs.isChan r = true) (h2 : ∀ r' ∈ ah, r'.s ≠ r.s ∧ r'.t ≠ r.t) : Cs.stand ah r = true := by
  unfold Cs.stand
  have e2 : Cs.place ah r.s = none := Cs.place_none fun j r' _ hj e => (h2 r' (List.mem_of_getElem? hj)).1 e
  have e3 : r.t ∉ ah.map fun r => r.t := fun hm => by
    obtain ⟨r', hr', e⟩ := List.mem_map.mp hm
    exact (h2 r' hr').2 e
  rw [h1, e2, decide_eq_false e3]
  rfl
theorem stand_no {ah : List Cs.Row} {r : Cs.Row} (h : Cs.isChan r = false) : Cs.stand ah r = false := by
  unfold Cs.stand
  rw [h]
  rfl
theorem stand_hit {ah : List Cs.Row} {r r' : Cs.Row} (hr : r' ∈ ah) (h : r'.s = r.s ∨ r'.t = r.t) : Cs.stand ah r = false := by
  cases hc : Cs.stand ah r with
  | false => rfl
  | true =>
    exfalso
    unfold Cs.stand at hc
    simp only [Bool.and_eq_true, Bool.not_eq_true', decide_eq_false_iff_not, Option.isNone_iff_eq_none] at hc
    rcases h with e | e
    · exact Cs.place_mem_none hc.1.2 (List.mem_map.mpr ⟨r', hr, e⟩)
    · exact hc.2 (List.mem_map.mpr ⟨r', hr, e⟩)
/-- what is told, or due, of a text -/
def Ans54 (H : Hp) (v : V) (ls : List Str) : Prop := ∃ p, v = .ref p ∧ ((rdRows ls = none ∧ H p = some (.lst [.str (Str.ofString "text")])) ∨
  (∃ rs k, rdRows ls = some rs ∧ Cs.Looks rs (some k) ∧ H p = some (.lst [.str (Str.ofString "case"), .int ((k : Nat) : Int)])) ∨
  (∃ rs zs, rdRows ls = some rs ∧ Cs.Looks rs none ∧ H p = some (.lst (.str (Str.ofString "good") :: zs)) ∧ Paired (Cs.RowAt H) zs rs))
def sp_law_due : Sp := fun vs H Q _ => ∃ (x : Str), vs = [.str x] ∧ (∀ c ∈ x.cps.toList, c < 128) ∧ x.cps.toList.length ≤ 998 ∧ ∀ v H', Same H H' → Ans54 H' v (Txt.split x (Str.ofString "\n")) → Q v H'
theorem ok_law_due (T : Tx K mg a) : FnOk P w K mg base CX0 3 a.f_law_due a.d_law_due ["_law_text"] sp_law_due := by
  have G_law_channel := ok_law_channel (P := P) (w := w) (base := base) T
  refine T.law_due.fn.ok sc_law_due (fun vs H Q E h => ?_) (fun cdv A outer s H vs Q E hr h => ?_)
  · obtain ⟨x, rfl, _⟩ := h
    rfl
  obtain ⟨x, rfl, hxa, hxl, q⟩ := h
  have hx : AW x := aw_short hxl (by decide) hxa
  have haw : ∀ y ∈ Txt.split x (Str.ofString "\n"), AW y := fun y hy => split_part (d := 10) y hy hx
  have hrl : ∀ y ∈ Txt.split x (Str.ofString "\n"), y.length ≤ 1000 := fun y hy => by
    have h := (join_part (d := 10) hy).2
    rw [show Str.join ⟨#[10]⟩ (Txt.split x (Str.ofString "\n")) = x from StrLaws.join_split ..] at h
    rw [len_eq]
    omega
  have hsl : (Txt.split x (Str.ofString "\n")).length ≤ 1000 := by
    have := split_len x (Str.ofString "\n")
    have := len_eq x
    omega
  have hxs : x.length ≤ 90000 := hx.len
  have hlsn := Lns.split_ne x (Str.ofString "\n")
  refine ⟨_, (pss_cons (ps_setC (i := 1) sc_law_due.nd rfl (Or.inl rfl) rfl (kpi_list K rfl (kpe_bm K rfl PySem.F.plainAttrs_str PySem.F.slot_str_split PySem.F.type_str_split mt_split (pv 0) (pa_cons pe_str pa_nil))) (BlkOk.of (N' := ["_law_text", "_law_case_here", "_law_at", "_law_sign_here", "_law_width", "_law_teeth", "_law_many", "_law_other", "_law_row_here"]) (ms := []) (k := 1) (by rfl)) (fun _ _ _ _ _ => (pg_name (i := 8) (show List.Nodup (["_law_text", "_law_case_here", "_law_at", "_law_sign_here", "_law_width", "_law_teeth", "_law_many", "_law_other", "_law_row_here"] : List Str) from by decide +kernel) rfl (Or.inl rfl))) (fun _ _ _ _ _ => pts_nil) (fun _ _ _ _ _ => (pcall T.law_channel G_law_channel hr rfl (pa_cons (pv 8) pa_nil))))
      (pss_cons (ps_if (pt_cmpR (kin_seqD K rfl hr.units) pe_non (pv 1) (by with_unfolding_all rfl)) (pss_one (ps_ret (pe_lst (pa_cons pe_str pa_nil)))) pss_nil)
      (pss_cons (ps_for PassesOwn.never rfl (pi_range1 rfl T.b_range (pa_cons (pe_callB (klen_seq K rfl) rfl T.b_len bt_len (pa_cons (pv 1) pa_nil)) pa_nil)) (pg_name (i := 2) sc_law_due.nd rfl (Or.inl rfl)) (pss_cons (ps_asg (pe_ix (kix_list K rfl) (pv 1) (pv 2) (fun _ _ => rfl)) (kpg_tup K rfl (n := 4) rfl (pgs_cons (pg_name (i := 3) sc_law_due.nd rfl (Or.inl rfl)) (pgs_cons (pg_name (i := 4) sc_law_due.nd rfl (Or.inl rfl)) (pgs_cons (pg_name (i := 5) sc_law_due.nd rfl (Or.inl rfl)) (pgs_cons (pg_name (i := 6) sc_law_due.nd rfl (Or.inl rfl)) pgs_nil))))))
      (pss_cons (ps_if (PW.pt (pw_or (pt_cmpR op_gt (pv 2) pe_int (nomark _)) (pw_or (pt_cmpR op_ne (pe_callB call_len_str rfl T.b_len bt_len (pa_cons (pv 3) pa_nil)) pe_int (nomark _)) (pw_or1 (pt_cmpR op_notIn_str (pv 3) pe_str (by with_unfolding_all rfl)))))) (pss_one (ps_ret (pe_lst (pa_cons pe_str (pa_cons (pv 2) pa_nil))))) pss_nil)
      (pss_cons (ps_if (PW.pt (pw_or (pt_cmpR op_lt (pv 4) pe_int (nomark _)) (pw_or (pt_cmpR op_gt (pv 4) pe_int (nomark _)) (pw_or1 (pt_cmpR op_gt (pv 6) pe_int (nomark _)))))) (pss_one (ps_ret (pe_lst (pa_cons pe_str (pa_cons (pv 2) pa_nil))))) pss_nil)
      (pss_one (ps_for PassesOwn.never rfl (kpi_list K rfl (pe_slice (ksl_list K rfl) (pv 1) po_none (po_some (pv 2)))) (pg_name (i := 7) sc_law_due.nd rfl (Or.inl rfl)) (pss_one (ps_if (PW.pt (pw_or (pt_cmpR op_eq (pe_ix (kix_tup K rfl) (pv 7) pe_int (fun _ _ => rfl)) (pv 3) (nomark _)) (pw_or1 (pt_cmpR op_eq (pe_ix (kix_tup K rfl) (pv 7) pe_int (fun _ _ => rfl)) (pv 5) (nomark _))))) (pss_one (ps_ret (pe_lst (pa_cons pe_str (pa_cons (pv 2) pa_nil))))) pss_nil))))))))
      (pss_one (ps_ret (pe_op op_cat (pe_lst (pa_cons pe_str pa_nil)) (pv 1))))))), ?_⟩
  walk_at "rd"
  intro p1 hp1
  have hs1 := same_new hp1 (.lst ((Txt.split x (Str.ofString "\n")).map V.str))
  have h11 : upd H p1 (.lst ((Txt.split x (Str.ofString "\n")).map V.str)) p1 = some (.lst ((Txt.split x (Str.ofString "\n")).map V.str)) := upd_same
  generalize upd H p1 (.lst ((Txt.split x (Str.ofString "\n")).map V.str)) = H1 at hs1 h11 ⊢
  generalize Txt.split x (Str.ofString "\n") = ls at haw hrl hsl hlsn q h11
  refine ⟨p1, rfl, ⟨_, SqL.of h11⟩, fun D hD => ?_⟩
  refine comp_list (a := p1) (xs := ls.map V.str) (fun j zs σ H6 => ∃ (v8 : Option V), σ = [some (.str x), none, none, none, none, none, none, none, v8] ∧ Same H1 H6 ∧ H6 D = some (.lst zs) ∧ Paired (OptAt H6) zs ((ls.take j).map rdRow))
    ?_ ?_ ?_ ?_
  · exact ⟨none, rfl, same_new hD _, upd_same, .nil⟩
  · rintro j zs σ H6 hj ⟨_, _, hs, _⟩
    exact hs.seq (SqL.of h11)
  · rintro j y zs σ H6 hy hjl ⟨v8, rfl, hs, hh, hz⟩
    rw [List.getElem?_map] at hy
    obtain ⟨y, hyj, rfl⟩ := Option.map_eq_some_iff.mp hy
    have hym := List.mem_of_getElem? hyj
    have hzl := Paired.length hz
    have htl : ((ls.take j).map rdRow).length ≤ 1000 := by rw [List.length_map, List.length_take]; omega
    walk_at "rd"
    refine ⟨haw y hym, fun v H8 hs8 hv => ?_⟩
    have hh8 := hs8 _ _ hh
    refine cnext hjl hh8 (by omega) ⟨_, rfl, same_upd (hs.trans hs8) hD, upd_same, ?_⟩
    rw [List.take_add_one, hyj, Option.toList_some, List.map_append]
    refine Paired.snoc (opts_upd (opts_same hz hs8) hh8 (fun z e => by cases e)) ?_
    unfold ChanV at hv
    cases hrd : rdRow y with
    | none => rw [hrd] at hv; exact hv
    | some r =>
      rw [hrd] at hv
      obtain ⟨pr, rfl, hpr, hpr8⟩ := hv
      have hprD : pr ≠ D := fun e => by rw [e, hh] at hpr; cases hpr
      exact ⟨pr, rfl, by rw [upd_ne hprD]; exact hpr8⟩
  rintro zs σ H6 ⟨v8, rfl, hs, hh, hz⟩
  rw [List.length_map, List.take_of_length_le (Nat.le_refl _)] at hz
  have hs6 := hs1.trans hs
  have hD0 : H D = none := hs1.free hD
  have hsg : ∀ r, some r ∈ ls.map rdRow → Cs.SgOk 1000 r.s := fun r hr => by
    obtain ⟨y, hy, e⟩ := List.mem_map.mp hr
    exact rdRow_sign e (haw y hy) (hrl y hy)
  have hin : ∀ r, some r ∈ ls.map rdRow → 0 ≤ r.w ∧ 0 ≤ r.t ∧ r.t ≤ 127 ∧ 0 ≤ r.n := fun r hr => by
    obtain ⟨y, hy, e⟩ := List.mem_map.mp hr
    exact rdRow_in e
  walk_at "rd"
  refine ⟨D, zs, _, .none, rfl, SqL.of hh, opts_den hz fun r hr => (hsg r hr).lay, .non, by decide, ?_⟩
  rw [opts_none]
  cases hany : (ls.map rdRow).any (·.isNone) with
  | true =>
    walk_at "rd"
    try refine iteT ?_
    walk_at "rd"
    intro pa hpa
    exact q _ _ (same_add hs6 hpa) ⟨pa, rfl, .inl ⟨rdRows_none hany, upd_same⟩⟩
  | false =>
    obtain ⟨rs, ers⟩ := opts_all hany
    rw [ers] at hz hsg hin
    have hz := opts_rows hz
    have hzl := Paired.length hz
    have hall := rdRows_all ers
    have hrl2 : rs.length = ls.length := by
      have := congrArg List.length ers
      rw [List.length_map, List.length_map] at this
      omega
    have hsg : ∀ r ∈ rs, Cs.SgOk 1000 r.s := fun r hr => hsg r (List.mem_map.mpr ⟨r, hr, rfl⟩)
    have hin : ∀ r ∈ rs, 0 ≤ r.w ∧ 0 ≤ r.t ∧ r.t ≤ 127 ∧ 0 ≤ r.n := fun r hr => hin r (List.mem_map.mpr ⟨r, hr, rfl⟩)
    walk_at "rd"
    try refine iteF ?_
    walk_at "rd"
    refine ⟨D, _, rfl, .inl (SqL.of hh), ?_⟩
    walk_at "rd"
    refine for_range (lo := 0) (n := ((zs.length : Nat) : Int).toNat) (fun i σ H3 => ∃ (v2 v3 v4 v5 v6 v7 : Option V), σ = [some (.str x), some (.ref D), v2, v3, v4, v5, v6, v7] ∧ Same H6 H3 ∧ Cs.AllStand rs i)
      ⟨none, none, none, none, none, none, rfl, Same.refl _, fun i r h => absurd h (Nat.not_lt_zero _)⟩ ?_ ?_
    · rintro i σ H3 hi ⟨v2, v3, v4, v5, v6, v7, rfl, hs3, hst⟩
      rw [Int.zero_add]
      have hix : i < zs.length := by omega
      have hxi : zs[i]? = some zs[i] := List.getElem?_eq_getElem hix
      obtain ⟨r, hri, t, et, ht⟩ := Cs.pd_get hz hxi
      rw [et] at hxi
      have ea : atI zs (i : Int) = some (.ref t) := atI_nat hxi
      have hrm := List.mem_of_getElem? hri
      have hrok := hsg r hrm
      obtain ⟨n1, n2, n3, n4⟩ := hin r hrm
      have hfew := hst.few (by omega)
      have hsl2 : r.s.length ≤ 1000 := by have := hrok.1; have := len_eq r.s; omega
      have bad : Cs.stand (rs.take i) r = false → ∀ H4, Same H6 H4 → ∀ pa, H4 pa = none → Q (.ref pa) (upd H4 pa (.lst [.str (Str.ofString "case"), .int (i : Int)])) := fun hb H4 hs4 pa hpa =>
        q _ _ (same_add (hs6.trans hs4) hpa) ⟨pa, rfl, .inr (.inl ⟨rs, i, hall, .bad hst hri hb, upd_same⟩)⟩
      refine ⟨_, rfl, ?_⟩
      refine ⟨_, rfl, ?_⟩
      refine ⟨D, _, _, _, rfl, rfl, SqL.of (hs3 _ _ hh), ea, ?_⟩
      clear ea
      refine ⟨_, _, rfl, SqT.of (hs3 _ _ ht), rfl, ?_⟩
      walk_at "tg"
      walk_at "tg"
      walk_at "tg"
      walk_at "tg"
      try refine And.intro rfl ?_
      walk_at "rd"
      refine ite2 (fun c1 => ?_) (fun c1 => ?_)
      · have c1 : (29 : Int) < (i : Int) := of_decide_eq_true c1
        have hb : Cs.stand (rs.take i) r = false := by
          cases hc : Cs.stand (rs.take i) r with
          | false => rfl
          | true =>
            have := (hst.succ hri hc).few (by omega)
            omega
        walk_at "rd"
        intro pa hpa
        exact bad hb _ hs3 pa hpa
      have c1 : ¬ (29 : Int) < (i : Int) := fun z => c1 (decide_eq_true z)
      walk_at "rd"
      try refine ⟨smallL (by omega), ?_⟩
      walk_at "rd"
      rw [decV]
      refine ite2 (fun c2 => ?_) (fun c2 => ?_)
      · have c2 : ¬ (r.s.length : Int) = 1 := fun z => by rw [decide_eq_true z] at c2; cases c2
        have hb : Cs.stand (rs.take i) r = false := stand_no (by unfold Cs.isChan; rw [not_sign c2]; rfl)
        walk_at "rd"
        intro pa hpa
        exact bad hb _ hs3 pa hpa
      have c2 : (r.s.length : Int) = 1 := by
        by_cases z : (r.s.length : Int) = 1
        · exact z
        · exact absurd (by rw [decide_eq_false z]; rfl) c2
      walk_at "rd"
      rw [in_sign hrok c2]
      refine ite2 (fun c3 => ?_) (fun c3 => ?_)
      · have hb : Cs.stand (rs.take i) r = false := stand_no (by
          unfold Cs.isChan
          rw [show Cs.isSign r.s = false by cases hz3 : Cs.isSign r.s with | false => rfl | true => rw [hz3] at c3; cases c3]
          rfl)
        walk_at "rd"
        intro pa hpa
        exact bad hb _ hs3 pa hpa
      have c3 : Cs.isSign r.s = true := by
        cases hz3 : Cs.isSign r.s with
        | true => rfl
        | false => exact absurd (by rw [hz3]; rfl) c3
      have nochan : (¬ (1 ≤ r.w ∧ r.w ≤ 99) ∨ ¬ r.n ≤ 40) → Cs.stand (rs.take i) r = false := fun h => stand_no (by
        cases hz4 : Cs.isChan r with
        | false => rfl
        | true =>
          have := (chan_iff r).mp hz4
          exfalso
          rcases h with h | h
          · exact h this.2.1
          · exact h this.2.2.2.2)
      walk_at "rd"
      refine ite2 (fun d1 => ?_) (fun d1 => ?_)
      · have d1 : r.w < 1 := of_decide_eq_true d1
        walk_at "rd"
        intro pa hpa
        exact bad (nochan (.inl (by omega))) _ hs3 pa hpa
      have d1 : ¬ r.w < 1 := fun z => d1 (decide_eq_true z)
      walk_at "rd"
      refine ite2 (fun d2 => ?_) (fun d2 => ?_)
      · have d2 : 99 < r.w := of_decide_eq_true d2
        walk_at "rd"
        intro pa hpa
        exact bad (nochan (.inl (by omega))) _ hs3 pa hpa
      have d2 : ¬ 99 < r.w := fun z => d2 (decide_eq_true z)
      walk_at "rd"
      refine ite2 (fun d3 => ?_) (fun d3 => ?_)
      · have d3 : 40 < r.n := of_decide_eq_true d3
        walk_at "rd"
        intro pa hpa
        exact bad (nochan (.inr (by omega))) _ hs3 pa hpa
      have d3 : ¬ 40 < r.n := fun z => d3 (decide_eq_true z)
      have hchan : Cs.isChan r = true := (chan_iff r).mpr ⟨c3, ⟨by omega, by omega⟩, ⟨n2, n3⟩, ⟨n4, by omega⟩⟩
      walk_at "rd"
      refine ⟨D, _, rfl, SqL.of (hs3 _ _ hh), fun pc hpc => ?_⟩
      rw [cut_take_all]
      have hc := same_new hpc (.lst (zs.take i))
      have hc1 : upd H3 pc (.lst (zs.take i)) pc = some (.lst (zs.take i)) := upd_same
      generalize upd H3 pc (.lst (zs.take i)) = H4 at hc hc1 ⊢
      have hs4 := hs3.trans hc
      refine ⟨pc, rfl, ⟨_, SqL.of hc1⟩, ?_⟩
      refine for_list (a := pc) (xs := zs.take i) (fun j σ H5 => ∃ (v7 : Option V), σ = [some (.str x), some (.ref D), some (.int (i : Int)), some (.str r.s), some (.int r.w), some (.int r.t), some (.int r.n), v7] ∧ Same H4 H5 ∧ ∀ r' ∈ (rs.take i).take j, r'.s ≠ r.s ∧ r'.t ≠ r.t)
        ⟨_, rfl, Same.refl _, fun r' h => by rw [List.take_zero] at h; cases h⟩ (fun j σ H5 _ ⟨_, _, hs5, _⟩ => SqL.of (hs5 _ _ hc1)) ?_ ?_
      · rintro j y σ H5 hy ⟨v7, rfl, hs5, hno⟩
        have hji : j < i := by
          have := (List.getElem?_eq_some_iff.mp hy).1
          rw [List.length_take] at this
          omega
        rw [List.getElem?_take_of_lt hji] at hy
        obtain ⟨r', hrj, t', et', ht'⟩ := Cs.pd_get hz hy
        have ht5 := hs5 _ _ (hs4 _ _ ht')
        have hrj2 : (rs.take i)[j]? = some r' := by rw [List.getElem?_take_of_lt hji]; exact hrj
        have hrm2 := List.mem_of_getElem? hrj2
        have a0 : atI (Cs.rowV r') 0 = some (.str r'.s) := rfl
        have a2 : atI (Cs.rowV r') 2 = some (.int r'.t) := rfl
        subst et'
        refine ⟨_, rfl, ?_⟩
        walk_at "rd"
        refine ⟨t', _, _, _, rfl, rfl, SqT.of ht5, a0, ?_⟩
        walk_at "rd"
        rw [Cs.strV]
        refine ite2 (fun f1 => ?_) (fun f1 => ?_)
        · have f1 : r'.s = r.s := of_decide_eq_true f1
          walk_at "rd"
          intro pa hpa
          exact bad (stand_hit hrm2 (.inl f1)) _ (hs4.trans hs5) pa hpa
        have f1 : ¬ r'.s = r.s := fun z => f1 (decide_eq_true z)
        walk_at "rd"
        refine ⟨t', _, _, _, rfl, rfl, SqT.of ht5, a2, ?_⟩
        walk_at "rd"
        rw [decV]
        refine ite2 (fun f2 => ?_) (fun f2 => ?_)
        · have f2 : r'.t = r.t := of_decide_eq_true f2
          walk_at "rd"
          intro pa hpa
          exact bad (stand_hit hrm2 (.inr f2)) _ (hs4.trans hs5) pa hpa
        have f2 : ¬ r'.t = r.t := fun z => f2 (decide_eq_true z)
        refine ⟨_, rfl, hs5, fun r2 h2 => ?_⟩
        rw [List.take_add_one, hrj2, Option.toList_some] at h2
        rcases List.mem_append.mp h2 with z | z
        · exact hno r2 z
        · rw [List.mem_singleton.mp z]
          exact ⟨f1, f2⟩
      · rintro σ H5 ⟨v7, rfl, hs5, hno⟩
        rw [List.take_of_length_le (by rw [List.length_take, List.length_take]; omega)] at hno
        exact ⟨_, _, _, _, _, _, rfl, hs4.trans hs5, hst.succ hri (stand_ok hchan hno)⟩
    · rintro σ H3 ⟨v2, v3, v4, v5, v6, v7, rfl, hs3, hst⟩
      have hln : ((zs.length : Nat) : Int).toNat = rs.length := by omega
      rw [hln] at hst
      have hne : rs ≠ [] := fun z => by
        rw [z] at hrl2
        exact hlsn (List.length_eq_zero_iff.mp hrl2.symm)
      walk_at "rd"
      intro pg hpg
      have hg := same_new hpg (.lst [.str (Str.ofString "good")])
      have hg1 : upd H3 pg (.lst [.str (Str.ofString "good")]) pg = some (.lst [.str (Str.ofString "good")]) := upd_same
      generalize upd H3 pg (.lst [.str (Str.ofString "good")]) = H4 at hg hg1 ⊢
      walk_at "rd"
      refine ⟨pg, D, _, _, rfl, rfl, hg1, hg _ _ (hs3 _ _ hh), smallL (by show 1 + _ ≤ _; omega), fun pe hpe => ?_⟩
      have hs64 := hs3.trans hg
      exact q _ _ (same_add (hs6.trans hs64) hpe) ⟨pe, rfl, .inr (.inr ⟨rs, zs, hall, .good hne hst, upd_same, Cs.rows_same hz (same_add hs64 hpe)⟩)⟩
theorem kit_full {K : PySem.W.Frag} {mg : Str → Option Value} {x qual fld : Str} {st : Stmt} {ps : List Str} {fd : FuncData} {C B f : Addr} {b : Bool} (d : CI K mg x qual st ps B f fd fld) (hself : PySem.W.mroIn K C (.ref C) = some true) (h : PySem.W.mroIn K C (.ref B) = some b) : PySem.W.kitOne K (.ref C) (.ref B) = some b :=
  kit_own d.cls d.q h fun e => by
    subst e
    rw [hself] at h
    exact (Option.some.inj h).symm
theorem kit_bare {K : PySem.W.Frag} {mg : Str → Option Value} {x : Str} {C B : Addr} {b : Bool} (d : CN K mg x B) (hself : PySem.W.mroIn K C (.ref C) = some true) (h : PySem.W.mroIn K C (.ref B) = some b) : PySem.W.kitOne K (.ref C) (.ref B) = some b :=
  kit_own d.cls d.q h fun e => by
    subst e
    rw [hself] at h
    exact (Option.some.inj h).symm
theorem rdRows_len : ∀ {xs : List Str} {rs : List Cs.Row}, rdRows xs = some rs → rs.length = xs.length
  | [], rs, h => by
    have h : some [] = some rs := h
    rw [← Option.some.inj h]
    rfl
  | x :: xs, rs, h => by
    have h : (match rdRow x with | none => none | some r => (rdRows xs).map (r :: ·)) = some rs := h
    cases hx : rdRow x with
    | none => rw [hx] at h; cases h
    | some r =>
      rw [hx] at h
      obtain ⟨rs', h1, h2⟩ := Option.map_eq_some_iff.mp h
      rw [← h2, List.length_cons, List.length_cons, rdRows_len h1]
def sp_law_told : Sp := fun vs H Q _ => ∃ (x : Str), vs = [.str x] ∧ (∀ c ∈ x.cps.toList, c < 128) ∧ x.cps.toList.length ≤ 998 ∧ ∀ v H', Same H H' → Ans54 H' v (Txt.split x (Str.ofString "\n")) → Q v H'
theorem ok_law_told (T : Tx K mg a) : FnOk P w K mg base CX0 6 a.f_law_told a.d_law_told ["_law_text"] sp_law_told := by
  have G_read_case := ok_read_case (P := P) (w := w) (base := base) T
  have G_law_others := ok_law_others (P := P) (w := w) (base := base) T
  refine T.law_told.fn.ok sc_law_told (fun vs H Q E h => ?_) (fun cdv A outer s H vs Q E hr h => ?_)
  · obtain ⟨x, rfl, _⟩ := h
    rfl
  obtain ⟨x, rfl, hxa, hxl, q⟩ := h
  have hx : AW x := aw_short hxl (by decide) hxa
  have hrl : ∀ y ∈ Txt.split x (Str.ofString "\n"), y.length ≤ 1000 := fun y hy => by
    have h := (join_part (d := 10) hy).2
    rw [show Str.join ⟨#[10]⟩ (Txt.split x (Str.ofString "\n")) = x from StrLaws.join_split ..] at h
    rw [len_eq]
    omega
  have hsl : (Txt.split x (Str.ofString "\n")).length ≤ 1000 := by
    have := split_len x (Str.ofString "\n")
    have := len_eq x
    omega
  refine ⟨_, (pss_cons (ps_set (i := 1) sc_law_told.nd rfl (Or.inl rfl) pe_non)
      (pss_cons (ps_cut (ps_try rfl (fun _ _ => (pss_one (ps_set (i := 1) sc_law_told.nd rfl (Or.inl rfl) (pe_op op_cat (pe_lst (pa_cons pe_str pa_nil)) (pcallX T.read_case G_read_case hr rfl rfl (pa_cons (pv 0) pa_nil)))))) (fun _ => (kph_cons K rfl (i := 2) rfl T.cl_NoText.mg T.cl_NoText.cls sc_law_told.nd rfl rfl (fun _ => (pss_one (ps_if (PW.pt (pw_and (pt_val (pcallH T.law_others G_law_others (hr.h _) rfl (pa_cons (pv 2) pa_nil))) (pw_and1 (pt_not (pt_val (pe_callB (kcall_isX (K := K) rfl) rfl T.b_isinstance bt_isinstance (pa_cons (pv 2) (pa_cons (pe_glob (v := .ref a.c_NoCase) rfl T.cl_NoCase.mg rfl) pa_nil)))))))) (pss_one (ps_set (i := 1) sc_law_told.nd rfl (Or.inl rfl) (pe_lst (pa_cons pe_str pa_nil)))) pss_nil))) (kph_cons K rfl (i := 2) rfl T.cl_NoCase.mg T.cl_NoCase.cls sc_law_told.nd rfl rfl (fun _ => (pss_one (ps_if (PW.pt (pw_and (pt_val (pcallH T.law_others G_law_others (hr.h _) rfl (pa_cons (pv 2) pa_nil))) (pw_and (pt_not (pt_val (pe_callB (kcall_isX (K := K) rfl) rfl T.b_isinstance bt_isinstance (pa_cons (pv 2) (pa_cons (pe_glob (v := .ref a.c_NoText) rfl T.cl_NoText.mg rfl) pa_nil))))) (pw_and1 (pt_not (pt_val (pe_callB (kisinst K rfl) rfl T.b_isinstance bt_isinstance (pa_cons (kpe_xg (K := K) rfl (pv 2)) (pa_cons (pe_bltn (v := .ty "bool") rfl T.b_bool bt_bool rfl) pa_nil))))))))) (pss_one (ps_set (i := 1) sc_law_told.nd rfl (Or.inl rfl) (pe_lst (pa_cons pe_str (pa_cons (kpe_xg (K := K) rfl (pv 2)) pa_nil))))) pss_nil))) ph_nil)))))
      (pss_one (ps_ret (pv 1))))), ?_⟩
  walk_at "rd"
  refine ⟨fun σ H2 => ∃ (v : V) (v2 : Option V), σ = [some (.str x), some v, v2] ∧ Same H H2 ∧ Ans54 H2 v (Txt.split x (Str.ofString "\n")), ?_, ?_⟩
  · walk_at "rd"
    intro p1 hp1
    have hs1 := same_new hp1 (.lst [.str (Str.ofString "good")])
    have h11 : upd H p1 (.lst [.str (Str.ofString "good")]) p1 = some (.lst [.str (Str.ofString "good")]) := upd_same
    generalize upd H p1 (.lst [.str (Str.ofString "good")]) = H1 at hs1 h11 ⊢
    walk_at "rd"
    refine ⟨fun rs hrs hlk D xs H2 hD hs2 hh2 hz => ?_, fun rs k hrs hlk H3 dx hs3 hdx => ?_, fun hno H3 hs3 => ?_⟩
    · have hzl := Paired.length hz
      have hrl2 : rs.length ≤ 1000 := by rw [rdRows_len hrs]; exact hsl
      walk_at "rd"
      refine ⟨p1, D, _, _, rfl, rfl, hs2 _ _ h11, hh2, smallL (by show 1 + _ ≤ _; omega), fun p8 hp8 => ?_⟩
      exact ⟨.ref p8, none, rfl, same_add (hs1.trans hs2) hp8, p8, rfl, .inr (.inr ⟨rs, xs, hrs, hlk, upd_same, Cs.rows_same hz (same_new hp8 _)⟩)⟩
    · refine ⟨a.c_NoCase, some a.f_init_NoCase, false, rfl, T.cl_NoCase.cls, T.m_NoCase_NoText, iteF ?_⟩
      refine ⟨a.c_NoCase, some a.f_init_NoCase, true, rfl, T.cl_NoCase.cls, T.m_NoCase_NoCase, iteT ?_⟩
      intro e he0
      have hde : dx ≠ e := fun z => by rw [← z, upd_same] at he0; cases he0
      have he1 : upd (upd H3 dx (.xd [("at", .int (k : Int))])) e (XE e a.c_NoCase (some dx)) e = some (XE e a.c_NoCase (some dx)) := upd_same
      have hd1 : upd (upd H3 dx (.xd [("at", .int (k : Int))])) e (XE e a.c_NoCase (some dx)) dx = some (.xd [("at", .int (k : Int))]) := by rw [upd_ne hde, upd_same]
      have hs4 : Same H (upd (upd H3 dx (.xd [("at", .int (k : Int))])) e (XE e a.c_NoCase (some dx))) := same_add (same_add (hs1.trans hs3) hdx) he0
      generalize upd (upd H3 dx (.xd [("at", .int (k : Int))])) e (XE e a.c_NoCase (some dx)) = H4 at he1 hd1 hs4 ⊢
      have hg := T.cl_NoCase.q.g
      have hself := T.m_NoCase_NoCase
      have ask : ∀ {H5 : Hp}, Same H4 H5 → ∀ a0, some dx = some a0 → ∃ fs, H5 a0 = some (.xd fs) := fun hs a0 z => by cases z; exact ⟨_, hs _ _ hd1⟩
      walk_at "rd"
      refine ⟨e, a.c_NoCase, some dx, rfl, kd_case T, he1, ask (Same.refl _), fun H5 hs5 => ?_⟩
      refine ⟨_, rfl, ?_⟩
      refine iteT ?_
      walk_at "rd"
      refine ⟨e, a.c_NoCase, some dx, _, _, false, rfl, hs5 _ _ he1, ask hs5, hg, rfl, kit_bare T.cl_NoText hself T.m_NoCase_NoText, ?_⟩
      walk_at "rd"
      refine ⟨e, a.c_NoCase, dx, _, _, rfl, hs5 _ _ he1, hs5 _ _ hd1, hg, (T.cl_NoCase).xf.no, rfl, ?_⟩
      walk_at "rd"
      refine ⟨_, _, _, _, rfl, .int _, kit_ib, ?_⟩
      walk_at "rd"
      try refine ⟨_, rfl, ?_⟩
      try refine iteT ?_
      walk_at "rd"
      refine ⟨e, a.c_NoCase, dx, _, _, rfl, hs5 _ _ he1, hs5 _ _ hd1, hg, (T.cl_NoCase).xf.no, rfl, ?_⟩
      walk_at "rd"
      intro r hr0
      exact ⟨.ref r, none, rfl, same_add (hs4.trans hs5) hr0, r, rfl, .inr (.inl ⟨rs, k, hrs, hlk, upd_same⟩)⟩
    · refine ⟨a.c_NoText, none, true, rfl, T.cl_NoText.cls, T.m_NoText_NoText, iteT ?_⟩
      intro e he0
      have he1 : upd H3 e (XE e a.c_NoText none) e = some (XE e a.c_NoText none) := upd_same
      have hs4 : Same H (upd H3 e (XE e a.c_NoText none)) := same_add (hs1.trans hs3) he0
      generalize upd H3 e (XE e a.c_NoText none) = H4 at he1 hs4 ⊢
      have hg := T.cl_NoText.q.g
      have hself := T.m_NoText_NoText
      have ask : ∀ {H5 : Hp}, Same H4 H5 → ∀ a0, (none : Option Addr) = some a0 → ∃ fs, H5 a0 = some (.xd fs) := fun hs a0 z => nomatch z
      walk_at "rd"
      refine ⟨e, a.c_NoText, none, rfl, kd_text T, he1, ask (Same.refl _), fun H5 hs5 => ?_⟩
      refine ⟨_, rfl, ?_⟩
      refine iteT ?_
      walk_at "rd"
      refine ⟨e, a.c_NoText, none, _, _, false, rfl, hs5 _ _ he1, ask hs5, hg, rfl, kit_full T.cl_NoCase hself T.m_NoText_NoCase, ?_⟩
      walk_at "rd"
      intro r hr0
      exact ⟨.ref r, none, rfl, same_add (hs4.trans hs5) hr0, r, rfl, .inl ⟨hno, upd_same⟩⟩
  · rintro σ H2 ⟨v, v2, rfl, hs2, ha⟩
    walk_at "rd"
    exact q v H2 hs2 ha
def AnsD (ls : List Str) (d : PyData) : Prop := (rdRows ls = none ∧ d = .list [.str (Str.ofString "text")]) ∨ (∃ rs k, rdRows ls = some rs ∧ Cs.Looks rs (some k) ∧ d = .list [.str (Str.ofString "case"), .int ((k : Nat) : Int)]) ∨
  (∃ rs, rdRows ls = some rs ∧ Cs.Looks rs none ∧ d = .list (.str (Str.ofString "good") :: rs.map Cs.rowD))
theorem AnsD.uniq {ls : List Str} {d e : PyData} (hd : AnsD ls d) (he : AnsD ls e) : d = e := by
  rcases hd with ⟨a1, a2⟩ | ⟨rs, k, a1, a2, a3⟩ | ⟨rs, a1, a2, a3⟩
  · rcases he with ⟨b1, b2⟩ | ⟨rs', k', b1, b2, b3⟩ | ⟨rs', b1, b2, b3⟩
    · rw [a2, b2]
    · rw [a1] at b1; cases b1
    · rw [a1] at b1; cases b1
  · rcases he with ⟨b1, b2⟩ | ⟨rs', k', b1, b2, b3⟩ | ⟨rs', b1, b2, b3⟩
    · rw [a1] at b1; cases b1
    · rw [a1] at b1
      cases b1
      have := Cs.Looks.uniq a2 b2
      cases this
      rw [a3, b3]
    · rw [a1] at b1
      cases b1
      have := Cs.Looks.uniq a2 b2
      cases this
  · rcases he with ⟨b1, b2⟩ | ⟨rs', k', b1, b2, b3⟩ | ⟨rs', b1, b2, b3⟩
    · rw [a1] at b1; cases b1
    · rw [a1] at b1
      cases b1
      have := Cs.Looks.uniq a2 b2
      cases this
    · rw [a1] at b1
      cases b1
      rw [a3, b3]
theorem AnsD.nb {ls : List Str} {d : PyData} (hd : AnsD ls d) : nb d = true := by
  rcases hd with ⟨_, rfl⟩ | ⟨rs, k, _, _, rfl⟩ | ⟨rs, _, _, rfl⟩
  · rfl
  · rfl
  · show nbL (.str (Str.ofString "good") :: rs.map Cs.rowD) = true
    show (L2.nb (.str (Str.ofString "good")) && nbL (rs.map Cs.rowD)) = true
    rw [Cs.nb_rows]
    rfl
theorem AnsD.depth {ls : List Str} {d : PyData} (hd : AnsD ls d) (e : PyData) : min d.depth e.depth ≤ 64 := by
  refine Nat.le_trans (Nat.min_le_left _ _) ?_
  rcases hd with ⟨_, rfl⟩ | ⟨rs, k, _, _, rfl⟩ | ⟨rs, _, _, rfl⟩
  · decide
  · show max 0 (max 0 0) + 1 ≤ 64
    decide
  · have := Cs.depth_rows rs
    show max 0 (PyData.depthAll (rs.map Cs.rowD)) + 1 ≤ 64
    omega
theorem rdRows_mem : ∀ {ls : List Str} {rs : List Cs.Row}, rdRows ls = some rs → ∀ r ∈ rs, ∃ y ∈ ls, rdRow y = some r
  | [], rs, h, r, hr => by
    have h : some [] = some rs := h
    rw [← Option.some.inj h] at hr
    cases hr
  | x :: xs, rs, h, r, hr => by
    have h : (match rdRow x with | none => none | some r => (rdRows xs).map (r :: ·)) = some rs := h
    cases hx : rdRow x with
    | none => rw [hx] at h; cases h
    | some r0 =>
      rw [hx] at h
      obtain ⟨rs', h1, h2⟩ := Option.map_eq_some_iff.mp h
      rw [← h2] at hr
      rcases List.mem_cons.mp hr with z | z
      · exact ⟨x, List.mem_cons_self, by rw [hx, z]⟩
      · obtain ⟨y, hy, e⟩ := rdRows_mem h1 r z
        exact ⟨y, List.mem_cons_of_mem _ hy, e⟩
theorem split_short {x y : Str} (hx : x.cps.toList.length ≤ 998) (hy : y ∈ Txt.split x (Str.ofString "\n")) : y.length ≤ 1000 := by
  have h := (join_part (d := 10) hy).2
  rw [show Str.join ⟨#[10]⟩ (Txt.split x (Str.ofString "\n")) = x from StrLaws.join_split ..] at h
  rw [len_eq]
  omega
theorem rows_lay {x : Str} (hxa : ∀ c ∈ x.cps.toList, c < 128) (hxl : x.cps.toList.length ≤ 998) {rs : List Cs.Row} (h : rdRows (Txt.split x (Str.ofString "\n")) = some rs) : ∀ r ∈ rs, PyData.canLay0 (.str r.s) = true := fun r hr => by
  obtain ⟨y, hy, e⟩ := rdRows_mem h r hr
  exact (rdRow_sign e (split_part (d := 10) y hy (aw_short hxl (by decide) hxa)) (split_short hxl hy)).lay
theorem Ans54.same {H H' : Hp} {v : V} {ls : List Str} (h : Ans54 H v ls) (s : Same H H') : Ans54 H' v ls := by
  obtain ⟨p, rfl, ⟨a1, a2⟩ | ⟨rs, k, a1, a2, a3⟩ | ⟨rs, zs, a1, a2, a3, a4⟩⟩ := h
  · exact ⟨p, rfl, .inl ⟨a1, s _ _ a2⟩⟩
  · exact ⟨p, rfl, .inr (.inl ⟨rs, k, a1, a2, s _ _ a3⟩)⟩
  · exact ⟨p, rfl, .inr (.inr ⟨rs, zs, a1, a2, s _ _ a3, Cs.rows_same a4 s⟩)⟩
theorem lay_text : PyData.canLay0 (.str (Str.ofString "text")) = true := by decide +kernel
theorem lay_case : PyData.canLay0 (.str (Str.ofString "case")) = true := by decide +kernel
theorem lay_good : PyData.canLay0 (.str (Str.ofString "good")) = true := by decide +kernel
theorem ans_den {K : PySem.W.Frag} {H : Hp} {v : V} {x : Str} (hxa : ∀ c ∈ x.cps.toList, c < 128) (hxl : x.cps.toList.length ≤ 998) (h : Ans54 H v (Txt.split x (Str.ofString "\n"))) : ∃ d, Den K H v d ∧ AnsD (Txt.split x (Str.ofString "\n")) d := by
  obtain ⟨p, rfl, ⟨a1, a2⟩ | ⟨rs, k, a1, a2, a3⟩ | ⟨rs, zs, a1, a2, a3, a4⟩⟩ := h
  · exact ⟨_, .lst (SqL.of a2) (.cons (.str _ lay_text) .nil), .inl ⟨a1, rfl⟩⟩
  · exact ⟨_, .lst (SqL.of a3) (.cons (.str _ lay_case) (.cons (.int _) .nil)), .inr (.inl ⟨rs, k, a1, a2, rfl⟩)⟩
  · exact ⟨_, .lst (SqL.of a3) (.cons (.str _ lay_good) (Cs.denL_rows a4 (rows_lay hxa hxl a1))), .inr (.inr ⟨rs, a1, a2, rfl⟩)⟩
theorem isSign_sg {c : Nat} (h : c ∈ Cs.signs) : Cs.isSign (sg c) = true := decide_eq_true h
/-- good rows with signs and teeth apart are a case -/
theorem all_stand {rs : List Cs.Row} (hg : ∀ r ∈ rs, RowG r) (h1 : (rs.map fun r => r.s).Nodup) (h2 : (rs.map fun r => r.t).Nodup) : Cs.AllStand rs rs.length := by
  intro i r hi hr
  obtain ⟨⟨c, hc, hce⟩, a1, a2, a3, a4, a5, a6⟩ := hg r (List.mem_of_getElem? hr)
  have ap : ∀ {β : Type} (f : Cs.Row → β), (rs.map f).Nodup → f r ∉ (rs.take i).map f := fun f hn hm => by
    obtain ⟨r', hr', e⟩ := List.mem_map.mp hm
    obtain ⟨j, hj, ej⟩ := List.getElem_of_mem hr'
    rw [List.length_take] at hj
    have hji : j < i := by omega
    have hjl : j < rs.length := by omega
    rw [List.getElem_take] at ej
    rw [List.Nodup, List.pairwise_map, List.pairwise_iff_getElem] at hn
    have hri : rs[i] = r := Option.some.inj ((List.getElem?_eq_getElem hi).symm.trans hr)
    exact hn j i hjl hi hji (by rw [ej, hri]; exact e)
  unfold Cs.stand Cs.isChan
  have e1 : Cs.isSign r.s = true := by rw [hce]; exact isSign_sg hc
  have e2 : Cs.place (rs.take i) r.s = none := Cs.place_none fun j r' _ hj e => ap (fun r => r.s) h1 (List.mem_map.mpr ⟨r', List.mem_of_getElem? hj, e⟩)
  rw [e1, e2, decide_eq_true ⟨a1, a2⟩, decide_eq_true ⟨a3, a4⟩, decide_eq_true ⟨a5, a6⟩, decide_eq_false (ap (fun r => r.t) h2)]
  rfl
/-- a case as text -/
def caseT (rs : List Cs.Row) : Str := Str.join ⟨#[10]⟩ (rs.map rowT)
theorem caseT_split {rs : List Cs.Row} (hne : rs ≠ []) (hg : ∀ r ∈ rs, RowG r) : Txt.split (caseT rs) (Str.ofString "\n") = rs.map rowT :=
  Lns.split_join 10 (fun z => hne (List.map_eq_nil_iff.mp z)) fun y hy => by
    obtain ⟨r, hr, e⟩ := List.mem_map.mp hy
    rw [← e]
    exact fun z => ((rowT_wrd (hg r hr)).2 _ z).2 rfl
theorem sm_rows : ∀ {rs : List Cs.Row}, (∀ r ∈ rs, RowG r) → sm (rs.map rowT) ≤ 16 * rs.length
  | [], _ => Nat.le_refl _
  | r :: rs, h => by
    have h1 := sm_rows (rs := rs) fun r hr => h r (List.mem_cons_of_mem _ hr)
    have h2 := (rowT_wrd (h r List.mem_cons_self)).1
    rw [len_eq] at h2
    have e : sm ((r :: rs).map rowT) = sm [rowT r] + sm (rs.map rowT) := sm_app [rowT r] (rs.map rowT)
    rw [e, sm_one, List.length_cons]
    omega
theorem caseT_len {rs : List Cs.Row} (hne : rs ≠ []) (hg : ∀ r ∈ rs, RowG r) : (caseT rs).cps.toList.length + 1 ≤ 16 * rs.length := by
  have h1 := (jl_sum (rs.map rowT)).2 (fun z => hne (List.map_eq_nil_iff.mp z))
  have h2 := sm_rows hg
  unfold sm at h2
  unfold caseT
  rw [join_jl]
  omega
theorem caseT_as {rs : List Cs.Row} (hg : ∀ r ∈ rs, RowG r) : ∀ c ∈ (caseT rs).cps.toList, c < 128 :=
  join_as (by decide) fun y hy => by
    obtain ⟨r, hr, e⟩ := List.mem_map.mp hy
    rw [← e]
    exact fun c hc => ((rowT_wrd (hg r hr)).2 c hc).1
theorem rdRows_case : ∀ {rs : List Cs.Row}, (∀ r ∈ rs, RowG r) → rdRows (rs.map rowT) = some rs
  | [], _ => rfl
  | r :: rs, hg => by
    have h1 := rdRow_rowT (hg r List.mem_cons_self)
    have h2 := rdRows_case (rs := rs) fun r hr => hg r (List.mem_cons_of_mem _ hr)
    rw [List.map_cons]
    generalize rs.map rowT = us at h2
    generalize rowT r = y at h1
    show (match rdRow y with | none => none | some r => (rdRows us).map (r :: ·)) = _
    rw [h1, h2]
    rfl
/-- thirty-one rows, the last one's sign the first one's -/
def signs31 : Str := Str.ofString "abcdefghijklmnopqrstuvwxyz.,-'a"
def r31 (k : Nat) : Cs.Row := ⟨sg (signs31.cps.toList.getD k 0), 1, (k : Int), 1⟩
def rows31 : List Cs.Row := (List.range 31).map r31
theorem signs31_ok : ∀ k : Fin 31, signs31.cps.toList.getD k.val 0 ∈ Cs.signs ∧ atI signs31.cps.toList (k.val : Int) = some (signs31.cps.toList.getD k.val 0) := by decide +kernel
theorem r31_ok {k : Nat} (h : k < 31) : RowG (r31 k) := ⟨⟨_, (signs31_ok ⟨k, h⟩).1, rfl⟩, by show (1 : Int) ≤ 1; decide, by show (1 : Int) ≤ 99; decide, Int.natCast_nonneg _, by show (k : Int) ≤ 127; omega, by show (0 : Int) ≤ 1; decide, by show (1 : Int) ≤ 40; decide⟩
theorem rows31_ok : ∀ r ∈ rows31, RowG r := fun r hr => by
  obtain ⟨k, hk, e⟩ := List.mem_map.mp hr
  rw [← e]
  exact r31_ok (List.mem_range.mp hk)
theorem rows31_at {k : Nat} (h : k < 31) : rows31[k]? = some (r31 k) := by
  unfold rows31
  rw [List.getElem?_map, List.getElem?_range h]
  rfl
theorem rows31_stand : ∀ k : Fin 31, Cs.stand (rows31.take k.val) (r31 k.val) = decide (k.val < 30) := by decide +kernel
theorem looks31 : Cs.Looks rows31 (some 30) := by
  refine .bad (fun i r hi hr => ?_) (rows31_at (by decide)) (rows31_stand ⟨30, by decide⟩)
  have h2 : Cs.stand (rows31.take i) (r31 i) = decide (i < 30) := rows31_stand ⟨i, by omega⟩
  rw [rows31_at (by omega)] at hr
  rw [← Option.some.inj hr]
  exact h2.trans (decide_eq_true hi)
theorem rows31_ne : rows31 ≠ [] := by decide +kernel
theorem join_snoc {d : Nat} {y : Str} : ∀ {us : List Str}, us ≠ [] → (Str.join ⟨#[d]⟩ (us ++ [y])).cps.toList = (Str.join ⟨#[d]⟩ us).cps.toList ++ d :: y.cps.toList
  | [], h => absurd rfl h
  | [u], _ => by
    show (u ++ ⟨#[d]⟩ ++ y).cps.toList = u.cps.toList ++ d :: y.cps.toList
    rw [Lns.app_list, Lns.app_list, List.append_assoc]
    rfl
  | u :: v :: r, _ => by
    have ih := join_snoc (d := d) (y := y) (us := v :: r) (by simp)
    show (u ++ ⟨#[d]⟩ ++ Str.join ⟨#[d]⟩ (v :: r ++ [y])).cps.toList = (u ++ ⟨#[d]⟩ ++ Str.join ⟨#[d]⟩ (v :: r)).cps.toList ++ _
    rw [Lns.app_list, Lns.app_list, Lns.app_list, Lns.app_list, ih, List.append_assoc, List.append_assoc, List.append_assoc]
theorem rd_x : rdRow (Str.ofString "x") = none := by decide +kernel
theorem rd_snoc (us : List Str) {y : Str} (h : rdRow y = none) : rdRows (us ++ [y]) = none :=
  rdRows_no (i := us.length) (x := y) (by rw [List.getElem?_append_right (Nat.le_refl _), Nat.sub_self]; rfl) h
theorem long_x : AnsD (Txt.split (caseT rows31 ++ Str.ofString "\nx") (Str.ofString "\n")) (.list [.str (Str.ofString "text")]) := by
  have e : caseT rows31 ++ Str.ofString "\nx" = Str.join ⟨#[10]⟩ (rows31.map rowT ++ [Str.ofString "x"]) := Lns.str_ext (by
    rw [Lns.app_list, join_snoc (fun z => rows31_ne (List.map_eq_nil_iff.mp z))]
    rfl)
  have e2 : Txt.split (caseT rows31 ++ Str.ofString "\nx") (Str.ofString "\n") = rows31.map rowT ++ [Str.ofString "x"] := by
    rw [e]
    refine Lns.split_join 10 (by simp) fun y hy => ?_
    rcases List.mem_append.mp hy with z | z
    · obtain ⟨r, hr, e⟩ := List.mem_map.mp z
      rw [← e]
      exact fun z => ((rowT_wrd (rows31_ok r hr)).2 _ z).2 rfl
    · rw [List.mem_singleton.mp z]
      decide +kernel
  rw [e2]
  exact .inl ⟨rd_snoc _ rd_x, rfl⟩
theorem app_nx {lg : Str} (h1 : ∀ c ∈ lg.cps.toList, c < 128) (h2 : lg.cps.toList.length ≤ 900) : (∀ c ∈ (lg ++ Str.ofString "\nx").cps.toList, c < 128) ∧ (lg ++ Str.ofString "\nx").cps.toList.length ≤ 998 ∧ lg.length + (Str.ofString "\nx").length ≤ sizeLine := by
  have g2 : (Str.ofString "\nx").cps.toList = [10, 120] := by decide +kernel
  refine ⟨fun c hc => ?_, ?_, smallL ?_⟩
  · rw [Lns.app_list, g2] at hc
    rcases List.mem_append.mp hc with z | z
    · exact h1 c z
    · simp only [List.mem_cons, List.not_mem_nil, or_false] at z
      omega
  · rw [Lns.app_list, List.length_append, g2]
    show _ + 2 ≤ _
    omega
  · have := len_eq lg
    have : (Str.ofString "\nx").length = 2 := by decide
    omega
theorem empty_fine : (∀ c ∈ (Str.ofString "").cps.toList, c < 128) ∧ (Str.ofString "").cps.toList.length ≤ 998 := by
  have e : (Str.ofString "").cps.toList = [] := by decide +kernel
  rw [e]
  exact ⟨fun c hc => (by cases hc), by decide⟩
theorem empty_split : Txt.split (Str.ofString "") (Str.ofString "\n") = [Str.ofString ""] := by decide +kernel
theorem rd_empty : rdRow (Str.ofString "") = none := by decide +kernel
theorem empty_ans : AnsD (Txt.split (Str.ofString "") (Str.ofString "\n")) (.list [.str (Str.ofString "text")]) := by
  rw [empty_split]
  exact .inl ⟨rdRows_no (i := 0) rfl rd_empty, rfl⟩
theorem long_ans : AnsD (Txt.split (caseT rows31) (Str.ofString "\n")) (.list [.str (Str.ofString "case"), .int 30]) := by
  rw [caseT_split rows31_ne rows31_ok]
  exact .inr (.inl ⟨rows31, 30, rdRows_case rows31_ok, looks31, rfl⟩)
theorem case_ans {rs : List Cs.Row} (hne : rs ≠ []) (hg : ∀ r ∈ rs, RowG r) (hs : Cs.AllStand rs rs.length) : AnsD (Txt.split (caseT rs) (Str.ofString "\n")) (.list (.str (Str.ofString "good") :: rs.map Cs.rowD)) := by
  rw [caseT_split hne hg]
  exact .inr (.inr ⟨rs, rdRows_case hg, .good hne hs, rfl⟩)
def sp_law (K : PySem.W.Frag) : Sp := fun vs H Q _ => ∃ (a : Addr) (ns : List Int), vs = [.ref a] ∧ SqL K H a (ns.map V.int) ∧ ns.length ≤ 63 ∧ ∀ H', Q (.bl true) H'
theorem ok_law (T : Tx K mg a) : FnOk P w K mg base CX0 lawLevel a.f_law a.d_law ["_law_script"] (sp_law K) := by
  have G_law_case := ok_law_case (P := P) (w := w) (base := base) T
  have G_law_row := ok_law_row (P := P) (w := w) (base := base) T
  have G_law_mixed := ok_law_mixed (P := P) (w := w) (base := base) T
  have G_law_sign := ok_law_sign (P := P) (w := w) (base := base) T
  have G_law_spoiled := ok_law_spoiled (P := P) (w := w) (base := base) T
  have G_law_rows_spoiled := ok_law_rows_spoiled (P := P) (w := w) (base := base) T
  have G_law_told := ok_law_told (P := P) (w := w) (base := base) T
  have G_law_due := ok_law_due (P := P) (w := w) (base := base) T
  refine T.law.fn.ok sc_law (fun vs H Q E h => ?_) (fun cdv A outer s H vs Q E hr h => ?_)
  · obtain ⟨l, ns, rfl, _⟩ := h
    rfl
  obtain ⟨l, ns, rfl, hS, hl, q⟩ := h
  refine ⟨_, (pss_cons (ps_set (i := 1) sc_law.nd rfl (Or.inl rfl) (pcall T.law_case G_law_case hr rfl (pa_cons (pv 0) pa_nil)))
      (pss_cons (ps_set (i := 2) sc_law.nd rfl (Or.inl rfl) (kpe_bm K rfl PySem.F.plainAttrs_str PySem.F.slot_str_join PySem.F.type_str_join (kmt_join K rfl) pe_str (pa_cons (pe_compG rfl (kpi_list K rfl (pv 1)) (BlkOk.of (N' := ["_law_script", "_law_case_here", "_law_text", "_law_k", "_law_number_here", "_law_spoiled_here", "_law_signs", "_law_long", "_law_channel_here"]) (ms := []) (k := 1) (by rfl)) (fun _ _ _ _ _ => (pg_name (i := 8) (show List.Nodup (["_law_script", "_law_case_here", "_law_text", "_law_k", "_law_number_here", "_law_spoiled_here", "_law_signs", "_law_long", "_law_channel_here"] : List Str) from by decide +kernel) rfl (Or.inl rfl))) (fun _ _ _ _ _ => pts_nil) (fun _ _ _ _ _ => (pcall T.law_row G_law_row hr rfl (pa_cons (pv 8) pa_nil)))) pa_nil)))
      (pss_cons (ps_for PassesOwn.never rfl (pi_range1 rfl T.b_range (pa_cons (pe_callB (call_min2 rfl) rfl T.b_min bt_min (pa_cons (pe_callB (klen_seq K rfl) rfl T.b_len bt_len (pa_cons (pv 0) pa_nil)) (pa_cons pe_int pa_nil))) pa_nil)) (pg_name (i := 3) sc_law.nd rfl (Or.inl rfl)) (pss_cons (ps_set (i := 4) sc_law.nd rfl (Or.inl rfl) (pcall T.law_mixed G_law_mixed hr rfl (pa_cons (pe_ix (kix_list K rfl) (pv 0) (pv 3) (fun _ _ => rfl)) (pa_cons (pe_op op_add (pv 3) pe_int) pa_nil))))
      (pss_cons (ps_set (i := 5) sc_law.nd rfl (Or.inl rfl) (pcall T.law_rows_spoiled G_law_rows_spoiled hr rfl (pa_cons (pv 2) (pa_cons (pe_op op_fdiv (pv 4) pe_int) pa_nil))))
      (pss_cons (ps_cut (ps_if (pt_cmpR op_eq (pe_op op_mod (pe_op op_fdiv (pv 4) pe_int) pe_int) pe_int (nomark _)) (pss_one (ps_set (i := 5) sc_law.nd rfl (Or.inl rfl) (pcall T.law_rows_spoiled G_law_rows_spoiled hr rfl (pa_cons (pv 5) (pa_cons (pcall T.law_mixed G_law_mixed hr rfl (pa_cons (pe_ix (kix_list K rfl) (pv 0) (pv 3) (fun _ _ => rfl)) (pa_cons (pe_op op_add (pv 3) pe_int) pa_nil))) pa_nil))))) pss_nil))
      (pss_cons (ps_cut (ps_if (pt_cmpR op_eq (pe_op op_mod (pv 4) pe_int) pe_int (nomark _)) (pss_one (ps_set (i := 5) sc_law.nd rfl (Or.inl rfl) (pcall T.law_spoiled G_law_spoiled hr rfl (pa_cons (pv 2) (pa_cons (pe_op op_fdiv (pv 4) pe_int) (pa_cons (pcall T.law_sign G_law_sign hr rfl (pa_cons (pcall T.law_mixed G_law_mixed hr rfl (pa_cons (pe_ix (kix_list K rfl) (pv 0) (pv 3) (fun _ _ => rfl)) (pa_cons (pe_op op_add (pv 3) pe_int) pa_nil))) (pa_cons pe_str pa_nil))) pa_nil)))))) pss_nil))
      (pss_one (ps_if (pt_cmpR (kneD K rfl hr.units) (pcall T.law_told G_law_told hr rfl (pa_cons (pv 5) pa_nil)) (pcall T.law_due G_law_due hr rfl (pa_cons (pv 5) pa_nil)) (nomark _)) (pss_one (ps_ret pe_bl)) pss_nil)))))))
      (pss_cons (ps_set (i := 6) sc_law.nd rfl (Or.inr rfl) pe_str)
      (pss_cons (ps_set (i := 7) sc_law.nd rfl (Or.inl rfl) (kpe_bm K rfl PySem.F.plainAttrs_str PySem.F.slot_str_join PySem.F.type_str_join (kmt_join K rfl) pe_str (pa_cons (pe_compG rfl (pi_range1 rfl T.b_range (pa_cons pe_int pa_nil)) (BlkOk.of (N' := ["_law_script", "_law_case_here", "_law_text", "_law_k", "_law_number_here", "_law_spoiled_here", "_law_signs", "_law_long"]) (ms := [3]) (k := 0) (by rfl)) (fun _ _ _ _ _ => (pg_name (i := 3) (show List.Nodup (["_law_script", "_law_case_here", "_law_text", "_law_k", "_law_number_here", "_law_spoiled_here", "_law_signs", "_law_long"] : List Str) from by decide +kernel) rfl (Or.inl rfl))) (fun _ _ _ _ _ => pts_nil) (fun _ _ _ _ _ => (pcall T.law_row G_law_row hr rfl (pa_cons (pe_tup (pa_cons (pe_ix ix_str (pv 6) (pv 3) (fun _ _ => rfl)) (pa_cons pe_int (pa_cons (pv 3) (pa_cons pe_int pa_nil))))) pa_nil)))) pa_nil)))
      (pss_cons (ps_if (PW.pt (pw_or (pt_cmpR (kneD K rfl hr.units) (pcall T.law_told G_law_told hr rfl (pa_cons (pv 7) pa_nil)) (pe_lst (pa_cons pe_str (pa_cons pe_int pa_nil))) (nomark _)) (pw_or (pt_cmpR (kneD K rfl hr.units) (pcall T.law_told G_law_told hr rfl (pa_cons (pe_op op_add_str (pv 7) pe_str) pa_nil)) (pe_lst (pa_cons pe_str pa_nil)) (nomark _)) (pw_or1 (pt_cmpR (kneD K rfl hr.units) (pcall T.law_told G_law_told hr rfl (pa_cons pe_str pa_nil)) (pe_lst (pa_cons pe_str pa_nil)) (nomark _)))))) (pss_one (ps_ret pe_bl)) pss_nil)
      (pss_one (ps_ret (pe_cmpR (keqD K rfl hr.units) (pcall T.law_told G_law_told hr rfl (pa_cons (pv 2) pa_nil)) (pe_op op_cat (pe_lst (pa_cons pe_str pa_nil)) (pv 1)) (nomark _)))))))))), ?_⟩
  walk_at "rd"
  refine ⟨l, ns, rfl, hS, fun c xs rs H1 hc0 hs1 hc1 hpd hr1 hr2 hsg hn1 hn2 hwd => ?_⟩
  have hgr : ∀ r ∈ rs, RowG r := fun r hr => ⟨hsg r hr, hwd r hr⟩
  have hne : rs ≠ [] := fun e => by rw [e] at hr1; exact absurd hr1 (by decide)
  have hst := all_stand hgr hn1 hn2
  have hxl := Cs.rows_len hpd
  have tA := caseT_as hgr
  have tL := caseT_len hne hgr
  have tR : ∀ y ∈ Txt.split (caseT rs) (Str.ofString "\n"), y.cps.toList.length ≤ 15 := fun y hy => by
    rw [caseT_split hne hgr] at hy
    obtain ⟨r, hr, e⟩ := List.mem_map.mp hy
    rw [← e, ← len_eq]
    exact (rowT_wrd (hgr r hr)).1
  have tN := case_ans hne hgr hst
  have tJ : jl (rs.map rowT) ≤ 1000 := by
    have := sm_jl (ws := rs.map rowT)
    have := sm_rows hgr
    omega
  have rlay : ∀ r ∈ rs, PyData.canLay0 (.str r.s) = true := fun r hr => by
    refine rows_lay tA (by omega) (rs := rs) ?_ r hr
    rw [caseT_split hne hgr]
    exact rdRows_case hgr
  walk_at "rd"
  refine ⟨⟨_, SqL.of hc1⟩, fun D hD => ?_⟩
  refine comp_list (a := c) (xs := xs) (fun j zs σ H6 => ∃ (v8 : Option V), σ = [some (.ref l), some (.ref c), none, none, none, none, none, none, v8] ∧ Same H1 H6 ∧ H6 D = some (.lst zs) ∧ zs = ((rs.take j).map rowT).map V.str)
    ?_ ?_ ?_ ?_
  · exact ⟨none, rfl, same_new hD _, upd_same, rfl⟩
  · rintro j zs σ H6 hj ⟨_, _, hs, _⟩
    exact hs.seq (SqL.of hc1)
  · rintro j y zs σ H6 hy hjl ⟨v8, rfl, hs, hh, rfl⟩
    obtain ⟨r, hrj, t, et, ht⟩ := Cs.pd_get hpd hy
    subst et
    walk_at "rd"
    refine ⟨t, r, rfl, hs _ _ ht, hgr r (List.mem_of_getElem? hrj), fun H8 hs8 => ?_⟩
    have hh8 := hs8 _ _ hh
    refine cnext hjl hh8 (by rw [List.length_map, List.length_map, List.length_take]; omega) ⟨_, rfl, same_upd (hs.trans hs8) hD, upd_same, ?_⟩
    rw [List.take_add_one, hrj, Option.toList_some, List.map_append, List.map_append]
    rfl
  rintro zs σ H6 ⟨v8, rfl, hs, hh, rfl⟩
  rw [hxl, List.take_of_length_le (Nat.le_refl _)] at hh
  have hs6 := hs1.trans hs
  walk_at "rd"
  refine ⟨_, D, rs.map rowT, rfl, rfl, SqL.of hh, join_fit (d := 10) (n := 1000) tJ (by rw [List.length_map]; omega) (by decide), ?_⟩
  rw [show Txt.join (Str.ofString "\n") (rs.map rowT) = caseT rs from join_eq (d := 10) _]
  clear tJ
  generalize caseT rs = tx at tA tL tR tN ⊢
  have hcc := hs _ _ hc1
  have hpd6 := Cs.rows_same hpd hs
  walk_at "rd"
  refine ⟨l, _, rfl, .inl (hs6.seq hS), ?_⟩
  rw [List.length_map]
  walk_at "rd"
  refine ⟨_, _, rfl, ?_⟩
  have hmm : 0 ≤ (if (24 : Int) < (ns.length : Int) then (24 : Int) else (ns.length : Int)) ∧ (if (24 : Int) < (ns.length : Int) then (24 : Int) else (ns.length : Int)) ≤ 24 ∧ (if (24 : Int) < (ns.length : Int) then (24 : Int) else (ns.length : Int)) ≤ ns.length := by split <;> omega
  generalize (if (24 : Int) < (ns.length : Int) then (24 : Int) else (ns.length : Int)) = mm at hmm ⊢
  obtain ⟨hm0, hm1, hm2⟩ := hmm
  walk_at "rd"
  refine for_range (n := mm.toNat) (fun i σ H7 => ∃ (v3 v4 v5 : Option V), σ = [some (.ref l), some (.ref c), some (.str tx), v3, v4, v5, none, none] ∧ Same H6 H7)
    ⟨none, none, none, rfl, Same.refl _⟩ ?_ ?_
  · rintro i σ H7 hi' ⟨v3, v4, v5, rfl, hs7⟩
    have hin : i < ns.length := by omega
    have hS7 := hs7.seq (hs6.seq hS)
    have hat : atI (ns.map V.int) (0 + (i : Int)) = some (.int ns[i]) := by rw [Int.zero_add]; exact atI_nat (by rw [List.getElem?_map, List.getElem?_eq_getElem hin] <;> rfl)
    walk_at "rd"
    refine ⟨l, _, _, _, rfl, rfl, hS7, hat, ?_⟩
    walk_at "rd"
    refine ⟨_, _, rfl, by omega, by omega, fun z hz0 hz1 => ?_⟩
    walk_at "rd"
    refine ⟨tx, z / 2, 15, rfl, tA, by omega, by decide, by decide, tR, fun u H8 hs8 ua ul => ?_⟩
    have hs78 := hs7.trans hs8
    have cutR : ∀ (y : Str), y ∈ Txt.split u (Str.ofString "\n") → y.cps.toList.length ≤ u.cps.toList.length := fun y hy => by
      have h := (join_part (d := 10) hy).2
      rw [show Str.join ⟨#[10]⟩ (Txt.split u (Str.ofString "\n")) = u from StrLaws.join_split ..] at h
      exact h
    walk_at "rd"
    refine ⟨fun σ H9 => ∃ (u : Str), σ = [some (.ref l), some (.ref c), some (.str tx), some (.int (0 + (i : Int))), some (.int z), some (.str u), none, none] ∧ Same H6 H9 ∧ (∀ c ∈ u.cps.toList, c < 128) ∧ u.cps.toList.length ≤ 998, ?_, ?_⟩
    · walk_at "rd"
      rw [decV]
      refine ite2 (fun c1 => ?_) (fun c1 => ?_)
      · walk_at "rd"
        refine ⟨l, _, _, _, rfl, rfl, hs8.seq hS7, hat, ?_⟩
        walk_at "rd"
        refine ⟨_, _, rfl, by omega, by omega, fun z2 hz20 hz21 => ?_⟩
        refine ⟨u, z2, 496, rfl, ua, by omega, by decide, by decide, fun y hy => Nat.le_trans (cutR y hy) (by omega), fun u2 H9 hs9 ua2 ul2 => ?_⟩
        exact ⟨u2, rfl, hs78.trans hs9, ua2, by omega⟩
      · exact ⟨u, rfl, hs78, ua, by omega⟩
    rintro σ H9 ⟨u, rfl, hs9, ua, ul⟩
    refine ⟨fun σ H9 => ∃ (u : Str), σ = [some (.ref l), some (.ref c), some (.str tx), some (.int (0 + (i : Int))), some (.int z), some (.str u), none, none] ∧ Same H6 H9 ∧ (∀ c ∈ u.cps.toList, c < 128) ∧ u.cps.toList.length ≤ 998, ?_, ?_⟩
    · walk_at "rd"
      rw [decV]
      refine ite2 (fun c1 => ?_) (fun c1 => ?_)
      · walk_at "rd"
        refine ⟨l, _, _, _, rfl, rfl, hs9.seq (hs6.seq hS), hat, ?_⟩
        walk_at "rd"
        refine ⟨_, _, rfl, by omega, by omega, fun z3 hz30 hz31 => ?_⟩
        walk_at "rd"
        intro cc hcc2
        walk_at "rd"
        refine ⟨tx, _, cc, rfl, tA, by have := len_eq tx; omega, hcc2, fun u2 hu => ?_⟩
        exact ⟨u2, rfl, hs9, hu.as, by have := hu.len; omega⟩
      · exact ⟨u, rfl, hs9, ua, ul⟩
    rintro σ H10 ⟨u, rfl, hs10, ua, ul⟩
    walk_at "rd"
    intro v1 H11 hs11 h1
    walk_at "rd"
    intro v2 H12 hs12 h2
    obtain ⟨d1, hd1, hd2⟩ := ans_den (K := K) ua ul (h1.same hs12)
    obtain ⟨e1, he1, he2⟩ := ans_den (K := K) ua ul h2
    refine ⟨d1, e1, hd1, he1, hd2.depth _, ?_⟩
    rw [hd2.uniq he2, eqv_refl he2.nb]
    walk_at "rd"
    try refine iteF ?_
    exact ⟨_, _, _, rfl, hs10.trans (hs11.trans hs12)⟩
  · rintro σ H7 ⟨v3, v4, v5, rfl, hs7⟩
    have L1 := caseT_as rows31_ok
    have L2 := caseT_len rows31_ne rows31_ok
    have L3 : rows31.length = 31 := by unfold rows31; rw [List.length_map, List.length_range]
    have LJ : jl (rows31.map rowT) ≤ 1000 := by
      have := sm_jl (ws := rows31.map rowT)
      have := sm_rows rows31_ok
      omega
    have LA := long_ans
    have LX := long_x
    walk_at "rd"
    intro D2 hD2
    refine comp_range (lo := 0) (n := 31) (fun j zs σ H8 => ∃ (w3 : Option V), σ = [some (.ref l), some (.ref c), some (.str tx), w3, v4, v5, some (.str (Str.ofString "abcdefghijklmnopqrstuvwxyz.,-'a")), none] ∧ Same H7 H8 ∧ H8 D2 = some (.lst zs) ∧ zs = ((rows31.take j).map rowT).map V.str)
      ?_ ?_ ?_
    · exact ⟨none, rfl, same_new hD2 _, upd_same, rfl⟩
    · rintro j zs σ H8 hj ⟨w3, rfl, hs8, hh8, rfl⟩
      rw [Int.zero_add]
      have e31 : atI (Str.ofString "abcdefghijklmnopqrstuvwxyz.,-'a").cps.toList (j : Int) = some (signs31.cps.toList.getD j 0) := (signs31_ok ⟨j, hj⟩).2
      walk_at "rd"
      refine ⟨_, _, _, rfl, rfl, smallL (by decide +kernel), e31, ?_⟩
      walk_at "rd"
      intro t ht
      have hs9 := same_new ht (.tup (Cs.rowV (r31 j)))
      have h9t : upd H8 t (.tup (Cs.rowV (r31 j))) t = some (.tup (Cs.rowV (r31 j))) := upd_same
      refine ⟨t, r31 j, rfl, h9t, r31_ok hj, fun H10 hs10 => ?_⟩
      have hs11 : Same H8 H10 := hs9.trans hs10
      clear hs10
      have hh10 := hs11 _ _ hh8
      refine cnext hj hh10 (by rw [List.length_map, List.length_map, List.length_take]; omega) ⟨_, rfl, same_upd (hs8.trans hs11) hD2, upd_same, ?_⟩
      rw [List.take_add_one, rows31_at hj, Option.toList_some, List.map_append, List.map_append]
      rfl
    · rintro zs σ H8 ⟨w3, rfl, hs8, hh8, rfl⟩
      rw [List.take_of_length_le (by omega)] at hh8
      walk_at "rd"
      refine ⟨_, D2, rows31.map rowT, rfl, rfl, SqL.of hh8, join_fit (d := 10) (n := 1000) LJ (by rw [List.length_map]; omega) (by decide), ?_⟩
      rw [show Txt.join (Str.ofString "\n") (rows31.map rowT) = caseT rows31 from join_eq (d := 10) _]
      clear LJ hh8
      have L4 : (caseT rows31).cps.toList.length ≤ 900 := by omega
      obtain ⟨X1, X2, X3⟩ := app_nx L1 L4
      have L4 : (caseT rows31).cps.toList.length ≤ 998 := by omega
      obtain ⟨E1, E2⟩ := empty_fine
      generalize caseT rows31 = lg at L1 L2 LA LX X1 X2 X3 L4 ⊢
      walk_at "rd"
      intro v1 H9 hs9 h1
      walk_at "rd"
      intro q1 hq1
      have hsA := same_new hq1 (.lst [.str (Str.ofString "case"), .int 30])
      have hA1 : upd H9 q1 (.lst [.str (Str.ofString "case"), .int 30]) q1 = some (.lst [.str (Str.ofString "case"), .int 30]) := upd_same
      generalize upd H9 q1 (.lst [.str (Str.ofString "case"), .int 30]) = H10 at hsA hA1 ⊢
      obtain ⟨d1, hd1, hd2⟩ := ans_den (K := K) L1 L4 (h1.same hsA)
      refine ⟨d1, .list [.str (Str.ofString "case"), .int 30], hd1, .lst (SqL.of hA1) (.cons (.str _ lay_case) (.cons (.int _) .nil)), hd2.depth _, ?_⟩
      rw [hd2.uniq LA, eqv_refl LA.nb]
      walk_at "rd"
      try refine iteF ?_
      walk_at "rd"
      intro v2 H11 hs11 h2
      walk_at "rd"
      intro q2 hq2
      have hsB := same_new hq2 (.lst [.str (Str.ofString "text")])
      have hB1 : upd H11 q2 (.lst [.str (Str.ofString "text")]) q2 = some (.lst [.str (Str.ofString "text")]) := upd_same
      generalize upd H11 q2 (.lst [.str (Str.ofString "text")]) = H12 at hsB hB1 ⊢
      obtain ⟨d3, hd3, hd4⟩ := ans_den (K := K) X1 X2 (h2.same hsB)
      refine ⟨d3, .list [.str (Str.ofString "text")], hd3, .lst (SqL.of hB1) (.cons (.str _ lay_text) .nil), hd4.depth _, ?_⟩
      rw [hd4.uniq LX, eqv_refl LX.nb]
      walk_at "rd"
      try refine iteF ?_
      walk_at "rd"
      intro v3 H13 hs13 h3
      walk_at "rd"
      intro q3 hq3
      have hsC := same_new hq3 (.lst [.str (Str.ofString "text")])
      have hC1 : upd H13 q3 (.lst [.str (Str.ofString "text")]) q3 = some (.lst [.str (Str.ofString "text")]) := upd_same
      generalize upd H13 q3 (.lst [.str (Str.ofString "text")]) = H14 at hsC hC1 ⊢
      obtain ⟨d5, hd5, hd6⟩ := ans_den (K := K) E1 E2 (h3.same hsC)
      refine ⟨d5, .list [.str (Str.ofString "text")], hd5, .lst (SqL.of hC1) (.cons (.str _ lay_text) .nil), hd6.depth _, ?_⟩
      rw [hd6.uniq empty_ans, eqv_refl empty_ans.nb]
      walk_at "rd"
      try refine iteF ?_
      have T4 : tx.cps.toList.length ≤ 998 := by omega
      walk_at "rd"
      intro v4' H15 hs15 h4
      walk_at "rd"
      intro q4 hq4
      have hsD := same_new hq4 (.lst [.str (Str.ofString "good")])
      have hD1 : upd H15 q4 (.lst [.str (Str.ofString "good")]) q4 = some (.lst [.str (Str.ofString "good")]) := upd_same
      generalize upd H15 q4 (.lst [.str (Str.ofString "good")]) = H16 at hsD hD1 ⊢
      have hs16 : Same H6 H16 := hs7.trans (hs8.trans (hs9.trans (hsA.trans (hs11.trans (hsB.trans (hs13.trans (hsC.trans (hs15.trans hsD))))))))
      walk_at "rd"
      refine ⟨q4, c, _, _, rfl, rfl, hD1, hs16 _ _ hcc, smallL (by show 1 + _ ≤ _; omega), fun q5 hq5 => ?_⟩
      have hsE := same_new hq5 (.lst ([V.str (Str.ofString "good")] ++ xs))
      obtain ⟨d7, hd7, hd8⟩ := ans_den (K := K) tA T4 (h4.same (hsD.trans hsE))
      refine ⟨d7, .list (.str (Str.ofString "good") :: rs.map Cs.rowD), hd7, .lst (SqL.of upd_same) (.cons (.str _ lay_good) (Cs.denL_rows (Cs.rows_same hpd6 (hs16.trans hsE)) rlay)), hd8.depth _, ?_⟩
      rw [hd8.uniq tN, eqv_refl tN.nb]
      exact q _
theorem uz1 {P : List Value → Prop} (h : ∀ a, P [a]) (us : List Value) (hl : us.length = 1) : P us := by
  cases us with
  | nil => exact absurd hl (by decide)
  | cons a us =>
    cases us with
    | nil => exact h a
    | cons z us => exact absurd (Nat.succ.inj (hl)) (Nat.succ_ne_zero _)
theorem ba1 {fd : FuncData} {ps : List Str} (h : ∀ a : Value, bindArgs fd ⟨[a], []⟩ = pure (ps.zip [a])) : ∀ us : List Value, us.length = 1 → bindArgs fd ⟨us, []⟩ = pure (ps.zip us) := uz1 (P := fun us => bindArgs fd ⟨us, []⟩ = pure (ps.zip us)) h
theorem uz2 {P : List Value → Prop} (h : ∀ a b, P [a, b]) (us : List Value) (hl : us.length = 2) : P us := by
  cases us with
  | nil => exact absurd hl (by decide)
  | cons a us =>
    cases us with
    | nil => exact absurd hl (by rw [List.length_cons, List.length_nil]; decide)
    | cons b us =>
      cases us with
      | nil => exact h a b
      | cons z us => exact absurd (Nat.succ.inj (Nat.succ.inj (hl))) (Nat.succ_ne_zero _)
theorem ba2 {fd : FuncData} {ps : List Str} (h : ∀ a b : Value, bindArgs fd ⟨[a, b], []⟩ = pure (ps.zip [a, b])) : ∀ us : List Value, us.length = 2 → bindArgs fd ⟨us, []⟩ = pure (ps.zip us) := uz2 (P := fun us => bindArgs fd ⟨us, []⟩ = pure (ps.zip us)) h
theorem uz3 {P : List Value → Prop} (h : ∀ a b c, P [a, b, c]) (us : List Value) (hl : us.length = 3) : P us := by
  cases us with
  | nil => exact absurd hl (by decide)
  | cons a us =>
    cases us with
    | nil => exact absurd hl (by rw [List.length_cons, List.length_nil]; decide)
    | cons b us =>
      cases us with
      | nil => exact absurd hl (by rw [List.length_cons, List.length_cons, List.length_nil]; decide)
      | cons c us =>
        cases us with
        | nil => exact h a b c
        | cons z us => exact absurd (Nat.succ.inj (Nat.succ.inj (Nat.succ.inj (hl)))) (Nat.succ_ne_zero _)
theorem ba3 {fd : FuncData} {ps : List Str} (h : ∀ a b c : Value, bindArgs fd ⟨[a, b, c], []⟩ = pure (ps.zip [a, b, c])) : ∀ us : List Value, us.length = 3 → bindArgs fd ⟨us, []⟩ = pure (ps.zip us) := uz3 (P := fun us => bindArgs fd ⟨us, []⟩ = pure (ps.zip us)) h
theorem txt_mk {K : PySem.W.Frag} {h : Heap} {mg : Str → Option Value} (X : K.In h) (G : h.Ns mainGlobals mg)
    {f0 : Addr} {od0 an0 : Option Addr} {sl0 : Array (Option Value)} {oc0 kV0 dc0 pm0 cd0 ct0 : Value} {f1 : Addr} {od1 an1 : Option Addr} {sl1 : Array (Option Value)} {oc1 kV1 dc1 pm1 cd1 ct1 : Value} {f2 : Addr} {od2 an2 : Option Addr} {sl2 : Array (Option Value)} {oc2 kV2 dc2 pm2 cd2 ct2 : Value} {f3 : Addr} {od3 an3 : Option Addr} {sl3 : Array (Option Value)} {oc3 kV3 dc3 pm3 cd3 ct3 : Value} {f4 : Addr} {od4 an4 : Option Addr} {sl4 : Array (Option Value)} {oc4 kV4 dc4 pm4 cd4 ct4 : Value} {f5 : Addr} {od5 an5 : Option Addr} {sl5 : Array (Option Value)} {oc5 kV5 dc5 pm5 cd5 ct5 : Value} {f6 : Addr} {od6 an6 : Option Addr} {sl6 : Array (Option Value)} {oc6 kV6 dc6 pm6 cd6 ct6 : Value} {f7 : Addr} {od7 an7 : Option Addr} {sl7 : Array (Option Value)} {oc7 kV7 dc7 pm7 cd7 ct7 : Value} {f8 : Addr} {od8 an8 : Option Addr} {sl8 : Array (Option Value)} {oc8 kV8 dc8 pm8 cd8 ct8 : Value} {f9 : Addr} {od9 an9 : Option Addr} {sl9 : Array (Option Value)} {oc9 kV9 dc9 pm9 cd9 ct9 : Value} {f10 : Addr} {od10 an10 : Option Addr} {sl10 : Array (Option Value)} {oc10 kV10 dc10 pm10 cd10 ct10 : Value} {f11 : Addr} {od11 an11 : Option Addr} {sl11 : Array (Option Value)} {oc11 kV11 dc11 pm11 cd11 ct11 : Value} {f12 : Addr} {od12 an12 : Option Addr} {sl12 : Array (Option Value)} {oc12 kV12 dc12 pm12 cd12 ct12 : Value} {f13 : Addr} {od13 an13 : Option Addr} {sl13 : Array (Option Value)} {oc13 kV13 dc13 pm13 cd13 ct13 : Value} {f14 : Addr} {od14 an14 : Option Addr} {sl14 : Array (Option Value)} {oc14 kV14 dc14 pm14 cd14 ct14 : Value} {f15 : Addr} {od15 an15 : Option Addr} {sl15 : Array (Option Value)} {oc15 kV15 dc15 pm15 cd15 ct15 : Value} {f16 : Addr} {od16 an16 : Option Addr} {sl16 : Array (Option Value)} {oc16 kV16 dc16 pm16 cd16 ct16 : Value} {f17 : Addr} {od17 an17 : Option Addr} {sl17 : Array (Option Value)} {oc17 kV17 dc17 pm17 cd17 ct17 : Value} {f18 : Addr} {od18 an18 : Option Addr} {sl18 : Array (Option Value)} {oc18 kV18 dc18 pm18 cd18 ct18 : Value} {f19 : Addr} {od19 an19 : Option Addr} {sl19 : Array (Option Value)} {oc19 kV19 dc19 pm19 cd19 ct19 : Value} {f20 : Addr} {od20 an20 : Option Addr} {sl20 : Array (Option Value)} {oc20 kV20 dc20 pm20 cd20 ct20 : Value} {f21 : Addr} {od21 an21 : Option Addr} {sl21 : Array (Option Value)} {oc21 kV21 dc21 pm21 cd21 ct21 : Value} {f22 : Addr} {od22 an22 : Option Addr} {sl22 : Array (Option Value)} {oc22 kV22 dc22 pm22 cd22 ct22 : Value} {f23 : Addr} {od23 an23 : Option Addr} {sl23 : Array (Option Value)} {oc23 kV23 dc23 pm23 cd23 ct23 : Value} {f24 : Addr} {od24 an24 : Option Addr} {sl24 : Array (Option Value)} {oc24 kV24 dc24 pm24 cd24 ct24 : Value} {f25 : Addr} {od25 an25 : Option Addr} {sl25 : Array (Option Value)} {oc25 kV25 dc25 pm25 cd25 ct25 : Value}
    (a0 : PySem.W.nsIn K mainGlobals "is_sign" = some (some (.ref f0))) (l0 : K.lookup f0 = some ⟨oc0, od0, .func (PySem.W.fnOf "is_sign" "is_sign" (defArgs s_is_sign) (defBody s_is_sign) (defScope s_is_sign) .none kV0 dc0 pm0 an0 cd0 ct0), sl0⟩) (c0 : PySem.W.codeIn K cd0 "is_sign" = true) (k0 : PySem.W.keepIn K (.ref f0) = true)
    (a1 : PySem.W.nsIn K mainGlobals "is_channel" = some (some (.ref f1))) (l1 : K.lookup f1 = some ⟨oc1, od1, .func (PySem.W.fnOf "is_channel" "is_channel" (defArgs s_is_channel) (defBody s_is_channel) (defScope s_is_channel) .none kV1 dc1 pm1 an1 cd1 ct1), sl1⟩) (c1 : PySem.W.codeIn K cd1 "is_channel" = true) (k1 : PySem.W.keepIn K (.ref f1) = true)
    (a2 : PySem.W.nsIn K mainGlobals "can_stand" = some (some (.ref f2))) (l2 : K.lookup f2 = some ⟨oc2, od2, .func (PySem.W.fnOf "can_stand" "can_stand" (defArgs s_can_stand) (defBody s_can_stand) (defScope s_can_stand) .none kV2 dc2 pm2 an2 cd2 ct2), sl2⟩) (c2 : PySem.W.codeIn K cd2 "can_stand" = true) (k2 : PySem.W.keepIn K (.ref f2) = true)
    (a3 : PySem.W.nsIn K mainGlobals "look_at_case" = some (some (.ref f3))) (l3 : K.lookup f3 = some ⟨oc3, od3, .func (PySem.W.fnOf "look_at_case" "look_at_case" (defArgs s_look_at_case) (defBody s_look_at_case) (defScope s_look_at_case) .none kV3 dc3 pm3 an3 cd3 ct3), sl3⟩) (c3 : PySem.W.codeIn K cd3 "look_at_case" = true) (k3 : PySem.W.keepIn K (.ref f3) = true)
    (a4 : PySem.W.nsIn K mainGlobals "channel_of" = some (some (.ref f4))) (l4 : K.lookup f4 = some ⟨oc4, od4, .func (PySem.W.fnOf "channel_of" "channel_of" (defArgs s_channel_of) (defBody s_channel_of) (defScope s_channel_of) .none kV4 dc4 pm4 an4 cd4 ct4), sl4⟩) (c4 : PySem.W.codeIn K cd4 "channel_of" = true) (k4 : PySem.W.keepIn K (.ref f4) = true)
    (a5 : PySem.W.nsIn K mainGlobals "codes_of" = some (some (.ref f5))) (l5 : K.lookup f5 = some ⟨oc5, od5, .func (PySem.W.fnOf "codes_of" "codes_of" (defArgs s_codes_of_) (defBody s_codes_of_) (defScope s_codes_of_) .none kV5 dc5 pm5 an5 cd5 ct5), sl5⟩) (c5 : PySem.W.codeIn K cd5 "codes_of" = true) (k5 : PySem.W.keepIn K (.ref f5) = true)
    (a6 : PySem.W.nsIn K mainGlobals "is_number" = some (some (.ref f6))) (l6 : K.lookup f6 = some ⟨oc6, od6, .func (PySem.W.fnOf "is_number" "is_number" (defArgs s_is_number) (defBody s_is_number) (defScope s_is_number) .none kV6 dc6 pm6 an6 cd6 ct6), sl6⟩) (c6 : PySem.W.codeIn K cd6 "is_number" = true) (k6 : PySem.W.keepIn K (.ref f6) = true)
    (a7 : PySem.W.nsIn K mainGlobals "is_teeth" = some (some (.ref f7))) (l7 : K.lookup f7 = some ⟨oc7, od7, .func (PySem.W.fnOf "is_teeth" "is_teeth" (defArgs s_is_teeth) (defBody s_is_teeth) (defScope s_is_teeth) .none kV7 dc7 pm7 an7 cd7 ct7), sl7⟩) (c7 : PySem.W.codeIn K cd7 "is_teeth" = true) (k7 : PySem.W.keepIn K (.ref f7) = true)
    (a8 : PySem.W.nsIn K mainGlobals "read_teeth" = some (some (.ref f8))) (l8 : K.lookup f8 = some ⟨oc8, od8, .func (PySem.W.fnOf "read_teeth" "read_teeth" (defArgs s_read_teeth) (defBody s_read_teeth) (defScope s_read_teeth) .none kV8 dc8 pm8 an8 cd8 ct8), sl8⟩) (c8 : PySem.W.codeIn K cd8 "read_teeth" = true) (k8 : PySem.W.keepIn K (.ref f8) = true)
    (a9 : PySem.W.nsIn K mainGlobals "is_row" = some (some (.ref f9))) (l9 : K.lookup f9 = some ⟨oc9, od9, .func (PySem.W.fnOf "is_row" "is_row" (defArgs s_is_row) (defBody s_is_row) (defScope s_is_row) .none kV9 dc9 pm9 an9 cd9 ct9), sl9⟩) (c9 : PySem.W.codeIn K cd9 "is_row" = true) (k9 : PySem.W.keepIn K (.ref f9) = true)
    (a10 : PySem.W.nsIn K mainGlobals "read_row" = some (some (.ref f10))) (l10 : K.lookup f10 = some ⟨oc10, od10, .func (PySem.W.fnOf "read_row" "read_row" (defArgs s_read_row) (defBody s_read_row) (defScope s_read_row) .none kV10 dc10 pm10 an10 cd10 ct10), sl10⟩) (c10 : PySem.W.codeIn K cd10 "read_row" = true) (k10 : PySem.W.keepIn K (.ref f10) = true)
    (a11 : PySem.W.nsIn K mainGlobals "read_case" = some (some (.ref f11))) (l11 : K.lookup f11 = some ⟨oc11, od11, .func (PySem.W.fnOf "read_case" "read_case" (defArgs s_read_case) (defBody s_read_case) (defScope s_read_case) .none kV11 dc11 pm11 an11 cd11 ct11), sl11⟩) (c11 : PySem.W.codeIn K cd11 "read_case" = true) (k11 : PySem.W.keepIn K (.ref f11) = true)
    (a12 : PySem.W.nsIn K mainGlobals "_law_cell_at" = some (some (.ref f12))) (l12 : K.lookup f12 = some ⟨oc12, od12, .func (PySem.W.fnOf "_law_cell_at" "_law_cell_at" (defArgs s_law_cell_at) (defBody s_law_cell_at) (defScope s_law_cell_at) .none kV12 dc12 pm12 an12 cd12 ct12), sl12⟩) (c12 : PySem.W.codeIn K cd12 "_law_cell_at" = true) (k12 : PySem.W.keepIn K (.ref f12) = true)
    (a13 : PySem.W.nsIn K mainGlobals "_law_mixed" = some (some (.ref f13))) (l13 : K.lookup f13 = some ⟨oc13, od13, .func (PySem.W.fnOf "_law_mixed" "_law_mixed" (defArgs s_law_mixed) (defBody s_law_mixed) (defScope s_law_mixed) .none kV13 dc13 pm13 an13 cd13 ct13), sl13⟩) (c13 : PySem.W.codeIn K cd13 "_law_mixed" = true) (k13 : PySem.W.keepIn K (.ref f13) = true)
    (a14 : PySem.W.nsIn K mainGlobals "_law_case" = some (some (.ref f14))) (l14 : K.lookup f14 = some ⟨oc14, od14, .func (PySem.W.fnOf "_law_case" "_law_case" (defArgs s_law_case) (defBody s_law_case) (defScope s_law_case) .none kV14 dc14 pm14 an14 cd14 ct14), sl14⟩) (c14 : PySem.W.codeIn K cd14 "_law_case" = true) (k14 : PySem.W.keepIn K (.ref f14) = true)
    (a15 : PySem.W.nsIn K mainGlobals "_law_others" = some (some (.ref f15))) (l15 : K.lookup f15 = some ⟨oc15, od15, .func (PySem.W.fnOf "_law_others" "_law_others" (defArgs s_law_others) (defBody s_law_others) (defScope s_law_others) .none kV15 dc15 pm15 an15 cd15 ct15), sl15⟩) (c15 : PySem.W.codeIn K cd15 "_law_others" = true) (k15 : PySem.W.keepIn K (.ref f15) = true)
    (a16 : PySem.W.nsIn K mainGlobals "_law_sign" = some (some (.ref f16))) (l16 : K.lookup f16 = some ⟨oc16, od16, .func (PySem.W.fnOf "_law_sign" "_law_sign" (defArgs s_law_sign) (defBody s_law_sign) (defScope s_law_sign) .none kV16 dc16 pm16 an16 cd16 ct16), sl16⟩) (c16 : PySem.W.codeIn K cd16 "_law_sign" = true) (k16 : PySem.W.keepIn K (.ref f16) = true)
    (a17 : PySem.W.nsIn K mainGlobals "_law_spoiled" = some (some (.ref f17))) (l17 : K.lookup f17 = some ⟨oc17, od17, .func (PySem.W.fnOf "_law_spoiled" "_law_spoiled" (defArgs s_law_spoiled) (defBody s_law_spoiled) (defScope s_law_spoiled) .none kV17 dc17 pm17 an17 cd17 ct17), sl17⟩) (c17 : PySem.W.codeIn K cd17 "_law_spoiled" = true) (k17 : PySem.W.keepIn K (.ref f17) = true)
    (a18 : PySem.W.nsIn K mainGlobals "_law_row" = some (some (.ref f18))) (l18 : K.lookup f18 = some ⟨oc18, od18, .func (PySem.W.fnOf "_law_row" "_law_row" (defArgs s_law_row) (defBody s_law_row) (defScope s_law_row) .none kV18 dc18 pm18 an18 cd18 ct18), sl18⟩) (c18 : PySem.W.codeIn K cd18 "_law_row" = true) (k18 : PySem.W.keepIn K (.ref f18) = true)
    (a19 : PySem.W.nsIn K mainGlobals "_law_odd" = some (some (.ref f19))) (l19 : K.lookup f19 = some ⟨oc19, od19, .func (PySem.W.fnOf "_law_odd" "_law_odd" (defArgs s_law_odd) (defBody s_law_odd) (defScope s_law_odd) .none kV19 dc19 pm19 an19 cd19 ct19), sl19⟩) (c19 : PySem.W.codeIn K cd19 "_law_odd" = true) (k19 : PySem.W.keepIn K (.ref f19) = true)
    (a20 : PySem.W.nsIn K mainGlobals "_law_rows_spoiled" = some (some (.ref f20))) (l20 : K.lookup f20 = some ⟨oc20, od20, .func (PySem.W.fnOf "_law_rows_spoiled" "_law_rows_spoiled" (defArgs s_law_rows_spoiled) (defBody s_law_rows_spoiled) (defScope s_law_rows_spoiled) .none kV20 dc20 pm20 an20 cd20 ct20), sl20⟩) (c20 : PySem.W.codeIn K cd20 "_law_rows_spoiled" = true) (k20 : PySem.W.keepIn K (.ref f20) = true)
    (a21 : PySem.W.nsIn K mainGlobals "_law_number" = some (some (.ref f21))) (l21 : K.lookup f21 = some ⟨oc21, od21, .func (PySem.W.fnOf "_law_number" "_law_number" (defArgs s_law_number) (defBody s_law_number) (defScope s_law_number) .none kV21 dc21 pm21 an21 cd21 ct21), sl21⟩) (c21 : PySem.W.codeIn K cd21 "_law_number" = true) (k21 : PySem.W.keepIn K (.ref f21) = true)
    (a22 : PySem.W.nsIn K mainGlobals "_law_channel" = some (some (.ref f22))) (l22 : K.lookup f22 = some ⟨oc22, od22, .func (PySem.W.fnOf "_law_channel" "_law_channel" (defArgs s_law_channel) (defBody s_law_channel) (defScope s_law_channel) .none kV22 dc22 pm22 an22 cd22 ct22), sl22⟩) (c22 : PySem.W.codeIn K cd22 "_law_channel" = true) (k22 : PySem.W.keepIn K (.ref f22) = true)
    (a23 : PySem.W.nsIn K mainGlobals "_law_due" = some (some (.ref f23))) (l23 : K.lookup f23 = some ⟨oc23, od23, .func (PySem.W.fnOf "_law_due" "_law_due" (defArgs s_law_due) (defBody s_law_due) (defScope s_law_due) .none kV23 dc23 pm23 an23 cd23 ct23), sl23⟩) (c23 : PySem.W.codeIn K cd23 "_law_due" = true) (k23 : PySem.W.keepIn K (.ref f23) = true)
    (a24 : PySem.W.nsIn K mainGlobals "_law_told" = some (some (.ref f24))) (l24 : K.lookup f24 = some ⟨oc24, od24, .func (PySem.W.fnOf "_law_told" "_law_told" (defArgs s_law_told) (defBody s_law_told) (defScope s_law_told) .none kV24 dc24 pm24 an24 cd24 ct24), sl24⟩) (c24 : PySem.W.codeIn K cd24 "_law_told" = true) (k24 : PySem.W.keepIn K (.ref f24) = true)
    (a25 : PySem.W.nsIn K mainGlobals "law" = some (some (.ref f25))) (l25 : K.lookup f25 = some ⟨oc25, od25, .func (PySem.W.fnOf "law" "law" (defArgs s_law) (defBody s_law) (defScope s_law) .none kV25 dc25 pm25 an25 cd25 ct25), sl25⟩) (c25 : PySem.W.codeIn K cd25 "law" = true) (k25 : PySem.W.keepIn K (.ref f25) = true)
    {c_CasterError : Addr} (ca_CasterError : PySem.W.nsIn K mainGlobals "CasterError" = some (some (.ref c_CasterError)))
    (ci_CasterError : PySem.W.isClsIn K c_CasterError = true) (ct_CasterError : PySem.W.typeIn K (.ref c_CasterError) = some (.type "type"))
    {c_NoCase : Addr} (ca_NoCase : PySem.W.nsIn K mainGlobals "NoCase" = some (some (.ref c_NoCase)))
    {c_TooMany : Addr} (ca_TooMany : PySem.W.nsIn K mainGlobals "TooMany" = some (some (.ref c_TooMany)))
    (ci_TooMany : PySem.W.isClsIn K c_TooMany = true) (ct_TooMany : PySem.W.typeIn K (.ref c_TooMany) = some (.type "type"))
    {c_Loose : Addr} (ca_Loose : PySem.W.nsIn K mainGlobals "Loose" = some (some (.ref c_Loose)))
    (ci_Loose : PySem.W.isClsIn K c_Loose = true) (ct_Loose : PySem.W.typeIn K (.ref c_Loose) = some (.type "type"))
    {c_Tight : Addr} (ca_Tight : PySem.W.nsIn K mainGlobals "Tight" = some (some (.ref c_Tight)))
    (ci_Tight : PySem.W.isClsIn K c_Tight = true) (ct_Tight : PySem.W.typeIn K (.ref c_Tight) = some (.type "type"))
    {c_NoBreak : Addr} (ca_NoBreak : PySem.W.nsIn K mainGlobals "NoBreak" = some (some (.ref c_NoBreak)))
    (ci_NoBreak : PySem.W.isClsIn K c_NoBreak = true) (ct_NoBreak : PySem.W.typeIn K (.ref c_NoBreak) = some (.type "type"))
    {c_NoCopy : Addr} (ca_NoCopy : PySem.W.nsIn K mainGlobals "NoCopy" = some (some (.ref c_NoCopy)))
    (ci_NoCopy : PySem.W.isClsIn K c_NoCopy = true) (ct_NoCopy : PySem.W.typeIn K (.ref c_NoCopy) = some (.type "type"))
    {c_NoKeys : Addr} (ca_NoKeys : PySem.W.nsIn K mainGlobals "NoKeys" = some (some (.ref c_NoKeys)))
    (ci_NoKeys : PySem.W.isClsIn K c_NoKeys = true) (ct_NoKeys : PySem.W.typeIn K (.ref c_NoKeys) = some (.type "type"))
    {c_NoText : Addr} (ca_NoText : PySem.W.nsIn K mainGlobals "NoText" = some (some (.ref c_NoText)))
    {c_NoNumber : Addr} (ca_NoNumber : PySem.W.nsIn K mainGlobals "NoNumber" = some (some (.ref c_NoNumber)))
    (ci_NoNumber : PySem.W.isClsIn K c_NoNumber = true) (ct_NoNumber : PySem.W.typeIn K (.ref c_NoNumber) = some (.type "type"))
    {c_NoRow : Addr} (ca_NoRow : PySem.W.nsIn K mainGlobals "NoRow" = some (some (.ref c_NoRow)))
    (ci_NoRow : PySem.W.isClsIn K c_NoRow = true) (ct_NoRow : PySem.W.typeIn K (.ref c_NoRow) = some (.type "type"))
    {od_CasterError : Option Addr} {cd_CasterError : ClassData} {sl_CasterError : Array (Option Value)} (lk_CasterError : K.lookup c_CasterError = some ⟨.type "type", od_CasterError, .cls cd_CasterError, sl_CasterError⟩)
    {N_CasterError : Addr} (cN_CasterError : cd_CasterError.ns = N_CasterError) {noc_CasterError : Value} {nod_CasterError : Option Addr} {nes_CasterError : Array DictEntry} {nn_CasterError : Nat} {nsl_CasterError : Array (Option Value)} (ln_CasterError : K.lookup N_CasterError = some ⟨noc_CasterError, nod_CasterError, .dict nes_CasterError nn_CasterError, nsl_CasterError⟩)
    (le_CasterError : (nes_CasterError.toList.all fun e => match e.key with | .str _ _ => true | _ => false) = true) (ni_CasterError : PySem.W.nsIn K N_CasterError "__init__" = some none)
    {fi_NoCase : Addr} (cn_NoCase : PySem.W.findIn K (.ref c_NoCase) "__init__" = some (some (.ref fi_NoCase)))
    {iod_NoCase ian_NoCase : Option Addr} {isl_NoCase : Array (Option Value)} {ioc_NoCase ikV_NoCase idc_NoCase ipm_NoCase icd_NoCase ict_NoCase : Value}
    (cl_NoCase : K.lookup fi_NoCase = some ⟨ioc_NoCase, iod_NoCase, .func (PySem.W.fnOf "__init__" "NoCase.__init__" (defArgs s_init_NoCase) (defBody s_init_NoCase) (defScope s_init_NoCase) .none ikV_NoCase idc_NoCase ipm_NoCase ian_NoCase icd_NoCase ict_NoCase), isl_NoCase⟩) (cc_NoCase : PySem.W.codeIn K icd_NoCase "NoCase.__init__" = true) (ck_NoCase : PySem.W.keepIn K (.ref fi_NoCase) = true)
    {od_NoCase : Option Addr} {cd_NoCase : ClassData} {sl_NoCase : Array (Option Value)} (lk_NoCase : K.lookup c_NoCase = some ⟨.type "type", od_NoCase, .cls cd_NoCase, sl_NoCase⟩)
    {N_NoCase : Addr} (cN_NoCase : cd_NoCase.ns = N_NoCase) {noc_NoCase : Value} {nod_NoCase : Option Addr} {nes_NoCase : Array DictEntry} {nn_NoCase : Nat} {nsl_NoCase : Array (Option Value)} (ln_NoCase : K.lookup N_NoCase = some ⟨noc_NoCase, nod_NoCase, .dict nes_NoCase nn_NoCase, nsl_NoCase⟩)
    (le_NoCase : (nes_NoCase.toList.all fun e => match e.key with | .str _ _ => true | _ => false) = true) (ni_NoCase : PySem.W.nsIn K N_NoCase "__init__" = some (some (.ref fi_NoCase)))
    {k0_NoCase k1_NoCase k2_NoCase k3_NoCase k5_NoCase : Option Value} (cs_NoCase : sl_NoCase.toList = [k0_NoCase, k1_NoCase, k2_NoCase, k3_NoCase, some (.builtin "ValueError.__new__"), k5_NoCase]) (cm_NoCase : cd_NoCase.mro = .ref c_NoCase :: .ref c_CasterError :: bmV) (ch_NoCase : cd_NoCase.hasDel = false)
    (q1_NoCase : PySem.W.findIn K (.ref c_NoCase) "__getattribute__" = some (some (.builtin "BaseException.__getattribute__"))) (q2_NoCase : PySem.W.findIn K (.ref c_NoCase) "__getattr__" = some none) (q3_NoCase : PySem.W.mroIn K c_NoCase (.type "BaseException") = some true) (q4_NoCase : PySem.W.mroIn K c_NoCase (.type "object") = some true) (q5_NoCase : PySem.W.findIn K (.ref c_NoCase) "__class__" = some (some (.builtin "object.__class__"))) (q6_NoCase : PySem.W.hasDictIn K c_NoCase = true) (q7_NoCase : PySem.W.keepIn K (.ref c_NoCase) = true) (q8_NoCase : PySem.W.typeIn K (.ref c_NoCase) = some (.type "type")) (q9_NoCase : PySem.W.mroIn K c_NoCase (.type "ValueError") = some true)
    (w1_NoCase : cd_NoCase.hasDict = true) (w2_NoCase : PySem.W.findIn K (.ref c_NoCase) "__setattr__" = some (some (.builtin "object.__setattr__"))) (w3_NoCase : PySem.W.findIn K (.ref c_NoCase) "at" = some none) (w4_NoCase : PySem.W.isFn K (.ref fi_NoCase) = true)
    {od_NoText : Option Addr} {cd_NoText : ClassData} {sl_NoText : Array (Option Value)} (lk_NoText : K.lookup c_NoText = some ⟨.type "type", od_NoText, .cls cd_NoText, sl_NoText⟩)
    {N_NoText : Addr} (cN_NoText : cd_NoText.ns = N_NoText) {noc_NoText : Value} {nod_NoText : Option Addr} {nes_NoText : Array DictEntry} {nn_NoText : Nat} {nsl_NoText : Array (Option Value)} (ln_NoText : K.lookup N_NoText = some ⟨noc_NoText, nod_NoText, .dict nes_NoText nn_NoText, nsl_NoText⟩)
    (le_NoText : (nes_NoText.toList.all fun e => match e.key with | .str _ _ => true | _ => false) = true) (ni_NoText : PySem.W.nsIn K N_NoText "__init__" = some none)
    {k0_NoText k1_NoText k2_NoText k3_NoText k5_NoText : Option Value} (cs_NoText : sl_NoText.toList = [k0_NoText, k1_NoText, k2_NoText, k3_NoText, some (.builtin "ValueError.__new__"), k5_NoText]) (cm_NoText : cd_NoText.mro = .ref c_NoText :: .ref c_CasterError :: bmV) (ch_NoText : cd_NoText.hasDel = false)
    (q1_NoText : PySem.W.findIn K (.ref c_NoText) "__getattribute__" = some (some (.builtin "BaseException.__getattribute__"))) (q2_NoText : PySem.W.findIn K (.ref c_NoText) "__getattr__" = some none) (q3_NoText : PySem.W.mroIn K c_NoText (.type "BaseException") = some true) (q4_NoText : PySem.W.mroIn K c_NoText (.type "object") = some true) (q5_NoText : PySem.W.findIn K (.ref c_NoText) "__class__" = some (some (.builtin "object.__class__"))) (q6_NoText : PySem.W.hasDictIn K c_NoText = true) (q7_NoText : PySem.W.keepIn K (.ref c_NoText) = true) (q8_NoText : PySem.W.typeIn K (.ref c_NoText) = some (.type "type")) (q9_NoText : PySem.W.mroIn K c_NoText (.type "ValueError") = some true)
    (b1 : PySem.W.readsIn K c_CasterError (.type "type") = true) (b2 : PySem.W.findCls K (.ref c_CasterError) (.type "type") "__init__" = some (.val (.builtin "ValueError.__init__"))) (b3 : PySem.W.specialIn K (.ref c_CasterError) "__getattribute__" = some (some (.builtin "type.__getattribute__")))
    (m_NoCase_CasterError : PySem.W.mroIn K c_NoCase (.ref c_CasterError) = some true)
    (m_NoCase_NoCase : PySem.W.mroIn K c_NoCase (.ref c_NoCase) = some true)
    (m_NoCase_TooMany : PySem.W.mroIn K c_NoCase (.ref c_TooMany) = some false)
    (m_NoCase_Loose : PySem.W.mroIn K c_NoCase (.ref c_Loose) = some false)
    (m_NoCase_Tight : PySem.W.mroIn K c_NoCase (.ref c_Tight) = some false)
    (m_NoCase_NoBreak : PySem.W.mroIn K c_NoCase (.ref c_NoBreak) = some false)
    (m_NoCase_NoCopy : PySem.W.mroIn K c_NoCase (.ref c_NoCopy) = some false)
    (m_NoCase_NoKeys : PySem.W.mroIn K c_NoCase (.ref c_NoKeys) = some false)
    (m_NoCase_NoText : PySem.W.mroIn K c_NoCase (.ref c_NoText) = some false)
    (m_NoCase_NoNumber : PySem.W.mroIn K c_NoCase (.ref c_NoNumber) = some false)
    (m_NoCase_NoRow : PySem.W.mroIn K c_NoCase (.ref c_NoRow) = some false)
    (m_NoText_CasterError : PySem.W.mroIn K c_NoText (.ref c_CasterError) = some true)
    (m_NoText_NoCase : PySem.W.mroIn K c_NoText (.ref c_NoCase) = some false)
    (m_NoText_TooMany : PySem.W.mroIn K c_NoText (.ref c_TooMany) = some false)
    (m_NoText_Loose : PySem.W.mroIn K c_NoText (.ref c_Loose) = some false)
    (m_NoText_Tight : PySem.W.mroIn K c_NoText (.ref c_Tight) = some false)
    (m_NoText_NoBreak : PySem.W.mroIn K c_NoText (.ref c_NoBreak) = some false)
    (m_NoText_NoCopy : PySem.W.mroIn K c_NoText (.ref c_NoCopy) = some false)
    (m_NoText_NoKeys : PySem.W.mroIn K c_NoText (.ref c_NoKeys) = some false)
    (m_NoText_NoText : PySem.W.mroIn K c_NoText (.ref c_NoText) = some true)
    (m_NoText_NoNumber : PySem.W.mroIn K c_NoText (.ref c_NoNumber) = some false)
    (m_NoText_NoRow : PySem.W.mroIn K c_NoText (.ref c_NoRow) = some false)
    {t_SIGNS : Tok} (y_SIGNS : PySem.W.nsIn K mainGlobals "SIGNS" = some (some (.str "abcdefghijklmnopqrstuvwxyz.,-'" t_SIGNS)))
    {t_FIGURES : Tok} (y_FIGURES : PySem.W.nsIn K mainGlobals "FIGURES" = some (some (.str "0123456789" t_FIGURES)))
    {t_NUMBER_OF_TEETH : Tok} (y_NUMBER_OF_TEETH : PySem.W.nsIn K mainGlobals "NUMBER_OF_TEETH" = some (some (.int 7 t_NUMBER_OF_TEETH)))
    (z_ValueError : PySem.W.nsIn K mainGlobals "ValueError" = some none)
    (z_all : PySem.W.nsIn K mainGlobals "all" = some none)
    (z_bool : PySem.W.nsIn K mainGlobals "bool" = some none)
    (z_enumerate : PySem.W.nsIn K mainGlobals "enumerate" = some none)
    (z_int : PySem.W.nsIn K mainGlobals "int" = some none)
    (z_isinstance : PySem.W.nsIn K mainGlobals "isinstance" = some none)
    (z_len : PySem.W.nsIn K mainGlobals "len" = some none)
    (z_min : PySem.W.nsIn K mainGlobals "min" = some none)
    (z_range : PySem.W.nsIn K mainGlobals "range" = some none)
    (z_str : PySem.W.nsIn K mainGlobals "str" = some none)
    : ∃ a : Ad, Tx K mg a := by
  have D0 : D K mg "is_sign" s_is_sign ["text"] f0 _ := ⟨fun_mk l0 c0 k0, ba1 (fun _ => rfl), PySem.W.mg_of X G a0⟩
  have D1 : D K mg "is_channel" s_is_channel ["channel"] f1 _ := ⟨fun_mk l1 c1 k1, ba1 (fun _ => rfl), PySem.W.mg_of X G a1⟩
  have D2 : D K mg "can_stand" s_can_stand ["ahead", "channel"] f2 _ := ⟨fun_mk l2 c2 k2, ba2 (fun _ _ => rfl), PySem.W.mg_of X G a2⟩
  have D3 : D K mg "look_at_case" s_look_at_case ["case"] f3 _ := ⟨fun_mk l3 c3 k3, ba1 (fun _ => rfl), PySem.W.mg_of X G a3⟩
  have D4 : D K mg "channel_of" s_channel_of ["case", "sign"] f4 _ := ⟨fun_mk l4 c4 k4, ba2 (fun _ _ => rfl), PySem.W.mg_of X G a4⟩
  have D5 : D K mg "codes_of" s_codes_of_ ["case"] f5 _ := ⟨fun_mk l5 c5 k5, ba1 (fun _ => rfl), PySem.W.mg_of X G a5⟩
  have D6 : D K mg "is_number" s_is_number ["word"] f6 _ := ⟨fun_mk l6 c6 k6, ba1 (fun _ => rfl), PySem.W.mg_of X G a6⟩
  have D7 : D K mg "is_teeth" s_is_teeth ["word"] f7 _ := ⟨fun_mk l7 c7 k7, ba1 (fun _ => rfl), PySem.W.mg_of X G a7⟩
  have D8 : D K mg "read_teeth" s_read_teeth ["word"] f8 _ := ⟨fun_mk l8 c8 k8, ba1 (fun _ => rfl), PySem.W.mg_of X G a8⟩
  have D9 : D K mg "is_row" s_is_row ["words"] f9 _ := ⟨fun_mk l9 c9 k9, ba1 (fun _ => rfl), PySem.W.mg_of X G a9⟩
  have D10 : D K mg "read_row" s_read_row ["at", "row"] f10 _ := ⟨fun_mk l10 c10 k10, ba2 (fun _ _ => rfl), PySem.W.mg_of X G a10⟩
  have D11 : D K mg "read_case" s_read_case ["text"] f11 _ := ⟨fun_mk l11 c11 k11, ba1 (fun _ => rfl), PySem.W.mg_of X G a11⟩
  have D12 : D K mg "_law_cell_at" s_law_cell_at ["_law_script", "_law_k"] f12 _ := ⟨fun_mk l12 c12 k12, ba2 (fun _ _ => rfl), PySem.W.mg_of X G a12⟩
  have D13 : D K mg "_law_mixed" s_law_mixed ["_law_cell", "_law_k"] f13 _ := ⟨fun_mk l13 c13 k13, ba2 (fun _ _ => rfl), PySem.W.mg_of X G a13⟩
  have D14 : D K mg "_law_case" s_law_case ["_law_script"] f14 _ := ⟨fun_mk l14 c14 k14, ba1 (fun _ => rfl), PySem.W.mg_of X G a14⟩
  have D15 : D K mg "_law_others" s_law_others ["_law_e"] f15 _ := ⟨fun_mk l15 c15 k15, ba1 (fun _ => rfl), PySem.W.mg_of X G a15⟩
  have D16 : D K mg "_law_sign" s_law_sign ["_law_cell", "_law_menu"] f16 _ := ⟨fun_mk l16 c16 k16, ba2 (fun _ _ => rfl), PySem.W.mg_of X G a16⟩
  have D17 : D K mg "_law_spoiled" s_law_spoiled ["_law_text", "_law_number_here", "_law_sign_here"] f17 _ := ⟨fun_mk l17 c17 k17, ba3 (fun _ _ _ => rfl), PySem.W.mg_of X G a17⟩
  have D18 : D K mg "_law_row" s_law_row ["_law_channel_here"] f18 _ := ⟨fun_mk l18 c18 k18, ba1 (fun _ => rfl), PySem.W.mg_of X G a18⟩
  have D19 : D K mg "_law_odd" s_law_odd ["_law_row_here", "_law_number_here"] f19 _ := ⟨fun_mk l19 c19 k19, ba2 (fun _ _ => rfl), PySem.W.mg_of X G a19⟩
  have D20 : D K mg "_law_rows_spoiled" s_law_rows_spoiled ["_law_text", "_law_number_here"] f20 _ := ⟨fun_mk l20 c20 k20, ba2 (fun _ _ => rfl), PySem.W.mg_of X G a20⟩
  have D21 : D K mg "_law_number" s_law_number ["_law_word"] f21 _ := ⟨fun_mk l21 c21 k21, ba1 (fun _ => rfl), PySem.W.mg_of X G a21⟩
  have D22 : D K mg "_law_channel" s_law_channel ["_law_row_here"] f22 _ := ⟨fun_mk l22 c22 k22, ba1 (fun _ => rfl), PySem.W.mg_of X G a22⟩
  have D23 : D K mg "_law_due" s_law_due ["_law_text"] f23 _ := ⟨fun_mk l23 c23 k23, ba1 (fun _ => rfl), PySem.W.mg_of X G a23⟩
  have D24 : D K mg "_law_told" s_law_told ["_law_text"] f24 _ := ⟨fun_mk l24 c24 k24, ba1 (fun _ => rfl), PySem.W.mg_of X G a24⟩
  have D25 : D K mg "law" s_law ["_law_script"] f25 _ := ⟨fun_mk l25 c25 k25, ba1 (fun _ => rfl), PySem.W.mg_of X G a25⟩
  have F_CasterError : NsF K cd_CasterError.ns none := by rw [cN_CasterError]; exact ⟨⟨_, _, _, _, _, ln_CasterError, by rw [← Array.all_toList]; exact le_CasterError⟩, ni_CasterError⟩
  have F_NoCase : NsF K cd_NoCase.ns (some fi_NoCase) := by rw [cN_NoCase]; exact ⟨⟨_, _, _, _, _, ln_NoCase, by rw [← Array.all_toList]; exact le_NoCase⟩, ni_NoCase⟩
  have F_NoText : NsF K cd_NoText.ns none := by rw [cN_NoText]; exact ⟨⟨_, _, _, _, _, ln_NoText, by rw [← Array.all_toList]; exact le_NoText⟩, ni_NoText⟩
  have TL : PySem.W.tailIn K bmV (.ref c_CasterError :: bmV) = true := tail_mk lk_CasterError F_CasterError
  have E_CasterError : CL K mg "CasterError" c_CasterError := ⟨PySem.W.mg_of X G ca_CasterError, ci_CasterError, ct_CasterError⟩
  have X_NoCase := xcls_mk lk_NoCase cm_NoCase cs_NoCase ch_NoCase TL F_NoCase
  have Q_NoCase := xq_of (xq_mk q1_NoCase q2_NoCase q3_NoCase q4_NoCase q5_NoCase q6_NoCase q7_NoCase q8_NoCase q9_NoCase)
  have W_NoCase := xf_of (xf_mk (f := fi_NoCase) lk_NoCase (by rw [cm_NoCase]; rfl) w1_NoCase w2_NoCase w3_NoCase w4_NoCase)
  have E_NoCase : CI K mg "NoCase" "NoCase.__init__" s_init_NoCase ["self", "at"] c_NoCase fi_NoCase _ "at" := ⟨PySem.W.mg_of X G ca_NoCase, X_NoCase, Q_NoCase, W_NoCase.1, W_NoCase.2, fun_mk cl_NoCase cc_NoCase ck_NoCase, fun us hl => match us, hl with | [_, _], _ => rfl⟩
  have E_TooMany : CL K mg "TooMany" c_TooMany := ⟨PySem.W.mg_of X G ca_TooMany, ci_TooMany, ct_TooMany⟩
  have E_Loose : CL K mg "Loose" c_Loose := ⟨PySem.W.mg_of X G ca_Loose, ci_Loose, ct_Loose⟩
  have E_Tight : CL K mg "Tight" c_Tight := ⟨PySem.W.mg_of X G ca_Tight, ci_Tight, ct_Tight⟩
  have E_NoBreak : CL K mg "NoBreak" c_NoBreak := ⟨PySem.W.mg_of X G ca_NoBreak, ci_NoBreak, ct_NoBreak⟩
  have E_NoCopy : CL K mg "NoCopy" c_NoCopy := ⟨PySem.W.mg_of X G ca_NoCopy, ci_NoCopy, ct_NoCopy⟩
  have E_NoKeys : CL K mg "NoKeys" c_NoKeys := ⟨PySem.W.mg_of X G ca_NoKeys, ci_NoKeys, ct_NoKeys⟩
  have X_NoText := xcls_mk lk_NoText cm_NoText cs_NoText ch_NoText TL F_NoText
  have Q_NoText := xq_of (xq_mk q1_NoText q2_NoText q3_NoText q4_NoText q5_NoText q6_NoText q7_NoText q8_NoText q9_NoText)
  have E_NoText : CN K mg "NoText" c_NoText := ⟨PySem.W.mg_of X G ca_NoText, X_NoText, Q_NoText⟩
  have E_NoNumber : CL K mg "NoNumber" c_NoNumber := ⟨PySem.W.mg_of X G ca_NoNumber, ci_NoNumber, ct_NoNumber⟩
  have E_NoRow : CL K mg "NoRow" c_NoRow := ⟨PySem.W.mg_of X G ca_NoRow, ci_NoRow, ct_NoRow⟩
  exact ⟨⟨f0, _, f1, _, f2, _, f3, _, f4, _, f5, _, f6, _, f7, _, f8, _, f9, _, f10, _, f11, _, f12, _, f13, _, f14, _, f15, _, f16, _, f17, _, f18, _, f19, _, f20, _, f21, _, f22, _, f23, _, f24, _, f25, _, c_CasterError, c_NoCase, fi_NoCase, _, c_TooMany, c_Loose, c_Tight, c_NoBreak, c_NoCopy, c_NoKeys, c_NoText, c_NoNumber, c_NoRow, t_SIGNS, t_FIGURES, t_NUMBER_OF_TEETH⟩, ⟨D0, D1, D2, D3, D4, D5, D6, D7, D8, D9, D10, D11, D12, D13, D14, D15, D16, D17, D18, D19, D20, D21, D22, D23, D24, D25, E_CasterError, E_NoCase, E_TooMany, E_Loose, E_Tight, E_NoBreak, E_NoCopy, E_NoKeys, E_NoText, E_NoNumber, E_NoRow, ⟨b1, b2, b3⟩, m_NoCase_CasterError, m_NoCase_NoCase, m_NoCase_TooMany, m_NoCase_Loose, m_NoCase_Tight, m_NoCase_NoBreak, m_NoCase_NoCopy, m_NoCase_NoKeys, m_NoCase_NoText, m_NoCase_NoNumber, m_NoCase_NoRow, m_NoText_CasterError, m_NoText_NoCase, m_NoText_TooMany, m_NoText_Loose, m_NoText_Tight, m_NoText_NoBreak, m_NoText_NoCopy, m_NoText_NoKeys, m_NoText_NoText, m_NoText_NoNumber, m_NoText_NoRow, PySem.W.mg_of X G y_SIGNS, PySem.W.mg_of X G y_FIGURES, PySem.W.mg_of X G y_NUMBER_OF_TEETH, PySem.W.mg_none_of X G z_ValueError, PySem.W.mg_none_of X G z_all, PySem.W.mg_none_of X G z_bool, PySem.W.mg_none_of X G z_enumerate, PySem.W.mg_none_of X G z_int, PySem.W.mg_none_of X G z_isinstance, PySem.W.mg_none_of X G z_len, PySem.W.mg_none_of X G z_min, PySem.W.mg_none_of X G z_range, PySem.W.mg_none_of X G z_str⟩⟩
section
open PySem.W PyProof.Rows
open Hd (qr qi qs qt qb qe qF qG qT qN qf qg qC HD)
noncomputable def h_3 (P : Params) : Obj := ⟨(qt "dict"), .none, (.dict #[qe P "__name__" 165 (qs "law_linecaster_k54_cases_read_or_not" 530), qe P "__doc__" 166 .none, qe P "__package__" 167 .none, qe P "__loader__" 168 (qb "__main__.__loader__#opaque"), qe P "__spec__" 169 .none, qe P "__annotations__" 170 (qr 6), qe P "__builtins__" 171 (qr 4), qe P "__file__" 173 (qs "/claim/cut.py" 172), qe P "__cached__" 174 .none, qe P "CasterError" 206 (qr 24), qe P "NoCase" 231 (qr 44), qe P "TooMany" 247 (qr 56), qe P "Loose" 272 (qr 75), qe P "Tight" 297 (qr 94), qe P "NoBreak" 322 (qr 113), qe P "NoCopy" 338 (qr 125), qe P "NoKeys" 363 (qr 144), qe P "NoText" 379 (qr 156), qe P "NoNumber" 395 (qr 168), qe P "NoRow" 411 (qr 180), qe P "SIGNS" 415 (qs "abcdefghijklmnopqrstuvwxyz.,-'" 414), qe P "is_sign" 422 (qr 189), qe P "is_channel" 433 (qr 196), qe P "can_stand" 445 (qr 203), qe P "look_at_case" 454 (qr 210), qe P "channel_of" 464 (qr 217), qe P "codes_of" 470 (qr 222), qe P "FIGURES" 474 (qs "0123456789" 473), qe P "is_number" 480 (qr 227), qe P "NUMBER_OF_TEETH" 484 (.int (7) 483), qe P "is_teeth" 490 (qr 232), qe P "read_teeth" 499 (qr 239), qe P "is_row" 510 (qr 246), qe P "read_row" 523 (qr 253), qe P "read_case" 529 (qr 258), qe P "_law_cell_at" 539 (qr 265), qe P "_law_mixed" 547 (qr 272), qe P "_law_case" 562 (qr 279), qe P "_law_others" 570 (qr 286), qe P "_law_sign" 579 (qr 293), qe P "_law_spoiled" 589 (qr 300), qe P "_law_row" 602 (qr 307), qe P "_law_odd" 613 (qr 314), qe P "_law_rows_spoiled" 626 (qr 321), qe P "_law_number" 632 (qr 326), qe P "_law_channel" 642 (qr 333), qe P "_law_due" 648 (qr 338), qe P "_law_told" 657 (qr 345), qe P "law" 663 (qr 350)] 49), #[]⟩
noncomputable def h_11 : Obj := qT []
noncomputable def h_12 : Obj := qN [(qi 2), (qi 0), (qr 20), (qi 4), (qi 0), (qr 33), (qi 9), (qi 0), (qr 52), (qi 11), (qi 0), (qr 64), (qi 16), (qi 0), (qr 83), (qi 21), (qi 0), (qr 102), (qi 26), (qi 0), (qr 121), (qi 28), (qi 0), (qr 133), (qi 33), (qi 0), (qr 152), (qi 35), (qi 0), (qr 164), (qi 37), (qi 0), (qr 176), (qi 41), (qi 0), (qr 188), (qi 43), (qi 0), (qr 195), (qi 46), (qi 0), (qr 202), (qi 49), (qi 0), (qr 209), (qi 55), (qi 0), (qr 216), (qi 60), (qi 0), (qr 221), (qi 64), (qi 0), (qr 226), (qi 70), (qi 0), (qr 231), (qi 72), (qi 0), (qr 238), (qi 77), (qi 0), (qr 245), (qi 82), (qi 0), (qr 252), (qi 88), (qi 0), (qr 257), (qi 93), (qi 0), (qr 264), (qi 97), (qi 0), (qr 271), (qi 99), (qi 0), (qr 278), (qi 110), (qi 0), (qr 285), (qi 114), (qi 0), (qr 292), (qi 120), (qi 0), (qr 299), (qi 127), (qi 0), (qr 306), (qi 134), (qi 0), (qr 313), (qi 142), (qi 0), (qr 320), (qi 159), (qi 0), (qr 325), (qi 165), (qi 0), (qr 332), (qi 177), (qi 0), (qr 337), (qi 191), (qi 0), (qr 344), (qi 202), (qi 0), (qr 349)]
noncomputable def h_13 : Obj := qC "<module>" "<module>" 182 1 0 0 0 0 11 false 12 .none .none .none .none 185 186
noncomputable def h_14 : Obj := ⟨(qt "frame"), .none, .plain, #[(.some (qr 13)), (.some (qr 3)), (.some (qr 3)), .none, (.some (qs "__main__" 164)), .none, (.some (qr 0))]⟩
noncomputable def h_15 : Obj := qT [(qt "ValueError")]
noncomputable def h_16 : Obj := ⟨(qt "builtin_function_or_method"), .none, (.fields #[(qb "type.__prepare__"), (qt "type")]), #[]⟩
noncomputable def h_17 (P : Params) : Obj := ⟨(qt "dict"), .none, (.dict #[qe P "__module__" 196 (qs "linecaster.errors" 187), qe P "__qualname__" 198 (qs "CasterError" 197), qe P "__firstlineno__" 200 (.int (2) 199), qe P "__static_attributes__" 201 (qr 22)] 4), #[]⟩
noncomputable def h_18 : Obj := qT []
noncomputable def h_19 : Obj := qN []
noncomputable def h_20 : Obj := qC "CasterError" "CasterError" 191 2 0 0 0 0 18 false 19 .none .none .none .none 194 195
noncomputable def h_21 : Obj := ⟨(qt "frame"), .none, .plain, #[(.some (qr 20)), (.some (qr 3)), (.some (qr 17)), .none, (.some (qs "linecaster.errors" 187)), .none, (.some (qr 0))]⟩
noncomputable def h_22 : Obj := qT []
noncomputable def h_23 (P : Params) : Obj := ⟨(qt "dict"), .none, (.dict #[qe P "__module__" 196 (qs "linecaster.errors" 187), qe P "__firstlineno__" 200 (.int (2) 199), qe P "__static_attributes__" 201 (qr 22), qe P "__weakref__" 203 (qr 25), qe P "__doc__" 204 .none] 3), #[]⟩
noncomputable def h_24 : Obj := ⟨(qt "type"), .none, (.cls ⟨(.ofString "CasterError"), [(qt "ValueError")], [(qr 24), (qt "ValueError"), (qt "Exception"), (qt "BaseException"), (qt "object")], 23, (.ofString "CasterError"), true, [], [(qr 44), (qr 56), (qr 75), (qr 94), (qr 113), (qr 125), (qr 144), (qr 156), (qr 168), (qr 180)], false, .none, false⟩), #[(.some (qr 15)), .none, (.some (qs "CasterError" 189)), (.some (qs "CasterError" 197)), (.some (qb "ValueError.__new__")), (.some (.bool true))]⟩
noncomputable def h_25 : Obj := ⟨(qt "getset_descriptor"), .none, (.fields #[(qs "__weakref__" 202), (qr 24), (qb "ExceptionGroup.__weakref__"), .none]), #[]⟩
noncomputable def h_26 : Obj := ⟨(qt "super"), .none, (.fields #[(qr 24), (qr 24), (qr 24)]), #[]⟩
noncomputable def h_27 : Obj := ⟨(qt "builtin_function_or_method"), .none, (.fields #[(qb "object.__init_subclass__"), (qr 24)]), #[]⟩
noncomputable def h_28 : Obj := qT [(qr 24)]
noncomputable def h_29 : Obj := ⟨(qt "builtin_function_or_method"), .none, (.fields #[(qb "type.__prepare__"), (qt "type")]), #[]⟩
noncomputable def h_30 (P : Params) : Obj := ⟨(qt "dict"), .none, (.dict #[qe P "__module__" 214 (qs "linecaster.errors" 187), qe P "__qualname__" 216 (qs "NoCase" 215), qe P "__firstlineno__" 218 (.int (4) 217), qe P "__init__" 226 (qr 41), qe P "__static_attributes__" 228 (qr 42)] 5), #[]⟩
noncomputable def h_31 : Obj := qT []
noncomputable def h_32 : Obj := qN [(qi 6), (qi 4), (qr 40)]
noncomputable def h_33 : Obj := qC "NoCase" "NoCase" 209 4 0 0 0 0 31 false 32 .none .none .none .none 212 213
noncomputable def h_34 : Obj := ⟨(qt "frame"), .none, .plain, #[(.some (qr 33)), (.some (qr 3)), (.some (qr 30)), .none, (.some (qs "linecaster.errors" 187)), .none, (.some (qr 0))]⟩
noncomputable def h_35 : Obj := qT []
noncomputable def h_36 : Obj := qN []
noncomputable def h_37 : Obj := qT [(qs "self" 222), (qs "at" 223)]
noncomputable def h_38 : Obj := qT []
noncomputable def h_39 : Obj := qg "__init__" "NoCase.__init__" (inClass (top 2) 0)
noncomputable def h_40 : Obj := qC "__init__" "NoCase.__init__" 219 6 2 0 0 3 35 true 36 .none (qr 37) (qr 38) (qr 39) 224 225
noncomputable def h_41 : Obj := qf "__init__" "NoCase.__init__" (inClass (top 2) 0) (qs "linecaster.errors" 187) (qr 40)
noncomputable def h_42 : Obj := qT [(qs "at" 227)]
noncomputable def h_43 (P : Params) : Obj := ⟨(qt "dict"), .none, (.dict #[qe P "__module__" 214 (qs "linecaster.errors" 187), qe P "__firstlineno__" 218 (.int (4) 217), qe P "__init__" 226 (qr 41), qe P "__static_attributes__" 228 (qr 42), qe P "__doc__" 229 .none] 2), #[]⟩
noncomputable def h_44 : Obj := ⟨(qt "type"), .none, (.cls ⟨(.ofString "NoCase"), [(qr 24)], [(qr 44), (qr 24), (qt "ValueError"), (qt "Exception"), (qt "BaseException"), (qt "object")], 43, (.ofString "NoCase"), true, [], [], false, .none, false⟩), #[(.some (qr 28)), .none, (.some (qs "NoCase" 207)), (.some (qs "NoCase" 215)), (.some (qb "ValueError.__new__")), (.some (.bool true))]⟩
noncomputable def h_45 : Obj := ⟨(qt "super"), .none, (.fields #[(qr 44), (qr 44), (qr 44)]), #[]⟩
noncomputable def h_46 : Obj := ⟨(qt "builtin_function_or_method"), .none, (.fields #[(qb "object.__init_subclass__"), (qr 44)]), #[]⟩
noncomputable def h_47 : Obj := qT [(qr 24)]
noncomputable def h_48 : Obj := ⟨(qt "builtin_function_or_method"), .none, (.fields #[(qb "type.__prepare__"), (qt "type")]), #[]⟩
noncomputable def h_49 (P : Params) : Obj := ⟨(qt "dict"), .none, (.dict #[qe P "__module__" 239 (qs "linecaster.errors" 187), qe P "__qualname__" 241 (qs "TooMany" 240), qe P "__firstlineno__" 243 (.int (9) 242), qe P "__static_attributes__" 244 (qr 54)] 4), #[]⟩
noncomputable def h_50 : Obj := qT []
noncomputable def h_51 : Obj := qN []
noncomputable def h_52 : Obj := qC "TooMany" "TooMany" 234 9 0 0 0 0 50 false 51 .none .none .none .none 237 238
noncomputable def h_53 : Obj := ⟨(qt "frame"), .none, .plain, #[(.some (qr 52)), (.some (qr 3)), (.some (qr 49)), .none, (.some (qs "linecaster.errors" 187)), .none, (.some (qr 0))]⟩
noncomputable def h_54 : Obj := qT []
noncomputable def h_55 (P : Params) : Obj := ⟨(qt "dict"), .none, (.dict #[qe P "__module__" 239 (qs "linecaster.errors" 187), qe P "__firstlineno__" 243 (.int (9) 242), qe P "__static_attributes__" 244 (qr 54), qe P "__doc__" 245 .none] 2), #[]⟩
noncomputable def h_56 : Obj := ⟨(qt "type"), .none, (.cls ⟨(.ofString "TooMany"), [(qr 24)], [(qr 56), (qr 24), (qt "ValueError"), (qt "Exception"), (qt "BaseException"), (qt "object")], 55, (.ofString "TooMany"), true, [], [], false, .none, false⟩), #[(.some (qr 47)), .none, (.some (qs "TooMany" 232)), (.some (qs "TooMany" 240)), (.some (qb "ValueError.__new__")), (.some (.bool true))]⟩
noncomputable def h_57 : Obj := ⟨(qt "super"), .none, (.fields #[(qr 56), (qr 56), (qr 56)]), #[]⟩
noncomputable def h_58 : Obj := ⟨(qt "builtin_function_or_method"), .none, (.fields #[(qb "object.__init_subclass__"), (qr 56)]), #[]⟩
noncomputable def h_59 : Obj := qT [(qr 24)]
noncomputable def h_60 : Obj := ⟨(qt "builtin_function_or_method"), .none, (.fields #[(qb "type.__prepare__"), (qt "type")]), #[]⟩
noncomputable def h_61 (P : Params) : Obj := ⟨(qt "dict"), .none, (.dict #[qe P "__module__" 255 (qs "linecaster.errors" 187), qe P "__qualname__" 257 (qs "Loose" 256), qe P "__firstlineno__" 259 (.int (11) 258), qe P "__init__" 267 (qr 72), qe P "__static_attributes__" 269 (qr 73)] 5), #[]⟩
noncomputable def h_62 : Obj := qT []
noncomputable def h_63 : Obj := qN [(qi 13), (qi 4), (qr 71)]
noncomputable def h_64 : Obj := qC "Loose" "Loose" 250 11 0 0 0 0 62 false 63 .none .none .none .none 253 254
noncomputable def h_65 : Obj := ⟨(qt "frame"), .none, .plain, #[(.some (qr 64)), (.some (qr 3)), (.some (qr 61)), .none, (.some (qs "linecaster.errors" 187)), .none, (.some (qr 0))]⟩
noncomputable def h_66 : Obj := qT []
noncomputable def h_67 : Obj := qN []
noncomputable def h_68 : Obj := qT [(qs "self" 263), (qs "by" 264)]
noncomputable def h_69 : Obj := qT []
noncomputable def h_70 : Obj := qg "__init__" "Loose.__init__" (inClass (top 4) 0)
noncomputable def h_71 : Obj := qC "__init__" "Loose.__init__" 260 13 2 0 0 3 66 true 67 .none (qr 68) (qr 69) (qr 70) 265 266
noncomputable def h_72 : Obj := qf "__init__" "Loose.__init__" (inClass (top 4) 0) (qs "linecaster.errors" 187) (qr 71)
noncomputable def h_73 : Obj := qT [(qs "by" 268)]
noncomputable def h_74 (P : Params) : Obj := ⟨(qt "dict"), .none, (.dict #[qe P "__module__" 255 (qs "linecaster.errors" 187), qe P "__firstlineno__" 259 (.int (11) 258), qe P "__init__" 267 (qr 72), qe P "__static_attributes__" 269 (qr 73), qe P "__doc__" 270 .none] 2), #[]⟩
noncomputable def h_75 : Obj := ⟨(qt "type"), .none, (.cls ⟨(.ofString "Loose"), [(qr 24)], [(qr 75), (qr 24), (qt "ValueError"), (qt "Exception"), (qt "BaseException"), (qt "object")], 74, (.ofString "Loose"), true, [], [], false, .none, false⟩), #[(.some (qr 59)), .none, (.some (qs "Loose" 248)), (.some (qs "Loose" 256)), (.some (qb "ValueError.__new__")), (.some (.bool true))]⟩
noncomputable def h_76 : Obj := ⟨(qt "super"), .none, (.fields #[(qr 75), (qr 75), (qr 75)]), #[]⟩
noncomputable def h_77 : Obj := ⟨(qt "builtin_function_or_method"), .none, (.fields #[(qb "object.__init_subclass__"), (qr 75)]), #[]⟩
noncomputable def h_78 : Obj := qT [(qr 24)]
noncomputable def h_79 : Obj := ⟨(qt "builtin_function_or_method"), .none, (.fields #[(qb "type.__prepare__"), (qt "type")]), #[]⟩
noncomputable def h_80 (P : Params) : Obj := ⟨(qt "dict"), .none, (.dict #[qe P "__module__" 280 (qs "linecaster.errors" 187), qe P "__qualname__" 282 (qs "Tight" 281), qe P "__firstlineno__" 284 (.int (16) 283), qe P "__init__" 292 (qr 91), qe P "__static_attributes__" 294 (qr 92)] 5), #[]⟩
noncomputable def h_81 : Obj := qT []
noncomputable def h_82 : Obj := qN [(qi 18), (qi 4), (qr 90)]
noncomputable def h_83 : Obj := qC "Tight" "Tight" 275 16 0 0 0 0 81 false 82 .none .none .none .none 278 279
noncomputable def h_84 : Obj := ⟨(qt "frame"), .none, .plain, #[(.some (qr 83)), (.some (qr 3)), (.some (qr 80)), .none, (.some (qs "linecaster.errors" 187)), .none, (.some (qr 0))]⟩
noncomputable def h_85 : Obj := qT []
noncomputable def h_86 : Obj := qN []
noncomputable def h_87 : Obj := qT [(qs "self" 288), (qs "by" 289)]
noncomputable def h_88 : Obj := qT []
noncomputable def h_89 : Obj := qg "__init__" "Tight.__init__" (inClass (top 5) 0)
noncomputable def h_90 : Obj := qC "__init__" "Tight.__init__" 285 18 2 0 0 3 85 true 86 .none (qr 87) (qr 88) (qr 89) 290 291
noncomputable def h_91 : Obj := qf "__init__" "Tight.__init__" (inClass (top 5) 0) (qs "linecaster.errors" 187) (qr 90)
noncomputable def h_92 : Obj := qT [(qs "by" 293)]
noncomputable def h_93 (P : Params) : Obj := ⟨(qt "dict"), .none, (.dict #[qe P "__module__" 280 (qs "linecaster.errors" 187), qe P "__firstlineno__" 284 (.int (16) 283), qe P "__init__" 292 (qr 91), qe P "__static_attributes__" 294 (qr 92), qe P "__doc__" 295 .none] 2), #[]⟩
noncomputable def h_94 : Obj := ⟨(qt "type"), .none, (.cls ⟨(.ofString "Tight"), [(qr 24)], [(qr 94), (qr 24), (qt "ValueError"), (qt "Exception"), (qt "BaseException"), (qt "object")], 93, (.ofString "Tight"), true, [], [], false, .none, false⟩), #[(.some (qr 78)), .none, (.some (qs "Tight" 273)), (.some (qs "Tight" 281)), (.some (qb "ValueError.__new__")), (.some (.bool true))]⟩
noncomputable def h_95 : Obj := ⟨(qt "super"), .none, (.fields #[(qr 94), (qr 94), (qr 94)]), #[]⟩
noncomputable def h_96 : Obj := ⟨(qt "builtin_function_or_method"), .none, (.fields #[(qb "object.__init_subclass__"), (qr 94)]), #[]⟩
noncomputable def h_97 : Obj := qT [(qr 24)]
noncomputable def h_98 : Obj := ⟨(qt "builtin_function_or_method"), .none, (.fields #[(qb "type.__prepare__"), (qt "type")]), #[]⟩
noncomputable def h_99 (P : Params) : Obj := ⟨(qt "dict"), .none, (.dict #[qe P "__module__" 305 (qs "linecaster.errors" 187), qe P "__qualname__" 307 (qs "NoBreak" 306), qe P "__firstlineno__" 309 (.int (21) 308), qe P "__init__" 317 (qr 110), qe P "__static_attributes__" 319 (qr 111)] 5), #[]⟩
noncomputable def h_100 : Obj := qT []
noncomputable def h_101 : Obj := qN [(qi 23), (qi 4), (qr 109)]
noncomputable def h_102 : Obj := qC "NoBreak" "NoBreak" 300 21 0 0 0 0 100 false 101 .none .none .none .none 303 304
noncomputable def h_103 : Obj := ⟨(qt "frame"), .none, .plain, #[(.some (qr 102)), (.some (qr 3)), (.some (qr 99)), .none, (.some (qs "linecaster.errors" 187)), .none, (.some (qr 0))]⟩
noncomputable def h_104 : Obj := qT []
noncomputable def h_105 : Obj := qN []
noncomputable def h_106 : Obj := qT [(qs "self" 313), (qs "words" 314)]
noncomputable def h_107 : Obj := qT []
noncomputable def h_108 : Obj := qg "__init__" "NoBreak.__init__" (inClass (top 6) 0)
noncomputable def h_109 : Obj := qC "__init__" "NoBreak.__init__" 310 23 2 0 0 3 104 true 105 .none (qr 106) (qr 107) (qr 108) 315 316
noncomputable def h_110 : Obj := qf "__init__" "NoBreak.__init__" (inClass (top 6) 0) (qs "linecaster.errors" 187) (qr 109)
noncomputable def h_111 : Obj := qT [(qs "words" 318)]
noncomputable def h_112 (P : Params) : Obj := ⟨(qt "dict"), .none, (.dict #[qe P "__module__" 305 (qs "linecaster.errors" 187), qe P "__firstlineno__" 309 (.int (21) 308), qe P "__init__" 317 (qr 110), qe P "__static_attributes__" 319 (qr 111), qe P "__doc__" 320 .none] 2), #[]⟩
noncomputable def h_113 : Obj := ⟨(qt "type"), .none, (.cls ⟨(.ofString "NoBreak"), [(qr 24)], [(qr 113), (qr 24), (qt "ValueError"), (qt "Exception"), (qt "BaseException"), (qt "object")], 112, (.ofString "NoBreak"), true, [], [], false, .none, false⟩), #[(.some (qr 97)), .none, (.some (qs "NoBreak" 298)), (.some (qs "NoBreak" 306)), (.some (qb "ValueError.__new__")), (.some (.bool true))]⟩
noncomputable def h_114 : Obj := ⟨(qt "super"), .none, (.fields #[(qr 113), (qr 113), (qr 113)]), #[]⟩
noncomputable def h_115 : Obj := ⟨(qt "builtin_function_or_method"), .none, (.fields #[(qb "object.__init_subclass__"), (qr 113)]), #[]⟩
noncomputable def h_116 : Obj := qT [(qr 24)]
noncomputable def h_117 : Obj := ⟨(qt "builtin_function_or_method"), .none, (.fields #[(qb "type.__prepare__"), (qt "type")]), #[]⟩
noncomputable def h_118 (P : Params) : Obj := ⟨(qt "dict"), .none, (.dict #[qe P "__module__" 330 (qs "linecaster.errors" 187), qe P "__qualname__" 332 (qs "NoCopy" 331), qe P "__firstlineno__" 334 (.int (26) 333), qe P "__static_attributes__" 335 (qr 123)] 4), #[]⟩
noncomputable def h_119 : Obj := qT []
noncomputable def h_120 : Obj := qN []
noncomputable def h_121 : Obj := qC "NoCopy" "NoCopy" 325 26 0 0 0 0 119 false 120 .none .none .none .none 328 329
noncomputable def h_122 : Obj := ⟨(qt "frame"), .none, .plain, #[(.some (qr 121)), (.some (qr 3)), (.some (qr 118)), .none, (.some (qs "linecaster.errors" 187)), .none, (.some (qr 0))]⟩
noncomputable def h_123 : Obj := qT []
noncomputable def h_124 (P : Params) : Obj := ⟨(qt "dict"), .none, (.dict #[qe P "__module__" 330 (qs "linecaster.errors" 187), qe P "__firstlineno__" 334 (.int (26) 333), qe P "__static_attributes__" 335 (qr 123), qe P "__doc__" 336 .none] 2), #[]⟩
noncomputable def h_125 : Obj := ⟨(qt "type"), .none, (.cls ⟨(.ofString "NoCopy"), [(qr 24)], [(qr 125), (qr 24), (qt "ValueError"), (qt "Exception"), (qt "BaseException"), (qt "object")], 124, (.ofString "NoCopy"), true, [], [], false, .none, false⟩), #[(.some (qr 116)), .none, (.some (qs "NoCopy" 323)), (.some (qs "NoCopy" 331)), (.some (qb "ValueError.__new__")), (.some (.bool true))]⟩
noncomputable def h_126 : Obj := ⟨(qt "super"), .none, (.fields #[(qr 125), (qr 125), (qr 125)]), #[]⟩
noncomputable def h_127 : Obj := ⟨(qt "builtin_function_or_method"), .none, (.fields #[(qb "object.__init_subclass__"), (qr 125)]), #[]⟩
noncomputable def h_128 : Obj := qT [(qr 24)]
noncomputable def h_129 : Obj := ⟨(qt "builtin_function_or_method"), .none, (.fields #[(qb "type.__prepare__"), (qt "type")]), #[]⟩
noncomputable def h_130 (P : Params) : Obj := ⟨(qt "dict"), .none, (.dict #[qe P "__module__" 346 (qs "linecaster.errors" 187), qe P "__qualname__" 348 (qs "NoKeys" 347), qe P "__firstlineno__" 350 (.int (28) 349), qe P "__init__" 358 (qr 141), qe P "__static_attributes__" 360 (qr 142)] 5), #[]⟩
noncomputable def h_131 : Obj := qT []
noncomputable def h_132 : Obj := qN [(qi 30), (qi 4), (qr 140)]
noncomputable def h_133 : Obj := qC "NoKeys" "NoKeys" 341 28 0 0 0 0 131 false 132 .none .none .none .none 344 345
noncomputable def h_134 : Obj := ⟨(qt "frame"), .none, .plain, #[(.some (qr 133)), (.some (qr 3)), (.some (qr 130)), .none, (.some (qs "linecaster.errors" 187)), .none, (.some (qr 0))]⟩
noncomputable def h_135 : Obj := qT []
noncomputable def h_136 : Obj := qN []
noncomputable def h_137 : Obj := qT [(qs "self" 354), (qs "at" 355)]
noncomputable def h_138 : Obj := qT []
noncomputable def h_139 : Obj := qg "__init__" "NoKeys.__init__" (inClass (top 8) 0)
noncomputable def h_140 : Obj := qC "__init__" "NoKeys.__init__" 351 30 2 0 0 3 135 true 136 .none (qr 137) (qr 138) (qr 139) 356 357
noncomputable def h_141 : Obj := qf "__init__" "NoKeys.__init__" (inClass (top 8) 0) (qs "linecaster.errors" 187) (qr 140)
noncomputable def h_142 : Obj := qT [(qs "at" 359)]
noncomputable def h_143 (P : Params) : Obj := ⟨(qt "dict"), .none, (.dict #[qe P "__module__" 346 (qs "linecaster.errors" 187), qe P "__firstlineno__" 350 (.int (28) 349), qe P "__init__" 358 (qr 141), qe P "__static_attributes__" 360 (qr 142), qe P "__doc__" 361 .none] 2), #[]⟩
noncomputable def h_144 : Obj := ⟨(qt "type"), .none, (.cls ⟨(.ofString "NoKeys"), [(qr 24)], [(qr 144), (qr 24), (qt "ValueError"), (qt "Exception"), (qt "BaseException"), (qt "object")], 143, (.ofString "NoKeys"), true, [], [], false, .none, false⟩), #[(.some (qr 128)), .none, (.some (qs "NoKeys" 339)), (.some (qs "NoKeys" 347)), (.some (qb "ValueError.__new__")), (.some (.bool true))]⟩
noncomputable def h_145 : Obj := ⟨(qt "super"), .none, (.fields #[(qr 144), (qr 144), (qr 144)]), #[]⟩
noncomputable def h_146 : Obj := ⟨(qt "builtin_function_or_method"), .none, (.fields #[(qb "object.__init_subclass__"), (qr 144)]), #[]⟩
noncomputable def h_147 : Obj := qT [(qr 24)]
noncomputable def h_148 : Obj := ⟨(qt "builtin_function_or_method"), .none, (.fields #[(qb "type.__prepare__"), (qt "type")]), #[]⟩
noncomputable def h_149 (P : Params) : Obj := ⟨(qt "dict"), .none, (.dict #[qe P "__module__" 371 (qs "linecaster.errors" 187), qe P "__qualname__" 373 (qs "NoText" 372), qe P "__firstlineno__" 375 (.int (33) 374), qe P "__static_attributes__" 376 (qr 154)] 4), #[]⟩
noncomputable def h_150 : Obj := qT []
noncomputable def h_151 : Obj := qN []
noncomputable def h_152 : Obj := qC "NoText" "NoText" 366 33 0 0 0 0 150 false 151 .none .none .none .none 369 370
noncomputable def h_153 : Obj := ⟨(qt "frame"), .none, .plain, #[(.some (qr 152)), (.some (qr 3)), (.some (qr 149)), .none, (.some (qs "linecaster.errors" 187)), .none, (.some (qr 0))]⟩
noncomputable def h_154 : Obj := qT []
noncomputable def h_155 (P : Params) : Obj := ⟨(qt "dict"), .none, (.dict #[qe P "__module__" 371 (qs "linecaster.errors" 187), qe P "__firstlineno__" 375 (.int (33) 374), qe P "__static_attributes__" 376 (qr 154), qe P "__doc__" 377 .none] 2), #[]⟩
noncomputable def h_156 : Obj := ⟨(qt "type"), .none, (.cls ⟨(.ofString "NoText"), [(qr 24)], [(qr 156), (qr 24), (qt "ValueError"), (qt "Exception"), (qt "BaseException"), (qt "object")], 155, (.ofString "NoText"), true, [], [], false, .none, false⟩), #[(.some (qr 147)), .none, (.some (qs "NoText" 364)), (.some (qs "NoText" 372)), (.some (qb "ValueError.__new__")), (.some (.bool true))]⟩
noncomputable def h_157 : Obj := ⟨(qt "super"), .none, (.fields #[(qr 156), (qr 156), (qr 156)]), #[]⟩
noncomputable def h_158 : Obj := ⟨(qt "builtin_function_or_method"), .none, (.fields #[(qb "object.__init_subclass__"), (qr 156)]), #[]⟩
noncomputable def h_159 : Obj := qT [(qr 24)]
noncomputable def h_160 : Obj := ⟨(qt "builtin_function_or_method"), .none, (.fields #[(qb "type.__prepare__"), (qt "type")]), #[]⟩
noncomputable def h_161 (P : Params) : Obj := ⟨(qt "dict"), .none, (.dict #[qe P "__module__" 387 (qs "linecaster.errors" 187), qe P "__qualname__" 389 (qs "NoNumber" 388), qe P "__firstlineno__" 391 (.int (35) 390), qe P "__static_attributes__" 392 (qr 166)] 4), #[]⟩
noncomputable def h_162 : Obj := qT []
noncomputable def h_163 : Obj := qN []
noncomputable def h_164 : Obj := qC "NoNumber" "NoNumber" 382 35 0 0 0 0 162 false 163 .none .none .none .none 385 386
noncomputable def h_165 : Obj := ⟨(qt "frame"), .none, .plain, #[(.some (qr 164)), (.some (qr 3)), (.some (qr 161)), .none, (.some (qs "linecaster.errors" 187)), .none, (.some (qr 0))]⟩
noncomputable def h_166 : Obj := qT []
noncomputable def h_167 (P : Params) : Obj := ⟨(qt "dict"), .none, (.dict #[qe P "__module__" 387 (qs "linecaster.errors" 187), qe P "__firstlineno__" 391 (.int (35) 390), qe P "__static_attributes__" 392 (qr 166), qe P "__doc__" 393 .none] 2), #[]⟩
noncomputable def h_168 : Obj := ⟨(qt "type"), .none, (.cls ⟨(.ofString "NoNumber"), [(qr 24)], [(qr 168), (qr 24), (qt "ValueError"), (qt "Exception"), (qt "BaseException"), (qt "object")], 167, (.ofString "NoNumber"), true, [], [], false, .none, false⟩), #[(.some (qr 159)), .none, (.some (qs "NoNumber" 380)), (.some (qs "NoNumber" 388)), (.some (qb "ValueError.__new__")), (.some (.bool true))]⟩
noncomputable def h_169 : Obj := ⟨(qt "super"), .none, (.fields #[(qr 168), (qr 168), (qr 168)]), #[]⟩
noncomputable def h_170 : Obj := ⟨(qt "builtin_function_or_method"), .none, (.fields #[(qb "object.__init_subclass__"), (qr 168)]), #[]⟩
noncomputable def h_171 : Obj := qT [(qr 24)]
noncomputable def h_172 : Obj := ⟨(qt "builtin_function_or_method"), .none, (.fields #[(qb "type.__prepare__"), (qt "type")]), #[]⟩
noncomputable def h_173 (P : Params) : Obj := ⟨(qt "dict"), .none, (.dict #[qe P "__module__" 403 (qs "linecaster.errors" 187), qe P "__qualname__" 405 (qs "NoRow" 404), qe P "__firstlineno__" 407 (.int (37) 406), qe P "__static_attributes__" 408 (qr 178)] 4), #[]⟩
noncomputable def h_174 : Obj := qT []
noncomputable def h_175 : Obj := qN []
noncomputable def h_176 : Obj := qC "NoRow" "NoRow" 398 37 0 0 0 0 174 false 175 .none .none .none .none 401 402
noncomputable def h_177 : Obj := ⟨(qt "frame"), .none, .plain, #[(.some (qr 176)), (.some (qr 3)), (.some (qr 173)), .none, (.some (qs "linecaster.errors" 187)), .none, (.some (qr 0))]⟩
noncomputable def h_178 : Obj := qT []
noncomputable def h_179 (P : Params) : Obj := ⟨(qt "dict"), .none, (.dict #[qe P "__module__" 403 (qs "linecaster.errors" 187), qe P "__firstlineno__" 407 (.int (37) 406), qe P "__static_attributes__" 408 (qr 178), qe P "__doc__" 409 .none] 2), #[]⟩
noncomputable def h_180 : Obj := ⟨(qt "type"), .none, (.cls ⟨(.ofString "NoRow"), [(qr 24)], [(qr 180), (qr 24), (qt "ValueError"), (qt "Exception"), (qt "BaseException"), (qt "object")], 179, (.ofString "NoRow"), true, [], [], false, .none, false⟩), #[(.some (qr 171)), .none, (.some (qs "NoRow" 396)), (.some (qs "NoRow" 404)), (.some (qb "ValueError.__new__")), (.some (.bool true))]⟩
noncomputable def h_181 : Obj := ⟨(qt "super"), .none, (.fields #[(qr 180), (qr 180), (qr 180)]), #[]⟩
noncomputable def h_182 : Obj := ⟨(qt "builtin_function_or_method"), .none, (.fields #[(qb "object.__init_subclass__"), (qr 180)]), #[]⟩
noncomputable def h_183 : Obj := qT []
noncomputable def h_184 : Obj := qN []
noncomputable def h_185 : Obj := qT [(qs "text" 419)]
noncomputable def h_186 : Obj := qT []
noncomputable def h_187 : Obj := qg "is_sign" "is_sign" (top 14)
noncomputable def h_188 : Obj := qC "is_sign" "is_sign" 416 41 1 0 0 3 183 true 184 .none (qr 185) (qr 186) (qr 187) 420 421
noncomputable def h_189 : Obj := qf "is_sign" "is_sign" (top 14) (qs "linecaster.cases" 412) (qr 188)
noncomputable def h_190 : Obj := qT []
noncomputable def h_191 : Obj := qN []
noncomputable def h_192 : Obj := qT [(qs "channel" 426), (qs "sign" 427), (qs "width" 428), (qs "teeth" 429), (qs "many" 430)]
noncomputable def h_193 : Obj := qT []
noncomputable def h_194 : Obj := qg "is_channel" "is_channel" (top 15)
noncomputable def h_195 : Obj := qC "is_channel" "is_channel" 423 43 1 0 0 3 190 true 191 .none (qr 192) (qr 193) (qr 194) 431 432
noncomputable def h_196 : Obj := qf "is_channel" "is_channel" (top 15) (qs "linecaster.cases" 412) (qr 195)
noncomputable def h_197 : Obj := qT []
noncomputable def h_198 : Obj := qN []
noncomputable def h_199 : Obj := qT [(qs "ahead" 437), (qs "channel" 438), (qs "sign" 439), (qs "width" 440), (qs "teeth" 441), (qs "many" 442)]
noncomputable def h_200 : Obj := qT []
noncomputable def h_201 : Obj := qg "can_stand" "can_stand" (top 16)
noncomputable def h_202 : Obj := qC "can_stand" "can_stand" 434 46 2 0 0 3 197 true 198 .none (qr 199) (qr 200) (qr 201) 443 444
noncomputable def h_203 : Obj := qf "can_stand" "can_stand" (top 16) (qs "linecaster.cases" 412) (qr 202)
noncomputable def h_204 : Obj := qT []
noncomputable def h_205 : Obj := qN []
noncomputable def h_206 : Obj := qT [(qs "case" 449), (qs "at" 450), (qs "channel" 451)]
noncomputable def h_207 : Obj := qT []
noncomputable def h_208 : Obj := qg "look_at_case" "look_at_case" (top 17)
noncomputable def h_209 : Obj := qC "look_at_case" "look_at_case" 446 49 1 0 0 3 204 true 205 .none (qr 206) (qr 207) (qr 208) 452 453
noncomputable def h_210 : Obj := qf "look_at_case" "look_at_case" (top 17) (qs "linecaster.cases" 412) (qr 209)
noncomputable def h_211 : Obj := qT []
noncomputable def h_212 : Obj := qN []
noncomputable def h_213 : Obj := qT [(qs "case" 458), (qs "sign" 459), (qs "number" 460), (qs "channel" 461)]
noncomputable def h_214 : Obj := qT []
noncomputable def h_215 : Obj := qg "channel_of" "channel_of" (top 18)
noncomputable def h_216 : Obj := qC "channel_of" "channel_of" 455 55 2 0 0 3 211 true 212 .none (qr 213) (qr 214) (qr 215) 462 463
noncomputable def h_217 : Obj := qf "channel_of" "channel_of" (top 18) (qs "linecaster.cases" 412) (qr 216)
noncomputable def h_218 : Obj := qT []
noncomputable def h_219 : Obj := qN []
noncomputable def h_220 : Obj := qg "codes_of" "codes_of" (top 19)
noncomputable def h_221 : Obj := qC "codes_of" "codes_of" 465 60 1 0 0 3 218 true 219 .none .none .none (qr 220) 468 469
noncomputable def h_222 : Obj := qf "codes_of" "codes_of" (top 19) (qs "linecaster.cases" 412) (qr 221)
noncomputable def h_223 : Obj := qT []
noncomputable def h_224 : Obj := qN []
noncomputable def h_225 : Obj := qg "is_number" "is_number" (top 22)
noncomputable def h_226 : Obj := qC "is_number" "is_number" 475 64 1 0 0 3 223 true 224 .none .none .none (qr 225) 478 479
noncomputable def h_227 : Obj := qf "is_number" "is_number" (top 22) (qs "linecaster.copies" 471) (qr 226)
noncomputable def h_228 : Obj := qT []
noncomputable def h_229 : Obj := qN []
noncomputable def h_230 : Obj := qg "is_teeth" "is_teeth" (top 25)
noncomputable def h_231 : Obj := qC "is_teeth" "is_teeth" 485 70 1 0 0 3 228 true 229 .none .none .none (qr 230) 488 489
noncomputable def h_232 : Obj := qf "is_teeth" "is_teeth" (top 25) (qs "linecaster.casetexts" 481) (qr 231)
noncomputable def h_233 : Obj := qT []
noncomputable def h_234 : Obj := qN []
noncomputable def h_235 : Obj := qT [(qs "word" 494), (qs "teeth" 495), (qs "figure" 496)]
noncomputable def h_236 : Obj := qT []
noncomputable def h_237 : Obj := qg "read_teeth" "read_teeth" (top 26)
noncomputable def h_238 : Obj := qC "read_teeth" "read_teeth" 491 72 1 0 0 3 233 true 234 .none (qr 235) (qr 236) (qr 237) 497 498
noncomputable def h_239 : Obj := qf "read_teeth" "read_teeth" (top 26) (qs "linecaster.casetexts" 481) (qr 238)
noncomputable def h_240 : Obj := qT []
noncomputable def h_241 : Obj := qN []
noncomputable def h_242 : Obj := qT [(qs "words" 503), (qs "sign" 504), (qs "width" 505), (qs "teeth" 506), (qs "many" 507)]
noncomputable def h_243 : Obj := qT []
noncomputable def h_244 : Obj := qg "is_row" "is_row" (top 27)
noncomputable def h_245 : Obj := qC "is_row" "is_row" 500 77 1 0 0 3 240 true 241 .none (qr 242) (qr 243) (qr 244) 508 509
noncomputable def h_246 : Obj := qf "is_row" "is_row" (top 27) (qs "linecaster.casetexts" 481) (qr 245)
noncomputable def h_247 : Obj := qT []
noncomputable def h_248 : Obj := qN []
noncomputable def h_249 : Obj := qT [(qs "at" 514), (qs "row" 515), (qs "words" 516), (qs "sign" 517), (qs "width" 518), (qs "teeth" 519), (qs "many" 520)]
noncomputable def h_250 : Obj := qT []
noncomputable def h_251 : Obj := qg "read_row" "read_row" (top 28)
noncomputable def h_252 : Obj := qC "read_row" "read_row" 511 82 2 0 0 3 247 true 248 .none (qr 249) (qr 250) (qr 251) 521 522
noncomputable def h_253 : Obj := qf "read_row" "read_row" (top 28) (qs "linecaster.casetexts" 481) (qr 252)
noncomputable def h_254 : Obj := qT []
noncomputable def h_255 : Obj := qN []
noncomputable def h_256 : Obj := qg "read_case" "read_case" (top 29)
noncomputable def h_257 : Obj := qC "read_case" "read_case" 524 88 1 0 0 3 254 true 255 .none .none .none (qr 256) 527 528
noncomputable def h_258 : Obj := qf "read_case" "read_case" (top 29) (qs "linecaster.casetexts" 481) (qr 257)
noncomputable def h_259 : Obj := qT []
noncomputable def h_260 : Obj := qN []
noncomputable def h_261 : Obj := qT [(qs "_law_script" 535), (qs "_law_k" 536)]
noncomputable def h_262 : Obj := qT []
noncomputable def h_263 : Obj := qg "_law_cell_at" "_law_cell_at" (top 31)
noncomputable def h_264 : Obj := qC "_law_cell_at" "_law_cell_at" 532 93 2 0 0 3 259 true 260 .none (qr 261) (qr 262) (qr 263) 537 538
noncomputable def h_265 : Obj := qf "_law_cell_at" "_law_cell_at" (top 31) (qs "law_linecaster_k54_cases_read_or_not" 530) (qr 264)
noncomputable def h_266 : Obj := qT []
noncomputable def h_267 : Obj := qN []
noncomputable def h_268 : Obj := qT [(qs "_law_cell" 543), (qs "_law_k" 544)]
noncomputable def h_269 : Obj := qT []
noncomputable def h_270 : Obj := qg "_law_mixed" "_law_mixed" (top 32)
noncomputable def h_271 : Obj := qC "_law_mixed" "_law_mixed" 540 97 2 0 0 3 266 true 267 .none (qr 268) (qr 269) (qr 270) 545 546
noncomputable def h_272 : Obj := qf "_law_mixed" "_law_mixed" (top 32) (qs "law_linecaster_k54_cases_read_or_not" 530) (qr 271)
noncomputable def h_273 : Obj := qT []
noncomputable def h_274 : Obj := qN []
noncomputable def h_275 : Obj := qT [(qs "_law_script" 551), (qs "_law_signs" 552), (qs "_law_first" 553), (qs "_law_case_here" 554), (qs "_law_k" 555), (qs "_law_number_here" 556), (qs "_law_sign_here" 557), (qs "_law_teeth" 558), (qs "_law_many" 559)]
noncomputable def h_276 : Obj := qT []
noncomputable def h_277 : Obj := qg "_law_case" "_law_case" (top 33)
noncomputable def h_278 : Obj := qC "_law_case" "_law_case" 548 99 1 0 0 3 273 true 274 .none (qr 275) (qr 276) (qr 277) 560 561
noncomputable def h_279 : Obj := qf "_law_case" "_law_case" (top 33) (qs "law_linecaster_k54_cases_read_or_not" 530) (qr 278)
noncomputable def h_280 : Obj := qT []
noncomputable def h_281 : Obj := qN []
noncomputable def h_282 : Obj := qT [(qs "_law_e" 566), (qs "_law_some" 567)]
noncomputable def h_283 : Obj := qT []
noncomputable def h_284 : Obj := qg "_law_others" "_law_others" (top 34)
noncomputable def h_285 : Obj := qC "_law_others" "_law_others" 563 110 1 0 0 3 280 true 281 .none (qr 282) (qr 283) (qr 284) 568 569
noncomputable def h_286 : Obj := qf "_law_others" "_law_others" (top 34) (qs "law_linecaster_k54_cases_read_or_not" 530) (qr 285)
noncomputable def h_287 : Obj := qT []
noncomputable def h_288 : Obj := qN []
noncomputable def h_289 : Obj := qT [(qs "_law_cell" 574), (qs "_law_menu" 575), (qs "_law_some" 576)]
noncomputable def h_290 : Obj := qT []
noncomputable def h_291 : Obj := qg "_law_sign" "_law_sign" (top 35)
noncomputable def h_292 : Obj := qC "_law_sign" "_law_sign" 571 114 2 0 0 3 287 true 288 .none (qr 289) (qr 290) (qr 291) 577 578
noncomputable def h_293 : Obj := qf "_law_sign" "_law_sign" (top 35) (qs "law_linecaster_k54_cases_read_or_not" 530) (qr 292)
noncomputable def h_294 : Obj := qT []
noncomputable def h_295 : Obj := qN []
noncomputable def h_296 : Obj := qT [(qs "_law_text" 583), (qs "_law_number_here" 584), (qs "_law_sign_here" 585), (qs "_law_at" 586)]
noncomputable def h_297 : Obj := qT []
noncomputable def h_298 : Obj := qg "_law_spoiled" "_law_spoiled" (top 36)
noncomputable def h_299 : Obj := qC "_law_spoiled" "_law_spoiled" 580 120 3 0 0 3 294 true 295 .none (qr 296) (qr 297) (qr 298) 587 588
noncomputable def h_300 : Obj := qf "_law_spoiled" "_law_spoiled" (top 36) (qs "law_linecaster_k54_cases_read_or_not" 530) (qr 299)
noncomputable def h_301 : Obj := qT []
noncomputable def h_302 : Obj := qN []
noncomputable def h_303 : Obj := qT [(qs "_law_channel_here" 593), (qs "_law_sign_here" 594), (qs "_law_width" 595), (qs "_law_teeth" 596), (qs "_law_many" 597), (qs "_law_figures" 598), (qs "_law_k" 599)]
noncomputable def h_304 : Obj := qT []
noncomputable def h_305 : Obj := qg "_law_row" "_law_row" (top 37)
noncomputable def h_306 : Obj := qC "_law_row" "_law_row" 590 127 1 0 0 3 301 true 302 .none (qr 303) (qr 304) (qr 305) 600 601
noncomputable def h_307 : Obj := qf "_law_row" "_law_row" (top 37) (qs "law_linecaster_k54_cases_read_or_not" 530) (qr 306)
noncomputable def h_308 : Obj := qT []
noncomputable def h_309 : Obj := qN []
noncomputable def h_310 : Obj := qT [(qs "_law_row_here" 606), (qs "_law_number_here" 607), (qs "_law_words" 608), (qs "_law_at" 609), (qs "_law_some" 610)]
noncomputable def h_311 : Obj := qT []
noncomputable def h_312 : Obj := qg "_law_odd" "_law_odd" (top 38)
noncomputable def h_313 : Obj := qC "_law_odd" "_law_odd" 603 134 2 0 0 3 308 true 309 .none (qr 310) (qr 311) (qr 312) 611 612
noncomputable def h_314 : Obj := qf "_law_odd" "_law_odd" (top 38) (qs "law_linecaster_k54_cases_read_or_not" 530) (qr 313)
noncomputable def h_315 : Obj := qT []
noncomputable def h_316 : Obj := qN []
noncomputable def h_317 : Obj := qT [(qs "_law_text" 617), (qs "_law_number_here" 618), (qs "_law_rows" 619), (qs "_law_at" 620), (qs "_law_way" 621), (qs "_law_turned" 622), (qs "_law_some" 623)]
noncomputable def h_318 : Obj := qT []
noncomputable def h_319 : Obj := qg "_law_rows_spoiled" "_law_rows_spoiled" (top 39)
noncomputable def h_320 : Obj := qC "_law_rows_spoiled" "_law_rows_spoiled" 614 142 2 0 0 3 315 true 316 .none (qr 317) (qr 318) (qr 319) 624 625
noncomputable def h_321 : Obj := qf "_law_rows_spoiled" "_law_rows_spoiled" (top 39) (qs "law_linecaster_k54_cases_read_or_not" 530) (qr 320)
noncomputable def h_322 : Obj := qT []
noncomputable def h_323 : Obj := qN []
noncomputable def h_324 : Obj := qg "_law_number" "_law_number" (top 40)
noncomputable def h_325 : Obj := qC "_law_number" "_law_number" 627 159 1 0 0 3 322 true 323 .none .none .none (qr 324) 630 631
noncomputable def h_326 : Obj := qf "_law_number" "_law_number" (top 40) (qs "law_linecaster_k54_cases_read_or_not" 530) (qr 325)
noncomputable def h_327 : Obj := qT []
noncomputable def h_328 : Obj := qN []
noncomputable def h_329 : Obj := qT [(qs "_law_row_here" 636), (qs "_law_words" 637), (qs "_law_teeth" 638), (qs "_law_k" 639)]
noncomputable def h_330 : Obj := qT []
noncomputable def h_331 : Obj := qg "_law_channel" "_law_channel" (top 41)
noncomputable def h_332 : Obj := qC "_law_channel" "_law_channel" 633 165 1 0 0 3 327 true 328 .none (qr 329) (qr 330) (qr 331) 640 641
noncomputable def h_333 : Obj := qf "_law_channel" "_law_channel" (top 41) (qs "law_linecaster_k54_cases_read_or_not" 530) (qr 332)
noncomputable def h_334 : Obj := qT []
noncomputable def h_335 : Obj := qN []
noncomputable def h_336 : Obj := qg "_law_due" "_law_due" (top 42)
noncomputable def h_337 : Obj := qC "_law_due" "_law_due" 643 177 1 0 0 3 334 true 335 .none .none .none (qr 336) 646 647
noncomputable def h_338 : Obj := qf "_law_due" "_law_due" (top 42) (qs "law_linecaster_k54_cases_read_or_not" 530) (qr 337)
noncomputable def h_339 : Obj := qT []
noncomputable def h_340 : Obj := qN []
noncomputable def h_341 : Obj := qT [(qs "_law_text" 652), (qs "_law_told_here" 653), (qs "_law_e" 654)]
noncomputable def h_342 : Obj := qT []
noncomputable def h_343 : Obj := qg "_law_told" "_law_told" (top 43)
noncomputable def h_344 : Obj := qC "_law_told" "_law_told" 649 191 1 0 0 3 339 true 340 .none (qr 341) (qr 342) (qr 343) 655 656
noncomputable def h_345 : Obj := qf "_law_told" "_law_told" (top 43) (qs "law_linecaster_k54_cases_read_or_not" 530) (qr 344)
noncomputable def h_346 : Obj := qT []
noncomputable def h_347 : Obj := qN []
noncomputable def h_348 : Obj := qg "law" "law" (top 44)
noncomputable def h_349 : Obj := qC "law" "law" 658 202 1 0 0 3 346 true 347 .none .none .none (qr 348) 661 662
noncomputable def h_350 : Obj := qf "law" "law" (top 44) (qs "law_linecaster_k54_cases_read_or_not" 530) (qr 349)
noncomputable def a_11 (P : Params) : Obj := h_11
noncomputable def a_12 (P : Params) : Obj := qN []
noncomputable def a_13 (P : Params) : Obj := h_13
noncomputable def a_14 (P : Params) : Obj := h_14
noncomputable def hO (P : Params) : List Obj := [boot_o_0 P, boot_o_1 P, boot_o_2 P, h_3 P, boot_o_4 P, boot_o_5 P, boot_o_6 P, boot_o_7 P, boot_o_8 P, boot_o_9 P, boot_o_10 P, h_11, h_12, h_13, h_14, h_15, h_16, h_17 P, h_18, h_19, h_20, h_21, h_22, h_23 P, h_24, h_25, h_26, h_27, h_28, h_29, h_30 P, h_31, h_32, h_33, h_34, h_35, h_36, h_37, h_38, h_39, h_40, h_41, h_42, h_43 P, h_44, h_45, h_46, h_47, h_48, h_49 P, h_50, h_51, h_52, h_53, h_54, h_55 P, h_56, h_57, h_58, h_59, h_60, h_61 P, h_62, h_63, h_64, h_65, h_66, h_67, h_68, h_69, h_70, h_71, h_72, h_73, h_74 P, h_75, h_76, h_77, h_78, h_79, h_80 P, h_81, h_82, h_83, h_84, h_85, h_86, h_87, h_88, h_89, h_90, h_91, h_92, h_93 P, h_94, h_95, h_96, h_97, h_98, h_99 P, h_100, h_101, h_102, h_103, h_104, h_105, h_106, h_107, h_108, h_109, h_110, h_111, h_112 P, h_113, h_114, h_115, h_116, h_117, h_118 P, h_119, h_120, h_121, h_122, h_123, h_124 P, h_125, h_126, h_127, h_128, h_129, h_130 P, h_131, h_132, h_133, h_134, h_135, h_136, h_137, h_138, h_139, h_140, h_141, h_142, h_143 P, h_144, h_145, h_146, h_147, h_148, h_149 P, h_150, h_151, h_152, h_153, h_154, h_155 P, h_156, h_157, h_158, h_159, h_160, h_161 P, h_162, h_163, h_164, h_165, h_166, h_167 P, h_168, h_169, h_170, h_171, h_172, h_173 P, h_174, h_175, h_176, h_177, h_178, h_179 P, h_180, h_181, h_182, h_183, h_184, h_185, h_186, h_187, h_188, h_189, h_190, h_191, h_192, h_193, h_194, h_195, h_196, h_197, h_198, h_199, h_200, h_201, h_202, h_203, h_204, h_205, h_206, h_207, h_208, h_209, h_210, h_211, h_212, h_213, h_214, h_215, h_216, h_217, h_218, h_219, h_220, h_221, h_222, h_223, h_224, h_225, h_226, h_227, h_228, h_229, h_230, h_231, h_232, h_233, h_234, h_235, h_236, h_237, h_238, h_239, h_240, h_241, h_242, h_243, h_244, h_245, h_246, h_247, h_248, h_249, h_250, h_251, h_252, h_253, h_254, h_255, h_256, h_257, h_258, h_259, h_260, h_261, h_262, h_263, h_264, h_265, h_266, h_267, h_268, h_269, h_270, h_271, h_272, h_273, h_274, h_275, h_276, h_277, h_278, h_279, h_280, h_281, h_282, h_283, h_284, h_285, h_286, h_287, h_288, h_289, h_290, h_291, h_292, h_293, h_294, h_295, h_296, h_297, h_298, h_299, h_300, h_301, h_302, h_303, h_304, h_305, h_306, h_307, h_308, h_309, h_310, h_311, h_312, h_313, h_314, h_315, h_316, h_317, h_318, h_319, h_320, h_321, h_322, h_323, h_324, h_325, h_326, h_327, h_328, h_329, h_330, h_331, h_332, h_333, h_334, h_335, h_336, h_337, h_338, h_339, h_340, h_341, h_342, h_343, h_344, h_345, h_346, h_347, h_348, h_349, h_350]
noncomputable def hA (P : Params) : List Obj := [boot_o_0 P, boot_o_1 P, boot_o_2 P, boot_o_3 P, boot_o_4 P, boot_o_5 P, boot_o_6 P, boot_o_7 P, boot_o_8 P, boot_o_9 P, boot_o_10 P, a_11 P, a_12 P, a_13 P, a_14 P]
noncomputable def hK (P : Params) : Frag := (nat_lit 2, boot_o_2 P) :: (nat_lit 3, h_3 P) :: (nat_lit 15, h_15) :: (nat_lit 22, h_22) :: (nat_lit 23, h_23 P) :: (nat_lit 24, h_24) :: (nat_lit 25, h_25) :: (nat_lit 28, h_28) :: (nat_lit 35, h_35) :: (nat_lit 37, h_37) :: (nat_lit 38, h_38) :: (nat_lit 40, h_40) :: (nat_lit 41, h_41) :: (nat_lit 42, h_42) :: (nat_lit 43, h_43 P) :: (nat_lit 44, h_44) :: (nat_lit 47, h_47) :: (nat_lit 54, h_54) :: (nat_lit 55, h_55 P) :: (nat_lit 56, h_56) :: (nat_lit 59, h_59) :: (nat_lit 66, h_66) :: (nat_lit 68, h_68) :: (nat_lit 69, h_69) :: (nat_lit 71, h_71) :: (nat_lit 72, h_72) :: (nat_lit 73, h_73) :: (nat_lit 74, h_74 P) :: (nat_lit 75, h_75) :: (nat_lit 78, h_78) :: (nat_lit 85, h_85) :: (nat_lit 87, h_87) :: (nat_lit 88, h_88) :: (nat_lit 90, h_90) :: (nat_lit 91, h_91) :: (nat_lit 92, h_92) :: (nat_lit 93, h_93 P) :: (nat_lit 94, h_94) :: (nat_lit 97, h_97) :: (nat_lit 104, h_104) :: (nat_lit 106, h_106) :: (nat_lit 107, h_107) :: (nat_lit 109, h_109) :: (nat_lit 110, h_110) :: (nat_lit 111, h_111) :: (nat_lit 112, h_112 P) :: (nat_lit 113, h_113) :: (nat_lit 116, h_116) :: (nat_lit 123, h_123) :: (nat_lit 124, h_124 P) :: (nat_lit 125, h_125) :: (nat_lit 128, h_128) :: (nat_lit 135, h_135) :: (nat_lit 137, h_137) :: (nat_lit 138, h_138) :: (nat_lit 140, h_140) :: (nat_lit 141, h_141) :: (nat_lit 142, h_142) :: (nat_lit 143, h_143 P) :: (nat_lit 144, h_144) :: (nat_lit 147, h_147) :: (nat_lit 154, h_154) :: (nat_lit 155, h_155 P) :: (nat_lit 156, h_156) :: (nat_lit 159, h_159) :: (nat_lit 166, h_166) :: (nat_lit 167, h_167 P) :: (nat_lit 168, h_168) :: (nat_lit 171, h_171) :: (nat_lit 178, h_178) :: (nat_lit 179, h_179 P) :: (nat_lit 180, h_180) :: (nat_lit 183, h_183) :: (nat_lit 185, h_185) :: (nat_lit 186, h_186) :: (nat_lit 188, h_188) :: (nat_lit 189, h_189) :: (nat_lit 190, h_190) :: (nat_lit 192, h_192) :: (nat_lit 193, h_193) :: (nat_lit 195, h_195) :: (nat_lit 196, h_196) :: (nat_lit 197, h_197) :: (nat_lit 199, h_199) :: (nat_lit 200, h_200) :: (nat_lit 202, h_202) :: (nat_lit 203, h_203) :: (nat_lit 204, h_204) :: (nat_lit 206, h_206) :: (nat_lit 207, h_207) :: (nat_lit 209, h_209) :: (nat_lit 210, h_210) :: (nat_lit 211, h_211) :: (nat_lit 213, h_213) :: (nat_lit 214, h_214) :: (nat_lit 216, h_216) :: (nat_lit 217, h_217) :: (nat_lit 218, h_218) :: (nat_lit 221, h_221) :: (nat_lit 222, h_222) :: (nat_lit 223, h_223) :: (nat_lit 226, h_226) :: (nat_lit 227, h_227) :: (nat_lit 228, h_228) :: (nat_lit 231, h_231) :: (nat_lit 232, h_232) :: (nat_lit 233, h_233) :: (nat_lit 235, h_235) :: (nat_lit 236, h_236) :: (nat_lit 238, h_238) :: (nat_lit 239, h_239) :: (nat_lit 240, h_240) :: (nat_lit 242, h_242) :: (nat_lit 243, h_243) :: (nat_lit 245, h_245) :: (nat_lit 246, h_246) :: (nat_lit 247, h_247) :: (nat_lit 249, h_249) :: (nat_lit 250, h_250) :: (nat_lit 252, h_252) :: (nat_lit 253, h_253) :: (nat_lit 254, h_254) :: (nat_lit 257, h_257) :: (nat_lit 258, h_258) :: (nat_lit 259, h_259) :: (nat_lit 261, h_261) :: (nat_lit 262, h_262) :: (nat_lit 264, h_264) :: (nat_lit 265, h_265) :: (nat_lit 266, h_266) :: (nat_lit 268, h_268) :: (nat_lit 269, h_269) :: (nat_lit 271, h_271) :: (nat_lit 272, h_272) :: (nat_lit 273, h_273) :: (nat_lit 275, h_275) :: (nat_lit 276, h_276) :: (nat_lit 278, h_278) :: (nat_lit 279, h_279) :: (nat_lit 280, h_280) :: (nat_lit 282, h_282) :: (nat_lit 283, h_283) :: (nat_lit 285, h_285) :: (nat_lit 286, h_286) :: (nat_lit 287, h_287) :: (nat_lit 289, h_289) :: (nat_lit 290, h_290) :: (nat_lit 292, h_292) :: (nat_lit 293, h_293) :: (nat_lit 294, h_294) :: (nat_lit 296, h_296) :: (nat_lit 297, h_297) :: (nat_lit 299, h_299) :: (nat_lit 300, h_300) :: (nat_lit 301, h_301) :: (nat_lit 303, h_303) :: (nat_lit 304, h_304) :: (nat_lit 306, h_306) :: (nat_lit 307, h_307) :: (nat_lit 308, h_308) :: (nat_lit 310, h_310) :: (nat_lit 311, h_311) :: (nat_lit 313, h_313) :: (nat_lit 314, h_314) :: (nat_lit 315, h_315) :: (nat_lit 317, h_317) :: (nat_lit 318, h_318) :: (nat_lit 320, h_320) :: (nat_lit 321, h_321) :: (nat_lit 322, h_322) :: (nat_lit 325, h_325) :: (nat_lit 326, h_326) :: (nat_lit 327, h_327) :: (nat_lit 329, h_329) :: (nat_lit 330, h_330) :: (nat_lit 332, h_332) :: (nat_lit 333, h_333) :: (nat_lit 334, h_334) :: (nat_lit 337, h_337) :: (nat_lit 338, h_338) :: (nat_lit 339, h_339) :: (nat_lit 341, h_341) :: (nat_lit 342, h_342) :: (nat_lit 344, h_344) :: (nat_lit 345, h_345) :: (nat_lit 346, h_346) :: (nat_lit 349, h_349) :: (nat_lit 350, h_350) :: []
abbrev has : List Addr := [2, 3, 15, 22, 23, 24, 25, 28, 35, 37, 38, 40, 41, 42, 43, 44, 47, 54, 55, 56, 59, 66, 68, 69, 71, 72, 73, 74, 75, 78, 85, 87, 88, 90, 91, 92, 93, 94, 97, 104, 106, 107, 109, 110, 111, 112, 113, 116, 123, 124, 125, 128, 135, 137, 138, 140, 141, 142, 143, 144, 147, 154, 155, 156, 159, 166, 167, 168, 171, 178, 179, 180, 183, 185, 186, 188, 189, 190, 192, 193, 195, 196, 197, 199, 200, 202, 203, 204, 206, 207, 209, 210, 211, 213, 214, 216, 217, 218, 221, 222, 223, 226, 227, 228, 231, 232, 233, 235, 236, 238, 239, 240, 242, 243, 245, 246, 247, 249, 250, 252, 253, 254, 257, 258, 259, 261, 262, 264, 265, 266, 268, 269, 271, 272, 273, 275, 276, 278, 279, 280, 282, 283, 285, 286, 287, 289, 290, 292, 293, 294, 296, 297, 299, 300, 301, 303, 304, 306, 307, 308, 310, 311, 313, 314, 315, 317, 318, 320, 321, 322, 325, 326, 327, 329, 330, 332, 333, 334, 337, 338, 339, 341, 342, 344, 345, 346, 349, 350]
abbrev hlife : Life := ⟨[], [], [], 0, [], [], false, #[], [], 0, false, false, false, 0, [2000, 10, 10], false, 0, true, [], [], 0, false⟩
abbrev hD : HD := ⟨6814, 12, 0, 3344, 1, ⟨0, 0, 0, 0⟩, 187, ⟨0, 0, 0, 0⟩, 187, ⟨0, 0, 0, 0⟩, 664, 351, 15, ⟨0, 0, 0, 0⟩, ⟨0, 0, 0, 0⟩, ⟨0, 0, 0, 0⟩, ⟨202, 0, 218, 60⟩, (qr 13), 14, (.some (qr 6))⟩
abbrev hview : Program := { PySem.Challenge.pw_linecaster_k54_cases_read_or_not with main := { PySem.Challenge.pw_linecaster_k54_cases_read_or_not.main with body := [top 1, top 2, top 3, top 4, top 5, top 6, top 7, top 8, top 9, top 10, top 11, top 13, top 14, top 15, top 16, top 17, top 18, top 19, top 21, top 22, top 24, top 25, top 26, top 27, top 28, top 29, top 31, top 32, top 33, top 34, top 35, top 36, top 37, top 38, top 39, top 40, top 41, top 42, top 43, top 44] } }
theorem hpre : Hd.Pre PySem.Challenge.pw_linecaster_k54_cases_read_or_not hD hlife hA := fun w os => by kernel_rfl
theorem hblk : Hd.Blk PySem.Challenge.pw_linecaster_k54_cases_read_or_not hD hlife hA := fun w os => by kernel_rfl
theorem hgo : Hd.Go PySem.Challenge.pw_linecaster_k54_cases_read_or_not hD hlife hA hO := fun w os => by kernel_rfl
theorem hfin : Hd.Fin PySem.Challenge.pw_linecaster_k54_cases_read_or_not hD hlife hO := fun w os => by kernel_rfl
theorem hl1 : Hd.Lk1 PySem.Challenge.pw_linecaster_k54_cases_read_or_not hD hlife hO := fun w os => by kernel_rfl
theorem hl3 : Hd.Lk3 hD hlife hO hK has := fun w os => by kernel_rfl
theorem hKe : ∀ P, has = (hK P).map (·.1) := fun P => by kernel_rfl
theorem hl2 : Hd.Lk2 PySem.Challenge.pw_linecaster_k54_cases_read_or_not hview hD hlife hO (Hd.XtH PySem.Challenge.rw_linecaster_k54_cases_read_or_not hview) := fun w os => by kernel_rfl
theorem hsaid : Hd.saidF PySem.Challenge.rw_linecaster_k54_cases_read_or_not = true := by kernel_rfl
theorem hleft : LeftO PySem.Challenge.pw_linecaster_k54_cases_read_or_not hview [] (Hd.XtH PySem.Challenge.rw_linecaster_k54_cases_read_or_not hview) (Hook.obs (kHook hK has hKe)) (Hook.val (kHook hK has hKe)) hD.N := Hd.left_of (D := hD) (L := hlife) (A := hA) (O := hO) (by kernel_rfl) (fun s => by kernel_rfl) (by kernel_rfl) (by kernel_rfl) (by kernel_rfl) hpre hblk hgo hfin hl1 hl2 hl3
end
end
end Lw
open PySem PySem.W PyProof.Rows
set_option maxRecDepth 100000 in
set_option maxHeartbeats 0 in
theorem PySem.Challenge.cw_linecaster_k54_cases_read_or_not_holds : PySem.Challenge.rw_linecaster_k54_cases_read_or_not.Holds := by
  w_on
  refine Hd.holds (st := Lw.s_law) (x := "law") (l := PySem.Challenge.rw_linecaster_k54_cases_read_or_not) (q := Lw.hview) (K := Lw.hK) (as := Lw.has) (e := Lw.hKe) (N := Lw.hD.N) Lw.hsaid Lw.hleft (by kernel_rfl) (by kernel_rfl) (by kernel_rfl) (by kernel_rfl) (by decide +kernel) ⟨rfl, rfl, rfl, rfl, rfl, by decide +kernel⟩ ?hw ?hc
  (case hw => w_witness2)
  k_fill
  refine L2.walk_ofK (l := PySem.Challenge.rw_linecaster_k54_cases_read_or_not) (n := 63) (k := Lw.lawLevel) (x := "_law_script") (CX := L2.CX0) (sp := Lw.sp_law) rfl (by decide) rfl ⟨rfl, by decide, by decide⟩ (fun w h Y => PySem.W.kIn_of Y) ?F ?S ?C
  case F =>
    intro w mg fa h KX G hmg
    have T : ∃ a : Lw.Ad, Lw.Tx (L2.KOf KX) mg a := by
      dsimp only [L2.KOf]
      refine' Lw.txt_mk KX G ?a0 ?l0 ?c0 ?k0 ?a1 ?l1 ?c1 ?k1 ?a2 ?l2 ?c2 ?k2 ?a3 ?l3 ?c3 ?k3 ?a4 ?l4 ?c4 ?k4 ?a5 ?l5 ?c5 ?k5 ?a6 ?l6 ?c6 ?k6 ?a7 ?l7 ?c7 ?k7 ?a8 ?l8 ?c8 ?k8 ?a9 ?l9 ?c9 ?k9 ?a10 ?l10 ?c10 ?k10 ?a11 ?l11 ?c11 ?k11 ?a12 ?l12 ?c12 ?k12 ?a13 ?l13 ?c13 ?k13 ?a14 ?l14 ?c14 ?k14 ?a15 ?l15 ?c15 ?k15 ?a16 ?l16 ?c16 ?k16 ?a17 ?l17 ?c17 ?k17 ?a18 ?l18 ?c18 ?k18 ?a19 ?l19 ?c19 ?k19 ?a20 ?l20 ?c20 ?k20 ?a21 ?l21 ?c21 ?k21 ?a22 ?l22 ?c22 ?k22 ?a23 ?l23 ?c23 ?k23 ?a24 ?l24 ?c24 ?k24 ?a25 ?l25 ?c25 ?k25 ?ca_CasterError ?ci_CasterError ?ct_CasterError ?ca_NoCase ?ca_TooMany ?ci_TooMany ?ct_TooMany ?ca_Loose ?ci_Loose ?ct_Loose ?ca_Tight ?ci_Tight ?ct_Tight ?ca_NoBreak ?ci_NoBreak ?ct_NoBreak ?ca_NoCopy ?ci_NoCopy ?ct_NoCopy ?ca_NoKeys ?ci_NoKeys ?ct_NoKeys ?ca_NoText ?ca_NoNumber ?ci_NoNumber ?ct_NoNumber ?ca_NoRow ?ci_NoRow ?ct_NoRow ?lk_CasterError ?cN_CasterError ?ln_CasterError ?le_CasterError ?ni_CasterError ?cn_NoCase ?cl_NoCase ?cc_NoCase ?ck_NoCase ?lk_NoCase ?cN_NoCase ?ln_NoCase ?le_NoCase ?ni_NoCase ?cs_NoCase ?cm_NoCase ?ch_NoCase ?q1_NoCase ?q2_NoCase ?q3_NoCase ?q4_NoCase ?q5_NoCase ?q6_NoCase ?q7_NoCase ?q8_NoCase ?q9_NoCase ?w1_NoCase ?w2_NoCase ?w3_NoCase ?w4_NoCase ?lk_NoText ?cN_NoText ?ln_NoText ?le_NoText ?ni_NoText ?cs_NoText ?cm_NoText ?ch_NoText ?q1_NoText ?q2_NoText ?q3_NoText ?q4_NoText ?q5_NoText ?q6_NoText ?q7_NoText ?q8_NoText ?q9_NoText ?b1 ?b2 ?b3 ?m_NoCase_CasterError ?m_NoCase_NoCase ?m_NoCase_TooMany ?m_NoCase_Loose ?m_NoCase_Tight ?m_NoCase_NoBreak ?m_NoCase_NoCopy ?m_NoCase_NoKeys ?m_NoCase_NoText ?m_NoCase_NoNumber ?m_NoCase_NoRow ?m_NoText_CasterError ?m_NoText_NoCase ?m_NoText_TooMany ?m_NoText_Loose ?m_NoText_Tight ?m_NoText_NoBreak ?m_NoText_NoCopy ?m_NoText_NoKeys ?m_NoText_NoText ?m_NoText_NoNumber ?m_NoText_NoRow ?y_SIGNS ?y_FIGURES ?y_NUMBER_OF_TEETH ?z_ValueError ?z_all ?z_bool ?z_enumerate ?z_int ?z_isinstance ?z_len ?z_min ?z_range ?z_str
      (case a0 => k_is)
      (case l0 => k_is)
      (case c0 => k_is)
      (case k0 => k_is)
      (case a1 => k_is)
      (case l1 => k_is)
      (case c1 => k_is)
      (case k1 => k_is)
      (case a2 => k_is)
      (case l2 => k_is)
      (case c2 => k_is)
      (case k2 => k_is)
      (case a3 => k_is)
      (case l3 => k_is)
      (case c3 => k_is)
      (case k3 => k_is)
      (case a4 => k_is)
      (case l4 => k_is)
      (case c4 => k_is)
      (case k4 => k_is)
      (case a5 => k_is)
      (case l5 => k_is)
      (case c5 => k_is)
      (case k5 => k_is)
      (case a6 => k_is)
      (case l6 => k_is)
      (case c6 => k_is)
      (case k6 => k_is)
      (case a7 => k_is)
      (case l7 => k_is)
      (case c7 => k_is)
      (case k7 => k_is)
      (case a8 => k_is)
      (case l8 => k_is)
      (case c8 => k_is)
      (case k8 => k_is)
      (case a9 => k_is)
      (case l9 => k_is)
      (case c9 => k_is)
      (case k9 => k_is)
      (case a10 => k_is)
      (case l10 => k_is)
      (case c10 => k_is)
      (case k10 => k_is)
      (case a11 => k_is)
      (case l11 => k_is)
      (case c11 => k_is)
      (case k11 => k_is)
      (case a12 => k_is)
      (case l12 => k_is)
      (case c12 => k_is)
      (case k12 => k_is)
      (case a13 => k_is)
      (case l13 => k_is)
      (case c13 => k_is)
      (case k13 => k_is)
      (case a14 => k_is)
      (case l14 => k_is)
      (case c14 => k_is)
      (case k14 => k_is)
      (case a15 => k_is)
      (case l15 => k_is)
      (case c15 => k_is)
      (case k15 => k_is)
      (case a16 => k_is)
      (case l16 => k_is)
      (case c16 => k_is)
      (case k16 => k_is)
      (case a17 => k_is)
      (case l17 => k_is)
      (case c17 => k_is)
      (case k17 => k_is)
      (case a18 => k_is)
      (case l18 => k_is)
      (case c18 => k_is)
      (case k18 => k_is)
      (case a19 => k_is)
      (case l19 => k_is)
      (case c19 => k_is)
      (case k19 => k_is)
      (case a20 => k_is)
      (case l20 => k_is)
      (case c20 => k_is)
      (case k20 => k_is)
      (case a21 => k_is)
      (case l21 => k_is)
      (case c21 => k_is)
      (case k21 => k_is)
      (case a22 => k_is)
      (case l22 => k_is)
      (case c22 => k_is)
      (case k22 => k_is)
      (case a23 => k_is)
      (case l23 => k_is)
      (case c23 => k_is)
      (case k23 => k_is)
      (case a24 => k_is)
      (case l24 => k_is)
      (case c24 => k_is)
      (case k24 => k_is)
      (case a25 => k_is)
      (case l25 => k_is)
      (case c25 => k_is)
      (case k25 => k_is)
      (case ca_CasterError => k_is)
      (case ci_CasterError => k_is)
      (case ct_CasterError => k_is)
      (case ca_NoCase => k_is)
      (case ca_TooMany => k_is)
      (case ci_TooMany => k_is)
      (case ct_TooMany => k_is)
      (case ca_Loose => k_is)
      (case ci_Loose => k_is)
      (case ct_Loose => k_is)
      (case ca_Tight => k_is)
      (case ci_Tight => k_is)
      (case ct_Tight => k_is)
      (case ca_NoBreak => k_is)
      (case ci_NoBreak => k_is)
      (case ct_NoBreak => k_is)
      (case ca_NoCopy => k_is)
      (case ci_NoCopy => k_is)
      (case ct_NoCopy => k_is)
      (case ca_NoKeys => k_is)
      (case ci_NoKeys => k_is)
      (case ct_NoKeys => k_is)
      (case ca_NoText => k_is)
      (case ca_NoNumber => k_is)
      (case ci_NoNumber => k_is)
      (case ct_NoNumber => k_is)
      (case ca_NoRow => k_is)
      (case ci_NoRow => k_is)
      (case ct_NoRow => k_is)
      (case lk_CasterError => k_is)
      (case cN_CasterError => rfl)
      (case ln_CasterError => k_is)
      (case le_CasterError => rfl)
      (case ni_CasterError => k_is)
      (case cn_NoCase => k_is)
      (case cl_NoCase => k_is)
      (case cc_NoCase => k_is)
      (case ck_NoCase => k_is)
      (case lk_NoCase => k_is)
      (case cN_NoCase => rfl)
      (case ln_NoCase => k_is)
      (case le_NoCase => rfl)
      (case ni_NoCase => k_is)
      (case cs_NoCase => rfl)
      (case cm_NoCase => rfl)
      (case ch_NoCase => rfl)
      (case q1_NoCase => k_is)
      (case q2_NoCase => k_is)
      (case q3_NoCase => k_is)
      (case q4_NoCase => k_is)
      (case q5_NoCase => k_is)
      (case q6_NoCase => k_is)
      (case q7_NoCase => k_is)
      (case q8_NoCase => k_is)
      (case q9_NoCase => k_is)
      (case w1_NoCase => rfl)
      (case w2_NoCase => k_is)
      (case w3_NoCase => k_is)
      (case w4_NoCase => k_is)
      (case lk_NoText => k_is)
      (case cN_NoText => rfl)
      (case ln_NoText => k_is)
      (case le_NoText => rfl)
      (case ni_NoText => k_is)
      (case cs_NoText => rfl)
      (case cm_NoText => rfl)
      (case ch_NoText => rfl)
      (case q1_NoText => k_is)
      (case q2_NoText => k_is)
      (case q3_NoText => k_is)
      (case q4_NoText => k_is)
      (case q5_NoText => k_is)
      (case q6_NoText => k_is)
      (case q7_NoText => k_is)
      (case q8_NoText => k_is)
      (case q9_NoText => k_is)
      (case b1 => k_is)
      (case b2 => k_is)
      (case b3 => k_is)
      (case m_NoCase_CasterError => k_is)
      (case m_NoCase_NoCase => k_is)
      (case m_NoCase_TooMany => k_is)
      (case m_NoCase_Loose => k_is)
      (case m_NoCase_Tight => k_is)
      (case m_NoCase_NoBreak => k_is)
      (case m_NoCase_NoCopy => k_is)
      (case m_NoCase_NoKeys => k_is)
      (case m_NoCase_NoText => k_is)
      (case m_NoCase_NoNumber => k_is)
      (case m_NoCase_NoRow => k_is)
      (case m_NoText_CasterError => k_is)
      (case m_NoText_NoCase => k_is)
      (case m_NoText_TooMany => k_is)
      (case m_NoText_Loose => k_is)
      (case m_NoText_Tight => k_is)
      (case m_NoText_NoBreak => k_is)
      (case m_NoText_NoCopy => k_is)
      (case m_NoText_NoKeys => k_is)
      (case m_NoText_NoText => k_is)
      (case m_NoText_NoNumber => k_is)
      (case m_NoText_NoRow => k_is)
      (case y_SIGNS => k_is)
      (case y_FIGURES => k_is)
      (case y_NUMBER_OF_TEETH => k_is)
      (case z_ValueError => k_is)
      (case z_all => k_is)
      (case z_bool => k_is)
      (case z_enumerate => k_is)
      (case z_int => k_is)
      (case z_isinstance => k_is)
      (case z_len => k_is)
      (case z_min => k_is)
      (case z_range => k_is)
      (case z_str => k_is)
    obtain ⟨a, T⟩ := T
    have e0 := hmg.symm.trans T.law.mg
    cases e0
    exact ⟨_, fun s u => .of_eq (T.law.ba [u] rfl), fun base kb nb => Lw.ok_law T⟩
  case S => exact fun K H a ns hl hO hS => ⟨a, ns, rfl, hS, hl, fun _ => rfl⟩
  case C => exact fun _ _ _ _ z => z
