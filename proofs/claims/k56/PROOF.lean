import PyProof.Rows.All
import Wide.All
import OpenK.AllK
import Wide.FinOn
import Lean
import PyProof.EqAt
import PyProof.EqKinds
import PyProof.TupleCall
import PyProof.P3Eq
import PyProof.NeData
import PyProof.Rows.SortShellK
import PySem.Challenge.RW_linecaster_k56_whole_keys_cast_and_read
set_option Elab.async false
set_option linter.all false
set_option maxRecDepth 100000
namespace L2
open PySem PySem.Spec PyProof.Rows
abbrev Key := Sum Int Str
def keyIs : Key → Value → Bool
  | .inl k, v => Value.isInt k v
  | .inr x, v => Value.isStrOf x v
def keyH (w : World) : Key → Int
  | .inl k => hashInt k
  | .inr x => hashStr w x
theorem keyIs_shape : ∀ {k : Key} {v : Value}, keyIs k v = true → (∃ i t, k = Sum.inl i ∧ v = Value.int i t) ∨ (∃ x t, k = Sum.inr x ∧ v = Value.str x t)
  | .inl i, v, h => by
    obtain ⟨t, e⟩ := Value.isInt_shape (k := i) (v := v) h
    exact .inl ⟨i, t, rfl, e⟩
  | .inr x, v, h => by
    obtain ⟨t, e⟩ := Value.isStrOf_shape (x := x) (v := v) h
    exact .inr ⟨x, t, rfl, e⟩
theorem key_ll (a b : Int) : decide ((Sum.inl a : Key) = Sum.inl b) = (a == b) := by
  by_cases e : a = b
  · subst e; simp
  · have h : ¬ (Sum.inl a : Key) = Sum.inl b := fun q => e (Sum.inl.inj q)
    rw [decide_eq_false h]
    exact (beq_eq_false_iff_ne.mpr e).symm
theorem key_rr (a b : Str) : decide ((Sum.inr a : Key) = Sum.inr b) = decide (a = b) := by
  by_cases e : a = b
  · subst e; simp
  · have h : ¬ (Sum.inr a : Key) = Sum.inr b := fun q => e (Sum.inr.inj q)
    rw [decide_eq_false h, decide_eq_false e]
theorem key_lr (a : Int) (b : Str) : decide ((Sum.inl a : Key) = Sum.inr b) = false := decide_eq_false (fun q => nomatch q)
theorem key_rl (a : Str) (b : Int) : decide ((Sum.inr a : Key) = Sum.inl b) = false := decide_eq_false (fun q => nomatch q)
def mixKind (prog : Program) (w : World) : PySem.KeyKind prog w Key where
  is := keyIs
  hash := keyH w
  inj := fun v a b ha hb => by
    rcases keyIs_shape ha with ⟨i, t, rfl, rfl⟩ | ⟨x, t, rfl, rfl⟩
    · rcases keyIs_shape hb with ⟨j, u, rfl, e⟩ | ⟨y, u, rfl, e⟩
      · injection e with e1 _; rw [e1]
      · exact nomatch e
    · rcases keyIs_shape hb with ⟨j, u, rfl, e⟩ | ⟨y, u, rfl, e⟩
      · exact nomatch e
      · injection e with e1 _; rw [e1]
  byValue := fun k v h => by
    rcases keyIs_shape h with ⟨i, t, rfl, rfl⟩ | ⟨x, t, rfl, rfl⟩ <;> rfl
  pyHash := fun hv h => by
    rcases keyIs_shape hv with ⟨i, t, rfl, rfl⟩ | ⟨x, t, rfl, rfl⟩
    · exact wpAny_pyHash_int h
    · exact wpAny_pyHash_str h
  eqBool := fun hu hv h => by
    rcases keyIs_shape hu with ⟨i, t, rfl, rfl⟩ | ⟨x, t, rfl, rfl⟩
    · rcases keyIs_shape hv with ⟨j, u, rfl, rfl⟩ | ⟨y, u, rfl, rfl⟩
      · rw [key_ll] at h; exact wpAny_eqBool_int h
      · rw [key_lr] at h; exact SeqAt.EqAt.int_str i t y u _ _ _ _ h
    · rcases keyIs_shape hv with ⟨j, u, rfl, rfl⟩ | ⟨y, u, rfl, rfl⟩
      · rw [key_rl] at h; exact SeqAt.EqAt.str_int x t j u _ _ _ _ h
      · rw [key_rr] at h; exact wpAny_eqBool_str h
  «strs» := fun k x t v h => by
    rcases keyIs_shape h with ⟨i, u, rfl, e⟩ | ⟨y, u, rfl, e⟩
    · exact nomatch e
    · injection e with e1 _
      subst e1
      cases v <;> rfl
end L2
namespace L2
open PySem PySem.Spec PyProof.Rows
inductive V where
  | non | bl (b : Bool) | int (i : Int) | str (x : Str) | byt (b : Array UInt8) | flt (b : UInt64) | ref (a : Addr) | ty (n : String)
  deriving DecidableEq
def RelV : V → Value → Prop
  | .non, u => u = Value.none
  | .bl b, u => u = Value.bool b
  | .int i, u => ∃ t, u = Value.int i t
  | .str x, u => ∃ t, u = Value.str x t
  | .byt b, u => ∃ t, u = Value.bytes b t
  | .flt b, u => ∃ t, u = Value.float b t
  | .ref a, u => u = Value.ref a
  | .ty n, u => u = Value.type n
abbrev Vals : List V → List Value → Prop := Paired RelV
theorem Vals.length {xs : List V} {us : List Value} (r : Vals xs us) : xs.length = us.length := Paired.length r
theorem Vals.get : ∀ {xs : List V} {us : List Value} {i : Nat} {x : V}, Vals xs us → xs[i]? = some x → ∃ u, us[i]? = some u ∧ RelV x u
  | _, _, _, _, .nil, e => by simp at e
  | _, _, 0, _, .cons r _, e => by simp at e; subst e; exact ⟨_, rfl, r⟩
  | _, _, i + 1, x, .cons _ t, e => by
    obtain ⟨u, h1, h2⟩ := Vals.get (i := i) (x := x) t (by simpa using e)
    exact ⟨u, by simpa using h1, h2⟩
theorem Vals.set {x : V} {u : Value} (r : RelV x u) : ∀ {xs : List V} {us : List Value} (i : Nat), Vals xs us → Vals (xs.set i x) (us.set i u)
  | _, _, _, .nil => .nil
  | _, _, 0, .cons _ t => .cons r t
  | _, _, i + 1, .cons q t => .cons q (Vals.set r i t)
theorem Vals.append : ∀ {xs ys : List V} {us ws : List Value}, Vals xs us → Vals ys ws → Vals (xs ++ ys) (us ++ ws)
  | _, _, _, _, .nil, s => s
  | _, _, _, _, .cons r t, s => .cons r (Vals.append t s)
theorem Vals.take : ∀ {xs : List V} {us : List Value} (n : Nat), Vals xs us → Vals (xs.take n) (us.take n)
  | _, _, 0, _ => .nil
  | _, _, _ + 1, .nil => .nil
  | _, _, n + 1, .cons r t => .cons r (Vals.take n t)
theorem Vals.drop : ∀ {xs : List V} {us : List Value} (n : Nat), Vals xs us → Vals (xs.drop n) (us.drop n)
  | _, _, 0, r => r
  | _, _, _ + 1, .nil => .nil
  | _, _, n + 1, .cons _ t => Vals.drop n t
def RelO : Option V → Option Value → Prop
  | some v, some u => RelV v u
  | none, none => True
  | _, _ => False
def KV {κ : Type} : List (κ × V) → List (κ × Value) → Prop := Paired fun (p : κ × V) (q : κ × Value) => p.1 = q.1 ∧ RelV p.2 q.2
def kV : Key → V
  | .inl i => .int i
  | .inr x => .str x
inductive HO where
  | lst (xs : List V)
  | tup (xs : List V)
  | dK (kvs : List (Key × V)) | dT (kvs : List (List Key × V))
  | set (S : Int → Bool) (n : Nat)
  | ins (C dx : Addr) (fs : List (Str × V))
  | own (x : Addr)
  | xd (fs : List (Str × V))
  | met (f x : Addr)
  | rng (lo hi : Int)
  | frz (o : Obj) (u : HO)
  | tbl (ps : Array Value)
  | ext (φ : Heap → Prop)
abbrev Hp := Addr → Option HO
def upd (H : Hp) (a : Addr) (o : HO) : Hp := fun b => if b = a then some o else H b
theorem upd_same {H : Hp} {a : Addr} {o : HO} : upd H a o a = some o := by unfold upd; rw [if_pos rfl]
theorem upd_ne {H : Hp} {a b : Addr} {o : HO} (h : b ≠ a) : upd H a o b = H b := by unfold upd; rw [if_neg h]
theorem ne_of {H : Hp} {a b : Addr} {o u : HO} (h : H a = some o) (h' : H b = some u) (d : o ≠ u) : a ≠ b := by
  intro e; subst e; rw [h] at h'; exact d (Option.some.inj h')
theorem ne_of_none {H : Hp} {a b : Addr} {o : HO} (h : H a = some o) (h' : H b = none) : a ≠ b := by
  intro e; subst e; rw [h] at h'; cases h'
section
variable (P : Program) (w : World)
def ObjOk (H : Hp) (h : Heap) (a : Addr) : HO → Prop
  | .lst xs => xs.length ≤ sizeLine ∧ ∃ (its : List Value) (n : Nat), Vals xs its ∧ h.get? a = some { cls := .type "list", data := .seq its.toArray n }
  | .tup xs => xs.length ≤ sizeLine ∧ ∃ its : List Value, Vals xs its ∧ IsTup h a its.toArray
  | .dK kvs => kvs.length ≤ sizeLine ∧ (a == sysModules) = false ∧ ∃ vs, KV kvs vs ∧ h.DictOf (mixKind P w) a vs
  | .dT kvs => kvs.length ≤ sizeLine ∧ (a == sysModules) = false ∧ ∃ xs : List (List Key × Addr × Value),
      Paired (fun (p : List Key × V) (q : List Key × Addr × Value) => p.1 = q.1 ∧ H q.2.1 = some (.tup (p.1.map kV)) ∧ RelV p.2 q.2.2) kvs xs ∧
      ∃ o es ep, h.get? a = some o ∧ o.ExactDict ∧ o.data = .dict es ep ∧ es.toList = xs.map (entryOfKey (tupleKind (mixKind P w))) ∧ (xs.map (·.1)).Nodup
  | .set S n => h.SetOf (intKind P w) a S n
  | .ins C dx fs => H dx = some (.own a) ∧ fs.length ≤ 1000 ∧ dx ≠ a ∧ h.get? a = some (PySem.W.instObj C dx) ∧
      ∃ mA, h.Ns1 dx mA ∧ (∀ f, RelO (fs.lookup f) (mA f)) ∧ PySem.Within mA (fs.map (·.1))
  | .own _ => ∃ o, h.get? a = some o
  | .xd fs => ∃ mA, h.Ns1 a mA ∧ ∀ f, RelO (fs.lookup f) (mA f)
  | .rng lo hi => ∃ t u v, h.get? a = some { cls := .type "range", data := .fields #[.int lo t, .int hi u, .int 1 v] }
  | .frz o u => h.get? a = some o ∧ ObjOk H h a u
  | .tbl ps => h.get? a = some { cls := .none, data := .fields ps }
  | .met f x => h.get? a = some (PySem.W.methodObj (.ref f) (.ref x))
  | .ext φ => φ h ∧ (∃ o, h.get? a = some o) ∧ ∀ h1 h2 : Heap, φ h1 → (∀ o, h1.get? a = some o → h2.get? a = some o) → φ h2
def HOk (H : Hp) (h : Heap) : Prop := ∀ a o, H a = some o → ObjOk P w H h a o
end
section
variable {P : Program} {w : World} {H H' : Hp} {h h' : Heap} {a : Addr} {o : HO}
theorem ObjOk.lt (x : ObjOk P w H h a o) : a < h.objs.size := by
  cases o with
  | lst xs => obtain ⟨_, _, _, _, e⟩ := x; exact Heap.lt_size e
  | tup xs => obtain ⟨_, _, _, p⟩ := x; exact p.lt
  | dK kvs => obtain ⟨_, _, _, _, o, _, _, e, _⟩ := x; exact Heap.lt_size e
  | dT kvs => obtain ⟨_, _, _, _, o, _, _, e, _⟩ := x; exact Heap.lt_size e
  | set S n => obtain ⟨o, _, _, _, e, _⟩ := x; exact Heap.lt_size e
  | ins C dx fs => obtain ⟨_, _, _, e, _⟩ := x; exact Heap.lt_size e
  | own y => obtain ⟨_, e⟩ := x; exact Heap.lt_size e
  | xd fs => obtain ⟨_, ⟨_, _, _, e, _⟩, _⟩ := x; exact Heap.lt_size e
  | rng lo hi => obtain ⟨_, _, _, e⟩ := x; exact Heap.lt_size e
  | frz ob u => obtain ⟨e, _⟩ := x; exact Heap.lt_size e
  | tbl ps => exact Heap.lt_size (show h.get? a = some _ from x)
  | met f y => exact Heap.lt_size (show h.get? a = some _ from x)
  | ext φ => obtain ⟨_, ⟨_, e⟩, _⟩ := x; exact Heap.lt_size e
theorem Paired.mapP {α β : Type} {F G : α → β → Prop} : ∀ {l₁ : List α} {l₂ : List β}, Paired F l₁ l₂ → (∀ a b, F a b → G a b) → Paired G l₁ l₂
  | _, _, .nil, _ => .nil
  | _, _, .cons r t, f => .cons (f _ _ r) (Paired.mapP t f)
theorem ObjOk.stay (x : ObjOk P w H h a o) (k : ∀ b u, (b = a ∨ H b = some (.own a)) → h.get? b = some u → h'.get? b = some u)
    (ho : ∀ b, H b = some (.own a) → H' b = some (.own a)) (ht : ∀ b xs, H b = some (.tup xs) → H' b = some (.tup xs)) : ObjOk P w H' h' a o := by
  induction o with
  | lst xs => obtain ⟨z, its, n, r, e⟩ := x; exact ⟨z, its, n, r, k _ _ (.inl rfl) e⟩
  | tup xs => obtain ⟨z, its, r, ob, e, c⟩ := x; exact ⟨z, its, r, ob, k _ _ (.inl rfl) e, c⟩
  | dK kvs => obtain ⟨z, y, vs, r, ob, es, ep, e, c⟩ := x; exact ⟨z, y, vs, r, ob, es, ep, k _ _ (.inl rfl) e, c⟩
  | dT kvs =>
    obtain ⟨z, y, xs, r, ob, es, ep, e, c⟩ := x
    exact ⟨z, y, xs, Paired.mapP r fun p q z => ⟨z.1, ht _ _ z.2.1, z.2.2⟩, ob, es, ep, k _ _ (.inl rfl) e, c⟩
  | set S n => obtain ⟨ob, es, ep, t, e, c⟩ := x; exact ⟨ob, es, ep, t, k _ _ (.inl rfl) e, c⟩
  | ins C dx fs =>
    obtain ⟨d, z, ne, e, mA, ⟨od, es, ep, e2, c⟩, r⟩ := x
    exact ⟨ho _ d, z, ne, k _ _ (.inl rfl) e, mA, ⟨od, es, ep, k _ _ (.inr d) e2, c⟩, r⟩
  | own y => obtain ⟨ob, e⟩ := x; exact ⟨ob, k _ _ (.inl rfl) e⟩
  | xd fs => obtain ⟨mA, ⟨od, es, ep, e, c⟩, r⟩ := x; exact ⟨mA, ⟨od, es, ep, k _ _ (.inl rfl) e, c⟩, r⟩
  | rng lo hi => obtain ⟨t, u, v, e⟩ := x; exact ⟨t, u, v, k _ _ (.inl rfl) e⟩
  | frz ob u ih => obtain ⟨e, q⟩ := x; exact ⟨k _ _ (.inl rfl) e, ih q⟩
  | tbl ps =>
    have e : h.get? a = some { cls := .none, data := .fields ps } := x
    show h'.get? a = some { cls := .none, data := .fields ps }
    exact k a _ (.inl rfl) e
  | met f y =>
    have e : h.get? a = some (PySem.W.methodObj (.ref f) (.ref y)) := x
    show h'.get? a = some (PySem.W.methodObj (.ref f) (.ref y))
    exact k a _ (.inl rfl) e
  | ext φ => obtain ⟨p, ⟨o, e⟩, st⟩ := x; exact ⟨st _ _ p fun o q => k _ _ (.inl rfl) q, ⟨o, k _ _ (.inl rfl) e⟩, st⟩
theorem HOk.lt (x : HOk P w H h) (e : H a = some o) : a < h.objs.size := (x a o e).lt
theorem HOk.fresh (x : HOk P w H h) (e : h.objs.size ≤ a) : H a = none := by
  cases q : H a with
  | none => rfl
  | some u => exact absurd (Nat.lt_of_lt_of_le (x.lt q) e) (Nat.lt_irrefl _)
theorem HOk.kept (x : HOk P w H h) (k : ∀ b u, h.get? b = some u → h'.get? b = some u) : HOk P w H h' := fun a o e =>
  (x a o e).stay (fun b u _ q => k b u q) (fun _ q => q) fun _ _ q => q
theorem HOk.laid (x : HOk P w H h) (k : ∀ b u, h.get? b = some u → h'.get? b = some u) (hp : h.objs.size ≤ a) (new : ObjOk P w (upd H a o) h' a o) : HOk P w (upd H a o) h' := fun b u e => by
  have hn := x.fresh hp
  by_cases hb : b = a
  · subst hb; rw [upd_same] at e; cases e; exact new
  · rw [upd_ne hb] at e
    exact (x b u e).stay (fun c v _ q => k c v q) (fun c q => by rw [upd_ne (ne_of_none q hn)]; exact q) fun c xs q => by rw [upd_ne (ne_of_none q hn)]; exact q
end
def Rd (H : Hp) (a : Addr) (u : HO) : Prop := H a = some u ∨ ∃ o, H a = some (.frz o u)
theorem Rd.of {H : Hp} {a : Addr} {u : HO} (h : H a = some u) : Rd H a u := .inl h
theorem Rd.ok {P : Program} {w : World} {H : Hp} {h : Heap} {a : Addr} {u : HO} (r : Rd H a u) (x : HOk P w H h) : ObjOk P w H h a u := by
  rcases r with r | ⟨o, r⟩
  · exact x a u r
  · obtain ⟨_, q⟩ := x a _ r
    exact q
def Mut : Option HO → Prop
  | some (.lst _) => True
  | some (.dK _) => True
  | some (.dT _) => True
  | some (.set _ _) => True
  | some (.ins _ _ _) => True
  | some (.ext _) => True
  | _ => False
section
variable {P : Program} {w : World} {H : Hp} {h h' : Heap} {x e : Addr} {o' : HO}
theorem HOk.write (ok : HOk P w H h) (mu : Mut (H x)) (he : e = x ∨ H e = some (.own x)) (k : ∀ b u, b ≠ e → h.get? b = some u → h'.get? b = some u) (heo : ∃ u, h'.get? e = some u)
    (new : ObjOk P w (upd H x o') h' x o') : HOk P w (upd H x o') h' := fun b u q => by
  have nown : ∀ c y, H c = some (.own y) → c ≠ x := fun c y r z => by subst z; rw [r] at mu; exact mu
  have ntup : ∀ c xs, H c = some (.tup xs) → c ≠ x := fun c xs r z => by subst z; rw [r] at mu; exact mu
  by_cases hb : b = x
  · subst hb; rw [upd_same] at q; cases q; exact new
  · rw [upd_ne hb] at q
    by_cases hbe : b = e
    · have q' : H b = some (.own x) := by
        rcases he with z | z
        · exact absurd (hbe.trans z) hb
        · rw [hbe]; exact z
      rw [q] at q'; cases q'
      obtain ⟨v, hv⟩ := heo
      exact ⟨v, by rw [hbe]; exact hv⟩
    · refine (ok b u q).stay (fun c v hc r => k c v ?_ r) (fun c r => by rw [upd_ne (nown c b r)]; exact r) fun c xs r => by rw [upd_ne (ntup c xs r)]; exact r
      rcases hc with rfl | hc
      · exact hbe
      · rintro rfl
        rcases he with z | z
        · exact nown c b hc z
        · rw [hc] at z; cases z; exact hb rfl
end
structure Un (fs ex : List Addr) (H H' : Hp) (h h' : Heap) : Prop where
  keep : ∀ b o, h.get? b = some o → H b = none → b ∉ fs → b ∉ ex → h'.get? b = some o
  slot : ∀ b o, h.get? b = some o → H b = none → b ∈ fs → b ∉ ex → ∃ sl, h'.get? b = some { o with slots := sl }
  free : ∀ b o, h.get? b = some o → H b = none → b ∉ ex → H' b = none
  there : ∀ b o, h.get? b = some o → b ∉ ex → ∃ o', h'.get? b = some o'
  tups : ∀ b xs, H b = some (.tup xs) → H' b = some (.tup xs)
  frzs : ∀ b o u, H b = some (.frz o u) → H' b = some (.frz o u)
  tbls : ∀ b ps, H b = some (.tbl ps) → ∃ more, H' b = some (.tbl (ps ++ more))
section
variable {fs fs' ex ex' : List Addr} {H H1 H2 : Hp} {h h1 h2 h' : Heap} {a x e : Addr} {o : HO}
theorem Un.any (u : Un fs ex H H1 h h1) {b : Addr} {ob : Obj} (q : h.get? b = some ob) (n : H b = none) (hx : b ∉ ex) : ∃ sl, h1.get? b = some { ob with slots := sl } := by
  by_cases hb : b ∈ fs
  · exact u.slot b ob q n hb hx
  · exact ⟨ob.slots, u.keep b ob q n hb hx⟩
theorem Un.trans (a : Un fs ex H H1 h h1) (b : Un fs ex H1 H2 h1 h2) : Un fs ex H H2 h h2 where
  keep := fun c ob q n hc hx => b.keep c ob (a.keep c ob q n hc hx) (a.free c ob q n hx) hc hx
  slot := fun c ob q n hc hx => by
    obtain ⟨sl, e1⟩ := a.slot c ob q n hc hx
    obtain ⟨sl', e2⟩ := b.slot c _ e1 (a.free c ob q n hx) hc hx
    exact ⟨sl', e2⟩
  free := fun c ob q n hx => by
    obtain ⟨o', e1⟩ := a.there c ob q hx
    exact b.free c o' e1 (a.free c ob q n hx) hx
  there := fun c ob q hx => by
    obtain ⟨o', e1⟩ := a.there c ob q hx
    exact b.there c o' e1 hx
  tups := fun c xs q => b.tups c xs (a.tups c xs q)
  frzs := fun c ob xs q => b.frzs c ob xs (a.frzs c ob xs q)
  tbls := fun c ps q => by
    obtain ⟨m1, e1⟩ := a.tbls c ps q
    obtain ⟨m2, e2⟩ := b.tbls c _ e1
    exact ⟨m1 ++ m2, by rw [e2, Array.append_assoc]⟩
theorem Un.kept (k : ∀ b u, h.get? b = some u → h'.get? b = some u) : Un fs ex H H h h' :=
  ⟨fun b ob q _ _ _ => k b ob q, fun b ob q _ _ _ => ⟨ob.slots, k b ob q⟩, fun _ _ _ n _ => n, fun b ob q _ => ⟨ob, k b ob q⟩, fun _ _ q => q, fun _ _ _ q => q, fun _ ps q => ⟨#[], by rw [q]; simp⟩⟩
theorem Un.refl : Un fs ex H H h h := Un.kept fun _ _ q => q
theorem Un.laid (k : ∀ b u, h.get? b = some u → h'.get? b = some u) (hp : h.objs.size ≤ a) (hn : H a = none) : Un fs ex H (upd H a o) h h' where
  keep := fun b u q _ _ _ => k b u q
  slot := fun b u q _ _ _ => ⟨u.slots, k b u q⟩
  free := fun b u q n _ => by rw [upd_ne (Nat.ne_of_lt (Nat.lt_of_lt_of_le (Heap.lt_size q) hp))]; exact n
  there := fun b u q _ => ⟨u, k b u q⟩
  tups := fun b xs q => by rw [upd_ne (ne_of_none q hn)]; exact q
  frzs := fun b u xs q => by rw [upd_ne (ne_of_none q hn)]; exact q
  tbls := fun b ps q => ⟨#[], by rw [upd_ne (ne_of_none q hn), q]; simp⟩
theorem Un.write (mu : Mut (H x)) (he : e = x ∨ H e = some (.own x)) (k : ∀ b u, b ≠ e → h.get? b = some u → h'.get? b = some u) (heo : ∃ u, h'.get? e = some u) : Un fs ex H (upd H x o) h h' := by
  have hx : ∀ b, H b = none → b ≠ x := fun b n z => by subst z; rw [n] at mu; exact mu
  have hb : ∀ b, H b = none → b ≠ e := fun b n z => by
    subst z
    rcases he with r | r
    · exact hx b n r
    · rw [n] at r; cases r
  have hm : ∀ b u, H b = some u → ¬ Mut (some u) → b ≠ x := fun b u q nm z => by subst z; rw [q] at mu; exact nm mu
  refine ⟨fun b u q n _ _ => k b u (hb b n) q, fun b u q n _ _ => ⟨u.slots, k b u (hb b n) q⟩, fun b u q n _ => by rw [upd_ne (hx b n)]; exact n, fun b u q _ => ?_,
    fun b xs q => by rw [upd_ne (hm b _ q fun z => z)]; exact q, fun b u xs q => by rw [upd_ne (hm b _ q fun z => z)]; exact q, fun b ps q => ⟨#[], by rw [upd_ne (hm b _ q fun z => z), q]; simp⟩⟩
  by_cases hbe : b = e
  · subst hbe; exact heo
  · exact ⟨u, k b u hbe q⟩
end
def trk (h : Heap) (H : Hp) : List Addr := (List.range h.objs.size).filter fun a => (H a).isSome
def hidT (h : Heap) (H : Hp) : Heap := PySem.W.hideAll h (trk h H)
theorem hidT_size (h : Heap) (H : Hp) : (hidT h H).objs.size = h.objs.size := PySem.W.hideAll_size _ _
theorem hidT_get {h : Heap} {H : Hp} {b : Addr} {o : Obj} (e : h.get? b = some o) (n : H b = none) : (hidT h H).get? b = some o :=
  PySem.W.hideAll_get _ e fun hm => by
    have q : (H b).isSome = true := (List.mem_filter.mp hm).2
    rw [n] at q; simp at q
theorem of_hidT {h : Heap} {H : Hp} {b : Addr} {o : Obj} (e : (hidT h H).get? b = some o) : h.get? b = some o ∧ H b = none := by
  have e' : h.get? b = some o := PySem.W.of_hideAll (trk h H) e
  refine ⟨e', ?_⟩
  cases q : H b with
  | none => rfl
  | some x =>
    have hm : b ∈ trk h H := List.mem_filter.mpr ⟨List.mem_range.mpr (Heap.lt_size e'), by simp [q]⟩
    have z : (hidT h H).get? b = none := PySem.W.hideAll_none (trk h H) hm
    rw [z] at e; cases e
def allNews (g h : Heap) (L : Addr) : List (Addr × Obj) := (List.range h.objs.size).filterMap fun a => if a = L ∨ (g.get? a).isSome = true then none else (h.get? a).map fun o => (a, o)
def rest (g h : Heap) (L d : Addr) : List (Addr × Obj) := (allNews g h L).filter fun p => decide (p.1 ≠ d)
end L2
namespace L2
open PySem PySem.Spec PyProof.Rows
structure Mod (K : PySem.W.Frag) (mg : Str → Option Value) (base : Heap) : Prop where
  kin : K.In base
  glob : base.Ns mainGlobals mg
  blt : ∃ mb, base.Ns builtinsNs mb ∧ ∀ x : Str, x ≠ "__name__" → mb x = bootBuiltins x
  nolimit : base.NoLimit
structure Cx where
  prog : Program
  w : World
  K : PySem.W.Frag
  mg : Str → Option Value
  base : Heap
  A : Around
  N : List Str
  s₀ : Shared
  H₀ : Hp
  env : Env
  outer : List Env
  stack : List Env
  ex : List Addr
  fn : Str → Bool
  calm : Bool
  pn : List (Addr × Obj)
  xe : Value → Shared → Prop
def frs (l : List Env) : List Addr := l.filterMap (·.frame)
abbrev Cx.fs (X : Cx) : List Addr := frs X.outer
def Vis (sc : Scope) (x : Str) : Prop := sc.names.lookup x = some .local ∨ sc.names.lookup x = some .cell ∨ sc.names.lookup x = some .free
def Loc (sc : Scope) (x : Str) : Prop := sc.names.lookup x = some .local ∨ sc.names.lookup x = some .cell
def Look (env : Env) (h : Heap) (m : Str → Option Value) (x : Str) (u : Value) : Prop :=
  (env.kindOf x = some .local ∧ m x = some u) ∨ ((env.kindOf x = some .cell ∨ env.kindOf x = some .free) ∧ ∃ c, env.cells.lookup x = some c ∧ h.IsCell c (some u))
structure Cx.Ok (X : Cx) : Prop where
  mod : Mod X.K X.mg X.base
  kind : X.env.scope.kind = .function
  glob : X.env.globals = mainGlobals
  blt : X.env.builtins = builtinsNs
  above : X.s₀.heap.objs.size ≤ X.env.locals
  inj : ∀ x y c, X.env.cells.lookup x = some c → X.env.cells.lookup y = some c → x = y
  has : ∀ x, (X.env.kindOf x = some .cell ∨ X.env.kindOf x = some .free) → ∃ c, X.env.cells.lookup x = some c
  cab : ∀ x c, X.fn x = true → X.env.cells.lookup x = some c → X.s₀.heap.objs.size ≤ c
  hd : X.calm = true → X.A.handled = none
  frames : X.A.frames = some X.stack
  stk : X.stack = X.outer ∨ (X.stack = X.env :: X.outer ∧ X.env.frame = some X.env.locals)
  exf : ∀ b ∈ X.ex, b ≠ X.env.locals ∧ ∀ x c, X.env.cells.lookup x = some c → c ≠ b
  bs : ∀ b o, X.base.get? b = some o → X.s₀.heap.get? b = some o ∧ X.H₀ b = none
  bsz : X.base.objs.size ≤ X.s₀.heap.objs.size
  noex : ∀ b o, X.base.get? b = some o → b ∉ X.ex
  exfs : ∀ b ∈ X.ex, b ∉ X.fs
  funs : X.s₀.heap.FunFrames X.base X.outer
  frf : ∀ b ∈ X.fs, X.H₀ b = none
structure Inv (X : Cx) (pins : List (Addr × Obj)) (σ : List (Option V)) (H : Hp) (s : Shared) : Prop where
  ok : X.Ok
  os : s.os = X.s₀.os
  bare : AllBare s.gens
  base : Un X.fs X.ex X.H₀ H X.s₀.heap s.heap
  loc : ∃ m, s.heap.Ns X.env.locals m ∧ ∀ (i : Nat) (x : Str) (v : V), X.N[i]? = some x → σ[i]? = some (some v) → Vis X.env.scope x → ∃ u, RelV v u ∧ Look X.env s.heap m x u
  cell : ∀ x c, X.env.cells.lookup x = some c → ∃ v, s.heap.IsCell c v
  free : H X.env.locals = none
  freeC : ∀ x c, X.env.cells.lookup x = some c → H c = none
  pin : ∀ p ∈ X.pn ++ pins, s.heap.get? p.1 = some p.2 ∧ H p.1 = none ∧ p.1 ≠ X.env.locals ∧ p.1 ∉ X.fs ∧ ∀ v, p.2.data ≠ .cell v
  hok : HOk X.prog X.w H s.heap
  len : σ.length = X.N.length
section
variable {X : Cx} {pins : List (Addr × Obj)} {σ : List (Option V)} {H H' : Hp} {s : Shared} {h' : Heap}
theorem Cx.Ok.nofr (ok : X.Ok) {b : Addr} {o : Obj} (e : X.base.get? b = some o) : b ∉ X.fs := fun hb => by
  have := (ok.funs.mem hb).1
  rw [e] at this; cases this
theorem Inv.bs (I : Inv X pins σ H s) : ∀ b o, X.base.get? b = some o → s.heap.get? b = some o ∧ H b = none := fun b o e =>
  ⟨I.base.keep b o (I.ok.bs b o e).1 (I.ok.bs b o e).2 (I.ok.nofr e) (I.ok.noex b o e), I.base.free b o (I.ok.bs b o e).1 (I.ok.bs b o e).2 (I.ok.noex b o e)⟩
theorem Inv.bk (I : Inv X pins σ H s) : ∀ b o, X.base.get? b = some o → s.heap.get? b = some o := fun b o e => (I.bs b o e).1
theorem Inv.mod (I : Inv X pins σ H s) : Mod X.K X.mg X.base := I.ok.mod
theorem Inv.kIn (I : Inv X pins σ H s) : X.K.In s.heap := I.ok.mod.kin.keeps I.bk
theorem Inv.nolimit (I : Inv X pins σ H s) : s.heap.NoLimit := I.ok.mod.nolimit.keeps I.bk
theorem Inv.fr (I : Inv X pins σ H s) : ∃ m, Fr X.base X.env.locals s.heap m :=
  let ⟨m, hn, _⟩ := I.loc
  ⟨m, hn, I.bk, Nat.le_trans I.ok.bsz I.ok.above⟩
theorem Inv.lt (I : Inv X pins σ H s) : X.env.locals < s.heap.objs.size := let ⟨_, hn, _⟩ := I.loc; hn.lt
theorem Inv.sz (I : Inv X pins σ H s) : X.s₀.heap.objs.size ≤ s.heap.objs.size := Nat.le_trans I.ok.above (Nat.le_of_lt I.lt)
theorem Inv.nofs (I : Inv X pins σ H s) {a : Addr} (h : s.heap.objs.size ≤ a) : a ∉ X.fs := fun hb => by
  obtain ⟨_, o, ho, _⟩ := I.ok.funs.mem hb
  exact absurd (Nat.lt_of_lt_of_le (Heap.lt_size ho) (Nat.le_trans I.sz h)) (Nat.lt_irrefl _)
theorem Inv.cne (I : Inv X pins σ H s) : ∀ x c, X.env.cells.lookup x = some c → c ≠ X.env.locals := fun x c e z => by
  obtain ⟨v, o, ho, hd⟩ := I.cell x c e
  obtain ⟨m, ⟨o', es, ep, ho', hd', _⟩, _⟩ := I.loc
  rw [z, ho'] at ho; cases ho; rw [hd'] at hd; cases hd
theorem Inv.funs (I : Inv X pins σ H s) : s.heap.FunFrames X.base X.outer := by
  have all : ∀ (l : List Env), (∀ b ∈ frs l, b ∈ X.fs) → X.s₀.heap.FunFrames X.base l → s.heap.FunFrames X.base l := by
    intro l
    induction l with
    | nil => intro _ _; trivial
    | cons env r ih =>
      intro hs hl
      obtain ⟨hk, ⟨L, o, hf, hn, ho, hd⟩, hr⟩ := hl
      have hL : L ∈ X.fs := hs L (by unfold frs; rw [List.filterMap_cons, hf]; exact List.mem_cons_self)
      obtain ⟨sl, e⟩ := I.base.slot L o ho (I.ok.frf L hL) hL fun z => I.ok.exfs L z hL
      exact ⟨hk, ⟨L, _, hf, hn, e, hd⟩, ih (fun b hb => hs b (by unfold frs; rw [List.filterMap_cons, hf]; exact List.mem_cons_of_mem _ hb)) hr⟩
  exact all X.outer (fun _ hb => hb) I.ok.funs
theorem Inv.stack (I : Inv X pins σ H s) : s.heap.FunFrames X.base X.stack := by
  rcases I.ok.stk with e | ⟨e, hf⟩
  · rw [e]; exact I.funs
  · rw [e]
    obtain ⟨m, hn, _⟩ := I.loc
    refine .cons (by rw [I.ok.kind]; decide) hf hn ?_ I.funs
    exact Heap.get?_none_of_le (Nat.le_trans I.ok.bsz I.ok.above)
theorem Inv.stkSub (I : Inv X pins σ H s) : ∀ b ∈ frs X.stack, b ∈ X.env.locals :: X.fs := fun b hb => by
  rcases I.ok.stk with e | ⟨e, hf⟩
  · rw [e] at hb; exact List.mem_cons_of_mem _ hb
  · rw [e] at hb
    unfold frs at hb
    rw [List.filterMap_cons, hf] at hb
    exact hb
theorem Inv.stkFree (I : Inv X pins σ H s) : ∀ b ∈ frs X.stack, H b = none := fun b hb => by
  rcases List.mem_cons.mp (I.stkSub b hb) with e | hb
  · rw [e]; exact I.free
  · obtain ⟨_, o, ho, _⟩ := I.ok.funs.mem hb
    exact I.base.free b o ho (I.ok.frf b hb) fun z => I.ok.exfs b z hb
theorem Inv.step {g' : Array GenState} {t' : Nat} {d' : Drawn} {ch : List Addr} (I : Inv X pins σ H s)
    (hch : ∀ b ∈ ch, (b ∈ X.ex ∨ X.s₀.heap.objs.size ≤ b) ∧ b ≠ X.env.locals ∧ (∀ x c, X.env.cells.lookup x = some c → c ≠ b) ∧ ∀ p ∈ X.pn ++ pins, p.1 ≠ b)
    (keep : ∀ b o, b ≠ X.env.locals → b ∉ X.fs → b ∉ ch → s.heap.get? b = some o → H b = none → h'.get? b = some o)
    (slot : ∀ b o, b ≠ X.env.locals → b ∈ X.fs → b ∉ ch → s.heap.get? b = some o → H b = none → ∃ sl, h'.get? b = some { o with slots := sl }) (free : ∀ b o, b ∉ ch → s.heap.get? b = some o → H b = none → H' b = none)
    (there : ∀ b o, b ∉ ch → s.heap.get? b = some o → ∃ o', h'.get? b = some o')
    (tups : ∀ b xs, H b = some (.tup xs) → H' b = some (.tup xs)) (frzs : ∀ b o u, H b = some (.frz o u) → H' b = some (.frz o u)) (tbls : ∀ b ps, H b = some (.tbl ps) → ∃ more, H' b = some (.tbl (ps ++ more)))
    (ns : ∀ m, s.heap.Ns X.env.locals m → h'.Ns X.env.locals m) (hok : HOk X.prog X.w H' h') (hg : AllBare g') :
    Inv X pins σ H' { s with heap := h', gens := g', drawn := d', toks := t' } := by
  have neL : ∀ b o, X.s₀.heap.get? b = some o → b ≠ X.env.locals := fun b o e => Nat.ne_of_lt (Nat.lt_of_lt_of_le (Heap.lt_size e) I.ok.above)
  have neC : ∀ b o, X.s₀.heap.get? b = some o → b ∉ X.ex → b ∉ ch := fun b o e hx hb => by
    rcases (hch b hb).1 with z | z
    · exact hx z
    · exact absurd (Nat.lt_of_lt_of_le (Heap.lt_size e) z) (Nat.lt_irrefl _)
  have cellK : ∀ x c, X.env.cells.lookup x = some c → ∀ v, s.heap.IsCell c v → h'.IsCell c v := fun x c e v ⟨o, ho, hd⟩ => by
    have nch : c ∉ ch := fun z => (hch c z).2.2.1 x c e rfl
    by_cases hc : c ∈ X.fs
    · obtain ⟨sl, q⟩ := slot c o (I.cne x c e) hc nch ho (I.freeC x c e)
      exact ⟨_, q, hd⟩
    · exact ⟨o, keep c o (I.cne x c e) hc nch ho (I.freeC x c e), hd⟩
  refine ⟨I.ok, I.os, hg, ⟨fun b o e n hb hx => ?_, fun b o e n hb hx => ?_, fun b o e n hx => ?_, fun b o e hx => ?_, fun b xs e => tups b xs (I.base.tups b xs e), fun b o xs e => frzs b o xs (I.base.frzs b o xs e), fun b ps e => ?_⟩, ?_, fun x c e => ?_, ?_, fun x c e => ?_, fun p hp => ?_, hok, I.len⟩
  · exact keep b o (neL b o e) hb (neC b o e hx) (I.base.keep b o e n hb hx) (I.base.free b o e n hx)
  · obtain ⟨sl, e1⟩ := I.base.slot b o e n hb hx
    obtain ⟨sl', e2⟩ := slot b _ (neL b o e) hb (neC b o e hx) e1 (I.base.free b o e n hx)
    exact ⟨sl', e2⟩
  · obtain ⟨o', e1⟩ := I.base.there b o e hx
    exact free b o' (neC b o e hx) e1 (I.base.free b o e n hx)
  · obtain ⟨o', e1⟩ := I.base.there b o e hx
    exact there b o' (neC b o e hx) e1
  · obtain ⟨m1, e1⟩ := I.base.tbls b ps e
    obtain ⟨m2, e2⟩ := tbls b _ e1
    exact ⟨m1 ++ m2, by rw [e2, Array.append_assoc]⟩
  · obtain ⟨m, hn, hl⟩ := I.loc
    refine ⟨m, ns m hn, fun i x v e1 e2 e3 => ?_⟩
    obtain ⟨u, r, l⟩ := hl i x v e1 e2 e3
    refine ⟨u, r, ?_⟩
    rcases l with l | ⟨k, c, e, z⟩
    · exact .inl l
    · exact .inr ⟨k, c, e, cellK x c e _ z⟩
  · obtain ⟨v, z⟩ := I.cell x c e
    exact ⟨v, cellK x c e v z⟩
  · obtain ⟨m, ⟨o, _, _, ho, _⟩, _⟩ := I.loc
    exact free _ o (fun z => (hch _ z).2.1 rfl) ho I.free
  · obtain ⟨v, o, ho, hd⟩ := I.cell x c e
    exact free c o (fun z => (hch c z).2.2.1 x c e rfl) ho (I.freeC x c e)
  · obtain ⟨e, n, ne, nf, d⟩ := I.pin p hp
    have nch : p.1 ∉ ch := fun z => (hch p.1 z).2.2.2 p hp rfl
    exact ⟨keep p.1 p.2 ne nf nch e n, free p.1 p.2 nch e n, ne, nf, d⟩
theorem Inv.un {t' : Nat} (I : Inv X pins σ H s) (u : Un X.fs [] H H' s.heap h') (hok : HOk X.prog X.w H' h') : Inv X pins σ H' { s with heap := h', toks := t' } := by
  obtain ⟨m, ⟨o, es, ep, ho, r⟩, _⟩ := id I.loc
  obtain ⟨sl, hL⟩ := u.any ho I.free (by simp)
  exact I.step (g' := s.gens) (d' := s.drawn) (ch := []) (fun _ z => nomatch z) (fun b o _ hb _ e n => u.keep b o e n hb (by simp)) (fun b o _ hb _ e n => u.slot b o e n hb (by simp)) (fun b o _ e n => u.free b o e n (by simp)) (fun b o _ e => u.there b o e (by simp)) u.tups u.frzs u.tbls (fun m' hm => by
    obtain ⟨o', es', ep', ho', r'⟩ := hm
    rw [ho] at ho'; cases ho'
    exact ⟨_, es', ep', hL, r'⟩) hok I.bare
theorem Inv.call {g' : Array GenState} {t' : Nat} {d' : Drawn} {ch : List Addr} (I : Inv X pins σ H s) (u : Un (frs X.stack) ch H H' s.heap h') (hok : HOk X.prog X.w H' h') (hg : AllBare g')
    (hch : ∀ b ∈ ch, (b ∈ X.ex ∨ X.s₀.heap.objs.size ≤ b) ∧ b ≠ X.env.locals ∧ (∀ x c, X.env.cells.lookup x = some c → c ≠ b) ∧ ∀ p ∈ X.pn ++ pins, p.1 ≠ b) :
    Inv X pins σ H' { s with heap := h', gens := g', drawn := d', toks := t' } := by
  obtain ⟨m, ⟨o, es, ep, ho, r⟩, _⟩ := id I.loc
  obtain ⟨sl, hL⟩ := u.any ho I.free fun z => (hch _ z).2.1 rfl
  exact I.step (ch := ch) hch (fun b o hL hb hc e n => u.keep b o e n (fun z => (List.mem_cons.mp (I.stkSub b z)).elim hL hb) hc) (fun b o _ _ hc e n => u.any e n hc) (fun b o hc e n => u.free b o e n hc) (fun b o hc e => u.there b o e hc) u.tups u.frzs u.tbls (fun m' hm => by
    obtain ⟨o', es', ep', ho', r'⟩ := hm
    rw [ho] at ho'; cases ho'
    exact ⟨_, es', ep', hL, r'⟩) hok hg
theorem Inv.turned {t' : Nat} {it : Addr} (I : Inv X pins σ H s) (k : ∀ b o, b ≠ it → s.heap.get? b = some o → h'.get? b = some o) (hn : H it = none) (hL : it ≠ X.env.locals)
    (h1 : it ∈ X.ex ∨ X.s₀.heap.objs.size ≤ it) (h2 : ∀ x c, X.env.cells.lookup x = some c → c ≠ it) (h3 : ∀ p ∈ X.pn ++ pins, p.1 ≠ it) : Inv X pins σ H { s with heap := h', toks := t' } := by
  have nit : ∀ b u, H b = some u → b ≠ it := fun b u e z => by rw [z, hn] at e; cases e
  refine I.step (g' := s.gens) (d' := s.drawn) (ch := [it]) (fun b hb => ?_) (fun b o _ _ hc e _ => k b o (fun z => hc (by simp [z])) e) (fun b o _ _ hc e _ => ⟨o.slots, k b o (fun z => hc (by simp [z])) e⟩) (fun _ _ _ _ n => n)
    (fun b o hc e => ⟨o, k b o (fun z => hc (by simp [z])) e⟩) (fun _ _ e => e) (fun _ _ _ e => e) (fun b ps e => ⟨#[], by rw [e]; simp⟩) (fun m hm => ?_) (fun b u e => ?_) I.bare
  · have e : b = it := by simpa using hb
    subst e
    exact ⟨h1, hL, h2, h3⟩
  · obtain ⟨o, es, ep, ho, r⟩ := hm
    exact ⟨o, es, ep, k _ o (Ne.symm hL) ho, r⟩
  · refine (I.hok b u e).stay (fun c v hc q => k c v ?_ q) (fun _ q => q) fun _ _ q => q
    rcases hc with z | z
    · rw [z]; exact nit b u e
    · exact nit c _ z
theorem Inv.tok (I : Inv X pins σ H s) (t : Nat) : Inv X pins σ H { s with toks := t } := I.un (h' := s.heap) (t' := t) Un.refl I.hok
theorem Inv.kept {t' : Nat} (I : Inv X pins σ H s) (k : ∀ b u, s.heap.get? b = some u → h'.get? b = some u) : Inv X pins σ H { s with heap := h', toks := t' } := I.un (Un.kept k) (I.hok.kept k)
theorem Inv.laid {a : Addr} {o : HO} {t' : Nat} (I : Inv X pins σ H s) (k : ∀ b u, s.heap.get? b = some u → h'.get? b = some u) (hp : s.heap.objs.size ≤ a) (new : ObjOk X.prog X.w (upd H a o) h' a o) :
    Inv X pins σ (upd H a o) { s with heap := h', toks := t' } := I.un (Un.laid k hp (I.hok.fresh hp)) (I.hok.laid k hp new)
theorem Inv.write {x e : Addr} {o : HO} {t' : Nat} (I : Inv X pins σ H s) (mu : Mut (H x)) (he : e = x ∨ H e = some (.own x)) (k : ∀ b u, b ≠ e → s.heap.get? b = some u → h'.get? b = some u) (heo : ∃ u, h'.get? e = some u)
    (new : ObjOk X.prog X.w (upd H x o) h' x o) : Inv X pins σ (upd H x o) { s with heap := h', toks := t' } := I.un (Un.write mu he k heo) (I.hok.write mu he k heo new)
theorem Inv.pins_of {pins' : List (Addr × Obj)} (I : Inv X pins σ H s) (h : ∀ p ∈ pins', s.heap.get? p.1 = some p.2 ∧ H p.1 = none ∧ p.1 ≠ X.env.locals ∧ p.1 ∉ X.fs ∧ ∀ v, p.2.data ≠ .cell v) : Inv X pins' σ H s :=
  ⟨I.ok, I.os, I.bare, I.base, I.loc, I.cell, I.free, I.freeC, fun p hp => (List.mem_append.mp hp).elim (fun z => I.pin p (List.mem_append_left _ z)) (h p), I.hok, I.len⟩
theorem nodup_ix {N : List Str} (hN : N.Nodup) {i j : Nat} {x : Str} (a : N[i]? = some x) (b : N[j]? = some x) : i = j := by
  obtain ⟨h1, e1⟩ := List.getElem?_eq_some_iff.mp a
  obtain ⟨h2, e2⟩ := List.getElem?_eq_some_iff.mp b
  exact (List.getElem_inj hN).mp (e1.trans e2.symm)
theorem store_ok2 {M : Model} {A : Around} {E : Value → Shared → Prop} {i : Nat} {x : Str} {v : V} {u : Value} {Q : Unit → Shared → Prop} (I : Inv X pins σ H s) (hN : X.N.Nodup) (hi : X.N[i]? = some x) (hx : Loc X.env.scope x) (r : RelV v u)
    (h : ∀ s', Inv X pins (σ.set i (some v)) H s' → (∃ a, Heap.SameBut a s.heap s'.heap ∧ (a = X.env.locals ∨ X.env.cells.lookup x = some a)) → Q () s') (hf : X.fn x = true ∨ X.env.scope.names.lookup x = some .local := by first | exact .inl rfl | exact .inr rfl | assumption) : wpAny M A (storeName X.env x u) Q E s := by
  obtain ⟨m, hn, hl⟩ := id I.loc
  have hcls : (X.env.scope.kind == .class || (X.env.scope.kind == .module && X.env.locals != X.env.globals)) = false := by rw [I.ok.kind]; rfl
  have hiσ : i < σ.length := by rw [I.len]; exact (List.getElem?_eq_some_iff.mp hi).1
  have cne := I.cne
  have tracked : ∀ {a : Addr} {h' : Heap}, (∃ o, s.heap.get? a = some o ∧ H a = none) → Heap.SameBut a s.heap h' → HOk X.prog X.w H h' := fun {a h'} ha hs b ob e => by
    obtain ⟨_, _, hfree⟩ := ha
    refine (I.hok b ob e).stay (fun c w' hc q => (hs.2 c ?_).trans q) (fun _ q => q) fun _ _ q => q
    rintro rfl
    rcases hc with rfl | hc
    · rw [hfree] at e; cases e
    · rw [hfree] at hc; cases hc
  rcases hx with hk | hk
  · refine wpAny_storeName_local hk hn (fun h' hn' hs => ?_) hcls
    obtain ⟨oL, _, _, hoL, _⟩ := id hn
    refine h _ ⟨I.ok, I.os, I.bare, ⟨fun b o e n hb hx => ?_, fun b o e n hb hx => ?_, I.base.free, fun b o e hx => ?_, I.base.tups, I.base.frzs, I.base.tbls⟩, ⟨_, hn', fun j y v' e1 e2 e3 => ?_⟩, fun y c e => ?_, I.free, I.freeC, fun p hp => ?_, tracked ⟨oL, hoL, I.free⟩ hs, by simpa using I.len⟩ ⟨_, hs, .inl rfl⟩
    · exact (hs.2 b (Nat.ne_of_lt (Nat.lt_of_lt_of_le (Heap.lt_size e) I.ok.above))).trans (I.base.keep b o e n hb hx)
    · obtain ⟨sl, e1⟩ := I.base.slot b o e n hb hx
      exact ⟨sl, (hs.2 b (Nat.ne_of_lt (Nat.lt_of_lt_of_le (Heap.lt_size e) I.ok.above))).trans e1⟩
    · obtain ⟨o', e1⟩ := I.base.there b o e hx
      exact ⟨o', (hs.2 b (Nat.ne_of_lt (Nat.lt_of_lt_of_le (Heap.lt_size e) I.ok.above))).trans e1⟩
    · by_cases hj : j = i
      · subst hj
        rw [hi] at e1; cases e1
        rw [List.getElem?_set_self hiσ] at e2
        cases e2
        exact ⟨u, r, .inl ⟨hk, by simp⟩⟩
      · rw [List.getElem?_set_ne (Ne.symm hj)] at e2
        obtain ⟨u', r', q⟩ := hl j y v' e1 e2 e3
        refine ⟨u', r', ?_⟩
        rcases q with ⟨k, e⟩ | ⟨k, c, e, z⟩
        · refine .inl ⟨k, ?_⟩
          have : y ≠ x := fun e => hj (nodup_ix hN e1 (e ▸ hi))
          simp [this, e]
        · exact .inr ⟨k, c, e, z.sameBut hs (cne y c e)⟩
    · obtain ⟨w', z⟩ := I.cell y c e
      exact ⟨w', z.sameBut hs (cne y c e)⟩
    · obtain ⟨e, n, ne, nf, d⟩ := I.pin p hp
      exact ⟨(hs.2 p.1 ne).trans e, n, ne, nf, d⟩
  · have hfn : X.fn x = true := by
      rcases hf with z | z
      · exact z
      · rw [z] at hk; cases hk
    obtain ⟨c, hc⟩ := I.ok.has x (.inl hk)
    obtain ⟨w', z⟩ := I.cell x c hc
    refine wpAny_storeName_cell I.ok.kind hk hc z (fun h' hc' hs => ?_)
    obtain ⟨oc, hoc, hocd⟩ := id z
    refine h { s with heap := h' } ⟨I.ok, I.os, I.bare, ⟨fun b o e n hb hx => ?_, fun b o e n hb hx => ?_, I.base.free, fun b o e hx => ?_, I.base.tups, I.base.frzs, I.base.tbls⟩, ⟨m, hn.sameBut hs (Ne.symm (cne x c hc)), fun j y v' e1 e2 e3 => ?_⟩, fun y c' e => ?_, I.free, I.freeC, fun p hp => ?_, tracked ⟨oc, hoc, I.freeC x c hc⟩ hs, by simpa using I.len⟩ ⟨c, hs, .inr hc⟩
    · exact (hs.2 b (Nat.ne_of_lt (Nat.lt_of_lt_of_le (Heap.lt_size e) (I.ok.cab x c hfn hc)))).trans (I.base.keep b o e n hb hx)
    · obtain ⟨sl, e1⟩ := I.base.slot b o e n hb hx
      exact ⟨sl, (hs.2 b (Nat.ne_of_lt (Nat.lt_of_lt_of_le (Heap.lt_size e) (I.ok.cab x c hfn hc)))).trans e1⟩
    · obtain ⟨o', e1⟩ := I.base.there b o e hx
      exact ⟨o', (hs.2 b (Nat.ne_of_lt (Nat.lt_of_lt_of_le (Heap.lt_size e) (I.ok.cab x c hfn hc)))).trans e1⟩
    · by_cases hj : j = i
      · subst hj
        rw [hi] at e1; cases e1
        rw [List.getElem?_set_self hiσ] at e2
        cases e2
        exact ⟨u, r, .inr ⟨.inl hk, c, hc, hc'⟩⟩
      · rw [List.getElem?_set_ne (Ne.symm hj)] at e2
        obtain ⟨u', r', q⟩ := hl j y v' e1 e2 e3
        refine ⟨u', r', ?_⟩
        rcases q with q | ⟨k, c', e, z'⟩
        · exact .inl q
        · refine .inr ⟨k, c', e, z'.sameBut hs ?_⟩
          rintro rfl
          exact hj (nodup_ix hN e1 (I.ok.inj _ _ _ e hc ▸ hi))
    · by_cases hcc : c' = c
      · subst hcc; exact ⟨_, hc'⟩
      · obtain ⟨w2, z2⟩ := I.cell y c' e
        exact ⟨w2, z2.sameBut hs hcc⟩
    · obtain ⟨e, n, ne, nf, d⟩ := I.pin p hp
      refine ⟨(hs.2 p.1 ?_).trans e, n, ne, nf, d⟩
      intro q
      rw [q, hoc] at e
      have q' : oc = p.2 := Option.some.inj e
      exact d w' (by rw [← q']; exact hocd)
theorem store_ok {M : Model} {A : Around} {E : Value → Shared → Prop} {i : Nat} {x : Str} {v : V} {u : Value} {Q : Unit → Shared → Prop} (I : Inv X pins σ H s) (hN : X.N.Nodup) (hi : X.N[i]? = some x) (hx : Loc X.env.scope x) (r : RelV v u)
    (h : ∀ s', Inv X pins (σ.set i (some v)) H s' → Q () s') (hf : X.fn x = true ∨ X.env.scope.names.lookup x = some .local := by first | exact .inl rfl | exact .inr rfl | assumption) : wpAny M A (storeName X.env x u) Q E s :=
  store_ok2 I hN hi hx r (fun s' I' _ => h s' I') hf
theorem Inv.call' {s' : Shared} {ch : List Addr} (I : Inv X pins σ H s) (ho : s'.os = s.os) (u : Un (frs X.stack) ch H H' s.heap s'.heap) (hok : HOk X.prog X.w H' s'.heap) (hg : AllBare s'.gens)
    (hch : ∀ b ∈ ch, (b ∈ X.ex ∨ X.s₀.heap.objs.size ≤ b) ∧ b ≠ X.env.locals ∧ (∀ x c, X.env.cells.lookup x = some c → c ≠ b) ∧ ∀ p ∈ X.pn ++ pins, p.1 ≠ b) : Inv X pins σ H' s' := by
  obtain ⟨h', g', d', t', o'⟩ := s'
  have e : o' = s.os := ho
  subst e
  exact I.call (g' := g') (t' := t') (d' := d') u hok hg hch
end
abbrev XK := Value → Option Addr → Hp → Prop
abbrev St := List (Option V)
abbrev VK := V → Hp → Prop
abbrev TE := St → Hp → VK → Prop
abbrev TT := St → Hp → (Bool → Hp → Prop) → Prop
abbrev TA := St → Hp → (List V → Hp → Prop) → Prop
structure Ends where
  nx : St → Hp → Prop
  rt : VK
  bk : St → Hp → Prop := fun _ _ => False
  ct : St → Hp → Prop := fun _ _ => False
abbrev TS := Ends → St → Hp → Prop
def EP (X : Cx) (pins : List (Addr × Obj)) (σ : St) (Q : VK) (u : Value) (s' : Shared) : Prop := ∃ v H', Inv X pins σ H' s' ∧ RelV v u ∧ Q v H'
def TP (X : Cx) (pins : List (Addr × Obj)) (σ : St) (Q : Bool → Hp → Prop) (b : Bool) (s' : Shared) : Prop := ∃ H', Inv X pins σ H' s' ∧ Q b H'
def AP (X : Cx) (pins : List (Addr × Obj)) (σ : St) (Q : List V → Hp → Prop) (us : List Value) (s' : Shared) : Prop := ∃ vs H', Inv X pins σ H' s' ∧ Vals vs us ∧ Q vs H'
def SP (X : Cx) (pins : List (Addr × Obj)) (D : Ends) (f : Flow) (s' : Shared) : Prop :=
  match f with
  | .next => ∃ σ' H', Inv X pins σ' H' s' ∧ D.nx σ' H'
  | .brk => ∃ σ' H', Inv X pins σ' H' s' ∧ D.bk σ' H'
  | .cont => ∃ σ' H', Inv X pins σ' H' s' ∧ D.ct σ' H'
  | .ret u => ∃ v σ' H', Inv X pins σ' H' s' ∧ RelV v u ∧ D.rt v H'
def PE (X : Cx) (e : Expr) (t : TE) : Prop :=
  ∀ (pins : List (Addr × Obj)) (s : Shared) (σ : St) (H : Hp) (Q : VK), Inv X pins σ H s → t σ H Q → wpAny (model X.prog X.w) X.A (eval e X.env) (EP X pins σ Q) X.xe s
def PT (X : Cx) (e : Expr) (t : TT) : Prop :=
  ∀ (pins : List (Addr × Obj)) (s : Shared) (σ : St) (H : Hp) (Q : Bool → Hp → Prop), Inv X pins σ H s → t σ H Q → wpAny (model X.prog X.w) X.A (isTrue e X.env (eval e X.env)) (TP X pins σ Q) X.xe s
def PW (X : Cx) (e : Expr) (t : TT) : Prop :=
  ∀ (whole : Sem Value) (pins : List (Addr × Obj)) (s : Shared) (σ : St) (H : Hp) (Q : Bool → Hp → Prop), Inv X pins σ H s → t σ H Q → wpAny (model X.prog X.w) X.A (isTrue e X.env whole) (TP X pins σ Q) X.xe s
theorem PW.pt {X : Cx} {e : Expr} {t : TT} (h : PW X e t) : PT X e t := h _
def PA (X : Cx) (es : List Expr) (t : TA) : Prop :=
  ∀ (pos : Pos) (pins : List (Addr × Obj)) (s : Shared) (σ : St) (H : Hp) (Q : List V → Hp → Prop), Inv X pins σ H s → t σ H Q → wpAny (model X.prog X.w) X.A (spliced (backTo pos (starEach es X.env))) (AP X pins σ Q) X.xe s
def PS (X : Cx) (st : Stmt) (t : TS) : Prop :=
  ∀ (pins : List (Addr × Obj)) (s : Shared) (σ : St) (H : Hp) (D : Ends), Inv X pins σ H s → t D σ H → wpAny (model X.prog X.w) X.A (exec st X.env) (SP X pins D) X.xe s
def PSs (X : Cx) (st : List Stmt) (t : TS) : Prop :=
  ∀ (pins : List (Addr × Obj)) (s : Shared) (σ : St) (H : Hp) (D : Ends), Inv X pins σ H s → t D σ H → wpAny (model X.prog X.w) X.A (execs st X.env) (SP X pins D) X.xe s
theorem thn {α : Type} {t : Sem α} {Q Q' : α → Shared → Prop} {M : Model} {A : Around} {E : Value → Shared → Prop} {s : Shared} (h : wpAny M A t Q E s) (hQ : ∀ a s, Q a s → Q' a s) : wpAny M A t Q' E s := wpAny_mono h hQ fun _ _ x => x
end L2
namespace L2
open PySem PySem.Spec PyProof.Rows
section
variable {X : Cx}
theorem bin {a b : Expr} {ta tb : TE} (ha : PE X a ta) (hb : PE X b tb) {pins : List (Addr × Obj)} {s : Shared} {σ : St} {H : Hp} {R : V → V → Hp → Prop} (I : Inv X pins σ H s) (h : ta σ H fun x H1 => tb σ H1 fun y H2 => R x y H2)
    {α : Type} {Q : α → Shared → Prop} {f : Value → Value → Sem α}
    (hf : ∀ v u s2 x y H2, Inv X pins σ H2 s2 → RelV x v → RelV y u → R x y H2 → wpAny (model X.prog X.w) X.A (f v u) Q X.xe s2) :
    wpAny (model X.prog X.w) X.A (eval a X.env) (fun v s₁ => wpAny (model X.prog X.w) X.A (eval b X.env) (fun u s₂ => wpAny (model X.prog X.w) X.A (f v u) Q X.xe s₂) X.xe s₁) X.xe s := by
  refine thn (ha pins s σ H _ I h) fun v s1 ⟨x, H1, I1, r1, q1⟩ => ?_
  refine thn (hb pins s1 σ H1 _ I1 q1) fun u s2 ⟨y, H2, I2, r2, q2⟩ => ?_
  exact hf v u s2 x y H2 I2 r1 r2 q2
def tVar (i : Nat) : TE := fun σ H Q => ∃ v, σ[i]? = some (some v) ∧ Q v H
def tC (v : V) : TE := fun _ H Q => Q v H
theorem pe_var {i : Nat} {x : Str} {pos : Pos} (hN : X.N[i]? = some x) (hv : Vis X.env.scope x) (hd : (x == ("__debug__" : Str)) = false := by decide) (hcd : (x == ("__classdict__" : Str)) = false := by decide) : PE X (.Name x pos) (tVar i) := by
  intro pins s σ H Q I h
  obtain ⟨v, e, h⟩ := h
  obtain ⟨m, hn, hl⟩ := I.loc
  obtain ⟨u, r, l⟩ := hl i x v hN e hv
  have fin : EP X pins σ Q u s := ⟨v, H, I, r, h⟩
  rcases l with ⟨hk, hm⟩ | ⟨hk, c, hc, hcell⟩
  · exact wpAny_Name (wpAny_loadName_local I.ok.kind hk hn hm fin) hd
  · rcases hk with hk | hk
    · exact wpAny_Name (wpAny_loadName_cell I.ok.kind hk hc hcell fin) hd
    · exact wpAny_Name (wpAny_loadName_free I.ok.kind hk hc hcell fin hcd) hd
theorem pe_int {i j pos} : PE X (.Constant (.int i) j pos) (tC (.int i)) := fun _ _ _ H _ I h => wpAny_Constant_int ⟨.int i, H, I.tok _, ⟨_, rfl⟩, h⟩
theorem pe_bl {b j pos} : PE X (.Constant (.bool b) j pos) (tC (.bl b)) := fun _ _ _ H _ I h => Constant_bool ⟨.bl b, H, I, rfl, h⟩
theorem pe_non {j pos} : PE X (.Constant .none j pos) (tC .non) := fun _ _ _ H _ I h => Constant_none ⟨.non, H, I, rfl, h⟩
theorem pe_str {x j pos} : PE X (.Constant (.str x) j pos) (tC (.str x)) := fun _ _ _ H _ I h => Calls.Constant_str ⟨.str x, H, I.tok _, ⟨_, rfl⟩, h⟩
def Gl (X : Cx) (x : Str) : Prop := X.env.kindOf x = some .globalImplicit
theorem ld_glob {E : Value → Shared → Prop} {pins : List (Addr × Obj)} {s : Shared} {σ : St} {H : Hp} {x : Str} {u : Value} {pos : Pos} {Q : Value → Shared → Prop} (I : Inv X pins σ H s) (hg : Gl X x) (hm : X.mg x = some u) (h : Q u s)
    (hd : (x == ("__debug__" : Str)) = false := by decide) : wpAny (model X.prog X.w) X.A (eval (.Name x pos) X.env) Q E s :=
  Calls.Name_function_global I.ok.kind hg (Calls.loadGlobal_global (by rw [I.ok.glob]; exact I.mod.glob.keeps I.bk) hm h) hd
theorem ld_blt {E : Value → Shared → Prop} {pins : List (Addr × Obj)} {s : Shared} {σ : St} {H : Hp} {x : Str} {u : Value} {pos : Pos} {Q : Value → Shared → Prop} (I : Inv X pins σ H s) (hg : Gl X x) (hm : X.mg x = none) (hv : bootBuiltins x = some u) (h : Q u s)
    (hn : x ≠ "__name__" := by decide) (hd : (x == ("__debug__" : Str)) = false := by decide) : wpAny (model X.prog X.w) X.A (eval (.Name x pos) X.env) Q E s := by
  obtain ⟨mb, h1, h2⟩ := I.mod.blt
  exact Calls.Name_function_global I.ok.kind hg (Calls.loadGlobal_builtin (by rw [I.ok.glob]; exact I.mod.glob.keeps I.bk) hm (by rw [I.ok.blt]; exact h1.keeps I.bk) ((h2 x hn).trans hv) h) hd
theorem pe_glob {x : Str} {v : V} {u : Value} {pos : Pos} (hg : Gl X x) (hm : X.mg x = some u) (r : RelV v u) (hd : (x == ("__debug__" : Str)) = false := by decide) : PE X (.Name x pos) (tC v) :=
  fun _ _ _ H _ I h => ld_glob I hg hm ⟨v, H, I, r, h⟩ hd
def t2I (ta tb : TE) (k : Int → Int → Hp → Prop) : St → Hp → Prop := fun σ H => ta σ H fun x H1 => tb σ H1 fun y H2 => ∃ i j, x = .int i ∧ y = .int j ∧ k i j H2
def tAdd (ta tb : TE) : TE := fun σ H Q => t2I ta tb (fun i j H2 => Q (.int (i + j)) H2) σ H
def tSub (ta tb : TE) : TE := fun σ H Q => t2I ta tb (fun i j H2 => Q (.int (i - j)) H2) σ H
def tMul (ta tb : TE) : TE := fun σ H Q => t2I ta tb (fun i j H2 => (-(2 ^ 64) < i ∧ i < 2 ^ 64) ∧ Q (.int (i * j)) H2) σ H
variable {a b : Expr} {ta tb : TE} {pos : Pos}
def PC (X : Cx) (op : CmpOp) (a b : Expr) (t : TE) : Prop :=
  ∀ (pins : List (Addr × Obj)) (s : Shared) (σ : St) (H : Hp) (Q : VK), Inv X pins σ H s → t σ H Q →
    wpAny (model X.prog X.w) X.A (eval a X.env) (fun v s₁ => wpAny (model X.prog X.w) X.A (eval b X.env) (fun u s₂ => wpAny (model X.prog X.w) X.A (compareOp op v u) (EP X pins σ Q) X.xe s₂) X.xe s₁) X.xe s
theorem nobehind (b : Expr) {op : CmpOp} (h : op ≠ .In) (h2 : op ≠ .NotIn) : behindInMarks op b = false := by
  have e1 : (op == CmpOp.In) = false := by cases op <;> first | rfl | exact absurd rfl h
  have e2 : (op == CmpOp.NotIn) = false := by cases op <;> first | rfl | exact absurd rfl h2
  cases b <;> simp [behindInMarks, e1, e2]
def tCmp (p : Int → Int → Bool) (ta tb : TE) : TE := fun σ H Q => t2I ta tb (fun i j H2 => Q (.bl (p i j)) H2) σ H
abbrev tLt : TE → TE → TE := tCmp fun i j => decide (i < j)
abbrev tLe : TE → TE → TE := tCmp fun i j => decide (i ≤ j)
abbrev tGt : TE → TE → TE := tCmp fun i j => decide (j < i)
abbrev tGe : TE → TE → TE := tCmp fun i j => decide (j ≤ i)
abbrev tEqI : TE → TE → TE := tCmp fun i j => decide (i = j)
abbrev tNeI : TE → TE → TE := tCmp fun i j => !decide (i = j)
def tIsN (ta : TE) : TE := fun σ H Q => ta σ H fun x H1 => Q (.bl (decide (x = .non))) H1
def tNotN (ta : TE) : TE := fun σ H Q => ta σ H fun x H1 => Q (.bl (!decide (x = .non))) H1
theorem RelV.none_iff {x : V} {v : Value} (r : RelV x v) : (v == Value.none) = decide (x = .non) := by
  cases x with
  | non => cases r; rfl
  | bl _ => cases r; rfl
  | int _ => obtain ⟨t, rfl⟩ := r; rfl
  | str _ => obtain ⟨t, rfl⟩ := r; rfl
  | byt _ => obtain ⟨t, rfl⟩ := r; rfl
  | flt _ => obtain ⟨t, rfl⟩ := r; rfl
  | ref _ => cases r; rfl
  | ty _ => cases r; rfl
theorem pc_isN {j pos'} (ha : PE X a ta) : PC X .Is a (.Constant .none j pos') (tIsN ta) := by
  intro pins s σ H Q I h
  refine thn (ha pins s σ H _ I h) fun v s1 ⟨x, H1, I1, r1, q1⟩ => ?_
  exact Constant_none (is_none_gen ⟨.bl _, H1, I1, by rw [r1.none_iff]; rfl, q1⟩)
theorem pc_notN {j pos'} (ha : PE X a ta) : PC X .IsNot a (.Constant .none j pos') (tNotN ta) := by
  intro pins s σ H Q I h
  refine thn (ha pins s σ H _ I h) fun v s1 ⟨x, H1, I1, r1, q1⟩ => ?_
  exact Constant_none (isnot_none_gen ⟨.bl _, H1, I1, by rw [r1.none_iff]; rfl, q1⟩)
def tB (t : TE) : TT := fun σ H Q => t σ H fun x H1 => ∃ c, x = .bl c ∧ Q c H1
theorem pe_cmp {op : CmpOp} {t : TE} (h : PC X op a b t) (h1 : behindInMarks op b = false := by first | exact nobehind _ (by decide) (by decide) | rfl) : PE X (.Compare a [op] [b] pos) t := fun pins s σ H Q I hw => wpAny_Compare1 (h pins s σ H Q I hw) h1
theorem pt_cmp {op : CmpOp} {t : TE} (h : PC X op a b t) (h1 : behindInMarks op b = false := by first | exact nobehind _ (by decide) (by decide) | rfl) : PT X (.Compare a [op] [b] pos) (tB t) := by
  intro pins s σ H Q I hw
  refine wpAny_isTrue_Compare1 (thn (h pins s σ H _ I hw) fun v s1 h1 => thn h1 fun u s2 h2 => thn h2 fun c s3 ⟨x, H1, I1, r1, q1⟩ => ?_) h1
  obtain ⟨d, rfl, q⟩ := q1
  cases r1
  exact wpAny_truthy_bool ⟨H1, I1, q⟩
theorem pt_val {e : Expr} {t : TE} (h : PE X e t) (he : ∀ whole, isTrue e X.env whole = (do let v ← whole; standAt e.pos; holding [v] (truthy v)) := by intro _; rfl) : PT X e (tB t) := by
  intro pins s σ H Q I hw
  refine isTrue_plain (thn (h pins s σ H _ I hw) fun v s1 ⟨x, H1, I1, r1, q1⟩ => ?_) (he _)
  obtain ⟨d, rfl, q⟩ := q1
  cases r1
  exact wpAny_truthy_bool ⟨H1, I1, q⟩
variable {tA tB' : TT} {rest : List Expr}
def tAnd (t u : TT) : TT := fun σ H Q => t σ H fun c H1 => if c = true then u σ H1 Q else Q false H1
def tOr (t u : TT) : TT := fun σ H Q => t σ H fun c H1 => if c = true then Q true H1 else u σ H1 Q
def tNot (t : TT) : TT := fun σ H Q => t σ H fun c H1 => Q (!c) H1
theorem pw_and1 (ha : PT X a tA) : PW X (.BoolOp .And [a] pos) tA := by
  intro wh pins s σ H Q I h
  refine isTrue_and (thn (ha pins s σ H Q I h) fun c s1 e => ?_)
  cases c with
  | true => exact isTrue_and_nil e
  | false => exact e
theorem pw_or1 (ha : PT X a tA) : PW X (.BoolOp .Or [a] pos) tA := by
  intro wh pins s σ H Q I h
  refine isTrue_or (thn (ha pins s σ H Q I h) fun c s1 e => ?_)
  cases c with
  | false => exact isTrue_or_nil e
  | true => exact e
theorem pw_and (ha : PT X a tA) (hb : PW X (.BoolOp .And (b :: rest) pos) tB') : PW X (.BoolOp .And (a :: b :: rest) pos) (tAnd tA tB') := by
  intro wh pins s σ H Q I h
  refine isTrue_and (thn (ha pins s σ H _ I h) fun c s1 ⟨H1, I1, q1⟩ => ?_)
  cases c with
  | true => exact hb wh pins s1 σ H1 Q I1 q1
  | false => exact ⟨H1, I1, q1⟩
theorem pw_or (ha : PT X a tA) (hb : PW X (.BoolOp .Or (b :: rest) pos) tB') : PW X (.BoolOp .Or (a :: b :: rest) pos) (tOr tA tB') := by
  intro wh pins s σ H Q I h
  refine isTrue_or (thn (ha pins s σ H _ I h) fun c s1 ⟨H1, I1, q1⟩ => ?_)
  cases c with
  | true => exact ⟨H1, I1, q1⟩
  | false => exact hb wh pins s1 σ H1 Q I1 q1
theorem pt_not (ha : PT X a tA) : PT X (.UnaryOp .Not a pos) (tNot tA) := by
  intro pins s σ H Q I h
  exact isTrue_not (ha pins s σ H (fun c H1 => Q (!c) H1) I h)
def tAndV (ta tb : TE) : TE := fun σ H Q => ta σ H fun x H1 => ∃ c, x = .bl c ∧ if c = true then tb σ H1 Q else Q (.bl false) H1
def tOrV (ta tb : TE) : TE := fun σ H Q => ta σ H fun x H1 => ∃ c, x = .bl c ∧ if c = true then Q (.bl true) H1 else tb σ H1 Q
def tNotV (ta : TE) : TE := fun σ H Q => ta σ H fun x H1 => ∃ c, x = .bl c ∧ Q (.bl (!c)) H1
theorem pe_one {op} {t : TE} (h : PE X a t) : PE X (.BoolOp op [a] pos) t := fun pins s σ H Q I hw => BoolOp_one (h pins s σ H Q I hw)
theorem pe_and (ha : PE X a ta) (hb : PE X (.BoolOp .And (b :: rest) pos) tb) : PE X (.BoolOp .And (a :: b :: rest) pos) (tAndV ta tb) := by
  intro pins s σ H Q I h
  refine BoolOp_and (thn (ha pins s σ H _ I h) fun v s1 ⟨x, H1, I1, r1, q1⟩ => ?_)
  obtain ⟨c, rfl, q1⟩ := q1
  cases r1
  refine wpAny_truthy_bool ?_
  cases c with
  | true => exact hb pins s1 σ H1 Q I1 q1
  | false => exact ⟨.bl false, H1, I1, rfl, q1⟩
def tIf (t : TT) (ta tb : TE) : TE := fun σ H Q => t σ H fun c H1 => if c = true then ta σ H1 Q else tb σ H1 Q
end
end L2
namespace L2
open PySem PySem.Spec PyProof.Rows
def SqL (K : PySem.W.Frag) (H : Hp) (a : Addr) (xs : List V) : Prop :=
  Rd H a (.lst xs) ∨
    ∃ (o : Obj) (its : Array Value) (n : Nat), K.lookup a = some o ∧ o.cls = .type "list" ∧ o.dict = none ∧ o.data = .seq its n ∧ its.size ≤ sizeLine ∧ Vals xs its.toList
def SqT (K : PySem.W.Frag) (H : Hp) (a : Addr) (xs : List V) : Prop :=
  Rd H a (.tup xs) ∨
    ∃ (o : Obj) (its : Array Value) (n : Nat), K.lookup a = some o ∧ o.cls = .type "tuple" ∧ o.data = .seq its n ∧ its.size ≤ sizeLine ∧ Vals xs its.toList
def absV : Value → Option V
  | .none => some .non
  | .bool b => some (.bl b)
  | .int i _ => some (.int i)
  | .str x _ => some (.str x)
  | .bytes b _ => some (.byt b)
  | .float b _ => some (.flt b)
  | .ref a => some (.ref a)
  | .type n => some (.ty n)
  | _ => none
theorem RelV.abs {x : V} {u : Value} (r : RelV x u) : absV u = some x := by
  cases x with
  | non => cases r; rfl
  | bl _ => cases r; rfl
  | int _ => obtain ⟨t, rfl⟩ := r; rfl
  | str _ => obtain ⟨t, rfl⟩ := r; rfl
  | byt _ => obtain ⟨t, rfl⟩ := r; rfl
  | flt _ => obtain ⟨t, rfl⟩ := r; rfl
  | ref _ => cases r; rfl
  | ty _ => cases r; rfl
theorem RelV.inj {x y : V} {u : Value} (r : RelV x u) (q : RelV y u) : x = y := Option.some.inj (r.abs.symm.trans q.abs)
theorem Vals.inj : ∀ {xs ys : List V} {us : List Value}, Vals xs us → Vals ys us → xs = ys
  | _, _, _, .nil, .nil => rfl
  | _, _, _, .cons r t, .cons r' t' => by rw [r.inj r', Vals.inj t t']
section
variable {X : Cx} {pins : List (Addr × Obj)} {σ : St} {H : Hp} {s : Shared} {a : Addr} {xs ys : List V}
theorem SqL.of {K : PySem.W.Frag} (h : H a = some (.lst xs)) : SqL K H a xs := .inl (.inl h)
theorem SqT.of {K : PySem.W.Frag} (h : H a = some (.tup xs)) : SqT K H a xs := .inl (.inl h)
theorem Inv.list (I : Inv X pins σ H s) (h : SqL X.K H a xs) : ∃ its : List Value, Vals xs its ∧ PlainL s.heap a its.toArray ∧ xs.length ≤ sizeLine := by
  rcases h with h | ⟨o, its, n, hk, hc, hd, hs, hz, r⟩
  · obtain ⟨z, its, n, r, e⟩ := h.ok I.hok
    exact ⟨its, r, ⟨_, n, e, rfl, rfl, rfl⟩, z⟩
  · refine ⟨its.toList, r, ⟨o, n, I.kIn a o hk, hc, hd, by simpa using hs⟩, ?_⟩
    have e := r.length
    simp only [Array.length_toList] at e
    omega
theorem Inv.tuple (I : Inv X pins σ H s) (h : SqT X.K H a xs) : ∃ its : List Value, Vals xs its ∧ IsTup s.heap a its.toArray ∧ xs.length ≤ sizeLine := by
  rcases h with h | ⟨o, its, n, hk, hc, hs, hz, r⟩
  · obtain ⟨z, its, r, p⟩ := h.ok I.hok
    exact ⟨its, r, p, z⟩
  · refine ⟨its.toList, r, ⟨o, I.kIn a o hk, hc, n, by simpa using hs⟩, ?_⟩
    have e := r.length
    simp only [Array.length_toList] at e
    omega
theorem Inv.list_inj (I : Inv X pins σ H s) (h : SqL X.K H a xs) (h' : SqL X.K H a ys) : xs = ys := by
  obtain ⟨its, r, ⟨o, n, e, _, _, d⟩, _⟩ := I.list h
  obtain ⟨its', r', ⟨o', n', e', _, _, d'⟩, _⟩ := I.list h'
  rw [e] at e'; cases e'
  rw [d] at d'
  injection d' with d1 _
  have : its = its' := by simpa using congrArg Array.toList d1
  subst this
  exact r.inj r'
end
abbrev Cx.wish (X : Cx) (E : Value → Shared → Prop) : Cx := { X with xe := E }
abbrev Cx.nox (X : Cx) : Cx := X.wish fun _ _ => False
theorem Cx.Ok.wish {X : Cx} (ok : X.Ok) (E : Value → Shared → Prop) : (X.wish E).Ok :=
  ⟨ok.mod, ok.kind, ok.glob, ok.blt, ok.above, ok.inj, ok.has, ok.cab, ok.hd, ok.frames, ok.stk, ok.exf, ok.bs, ok.bsz, ok.noex, ok.exfs, ok.funs, ok.frf⟩
theorem Cx.Ok.unwish {X : Cx} {E : Value → Shared → Prop} (ok : (X.wish E).Ok) : X.Ok :=
  ⟨ok.mod, ok.kind, ok.glob, ok.blt, ok.above, ok.inj, ok.has, ok.cab, ok.hd, ok.frames, ok.stk, ok.exf, ok.bs, ok.bsz, ok.noex, ok.exfs, ok.funs, ok.frf⟩
section
variable {X : Cx} {pins : List (Addr × Obj)} {σ : St} {H : Hp} {s : Shared} {E : Value → Shared → Prop}
theorem Inv.wish (I : Inv X pins σ H s) (E : Value → Shared → Prop) : Inv (X.wish E) pins σ H s := ⟨I.ok.wish E, I.os, I.bare, I.base, I.loc, I.cell, I.free, I.freeC, I.pin, I.hok, I.len⟩
theorem Inv.unwish (I : Inv (X.wish E) pins σ H s) : Inv X pins σ H s := ⟨I.ok.unwish, I.os, I.bare, I.base, I.loc, I.cell, I.free, I.freeC, I.pin, I.hok, I.len⟩
theorem SP.unwish {D : Ends} {f : Flow} {s' : Shared} (h : SP (X.wish E) pins D f s') : SP X pins D f s' := by
  cases f with
  | next => obtain ⟨σ', H', I, q⟩ := h; exact ⟨σ', H', I.unwish, q⟩
  | brk => obtain ⟨σ', H', I, q⟩ := h; exact ⟨σ', H', I.unwish, q⟩
  | cont => obtain ⟨σ', H', I, q⟩ := h; exact ⟨σ', H', I.unwish, q⟩
  | ret u => obtain ⟨v, σ', H', I, r, q⟩ := h; exact ⟨v, σ', H', I.unwish, r, q⟩
theorem PSs.nox {st : List Stmt} {t : TS} (h : PSs X.nox st t) : PSs X st t := fun pins s σ H D I hw =>
  wpAny_mono (h pins s σ H D (I.wish _) hw) (fun _ _ q => q.unwish) fun _ _ z => False.elim z
end
section
variable {X : Cx} {st : Stmt} {rest : List Stmt} {t u : TS} {e : Expr} {te : TE} {pos : Pos}
def tNext : TS := fun D σ H => D.nx σ H
def tSeq (t u : TS) : TS := fun D σ H => t { D with nx := u D } σ H
theorem pss_nil : PSs X [] tNext := fun _ _ σ H _ I h => wpAny_execs_nil ⟨σ, H, I, h⟩
theorem pss_cons (h1 : PS X st t) (h2 : PSs X rest u) : PSs X (st :: rest) (tSeq t u) := by
  intro pins s σ H D I h
  refine wpAny_execs_cons (thn (h1 pins s σ H { D with nx := u D } I h) fun f s1 q => ?_)
  cases f with
  | next =>
    obtain ⟨σ', H', I', q⟩ := q
    exact h2 pins s1 σ' H' D I' q
  | ret v => exact q
  | brk => exact q
  | cont => exact q
theorem pss_one (h1 : PS X st t) : PSs X [st] t := by
  intro pins s σ H D I h
  refine wpAny_execs_cons (thn (h1 pins s σ H D I h) fun f s1 q => ?_)
  cases f with
  | next => exact wpAny_execs_nil q
  | ret v => exact q
  | brk => exact q
  | cont => exact q
def tBreak : TS := fun D σ H => D.bk σ H
def tCont : TS := fun D σ H => D.ct σ H
theorem Inv.quiet {pins : List (Addr × Obj)} {σ : St} {H : Hp} {s : Shared} (I : Inv X pins σ H s) : interactive X.env = false := by simp [interactive, I.ok.kind]
def tDrop (te : TE) : TS := fun D σ H => te σ H fun _ H1 => D.nx σ H1
theorem ps_expr (he : PE X e te) (hs : swapsWith e none pos.line X.env = pure false := by rfl) : PS X (.Expr e pos) (tDrop te) := by
  intro pins s σ H D I h
  exact wpAny_Expr_any (thn (he pins s σ H _ I h) fun v s1 ⟨x, H1, I1, r1, q1⟩ => ⟨σ, H1, I1, q1⟩) I.quiet hs
def tRet (te : TE) : TS := fun D σ H => te σ H D.rt
theorem ps_ret (he : PE X e te) : PS X (.Return (some e) pos) (tRet te) := by
  intro pins s σ H D I h
  exact wpAny_Return_some (thn (he pins s σ H _ I h) fun v s1 ⟨x, H1, I1, r1, q1⟩ => ⟨x, σ, H1, I1, r1, q1⟩)
def tRetN : TS := fun D _ H => D.rt .non H
def tIfS (c : TT) (t u : TS) : TS := fun D σ H => c σ H fun b H1 => if b = true then t D σ H1 else u D σ H1
theorem ps_if {c : Expr} {a b : List Stmt} {tc : TT} (hc : PT X c tc) (ha : PSs X a t) (hb : PSs X b u) : PS X (.If c a b pos) (tIfS tc t u) := by
  intro pins s σ H D I h
  refine wpAny_If (thn (hc pins s σ H _ I h) fun d s1 ⟨H1, I1, q1⟩ => ?_)
  cases d with
  | true => exact ha pins s1 σ H1 D I1 q1
  | false => exact hb pins s1 σ H1 D I1 q1
def tNever : TS := fun _ _ _ => False
theorem ps_never : PS X st tNever := fun _ _ _ _ _ _ h => h.elim
end
abbrev TG := V → St → Hp → (St → Hp → Prop) → Prop
abbrev TGs := List V → St → Hp → (St → Hp → Prop) → Prop
def PG (X : Cx) (target : Expr) (t : TG) : Prop :=
  ∀ (pins : List (Addr × Obj)) (s : Shared) (σ : St) (H : Hp) (v : V) (u : Value) (Q : St → Hp → Prop), Inv X pins σ H s → RelV v u → t v σ H Q →
    wpAny (model X.prog X.w) X.A (assign target X.env u) (fun _ s' => ∃ σ' H', Inv X pins σ' H' s' ∧ Q σ' H') X.xe s
def PGs (X : Cx) (ts : List Expr) (t : TGs) : Prop :=
  ∀ (pins : List (Addr × Obj)) (s : Shared) (σ : St) (H : Hp) (vs : List V) (us : List Value) (Q : St → Hp → Prop), Inv X pins σ H s → Vals vs us → t vs σ H Q →
    wpAny (model X.prog X.w) X.A (assignInOrder ((assignEach ts X.env).map (·.2)) us) (fun _ s' => ∃ σ' H', Inv X pins σ' H' s' ∧ Q σ' H') X.xe s
abbrev TSet := V → V → V → Hp → (Hp → Prop) → Prop
def PSet (X : Cx) (t : TSet) : Prop :=
  ∀ (pins : List (Addr × Obj)) (s : Shared) (σ : St) (H : Hp) (o i v : V) (ov iv u : Value) (Q : Hp → Prop), Inv X pins σ H s → RelV o ov → RelV i iv → RelV v u → t o i v H Q →
    wpAny (model X.prog X.w) X.A (setItem ov iv u) (fun _ s' => ∃ H', Inv X pins σ H' s' ∧ Q H') X.xe s
abbrev TIp := V → V → Hp → VK → Prop
def PIp (X : Cx) (op : Operator) (t : TIp) : Prop :=
  ∀ (pins : List (Addr × Obj)) (s : Shared) (σ : St) (H : Hp) (x y : V) (v u : Value) (Q : VK), Inv X pins σ H s → RelV x v → RelV y u → t x y H Q →
    wpAny (model X.prog X.w) X.A (inplaceOp op v u) (EP X pins σ Q) X.xe s
section
variable {X : Cx} {pos : Pos}
def gName (i : Nat) : TG := fun v σ H Q => Q (σ.set i (some v)) H
theorem pg_name {i : Nat} {x : Str} (hN : X.N.Nodup) (hi : X.N[i]? = some x) (hx : Loc X.env.scope x) (hf : X.fn x = true ∨ X.env.scope.names.lookup x = some .local := by first | exact .inl rfl | exact .inr rfl | assumption) : PG X (.Name x pos) (gName i) := by
  intro pins s σ H v u Q I r h
  exact wpAny_assign_Name (store_ok I hN hi hx r (fun s' I' => ⟨_, H, I', h⟩) hf)
def gNil : TGs := fun vs σ H Q => vs = [] ∧ Q σ H
def gCons (t : TG) (u : TGs) : TGs := fun vs σ H Q => ∃ v r, vs = v :: r ∧ t v σ H fun σ' H' => u r σ' H' Q
theorem pgs_nil : PGs X [] gNil := by
  intro pins s σ H vs us Q I r h
  obtain ⟨e, h⟩ := h
  subst e
  cases r
  exact assignInOrder_nil ⟨σ, H, I, h⟩
theorem pgs_cons {e : Expr} {es : List Expr} {t : TG} {u : TGs} (h1 : PG X e t) (h2 : PGs X es u)
    (hs : (assignEach (e :: es) X.env).map (·.2) = assign e X.env :: (assignEach es X.env).map (·.2) := by rfl) : PGs X (e :: es) (gCons t u) := by
  intro pins s σ H vs us Q I r h
  obtain ⟨v, vr, e1, h⟩ := h
  subst e1
  cases r with
  | cons r rr =>
    rw [hs]
    refine assignInOrder_cons (thn (h1 pins s σ H _ _ _ I r h) fun _ s1 ⟨σ1, H1, I1, q1⟩ => ?_)
    exact h2 pins s1 σ1 H1 _ _ Q I1 rr q1
def gTup (K : PySem.W.Frag) (n : Nat) (t : TGs) : TG := fun v σ H Q => ∃ a xs, v = .ref a ∧ SqT K H a xs ∧ xs.length = n ∧ t xs σ H Q
theorem pg_tup {es : List Expr} {k : Nat} {t : TGs} {n : Nat} (hc : X.calm = true) (h : PGs X es t)
    (hn : (assignEach es X.env).length = n := by rfl) (hst : (assignEach es X.env).findIdx? (·.1) = none := by rfl) : PG X (.Tuple es k pos) (gTup X.K n t) := by
  intro pins s σ H v u Q I r hw
  obtain ⟨a, xs, e1, hq, hl, hw⟩ := hw
  subst e1
  cases r
  obtain ⟨its, rv, ht, hz⟩ := I.tuple hq
  refine assign_Tuple_tuple (I.ok.hd hc) ht (by simp [hn, ← hl, rv.length]) hst fun h' hx => ?_
  have I1 : Inv X pins σ H { s with heap := h' } := I.kept (t' := s.toks) fun b o e => hx b o (Nat.ne_of_lt (Heap.lt_size e)) e
  exact h pins _ σ H xs _ Q I1 (by simpa using rv) hw
def gSub (to ti : TE) (t : TSet) : TG := fun v σ H Q => to σ H fun o H1 => ti σ H1 fun i H2 => t o i v H2 fun H3 => Q σ H3
def tAsg (te : TE) (g : TG) : TS := fun D σ H => te σ H fun x H1 => g x σ H1 D.nx
theorem ps_asg {tg e : Expr} {te : TE} {g : TG} (he : PE X e te) (hg : PG X tg g) (hs : swapsWithSole [tg] e pos.line X.env = pure false := by rfl) (hw : swappedStores [tg] e X.env = pure none := by rfl)
    (h1 : (assignEach [tg] X.env).map (·.2) = [assign tg X.env] := by rfl) : PS X (.Assign [tg] e pos) (tAsg te g) := by
  intro pins s σ H D I h
  refine wpAny_Assign_stores (thn (he pins s σ H _ I h) fun v s1 ⟨x, H1, I1, r1, q1⟩ => ?_) hs hw
  rw [h1]
  exact thn (hg pins s1 σ H1 x v _ I1 r1 q1) fun _ s2 q => q
theorem ps_set {i : Nat} {x : Str} {e : Expr} {te : TE} {pos' : Pos} (hN : X.N.Nodup) (hi : X.N[i]? = some x) (hx : Loc X.env.scope x) (he : PE X e te) (hs : swapsWith e (some (.Name x pos')) pos.line X.env = pure false := by rfl) (hf : X.fn x = true ∨ X.env.scope.names.lookup x = some .local := by first | exact .inl rfl | exact .inr rfl | assumption) :
    PS X (.Assign [.Name x pos'] e pos) (tAsg te (gName i)) := by
  intro pins s σ H D I h
  refine wpAny_Assign_Name (thn (he pins s σ H _ I h) fun v s1 ⟨y, H1, I1, r1, q1⟩ => ?_) hs
  exact store_ok I1 hN hi hx r1 (fun s2 I2 => ⟨_, H1, I2, q1⟩) hf
def tPar (i j : Nat) (ta : TA) : TS := fun D σ H => ta σ H fun vs H1 => ∃ v w, vs = [v, w] ∧ D.nx ((σ.set i (some v)).set j (some w)) H1
def tAug (i : Nat) (te : TE) (ti : TIp) : TS := fun D σ H => ∃ x, σ[i]? = some (some x) ∧ te σ H fun y H1 => ti x y H1 fun z H2 => D.nx (σ.set i (some z)) H2
def tAugS (to ti te : TE) (tget : V → V → Hp → VK → Prop) (tip : TIp) (tset : TSet) : TS := fun D σ H => to σ H fun o H1 => ti σ H1 fun i H2 => tget o i H2 fun x H3 => te σ H3 fun y H4 => tip x y H4 fun z H5 => tset o i z H5 fun H6 => D.nx σ H6
def PGet (X : Cx) (t : V → V → Hp → VK → Prop) : Prop :=
  ∀ (pins : List (Addr × Obj)) (s : Shared) (σ : St) (H : Hp) (o i : V) (ov iv : Value) (Q : VK), Inv X pins σ H s → RelV o ov → RelV i iv → t o i H Q →
    wpAny (model X.prog X.w) X.A (getItem ov iv) (EP X pins σ Q) X.xe s
def ipI (f : Int → Int → Int) : TIp := fun x y H Q => ∃ i j, x = .int i ∧ y = .int j ∧ Q (.int (f i j)) H
end
section
variable {X : Cx} {pos : Pos}
def tWhile (c : TT) (tb : TS) : TS := fun D σ H => ∃ W : Nat → St → Hp → Prop, (∃ m, W m σ H) ∧ ∀ m σ H, W m σ H →
  c σ H fun b H1 => if b = true then ∃ N : St → Hp → Prop, (∀ σ' H', N σ' H' → ∃ m', m' < m ∧ W m' σ' H') ∧ tb { D with nx := N, ct := N, bk := D.nx } σ H1 else D.nx σ H1
theorem ps_while {c : Expr} {body : List Stmt} {tc : TT} {tb : TS} (hp : PassesOwn (model X.prog X.w) X.A X.env X.xe) (hc : PT X c tc) (hb : PSs X body tb) : PS X (.While c body [] pos) (tWhile tc tb) := by
  intro pins s σ H D I h
  obtain ⟨W, ⟨m0, w0⟩, turn⟩ := h
  refine wpAny_While (codeAny_whileLoop (fun n s' => ∃ σ' H', Inv X pins σ' H' s' ∧ W n σ' H') ?_ m0 ⟨σ, H, I, w0⟩)
  rintro n s1 ⟨σ1, H1, I1, w1⟩
  refine wpAny_passesOwn hp (thn (hc pins s1 σ1 H1 _ I1 (turn n σ1 H1 w1)) fun b s2 ⟨H2, I2, q2⟩ => ?_)
  cases b with
  | true =>
    obtain ⟨N, hN, q2⟩ := q2
    rw [if_pos rfl]
    refine wpAny_passesOwn hp (thn (hb pins s2 σ1 H2 _ I2 q2) fun f s3 q3 => ?_)
    cases f with
    | next =>
      obtain ⟨σ3, H3, I3, n3⟩ := q3
      obtain ⟨m', hm, w3⟩ := hN σ3 H3 n3
      exact ⟨m', hm, σ3, H3, I3, w3⟩
    | cont =>
      obtain ⟨σ3, H3, I3, n3⟩ := q3
      obtain ⟨m', hm, w3⟩ := hN σ3 H3 n3
      exact ⟨m', hm, σ3, H3, I3, w3⟩
    | brk => exact q3
    | ret v => exact q3
  | false =>
    rw [if_neg Bool.false_ne_true]
    exact wpAny_execs_nil ⟨σ1, H2, I2, q2⟩
end
structure It where
  go : Nat → Hp → Prop
  yld : Nat → Hp → V → Hp → Prop
  stop : Nat → Hp → Prop
def FpOk (X : Cx) (pins : List (Addr × Obj)) (H : Hp) (b : Addr) : Prop :=
  H b = none ∧ b ≠ X.env.locals ∧ b ∉ X.fs ∧ (b ∈ X.ex ∨ X.s₀.heap.objs.size ≤ b) ∧ (∀ x c, X.env.cells.lookup x = some c → c ≠ b) ∧ ∀ p ∈ X.pn ++ pins, p.1 ≠ b
theorem Inv.fpOk {X : Cx} {pins : List (Addr × Obj)} {σ : St} {H H' : Hp} {s : Shared} {b : Addr} (I : Inv X pins σ H s) (hb : s.heap.objs.size ≤ b) (hn : H' b = none) : FpOk X pins H' b := by
  refine ⟨hn, Nat.ne_of_gt (Nat.lt_of_lt_of_le I.lt hb), I.nofs hb, .inr (Nat.le_trans I.sz hb), fun x c e z => ?_, fun p hp z => ?_⟩
  · obtain ⟨v, q⟩ := I.cell x c e
    exact absurd (Nat.lt_of_lt_of_le q.lt (by rw [z]; exact hb)) (Nat.lt_irrefl _)
  · exact absurd (Nat.lt_of_lt_of_le (Heap.lt_size (I.pin p hp).1) (by rw [z]; exact hb)) (Nat.lt_irrefl _)
structure Turn (P : Program) (w : World) (K : PySem.W.Frag) (tg : Expr) (J : It) (fp : List Addr) (it : Addr) (tn : Nat → Heap → Prop) : Prop where
  mem : it ∈ fp
  obj : ∀ i h, tn i h → ∀ b ∈ fp, ∃ o, h.get? b = some o ∧ ∀ v, o.data ≠ .cell v
  keep : ∀ i h h', tn i h → (∀ b ∈ fp, ∀ o, h.get? b = some o → h'.get? b = some o) → tn i h'
  item : ∀ (X : Cx), X.prog = P → X.w = w → X.K = K → X.calm = true → ∀ (i : Nat) (pins : List (Addr × Obj)) (s : Shared) (σ : St) (H : Hp) (E : Value → Shared → Prop), Inv X pins σ H s → (∀ b ∈ fp, FpOk X pins H b) → tn i s.heap → J.go i H →
    wpAny (model P w) X.A (pyNext (.ref it)) (fun r s1 => ∃ u, r = some u ∧
      wpAny (model P w) X.A (letOwnedTupleGo tg (.ref it) u) (fun _ s2 => ∃ x H', Inv X pins σ H' s2 ∧ RelV x u ∧ J.yld i H x H' ∧ tn (i + 1) s2.heap ∧ ∀ b ∈ fp, H' b = none) E s1) E s
  done : ∀ (X : Cx), X.prog = P → X.w = w → X.K = K → X.calm = true → ∀ (i : Nat) (pins : List (Addr × Obj)) (s : Shared) (σ : St) (H : Hp) (E : Value → Shared → Prop), Inv X pins σ H s → (∀ b ∈ fp, FpOk X pins H b) → tn i s.heap → J.stop i H →
    wpAny (model P w) X.A (pyNext (.ref it)) (fun r s1 => r = none ∧ Inv X pins σ H s1) E s
  self : ∀ (A : Around) (i : Nat) (s : Shared) (Q : Value → Shared → Prop) (E : Value → Shared → Prop), tn i s.heap → Q (.ref it) s → wpAny (model P w) A (pyIter (.ref it)) Q E s
abbrev TI := St → Hp → (It → Hp → Prop) → Prop
def PIE (X : Cx) (pins : List (Addr × Obj)) (σ : St) (tg : Expr) (R : It → Hp → Prop) (itv : Value) (s2 : Shared) : Prop :=
  ∃ (it : Addr) (fp : List Addr) (tn : Nat → Heap → Prop) (J : It) (H' : Hp), itv = .ref it ∧ Inv X pins σ H' s2 ∧ Turn X.prog X.w X.K tg J fp it tn ∧ tn 0 s2.heap ∧ (∀ b ∈ fp, FpOk X pins H' b) ∧ R J H'
def PI (X : Cx) (tg iter : Expr) (wi : TI) : Prop :=
  ∀ (pins : List (Addr × Obj)) (s : Shared) (σ : St) (H : Hp) (R : It → Hp → Prop), Inv X pins σ H s → wi σ H R →
    wpAny (model X.prog X.w) X.A (eval iter X.env) (fun v s1 => wpAny (model X.prog X.w) X.A (pyIter v) (PIE X pins σ tg R) X.xe s1) X.xe s
theorem go_of {M : Model} {A : Around} {E : Value → Shared → Prop} {s : Shared} {tg : Expr} {it : Addr} {u : Value} {o : Obj} {n : String} {vs : Array Value} {Q : Unit → Shared → Prop} (ho : s.heap.get? it = some o) (hc : o.cls = .type n) (hd : o.data = .fields vs)
    (hn : ["enumerate", "zip", "dict_itemiterator", "dict_reverseitemiterator", "odict_iterator", "itertools.zip_longest", "itertools.pairwise"].contains n = false) (hQ : Q () s) : wpAny M A (letOwnedTupleGo tg (.ref it) u) Q E s := by
  unfold letOwnedTupleGo
  cases tg <;> first
    | exact wpAny_pure hQ
    | (cases u <;> first
        | exact wpAny_pure hQ
        | (refine wpAny_bind (wpAny_load ho ?_)
           rw [hc, hd]
           show wpAny M A (if (["enumerate", "zip", "dict_itemiterator", "dict_reverseitemiterator", "odict_iterator", "itertools.zip_longest", "itertools.pairwise"].contains n && vs[0]? == some (rawInt _)) = true then _ else _) Q E s
           rw [if_neg (by intro h; rw [hn, Bool.false_and] at h; cases h)]
           exact wpAny_pure hQ))
def Itl (K : PySem.W.Frag) (a : Addr) : It :=
  ⟨fun i H => ∃ xs x, SqL K H a xs ∧ xs[i]? = some x, fun i H x H' => H' = H ∧ ∀ xs, SqL K H a xs → xs[i]? = some x, fun i H => ∃ xs, SqL K H a xs ∧ xs.length ≤ i⟩
def Itt (K : PySem.W.Frag) (a : Addr) : It :=
  ⟨fun i H => ∃ xs x, SqT K H a xs ∧ xs[i]? = some x, fun i H x H' => H' = H ∧ ∀ xs, SqT K H a xs → xs[i]? = some x, fun i H => ∃ xs, SqT K H a xs ∧ xs.length ≤ i⟩
def Itr (lo : Int) (n : Nat) : It := ⟨fun i _ => i < n, fun i H x H' => H' = H ∧ x = .int (lo + i), fun i _ => n ≤ i⟩
theorem turn_list {P : Program} {w : World} {K : PySem.W.Frag} {tg : Expr} (a it : Addr) : Turn P w K tg (Itl K a) [it] it (fun i h => h.IsListIter it a i) where
  mem := by simp
  obj := fun i h st b hb => by
    have e : b = it := by simpa using hb
    subst e
    obtain ⟨o, e, c, d⟩ := st
    exact ⟨o, e, fun v z => by rw [d] at z; cases z⟩
  keep := fun i h h' st k => st.at fun o e => k it (by simp) o e
  item := by
    intro X hP hw hK hc i pins s σ H E I hf st hg
    subst hP hw hK
    obtain ⟨xs, x, hq, hx⟩ := hg
    obtain ⟨its, rv, p, hz⟩ := I.list hq
    obtain ⟨u, hu, ru⟩ := rv.get hx
    obtain ⟨f0, f1, f2, f3, f4, f5⟩ := hf it (by simp)
    refine wpAny_pyNext_list_item st p.isList (x := u) (by simpa using hu) fun h' st' sb => ?_
    have I1 : Inv X pins σ H { s with heap := h' } := I.turned (t' := s.toks) (fun b o hb e => (sb.2 b hb).trans e) f0 f1 f3 f4 f5
    obtain ⟨o, e, c, d⟩ := id st'
    exact ⟨u, rfl, go_of (s := { s with heap := h' }) e c d (by decide) ⟨x, H, I1, ru, ⟨rfl, fun ys hy => by rw [I.list_inj hy hq]; exact hx⟩, st', fun b hb => (hf b hb).1⟩⟩
  done := by
    intro X hP hw hK hc i pins s σ H E I hf st hg
    subst hP hw hK
    obtain ⟨xs, hq, hx⟩ := hg
    obtain ⟨its, rv, p, hz⟩ := I.list hq
    obtain ⟨f0, f1, f2, f3, f4, f5⟩ := hf it (by simp)
    have hl := rv.length
    exact wpAny_pyNext_list_end (I.ok.hd hc) st p.isList (by simp; omega) fun h' eb => ⟨rfl, I.turned (t' := s.toks) (fun b o hb e => eb b o hb e) f0 f1 f3 f4 f5⟩
  self := fun _ _ _ _ _ st h => wpAny_pyIter_listiter st h
theorem turn_range {P : Program} {w : World} {K : PySem.W.Frag} {tg : Expr} (it : Addr) (lo : Int) (n : Nat) : Turn P w K tg (Itr lo n) [it] it (fun i h => IsRangeIter h it (lo + (i : Nat) * 1) ((n : Int) - (i : Nat)) 1) where
  mem := by simp
  obj := fun i h st b hb => by
    have e : b = it := by simpa using hb
    subst e
    exact ⟨_, st, fun v z => by
      have z' : Data.fields _ = Data.cell v := z
      cases z'⟩
  keep := fun i h h' st k => k it (by simp) _ st
  item := by
    intro X hP hw hK hc i pins s σ H E I hf st hg
    subst hP hw hK
    obtain ⟨f0, f1, f2, f3, f4, f5⟩ := hf it (by simp)
    have W := Walks.range (prog := X.prog) (w := X.w) (I.ok.hd hc) it lo 1 n
    refine W.item i s _ _ hg st fun v h' tk hv st' kk => ?_
    obtain ⟨t, rfl⟩ := hv
    have I1 : Inv X pins σ H { s with heap := h', toks := tk } := I.turned (fun b o hb e => kk b o (by simpa using hb) e) f0 f1 f3 f4 f5
    refine ⟨_, rfl, go_of (s := { s with heap := h', toks := tk }) (n := "range_iterator") st' rfl rfl (by decide) ⟨.int (lo + i), H, I1, ⟨t, ?_⟩, ⟨rfl, rfl⟩, st', fun b hb => (hf b hb).1⟩⟩
    rw [Int.mul_one]
  done := by
    intro X hP hw hK hc i pins s σ H E I hf st hg
    subst hP hw hK
    obtain ⟨f0, f1, f2, f3, f4, f5⟩ := hf it (by simp)
    exact wpAny_pyNext_range_end (I.ok.hd hc) st (by have : n ≤ i := hg; omega) fun h' eb => ⟨rfl, I.turned (t' := s.toks) (fun b o hb e => eb b o hb e) f0 f1 f3 f4 f5⟩
  self := fun _ _ _ _ _ st h => wpAny_pyIter_rangeiter st h
end L2
namespace L2
open PySem PySem.Spec PyProof.Rows
section
variable {X : Cx} {tg : Expr}
def iList (K : PySem.W.Frag) (tl : TE) : TI := fun σ H R => tl σ H fun x H1 => ∃ a, x = .ref a ∧ (∃ xs, SqL K H1 a xs) ∧ R (Itl K a) H1
def iTup (K : PySem.W.Frag) (tl : TE) : TI := fun σ H R => tl σ H fun x H1 => ∃ a, x = .ref a ∧ (∃ xs, SqT K H1 a xs) ∧ R (Itt K a) H1
theorem pi_list {l : Expr} {tl : TE} (hl : PE X l tl) : PI X tg l (iList X.K tl) := by
  intro pins s σ H R I h
  refine thn (hl pins s σ H _ I h) fun v s1 ⟨x, H1, I1, r1, q1⟩ => ?_
  obtain ⟨a, e, ⟨xs, hq⟩, q⟩ := q1
  subst e
  cases r1
  obtain ⟨its, rv, p, hz⟩ := I1.list hq
  refine wpAny_pyIter_list p.isList ?_
  refine ⟨s1.heap.objs.size, [s1.heap.objs.size], _, _, H1, rfl, I1.kept (t' := s1.toks) fun b o e => Heap.get?_push_of_some _ e, turn_list a _, ⟨_, Heap.get?_push_size _ rfl, rfl, rfl⟩, fun b hb => ?_, q⟩
  have e : b = s1.heap.objs.size := by simpa using hb
  subst e
  exact I1.fpOk (Nat.le_refl _) (I1.hok.fresh (Nat.le_refl _))
theorem range_it {pins : List (Addr × Obj)} {σ : St} {H : Hp} {s : Shared} {R : It → Hp → Prop} {E : Value → Shared → Prop} {lo hi : Int} {t u v : Tok} {tk : Nat} (I : Inv X pins σ H s) (h1 : -(2 ^ 62) ≤ lo) (h2 : lo < 2 ^ 62) (h3 : -(2 ^ 62) ≤ hi) (h4 : hi < 2 ^ 62)
    (q : R (Itr lo (hi - lo).toNat) H) : wpAny (model X.prog X.w) X.A (pyIter (.ref s.heap.objs.size)) (PIE X pins σ tg R) E { s with heap := s.heap.push { cls := .type "range", data := .fields #[.int lo t, .int hi u, .int 1 v] }, toks := tk } := by
  refine wpAny_pyIter_range (IsRange.new ..) (small_one h1 h2 h3 h4) ?_
  have I1 : Inv X pins σ H { s with heap := s.heap.push { cls := .type "range", data := .fields #[.int lo t, .int hi u, .int 1 v] }, toks := tk } := I.kept fun b o e => Heap.get?_push_of_some _ e
  refine ⟨(s.heap.push { cls := .type "range", data := .fields #[.int lo t, .int hi u, .int 1 v] }).objs.size, [(s.heap.push { cls := .type "range", data := .fields #[.int lo t, .int hi u, .int 1 v] }).objs.size], _, _, H, rfl,
    I1.kept (t' := tk) fun b o e => Heap.get?_push_of_some _ e, turn_range _ lo (hi - lo).toNat, ?_, fun b hb => ?_, q⟩
  · have e1 : lo + ((0 : Nat) : Int) * 1 = lo := by simp
    have e2 : (((hi - lo).toNat : Nat) : Int) - ((0 : Nat) : Int) = Builtin.Range.rangeSize lo hi 1 := by rw [rangeSize_one]; split <;> omega
    show IsRangeIter _ _ (lo + ((0 : Nat) : Int) * 1) ((((hi - lo).toNat : Nat) : Int) - ((0 : Nat) : Int)) 1
    rw [e1, e2]
    exact Heap.get?_push_size _ rfl
  · have e : b = (s.heap.push { cls := .type "range", data := .fields #[.int lo t, .int hi u, .int 1 v] }).objs.size := by simpa using hb
    subst e
    exact I1.fpOk (Nat.le_refl _) (I1.hok.fresh (Nat.le_refl _))
def iRng1 (ta : TA) : TI := fun σ H R => ta σ H fun vs H1 => ∃ j : Int, vs = [.int j] ∧ -(2 ^ 62) ≤ j ∧ j < 2 ^ 62 ∧ R (Itr 0 j.toNat) H1
def iRng2 (ta : TA) : TI := fun σ H R => ta σ H fun vs H1 => ∃ i j : Int, vs = [.int i, .int j] ∧ (-(2 ^ 62) ≤ i ∧ i < 2 ^ 62 ∧ -(2 ^ 62) ≤ j ∧ j < 2 ^ 62) ∧ R (Itr i (j - i).toNat) H1
theorem pi_range1 {a : Expr} {ta : TA} {p pos : Pos} (hg : Gl X "range") (hm : X.mg "range" = none) (ha : PA X [a] ta) (hs : starEach [a] X.env = [(false, eval a X.env)] := by rfl) : PI X tg (.Call (.Name "range" p) [a] [] pos) (iRng1 ta) := by
  intro pins s σ H R I h
  refine Call_ (ld_blt I hg hm boot_range (PyProof.Rows.callWith_type1 (thn (ha pos pins s σ H _ I h) fun us s1 ⟨vs, H1, I1, r1, q1⟩ => ?_) hs rfl))
  obtain ⟨j, e, q1, q2, q⟩ := q1
  subst e
  cases r1 with
  | cons r rr =>
    cases rr
    obtain ⟨t, rfl⟩ := r
    exact call_range_1 (range_it I1 (by omega) (by omega) q1 q2 (by simpa using q))
def tFor (wi : TI) (g : TG) (tb : TS) : TS := fun D σ H => wi σ H fun J H1 => ∃ W : Nat → Nat → St → Hp → Prop, (∃ m, W 0 m σ H1) ∧ ∀ i m σ H, W i m σ H →
  (J.stop i H ∧ D.nx σ H) ∨ (J.go i H ∧ ∃ N : St → Hp → Prop, (∀ σ' H', N σ' H' → ∃ m', m' < m ∧ W (i + 1) m' σ' H') ∧ ∀ x H', J.yld i H x H' → g x σ H' fun σ2 H2 => tb { D with nx := N, ct := N, bk := D.nx } σ2 H2)
def pinsAt (fp : List Addr) (h : Heap) : List (Addr × Obj) := fp.filterMap fun b => (h.get? b).map fun o => (b, o)
theorem mem_pinsAt {fp : List Addr} {h : Heap} {b : Addr} {o : Obj} (hb : b ∈ fp) (e : h.get? b = some o) : (b, o) ∈ pinsAt fp h := List.mem_filterMap.mpr ⟨b, hb, by rw [e]; rfl⟩
theorem of_pinsAt {fp : List Addr} {h : Heap} {p : Addr × Obj} (hp : p ∈ pinsAt fp h) : p.1 ∈ fp ∧ h.get? p.1 = some p.2 := by
  obtain ⟨b, hb, e⟩ := List.mem_filterMap.mp hp
  cases q : h.get? b with
  | none => rw [q] at e; cases e
  | some o =>
    rw [q] at e
    have e' : (b, o) = p := Option.some.inj e
    subst e'
    exact ⟨hb, q⟩
theorem Inv.pinned {pins : List (Addr × Obj)} {σ : St} {H : Hp} {s : Shared} {fp : List Addr} (I : Inv X pins σ H s) (hf : ∀ b ∈ fp, FpOk X pins H b) (ho : ∀ b ∈ fp, ∃ o, s.heap.get? b = some o ∧ ∀ v, o.data ≠ .cell v) : Inv X (pins ++ pinsAt fp s.heap) σ H s :=
  I.pins_of fun p hp => (List.mem_append.mp hp).elim (fun z => I.pin p (List.mem_append_right _ z)) fun z => by
    obtain ⟨hb, e⟩ := of_pinsAt z
    obtain ⟨f0, f1, f2, _⟩ := hf p.1 hb
    obtain ⟨o, e', d⟩ := ho p.1 hb
    rw [e] at e'; cases e'
    exact ⟨e, f0, f1, f2, d⟩
theorem Inv.unpinned {pins pl : List (Addr × Obj)} {σ : St} {H : Hp} {s : Shared} (I : Inv X (pins ++ pl) σ H s) : Inv X pins σ H s := I.pins_of fun p hp => I.pin p (List.mem_append_right _ (List.mem_append_left _ hp))
theorem ps_for {iter : Expr} {body : List Stmt} {wi : TI} {g : TG} {tb : TS} {pos : Pos} (hp : PassesOwn (model X.prog X.w) X.A X.env X.xe) (hc : X.calm = true) (hi : PI X tg iter wi) (hg : PG X tg g) (hb : PSs X body tb)
    (hs : ∀ x, foldedSetIterable iter X.env x = pure x := by intro _; rfl) : PS X (.For tg iter body [] pos) (tFor wi g tb) := by
  intro pins s σ H D I h
  refine wpAny_For (thn (hi pins s σ H _ I h) fun v s1 h1 => thn h1 fun itv s2 h2 => ?_) hs
  obtain ⟨it, fp, tn, J, H2, e, I2, T, st2, f2, W, ⟨m0, w0⟩, turn⟩ := h2
  subst e
  have stat : ∀ {H' : Hp}, (∀ b ∈ fp, H' b = none) → ∀ b ∈ fp, FpOk X pins H' b := fun hn b hb => ⟨hn b hb, (f2 b hb).2⟩
  refine codeAny_forLoop_any (fun n s' => ∃ i σ' H', Inv X pins σ' H' s' ∧ tn i s'.heap ∧ (∀ b ∈ fp, H' b = none) ∧ W i n σ' H') ?_ m0 ⟨0, σ, H2, I2, st2, fun b hb => (f2 b hb).1, w0⟩
  rintro n s3 ⟨i, σ3, H3, I3, st3, fr3, w3⟩
  rcases turn i n σ3 H3 w3 with ⟨stop, qn⟩ | ⟨go, N, hN, step⟩
  · refine wpAny_passesOwn hp (thn (T.done X rfl rfl rfl hc i pins s3 σ3 H3 X.xe I3 (stat fr3) st3 stop) fun r s4 ⟨hr, I4⟩ => ?_)
    subst hr
    exact wpAny_execs_nil ⟨σ3, H3, I4, qn⟩
  · refine wpAny_passesOwn hp (thn (T.item X rfl rfl rfl hc i pins s3 σ3 H3 X.xe I3 (stat fr3) st3 go) fun r s4 ⟨u, hr, h4⟩ => ?_)
    subst hr
    refine wpAny_passesOwn hp (thn h4 fun _ s5 ⟨x, H5, I5, r5, y5, st5, fr5⟩ => ?_)
    have I5' := I5.pinned (stat fr5) (T.obj _ _ st5)
    refine wpAny_passesOwn hp (thn (hg _ s5 σ3 H5 x u _ I5' r5 (step x H5 y5)) fun _ s6 ⟨σ6, H6, I6, q6⟩ => ?_)
    refine wpAny_passesOwn hp (thn (hb _ s6 σ6 H6 _ I6 q6) fun f s7 q7 => ?_)
    have again : ∀ {σ7 : St} {H7 : Hp}, Inv X (pins ++ pinsAt fp s5.heap) σ7 H7 s7 → N σ7 H7 → ∃ m, m < n ∧ ∃ i σ' H', Inv X pins σ' H' s7 ∧ tn i s7.heap ∧ (∀ b ∈ fp, H' b = none) ∧ W i m σ' H' := fun {σ7 H7} I7 n7 => by
      obtain ⟨m', hm, w7⟩ := hN σ7 H7 n7
      refine ⟨m', hm, i + 1, σ7, H7, I7.unpinned, T.keep _ _ _ st5 fun b hb o e => (I7.pin (b, o) (List.mem_append_right _ (List.mem_append_right _ (mem_pinsAt hb e)))).1, fun b hb => ?_, w7⟩
      obtain ⟨o, e, d⟩ := T.obj _ _ st5 b hb
      exact (I7.pin (b, o) (List.mem_append_right _ (List.mem_append_right _ (mem_pinsAt hb e)))).2.1
    cases f with
    | next => obtain ⟨σ7, H7, I7, n7⟩ := q7; exact again I7 n7
    | cont => obtain ⟨σ7, H7, I7, n7⟩ := q7; exact again I7 n7
    | brk => obtain ⟨σ7, H7, I7, q7⟩ := q7; exact ⟨σ7, H7, I7.unpinned, q7⟩
    | ret v => obtain ⟨x7, σ7, H7, I7, r7, q7⟩ := q7; exact ⟨x7, σ7, H7, I7.unpinned, r7, q7⟩
end
theorem for_list {K : PySem.W.Frag} {a : Addr} {xs : List V} {g : TG} {tb : TS} {D : Ends} {σ : St} {H : Hp} (Pv : Nat → St → Hp → Prop) (h0 : Pv 0 σ H) (hl : ∀ i σ H, i ≤ xs.length → Pv i σ H → SqL K H a xs)
    (hs : ∀ i x σ H, xs[i]? = some x → Pv i σ H → g x σ H fun σ2 H2 => tb { D with nx := Pv (i + 1), ct := Pv (i + 1), bk := D.nx } σ2 H2) (hd : ∀ σ H, Pv xs.length σ H → D.nx σ H) :
    ∃ W : Nat → Nat → St → Hp → Prop, (∃ m, W 0 m σ H) ∧ ∀ i m σ H, W i m σ H →
      ((Itl K a).stop i H ∧ D.nx σ H) ∨ ((Itl K a).go i H ∧ ∃ N : St → Hp → Prop, (∀ σ' H', N σ' H' → ∃ m', m' < m ∧ W (i + 1) m' σ' H') ∧ ∀ x H', (Itl K a).yld i H x H' → g x σ H' fun σ2 H2 => tb { D with nx := N, ct := N, bk := D.nx } σ2 H2) := by
  refine ⟨fun i m σ H => m = xs.length - i ∧ i ≤ xs.length ∧ Pv i σ H, ⟨xs.length, by simp, Nat.zero_le _, h0⟩, ?_⟩
  rintro i m σ H ⟨rfl, hi, p⟩
  have q := hl i σ H hi p
  by_cases hlt : i < xs.length
  · refine .inr ⟨⟨xs, xs[i], q, by simp [hlt]⟩, Pv (i + 1), fun σ' H' p' => ⟨xs.length - (i + 1), by omega, rfl, hlt, p'⟩, fun x H' y => ?_⟩
    obtain ⟨e, y⟩ := y
    subst e
    exact hs i x σ _ (y xs q) p
  · have e : i = xs.length := by omega
    subst e
    exact .inl ⟨⟨xs, q, Nat.le_refl _⟩, hd σ H p⟩
theorem for_range {lo : Int} {n : Nat} {g : TG} {tb : TS} {D : Ends} {σ : St} {H : Hp} (Pv : Nat → St → Hp → Prop) (h0 : Pv 0 σ H)
    (hs : ∀ i σ H, i < n → Pv i σ H → g (.int (lo + i)) σ H fun σ2 H2 => tb { D with nx := Pv (i + 1), ct := Pv (i + 1), bk := D.nx } σ2 H2) (hd : ∀ σ H, Pv n σ H → D.nx σ H) :
    ∃ W : Nat → Nat → St → Hp → Prop, (∃ m, W 0 m σ H) ∧ ∀ i m σ H, W i m σ H →
      ((Itr lo n).stop i H ∧ D.nx σ H) ∨ ((Itr lo n).go i H ∧ ∃ N : St → Hp → Prop, (∀ σ' H', N σ' H' → ∃ m', m' < m ∧ W (i + 1) m' σ' H') ∧ ∀ x H', (Itr lo n).yld i H x H' → g x σ H' fun σ2 H2 => tb { D with nx := N, ct := N, bk := D.nx } σ2 H2) := by
  refine ⟨fun i m σ H => m = n - i ∧ i ≤ n ∧ Pv i σ H, ⟨n, by simp, Nat.zero_le _, h0⟩, ?_⟩
  rintro i m σ H ⟨rfl, hi, p⟩
  by_cases hlt : i < n
  · refine .inr ⟨hlt, Pv (i + 1), fun σ' H' p' => ⟨n - (i + 1), by omega, rfl, hlt, p'⟩, fun x H' y => ?_⟩
    obtain ⟨e, y⟩ := y
    subst e y
    exact hs i σ _ hlt p
  · have e : i = n := by omega
    subst e
    exact .inl ⟨Nat.le_refl _, hd σ H p⟩
end L2
namespace L2
open PySem PySem.Spec PyProof.Rows
abbrev R2 := V → V → Hp → VK → Prop
def OpR (X : Cx) (f : Value → Value → Sem Value) (r : R2) : Prop :=
  ∀ (pins : List (Addr × Obj)) (s : Shared) (σ : St) (H : Hp) (x y : V) (v u : Value) (Q : VK), Inv X pins σ H s → RelV x v → RelV y u → r x y H Q →
    wpAny (model X.prog X.w) X.A (f v u) (EP X pins σ Q) X.xe s
def UnR (X : Cx) (f : Value → Sem Value) (r : V → Hp → VK → Prop) : Prop :=
  ∀ (pins : List (Addr × Obj)) (s : Shared) (σ : St) (H : Hp) (x : V) (v : Value) (Q : VK), Inv X pins σ H s → RelV x v → r x H Q →
    wpAny (model X.prog X.w) X.A (f v) (EP X pins σ Q) X.xe s
def CallR (X : Cx) (f : Value) (r : List V → Hp → VK → Prop) : Prop :=
  ∀ (pins : List (Addr × Obj)) (s : Shared) (σ : St) (H : Hp) (xs : List V) (us : List Value) (Q : VK), Inv X pins σ H s → Vals xs us → r xs H Q →
    wpAny (model X.prog X.w) X.A (call f us) (EP X pins σ Q) X.xe s
def TruR (X : Cx) (r : V → Hp → (Bool → Hp → Prop) → Prop) : Prop :=
  ∀ (pins : List (Addr × Obj)) (s : Shared) (σ : St) (H : Hp) (x : V) (v : Value) (Q : Bool → Hp → Prop), Inv X pins σ H s → RelV x v → r x H Q →
    wpAny (model X.prog X.w) X.A (truthy v) (TP X pins σ Q) X.xe s
def tOp (r : R2) (ta tb : TE) : TE := fun σ H Q => ta σ H fun x H1 => tb σ H1 fun y H2 => r x y H2 Q
def tUn (r : V → Hp → VK → Prop) (ta : TE) : TE := fun σ H Q => ta σ H fun x H1 => r x H1 Q
def rI (C : Int → Int → Prop) (g : Int → Int → V) : R2 := fun x y H Q => ∃ i j, x = .int i ∧ y = .int j ∧ C i j ∧ Q (g i j) H
def rI0 (g : Int → Int → V) : R2 := fun x y H Q => ∃ i j, x = .int i ∧ y = .int j ∧ Q (g i j) H
def rU (g : Int → V) : V → Hp → VK → Prop := fun x H Q => ∃ i, x = .int i ∧ Q (g i) H
section
variable {X : Cx} {a b c : Expr} {ta tb tc : TE} {pos : Pos}
theorem binT (ha : PE X a ta) (hb : PE X b tb) {pins : List (Addr × Obj)} {s : Shared} {σ : St} {H : Hp} {R : V → V → Hp → Prop} (I : Inv X pins σ H s)
    (h : ta σ H fun x H1 => tb σ H1 fun y H2 => R x y H2) {Q : Value → Shared → Prop} {f : Value → Value → Sem Value}
    (hf : ∀ v u s2 x y H2, Inv X pins σ H2 s2 → RelV x v → RelV y u → R x y H2 → wpAny (model X.prog X.w) X.A (f v u) Q X.xe s2) :
    wpAny (model X.prog X.w) X.A (eval a X.env) (fun v s₁ => wpAny (model X.prog X.w) X.A (eval b X.env) (fun u s₂ => wpAny (model X.prog X.w) X.A (f v u) Q X.xe s₂) X.xe s₁) X.xe s := by
  refine thn (ha pins s σ H _ I h) fun v s1 ⟨x, H1, I1, r1, q1⟩ => ?_
  refine thn (hb pins s1 σ H1 _ I1 q1) fun u s2 ⟨y, H2, I2, r2, q2⟩ => ?_
  exact hf v u s2 x y H2 I2 r1 r2 q2
theorem pe_op {op : Operator} {r : R2} (ho : OpR X (binaryOp op) r) (ha : PE X a ta) (hb : PE X b tb) : PE X (.BinOp a op b pos) (tOp r ta tb) := by
  intro pins s σ H Q I h
  exact wpAny_BinOp (binT ha hb I h fun v u s2 x y H2 I2 rx ry q => ho pins s2 σ H2 x y v u Q I2 rx ry q)
theorem pe_un {op : UnaryOp} {r : V → Hp → VK → Prop} (ho : UnR X (unaryOp op) r) (ha : PE X a ta) : PE X (.UnaryOp op a pos) (tUn r ta) := by
  intro pins s σ H Q I h
  exact UnaryOp_ (thn (ha pins s σ H _ I h) fun v s1 ⟨x, H1, I1, r1, q1⟩ => ho pins s1 σ H1 x v Q I1 r1 q1)
theorem opI {f : Value → Value → Sem Value} {C : Int → Int → Prop} {g : Int → Int → Int}
    (rule : ∀ (i j : Int) (t u : Tok) (s : Shared) (Q : Value → Shared → Prop) (E : Value → Shared → Prop), C i j → Q (.int (g i j) s.toks) { s with toks := s.toks + 1 } → wpAny (model X.prog X.w) X.A (f (.int i t) (.int j u)) Q E s) :
    OpR X f (rI C fun i j => .int (g i j)) := by
  intro pins s σ H x y v u Q I rx ry h
  obtain ⟨i, j, rfl, rfl, hc, q⟩ := h
  obtain ⟨t, rfl⟩ := rx
  obtain ⟨t', rfl⟩ := ry
  exact rule i j t t' s _ _ hc ⟨.int (g i j), H, I.tok _, ⟨_, rfl⟩, q⟩
theorem opI0 {f : Value → Value → Sem Value} {g : Int → Int → Int}
    (rule : ∀ (i j : Int) (t u : Tok) (s : Shared) (Q : Value → Shared → Prop) (E : Value → Shared → Prop), Q (.int (g i j) s.toks) { s with toks := s.toks + 1 } → wpAny (model X.prog X.w) X.A (f (.int i t) (.int j u)) Q E s) :
    OpR X f (rI0 fun i j => .int (g i j)) := by
  intro pins s σ H x y v u Q I rx ry h
  obtain ⟨i, j, rfl, rfl, q⟩ := h
  obtain ⟨t, rfl⟩ := rx
  obtain ⟨t', rfl⟩ := ry
  exact rule i j t t' s _ _ ⟨.int (g i j), H, I.tok _, ⟨_, rfl⟩, q⟩
theorem opB0 {f : Value → Value → Sem Value} {g : Int → Int → Bool}
    (rule : ∀ (i j : Int) (t u : Tok) (s : Shared) (Q : Value → Shared → Prop) (E : Value → Shared → Prop), Q (.bool (g i j)) s → wpAny (model X.prog X.w) X.A (f (.int i t) (.int j u)) Q E s) :
    OpR X f (rI0 fun i j => .bl (g i j)) := by
  intro pins s σ H x y v u Q I rx ry h
  obtain ⟨i, j, rfl, rfl, q⟩ := h
  obtain ⟨t, rfl⟩ := rx
  obtain ⟨t', rfl⟩ := ry
  exact rule i j t t' s _ _ ⟨.bl (g i j), H, I, rfl, q⟩
def CDiv (i j : Int) : Prop := 0 < j ∧ j < 1073741824
def CDivN (i j : Int) : Prop := j ≠ 0 ∧ j.natAbs < 1073741824
def CPow (i j : Int) : Prop := 0 ≤ j ∧ j ≤ 1000000 ∧ i.natAbs < 2 ^ 64
def CMul (i j : Int) : Prop := (-(2 ^ 64) < i ∧ i < 2 ^ 64) ∨ (-(2 ^ 64) < j ∧ j < 2 ^ 64)
theorem CMul.ok {i j : Int} (h : CMul i j) : IntMulOk i j := by
  rcases h with ⟨h1, h2⟩ | ⟨h1, h2⟩
  · exact .of_left (intBits_le_64 h1 h2)
  · exact .of_right (intBits_le_64 h1 h2)
theorem op_add : OpR X (binaryOp .Add) (rI0 fun i j => .int (i + j)) := opI0 fun _ _ _ _ _ _ _ q => add_int q
theorem op_sub : OpR X (binaryOp .Sub) (rI0 fun i j => .int (i - j)) := opI0 fun _ _ _ _ _ _ _ q => sub_int q
theorem op_mul : OpR X (binaryOp .Mult) (rI CMul fun i j => .int (i * j)) := opI fun _ _ _ _ _ _ _ hc q => mul_int q hc.ok
theorem op_fdiv : OpR X (binaryOp .FloorDiv) (rI CDiv fun i j => .int (i / j)) := opI fun i j _ _ _ _ _ hc q => by
  have h1 : (0 : Int) < j := hc.1
  have h2 : j < 1073741824 := hc.2
  exact floordiv_int (by omega) (by rw [Int.fdiv_eq_ediv_of_nonneg i (by omega)]; exact q) (.inl (PyProof.noPylong_small (by omega)))
theorem op_mod : OpR X (binaryOp .Mod) (rI (fun _ j => 0 < j) fun i j => .int (i % j)) := opI fun i j _ _ _ _ _ hc q => by
  have h1 : (0 : Int) < j := hc
  exact mod_int' (by omega) (by rw [Int.fmod_eq_emod_of_nonneg i (by omega)]; exact q)
theorem op_pow : OpR X (binaryOp .Pow) (rI CPow fun i j => .int (i ^ j.toNat)) := opI fun _ _ _ _ _ _ _ hc q => pow_int_small hc.1 hc.2.1 hc.2.2 q
theorem unI {f : Value → Sem Value} {g : Int → Int}
    (rule : ∀ (i : Int) (t : Tok) (s : Shared) (Q : Value → Shared → Prop) (E : Value → Shared → Prop), Q (.int (g i) s.toks) { s with toks := s.toks + 1 } → wpAny (model X.prog X.w) X.A (f (.int i t)) Q E s) :
    UnR X f (rU fun i => .int (g i)) := by
  intro pins s σ H x v Q I rx h
  obtain ⟨i, rfl, q⟩ := h
  obtain ⟨t, rfl⟩ := rx
  exact rule i t s _ _ ⟨.int (g i), H, I.tok _, ⟨_, rfl⟩, q⟩
theorem un_neg : UnR X (unaryOp .USub) (rU fun i => .int (-i)) := unI fun _ _ _ _ _ q => neg_int q
theorem un_inv : UnR X (unaryOp .Invert) (rU fun i => .int (Builtin.bitNot i)) := unI fun _ _ _ _ _ q => invert_int q
end
def scal : V → V → Bool
  | .non, .non => true | .non, .int _ => true | .int _, .non => true | .non, .bl _ => true | .bl _, .non => true | .non, .str _ => true | .str _, .non => true
  | .int _, .int _ => true | .bl _, .bl _ => true | .str _, .str _ => true | .byt _, .byt _ => true
  | .int _, .str _ => true | .str _, .int _ => true | .bl _, .str _ => true | .str _, .bl _ => true
  | _, _ => false
def rEq : R2 := fun x y H Q => scal x y = true ∧ Q (.bl (decide (x = y))) H
def rNe : R2 := fun x y H Q => scal x y = true ∧ Q (.bl (!decide (x = y))) H
theorem dec_int {i j : Int} : decide (V.int i = V.int j) = (i == j) := by
  rw [Bool.eq_iff_iff]
  simp
theorem dec_bl {i j : Bool} : decide (V.bl i = V.bl j) = (i == j) := by
  rw [Bool.eq_iff_iff]
  simp
theorem dec_str {i j : Str} : decide (V.str i = V.str j) = (i == j) := by
  rw [Bool.eq_iff_iff]
  simp
theorem dec_byt {i j : Array UInt8} : decide (V.byt i = V.byt j) = (i.toList == j.toList) := by
  rw [Bool.eq_iff_iff]
  cases i
  cases j
  simp
section
variable {X : Cx} {a b c : Expr} {ta tb tc : TE} {pos : Pos}
theorem fin_bl {pins : List (Addr × Obj)} {σ : St} {H : Hp} {s : Shared} {Q : VK} {k k' : Bool} (I : Inv X pins σ H s) (q : Q (.bl k) H) (e : k = k') : EP X pins σ Q (.bool k') s := by
  subst e
  exact ⟨.bl k, H, I, rfl, q⟩
theorem op_eq : OpR X (compareOp .Eq) rEq := by
  intro pins s σ H x y v u Q I rx ry h
  obtain ⟨hs, q⟩ := h
  cases x with
  | non =>
    cases rx
    cases y with
    | non => cases ry; exact PySem.EqNone.eq_none_none (fin_bl I q (by simp))
    | bl j => cases ry; exact PySem.EqNone.eq_none_bool (fin_bl I q (by simp))
    | int j => obtain ⟨t', rfl⟩ := ry; exact PySem.EqNone.eq_none_int (fin_bl I q (by simp))
    | str j => obtain ⟨t', rfl⟩ := ry; exact PySem.EqNone.eq_none_str (fin_bl I q (by simp))
    | _ => exact absurd (show false = true from hs) Bool.false_ne_true
  | bl i =>
    cases rx
    cases y with
    | non => cases ry; exact PySem.EqNone.eq_bool_none (fin_bl I q (by simp))
    | bl j => cases ry; exact eq_bool (fin_bl I q dec_bl)
    | str j => obtain ⟨t', rfl⟩ := ry; exact PySem.EqMixed.eq_bool_str (fin_bl I q (by simp))
    | _ => exact absurd (show false = true from hs) Bool.false_ne_true
  | int i =>
    obtain ⟨t, rfl⟩ := rx
    cases y with
    | non => cases ry; exact PySem.EqNone.eq_int_none (fin_bl I q (by simp))
    | int j => obtain ⟨t', rfl⟩ := ry; exact eq_int (fin_bl I q dec_int)
    | str j => obtain ⟨t', rfl⟩ := ry; exact PySem.EqMixed.eq_int_str (fin_bl I q (by simp))
    | _ => exact absurd (show false = true from hs) Bool.false_ne_true
  | str i =>
    obtain ⟨t, rfl⟩ := rx
    cases y with
    | non => cases ry; exact PySem.EqNone.eq_str_none (fin_bl I q (by simp))
    | bl j => cases ry; exact PySem.EqMixed.eq_str_bool (fin_bl I q (by simp))
    | int j => obtain ⟨t', rfl⟩ := ry; exact PySem.EqMixed.eq_str_int (fin_bl I q (by simp))
    | str j => obtain ⟨t', rfl⟩ := ry; exact eq_str (fin_bl I q dec_str)
    | _ => exact absurd (show false = true from hs) Bool.false_ne_true
  | byt i =>
    obtain ⟨t, rfl⟩ := rx
    cases y with
    | byt j => obtain ⟨t', rfl⟩ := ry; exact PySem.W.eq_bytes (fin_bl I q dec_byt)
    | _ => exact absurd (show false = true from hs) Bool.false_ne_true
  | _ => cases y <;> exact absurd (show false = true from hs) Bool.false_ne_true
theorem op_ne : OpR X (compareOp .NotEq) rNe := by
  intro pins s σ H x y v u Q I rx ry h
  obtain ⟨hs, q⟩ := h
  cases x with
  | non =>
    cases rx
    cases y with
    | non => cases ry; exact PySem.EqNone.ne_none_none (fin_bl I q (by simp))
    | bl j => cases ry; exact PySem.EqNone.ne_none_bool (fin_bl I q (by simp))
    | int j => obtain ⟨t', rfl⟩ := ry; exact PySem.EqNone.ne_none_int (fin_bl I q (by simp))
    | str j => obtain ⟨t', rfl⟩ := ry; exact PySem.EqNone.ne_none_str (fin_bl I q (by simp))
    | _ => exact absurd (show false = true from hs) Bool.false_ne_true
  | bl i =>
    cases rx
    cases y with
    | non => cases ry; exact PySem.EqNone.ne_bool_none (fin_bl I q (by simp))
    | bl j => cases ry; exact ne_bool (fin_bl I q (congrArg not dec_bl))
    | str j => obtain ⟨t', rfl⟩ := ry; exact PySem.EqMixed.ne_bool_str (fin_bl I q (by simp))
    | _ => exact absurd (show false = true from hs) Bool.false_ne_true
  | int i =>
    obtain ⟨t, rfl⟩ := rx
    cases y with
    | non => cases ry; exact PySem.EqNone.ne_int_none (fin_bl I q (by simp))
    | int j => obtain ⟨t', rfl⟩ := ry; exact ne_int (fin_bl I q (congrArg not dec_int))
    | str j => obtain ⟨t', rfl⟩ := ry; exact PySem.EqMixed.ne_int_str (fin_bl I q (by simp))
    | _ => exact absurd (show false = true from hs) Bool.false_ne_true
  | str i =>
    obtain ⟨t, rfl⟩ := rx
    cases y with
    | non => cases ry; exact PySem.EqNone.ne_str_none (fin_bl I q (by simp))
    | bl j => cases ry; exact PySem.EqMixed.ne_str_bool (fin_bl I q (by simp))
    | int j => obtain ⟨t', rfl⟩ := ry; exact PySem.EqMixed.ne_str_int (fin_bl I q (by simp))
    | str j => obtain ⟨t', rfl⟩ := ry; exact ne_str (fin_bl I q (congrArg not dec_str))
    | _ => exact absurd (show false = true from hs) Bool.false_ne_true
  | byt i =>
    obtain ⟨t, rfl⟩ := rx
    cases y with
    | byt j => obtain ⟨t', rfl⟩ := ry; exact PySem.W.ne_bytes (fin_bl I q (congrArg not dec_byt))
    | _ => exact absurd (show false = true from hs) Bool.false_ne_true
  | _ => cases y <;> exact absurd (show false = true from hs) Bool.false_ne_true
theorem op_lt : OpR X (compareOp .Lt) (rI0 fun i j => .bl (decide (i < j))) := opB0 fun _ _ _ _ _ _ _ q => lt_int q
theorem op_gt : OpR X (compareOp .Gt) (rI0 fun i j => .bl (decide (j < i))) := opB0 fun _ _ _ _ _ _ _ q => gt_int q
def isObj : HO → Bool
  | .lst _ => true
  | .ins _ _ _ => true
  | _ => false
theorem OpR.or {f : Value → Value → Sem Value} {r r' : R2} (h : OpR X f r) (h' : OpR X f r') : OpR X f (fun x y H Q => r x y H Q ∨ r' x y H Q) := by
  intro pins s σ H x y v u Q I rx ry q
  rcases q with q | q
  · exact h pins s σ H x y v u Q I rx ry q
  · exact h' pins s σ H x y v u Q I rx ry q
theorem nomark (b : Expr) {op : CmpOp} (h : op ≠ .In := by decide) (h2 : op ≠ .NotIn := by decide) : behindInMarks op b = false := by
  have e1 : (op == CmpOp.In) = false := by cases op <;> first | rfl | exact absurd rfl h
  have e2 : (op == CmpOp.NotIn) = false := by cases op <;> first | rfl | exact absurd rfl h2
  cases b <;> simp [behindInMarks, e1, e2]
theorem pe_cmpR {op : CmpOp} {r : R2} (ho : OpR X (compareOp op) r) (ha : PE X a ta) (hb : PE X b tb) (hm : behindInMarks op b = false) : PE X (.Compare a [op] [b] pos) (tOp r ta tb) := by
  intro pins s σ H Q I h
  exact wpAny_Compare1 (binT ha hb I h fun v u s2 x y H2 I2 rx ry q => ho pins s2 σ H2 x y v u Q I2 rx ry q) hm
def tTest (t : TE) : TT := fun σ H Q => t σ H fun x H' => ∃ k, x = .bl k ∧ Q k H'
theorem pt_cmpR {op : CmpOp} {r : R2} (ho : OpR X (compareOp op) r) (ha : PE X a ta) (hb : PE X b tb) (hm : behindInMarks op b = false) : PT X (.Compare a [op] [b] pos) (tTest (tOp r ta tb)) := by
  intro pins s σ H Q I h
  refine wpAny_isTrue_Compare1 (thn (ha pins s σ H _ I h) fun v s1 ⟨x, H1, I1, r1, q1⟩ => thn (hb pins s1 σ H1 _ I1 q1) fun u s2 ⟨y, H2, I2, r2, q2⟩ =>
    thn (ho pins s2 σ H2 x y v u _ I2 r1 r2 q2) fun c s3 ⟨z, H3, I3, r3, k, e, q3⟩ => ?_) hm
  subst e
  cases r3
  exact wpAny_truthy_bool ⟨H3, I3, q3⟩
def tChain (r r' : R2) (ta tb tc : TE) : TE := fun σ H Q => ta σ H fun x H1 => tb σ H1 fun y H2 => r x y H2 fun z H3 => ∃ k, z = .bl k ∧
  (if k = true then tc σ H3 fun w' H4 => r' y w' H4 Q else Q (.bl false) H3)
def TruV (K : PySem.W.Frag) (x : V) (H : Hp) (k : Bool) : Prop :=
  match x with
  | .non => k = false
  | .bl b => k = b
  | .int i => k = (i != 0)
  | .str y => y.length ≤ sizeLine ∧ k = ((y.length : Int) != 0)
  | .byt y => y.size ≤ sizeLine ∧ k = ((y.size : Int) != 0)
  | .ref p => (∃ xs, SqL K H p xs ∧ k = !xs.isEmpty) ∨ (∃ xs, SqT K H p xs ∧ k = !xs.isEmpty) ∨ ∃ kvs, H p = some (.dK kvs) ∧ k = !kvs.isEmpty
  | _ => False
theorem line63 : (sizeLine : Nat) < 2 ^ 63 := by rw [sizeLine_eq]; decide
theorem op_add_str : OpR X (binaryOp .Add) (fun x y H Q => ∃ i j, x = .str i ∧ y = .str j ∧ i.length + j.length ≤ sizeLine ∧ Q (.str (i ++ j)) H) := by
  intro pins s σ H x y v u Q I rx ry h
  obtain ⟨i, j, rfl, rfl, hz, q⟩ := h
  obtain ⟨t, rfl⟩ := rx
  obtain ⟨t', rfl⟩ := ry
  exact add_str (fun t' tk => ⟨.str (i ++ j), H, I.tok _, ⟨_, rfl⟩, q⟩) hz
def PlainIxT (b : Expr) : Prop := ∀ o i, subscripted b false o i = operate [o, i] (getItem o i)
theorem vals1 {x : V} {us : List Value} (r : Vals [x] us) : ∃ u, us = [u] ∧ RelV x u := by
  cases r with
  | cons r1 r2 => cases r2; exact ⟨_, rfl, r1⟩
theorem vals2 {x y : V} {us : List Value} (r : Vals [x, y] us) : ∃ u w', us = [u, w'] ∧ RelV x u ∧ RelV y w' := by
  cases r with
  | cons r1 r2 =>
    cases r2 with
    | cons r3 r4 => cases r4; exact ⟨_, _, rfl, r1, r3⟩
theorem call_min2 (hc : X.calm = true) : CallR X (.builtin "min") (fun xs H Q => ∃ i j, xs = [.int i, .int j] ∧ Q (.int (if j < i then j else i)) H) := by
  intro pins s σ H xs us Q I r h
  obtain ⟨i, j, rfl, q⟩ := h
  obtain ⟨u, w', rfl, ⟨t, rfl⟩, ⟨t', rfl⟩⟩ := vals2 r
  refine min_two_ints (I.ok.hd hc) fun h' tk k => ⟨_, H, I.kept k, ?_, q⟩
  by_cases hj : j < i
  · rw [if_pos hj, if_pos hj]; exact ⟨_, rfl⟩
  · rw [if_neg hj, if_neg hj]; exact ⟨_, rfl⟩
def LenV (K : PySem.W.Frag) (x : V) (H : Hp) (n : Nat) : Prop :=
  match x with
  | .str y => y.length ≤ sizeLine ∧ n = y.length
  | .byt y => y.size ≤ sizeLine ∧ n = y.size
  | .ref p => (∃ xs, SqL K H p xs ∧ n = xs.length) ∨ ∃ xs, SqT K H p xs ∧ n = xs.length
  | _ => False
end
end L2
namespace L2
open PySem PySem.Spec PyProof.Rows
structure ObjM (h : Heap) (x dx C : Addr) (mA : Str → Option Value) : Prop where
  obj : h.get? x = some (PySem.W.instObj C dx)
  ns : h.Ns1 dx mA
  ne : dx ≠ x
theorem lookIn_ns {h : Heap} {dx : Addr} {mA : Str → Option Value} (n : h.Ns1 dx mA) : ∃ od, h.get? dx = some od ∧ ∀ name, PySem.W.lookIn name od = some (mA name) := by
  obtain ⟨o, es, ep, ho, hd, hk, _, hm⟩ := n
  refine ⟨o, ho, fun name => ?_⟩
  have e := hm name
  unfold nsFind findBy at e
  rw [← Array.find?_toList] at e
  unfold PySem.W.lookIn
  rw [hd]
  dsimp only
  split
  · rename_i y q
    rw [q] at e
    exact congrArg some e
  · rename_i q
    rw [q] at e
    have a : es.toList.any (·.refKey) = false := by
      rw [List.any_eq_false]
      intro y hy
      obtain ⟨z, t, hkey⟩ := hk y (Array.mem_toList_iff.mp hy)
      simp [DictEntry.refKey, hkey]
    have a' : ¬ es.toList.any (·.refKey) = true := by rw [a]; exact Bool.false_ne_true
    rw [if_neg a']
    exact congrArg some e
theorem ObjM.look {h : Heap} {x dx C : Addr} {mA : Str → Option Value} (I : ObjM h x dx C mA) : ∃ od, PySem.W.InstAt h x (PySem.W.instObj C dx) C (some od) ∧ ∀ name, PySem.W.lookIn name od = some (mA name) :=
  let ⟨od, ho, hl⟩ := lookIn_ns I.ns
  ⟨od, ⟨I.obj, rfl, rfl, ho⟩, hl⟩
section
variable {prog : Program} {w : World} {A : Around} {E : Value → Shared → Prop} {s : Shared} {K : PySem.W.Frag} {x dx C f : Addr} {mA : Str → Option Value} {name : Str} {v : Value}
end
def putF (f : Str) (v : V) : List (Str × V) → List (Str × V)
  | [] => [(f, v)]
  | (g, x) :: r => if g = f then (g, v) :: r else (g, x) :: putF f v r
theorem RelO.some_of {v : V} {o : Option Value} (r : RelO (some v) o) : ∃ u, o = some u ∧ RelV v u := by
  cases o with
  | none => exact (show False from r).elim
  | some u => exact ⟨u, rfl, r⟩
theorem handed_of {v : V} {u : Value} (r : RelV v u) : PySem.W.handedIn u = true := by
  cases v with
  | non => cases (show u = Value.none from r); rfl
  | bl b => cases (show u = Value.bool b from r); rfl
  | int i => obtain ⟨t, e⟩ := (show ∃ t, u = Value.int i t from r); cases e; rfl
  | str x => obtain ⟨t, e⟩ := (show ∃ t, u = Value.str x t from r); cases e; rfl
  | byt b => obtain ⟨t, e⟩ := (show ∃ t, u = Value.bytes b t from r); cases e; rfl
  | flt b => obtain ⟨t, e⟩ := (show ∃ t, u = Value.float b t from r); cases e; rfl
  | ref a => cases (show u = Value.ref a from r); rfl
  | ty n => cases (show u = Value.type n from r); rfl
section
variable {P : Program} {w : World} {H H' : Hp} {h h' : Heap} {a C dx : Addr} {fs fs' : List (Str × V)}
end
structure Cls (K : PySem.W.Frag) (C : Addr) : Prop where
  pg : PySem.W.plainGet K C Str.empty = true
  hd : PySem.W.hasDictIn K C = true
  po : PySem.W.plainOver K C = true
  sa : PySem.W.findIn K (.ref C) "__setattr__" = some (some (.builtin "object.__setattr__"))
theorem Cls.get {K : PySem.W.Frag} {C : Addr} (c : Cls K C) (f : Str) : PySem.W.plainGet K C f = true := c.pg
def NoAttr (K : PySem.W.Frag) (C : Addr) (f : Str) : Prop := PySem.W.findIn K (.ref C) f = some none
structure Con (K : PySem.W.Frag) (C : Addr) (f : Str) (v : V) (u : Value) : Prop where
  at_ : PySem.W.findIn K (.ref C) f = some (some u)
  rel : RelV v u
  get : PySem.W.specialIn K u "__get__" = some none
  cp : PySem.W.copiedNames.contains f = false
structure Meth (K : PySem.W.Frag) (C : Addr) (m : Str) (f : Addr) : Prop where
  at_ : PySem.W.findIn K (.ref C) m = some (some (.ref f))
  fn : PySem.W.isFn K (.ref f) = true
  kp : PySem.W.keepIn K (.ref f) = true
section
variable {X : Cx} {pins : List (Addr × Obj)} {σ : St} {H : Hp} {s : Shared} {a C dx : Addr} {fs : List (Str × V)} {f : Str} {v : V} {A : Around} {E : Value → Shared → Prop}
theorem attr_of {prog : Program} {w : World} {env : Env} {e : Expr} {f : Str} {pos : Pos} {s : Shared} {Q : Value → Shared → Prop} (hb : attributeBase e f env (eval e env) = eval e env)
    (h : wpAny (model prog w) A (eval e env) (fun o s₁ => wpAny (model prog w) A (getAttr o f true) Q E s₁) E s) : wpAny (model prog w) A (eval (.Attribute e f pos) env) Q E s :=
  Attribute_any_ h (by rw [arm_eval_Attribute, hb])
end
def tFld (K : PySem.W.Frag) (ta : TE) (f : Str) : TE := fun σ H Q => ta σ H fun x H1 => ∃ a C dx fs v, x = .ref a ∧ H1 a = some (.ins C dx fs) ∧ Cls K C ∧ NoAttr K C f ∧ fs.lookup f = some v ∧ Q v H1
def tCon (K : PySem.W.Frag) (ta : TE) (f : Str) : TE := fun σ H Q => ta σ H fun x H1 => ∃ a C dx fs v u, x = .ref a ∧ H1 a = some (.ins C dx fs) ∧ Cls K C ∧ Con K C f v u ∧ fs.lookup f = none ∧ Q v H1
def sFld (K : PySem.W.Frag) (ta tv : TE) (f : Str) : TS := fun D σ H => tv σ H fun y H1 => ta σ H1 fun x H2 => ∃ a C dx fs, x = .ref a ∧ H2 a = some (.ins C dx fs) ∧ Cls K C ∧ NoAttr K C f ∧ fs.length < 1000 ∧
  D.nx σ (upd H2 a (.ins C dx (putF f y fs)))
def InOp (X : Cx) (op : Operator) (rd : V → V → Hp → VK → Prop) : Prop :=
  ∀ (pins : List (Addr × Obj)) (s : Shared) (σ : St) (H : Hp) (x y : V) (u v : Value) (Q : VK), Inv X pins σ H s → RelV x u → RelV y v → rd x y H Q → wpAny (model X.prog X.w) X.A (inplaceOp op u v) (EP X pins σ Q) X.xe s
def sFldAug (K : PySem.W.Frag) (ta tv : TE) (rd : V → V → Hp → VK → Prop) (f : Str) : TS := fun D σ H => ta σ H fun x H1 => ∃ a C dx fs v, x = .ref a ∧ H1 a = some (.ins C dx fs) ∧ Cls K C ∧ NoAttr K C f ∧ fs.lookup f = some v ∧
  tv σ H1 fun y H2 => rd v y H2 fun z H3 => ∃ dx' fs', H3 a = some (.ins C dx' fs') ∧ fs'.length < 1000 ∧ D.nx σ (upd H3 a (.ins C dx' (putF f z fs')))
section
variable {X : Cx} {o e value : Expr} {f : Str} {pos pos' tpos : Pos} {ta tv : TE}
def rAdd : V → V → Hp → VK → Prop := fun x y H Q => ∃ i j, x = .int i ∧ y = .int j ∧ Q (.int (i + j)) H
def rSub : V → V → Hp → VK → Prop := fun x y H Q => ∃ i j, x = .int i ∧ y = .int j ∧ Q (.int (i - j)) H
end
section
variable {X : Cx} {pins : List (Addr × Obj)} {σ : St} {H : Hp} {s : Shared} {A : Around} {E : Value → Shared → Prop} {Q : Value → Shared → Prop} {c : Value} {b : Bool}
inductive TyOf (K : PySem.W.Frag) (H : Hp) : V → Value → Prop where
  | non : TyOf K H .non (.type "NoneType")
  | bl (x : Bool) : TyOf K H (.bl x) (.type "bool")
  | int (i : Int) : TyOf K H (.int i) (.type "int")
  | str (x : Str) : TyOf K H (.str x) (.type "str")
  | flt (x : UInt64) : TyOf K H (.flt x) (.type "float")
  | lst {a : Addr} {xs : List V} (e : H a = some (.lst xs)) : TyOf K H (.ref a) (.type "list")
  | frz {a : Addr} {o : Obj} {xs : List V} (e : H a = some (.frz o (.lst xs))) : TyOf K H (.ref a) (.type "list")
  | tup {a : Addr} {xs : List V} (e : H a = some (.tup xs)) : TyOf K H (.ref a) (.type "tuple")
  | dK {a : Addr} {kvs : List (Key × V)} (e : H a = some (.dK kvs)) : TyOf K H (.ref a) (.type "dict")
  | dT {a : Addr} {kvs : List (List Key × V)} (e : H a = some (.dT kvs)) : TyOf K H (.ref a) (.type "dict")
  | ins {a C dx : Addr} {fs : List (Str × V)} (e : H a = some (.ins C dx fs)) (cl : Cls K C) (ha : PySem.W.findIn K (.ref C) "__class__" = some (some (.builtin "object.__class__")))
      (hn : PySem.W.specialIn K (.builtin "object.__class__") "__get__" = some (some (.builtin "getset_descriptor.__get__"))) (htk : PySem.W.takesIn K (.builtin "object.__class__") = some true)
      (hm : PySem.W.mroIn K C (.type "object") = some true) : TyOf K H (.ref a) (.ref C)
end
end L2
namespace L2
open PySem PySem.Spec PyProof.Rows
structure Room (k : Nat) (A : Around) : Prop where
  hd : A.handled = none
  dp : A.depth + 3 * k + 5 < recursionLimit
  un : A.units + 16 * k + 200 < cLine
theorem Room.mono {j k : Nat} {A : Around} (r : Room k A) (h : j ≤ k) : Room j A := ⟨r.hd, by have := r.dp; omega, by have := r.un; omega⟩
theorem Room.deeper {k : Nat} {A : Around} (r : Room (k + 1) A) (env : Env) : Room k (A.deeper env) :=
  ⟨r.hd, by have := r.dp; show A.depth + 1 + 3 * k + 5 < _; omega, by have := r.un; show A.units + 3 + 16 * k + 200 < _; omega⟩
theorem make_depth {A : Around} {C : Addr} {us : List Value} {kw : List (Str × Value)} : (A.under (.builtin "type.__call__" ⟨.ref C :: us, kw⟩)).depth = A.depth + 1 := by
  first | rfl | simp [Around.under, Code.weight, Code.isCreation, Code.isGuard, Code.isCaller, Code.frames, Code.isFrame, guardIds]
theorem make_units {A : Around} {C : Addr} {us : List Value} {kw : List (Str × Value)} : (A.under (.builtin "type.__call__" ⟨.ref C :: us, kw⟩)).units = A.units + 1 := by
  first | rfl | simp [Around.under, Code.cUnits, Code.frames, Code.isFrame]
theorem Room.make {k : Nat} {A : Around} (r : Room (k + 1) A) (C : Addr) (us : List Value) (kw : List (Str × Value)) : Room k (A.under (.builtin "type.__call__" ⟨.ref C :: us, kw⟩)) :=
  ⟨r.hd, by have := r.dp; rw [make_depth]; omega, by have := r.un; rw [make_units]; omega⟩
theorem Room.depth {k : Nat} {A : Around} (r : Room k A) : A.depth < recursionLimit := by have := r.dp; omega
theorem Room.units {k : Nat} {A : Around} (r : Room k A) : A.units + 64 < cLine := by have := r.un; omega
def tNil : TA := fun _ H Q => Q [] H
def tCons (ta : TE) (tr : TA) : TA := fun σ H Q => ta σ H fun x H1 => tr σ H1 fun xs H2 => Q (x :: xs) H2
section
variable {X : Cx} {e : Expr} {es : List Expr} {te : TE} {t : TA} {pos : Pos}
theorem pa_nil : PA X [] tNil := fun _ _ _ _ H Q I h => Calls.spliced_nil ⟨[], H, I, .nil, h⟩
theorem pa_cons (ha : PE X e te) (hr : PA X es t) (hs : starEach (e :: es) X.env = (false, eval e X.env) :: starEach es X.env := by rfl) : PA X (e :: es) (tCons te t) := by
  intro pos pins s σ H Q I h
  rw [hs]
  show wpAny _ _ (spliced ((false, eval e X.env) :: backTo pos (starEach es X.env))) _ _ s
  refine Calls.spliced_cons (thn (ha pins s σ H _ I h) fun u s1 ⟨x, H1, I1, r1, q1⟩ => ?_)
  exact thn (hr pos pins s1 σ H1 _ I1 q1) fun us s2 ⟨xs, H2, I2, r2, q2⟩ => ⟨x :: xs, H2, I2, .cons r1 r2, q2⟩
def tTup (t : TA) : TE := fun σ H Q => t σ H fun xs H1 => xs.length ≤ sizeLine ∧ ∀ p, H1 p = none → Q (.ref p) (upd H1 p (.tup xs))
def tLst (t : TA) : TE := fun σ H Q => t σ H fun xs H1 => xs.length ≤ sizeLine ∧ ∀ p, H1 p = none → Q (.ref p) (upd H1 p (.lst xs))
theorem pe_tup {x1} (h : PA X es t) : PE X (.Tuple es x1 pos) (tTup t) := by
  intro pins s σ H Q I hq
  refine wpAny_Tuple_spliced (thn (h pos pins s σ H _ I hq) fun us s1 ⟨xs, H1, I1, r, z, q⟩ => ⟨by rw [← r.length]; exact z, ?_⟩)
  have hf : H1 s1.heap.objs.size = none := I1.hok.fresh (Nat.le_refl _)
  refine ⟨.ref s1.heap.objs.size, upd H1 s1.heap.objs.size (.tup xs), I1.laid (t' := s1.toks) (fun b u e => Heap.get?_push_of_some _ e) (Nat.le_refl _) ?_, rfl, q _ hf⟩
  exact ⟨z, us, r, ⟨_, Heap.get?_push_size _ rfl, rfl, _, rfl⟩⟩
theorem pe_lst (h : PA X es t) : PE X (.List es pos) (tLst t) := by
  intro pins s σ H Q I hq
  refine wpAny_List_spliced (thn (h pos pins s σ H _ I hq) fun us s1 ⟨xs, H1, I1, r, z, q⟩ => ⟨by rw [← r.length]; exact z, ?_⟩)
  have hf : H1 s1.heap.objs.size = none := I1.hok.fresh (Nat.le_refl _)
  refine ⟨.ref s1.heap.objs.size, upd H1 s1.heap.objs.size (.lst xs), I1.laid (t' := s1.toks) (fun b u e => Heap.get?_push_of_some _ e) (Nat.le_refl _) ?_, rfl, q _ hf⟩
  exact ⟨z, us, 0, r, Heap.get?_push_size _ rfl⟩
end
abbrev Sp := List V → Hp → VK → XK → Prop
abbrev CXT := List Env → Hp → Shared → XK → Value → Shared → Prop
structure Env0 (P : Program) (w : World) (K : PySem.W.Frag) (mg : Str → Option Value) (base : Heap) (A : Around) (outer : List Env) (s : Shared) (H : Hp) : Prop where
  frames : A.frames = some outer
  mod : Mod K mg base
  bs : ∀ b o, base.get? b = some o → s.heap.get? b = some o ∧ H b = none
  bsz : base.objs.size ≤ s.heap.objs.size
  funs : s.heap.FunFrames base outer
  frf : ∀ b ∈ frs outer, H b = none
  hok : HOk P w H s.heap
  bare : AllBare s.gens
def CE (outer : List Env) (P : Program) (w : World) (H : Hp) (s : Shared) (Q : VK) (u : Value) (s' : Shared) : Prop :=
  ∃ v H', s'.os = s.os ∧ AllBare s'.gens ∧ Un (frs outer) [] H H' s.heap s'.heap ∧ HOk P w H' s'.heap ∧ RelV v u ∧ Q v H'
def CR (CX : CXT) (outer : List Env) (P : Program) (w : World) (H : Hp) (s : Shared) (Q : VK) (E : XK) (r : Result) (s' : Shared) : Prop :=
  match r with
  | .ok (.ret u) => CE outer P w H s Q u s'
  | .ok _ => False
  | .error e => CX outer H s E e s'
structure FnOk (P : Program) (w : World) (K : PySem.W.Frag) (mg : Str → Option Value) (base : Heap) (CX : CXT) (k : Nat) (f : Addr) (fd : FuncData) (ps : List Str) (sp : Sp) : Prop where
  len : ∀ vs H Q E, sp vs H Q E → vs.length = ps.length
  run : ∀ (A : Around) (outer : List Env) (s : Shared) (H : Hp) (args : Args) (us : List Value) (vs : List V) (Q : VK) (E : XK), Room k A → Env0 P w K mg base A outer s H → BindsTo s fd args (ps.zip us) → Vals vs us → sp vs H Q E →
    codeAny (model P w) A (.call (.ref f) args) (CR CX outer P w H s Q E) s
theorem FnOk.mono {P : Program} {w : World} {K : PySem.W.Frag} {mg : Str → Option Value} {base : Heap} {CX : CXT} {j k : Nat} {f : Addr} {fd : FuncData} {ps : List Str} {sp : Sp} (F : FnOk P w K mg base CX j f fd ps sp) (h : j ≤ k) :
    FnOk P w K mg base CX k f fd ps sp := ⟨F.len, fun A outer s H args us vs Q E hr => F.run A outer s H args us vs Q E (hr.mono h)⟩
theorem Env0.make {P : Program} {w : World} {K : PySem.W.Frag} {mg : Str → Option Value} {base : Heap} {A : Around} {outer : List Env} {s : Shared} {H : Hp} (e : Env0 P w K mg base A outer s H) (C : Addr) (us : List Value) (kw : List (Str × Value)) :
    Env0 P w K mg base (A.under (.builtin "type.__call__" ⟨.ref C :: us, kw⟩)) outer s H := ⟨by first | exact e.frames | (simpa [Around.under, Code.envs, Code.isFrame, pushEnvs] using e.frames), e.mod, e.bs, e.bsz, e.funs, e.frf, e.hok, e.bare⟩
section
variable {X : Cx} {pins : List (Addr × Obj)} {σ : St} {H : Hp} {s s' : Shared}
theorem Inv.env0 (I : Inv X pins σ H s) : Env0 X.prog X.w X.K X.mg X.base X.A X.stack s H :=
  ⟨I.ok.frames, I.ok.mod, I.bs, Nat.le_trans I.ok.bsz I.sz, I.stack, I.stkFree, I.hok, I.bare⟩
theorem Inv.after {Q : VK} {u : Value} (I : Inv X pins σ H s) (h : CE X.stack X.prog X.w H s Q u s') : EP X pins σ Q u s' := by
  obtain ⟨v, H', os, bare, un, hok, r, q⟩ := h
  obtain ⟨hh, g, d, t, os'⟩ := s'
  obtain rfl : os' = s.os := os
  exact ⟨v, H', I.call (h' := hh) (g' := g) (d' := d) (t' := t) (ch := []) un hok bare (fun b z => absurd z (by simp)), r, q⟩
end
def tCall (sp : Sp) (dvs : List V) (E : XK) (t : TA) : TE := fun σ H Q => t σ H fun vs H1 => sp (vs ++ dvs) H1 Q E
def tMeth (C : Addr) (m : Str) (sp : Sp) (dvs : List V) (E : XK) (ta : TE) (t : TA) : TE := fun σ H Q => ta σ H fun x H1 => ∃ a dx fs, x = .ref a ∧ H1 a = some (.ins C dx fs) ∧ fs.lookup m = none ∧
  t σ H1 fun vs H2 => sp (x :: (vs ++ dvs)) H2 Q E
def tMake (C : Addr) (sp : Sp) (dvs : List V) (E : XK) (t : TA) : TE := fun σ H Q => t σ H fun vs H1 => ∀ x dx, H1 x = none → H1 dx = none → dx ≠ x →
  sp (.ref x :: (vs ++ dvs)) (upd (upd H1 dx (.own x)) x (.ins C dx [])) (fun v H2 => v = .non ∧ Q (.ref x) H2) E
def Binds (K : PySem.W.Frag) (fd : FuncData) (ps : List Str) (ds : List Value) : Prop :=
  ∀ (s : Shared) (us : List Value), K.In s.heap → (us ++ ds).length = ps.length → BindsTo s fd ⟨us, []⟩ (ps.zip (us ++ ds))
theorem Binds.all {K : PySem.W.Frag} {fd : FuncData} {ps : List Str} (h : ∀ us : List Value, us.length = ps.length → bindArgs fd ⟨us, []⟩ = pure (ps.zip us)) : Binds K fd ps [] := fun s us _ hl => by
  rw [List.append_nil] at hl ⊢
  exact .of_eq (h us hl)
def Passes (CX : CXT) (X : Cx) (E : XK) : Prop := ∀ (pins : List (Addr × Obj)) (σ : St) (H : Hp) (s : Shared) (e : Value) (s' : Shared), Inv X pins σ H s → CX X.stack H s E e s' → X.xe e s'
section
variable {X : Cx} {CX : CXT} {k : Nat} {f C : Addr} {fd : FuncData} {ps : List Str} {sp : Sp} {dvs : List V} {ds : List Value} {E : XK} {x m : Str} {p pos apos : Pos} {e o : Expr} {es : List Expr} {ta : TE} {t : TA}
theorem run_fn {pins : List (Addr × Obj)} {σ : St} {H : Hp} {s : Shared} {Q : VK} {us : List Value} {vs : List V} (F : FnOk X.prog X.w X.K X.mg X.base CX k f fd ps sp) (hr : Room k X.A) (hb : Binds X.K fd ps ds) (hd : Vals dvs ds) (hx : Passes CX X E)
    (I : Inv X pins σ H s) (r : Vals vs us) (h : sp (vs ++ dvs) H Q E) : wpAny (model X.prog X.w) X.A (call (.ref f) us) (EP X pins σ Q) X.xe s := by
  have r2 : Vals (vs ++ dvs) (us ++ ds) := r.append hd
  have hl : (us ++ ds).length = ps.length := by rw [← r2.length]; exact F.len _ _ _ _ h
  refine wpAny_call (codeAny_mono (F.run X.A X.stack s H ⟨us, []⟩ (us ++ ds) (vs ++ dvs) Q E hr I.env0 (hb s us I.kIn hl) r2 h) fun r s' hq => ?_)
  cases r with
  | error e => exact hx pins σ H s e s' I hq
  | ok fl =>
    cases fl with
    | ret u => exact I.after hq
    | next => exact False.elim hq
    | brk => exact False.elim hq
    | cont => exact False.elim hq
theorem pe_call (F : FnOk X.prog X.w X.K X.mg X.base CX k f fd ps sp) (hr : Room k X.A) (hg : Gl X x) (hm : X.mg x = some (.ref f)) (hk : PySem.W.keepIn X.K (.ref f) = true) (hb : Binds X.K fd ps ds) (hd : Vals dvs ds) (hx : Passes CX X E)
    (ha : PA X (e :: es) t) (hdb : (x == ("__debug__" : Str)) = false := by decide) (he : starEach (e :: es) X.env = (false, eval e X.env) :: starEach es X.env := by rfl) (hpl : (backTo pos (starEach es X.env)).any (·.1) = false := by rfl) :
    PE X (.Call (.Name x p) (e :: es) [] pos) (tCall sp dvs E t) := by
  intro pins s σ H Q I h
  refine wpAny_Call_Name_kw (ld_glob I hg hm ?_ hdb)
  refine PySem.W.callWith_K (h₀ := X.base) I.ok.mod.kin hk (thn (ha pos pins s σ H _ I h) fun us s1 ⟨vs, H1, I1, r, q⟩ => ⟨I1.kIn, ?_⟩) he hpl
  exact run_fn F hr hb hd hx I1 r q
structure Mk (K : PySem.W.Frag) (C f : Addr) : Prop where
  makes : PySem.W.makesIn K C = true
  init : PySem.W.findIn K (.ref C) "__init__" = some (some (.ref f))
  fn : PySem.W.isFn K (.ref f) = true
  kp : PySem.W.keepIn K (.ref C) = true
end
def PK (X : Cx) (kws : List Keyword) (t : TA) : Prop :=
  ∀ (pos : Pos) (pins : List (Addr × Obj)) (s : Shared) (σ : St) (H : Hp) (Q : List V → Hp → Prop), Inv X pins σ H s → t σ H Q → wpAny (model X.prog X.w) X.A (evalAll ((backToKw pos (keywordEach kws X.env)).map (·.2))) (AP X pins σ Q) X.xe s
section
variable {X : Cx} {CX : CXT} {k : Nat} {f C : Addr} {fd : FuncData} {ps ks : List Str} {sp : Sp} {E : XK} {x m : Str} {p pos apos kpos : Pos} {e o : Expr} {es : List Expr} {kws : List Keyword} {te ta : TE} {t tk : TA} {nm : Option Str}
structure KBinds (K : PySem.W.Frag) (fd : FuncData) (ps ks : List Str) (g : List Value → List Value → List Value) (gV : List V → List V → List V) : Prop where
  to : ∀ (s : Shared) (us ws : List Value), K.In s.heap → (g us ws).length = ps.length → BindsTo s fd ⟨us, ks.zip ws⟩ (ps.zip (g us ws))
  rel : ∀ {vs : List V} {us : List Value} {zs : List V} {ws : List Value}, Vals vs us → Vals zs ws → Vals (gV vs zs) (g us ws)
def tCallK (sp : Sp) (gV : List V → List V → List V) (E : XK) (t tk : TA) : TE := fun σ H Q => t σ H fun vs H1 => tk σ H1 fun zs H2 => sp (gV vs zs) H2 Q E
variable {g : List Value → List Value → List Value} {gV : List V → List V → List V}
end
structure FnScope (N P : List Str) (sc : Scope) : Prop where
  kind : sc.kind = .function
  co : sc.isCoroutine = false
  gen : sc.isGenerator = false
  nd : N.Nodup
  pre : N.take P.length = P
  par : ∀ x ∈ P, sc.names.lookup x = some .local ∨ sc.names.lookup x = some .cell
  nofree : ∀ y ∈ sc.names, y.2 ≠ .free
theorem bindL_out {kindOf : Str → Option NameKind} {x : Str} : ∀ {binds : List (Str × Value)} {m : Str → Option Value}, (∀ v, (x, v) ∉ binds) → bindL kindOf binds m x = m x
  | [], _, _ => rfl
  | (n, v) :: r, m, h => by
    unfold bindL
    rw [bindL_out fun w hw => h w (List.mem_cons_of_mem _ hw)]
    split
    · have : x ≠ n := by rintro rfl; exact h v List.mem_cons_self
      simp [this]
    · rfl
theorem bindC_out {kindOf : Str → Option NameKind} {x : Str} : ∀ {binds : List (Str × Value)} {m : Str → Option Value}, (∀ v, (x, v) ∉ binds) → bindC kindOf binds m x = m x
  | [], _, _ => rfl
  | (n, v) :: r, m, h => by
    unfold bindC
    rw [bindC_out fun w hw => h w (List.mem_cons_of_mem _ hw)]
    split
    · rfl
    · have : x ≠ n := by rintro rfl; exact h v List.mem_cons_self
      simp [this]
theorem bindL_get {kindOf : Str → Option NameKind} {x : Str} {v : Value} : ∀ {P : List Str} {vs : List Value} {i : Nat} {m : Str → Option Value}, P.Nodup → P[i]? = some x → vs[i]? = some v → kindOf x = some .local →
    bindL kindOf (P.zip vs) m x = some v
  | [], _, _, _, _, h, _, _ => by simp at h
  | _ :: _, [], _, _, _, _, h, _ => by simp at h
  | p :: P, w :: vs, 0, m, nd, h1, h2, hk => by
    simp at h1 h2; subst h1; subst h2
    show bindL kindOf ((p, w) :: P.zip vs) m p = _
    unfold bindL
    rw [bindL_out fun v hv => (List.nodup_cons.mp nd).1 (List.of_mem_zip hv).1, if_pos hk]
    simp
  | p :: P, w :: vs, i + 1, m, nd, h1, h2, hk => by
    show bindL kindOf ((p, w) :: P.zip vs) m x = _
    unfold bindL
    exact bindL_get (i := i) (List.nodup_cons.mp nd).2 (by simpa using h1) (by simpa using h2) hk
theorem bindC_get {kindOf : Str → Option NameKind} {x : Str} {v : Value} : ∀ {P : List Str} {vs : List Value} {i : Nat} {m : Str → Option Value}, P.Nodup → P[i]? = some x → vs[i]? = some v → kindOf x ≠ some .local →
    bindC kindOf (P.zip vs) m x = some v
  | [], _, _, _, _, h, _, _ => by simp at h
  | _ :: _, [], _, _, _, _, h, _ => by simp at h
  | p :: P, w :: vs, 0, m, nd, h1, h2, hk => by
    simp at h1 h2; subst h1; subst h2
    show bindC kindOf ((p, w) :: P.zip vs) m p = _
    unfold bindC
    rw [bindC_out fun v hv => (List.nodup_cons.mp nd).1 (List.of_mem_zip hv).1, if_neg hk]
    simp
  | p :: P, w :: vs, i + 1, m, nd, h1, h2, hk => by
    show bindC kindOf ((p, w) :: P.zip vs) m x = _
    unfold bindC
    exact bindC_get (i := i) (List.nodup_cons.mp nd).2 (by simpa using h1) (by simpa using h2) hk
def start (N : List Str) (vs : List V) : St := vs.map some ++ List.replicate (N.length - vs.length) none
def cxOf (CX : CXT) (P : Program) (w : World) (K : PySem.W.Frag) (mg : Str → Option Value) (base : Heap) (N : List Str) (qual : Str) (scope : Scope) (f : Addr) (cd : Value) (A : Around) (outer : List Env) (s : Shared) (H : Hp) (E : XK) : Cx where
  prog := P
  w := w
  K := K
  mg := mg
  base := base
  A := A.deeper (envOfC qual scope s.heap.objs.size f cd)
  N := N
  s₀ := s
  H₀ := H
  env := envOfC qual scope s.heap.objs.size f cd
  outer := outer
  stack := envOfC qual scope s.heap.objs.size f cd :: outer
  ex := []
  calm := true
  fn := fun _ => true
  pn := []
  xe := fun e s' => wpAny (model P w) (A.deeper (envOfC qual scope s.heap.objs.size f cd)) (leaving (envOfC qual scope s.heap.objs.size f cd) e) (fun _ s'' => CX outer H s E e s'') (fun e' s'' => CX outer H s E e' s'') s'
theorem cell_has {sc : Scope} {n : Nat} {x : Str} (h : sc.names.lookup x = some .cell) : ∃ c, (cellsFrom n sc.names []).lookup x = some c := by
  have q := PySem.W.cellsFrom_some sc.names n [] (.inl h)
  exact Option.isSome_iff_exists.mp q
theorem inv_start {CX : CXT} {P : Program} {w : World} {K : PySem.W.Frag} {mg : Str → Option Value} {base : Heap} {N ps : List Str} {qual : Str} {scope : Scope} {f : Addr} {cd : Value} {A : Around} {outer : List Env} {s s1 : Shared} {H : Hp} {E : XK} {us : List Value} {vs : List V}
    (S : FnScope N ps scope) (hd : A.handled = none) (e0 : Env0 P w K mg base A outer s H) (hl : vs.length = ps.length) (r : Vals vs us)
    (x : InCallC s s.heap.objs.size (bindL (envOfC qual scope s.heap.objs.size f cd).kindOf (ps.zip us) fun _ => none) (cellsFrom (s.heap.objs.size + 1) scope.names []) (bindC (envOfC qual scope s.heap.objs.size f cd).kindOf (ps.zip us) fun _ => none) s1) :
    Inv (cxOf CX P w K mg base N qual scope f cd A outer s H E) [] (start N vs) H s1 := by
  have hpl : ps.length ≤ N.length := by have := congrArg List.length S.pre; rw [List.length_take] at this; omega
  obtain ⟨h1, tk, rfl, hk⟩ := x.done
  have noA : ∀ b : Addr, b ∉ (cxOf CX P w K mg base N qual scope f cd A outer s H E).ex := fun b z => absurd (show b ∈ ([] : List Addr) from z) (by simp)
  refine ⟨⟨e0.mod, S.kind, rfl, rfl, Nat.le_refl _, fun y z c h1 h2 => ?_, fun y hy => ?_, fun y c _ h => ?_, fun _ => hd, Around.frames_deeper e0.frames, .inr ⟨rfl, rfl⟩, fun b z => absurd z (noA b), e0.bs, e0.bsz, fun b _ _ => noA b, fun b z => absurd z (noA b), e0.funs, e0.frf⟩,
    rfl, e0.bare, Un.kept hk, ⟨_, x.toInCall.ns, fun i y v h1 h2 h3 => ?_⟩, fun y c h => ⟨_, x.cell y c h⟩, e0.hok.fresh (Nat.le_refl _), fun y c h => ?_, fun p hp => absurd (show p ∈ ([] : List (Addr × Obj)) from hp) (by simp), e0.hok.kept hk, ?_⟩
  · exact name_of_addr x.apart (PySem.mem_of_lookup h1) (PySem.mem_of_lookup h2)
  · have hy : scope.names.lookup y = some .cell ∨ scope.names.lookup y = some .free := hy
    rcases hy with hy | hy
    · exact cell_has hy
    · exact absurd rfl (S.nofree _ (PySem.mem_of_lookup hy))
  · exact Nat.le_of_lt (x.above y c (PySem.mem_of_lookup h))
  · have hi : i < vs.length := by
      unfold start at h2
      by_cases hi : i < vs.length
      · exact hi
      · rw [List.getElem?_append_right (by simpa using hi)] at h2
        rw [List.getElem?_replicate] at h2
        split at h2 <;> cases h2
    have ha : vs[i]? = some v := by
      unfold start at h2
      rw [List.getElem?_append_left (by simpa using hi), List.getElem?_map] at h2
      cases e : vs[i]? with
      | none => rw [e] at h2; cases h2
      | some a => rw [e] at h2; cases h2; rfl
    obtain ⟨u, hu, rv⟩ := r.get ha
    have hp : ps[i]? = some y := by
      rw [← S.pre, List.getElem?_take_of_lt (by omega)]; exact h1
    have ndP : ps.Nodup := by rw [← S.pre]; exact S.nd.sublist (List.take_sublist _ _)
    refine ⟨u, rv, ?_⟩
    rcases S.par y (List.mem_of_getElem? hp) with k | k
    · exact .inl ⟨k, bindL_get ndP hp hu k⟩
    · obtain ⟨c, e⟩ := cell_has (n := s.heap.objs.size + 1) k
      refine .inr ⟨.inl k, c, e, ?_⟩
      have q := x.cell y c e
      rw [bindC_get ndP hp hu (by show scope.names.lookup y ≠ _; rw [k]; decide)] at q
      exact q
  · exact e0.hok.fresh (Nat.le_of_lt (x.above y c (PySem.mem_of_lookup h)))
  · unfold start
    show _ = N.length
    rw [List.length_append, List.length_map, List.length_replicate]
    omega
theorem fn_of {CX : CXT} {P : Program} {w : World} {K : PySem.W.Frag} {mg : Str → Option Value} {base : Heap} {k : Nat} {f : Addr} {name qual : Str} {params : Arguments} {body : List Stmt} {scope : Scope} {dV kV doc pm cdv ct oc : Value} {an od : Option Addr}
    {osl : Array (Option Value)} {N ps : List Str} {sp : Sp} (lk : K.lookup f = some ⟨oc, od, .func (PySem.W.fnOf name qual params body scope dV kV doc pm an cdv ct), osl⟩) (hcd : PySem.W.codeIn K cdv qual = true) (S : FnScope N ps scope)
    (len : ∀ vs H Q E, sp vs H Q E → vs.length = ps.length)
    (hbody : ∀ (A : Around) (outer : List Env) (s : Shared) (H : Hp) (vs : List V) (Q : VK) (E : XK), Room k (A.deeper (envOfC qual scope s.heap.objs.size f cdv)) → sp vs H Q E →
      ∃ t, PSs (cxOf CX P w K mg base N qual scope f cdv A outer s H E) body t ∧ t { nx := fun _ H' => Q .non H', rt := Q } (start N vs) H) :
    FnOk P w K mg base CX (k + 1) f (PySem.W.fnOf name qual params body scope dV kV doc pm an cdv ct) ps sp := by
  refine ⟨len, fun A outer s H args us vs Q E hr e0 hb r hsp => ?_⟩
  have hl := len _ _ _ _ hsp
  have KX : K.In s.heap := e0.mod.kin.keeps fun b o e => (e0.bs b o e).1
  have lim : s.heap.NoLimit := e0.mod.nolimit.keeps fun b o e => (e0.bs b o e).1
  have hkind : ∀ y ∈ ps.zip us, scope.names.lookup y.1 = some .local ∨ (scope.names.lookup y.1 = some .cell ∧ ((cellsFrom (s.heap.objs.size + 1) scope.names []).lookup y.1).isSome = true) := fun ⟨n, v⟩ hy => by
    rcases S.par n (List.of_mem_zip hy).1 with q | q
    · exact .inl q
    · exact .inr ⟨q, PySem.W.cellsFrom_some _ _ _ (.inl q)⟩
  refine codeAny_call_function hr.depth (KX _ _ lk) rfl S.co S.gen rfl (PySem.W.codeRec_of KX hcd) (hb _ _ _ _ ?_)
  refine wpAny_newFunctionEnv_cells S.kind hkind fun env he s1 x => ?_
  subst he
  refine ⟨lim.keeps x.toInCall.keep, codeAny_func ?_⟩
  obtain ⟨t, ht, hq⟩ := hbody A outer s H vs Q E (hr.deeper _) hsp
  have I : Inv (cxOf CX P w K mg base N qual scope f cdv A outer s H E) [] (start N vs) H s1 := inv_start S hr.hd e0 hl r x
  refine wpAny_mono (ht [] s1 (start N vs) H _ I hq) (fun fl s' hs => ?_) fun e s' hs => hs
  have fin : ∀ {σ' : St} {H' : Hp} {v : V} {u : Value}, Inv (cxOf CX P w K mg base N qual scope f cdv A outer s H E) [] σ' H' s' → RelV v u → Q v H' → CE outer P w H s Q u s' :=
    fun {σ' H' v u} J rv q => ⟨v, H', J.os, J.bare, J.base, J.hok, rv, q⟩
  cases fl with
  | ret u =>
    obtain ⟨v, σ', H', J, rv, q⟩ := hs
    exact fin J rv q
  | next =>
    obtain ⟨σ', H', J, q⟩ := hs
    exact fin (v := V.non) (u := Value.none) J rfl q
  | brk =>
    obtain ⟨_, _, _, q⟩ := hs
    exact False.elim q
  | cont =>
    obtain ⟨_, _, _, q⟩ := hs
    exact False.elim q
end L2
namespace L2
open PySem PySem.Spec PyProof.Rows
section
variable {X : Cx} {x : Str} {p pos : Pos} {e : Expr} {es : List Expr} {t : TA} {id T : String} {r : List V → Hp → VK → Prop}
def tCB (r : List V → Hp → VK → Prop) (t : TA) : TE := fun σ H Q => t σ H fun vs H1 => r vs H1 Q
theorem pe_callB (hc : CallR X (.builtin id) r) (hg : Gl X x) (hm : X.mg x = none) (hv : bootBuiltins x = some (.builtin id)) (ha : PA X (e :: es) t) (hn : x ≠ "__name__" := by decide) (hdb : (x == ("__debug__" : Str)) = false := by decide)
    (he : starEach (e :: es) X.env = (false, eval e X.env) :: starEach es X.env := by rfl) (hpl : (backTo pos (starEach es X.env)).any (·.1) = false := by rfl) : PE X (.Call (.Name x p) (e :: es) [] pos) (tCB r t) := by
  intro pins s σ H Q I h
  refine wpAny_Call_Name_kw (ld_blt I hg hm hv ?_ hn hdb)
  exact PyProof.Rows.callWith_builtin1 (thn (ha pos pins s σ H _ I h) fun us s1 ⟨vs, H1, I1, r1, q1⟩ => hc pins s1 σ H1 vs us Q I1 r1 q1) he hpl
theorem pe_callTy (hc : CallR X (.type T) r) (hg : Gl X x) (hm : X.mg x = none) (hv : bootBuiltins x = some (.type T)) (ha : PA X (e :: es) t) (hn : x ≠ "__name__" := by decide) (hdb : (x == ("__debug__" : Str)) = false := by decide)
    (he : starEach (e :: es) X.env = (false, eval e X.env) :: starEach es X.env := by rfl) (hpl : (backTo pos (starEach es X.env)).any (·.1) = false := by rfl) : PE X (.Call (.Name x p) (e :: es) [] pos) (tCB r t) := by
  intro pins s σ H Q I h
  refine wpAny_Call_Name_kw (ld_blt I hg hm hv ?_ hn hdb)
  exact PyProof.Rows.callWith_type1 (thn (ha pos pins s σ H _ I h) fun us s1 ⟨vs, H1, I1, r1, q1⟩ => hc pins s1 σ H1 vs us Q I1 r1 q1) he hpl
end
end L2
namespace HT
open PySem PyProof.Rows
def lexLt : List Int → List Int → Bool
  | [], [] => false
  | [], _ :: _ => true
  | _ :: _, [] => false
  | x :: xs, y :: ys => if x = y then lexLt xs ys else decide (x < y)
theorem lexLt_cons (x y : Int) (xs ys : List Int) : lexLt (x :: xs) (y :: ys) = if x = y then lexLt xs ys else decide (x < y) := rfl
section
open PySem.SeqAt
open PySem.AutoSeq1 (wpAny_loadPart')
open PySem.MeetsSeq PySem.MeetsSeq2 PySem.MeetsSeq3
end
section
variable {prog : Program} {w : World} {A : Around} {E : Value → Shared → Prop} {s : Shared}
def sIx (n d : Nat) : Option Int → Nat
  | none => d
  | some v => if v < 0 then (v + (n : Int)).toNat else min v.toNat n
theorem sIx_none (n d : Nat) : sIx n d none = d := rfl
theorem sIx_nat (n d k : Nat) : sIx n d (some (k : Int)) = min k n := by
  show (if (k : Int) < 0 then ((k : Int) + (n : Int)).toNat else min (k : Int).toNat n) = min k n
  rw [if_neg (by omega), Int.toNat_natCast]
end
end HT
namespace L2
open PySem PySem.Spec PyProof.Rows
abbrev TO := St → Hp → (Option Int → Hp → Prop) → Prop
def PO (X : Cx) (e : Option Expr) (t : TO) : Prop :=
  ∀ (pins : List (Addr × Obj)) (s : Shared) (σ : St) (H : Hp) (Q : Option Int → Hp → Prop), Inv X pins σ H s → t σ H Q →
    wpAny (model X.prog X.w) X.A (evalPart e X.env) (fun u s' => ∃ o H', Inv X pins σ H' s' ∧ IsPart u o ∧ Q o H') X.xe s
def tNoPart : TO := fun _ H Q => Q none H
def tPart (t : TE) : TO := fun σ H Q => t σ H fun x H1 => ∃ i, x = .int i ∧ Q (some i) H1
section
variable {X : Cx} {e : Expr} {te : TE} {lo hi : Option Expr} {tl th : TO} {pos p2 : Pos}
theorem po_none : PO X none tNoPart := by
  intro pins s σ H Q I h
  rw [evalPart_none]
  exact wpAny_pure ⟨none, H, I, .none, h⟩
theorem po_some (h : PE X e te) : PO X (some e) (tPart te) := by
  intro pins s σ H Q I hw
  rw [evalPart_some]
  refine thn (h pins s σ H _ I hw) fun u s1 ⟨x, H1, I1, r1, q1⟩ => ?_
  obtain ⟨i, rfl, q⟩ := q1
  obtain ⟨t, rfl⟩ := r1
  exact ⟨some i, H1, I1, .int i t, q⟩
def SlR (X : Cx) (r : V → Option Int → Option Int → Hp → VK → Prop) : Prop :=
  ∀ (pins : List (Addr × Obj)) (s : Shared) (σ : St) (H : Hp) (x : V) (v vl vu : Value) (lo hi : Option Int) (sl : Addr) (Q : VK), Inv X pins σ H s → RelV x v → s.heap.IsSliceOf sl vl vu .none → IsPart vl lo → IsPart vu hi → r x lo hi H Q →
    ∃ T id, typeLookup (.type T) "__getitem__" = pure (some (.builtin id)) ∧ s.TypeIs v T ∧ wpAny (model X.prog X.w) X.A (getItem v (.ref sl)) (EP X pins σ Q) X.xe s
theorem SlR.or {r r' : V → Option Int → Option Int → Hp → VK → Prop} (h : SlR X r) (h' : SlR X r') : SlR X (fun x lo hi H Q => r x lo hi H Q ∨ r' x lo hi H Q) := by
  intro pins s σ H x v vl vu lo hi sl Q I rx hs pl pu q
  rcases q with q | q
  · exact h pins s σ H x v vl vu lo hi sl Q I rx hs pl pu q
  · exact h' pins s σ H x v vl vu lo hi sl Q I rx hs pl pu q
def tSl (r : V → Option Int → Option Int → Hp → VK → Prop) (te : TE) (tl th : TO) : TE := fun σ H Q => te σ H fun x H1 => tl σ H1 fun l H2 => th σ H2 fun u H3 => r x l u H3 Q
theorem pe_slice {r : V → Option Int → Option Int → Hp → VK → Prop} (hr : SlR X r) (he : PE X e te) (hl : PO X lo tl) (hu : PO X hi th) : PE X (.Subscript e (.Slice lo hi none p2) pos) (tSl r te tl th) := by
  intro pins s σ H Q I h
  refine Subscript_ (thn (he pins s σ H _ I h) fun v s1 ⟨x, H1, I1, r1, q1⟩ => ?_)
  refine wpAny_Slice (thn (hl pins s1 σ H1 _ I1 q1) fun vl s2 ⟨l, H2, I2, pl, q2⟩ => thn (hu pins s2 σ H2 _ I2 q2) fun vu s3 ⟨u, H3, I3, pu, q3⟩ => ?_)
  rw [evalPart_none]
  refine wpAny_pure ?_
  have I4 : Inv X pins σ H3 { s3 with heap := s3.heap.push { cls := .type "slice", data := .fields #[vl, vu, .none] } } := I3.kept (t' := s3.toks) fun b ob q => Heap.get?_push_of_some _ q
  obtain ⟨T, id, hT, ht, hg⟩ := hr pins { s3 with heap := s3.heap.push { cls := .type "slice", data := .fields #[vl, vu, .none] } } σ H3 x v vl vu l u s3.heap.objs.size Q I4 r1 (Heap.IsSliceOf.new ..) pl pu q3
  show wpAny (model X.prog X.w) X.A (subscriptTail e (.Slice lo hi none p2) v (.ref s3.heap.objs.size)) (EP X pins σ Q) X.xe { s3 with heap := s3.heap.push { cls := .type "slice", data := .fields #[vl, vu, .none] } }
  exact tail_any (ops := [.ref s3.heap.objs.size, v]) ht hT hg (by with_unfolding_all rfl)
def cutV (xs : List V) (lo hi : Option Int) : List V := (xs.drop (HT.sIx xs.length 0 lo)).take (HT.sIx xs.length xs.length hi - HT.sIx xs.length 0 lo)
theorem cutV_length (xs : List V) (lo hi : Option Int) : (cutV xs lo hi).length ≤ xs.length := by
  unfold cutV
  rw [List.length_take, List.length_drop]
  omega
def rSlT (K : PySem.W.Frag) : V → Option Int → Option Int → Hp → VK → Prop := fun x lo hi H Q => ∃ a xs, x = .ref a ∧ SqT K H a xs ∧
  ¬ (HT.sIx xs.length 0 lo = 0 ∧ HT.sIx xs.length xs.length hi = xs.length) ∧ ∀ p, H p = none → Q (.ref p) (upd H p (.tup (cutV xs lo hi)))
def rLtT (K : PySem.W.Frag) : R2 := fun x y H Q => ∃ a b ns ms, x = .ref a ∧ y = .ref b ∧ SqT K H a (ns.map V.int) ∧ SqT K H b (ms.map V.int) ∧ Q (.bl (HT.lexLt ns ms)) H
def rCatT (K : PySem.W.Frag) : R2 := fun x y H Q => ∃ a b xs ys, x = .ref a ∧ y = .ref b ∧ SqT K H a xs ∧ SqT K H b ys ∧ xs ≠ [] ∧ xs.length + ys.length ≤ sizeLine ∧
  (ys = [] → Q (.ref a) H) ∧ (ys ≠ [] → ∀ p, H p = none → Q (.ref p) (upd H p (.tup (xs ++ ys))))
end
end L2
namespace L2
open PySem PySem.Spec PyProof.Rows
def ixN (n : Nat) (i : Int) : Option Nat := if 0 ≤ i then (if i < n then some i.toNat else none) else if -(n : Int) ≤ i then some (i + n).toNat else none
def atI {α : Type} (xs : List α) (i : Int) : Option α := (ixN xs.length i).bind fun j => xs[j]?
theorem ixN_seq {n : Nat} {i : Int} {j : Nat} (h : ixN n i = some j) : seqIndex? i n = some j ∧ j < n ∧ -(n : Int) ≤ i ∧ i < n := by
  unfold ixN at h
  by_cases h0 : 0 ≤ i
  · rw [if_pos h0] at h
    by_cases h1 : i < n
    · rw [if_pos h1] at h
      have e : i.toNat = j := Option.some.inj h
      exact ⟨by rw [seqIndex_of h0 h1, e], by omega, by omega, h1⟩
    · rw [if_neg h1] at h; cases h
  · rw [if_neg h0] at h
    by_cases h1 : -(n : Int) ≤ i
    · rw [if_pos h1] at h
      have e : (i + n).toNat = j := Option.some.inj h
      exact ⟨by rw [seqIndex_neg (by omega) h1, e], by omega, h1, by omega⟩
    · rw [if_neg h1] at h; cases h
theorem atI_get {α : Type} {xs : List α} {i : Int} {v : α} (h : atI xs i = some v) : ∃ j, seqIndex? i xs.length = some j ∧ xs[j]? = some v ∧ j < xs.length ∧ -(xs.length : Int) ≤ i ∧ i < xs.length := by
  unfold atI at h
  cases e : ixN xs.length i with
  | none => rw [e] at h; cases h
  | some j =>
    rw [e] at h
    obtain ⟨h1, h2, h3, h4⟩ := ixN_seq e
    exact ⟨j, h1, h, h2, h3, h4⟩
theorem atI_nat {α : Type} {xs : List α} {j : Nat} {v : α} (h : xs[j]? = some v) : atI xs (j : Int) = some v := by
  have hj : j < xs.length := (List.getElem?_eq_some_iff.mp h).1
  have e : ixN xs.length (j : Int) = some j := by
    unfold ixN
    rw [if_pos (by omega), if_pos (by omega)]; simp
  unfold atI; rw [e]; exact h
def PlainIx (b : Expr) : Prop := ∀ o i, subscripted b false o i = operate [o, i] (getItem o i)
def IxR (X : Cx) (r : R2) : Prop :=
  ∀ (value slice : Expr) (pins : List (Addr × Obj)) (s : Shared) (σ : St) (H : Hp) (x y : V) (v u : Value) (Q : VK), Inv X pins σ H s → RelV x v → RelV y u → r x y H Q →
    subscripted slice false v u = operate [v, u] (getItem v u) → wpAny (model X.prog X.w) X.A (subscriptTail value slice v u) (EP X pins σ Q) X.xe s
def MtR (X : Cx) (id : String) (r : V → List V → Hp → VK → Prop) : Prop :=
  ∀ (pins : List (Addr × Obj)) (s : Shared) (σ : St) (H : Hp) (x : V) (xs : List V) (v : Value) (us : List Value) (Q : VK), Inv X pins σ H s → RelV x v → Vals xs us → r x xs H Q →
    wpAny (model X.prog X.w) X.A (call (.builtin id) (v :: us)) (EP X pins σ Q) X.xe s
section
variable {X : Cx} {a b : Expr} {ta tb : TE} {pos : Pos}
theorem IxR.or {r r' : R2} (h : IxR X r) (h' : IxR X r') : IxR X (fun x y H Q => r x y H Q ∨ r' x y H Q) := by
  intro value slice pins s σ H x y v u Q I rx ry q hs
  rcases q with q | q
  · exact h value slice pins s σ H x y v u Q I rx ry q hs
  · exact h' value slice pins s σ H x y v u Q I rx ry q hs
theorem MtR.or {id : String} {r r' : V → List V → Hp → VK → Prop} (h : MtR X id r) (h' : MtR X id r') : MtR X id (fun x xs H Q => r x xs H Q ∨ r' x xs H Q) := by
  intro pins s σ H x xs v us Q I rx rs q
  rcases q with q | q
  · exact h pins s σ H x xs v us Q I rx rs q
  · exact h' pins s σ H x xs v us Q I rx rs q
theorem pe_ix {r : R2} (hr : IxR X r) (ha : PE X a ta) (hb : PE X b tb) (hs : PlainIx b) : PE X (.Subscript a b pos) (tOp r ta tb) := by
  intro pins s σ H Q I h
  exact Subscript_ (binT ha hb I h fun v u s2 x y H2 I2 rx ry q => hr a b pins s2 σ H2 x y v u Q I2 rx ry q (hs _ _))
def rIxL (K : PySem.W.Frag) : R2 := fun x y H Q => ∃ p xs i v, x = .ref p ∧ y = .int i ∧ SqL K H p xs ∧ atI xs i = some v ∧ Q v H
def rIxT (K : PySem.W.Frag) : R2 := fun x y H Q => ∃ p xs i v, x = .ref p ∧ y = .int i ∧ SqT K H p xs ∧ atI xs i = some v ∧ Q v H
def rIxS : R2 := fun x y H Q => ∃ z i c, x = .str z ∧ y = .int i ∧ z.length ≤ sizeLine ∧ atI z.cps.toList i = some c ∧ Q (.str ⟨#[c]⟩) H
theorem ix_list : IxR X (rIxL X.K) := by
  intro value slice pins s σ H x y v u Q I rx ry h hs
  obtain ⟨p, xs, i, z, rfl, rfl, hq, he, q⟩ := h
  cases rx
  obtain ⟨t, rfl⟩ := ry
  obtain ⟨its, r, pl, hz⟩ := I.list hq
  obtain ⟨j, h1, h2, h3, h4, h5⟩ := atI_get he
  obtain ⟨w, ew, rw'⟩ := r.get h2
  have hl := r.length
  have hn := line63
  have fin : EP X pins σ Q w s := ⟨z, H, I, rw', q⟩
  by_cases h0 : 0 ≤ i
  · have hj : i.toNat = j := by
      rw [seqIndex_of h0 h5] at h1
      exact Option.some.inj h1
    exact item_listR pl.isList h0 (by omega) (by rw [hj]; simpa using ew) fin hs
  · have hj : (i + (its.toArray.size : Int)).toNat = j := by
      rw [seqIndex_neg (by omega) h4] at h1
      rw [List.size_toArray, ← hl]
      exact Option.some.inj h1
    exact subscriptTail_builtinR (x := w) pl.isList.typeIs slot_list_getitem.lookup
      (wpAny_getItem_list_neg (Q := fun r s' => r = w ∧ EP X pins σ Q r s') pl.isList (by omega) (by rw [List.size_toArray] <;> omega) (by omega) (by rw [hj]; simpa using ew) ⟨rfl, fin⟩) hs
theorem ix_tup : IxR X (rIxT X.K) := by
  intro value slice pins s σ H x y v u Q I rx ry h hs
  obtain ⟨p, xs, i, z, rfl, rfl, hq, he, q⟩ := h
  cases rx
  obtain ⟨t, rfl⟩ := ry
  obtain ⟨its, r, pl, hz⟩ := I.tuple hq
  obtain ⟨j, h1, h2, h3, h4, h5⟩ := atI_get he
  obtain ⟨w, ew, rw'⟩ := r.get h2
  have hl := r.length
  have hn := line63
  have fin : EP X pins σ Q w s := ⟨z, H, I, rw', q⟩
  exact subscriptTail_builtinR (x := w) pl.typeIs slot_tuple_getitem.lookup
    (getItem_tuple (j := j) (Q := fun r s' => r = w ∧ EP X pins σ Q r s') pl (by omega) (by omega) (by rw [List.size_toArray, ← hl]; exact h1) (by simpa using ew) ⟨rfl, fin⟩) hs
theorem ix_str : IxR X rIxS := by
  intro value slice pins s σ H x y v u Q I rx ry h hs
  obtain ⟨z, i, c, rfl, rfl, hz, he, q⟩ := h
  obtain ⟨t, rfl⟩ := rx
  obtain ⟨t', rfl⟩ := ry
  obtain ⟨j, h1, h2, h3, h4, h5⟩ := atI_get he
  have hl : z.cps.toList.length = z.length := by simp [Str.length]
  rw [hl] at h1 h4 h5
  have hn := line63
  exact tail_any (typeIs_str s z t) slot_str_getitem.lookup (getItem_str (c := c) (by
    have e1 : decide (i < -(2 ^ 63 : Int)) = false := decide_eq_false (by omega)
    have e2 : decide (i ≥ 2 ^ 63) = false := decide_eq_false (by omega)
    rw [e1, e2, Bool.or_false]) (by rw [h1]; simpa using h2) ⟨.str ⟨#[c]⟩, H, I.tok _, ⟨_, rfl⟩, q⟩) hs
def rIx (K : PySem.W.Frag) : R2 := fun x y H Q => rIxL K x y H Q ∨ rIxT K x y H Q ∨ rIxS x y H Q
theorem Inv.lst {pins : List (Addr × Obj)} {σ : St} {H : Hp} {s : Shared} {p : Addr} {xs : List V} (I : Inv X pins σ H s) (h : H p = some (.lst xs)) :
    ∃ (its : List Value) (n : Nat), Vals xs its ∧ s.heap.get? p = some { cls := .type "list", data := .seq its.toArray n } ∧ xs.length ≤ sizeLine := by
  obtain ⟨z, its, n, r, e⟩ := I.hok p _ h
  exact ⟨its, n, r, e, z⟩
def rSetL : V → V → V → Hp → (Hp → Prop) → Prop := fun o i v H Q => ∃ p xs k j, o = .ref p ∧ i = .int k ∧ H p = some (.lst xs) ∧ ixN xs.length k = some j ∧ Q (upd H p (.lst (xs.set j v)))
theorem slice_bounds (lo hi : Option Int) (n : Nat) : (sliceBounds lo hi none n).1 = ((HT.sIx n 0 lo : Nat) : Int) ∧ (sliceBounds lo hi none n).2.1 = ((HT.sIx n n hi : Nat) : Int) ∧ (sliceBounds lo hi none n).2.2 = 1 := by
  refine ⟨?_, ?_, rfl⟩
  · cases lo with
    | none => simp [sliceBounds, HT.sIx]
    | some i =>
      simp only [sliceBounds, HT.sIx, Option.getD_none, show (1 : Int) > 0 by decide, if_true]
      by_cases h : i < 0
      · simp only [h, if_true] <;> omega
      · simp only [h, if_false] <;> omega
  · cases hi with
    | none => simp [sliceBounds, HT.sIx]
    | some i =>
      simp only [sliceBounds, HT.sIx, Option.getD_none, show (1 : Int) > 0 by decide, if_true]
      by_cases h : i < 0
      · simp only [h, if_true] <;> omega
      · simp only [h, if_false] <;> omega
theorem slicePick_cut (its : List Value) (lo hi : Option Int) : slicePick its.toArray lo hi none = ((its.drop (HT.sIx its.length 0 lo)).take (HT.sIx its.length its.length hi - HT.sIx its.length 0 lo)).toArray := by
  obtain ⟨h1, h2, h3⟩ := slice_bounds lo hi its.toArray.size
  unfold slicePick
  rw [h1, h2, h3]
  simp only [sliceRange_one, pick_run, List.size_toArray] <;> rfl
def rSlL (K : PySem.W.Frag) : V → Option Int → Option Int → Hp → VK → Prop := fun x lo hi H Q => ∃ a xs, x = .ref a ∧ SqL K H a xs ∧ ∀ p, H p = none → Q (.ref p) (upd H p (.lst (cutV xs lo hi)))
theorem sl_list : SlR X (rSlL X.K) := by
  intro pins s σ H x v vl vu lo hi sl Q I rx hs pl pu h
  obtain ⟨a, xs, rfl, hx, q⟩ := h
  cases rx
  obtain ⟨its, r, ht, hz⟩ := I.list hx
  have hlen := r.length
  refine ⟨"list", _, slot_list_getitem.lookup, ht.isList.typeIs, ?_⟩
  refine wpAny_getItem_list_slice ht.isList hs pl pu .none (by simp) ?_ (by rw [List.size_toArray] <;> omega)
  rw [slicePick_cut, ← hlen]
  refine ⟨.ref s.heap.objs.size, _, I.laid (t' := s.toks) (o := .lst (cutV xs lo hi)) (fun b ob q => Heap.get?_push_of_some _ q) (Nat.le_refl _) ?_, rfl, q _ (I.hok.fresh (Nat.le_refl _))⟩
  exact ⟨Nat.le_trans (cutV_length xs lo hi) hz, _, 0, (r.drop (HT.sIx xs.length 0 lo)).take (HT.sIx xs.length xs.length hi - HT.sIx xs.length 0 lo), Heap.get?_push_size _ rfl⟩
def flatV : V → Bool
  | .non => true
  | .bl _ => true
  | .int _ => true
  | .str _ => true
  | _ => false
def eqV : V → V → Bool
  | .non, .non => true
  | .bl a, .bl b => a == b
  | .bl a, .int b => (if a then 1 else 0) == b
  | .int a, .bl b => a == (if b then 1 else 0)
  | .int a, .int b => a == b
  | .str a, .str b => a == b
  | _, _ => false
theorem eqAt_V {A : Around} {s : Shared} {y x : V} {u v : Value} (ry : RelV y u) (rx : RelV x v) (fy : flatV y = true) (fx : flatV x = true) : SeqAt.EqAt A s u v (eqV y x) := by
  cases y with
  | non =>
    cases ry
    cases x with
    | non => cases rx; exact SeqAt.EqAt.same _
    | bl b => cases rx; exact SeqAt.EqAt.none_bool b
    | int b => obtain ⟨t, rfl⟩ := rx; exact SeqAt.EqAt.none_int b t
    | str b => obtain ⟨t, rfl⟩ := rx; exact SeqAt.EqAt.none_str b t
    | _ => exact absurd (show false = true from fx) Bool.false_ne_true
  | bl a =>
    cases ry
    cases x with
    | non => cases rx; exact SeqAt.EqAt.bool_none a
    | bl b => cases rx; exact SeqAt.EqAt.bool_bool a b
    | int b => obtain ⟨t, rfl⟩ := rx; exact SeqAt.EqAt.bool_int a b t
    | str b => obtain ⟨t, rfl⟩ := rx; exact SeqAt.EqAt.bool_str a b t
    | _ => exact absurd (show false = true from fx) Bool.false_ne_true
  | int a =>
    obtain ⟨t', rfl⟩ := ry
    cases x with
    | non => cases rx; exact SeqAt.EqAt.int_none a t'
    | bl b => cases rx; exact SeqAt.EqAt.int_bool a t' b
    | int b => obtain ⟨t, rfl⟩ := rx; exact SeqAt.EqAt.int_int a t' b t
    | str b => obtain ⟨t, rfl⟩ := rx; exact SeqAt.EqAt.int_str a t' b t
    | _ => exact absurd (show false = true from fx) Bool.false_ne_true
  | str a =>
    obtain ⟨t', rfl⟩ := ry
    cases x with
    | non => cases rx; exact SeqAt.EqAt.str_none a t'
    | bl b => cases rx; exact SeqAt.EqAt.str_bool a t' b
    | int b => obtain ⟨t, rfl⟩ := rx; exact SeqAt.EqAt.str_int a t' b t
    | str b => obtain ⟨t, rfl⟩ := rx; exact SeqAt.EqAt.str_str a t' b t
    | _ => exact absurd (show false = true from fx) Bool.false_ne_true
  | _ => exact absurd (show false = true from fy) Bool.false_ne_true
def eqU (x : V) (u : Value) : Bool := match u with
  | .none => eqV .non x
  | .bool b => eqV (.bl b) x
  | .int i _ => eqV (.int i) x
  | .str z _ => eqV (.str z) x
  | _ => false
theorem eqU_of {x y : V} {u : Value} (r : RelV y u) (f : flatV y = true) : eqU x u = eqV y x := by
  cases y with
  | non => cases r; rfl
  | bl b => cases r; rfl
  | int i => obtain ⟨t, rfl⟩ := r; rfl
  | str z => obtain ⟨t, rfl⟩ := r; rfl
  | _ => exact absurd (show false = true from f) Bool.false_ne_true
theorem any_eqU {x : V} : ∀ {xs : List V} {us : List Value}, Vals xs us → xs.all flatV = true → us.any (eqU x) = xs.any fun y => eqV y x
  | _, _, .nil, _ => rfl
  | y :: xs, u :: us, .cons r t, f => by
    rw [List.all_cons, Bool.and_eq_true] at f
    rw [List.any_cons, List.any_cons, eqU_of r f.1, any_eqU t f.2]
theorem mem_eqAt {A : Around} {s : Shared} {x : V} {v : Value} (rx : RelV x v) (fx : flatV x = true) : ∀ {xs : List V} {us : List Value}, Vals xs us → xs.all flatV = true → ∀ u ∈ us, SeqAt.EqAt A s u v (eqU x u)
  | _, _, .nil, _ => fun u hu => by cases hu
  | y :: xs, u :: us, .cons r t, f => fun u' hu => by
    rw [List.all_cons, Bool.and_eq_true] at f
    rcases List.mem_cons.mp hu with rfl | hu
    · rw [eqU_of r f.1]; exact eqAt_V r rx f.1 fx
    · exact mem_eqAt rx fx t f.2 u' hu
def inV (x : V) (xs : List V) : Bool := xs.any fun y => eqV y x
def rIn (K : PySem.W.Frag) (neg : Bool) : R2 := fun x y H Q => ∃ p xs, y = .ref p ∧ (SqL K H p xs ∨ SqT K H p xs) ∧ flatV x = true ∧ xs.all flatV = true ∧ Q (.bl (if neg then !inV x xs else inV x xs)) H
theorem op_notIn_seq : OpR X (compareOp .NotIn) (rIn X.K true) := by
  intro pins s σ H x y v u Q I rx ry h
  obtain ⟨p, xs, rfl, hq, fx, fs, q⟩ := h
  cases ry
  rcases hq with hq | hq
  · obtain ⟨its, r, pl, hz⟩ := I.list hq
    refine SeqAt.notIn_listAt (eqU x) pl.isList (fun w hw => mem_eqAt rx fx r fs w (by simpa using hw)) ⟨.bl _, H, I, rfl, ?_⟩
    rw [show its.toArray.any (eqU x) = its.any (eqU x) by simp, any_eqU r fs]
    exact q
  · obtain ⟨its, r, pl, hz⟩ := I.tuple hq
    refine SeqAt.notIn_tupleAt (eqU x) pl (fun w hw => mem_eqAt rx fx r fs w (by simpa using hw)) ⟨.bl _, H, I, rfl, ?_⟩
    rw [show its.toArray.any (eqU x) = its.any (eqU x) by simp, any_eqU r fs]
    exact q
theorem call_len_seq : CallR X (.builtin "len") (fun xs H Q => ∃ p ys, xs = [.ref p] ∧ (SqL X.K H p ys ∨ SqT X.K H p ys) ∧ Q (.int ys.length) H) := by
  intro pins s σ H xs us Q I r h
  obtain ⟨p, ys, rfl, hq, q⟩ := h
  obtain ⟨u, rfl, rx⟩ := vals1 r
  cases rx
  have hn := line63
  rcases hq with hq | hq
  · obtain ⟨its, r', pl, hz⟩ := I.list hq
    have hlen := r'.length
    exact Calls.call_len_list pl.isList (by simp only [List.size_toArray] <;> omega) ⟨.int ys.length, H, I.tok _, ⟨s.toks + 1, by rw [List.size_toArray, hlen]⟩, q⟩
  · obtain ⟨its, r', pl, hz⟩ := I.tuple hq
    have hlen := r'.length
    exact len_tuple pl (by simp only [List.size_toArray] <;> omega) ⟨.int ys.length, H, I.tok _, ⟨s.toks + 1, by rw [List.size_toArray, hlen]⟩, q⟩
theorem call_len_str : CallR X (.builtin "len") (fun xs H Q => ∃ z, xs = [.str z] ∧ z.length ≤ sizeLine ∧ Q (.int z.length) H) := by
  intro pins s σ H xs us Q I r h
  obtain ⟨z, rfl, hz, q⟩ := h
  obtain ⟨u, rfl, t, rfl⟩ := vals1 r
  have hn := line63
  exact len_str (by omega) ⟨.int z.length, H, I.tok _, ⟨_, rfl⟩, q⟩
theorem CallR.or {f : Value} {r r' : List V → Hp → VK → Prop} (h : CallR X f r) (h' : CallR X f r') : CallR X f (fun xs H Q => r xs H Q ∨ r' xs H Q) := by
  intro pins s σ H xs us Q I rs q
  rcases q with q | q
  · exact h pins s σ H xs us Q I rs q
  · exact h' pins s σ H xs us Q I rs q
theorem call_list_of : CallR X (.type "list") (fun xs H Q => ∃ p ys, xs = [.ref p] ∧ (SqL X.K H p ys ∨ SqT X.K H p ys) ∧ ∀ l, H l = none → Q (.ref l) (upd H l (.lst ys))) := by
  intro pins s σ H xs us Q I r h
  obtain ⟨p, ys, rfl, hq, q⟩ := h
  obtain ⟨u, rfl, rx⟩ := vals1 r
  cases rx
  have fin : ∀ (its : List Value), Vals ys its → ys.length ≤ sizeLine → ∀ (h' : Heap) (c' : Nat), (∀ b o', s.heap.get? b = some o' → h'.get? b = some o') →
      h'.get? s.heap.objs.size = some { cls := .type "list", dict := none, data := .seq its.toArray c', slots := #[] } → EP X pins σ Q (.ref s.heap.objs.size) { s with heap := h' } := fun its r' hz h' c' kp e =>
    ⟨.ref s.heap.objs.size, _, I.laid (t' := s.toks) kp (Nat.le_refl _) (show ObjOk X.prog X.w _ h' _ (.lst ys) from ⟨hz, its, c', r', e⟩), rfl, q _ (I.hok.fresh (Nat.le_refl _))⟩
  rcases hq with hq | hq
  · obtain ⟨its, r', pl, hz⟩ := I.list hq
    have hlen := r'.length
    obtain ⟨o, ho, hc, n, hd⟩ := pl.isList
    exact call_list_seq p (.inl rfl) ho hc hd (fun h' c' kp e => fin its r' hz h' c' kp e) (by simp only [List.size_toArray] <;> omega)
  · obtain ⟨its, r', pl, hz⟩ := I.tuple hq
    have hlen := r'.length
    obtain ⟨o, ho, hc, n, hd⟩ := pl
    exact call_list_seq p (.inr rfl) ho hc hd (fun h' c' kp e => fin its r' hz h' c' kp e) (by simp only [List.size_toArray] <;> omega)
def tyV (K : PySem.W.Frag) (T : String) (x : V) (H : Hp) : Prop := match x with
  | .str _ => T = "str"
  | .int _ => T = "int"
  | .ref p => (T = "list" ∧ ∃ xs, SqL K H p xs) ∨ (T = "tuple" ∧ ∃ o, K.lookup p = some o ∧ o.cls = .type "tuple" ∧ o.dict = none) ∨
      (T = "dict" ∧ ((∃ kvs, H p = some (.dK kvs)) ∨ ∃ kvs, H p = some (.dT kvs))) ∨ (T = "set" ∧ ∃ S n, H p = some (.set S n))
  | _ => False
theorem tyV_is {pins : List (Addr × Obj)} {σ : St} {H : Hp} {s : Shared} {T : String} {x : V} {v : Value} (I : Inv X pins σ H s) (r : RelV x v) (ty : tyV X.K T x H) :
    s.TypeIs v T ∧ ∀ a, v = .ref a → ∃ ob, s.heap.get? a = some ob ∧ ob.dict = none := by
  cases x with
  | str z =>
    obtain ⟨t, rfl⟩ := r
    cases (show T = "str" from ty)
    exact ⟨typeIs_str s z t, fun _ e => nomatch e⟩
  | int i =>
    obtain ⟨t, rfl⟩ := r
    cases (show T = "int" from ty)
    exact ⟨typeIs_int s i t, fun _ e => nomatch e⟩
  | ref p =>
    cases r
    rcases ty with ⟨rfl, xs, hq⟩ | ⟨rfl, o, hk, hc, hd⟩ | ⟨rfl, hk⟩ | ⟨rfl, S, n, hk⟩
    · obtain ⟨its, _, pl, _⟩ := I.list hq
      refine ⟨pl.isList.typeIs, fun a e => ?_⟩
      cases e
      obtain ⟨o, n, e, c, hd, _⟩ := pl
      exact ⟨o, e, hd⟩
    · refine ⟨⟨o, I.kIn p o hk, hc⟩, fun a e => ?_⟩
      cases e
      exact ⟨o, I.kIn _ o hk, hd⟩
    · have z : ∃ o, s.heap.get? p = some o ∧ o.ExactDict := by
        rcases hk with ⟨kvs, hk⟩ | ⟨kvs, hk⟩
        · obtain ⟨_, _, _, _, o, _, _, e, ex, _⟩ := I.hok p _ hk
          exact ⟨o, e, ex⟩
        · obtain ⟨_, _, _, _, o, _, _, e, ex, _⟩ := I.hok p _ hk
          exact ⟨o, e, ex⟩
      obtain ⟨o, e, ex⟩ := z
      refine ⟨⟨o, e, ex.1⟩, fun a e2 => ?_⟩
      cases e2
      exact ⟨o, e, ex.2.1⟩
    · obtain ⟨o, _, _, _, e, ex, _⟩ := I.hok p _ hk
      refine ⟨⟨o, e, ex.1⟩, fun a e2 => ?_⟩
      cases e2
      exact ⟨o, e, ex.2.1⟩
  | _ => exact False.elim ty
def tBM0 (K : PySem.W.Frag) (T : String) (r : V → List V → Hp → VK → Prop) (to : TE) : TE := fun σ H Q => to σ H fun x H1 => tyV K T x H1 ∧ r x [] H1 Q
def tBM (K : PySem.W.Frag) (T : String) (r : V → List V → Hp → VK → Prop) (to : TE) (t : TA) : TE := fun σ H Q => to σ H fun x H1 => tyV K T x H1 ∧ t σ H1 fun xs H2 => r x xs H2 Q
variable {o e : Expr} {es : List Expr} {to : TE} {t : TA} {name : Str} {apos cpos : Pos} {T id : String} {r : V → List V → Hp → VK → Prop}
theorem pe_bm (pa : PlainAttrs T) (slot : Slot T name id) (hty : typeOf (.builtin id) = pure (.type "method_descriptor")) (hm : MtR X id r) (ho : PE X o to) (ha : PA X (e :: es) t)
    (hbase : attributeBase o name X.env (eval o X.env) = eval o X.env := by rfl)
    (hfew : ((backTo cpos (starEach (e :: es) X.env)).all (fun x => !x.1) && (backToKw cpos (keywordEach [] X.env)).all (fun x => x.1.isSome)
      && decide ((e :: es).length + ([] : List Keyword).length + (if ([] : List Keyword).isEmpty then 0 else 1) < 30)) = true := by rfl)
    (hline : (apos.endLine == cpos.line) = true := by rfl) (hs : starEach (e :: es) X.env = (false, eval e X.env) :: starEach es X.env := by rfl) (hplain : (backTo cpos (starEach es X.env)).any (·.1) = false := by rfl) :
    PE X (.Call (.Attribute o name apos) (e :: es) [] cpos) (tBM X.K T r to t) := by
  intro pins s σ H Q I h
  refine wpAny_Call_method_late hbase hfew hline rfl (thn (ho pins s σ H _ I h) fun v s1 ⟨x, H1, I1, r1, ty, q1⟩ => ?_)
  obtain ⟨h1, h2⟩ := tyV_is I1 r1 ty
  refine ⟨T, id, pa, slot, hty, h1, h2, ?_⟩
  have hA := ha cpos pins s1 σ H1 _ I1 q1
  rw [hs] at hA ⊢
  refine Calls.callWith_builtin (by show (false || (backTo cpos (starEach es X.env)).any (·.1)) = false; rw [hplain] <;> rfl) (Calls.evalArgs_plain ?_)
  exact thn hA fun us s2 ⟨vs, H2, I2, r2, q2⟩ => hm pins s2 σ H2 x vs v us Q I2 r1 r2 q2
end
end L2
namespace L2
open PySem PySem.Spec PyProof.Rows
def MtM (X : Cx) (id : String) (r : V → List V → Hp → VK → Prop) : Prop :=
  ∀ (pins : List (Addr × Obj)) (s : Shared) (σ : St) (H : Hp) (x : V) (xs : List V) (v : Value) (us : List Value) (Q : VK), Inv X pins σ H s → RelV x v → Vals xs us → r x xs H Q →
    wpAny (model X.prog X.w) X.A (call (.builtin id) (v :: us)) (EP X pins σ Q) X.xe s
theorem Vals.one : ∀ {x : V} {us : List Value}, Vals [x] us → ∃ u, us = [u] ∧ RelV x u
  | _, _, .cons r .nil => ⟨_, rfl, r⟩
theorem Vals.zero : ∀ {us : List Value}, Vals [] us → us = []
  | _, .nil => rfl
section
variable {X : Cx} {pins : List (Addr × Obj)} {σ : St} {H : Hp} {s : Shared} {l b : Addr} {xs ys zs : List V}
theorem Inv.lset {its its' : List Value} {n : Nat} {f : Array Value → Array Value} {t' : Nat} (I : Inv X pins σ H s) (hH : H l = some (.lst xs))
    (e : s.heap.get? l = some { cls := .type "list", data := .seq its.toArray n }) (hf : f its.toArray = its'.toArray) (hv : Vals ys its') (hz : ys.length ≤ sizeLine) :
    Inv X pins σ (upd H l (.lst ys)) { s with heap := s.heap.update l (Obj.mapSeq f), toks := t' } := by
  have q := PySem.IsL.update e f
  rw [hf] at q
  refine I.write (x := l) (e := l) (by rw [hH]; exact trivial) (.inl rfl) (fun b' u hb hu => (Heap.get?_update_other s.heap (Obj.mapSeq f) (Ne.symm hb)).trans hu) ⟨_, q⟩ ?_
  exact ⟨hz, its', _, hv, q⟩
theorem Inv.lnew {its : List Value} {t' : Nat} (I : Inv X pins σ H s) (hv : Vals ys its) (hz : ys.length ≤ sizeLine) :
    Inv X pins σ (upd H s.heap.objs.size (.lst ys)) { s with heap := s.heap.push { cls := .type "list", data := .seq its.toArray }, toks := t' } :=
  I.laid (fun _ _ q => Heap.get?_push_of_some _ q) (Nat.le_refl _) ⟨hz, its, 0, hv, Heap.get?_push_size _ rfl⟩
theorem Inv.fresh (I : Inv X pins σ H s) : H s.heap.objs.size = none := I.hok.fresh (Nat.le_refl _)
theorem Inv.lstM (I : Inv X pins σ H s) (hH : H l = some (.lst xs)) : xs.length ≤ sizeLine ∧ ∃ (its : List Value) (n : Nat), Vals xs its ∧ xs.length = its.length ∧ s.heap.get? l = some { cls := .type "list", data := .seq its.toArray n } := by
  obtain ⟨z, its, n, r, e⟩ := I.hok l _ hH
  exact ⟨z, its, n, r, r.length, e⟩
theorem notLongL {n : Nat} (h : n ≤ sizeLine) : Builtin.List.listTooLong n = false := by
  unfold Builtin.List.listTooLong
  exact decide_eq_false (by omega)
end
section
variable {X : Cx}
def rAppend : V → List V → Hp → VK → Prop := fun x vs H Q => ∃ l xs y, x = .ref l ∧ vs = [y] ∧ H l = some (.lst xs) ∧ xs.length < sizeLine ∧ Q .non (upd H l (.lst (xs ++ [y])))
theorem mt_append : MtM X "list.append" rAppend := by
  intro pins s σ H x vs v us Q I rx rv h
  obtain ⟨l, xs, y, rfl, rfl, hH, hz, q⟩ := h
  cases rx
  obtain ⟨u, rfl, ru⟩ := rv.one
  obtain ⟨z, its, n, r, hl, e⟩ := I.lstM hH
  refine call_meets F.slot_list_append ⟨_, e, rfl⟩ F.entry_list_append (F.args_list_append_2 _ _) (PySem.list_append l its.toArray n u (by rw [List.size_toArray]; omega)) ⟨e, ?_⟩
  refine ⟨.non, _, I.lset (its' := its ++ [u]) hH e (by simp) (r.append (.cons ru .nil)) ?_, rfl, q⟩
  rw [List.length_append, List.length_singleton]
  omega
def rExtend : V → List V → Hp → VK → Prop := fun x vs H Q => ∃ l b xs zs, x = .ref l ∧ vs = [.ref b] ∧ H l = some (.lst xs) ∧ H b = some (.lst zs) ∧ xs.length + zs.length ≤ sizeLine ∧ Q .non (upd H l (.lst (xs ++ zs)))
theorem mt_extend : MtM X "list.extend" rExtend := by
  intro pins s σ H x vs v us Q I rx rv h
  obtain ⟨l, b, xs, zs, rfl, rfl, hH, hB, hz, q⟩ := h
  cases rx
  obtain ⟨u, rfl, ru⟩ := rv.one
  cases ru
  obtain ⟨z, its, n, r, hl, e⟩ := I.lstM hH
  obtain ⟨z2, its2, n2, r2, hl2, e2⟩ := I.lstM hB
  have hsz : its.toArray.size + its2.toArray.size ≤ sizeLine := by rw [List.size_toArray, List.size_toArray]; omega
  have hlong : ¬ (!its.toArray.isEmpty && Builtin.List.listTooLong (its.toArray.size + its2.toArray.size)) = true := by
    rw [notLongL hsz, Bool.and_false]
    exact Bool.false_ne_true
  refine call_meets F.slot_list_extend ⟨_, e, rfl⟩ F.entry_list_extend (F.args_list_extend_2 _ _)
    (AutoSeq1.list_extend_list_list_0 l its.toArray n b its2.toArray n2 hlong (by rw [List.size_toArray]; omega) (by omega)) ⟨e, e2, ?_⟩
  refine ⟨.non, _, I.lset (its' := its ++ its2) hH e (by simp) (r.append r2) ?_, rfl, q⟩
  rw [List.length_append]
  omega
def rPop : V → List V → Hp → VK → Prop := fun x vs H Q => ∃ l xs y, x = .ref l ∧ vs = [] ∧ H l = some (.lst xs) ∧ xs[xs.length - 1]? = some y ∧ Q y (upd H l (.lst xs.dropLast))
def rPopAt : V → List V → Hp → VK → Prop := fun x vs H Q => ∃ l xs i k y, x = .ref l ∧ vs = [.int i] ∧ H l = some (.lst xs) ∧ -(2 ^ 63) ≤ i ∧ i < 2 ^ 63 ∧ seqIndex? i xs.length = some k ∧ xs[k]? = some y ∧ Q y (upd H l (.lst (xs.eraseIdx k)))
def rReverse : V → List V → Hp → VK → Prop := fun x vs H Q => ∃ l xs, x = .ref l ∧ vs = [] ∧ H l = some (.lst xs) ∧ Q .non (upd H l (.lst xs.reverse))
def rClear : V → List V → Hp → VK → Prop := fun x vs H Q => ∃ l xs, x = .ref l ∧ vs = [] ∧ H l = some (.lst xs) ∧ Q .non (upd H l (.lst []))
def rCat : R2 := fun x y H Q => ∃ l b xs zs, x = .ref l ∧ y = .ref b ∧ H l = some (.lst xs) ∧ H b = some (.lst zs) ∧ xs.length + zs.length ≤ sizeLine ∧ ∀ p, H p = none → Q (.ref p) (upd H p (.lst (xs ++ zs)))
theorem op_cat : OpR X (binaryOp .Add) rCat := by
  intro pins s σ H x y v u Q I rx ry h
  obtain ⟨l, b, xs, zs, rfl, rfl, hH, hB, hz, q⟩ := h
  cases rx
  cases ry
  obtain ⟨z, its, n, r, hl, e⟩ := I.lstM hH
  obtain ⟨z2, its2, n2, r2, hl2, e2⟩ := I.lstM hB
  refine PySem.P.add_list e e2 ?_ (by rw [List.size_toArray, List.size_toArray]; omega)
  have ea : its.toArray ++ its2.toArray = (its ++ its2).toArray := by simp
  rw [ea]
  exact ⟨.ref _, _, I.lnew (t' := s.toks) (r.append r2) (by rw [List.length_append]; omega), rfl, q _ I.fresh⟩
def rRep : R2 := fun x y H Q => ∃ l k xs, x = .ref l ∧ y = .int k ∧ H l = some (.lst xs) ∧ -(2 ^ 63) ≤ k ∧ k < 2 ^ 63 ∧ xs.length * k.toNat ≤ sizeLine ∧
  ∀ p, H p = none → Q (.ref p) (upd H p (.lst (List.replicate k.toNat xs).flatten))
end
section
variable {prog : Program} {w : World} {A : Around} {E : Value → Shared → Prop} {s : Shared}
set_option maxRecDepth 100000 in
end
section
variable {X : Cx}
end
end L2
namespace Att
open PySem PySem.W PySem.Calls PyProof.Rows
theorem ints_of_wellAll {P : Params} {h : Heap} : ∀ (ns : List Int) (vs : List Value), WellAll P h vs (ns.map WData.int) → IntsAre vs ns := by
  intro ns
  induction ns with
  | nil =>
    intro vs w
    rw [List.map_nil] at w
    cases w
    exact .nil
  | cons n ns ih =>
    intro vs w
    rw [List.map_cons] at w
    cases w with
    | cons a b =>
      cases a
      exact .cons _ _ (ih _ b)
theorem script_of {l : OpenLaw} {n : Nat} (hn : l.most = some n) {P : Params} {h : Heap} {args : List WData} {vals : List Value}
    (hpre : l.row.toRowW.claim.pre args = true) (hwl : WellAll P h vals args) :
    ∃ a vs ns, vals = [Value.ref a] ∧ args = [WData.list (ns.map WData.int)] ∧ h.get? a = some { cls := .type "list", data := .seq vs.toArray } ∧ IntsAre vs ns ∧ ns.length ≤ n := by
  have hsh : WShape.hasAll [] args [.list .int] = true := (pre_splitW hpre).1
  have hc : l.pre.holds [] { args := args } = true := (pre_splitW hpre).2
  obtain ⟨d, r, rfl, h1, h2⟩ := hasAllW_cons hsh
  obtain rfl := hasAllW_nil h2
  obtain ⟨xs, rfl, h3⟩ := hasW_list h1
  obtain ⟨ns, rfl⟩ := items_int h3
  have hlen : ns.length ≤ n := by
    unfold OpenLaw.pre at hc
    have h4 : (WTm.not (.lt (.lit (.int (n : Int))) (.len (.arg 0)))).holds [] { args := [.list (ns.map .int)] } = true := by
      have h4 := (holds_andW hc).1
      rw [hn] at h4
      exact h4
    have h5 := condW_of h4 (w_not (w_lt w_lit (w_len_list (w_arg rfl))))
    rw [List.length_map] at h5
    refine Nat.le_of_not_lt fun q => ?_
    have q' : (n : Int) < ((ns.length : Nat) : Int) := by omega
    first
      | (rw [decide_eq_true q'] at h5; exact absurd h5 (by decide))
      | (simp at h5; omega)
  cases hwl with
  | cons w1 w2 =>
    cases w2
    cases w1 with
    | list ho hall => exact ⟨_, _, ns, rfl, rfl, ho, ints_of_wellAll ns _ hall, hlen⟩
theorem post_true (l : OpenLaw) (args : List WData) : l.row.toRowW.claim.post args (.bool true) args = true :=
  postW_of (r := l.row.toRowW) (X := (true == true))
    (show WShape.has [] (.bool true) .bool = true by first | rfl | decide | simp [WShape.has, WShape.arms, WShape.armsAll])
    (show (WTm.eq .res (.lit (.bool true))).value [] { args := args, res := some (.bool true), after := args } = some (.bool (true == true)) from w_eq_bool (w_res rfl) w_lit) rfl
theorem attach_call {l : OpenLaw} {n : Nat} {q : Program} {loose : List Str} {XP : (Str → Option Value) → Heap → Prop} {YP : World → Heap → Prop} {d : DefRec}
    (hn : l.most = some n) (hdf : d.params.defaults = [])
    (call : ∀ (w : World) (s₀ s₁ : Shared) (mg mb : Str → Option Value) (fa : Addr) (o : Obj) (pm cd doc : Value) (a : Addr) (vs : List Value) (ns : List Int),
      Ground q loose [] XP w s₀ mg mb s₁.heap → YP w s₁.heap →
      s₁.heap.get? fa = some o → o.data = .func (docDef d.name d.params d.body d.scope pm cd doc) → s₁.heap.CodeRec cd d.name → mg d.name = some (.ref fa) →
      s₁.heap.get? a = some { cls := .type "list", data := .seq vs.toArray } → IntsAre vs ns → ns.length ≤ n → s₁.gens = #[] →
      codeAny (model l.prog w) callerA (.call (.ref fa) ⟨[.ref a], []⟩) (fun r s' => r = .ok (.ret (.bool true)) ∧ OldK s₁.heap s'.heap ∧ s'.os = s₁.os ∧ AllBare s'.gens) s₁) :
    WalkO q loose XP YP l.row.toRowW d [] (fun f vs => PySem.call f vs) := by
  intro w s₀ s₁ mg mb G Y fa o pm cd doc dV kV ho hd hcd hD hmg hg args vals as hpre hlay hrd hwl hlo
  obtain rfl : dV = .none := Dflts.none hD hdf
  obtain rfl : kV = .none := Dflts.noKw hD
  obtain ⟨a, vs, ns, rfl, rfl, hobj, hints, hlen⟩ := script_of hn hpre hwl
  refine enter_call (codeAny_mono (call w s₀ s₁ mg mb fa o pm cd doc a vs ns G Y ho (fd_plain hd) hcd hmg hobj hints hlen hg) fun r s' hq => ?_)
  obtain ⟨rfl, h2, h3, h4⟩ := hq
  exact ⟨.inl ⟨.bool true, .bool true, [], rfl, fun _ => rfl, .bool true, post_true l _, fun _ => ⟨List.Pairwise.nil, fun _ hm => (nomatch hm)⟩⟩, h2, h3, h4⟩
section
variable {prog : Program} {w : World} {A : Around} {E : Value → Shared → Prop} {s : Shared} {K : Frag}
def noObjs (h : Heap) : Heap := { h with objs := #[] }
def ledger (h : Heap) (L d : Addr) : List (Addr × Obj) := (List.range h.objs.size).filterMap fun a => if a = L ∨ a = d then none else (h.get? a).map fun o => (a, o)
end
end Att
namespace L2
open PySem PySem.Spec PyProof.Rows
theorem vals_ints : ∀ {vs : List Value} {ns : List Int}, IntsAre vs ns → Vals (ns.map V.int) vs
  | _, _, .nil => .nil
  | _, _, .cons n t h => .cons ⟨t, rfl⟩ (vals_ints h)
def Only (H : Hp) : Prop := ∀ b, H b = none ∨ ∃ o xs, H b = some (.frz o (.lst xs))
theorem law_call {P : Program} {w : World} {K : PySem.W.Frag} {mg mb : Str → Option Value} {CX : CXT} {k : Nat} {fa a : Addr} {fd : FuncData} {x : Str} {sp : Sp} {s₁ : Shared} {vs : List Value} {ns : List Int}
    (KX : K.In s₁.heap) (hns : s₁.heap.Ns mainGlobals mg) (hb : s₁.heap.Ns builtinsNs mb) (hbb : ∀ x : Str, x ≠ "__name__" → mb x = bootBuiltins x) (hlim : s₁.heap.NoLimit) (hg : s₁.gens = #[])
    (ha : s₁.heap.get? a = some { cls := .type "list", data := .seq vs.toArray }) (hi : IntsAre vs ns) (hl : ns.length ≤ sizeLine) (hr : Room k callerA)
    (F : ∀ base : Heap, K.In base → base.Ns mainGlobals mg → FnOk P w K mg base CX k fa fd [x] sp) (hbind : ∀ (s : Shared) (u : Value), BindsTo s fd ⟨[u], []⟩ [(x, u)])
    (hsp : ∀ H : Hp, Only H → SqL K H a (ns.map V.int) → sp [.ref a] H (fun v _ => v = .bl true) fun _ _ _ => False)
    (hCX : ∀ H e s', CX [] H s₁ (fun _ _ _ => False) e s' → False) :
    codeAny (model P w) callerA (.call (.ref fa) ⟨[.ref a], []⟩) (fun r s' => r = .ok (.ret (.bool true)) ∧ OldK s₁.heap s'.heap ∧ s'.os = s₁.os ∧ AllBare s'.gens) s₁ := by
  have rv := vals_ints hi
  have lenV := hi.length
  have core : ∀ H : Hp, Only H → SqL K H a (ns.map V.int) → HOk P w H s₁.heap → (∀ b, H b ≠ none → b = a) → (H a ≠ none → K.lookup a = none) →
      codeAny (model P w) callerA (.call (.ref fa) ⟨[.ref a], []⟩) (fun r s' => r = .ok (.ret (.bool true)) ∧ OldK s₁.heap s'.heap ∧ s'.os = s₁.os ∧ AllBare s'.gens) s₁ := by
    intro H hO hS hok hA hK
    have base_of : ∀ {b : Addr} {o : Obj}, s₁.heap.get? b = some o → H b = none → (hidT s₁.heap H).get? b = some o := fun e n => hidT_get e n
    have noA : ∀ {b : Addr} {o : Obj} {es : Array DictEntry} {ep : Nat}, s₁.heap.get? b = some o → o.data = .dict es ep → H b = none := fun {b o es ep} e d => by
      cases q : H b with
      | none => rfl
      | some u =>
        have e' : b = a := hA b (by rw [q]; simp)
        subst e'
        rw [ha] at e; cases e
        have d' : Data.seq vs.toArray _ = Data.dict es ep := d
        cases d'
    have nsK : ∀ {b : Addr} {m : Str → Option Value}, s₁.heap.Ns b m → (hidT s₁.heap H).Ns b m := fun {b m} ⟨o, es, ep, e, d, r⟩ => ⟨o, es, ep, base_of e (noA e d), d, r⟩
    have hKb : K.In (hidT s₁.heap H) := fun b o e => base_of (KX b o e) (by
      cases q : H b with
      | none => rfl
      | some u =>
        have e' : b = a := hA b (by rw [q]; simp)
        subst e'
        rw [hK (by rw [q]; simp)] at e; cases e)
    have hM : Mod K mg (hidT s₁.heap H) := ⟨hKb, nsK hns, ⟨mb, nsK hb, hbb⟩, let ⟨mc, h1, h2⟩ := hlim; ⟨mc, nsK h1, h2⟩⟩
    have e0 : Env0 P w K mg (hidT s₁.heap H) callerA [] s₁ H := ⟨rfl, hM, fun b o e => of_hidT e, Nat.le_of_eq (hidT_size _ _), trivial, fun b hb => absurd (show b ∈ ([] : List Addr) from hb) (by simp), hok, .of_eq hg⟩
    refine codeAny_mono ((F _ hKb (nsK hns)).run callerA [] s₁ H ⟨[.ref a], []⟩ [.ref a] [.ref a] _ _ hr e0 (hbind s₁ (.ref a)) (.cons rfl .nil) (hsp H hO hS)) fun r s' h => ?_
    cases r with
    | error e => exact (hCX H e s' h).elim
    | ok fl =>
      cases fl with
      | next => exact False.elim h
      | brk => exact False.elim h
      | cont => exact False.elim h
      | ret u =>
        obtain ⟨v, H', os, bare, un, hok', r', q⟩ := h
        have q' : v = .bl true := q
        subst q'
        obtain rfl : u = Value.bool true := r'
        refine ⟨rfl, OldK.of_keep fun b o e => ?_, os, bare⟩
        cases q : H b with
        | none => exact un.keep b o e q (by intro z; exact absurd (show b ∈ ([] : List Addr) from z) (by simp)) (by simp)
        | some u =>
          rcases hO b with z | ⟨ob, xs, z⟩
          · rw [q] at z; cases z
          · have z2 := un.frzs b ob _ z
            obtain ⟨e1, _⟩ := hok b _ z
            obtain ⟨e2, _⟩ := hok' b _ z2
            rw [e] at e1; cases e1
            exact e2
  cases hk : K.lookup a with
  | some o =>
    have e := KX a o hk
    rw [ha] at e
    cases e
    refine core (fun _ => none) (fun _ => .inl rfl) (.inr ⟨_, vs.toArray, _, hk, rfl, rfl, rfl, by rw [List.size_toArray, lenV]; exact hl, by simpa using rv⟩) (fun b u z => by have z' : (none : Option HO) = some u := z; cases z') (fun b z => absurd rfl z) fun z => absurd rfl z
  | none =>
    refine core (fun b => if b = a then some (.frz { cls := .type "list", data := .seq vs.toArray } (.lst (ns.map V.int))) else none) (fun b => ?_) (.inl (.inr ⟨{ cls := .type "list", data := .seq vs.toArray }, if_pos rfl⟩)) (fun b u z => ?_) (fun b z => ?_) fun _ => hk
    · by_cases hb : b = a
      · exact .inr ⟨_, _, if_pos hb⟩
      · exact .inl (if_neg hb)
    · by_cases hb : b = a
      · have z' := (if_pos hb).symm.trans z
        cases z'
        subst hb
        exact ⟨ha, by rw [List.length_map]; exact hl, vs, _, rv, ha⟩
      · have z' := (if_neg hb).symm.trans z
        cases z'
    · by_cases hb : b = a
      · exact hb
      · exact absurd (if_neg hb) z
end L2
namespace L2
open PySem PySem.Spec PyProof.Rows
abbrev KOf {K : PySem.W.Frag} {h : Heap} (_ : K.In h) : PySem.W.Frag := K
theorem walk_of {l : PySem.W.OpenLaw} {n k : Nat} {q : Program} {loose : List Str} {XP : (Str → Option Value) → Heap → Prop} {YP : World → Heap → Prop} {d : DefRec} {K : Params → PySem.W.Frag} {CX : World → CXT} {sp : World → Sp} {x : Str}
    (hn : l.most = some n) (hn2 : n ≤ sizeLine) (hdf : d.params.defaults = []) (hr : Room k callerA)
    (hY : ∀ (w : World) (h : Heap), YP w h → (K w.params).In h)
    (F : ∀ (w : World) (mg : Str → Option Value) (fa : Addr) (h : Heap), (K w.params).In h → h.Ns mainGlobals mg → mg d.name = some (.ref fa) →
      ∃ fd : FuncData, (∀ (s : Shared) (u : Value), BindsTo s fd ⟨[u], []⟩ [(x, u)]) ∧
        ∀ base : Heap, (K w.params).In base → base.Ns mainGlobals mg → FnOk l.prog w (K w.params) mg base (CX w) k fa fd [x] (sp w))
    (hsp : ∀ (w : World) (H : Hp) (a : Addr) (ns : List Int), ns.length ≤ n → Only H → SqL (K w.params) H a (ns.map V.int) → sp w [.ref a] H (fun v _ => v = .bl true) fun _ _ _ => False)
    (hCX : ∀ (w : World) (H : Hp) (s : Shared) (e : Value) (s' : Shared), CX w [] H s (fun _ _ _ => False) e s' → False) :
    PySem.W.WalkO q loose XP YP l.row.toRowW d [] (fun f vs => PySem.call f vs) := by
  refine Att.attach_call hn hdf fun w s₀ s₁ mg mb fa o pm cd doc a vs ns G Y ho hd hcd hmg hobj hints hlen hg => ?_
  have KX := hY w _ Y
  obtain ⟨fd, hb, hF⟩ := F w mg fa _ KX G.T.g hmg
  exact law_call KX G.T.g G.T.b G.T.builtins G.T.nolimit hg hobj hints (Nat.le_trans hlen hn2) hr hF hb (fun H hO hS => hsp w H a ns hlen hO hS) fun H e s' => hCX w H s₁ e s'
theorem walk_ofK {l : PySem.W.OpenLaw} {n k : Nat} {q : Program} {loose : List Str} {XP : (Str → Option Value) → Heap → Prop} {YP : World → Heap → Prop} {d : DefRec} {K : Params → PySem.W.Frag} {CX : CXT} {sp : PySem.W.Frag → Sp} {x : Str}
    (hn : l.most = some n) (hn2 : n ≤ sizeLine) (hdf : d.params.defaults = []) (hr : Room k callerA)
    (hY : ∀ (w : World) (h : Heap), YP w h → (K w.params).In h)
    (F : ∀ (w : World) (mg : Str → Option Value) (fa : Addr) (h : Heap), (K w.params).In h → h.Ns mainGlobals mg → mg d.name = some (.ref fa) →
      ∃ fd : FuncData, (∀ (s : Shared) (u : Value), BindsTo s fd ⟨[u], []⟩ [(x, u)]) ∧
        ∀ base : Heap, (K w.params).In base → base.Ns mainGlobals mg → FnOk l.prog w (K w.params) mg base CX k fa fd [x] (sp (K w.params)))
    (hsp : ∀ (K : PySem.W.Frag) (H : Hp) (a : Addr) (ns : List Int), ns.length ≤ n → Only H → SqL K H a (ns.map V.int) → sp K [.ref a] H (fun v _ => v = .bl true) fun _ _ _ => False)
    (hCX : ∀ (H : Hp) (s : Shared) (e : Value) (s' : Shared), CX [] H s (fun _ _ _ => False) e s' → False) :
    PySem.W.WalkO q loose XP YP l.row.toRowW d [] (fun f vs => PySem.call f vs) :=
  walk_of (K := K) (CX := fun _ => CX) (sp := fun w => sp (K w.params)) hn hn2 hdf hr hY F (fun w H a ns h1 h2 h3 => hsp (K w.params) H a ns h1 h2 h3) fun _ H s e s' => hCX H s e s'
end L2
namespace L2
open PySem PySem.Spec PyProof.Rows
def inClass (s : Stmt) (j : Nat) : Stmt := match s with
  | .ClassDef _ _ _ body _ _ _ _ _ _ _ => body.getD j (.Pass ⟨0, 0, 0, 0⟩)
  | _ => .Pass ⟨0, 0, 0, 0⟩
def defArgs (s : Stmt) : Arguments := match s with
  | .FunctionDef _ a _ _ _ _ _ _ _ _ => a
  | _ => { posonlyargs := [], args := [], vararg := none, kwonlyargs := [], kw_defaults := [], kwarg := none, defaults := [] }
def defBody (s : Stmt) : List Stmt := match s with
  | .FunctionDef _ _ b _ _ _ _ _ _ _ => b
  | _ => []
def defScope (s : Stmt) : Scope := match s with
  | .FunctionDef _ _ _ _ _ _ sc _ _ _ => sc
  | _ => { kind := .function, names := [], isGenerator := false, isCoroutine := false }
abbrev CX0 : CXT := fun _ _ _ _ _ _ => False
abbrev E0 : XK := fun _ _ _ => False
theorem pass0 {X : Cx} : Passes CX0 X E0 := fun _ _ _ _ _ _ _ h => h.elim
structure Fun (K : PySem.W.Frag) (x qual : Str) (st : Stmt) (f : Addr) (fd : FuncData) : Prop where
  ex : ∃ (oc : Value) (od : Option Addr) (kV doc pm : Value) (an : Option Addr) (cdv ct : Value) (osl : Array (Option Value)),
    fd = PySem.W.fnOf x qual (defArgs st) (defBody st) (defScope st) .none kV doc pm an cdv ct ∧ K.lookup f = some ⟨oc, od, .func fd, osl⟩ ∧ PySem.W.codeIn K cdv qual = true
  kp : PySem.W.keepIn K (.ref f) = true
section
variable {P : Program} {w : World} {K : PySem.W.Frag} {mg : Str → Option Value} {base : Heap}
theorem Fun.ok {x qual : Str} {st : Stmt} {f : Addr} {fd : FuncData} {N ps : List Str} {k : Nat} {sp : Sp} (F : Fun K x qual st f fd) (S : FnScope N ps (defScope st)) (len : ∀ vs H Q E, sp vs H Q E → vs.length = ps.length)
    (hbody : ∀ (cdv : Value) (A : Around) (outer : List Env) (s : Shared) (H : Hp) (vs : List V) (Q : VK) (E : XK), Room k (A.deeper (envOfC qual (defScope st) s.heap.objs.size f cdv)) → sp vs H Q E →
      ∃ t, PSs (cxOf CX0 P w K mg base N qual (defScope st) f cdv A outer s H E).nox (defBody st) t ∧ t { nx := fun _ H' => Q .non H', rt := Q } (start N vs) H) : FnOk P w K mg base CX0 (k + 1) f fd ps sp := by
  obtain ⟨oc, od, kV, doc, pm, an, cdv, ct, osl, rfl, lk, hcd⟩ := F.ex
  refine fn_of lk hcd S len fun A outer s H vs Q E hr hsp => ?_
  obtain ⟨t, h, q⟩ := hbody cdv A outer s H vs Q E hr hsp
  exact ⟨t, h.nox, q⟩
theorem Fun.binds {x qual : Str} {st : Stmt} {f : Addr} {fd : FuncData} {ps : List Str} (F : Fun K x qual st f fd)
    (h : ∀ (kV doc pm : Value) (an : Option Addr) (cdv ct : Value) (us : List Value), us.length = ps.length → bindArgs (PySem.W.fnOf x qual (defArgs st) (defBody st) (defScope st) .none kV doc pm an cdv ct) ⟨us, []⟩ = pure (ps.zip us)) : Binds K fd ps [] := by
  obtain ⟨oc, od, kV, doc, pm, an, cdv, ct, osl, rfl, lk, hcd⟩ := F.ex
  exact .all (h kV doc pm an cdv ct)
theorem fun_mk {x qual : Str} {st : Stmt} {f : Addr} {oc : Value} {od an : Option Addr} {osl : Array (Option Value)} {kV doc pm cdv ct : Value} (l : K.lookup f = some ⟨oc, od, .func (PySem.W.fnOf x qual (defArgs st) (defBody st) (defScope st) .none kV doc pm an cdv ct), osl⟩)
    (c : PySem.W.codeIn K cdv qual = true) (k : PySem.W.keepIn K (.ref f) = true) : Fun K x qual st f (PySem.W.fnOf x qual (defArgs st) (defBody st) (defScope st) .none kV doc pm an cdv ct) := ⟨⟨oc, od, kV, doc, pm, an, cdv, ct, osl, rfl, l, c⟩, k⟩
end
section
variable {X : Cx}
theorem pv (i : Nat) {x : Str} {pos : Pos} (hN : X.N[i]? = some x := by rfl) (hv : Vis X.env.scope x := by first | exact Or.inl rfl | exact Or.inr (Or.inl rfl) | exact Or.inr (Or.inr rfl)) (hd : (x == ("__debug__" : Str)) = false := by decide)
    (hcd : (x == ("__classdict__" : Str)) = false := by decide) : PE X (.Name x pos) (tVar i) := pe_var hN hv hd hcd
end
theorem iteF {A B : Prop} (h : B) : if false = true then A else B := by
  rw [if_neg Bool.false_ne_true]
  exact h
theorem iteT {A B : Prop} (h : A) : if true = true then A else B := by
  rw [if_pos rfl]
  exact h
theorem ite2 {c A B : Prop} [Decidable c] (h1 : c → A) (h2 : ¬ c → B) : if c then A else B := by
  by_cases h : c
  · rw [if_pos h]
    exact h1 h
  · rw [if_neg h]
    exact h2 h
def Same (H H' : Hp) : Prop := ∀ b o, H b = some o → H' b = some o
theorem Same.refl (H : Hp) : Same H H := fun _ _ h => h
theorem Same.trans {H H1 H2 : Hp} (a : Same H H1) (b : Same H1 H2) : Same H H2 := fun c o h => b c o (a c o h)
theorem Same.free {H H' : Hp} (e : Same H H') {l : Addr} (h : H' l = Option.none) : H l = Option.none := by
  cases q : H l with
  | none => rfl
  | some o =>
    rw [e l o q] at h
    cases h
theorem Same.seq {K : PySem.W.Frag} {H H' : Hp} {a : Addr} {xs : List V} (e : Same H H') (h : SqL K H a xs) : SqL K H' a xs := by
  rcases h with (h | ⟨o, h⟩) | h
  · exact .inl (.inl (e _ _ h))
  · exact .inl (.inr ⟨o, e _ _ h⟩)
  · exact .inr h
end L2
set_option maxHeartbeats 4000000
namespace L2
open PySem PySem.Spec PyProof.Rows
structure D (K : PySem.W.Frag) (mg : Str → Option Value) (x : Str) (st : Stmt) (ps : List Str) (f : Addr) (fd : FuncData) : Prop where
  fn : Fun K x x st f fd
  ba : ∀ us : List Value, us.length = ps.length → bindArgs fd ⟨us, []⟩ = pure (ps.zip us)
  mg : mg x = some (.ref f)
section
variable {X : Cx} {k j : Nat} {f : Addr} {fd : FuncData} {ps : List Str} {sp : Sp} {x : Str} {st : Stmt} {p pos : Pos} {e : Expr} {es : List Expr} {t : TA}
theorem pcall (d : D X.K X.mg x st ps f fd) (F : FnOk X.prog X.w X.K X.mg X.base CX0 j f fd ps sp) (hr : Room k X.A) (hg : Gl X x) (ha : PA X (e :: es) t) (hjk : j ≤ k := by decide) (hdb : (x == ("__debug__" : Str)) = false := by decide)
    (he : starEach (e :: es) X.env = (false, eval e X.env) :: starEach es X.env := by rfl) (hpl : (backTo pos (starEach es X.env)).any (·.1) = false := by rfl) :
    PE X (.Call (.Name x p) (e :: es) [] pos) (tCall sp [] E0 t) :=
  pe_call (F.mono hjk) hr hg d.mg d.fn.kp (.all d.ba) .nil pass0 ha hdb he hpl
end
theorem bt_len : bootBuiltins "len" = some (.builtin "len") := PySem.boot_len
theorem bt_list : bootBuiltins "list" = some (.type "list") := by decide +kernel
section
variable {X : Cx}
end
end L2
namespace L2
open PySem PySem.Spec PyProof.Rows
theorem same_new {H : Hp} {p : Addr} (h : H p = none) (o : HO) : Same H (upd H p o) := fun b u q => by rw [upd_ne (ne_of_none q h)]; exact q
theorem same_upd {H H1 : Hp} {p : Addr} {o : HO} (s : Same H H1) (h : H p = none) : Same H (upd H1 p o) := fun b u q => by rw [upd_ne (ne_of_none q h)]; exact s b u q
theorem same_add {H H1 : Hp} {p : Addr} {o : HO} (s : Same H H1) (h : H1 p = none) : Same H (upd H1 p o) := same_upd s (s.free h)
theorem ints_at {B : Int} {zs : List Int} (h : ∀ z ∈ zs, 0 ≤ z ∧ z < B) {i : Int} (h0 : 0 ≤ i) (h1 : i < (zs.length : Int)) : ∃ z, atI (zs.map V.int) i = some (.int z) ∧ 0 ≤ z ∧ z < B := by
  have hk : i.toNat < zs.length := by omega
  have ek : i = ((i.toNat : Nat) : Int) := by omega
  refine ⟨zs[i.toNat], ?_, h _ (List.getElem_mem hk)⟩
  have q : atI (zs.map V.int) ((i.toNat : Nat) : Int) = some (.int zs[i.toNat]) := atI_nat (by rw [List.getElem?_map, List.getElem?_eq_getElem hk] <;> rfl)
  rw [← ek] at q
  exact q
theorem ints_mem {zs : List Int} {i : Int} (h0 : 0 ≤ i) (h1 : i < (zs.length : Int)) : ∃ z, z ∈ zs ∧ atI (zs.map V.int) i = some (.int z) := by
  have hk : i.toNat < zs.length := by omega
  have ek : i = ((i.toNat : Nat) : Int) := by omega
  refine ⟨zs[i.toNat], List.getElem_mem hk, ?_⟩
  have q : atI (zs.map V.int) ((i.toNat : Nat) : Int) = some (.int zs[i.toNat]) := atI_nat (by rw [List.getElem?_map, List.getElem?_eq_getElem hk] <;> rfl)
  rw [← ek] at q
  exact q
theorem atI_getD {zs : List Int} {i : Int} (h0 : 0 ≤ i) (h1 : i < (zs.length : Int)) : atI (zs.map V.int) i = some (.int (zs.getD i.toNat 0)) := by
  have hk : i.toNat < zs.length := by omega
  have ek : i = ((i.toNat : Nat) : Int) := by omega
  have q : atI (zs.map V.int) ((i.toNat : Nat) : Int) = some (.int zs[i.toNat]) := atI_nat (by rw [List.getElem?_map, List.getElem?_eq_getElem hk] <;> rfl)
  rw [← ek] at q
  rw [q, List.getD_eq_getElem?_getD, List.getElem?_eq_getElem hk] <;> rfl
theorem smallL {n : Nat} (h : n ≤ 100000) : n ≤ sizeLine := Nat.le_trans h (by decide)
theorem smallLt {n : Nat} (h : n ≤ 100000) : n < sizeLine := Nat.lt_of_le_of_lt h (by decide)
end L2
namespace L2
open PySem PySem.Spec PyProof.Rows
def tCut (t : TS) : TS := fun D σ H => ∃ M : St → Hp → Prop, t { D with nx := M } σ H ∧ ∀ σ' H', M σ' H' → D.nx σ' H'
theorem ps_cut {X : Cx} {st : Stmt} {t : TS} (h : PS X st t) : PS X st (tCut t) := by
  intro pins s σ H D I hw
  obtain ⟨M, h1, h2⟩ := hw
  refine thn (h pins s σ H _ I h1) fun f s1 q => ?_
  cases f with
  | next => obtain ⟨σ', H', I', m⟩ := q; exact ⟨σ', H', I', h2 σ' H' m⟩
  | ret v => exact q
  | brk => exact q
  | cont => exact q
end L2
namespace L2
open PySem PySem.Spec PyProof.Rows
section
variable {X : Cx} {pins : List (Addr × Obj)} {σ : St} {H : Hp} {s : Shared} {h' : Heap}
theorem Inv.turnLay {t' : Nat} {ch : List Addr} {l : Addr} {o : HO} (I : Inv X pins σ H s) (k : ∀ b u, b ∉ ch → s.heap.get? b = some u → h'.get? b = some u) (hf : ∀ b ∈ ch, FpOk X pins H b)
    (hp : s.heap.objs.size ≤ l) (new : ObjOk X.prog X.w (upd H l o) h' l o) : Inv X pins σ (upd H l o) { s with heap := h', toks := t' } := by
  have hn := I.hok.fresh hp
  have nch : ∀ b u, H b = some u → b ∉ ch := fun b u e z => by rw [(hf b z).1] at e; cases e
  refine I.step (g' := s.gens) (d' := s.drawn) (ch := ch) (fun b hb => ?_) (fun b u _ _ hc e _ => k b u hc e) (fun b u _ _ hc e _ => ⟨u.slots, k b u hc e⟩)
    (fun b u _ e n => ?_) (fun b u hc e => ⟨u, k b u hc e⟩) (fun b xs e => ?_) (fun b u xs e => ?_) (fun b ps e => ⟨#[], ?_⟩) (fun m hm => ?_) (fun b u e => ?_) I.bare
  · obtain ⟨f0, f1, f2, f3, f4, f5⟩ := hf b hb
    exact ⟨f3, f1, f4, f5⟩
  · rw [upd_ne (Nat.ne_of_lt (Nat.lt_of_lt_of_le (Heap.lt_size e) hp))]
    exact n
  · rw [upd_ne (ne_of_none e hn)]
    exact e
  · rw [upd_ne (ne_of_none e hn)]
    exact e
  · rw [upd_ne (ne_of_none e hn), e]
    simp
  · obtain ⟨ob, es, ep, ho, r⟩ := hm
    exact ⟨ob, es, ep, k _ ob (fun z => (hf _ z).2.1 rfl) ho, r⟩
  · by_cases hb : b = l
    · subst hb
      rw [upd_same] at e
      cases e
      exact new
    · rw [upd_ne hb] at e
      refine (I.hok b u e).stay (fun c v hc q => k c v ?_ q) (fun c q => by rw [upd_ne (ne_of_none q hn)]; exact q) fun c xs q => by rw [upd_ne (ne_of_none q hn)]; exact q
      rcases hc with z | z
      · rw [z]; exact nch b u e
      · exact nch c _ z
end
def Ite (K : PySem.W.Frag) (a : Addr) : It :=
  ⟨fun i H => ∃ xs x, SqL K H a xs ∧ xs[i]? = some x, fun i H v H' => ∃ t x, v = .ref t ∧ H t = none ∧ (∀ xs, SqL K H a xs → xs[i]? = some x) ∧ H' = upd H t (.tup [.int i, x]), fun i H => ∃ xs, SqL K H a xs ∧ xs.length ≤ i⟩
theorem turn_enum {P : Program} {w : World} {K : PySem.W.Frag} {es : List Expr} {k1 : Nat} {tp : Pos} (a e it : Addr) (hne : e ≠ it) :
    Turn P w K (.Tuple es k1 tp) (Ite K a) [e, it] e (fun i h => (∃ old, IsEnum h e it (i : Nat) old) ∧ h.IsListIter it a i) where
  mem := by simp
  obj := fun i h st b hb => by
    obtain ⟨⟨old, e1⟩, o, e2, c, d⟩ := st
    have z : b = e ∨ b = it := by simpa using hb
    rcases z with rfl | rfl
    · refine ⟨_, e1, fun v z => ?_⟩
      have z' : Data.fields _ = Data.cell v := z
      cases z'
    · exact ⟨o, e2, fun v z => by rw [d] at z; cases z⟩
  keep := fun i h h' st k => ⟨let ⟨old, e1⟩ := st.1; ⟨old, k e (by simp) _ e1⟩, st.2.at fun o e => k it (by simp) o e⟩
  item := by
    intro X hP hw hK hc i pins s σ H E I hf st hg
    subst hP hw hK
    obtain ⟨xs, x, hq, hx⟩ := hg
    obtain ⟨its, rv, p, hz⟩ := I.list hq
    obtain ⟨u, hu, ru⟩ := rv.get hx
    obtain ⟨⟨old, he⟩, hit⟩ := st
    have heL : e < s.heap.objs.size := Heap.lt_size he
    refine wpAny_pyNext_enum_item he hit p.isList (x := u) (by simpa using hu) hne fun h1 heo hit1 ht1 hz1 hk1 => ⟨_, rfl, ?_⟩
    refine wpAny_letOwnedTupleGo_enum heo fun h2 he2 hs2 => ?_
    replace hs2 : Heap.SameBut e h1 h2 := hs2
    have ht2 : h2.get? s.heap.objs.size = some { cls := .type "tuple", data := .seq #[.int i s.toks, u] } := (hs2.2 _ (Nat.ne_of_gt heL)).trans ht1
    have kk : ∀ b o, b ∉ [e, it] → s.heap.get? b = some o → h2.get? b = some o := fun b o hb q => by
      have h1 : b ≠ e := fun z => hb (by simp [z])
      have h2 : b ≠ it := fun z => hb (by simp [z])
      exact (hs2.2 b h1).trans (hk1 b o h1 h2 q)
    have hn : H s.heap.objs.size = none := I.hok.fresh (Nat.le_refl _)
    have I2 : Inv X pins σ (upd H s.heap.objs.size (.tup [.int i, x])) { s with heap := h2, toks := s.toks + 1 } :=
      I.turnLay kk hf (Nat.le_refl _) ⟨Nat.le_of_ble_eq_true rfl, [.int i s.toks, u], .cons ⟨_, rfl⟩ (.cons ru .nil), ⟨_, ht2, rfl, 0, rfl⟩⟩
    refine ⟨.ref s.heap.objs.size, _, I2, rfl, ⟨_, x, rfl, hn, fun ys hy => by rw [I.list_inj hy hq]; exact hx, rfl⟩, ⟨⟨u, ?_⟩, hit1.extBut hs2.extBut (Ne.symm hne)⟩, fun b hb => ?_⟩
    · have e1 : ((i + 1 : Nat) : Int) = (i : Int) + 1 := by omega
      rw [e1]
      exact he2
    · rw [upd_ne]
      · exact (hf b hb).1
      · have z : b = e ∨ b = it := by simpa using hb
        obtain ⟨oi, hoi, _⟩ := hit
        rcases z with rfl | rfl
        · exact Nat.ne_of_lt heL
        · exact Nat.ne_of_lt (Heap.lt_size hoi)
  done := by
    intro X hP hw hK hc i pins s σ H E I hf st hg
    subst hP hw hK
    obtain ⟨xs, hq, hx⟩ := hg
    obtain ⟨its, rv, p, hz⟩ := I.list hq
    obtain ⟨f0, f1, f2, f3, f4, f5⟩ := hf it (by simp)
    obtain ⟨⟨old, he⟩, hit⟩ := st
    have hl := rv.length
    exact wpAny_pyNext_enum_end (I.ok.hd hc) he hit p.isList (by simp; omega) fun h' eb => ⟨rfl, I.turned (t' := s.toks) (fun b o hb e => eb b o hb e) f0 f1 f3 f4 f5⟩
  self := fun _ _ _ _ _ st h => let ⟨⟨_, e1⟩, _⟩ := st; wpAny_pyIter_enum e1 h
theorem bt_enumerate : bootBuiltins "enumerate" = some (.type "enumerate") := by decide +kernel
section
variable {X : Cx} {es : List Expr} {k1 : Nat} {tp : Pos}
def iEnum (K : PySem.W.Frag) (ta : TA) : TI := fun σ H R => ta σ H fun vs H1 => ∃ a, vs = [.ref a] ∧ (∃ xs, SqL K H1 a xs) ∧ R (Ite K a) H1
theorem pi_enum {a : Expr} {ta : TA} {p pos : Pos} (hg : Gl X "enumerate") (hm : X.mg "enumerate" = none) (ha : PA X [a] ta) (hs : starEach [a] X.env = (false, eval a X.env) :: starEach [] X.env := by rfl) :
    PI X (.Tuple es k1 tp) (.Call (.Name "enumerate" p) [a] [] pos) (iEnum X.K ta) := by
  intro pins s σ H R I h
  refine wpAny_Call_Name_kw (ld_blt I hg hm bt_enumerate ?_)
  refine PyProof.Rows.callWith_type1 (thn (ha pos pins s σ H _ I h) fun us s1 ⟨vs, H1, I1, r1, q1⟩ => ?_) hs (by rfl)
  obtain ⟨l, rfl, ⟨xs, hq⟩, q⟩ := q1
  obtain ⟨u, rfl, ru⟩ := vals1 r1
  cases ru
  obtain ⟨its, rv, pl, hz⟩ := I1.list hq
  refine call_enumerate_list pl.isList fun h' he hit hsz hk => ?_
  refine wpAny_pyIter_enum he ?_
  refine ⟨s1.heap.objs.size + 1, [s1.heap.objs.size + 1, s1.heap.objs.size], _, _, H1, rfl, I1.kept (t' := s1.toks) hk, turn_enum l _ s1.heap.objs.size (Nat.succ_ne_self _), ⟨⟨.none, he⟩, hit⟩, fun b hb => ?_, q⟩
  have z : b = s1.heap.objs.size + 1 ∨ b = s1.heap.objs.size := by simpa using hb
  have hge : s1.heap.objs.size ≤ b := by rcases z with rfl | rfl <;> omega
  exact I1.fpOk hge (I1.hok.fresh hge)
end
theorem for_enum {K : PySem.W.Frag} {a : Addr} {xs : List V} {g : TG} {tb : TS} {D : Ends} {σ : St} {H : Hp} (Pv : Nat → St → Hp → Prop) (h0 : Pv 0 σ H) (hl : ∀ i σ H, i ≤ xs.length → Pv i σ H → SqL K H a xs)
    (hs : ∀ i x t σ H, xs[i]? = some x → Pv i σ H → H t = none → g (.ref t) σ (upd H t (.tup [.int i, x])) fun σ2 H2 => tb { D with nx := Pv (i + 1), ct := Pv (i + 1), bk := D.nx } σ2 H2) (hd : ∀ σ H, Pv xs.length σ H → D.nx σ H) :
    ∃ W : Nat → Nat → St → Hp → Prop, (∃ m, W 0 m σ H) ∧ ∀ i m σ H, W i m σ H →
      ((Ite K a).stop i H ∧ D.nx σ H) ∨ ((Ite K a).go i H ∧ ∃ N : St → Hp → Prop, (∀ σ' H', N σ' H' → ∃ m', m' < m ∧ W (i + 1) m' σ' H') ∧ ∀ x H', (Ite K a).yld i H x H' → g x σ H' fun σ2 H2 => tb { D with nx := N, ct := N, bk := D.nx } σ2 H2) := by
  refine ⟨fun i m σ H => m = xs.length - i ∧ i ≤ xs.length ∧ Pv i σ H, ⟨xs.length, by simp, Nat.zero_le _, h0⟩, ?_⟩
  rintro i m σ H ⟨rfl, hi, p⟩
  have q := hl i σ H hi p
  by_cases hlt : i < xs.length
  · refine .inr ⟨⟨xs, xs[i], q, by simp [hlt]⟩, Pv (i + 1), fun σ' H' p' => ⟨xs.length - (i + 1), by omega, rfl, hlt, p'⟩, fun v H' y => ?_⟩
    obtain ⟨t, x, rfl, hn, hx, rfl⟩ := y
    exact hs i x t σ _ (hx xs q) p hn
  · have e : i = xs.length := by omega
    subst e
    exact .inl ⟨⟨xs, q, Nat.le_refl _⟩, hd σ H p⟩
end L2
namespace L2
open PySem PySem.Spec PyProof.Rows
mutual
inductive Den (K : PySem.W.Frag) (H : Hp) : V → PyData → Prop
  | non : Den K H .non .none
  | bl (b : Bool) : Den K H (.bl b) (.bool b)
  | int (i : Int) : Den K H (.int i) (.int i)
  | str (x : Str) : PyData.canLay0 (.str x) = true → Den K H (.str x) (.str x)
  | lst {a xs ds} : SqL K H a xs → DenL K H xs ds → Den K H (.ref a) (.list ds)
  | tup {a xs ds} : SqT K H a xs → DenL K H xs ds → Den K H (.ref a) (.tuple ds)
inductive DenL (K : PySem.W.Frag) (H : Hp) : List V → List PyData → Prop
  | nil : DenL K H [] []
  | cons {x xs d ds} : Den K H x d → DenL K H xs ds → DenL K H (x :: xs) (d :: ds)
end
section
variable {X : Cx} {pins : List (Addr × Obj)} {σ : St} {H : Hp} {s : Shared}
mutual
theorem den_reads (I : Inv X pins σ H s) : ∀ (d : PyData) (v : V) (u : Value), Den X.K H v d → RelV v u → ∃ as, Reads s.heap u d as
  | .none, v, u, h, r => by cases h; cases r; exact ⟨_, .none⟩
  | .bool b, v, u, h, r => by cases h; cases r; exact ⟨_, .bool b⟩
  | .int i, v, u, h, r => by cases h; obtain ⟨t, rfl⟩ := r; exact ⟨_, .int i t⟩
  | .str x, v, u, h, r => by cases h; obtain ⟨t, rfl⟩ := r; exact ⟨_, .str x t⟩
  | .list ds, v, u, h, r => by
    cases h with
    | lst hq hl =>
      cases r
      obtain ⟨its, rv, ⟨o, n, e, c, _, d⟩, _⟩ := I.list hq
      obtain ⟨as, q⟩ := denL_reads I ds _ _ hl rv
      exact ⟨_, .list e c d (by simpa using q)⟩
  | .tuple ds, v, u, h, r => by
    cases h with
    | tup hq hl =>
      cases r
      obtain ⟨its, rv, ⟨o, e, c, n, d⟩, _⟩ := I.tuple hq
      obtain ⟨as, q⟩ := denL_reads I ds _ _ hl rv
      exact ⟨_, .tuple e c d (by simpa using q)⟩
  | .dict _, v, u, h, r => by cases h
theorem denL_reads (I : Inv X pins σ H s) : ∀ (ds : List PyData) (xs : List V) (us : List Value), DenL X.K H xs ds → Vals xs us → ∃ as, ReadsAll s.heap us ds as
  | [], xs, us, h, r => by cases h; cases r; exact ⟨_, .nil⟩
  | d :: ds, xs, us, h, r => by
    cases h with
    | cons h1 h2 =>
      cases r with
      | cons r1 r2 =>
        obtain ⟨a1, q1⟩ := den_reads I d _ _ h1 r1
        obtain ⟨a2, q2⟩ := denL_reads I ds _ _ h2 r2
        exact ⟨_, .cons q1 q2⟩
end
mutual
theorem den_lay {K : PySem.W.Frag} : ∀ (d : PyData) (v : V), Den K H v d → d.canLay0 = true
  | .none, v, h => rfl
  | .bool b, v, h => rfl
  | .int i, v, h => rfl
  | .str x, v, h => by cases h with | str _ q => exact q
  | .list ds, v, h => by cases h with | lst _ q => exact denL_lay ds _ q
  | .tuple ds, v, h => by cases h with | tup _ q => exact denL_lay ds _ q
  | .dict _, v, h => by cases h
theorem denL_lay {K : PySem.W.Frag} : ∀ (ds : List PyData) (xs : List V), DenL K H xs ds → PyData.canLayAll0 ds = true
  | [], xs, h => rfl
  | d :: ds, xs, h => by
    cases h with
    | cons h1 h2 =>
      show (PyData.canLay0 d && PyData.canLayAll0 ds) = true
      rw [den_lay d _ h1, denL_lay ds _ h2]
      rfl
end
def rEqD (K : PySem.W.Frag) (neg : Bool) : R2 := fun x y H Q => ∃ d e, Den K H x d ∧ Den K H y e ∧ min d.depth e.depth ≤ 64 ∧ Q (.bl (if neg then !PyData.eqv d e else PyData.eqv d e)) H
theorem op_eqD (hu : X.A.units + 64 < cLine) : OpR X (compareOp .Eq) (rEqD X.K false) := by
  intro pins s σ H x y v u Q I rx ry h
  obtain ⟨d, e, hd, he, hz, q⟩ := h
  obtain ⟨as, ra⟩ := den_reads I d _ _ hd rx
  obtain ⟨bs, rb⟩ := den_reads I e _ _ he ry
  exact PySem.SeqAt.eqOverData X.prog X.w X.A X.xe s v u d e as bs _ ra rb (den_lay d _ hd) (den_lay e _ he) (by omega) ⟨.bl _, H, I, rfl, q⟩
theorem op_neD (hu : X.A.units + 64 < cLine) : OpR X (compareOp .NotEq) (rEqD X.K true) := by
  intro pins s σ H x y v u Q I rx ry h
  obtain ⟨d, e, hd, he, hz, q⟩ := h
  obtain ⟨as, ra⟩ := den_reads I d _ _ hd rx
  obtain ⟨bs, rb⟩ := den_reads I e _ _ he ry
  exact PySem.SeqAt.neOverData X.prog X.w X.A X.xe s v u d e as bs _ ra rb (den_lay d _ hd) (den_lay e _ he) (by omega) ⟨.bl _, H, I, rfl, q⟩
end
mutual
def nb : PyData → Bool
  | .none | .int _ | .str _ => true
  | .bool _ | .dict _ => false
  | .list xs | .tuple xs => nbL xs
def nbL : List PyData → Bool
  | [] => true
  | x :: xs => nb x && nbL xs
end
mutual
theorem eqv_iff : ∀ (d e : PyData), nb d = true → nb e = true → (PyData.eqv d e = true ↔ d = e)
  | .none, e, _, h => by cases e <;> first | (simp [PyData.eqv]; done) | cases h
  | .int i, e, _, h => by cases e <;> first | (simp [PyData.eqv]; done) | cases h
  | .str i, e, _, h => by cases e <;> first | (simp [PyData.eqv]; done) | cases h
  | .bool _, _, h, _ => by cases h
  | .dict _, _, h, _ => by cases h
  | .list xs, e, h1, h => by
    cases e with
    | list ys =>
      have q := eqvL_iff xs ys h1 h
      show PyData.eqvAll xs ys = true ↔ _
      rw [q]
      exact ⟨fun z => by rw [z], fun z => PyData.list.inj z⟩
    | none => simp [PyData.eqv]
    | int _ => simp [PyData.eqv]
    | str _ => simp [PyData.eqv]
    | tuple _ => simp [PyData.eqv]
    | bool _ => cases h
    | dict _ => cases h
  | .tuple xs, e, h1, h => by
    cases e with
    | tuple ys =>
      have q := eqvL_iff xs ys h1 h
      show PyData.eqvAll xs ys = true ↔ _
      rw [q]
      exact ⟨fun z => by rw [z], fun z => PyData.tuple.inj z⟩
    | none => simp [PyData.eqv]
    | int _ => simp [PyData.eqv]
    | str _ => simp [PyData.eqv]
    | list _ => simp [PyData.eqv]
    | bool _ => cases h
    | dict _ => cases h
theorem eqvL_iff : ∀ (xs ys : List PyData), nbL xs = true → nbL ys = true → (PyData.eqvAll xs ys = true ↔ xs = ys)
  | [], [], _, _ => by simp [PyData.eqvAll]
  | [], _ :: _, _, _ => by simp [PyData.eqvAll]
  | _ :: _, [], _, _ => by simp [PyData.eqvAll]
  | x :: xs, y :: ys, h1, h2 => by
    have a : nb x = true ∧ nbL xs = true := by
      have : (nb x && nbL xs) = true := h1
      simpa using this
    have b : nb y = true ∧ nbL ys = true := by
      have : (nb y && nbL ys) = true := h2
      simpa using this
    have q1 := eqv_iff x y a.1 b.1
    have q2 := eqvL_iff xs ys a.2 b.2
    show (PyData.eqv x y && PyData.eqvAll xs ys) = true ↔ _
    rw [Bool.and_eq_true, q1, q2]
    simp
end
theorem eqv_refl {d : PyData} (h : nb d = true) : PyData.eqv d d = true := (eqv_iff d d h h).mpr rfl
abbrev dInts (zs : List Int) : PyData := .list (zs.map .int)
end L2
namespace L2
open PySem PySem.Spec PyProof.Rows
section
variable {prog : Program} {w : World} {A : Around} {R : Result → Shared → Prop} {s : Shared}
theorem compLoop_any {elt target iter : Expr} {ifs : List Expr} {scope : Scope} {pos : Pos} {it acc : Value} {env : Env} (I : Nat → Shared → Prop)
    (turn : ∀ n s, I n s → wpAny (model prog w) A (pyNext it) (fun r s1 => match r with
      | none => R (.ok .next) s1
      | some v => wpAny (model prog w) A (letOwnedTupleGo target it v) (fun _ s1' => wpAny (model prog w) A (assign target env v) (fun _ s2 =>
          wpAny (model prog w) A (forIn ifs true fun c r => if r = true then do let ok ← isTrue c env (eval c env); pure (ForInStep.yield ok) else pure (ForInStep.yield r)) (fun ok s3 =>
            if ok = true then wpAny (model prog w) A (eval elt env) (fun x s4 =>
              wpAny (model prog w) A (call (.builtin "list.append") [acc, x]) (fun _ s5 => ∃ m, m < n ∧ I m s5) (fun _ _ => False) s4) (fun _ _ => False) s3
            else ∃ m, m < n ∧ I m s3) (fun _ _ => False) s2) (fun _ _ => False) s1') (fun _ _ => False) s1) (fun _ _ => False) s)
    (n : Nat) (h : I n s) :
    codeAny (model prog w) A (.compLoop (.ListComp elt [⟨target, iter, ifs, 0⟩] scope pos) 0 it acc env) R s := by
  refine codeAny_loop rfl I (fun n s hI => ?_) n h
  show wpAny _ A ((compTurn (.ListComp elt [⟨target, iter, ifs, 0⟩] scope pos) 0 it acc env).onRaise (fun x => do noteFrame x env; theTreesLotGoes x)) _ _ s
  refine wpAny_noted ?_
  rw [compTurn_list]
  refine wpAny_bind (wpAny_standAt (wpAny_bind (wpAny_mono (turn n s hI) (fun r s1 h1 => ?_) fun _ _ h' => False.elim h')))
  cases r with
  | none => exact wpAny_pure h1
  | some v =>
    refine wpAny_bind (wpAny_mono h1 (fun _ s1' h1' => ?_) fun _ _ h' => False.elim h')
    refine wpAny_bind (wpAny_mono h1' (fun _ s2 h2 => wpAny_bind (wpAny_mono h2 (fun ok s3 h3 => ?_) fun _ _ h' => False.elim h')) fun _ _ h' => False.elim h')
    cases ok with
    | false => exact wpAny_pure ⟨rfl, h3⟩
    | true =>
      exact wpAny_bind (wpAny_bind (wpAny_mono h3 (fun x s4 h4 => wpAny_bind (wpAny_mono h4 (fun _ s5 h5 => wpAny_pure (wpAny_pure ⟨rfl, h5⟩)) fun _ _ h' => False.elim h')) fun _ _ h' => False.elim h'))
end
def closeFrom (env : Env) : List (Str × NameKind) → List (Str × Addr) → List (Str × Addr)
  | [], acc => acc
  | (n, k) :: r, acc => if (k == .free) = true then closeFrom env r ((n, (env.cells.lookup n).getD 0) :: acc) else closeFrom env r acc
theorem closeFrom_mem {env : Env} (P : Str → Addr → Prop) : ∀ (names : List (Str × NameKind)) (acc : List (Str × Addr)), (∀ x ∈ names, x.2 = .free → ∃ c, env.cells.lookup x.1 = some c) → (∀ n c, (n, c) ∈ acc → P n c) →
    (∀ n c, env.cells.lookup n = some c → P n c) → ∀ n c, (n, c) ∈ closeFrom env names acc → P n c
  | [], acc, _, ha, _, n, c, h => ha n c h
  | (m, k) :: r, acc, hf, ha, hp, n, c, h => by
    unfold closeFrom at h
    split at h
    · rename_i hk
      refine closeFrom_mem P r _ (fun x hx => hf x (List.mem_cons_of_mem _ hx)) (fun n' c' h' => ?_) hp n c h
      rcases List.mem_cons.mp h' with e | h'
      · obtain ⟨c0, e0⟩ := hf (m, k) List.mem_cons_self (eq_of_beq hk)
        injection e with e1 e2
        subst e1 e2
        rw [e0]
        exact hp _ _ e0
      · exact ha n' c' h'
    · exact closeFrom_mem P r acc (fun x hx => hf x (List.mem_cons_of_mem _ hx)) ha hp n c h
theorem closeFrom_acc {env : Env} : ∀ (names : List (Str × NameKind)) (acc : List (Str × Addr)) (x : Str × Addr), x ∈ acc → x ∈ closeFrom env names acc
  | [], _, _, h => h
  | (m, k) :: r, acc, x, h => by
    unfold closeFrom
    split
    · exact closeFrom_acc r _ x (List.mem_cons_of_mem _ h)
    · exact closeFrom_acc r _ x h
theorem closeFrom_has {env : Env} : ∀ (names : List (Str × NameKind)) (acc : List (Str × Addr)) (x : Str), (x, NameKind.free) ∈ names → ∃ c, (x, c) ∈ closeFrom env names acc
  | [], _, _, h => nomatch h
  | (m, k) :: r, acc, x, h => by
    unfold closeFrom
    rcases List.mem_cons.mp h with e | h
    · injection e with e1 e2
      subst e1 e2
      rw [if_pos (by decide)]
      exact ⟨_, closeFrom_acc r _ _ List.mem_cons_self⟩
    · split
      · exact closeFrom_has r _ x h
      · exact closeFrom_has r _ x h
theorem closureFor_eq {scope : Scope} {env : Env} (hf : ∀ x ∈ scope.names, x.2 = .free → ∃ c, env.cells.lookup x.1 = some c) : closureFor scope env = pure (closeFrom env scope.names []) := by
  have go : ∀ (names : List (Str × NameKind)) (acc : List (Str × Addr)), (∀ x ∈ names, x.2 = .free → ∃ c, env.cells.lookup x.1 = some c) →
      (forIn names acc fun (x : Str × NameKind) (r : List (Str × Addr)) => (match x with
        | (name, kind) => if (kind == NameKind.free) = true then do
            let a ← cellOf env name
            pure (ForInStep.yield ((name, a) :: r))
          else pure (ForInStep.yield r) : Sem (ForInStep (List (Str × Addr))))) = pure (closeFrom env names acc) := by
    intro names
    induction names with
    | nil => intro acc _; rw [List.forIn_nil]; rfl
    | cons x r ih =>
      intro acc hf
      obtain ⟨n, k⟩ := x
      rw [List.forIn_cons]
      unfold closeFrom
      by_cases hk : (k == NameKind.free) = true
      · obtain ⟨c, e⟩ := hf (n, k) List.mem_cons_self (eq_of_beq hk)
        simp only [hk, if_true]
        have e2 : cellOf env n = pure c := by unfold cellOf; rw [e]
        rw [e2, e]
        simp only [pure_bind, Option.getD_some]
        exact ih _ fun x hx => hf x (List.mem_cons_of_mem _ hx)
      · simp only [hk, if_false]
        exact ih _ fun x hx => hf x (List.mem_cons_of_mem _ hx)
  simp only [closureFor]
  have := go scope.names [] hf
  first
    | exact this
    | (simp only [bind_pure]; exact this)
    | (rw [this]; rfl)
theorem cellsFrom_app : ∀ (names : List (Str × NameKind)) (n : Nat) (acc : List (Str × Addr)), cellsFrom n names acc = cellsFrom n names [] ++ acc
  | [], _, _ => rfl
  | (m, k) :: r, n, acc => by
    unfold cellsFrom
    split
    · rw [cellsFrom_app r (n + 1) ((m, n) :: acc), cellsFrom_app r (n + 1) [(m, n)], List.append_assoc]
      rfl
    · exact cellsFrom_app r n acc
theorem cellsFrom_src : ∀ (names : List (Str × NameKind)) (n : Nat) (acc : List (Str × Addr)) (x : Str × Addr), x ∈ cellsFrom n names acc → (x.1, NameKind.cell) ∈ names ∨ x ∈ acc
  | [], _, _, _, h => .inr h
  | (m, k) :: r, n, acc, x, h => by
    unfold cellsFrom at h
    split at h
    · rename_i hk
      rcases cellsFrom_src r _ _ x h with q | q
      · exact .inl (List.mem_cons_of_mem _ q)
      · rcases List.mem_cons.mp q with e | q
        · rw [e, eq_of_beq hk]
          exact .inl List.mem_cons_self
        · exact .inr q
    · rcases cellsFrom_src r _ _ x h with q | q
      · exact .inl (List.mem_cons_of_mem _ q)
      · exact .inr q
theorem lookup_app {α : Type} (x : Str) : ∀ (l r : List (Str × α)), (l ++ r).lookup x = (l.lookup x).or (r.lookup x)
  | [], r => by simp
  | (k, v) :: l, r => by
    rw [List.cons_append, List.lookup_cons, List.lookup_cons]
    cases hb : x == k with
    | true => rfl
    | false => exact lookup_app x l r
theorem lookup_some_of_mem {α : Type} {x : Str} : ∀ {l : List (Str × α)} {c : α}, (x, c) ∈ l → ∃ c', l.lookup x = some c'
  | (k, v) :: l, c, h => by
    rw [List.lookup_cons]
    cases hb : x == k with
    | true => exact ⟨v, rfl⟩
    | false =>
      rcases List.mem_cons.mp h with e | h
      · injection e with e1 e2
        subst e1
        rw [beq_self_eq_true] at hb
        cases hb
      · exact lookup_some_of_mem h
theorem lookup_relabel {scope : Scope} {env : Env} {x : Str} {k : NameKind} (h : (relabel scope env).names.lookup x = some k) : ∃ k0, scope.names.lookup x = some k0 ∧ (k = k0 ∨ (k = .cell ∧ k0 = .free)) := by
  have go : ∀ names : List (Str × NameKind), (names.map fun (n, k) => if (k == NameKind.free && env.scope.kind == .function && env.kindOf n == some .cell) then (n, NameKind.cell) else (n, k)).lookup x = some k →
      ∃ k0, names.lookup x = some k0 ∧ (k = k0 ∨ (k = .cell ∧ k0 = .free)) := by
    intro names
    induction names with
    | nil => intro h; cases h
    | cons y r ih =>
      obtain ⟨n, k1⟩ := y
      intro h
      replace h : List.lookup x ((if (k1 == NameKind.free && env.scope.kind == .function && env.kindOf n == some .cell) = true then (n, NameKind.cell) else (n, k1)) :: (r.map fun (n, k) => if (k == NameKind.free && env.scope.kind == .function && env.kindOf n == some .cell) then (n, NameKind.cell) else (n, k))) = some k := h
      by_cases hc : (k1 == NameKind.free && env.scope.kind == .function && env.kindOf n == some .cell) = true
      · rw [if_pos hc] at h
        rw [List.lookup_cons] at h ⊢
        cases hb : x == n with
        | true =>
          rw [hb] at h
          have e : NameKind.cell = k := Option.some.inj h
          simp only [Bool.and_eq_true] at hc
          exact ⟨k1, rfl, .inr ⟨e.symm, eq_of_beq hc.1.1⟩⟩
        | false => rw [hb] at h; exact ih h
      · rw [if_neg hc] at h
        rw [List.lookup_cons] at h ⊢
        cases hb : x == n with
        | true =>
          rw [hb] at h
          have e : k1 = k := Option.some.inj h
          exact ⟨k1, rfl, .inl e.symm⟩
        | false => rw [hb] at h; exact ih h
  exact go _ h
def blkEnv (scope : Scope) (env : Env) (C : Addr) (cells : List (Str × Addr)) : Env :=
  { scope := relabel scope env, locals := C, globals := env.globals, cells := cells, qual := env.qual, func := none, code := env.code, frame := env.frame, builtins := env.builtins }
def blkCx (X : Cx) (N' : List Str) (scope : Scope) (C : Addr) (cells : List (Str × Addr)) (s₀ : Shared) (H₀ : Hp) (ex : List Addr) : Cx :=
  { X with N := N', s₀ := s₀, H₀ := H₀, env := blkEnv scope X.env C cells, outer := X.stack, stack := X.stack, ex := ex, fn := fun x => scope.names.lookup x == some .cell, pn := [], xe := fun _ _ => False }
def blkSt (ms : List Nat) (k : Nat) (σ : St) : St := ms.foldl (fun σ i => σ.set i none) σ ++ List.replicate k none
theorem unset_len (ms : List Nat) : ∀ σ : St, (ms.foldl (fun σ i => σ.set i none) σ).length = σ.length := by
  induction ms with
  | nil => intro σ; rfl
  | cons m ms ih => intro σ; rw [List.foldl_cons, ih, List.length_set]
theorem unset_get (ms : List Nat) : ∀ (σ : St) (i : Nat) (v : V), (ms.foldl (fun σ i => σ.set i none) σ)[i]? = some (some v) → σ[i]? = some (some v) ∧ i ∉ ms := by
  induction ms with
  | nil => intro σ i v h; exact ⟨h, by simp⟩
  | cons m ms ih =>
    intro σ i v h
    rw [List.foldl_cons] at h
    obtain ⟨h1, h2⟩ := ih _ i v h
    by_cases e : m = i
    · subst e
      rw [List.getElem?_set] at h1
      split at h1
      · split at h1 <;> cases h1
      · exact absurd rfl ‹_›
    · rw [List.getElem?_set_ne e] at h1
      exact ⟨h1, by simp only [List.mem_cons, not_or]; exact ⟨fun z => e z.symm, h2⟩⟩
structure BlkOk (X : Cx) (N' : List Str) (scope : Scope) (ms : List Nat) (k : Nat) : Prop where
  kind : scope.kind = .function
  uniq : ∀ x ∈ scope.names, scope.names.lookup x.1 = some x.2
  free : ∀ x ∈ scope.names, x.2 = .free → X.env.kindOf x.1 = some .cell ∨ X.env.kindOf x.1 = some .free
  len : N'.length = X.N.length + k
  pre : ∀ i : Nat, i < X.N.length → N'[i]? = X.N[i]?
  vis : ∀ i : Nat, i < X.N.length → i ∉ ms → ∀ x k', N'[i]? = some x → scope.names.lookup x = some k' → k' = .local ∨ k' = .cell ∨ k' = .free → k' = .free
section
variable {X : Cx} {pins : List (Addr × Obj)} {σ : St} {H : Hp} {s : Shared}
theorem wp_blkEnv {M : Model} {A : Around} {E : Value → Shared → Prop} {scope : Scope} {globals : Addr} {cl : List (Str × Addr)} {qual : Str} {env : Env} {Q : Env → Shared → Prop}
    (hQ : Q { scope := scope, locals := s.heap.objs.size, globals := globals, cells := cellsFrom (s.heap.objs.size + 1) scope.names cl, qual := qual, func := none, code := env.code, frame := env.frame, builtins := env.builtins }
      { s with heap := pushCells (s.heap.push { cls := .type "dict", data := .dict #[] }) scope.names }) :
    wpAny M A (newFunctionEnv scope globals cl [] qual none .none (some env)) Q E s := by
  simp only [newFunctionEnv, Option.isSome_some, if_true]
  refine wpAny_bind (wpAny_alloc ?_)
  refine wpAny_bind (wpAny_layCells _ (fun name kind cells => by cases hkc : kind == NameKind.cell <;> simp [hkc]) _ _ _ _ ?_)
  rw [show ({ s with heap := s.heap.push { cls := .type "dict", data := .dict #[] } } : Shared).heap.objs.size = s.heap.objs.size + 1 from Heap.size_push ..]
  rw [List.forIn_nil]
  exact wpAny_bind (wpAny_pure (wpAny_pure hQ))
theorem inv_blk {N' : List Str} {scope : Scope} {ms : List Nat} {k : Nat} {ex : List Addr} (I : Inv X pins σ H s) (B : BlkOk X N' scope ms k) (hex : ∀ b ∈ ex, FpOk X pins H b ∧ b < s.heap.objs.size) :
    Inv (blkCx X N' scope s.heap.objs.size (cellsFrom (s.heap.objs.size + 1) scope.names (closeFrom X.env scope.names [])) s H ex) [] (blkSt ms k σ) H
      { s with heap := pushCells (s.heap.push { cls := .type "dict", data := .dict #[] }) scope.names } := by
  have hfree : ∀ x ∈ scope.names, x.2 = .free → ∃ c, X.env.cells.lookup x.1 = some c := fun x hx hk => I.ok.has x.1 (B.free x hx hk)
  have keep : ∀ b o, s.heap.get? b = some o → (pushCells (s.heap.push { cls := .type "dict", data := .dict #[] }) scope.names).get? b = some o := fun b o e => pushCells_keeps _ _ b o (Heap.get?_push_of_some _ e)
  have own := cellsFrom_ok scope.names (s.heap.push { cls := .type "dict", data := .dict #[] }) (s.heap.objs.size + 1) [] ⟨fun _ _ hm => (nomatch hm), List.Pairwise.nil⟩ (by rw [Heap.size_push]; exact Nat.le_refl _)
  rw [Heap.size_push] at own
  have clm : ∀ n c, (n, c) ∈ closeFrom X.env scope.names [] → X.env.cells.lookup n = some c := closeFrom_mem (fun n c => X.env.cells.lookup n = some c) scope.names [] hfree (fun _ _ h => nomatch h) fun _ _ h => h
  have clt : ∀ n (c : Addr), X.env.cells.lookup n = some c → @LT.lt Nat instLTNat c s.heap.objs.size := fun n c e => by obtain ⟨v, q⟩ := I.cell n c e; exact q.lt
  have look : ∀ x c, (cellsFrom (s.heap.objs.size + 1) scope.names (closeFrom X.env scope.names [])).lookup x = some c →
      ((x, c) ∈ cellsFrom (s.heap.objs.size + 1) scope.names [] ∧ s.heap.objs.size + 1 ≤ c) ∨ (X.env.cells.lookup x = some c ∧ @LT.lt Nat instLTNat c s.heap.objs.size) := fun x c e => by
    rw [cellsFrom_app, lookup_app] at e
    cases q : (cellsFrom (s.heap.objs.size + 1) scope.names []).lookup x with
    | some c' =>
      rw [q] at e
      have e' : c' = c := Option.some.inj e
      subst e'
      exact .inl ⟨mem_of_lookup q, (own.empty x c' (mem_of_lookup q)).2⟩
    | none =>
      rw [q] at e
      have e2 := clm x c (mem_of_lookup e)
      exact .inr ⟨e2, clt x c e2⟩
  have hasL : ∀ x, scope.names.lookup x = some .cell ∨ scope.names.lookup x = some .free → ∃ c, (cellsFrom (s.heap.objs.size + 1) scope.names (closeFrom X.env scope.names [])).lookup x = some c := fun x hx => by
    rw [cellsFrom_app, lookup_app]
    cases q : (cellsFrom (s.heap.objs.size + 1) scope.names []).lookup x with
    | some c' => exact ⟨c', rfl⟩
    | none =>
      rcases hx with hx | hx
      · obtain ⟨c, e⟩ := cell_has (n := s.heap.objs.size + 1) hx
        rw [q] at e; cases e
      · obtain ⟨c, hc⟩ := closeFrom_has (env := X.env) scope.names [] x (PySem.mem_of_lookup hx)
        exact lookup_some_of_mem hc
  have Ir := I.lt
  refine ⟨⟨I.ok.mod, B.kind, I.ok.glob, I.ok.blt, Nat.le_refl _, fun x y c hx hy => ?_, fun x hx => ?_, fun x c hf hx => ?_, I.ok.hd, I.ok.frames, .inl rfl, fun b hb => ?_, I.bs, Nat.le_trans I.ok.bsz I.sz, fun b o e hb => ?_, fun b hb hfs => ?_, I.stack, I.stkFree⟩,
    rfl, I.bare, Un.kept keep, ⟨fun _ => none, ?_, fun i x v h1 h2 h3 => ?_⟩, fun x c hx => ?_, ?_, fun x c hx => ?_, fun p hp => absurd (show p ∈ ([] : List (Addr × Obj)) from hp) (by simp), I.hok.kept keep, ?_⟩
  · rcases look x c hx with ⟨m1, l1⟩ | ⟨m1, l1⟩
    · rcases look y c hy with ⟨m2, l2⟩ | ⟨m2, l2⟩
      · exact name_of_addr own.apart m1 m2
      · omega
    · rcases look y c hy with ⟨m2, l2⟩ | ⟨m2, l2⟩
      · omega
      · exact I.ok.inj x y c m1 m2
  · have hx : (relabel scope X.env).names.lookup x = some .cell ∨ (relabel scope X.env).names.lookup x = some .free := hx
    rcases hx with hx | hx
    · obtain ⟨k0, e, z | ⟨_, z⟩⟩ := lookup_relabel hx
      · exact hasL x (.inl (by rw [e, ← z]))
      · exact hasL x (.inr (by rw [e, z]))
    · obtain ⟨k0, e, z | ⟨z, _⟩⟩ := lookup_relabel hx
      · exact hasL x (.inr (by rw [e, ← z]))
      · cases z
  · show s.heap.objs.size ≤ c
    have hf : (scope.names.lookup x == some .cell) = true := hf
    have hf' : scope.names.lookup x = some .cell := eq_of_beq hf
    have hx : (cellsFrom (s.heap.objs.size + 1) scope.names (closeFrom X.env scope.names [])).lookup x = some c := hx
    rw [cellsFrom_app, lookup_app] at hx
    obtain ⟨c', e⟩ := cell_has (n := s.heap.objs.size + 1) hf'
    rw [e] at hx
    have z : c' = c := Option.some.inj hx
    subst z
    exact Nat.le_of_succ_le (own.empty x c' (mem_of_lookup e)).2
  · obtain ⟨_, hlt⟩ := hex b hb
    refine ⟨Nat.ne_of_lt hlt, fun x c hx z => ?_⟩
    subst z
    have hlt' : @LT.lt Nat instLTNat c s.heap.objs.size := hlt
    rcases look x c hx with ⟨_, l1⟩ | ⟨m1, _⟩
    · omega
    · obtain ⟨⟨_, _, _, _, f4, _⟩, _⟩ := hex c hb
      exact f4 x c m1 rfl
  · obtain ⟨⟨_, _, _, f3, _, _⟩, _⟩ := hex b hb
    rcases f3 with z | z
    · exact I.ok.noex b o e z
    · have h1 : @LT.lt Nat instLTNat b X.base.objs.size := Heap.lt_size e
      have h2 := I.ok.bsz
      have h3 : @LE.le Nat instLENat X.s₀.heap.objs.size b := z
      omega
  · obtain ⟨⟨_, f1, f2, _, _, _⟩, _⟩ := hex b hb
    rcases List.mem_cons.mp (I.stkSub b hfs) with z | z
    · exact f1 z
    · exact f2 z
  · exact (Heap.Ns.new s.heap (.type "dict")).keeps (pushCells_keeps _ _)
  · have hi : i < X.N.length := by
      by_cases hi : i < X.N.length
      · exact hi
      · exfalso
        unfold blkSt at h2
        have hl : (ms.foldl (fun σ i => σ.set i none) σ).length = X.N.length := by rw [unset_len, I.len]
        rw [List.getElem?_append_right (by omega), List.getElem?_replicate] at h2
        split at h2 <;> cases h2
    have h2' : (ms.foldl (fun σ i => σ.set i none) σ)[i]? = some (some v) := by
      unfold blkSt at h2
      have hl : (ms.foldl (fun σ i => σ.set i none) σ).length = X.N.length := by rw [unset_len, I.len]
      rw [List.getElem?_append_left (by omega)] at h2
      exact h2
    obtain ⟨h4, h5⟩ := unset_get ms σ i v h2'
    have h1' : N'[i]? = some x := h1
    have hXN : X.N[i]? = some x := by rw [← B.pre i hi]; exact h1'
    have h3 : (relabel scope X.env).names.lookup x = some .local ∨ (relabel scope X.env).names.lookup x = some .cell ∨ (relabel scope X.env).names.lookup x = some .free := h3
    have fr : scope.names.lookup x = some .free := by
      have go : ∀ k', (relabel scope X.env).names.lookup x = some k' → k' = .local ∨ k' = .cell ∨ k' = .free → scope.names.lookup x = some .free := fun k' e hk => by
        obtain ⟨k0, e0, z | ⟨_, z⟩⟩ := lookup_relabel e
        · have := B.vis i hi h5 x k0 h1' e0 (z ▸ hk)
          rw [e0, this]
        · rw [e0, z]
      rcases h3 with h3 | h3 | h3
      · exact go _ h3 (.inl rfl)
      · exact go _ h3 (.inr (.inl rfl))
      · exact go _ h3 (.inr (.inr rfl))
    have hk := B.free (x, .free) (PySem.mem_of_lookup fr) rfl
    obtain ⟨m, hn, hl⟩ := I.loc
    obtain ⟨u, r, l⟩ := hl i x v hXN h4 (.inr hk)
    refine ⟨u, r, .inr ⟨?_, ?_⟩⟩
    · rcases h3 with h3 | h3
      · exfalso
        obtain ⟨k0, e0, z | ⟨z, _⟩⟩ := lookup_relabel h3
        · rw [fr] at e0; cases e0; cases z
        · cases z
      · exact h3
    · rcases l with ⟨hloc, _⟩ | ⟨_, c, hc, hcell⟩
      · rcases hk with hk | hk
        · rw [hk] at hloc; cases hloc
        · rw [hk] at hloc; cases hloc
      · refine ⟨c, ?_, hcell.keeps keep⟩
        obtain ⟨c2, e2⟩ := hasL x (.inr fr)
        have e2' : (cellsFrom (s.heap.objs.size + 1) scope.names (closeFrom X.env scope.names [])).lookup x = some c2 := e2
        rcases look x c2 e2' with ⟨m1, _⟩ | ⟨m1, _⟩
        · exfalso
          rcases cellsFrom_src scope.names _ _ _ m1 with q | q
          · have := B.uniq _ q
            rw [fr] at this
            cases this
          · cases q
        · rw [hc] at m1
          have z : c = c2 := Option.some.inj m1
          rw [z]
          exact e2
  · rcases look x c hx with ⟨m1, _⟩ | ⟨m1, _⟩
    · exact ⟨none, (own.empty x c m1).1⟩
    · obtain ⟨v, q⟩ := I.cell x c m1
      exact ⟨v, q.keeps keep⟩
  · exact I.hok.fresh (Nat.le_refl _)
  · rcases look x c hx with ⟨_, l1⟩ | ⟨m1, _⟩
    · exact I.hok.fresh (by omega)
    · exact I.freeC x c m1
  · show (blkSt ms k σ).length = N'.length
    unfold blkSt
    rw [List.length_append, unset_len, List.length_replicate, I.len, B.len]
end
end L2
namespace L2
open PySem PySem.Spec PyProof.Rows
def tTrue : TT := fun _ H Q => Q true H
def CompW (J : It) (g : TG) (tc : TT) (te : TE) (D : Addr) (Q : VK) (σ0 : St) (H0 : Hp) : Prop := ∃ W : Nat → Nat → St → Hp → Prop, (∃ m, W 0 m σ0 (upd H0 D (.lst []))) ∧
  ∀ i m σ' H2, W i m σ' H2 → (J.stop i H2 ∧ Q (.ref D) H2) ∨ (J.go i H2 ∧ ∀ x H3, J.yld i H2 x H3 → g x σ' H3 fun σ2 H4 => tc σ2 H4 fun b H5 =>
    if b = true then te σ2 H5 fun v H6 => ∃ ys, H6 D = some (.lst ys) ∧ ys.length < sizeLine ∧ ∃ m', m' < m ∧ W (i + 1) m' σ2 (upd H6 D (.lst (ys ++ [v])))
    else ∃ m', m' < m ∧ W (i + 1) m' σ2 H5)
def tComp (wi : TI) (g : TG) (tc : TT) (te : TE) (ms : List Nat) (k : Nat) : TE := fun σ H Q => wi σ H fun J H1 => ∀ D, H1 D = none → CompW J g tc te D Q (blkSt ms k σ) H1
def PTs (X : Cx) (ifs : List Expr) (t : TT) : Prop :=
  ∀ (pins : List (Addr × Obj)) (s : Shared) (σ : St) (H : Hp) (Q : Bool → Hp → Prop), Inv X pins σ H s → t σ H Q →
    wpAny (model X.prog X.w) X.A (forIn ifs true fun c r => if r = true then do let ok ← isTrue c X.env (eval c X.env); pure (ForInStep.yield ok) else pure (ForInStep.yield r)) (TP X pins σ Q) X.xe s
section
variable {X : Cx}
theorem pts_nil : PTs X [] tTrue := fun pins s σ H Q I h => wpAny_tests_nil ⟨H, I, h⟩
theorem pts_one {c : Expr} {t : TT} (h : PT X c t) : PTs X [c] t := fun pins s σ H Q I hw => wpAny_tests_one (h pins s σ H Q I hw)
theorem comp_core {elt target iter : Expr} {ifs : List Expr} {scope : Scope} {pos : Pos} {p : Pos} {wi : TI} {g : TG} {tc : TT} {te : TE} {N' : List Str} {ms : List Nat} {k : Nat} {use : Option (Value → Sem Unit)}
    {Q : Value → Shared → Prop} {pins : List (Addr × Obj)} {s : Shared} {σ : St} {H : Hp} {Qv : VK} (hcalm : X.calm = true) (hi : PI X target iter wi)
    (B : BlkOk X N' scope ms k) (hg : ∀ C cells s₀ H₀ ex, PG (blkCx X N' scope C cells s₀ H₀ ex) target g) (hc : ∀ C cells s₀ H₀ ex, PTs (blkCx X N' scope C cells s₀ H₀ ex) ifs tc)
    (he : ∀ C cells s₀ H₀ ex, PE (blkCx X N' scope C cells s₀ H₀ ex) elt te) (hs : ∀ x, foldedSetIterable iter X.env x = pure x) (I : Inv X pins σ H s) (hw : tComp wi g tc te ms k σ H Qv)
    (hpost : ∀ (D : Addr) (H' : Hp) (s' : Shared) (C : Addr) (m : Str → Option Value), Inv X pins σ H' s' → s'.heap.Ns C m → H' C = none → C ≠ X.env.locals → X.s₀.heap.objs.size ≤ C →
      (∀ x c, X.env.cells.lookup x = some c → c ≠ C) → (∀ p ∈ X.pn ++ pins, p.1 ≠ C) → Qv (.ref D) H' → compPost (model X.prog X.w) X.A X.xe use Q (.ref D) C (.ok .next) s') :
    wpAny (model X.prog X.w) X.A (comprehension (.ListComp elt [⟨target, iter, ifs, 0⟩] scope pos) scope X.env p (newList []) false (eval iter X.env) use) Q X.xe s := by
  have hfree : ∀ x ∈ scope.names, x.2 = .free → ∃ c, X.env.cells.lookup x.1 = some c := fun x hx hk => I.ok.has x.1 (B.free x hx hk)
  refine wpAny_comprehension_free (use := use) rfl hs (closureFor_eq hfree) B.kind (fun x hx hl => by rw [B.uniq x hx, hl]) ?_
  refine thn (hi pins s σ H _ I hw) fun v s1 h1 => thn h1 fun itv s2 h2 => ?_
  obtain ⟨it, fp, tn, J, H2, rfl, I2, T, st2, f2, h2⟩ := h2
  refine wpAny_newObj_type ?_
  have I3 : Inv X pins σ (upd H2 s2.heap.objs.size (.lst [])) { s2 with heap := s2.heap.push { cls := .type "list", data := .seq ([] : List Value).toArray } } := I2.lnew (t' := s2.toks) .nil (Nat.zero_le _)
  obtain ⟨W, ⟨m0, w0⟩, turn⟩ := h2 s2.heap.objs.size I2.fresh
  have hfp3 : ∀ b ∈ fp, FpOk X pins (upd H2 s2.heap.objs.size (.lst [])) b ∧ b < (s2.heap.push { cls := .type "list", data := .seq ([] : List Value).toArray }).objs.size := fun b hb => by
    obtain ⟨o, e, _⟩ := T.obj _ _ st2 b hb
    have hlt := Heap.lt_size e
    obtain ⟨f0, fr⟩ := f2 b hb
    refine ⟨⟨by rw [upd_ne (Nat.ne_of_lt hlt)]; exact f0, fr⟩, ?_⟩
    rw [Heap.size_push]
    exact Nat.lt_succ_of_lt hlt
  generalize hs3 : ({ s2 with heap := s2.heap.push { cls := .type "list", data := .seq ([] : List Value).toArray } } : Shared) = s3 at I3
  have hh3 : s2.heap.push { cls := .type "list", data := .seq ([] : List Value).toArray } = s3.heap := by rw [← hs3]
  rw [hh3] at hfp3
  refine wp_blkEnv ?_
  have I4 := inv_blk I3 B hfp3
  have st4 : tn 0 (pushCells (s3.heap.push { cls := .type "dict", data := .dict #[] }) scope.names) := T.keep _ _ _ st2 fun b hb o e => pushCells_keeps _ _ b o (Heap.get?_push_of_some _ (by rw [← hh3]; exact Heap.get?_push_of_some _ e))
  have fr4 : ∀ b ∈ fp, upd H2 s2.heap.objs.size (.lst []) b = none := fun b hb => (hfp3 b hb).1.1
  generalize hs4 : ({ s3 with heap := pushCells (s3.heap.push { cls := .type "dict", data := .dict #[] }) scope.names } : Shared) = s4 at I4
  have hh4 : pushCells (s3.heap.push { cls := .type "dict", data := .dict #[] }) scope.names = s4.heap := by rw [← hs4]
  rw [hh4] at st4
  have stat : ∀ {H' : Hp} {pn' : List (Addr × Obj)}, pn' = [] → (∀ b ∈ fp, H' b = none) → ∀ b ∈ fp, FpOk (blkCx X N' scope s3.heap.objs.size (cellsFrom (s3.heap.objs.size + 1) scope.names (closeFrom X.env scope.names [])) s3 (upd H2 s2.heap.objs.size (.lst [])) fp) pn' H' b := fun hp hn b hb => by
    obtain ⟨x1, x2⟩ := I4.ok.exf b hb
    exact ⟨hn b hb, x1, I4.ok.exfs b hb, .inl hb, x2, fun p hp' => by rw [hp] at hp'; exact absurd (show p ∈ ([] : List (Addr × Obj)) from hp') (by simp)⟩
  have loop : ∀ it' : Value, it' = .ref it → codeAny (model X.prog X.w) X.A (.compLoop (.ListComp elt [⟨target, iter, ifs, 0⟩] scope pos) 0 it' (.ref s2.heap.objs.size) (blkEnv scope X.env s3.heap.objs.size (cellsFrom (s3.heap.objs.size + 1) scope.names (closeFrom X.env scope.names []))))
      (compPost (model X.prog X.w) X.A X.xe use Q (.ref s2.heap.objs.size) s3.heap.objs.size) s4 := by
    rintro it' rfl
    refine compLoop_any (fun n s' => ∃ i σ' H', Inv (blkCx X N' scope s3.heap.objs.size (cellsFrom (s3.heap.objs.size + 1) scope.names (closeFrom X.env scope.names [])) s3 (upd H2 s2.heap.objs.size (.lst [])) fp) [] σ' H' s' ∧ tn i s'.heap ∧ (∀ b ∈ fp, H' b = none) ∧ W i n σ' H') ?_ m0 ⟨0, _, _, I4, st4, fr4, w0⟩
    rintro n s5 ⟨i, σ5, H5, I5, st5, fr5, w5⟩
    rcases turn i n σ5 H5 w5 with ⟨stop, q⟩ | ⟨go, step⟩
    · refine thn (T.done (blkCx X N' scope s3.heap.objs.size (cellsFrom (s3.heap.objs.size + 1) scope.names (closeFrom X.env scope.names [])) s3 (upd H2 s2.heap.objs.size (.lst [])) fp) rfl rfl rfl hcalm i [] s5 σ5 H5 (fun _ _ => False) I5 (stat rfl fr5) st5 stop) fun r s6 ⟨hr, I6⟩ => ?_
      subst hr
      have I7 : Inv X pins σ H5 s6 := I3.call' I6.os I6.base I6.hok I6.bare fun b hb => by
        obtain ⟨⟨_, f1, _, f3, f4, f5⟩, _⟩ := hfp3 b hb
        exact ⟨f3, f1, f4, f5⟩
      obtain ⟨m, hn, _⟩ := I6.loc
      have l3 := I3.lt
      refine hpost _ H5 s6 _ m I7 hn I6.free (Nat.ne_of_gt l3) I3.sz (fun x c e z => ?_) (fun p hp z => ?_) q
      · obtain ⟨v, hv⟩ := I3.cell x c e
        have := hv.lt
        rw [z] at this
        exact Nat.lt_irrefl _ this
      · have := Heap.lt_size (I3.pin p hp).1
        rw [z] at this
        exact Nat.lt_irrefl _ this
    · refine thn (T.item (blkCx X N' scope s3.heap.objs.size (cellsFrom (s3.heap.objs.size + 1) scope.names (closeFrom X.env scope.names [])) s3 (upd H2 s2.heap.objs.size (.lst [])) fp) rfl rfl rfl hcalm i [] s5 σ5 H5 (fun _ _ => False) I5 (stat rfl fr5) st5 go) fun r s6 ⟨u, hr, h6⟩ => ?_
      subst hr
      refine thn h6 fun _ s7 ⟨x, H7, I7, r7, y7, st7, fr7⟩ => ?_
      have I7' := I7.pinned (stat rfl fr7) (T.obj _ _ st7)
      refine thn (hg _ _ _ _ _ _ s7 σ5 H7 x u _ I7' r7 (step x H7 y7)) fun _ s8 ⟨σ8, H8, I8, q8⟩ => ?_
      refine thn (hc _ _ _ _ _ _ s8 σ8 H8 _ I8 q8) fun b s9 ⟨H9, I9, q9⟩ => ?_
      have again : ∀ {σ' : St} {H' : Hp} {s' : Shared}, Inv (blkCx X N' scope s3.heap.objs.size (cellsFrom (s3.heap.objs.size + 1) scope.names (closeFrom X.env scope.names [])) s3 (upd H2 s2.heap.objs.size (.lst [])) fp) ([] ++ pinsAt fp s7.heap) σ' H' s' →
          (∃ m', m' < n ∧ W (i + 1) m' σ' H') → ∃ m, m < n ∧ ∃ i σ'' H'', Inv (blkCx X N' scope s3.heap.objs.size (cellsFrom (s3.heap.objs.size + 1) scope.names (closeFrom X.env scope.names [])) s3 (upd H2 s2.heap.objs.size (.lst [])) fp) [] σ'' H'' s' ∧ tn i s'.heap ∧ (∀ b ∈ fp, H'' b = none) ∧ W i m σ'' H'' := fun {σ' H' s'} I' ⟨m', hm, w'⟩ => by
        refine ⟨m', hm, i + 1, σ', H', I'.unpinned, T.keep _ _ _ st7 fun b hb o e => (I'.pin (b, o) (List.mem_append_right _ (List.mem_append_right _ (mem_pinsAt hb e)))).1, fun b hb => ?_, w'⟩
        obtain ⟨o, e, d⟩ := T.obj _ _ st7 b hb
        exact (I'.pin (b, o) (List.mem_append_right _ (List.mem_append_right _ (mem_pinsAt hb e)))).2.1
      cases b with
      | false =>
        rw [if_neg Bool.false_ne_true] at q9 ⊢
        exact again I9 q9
      | true =>
        rw [if_pos rfl] at q9 ⊢
        refine thn (he _ _ _ _ _ _ s9 σ8 H9 _ I9 q9) fun y s10 ⟨vy, H10, I10, r10, ys, hys, hz, q10⟩ => ?_
        refine thn (mt_append _ s10 σ8 H10 (.ref s2.heap.objs.size) [vy] (.ref s2.heap.objs.size) [y] (fun _ H' => H' = upd H10 s2.heap.objs.size (.lst (ys ++ [vy]))) I10 rfl (.cons r10 .nil) ⟨_, ys, vy, rfl, rfl, hys, hz, rfl⟩) fun _ s11 ⟨_, H11, I11, _, e11⟩ => ?_
        subst e11
        exact again I11 q10
  have fin := codeAny_compStart_list (loop _ rfl) (T.self _ 0 s4 _ _ st4 (loop _ rfl))
  exact fin
theorem pe_compG {elt target iter : Expr} {ifs : List Expr} {scope : Scope} {pos : Pos} {wi : TI} {g : TG} {tc : TT} {te : TE} {N' : List Str} {ms : List Nat} {k : Nat} (hcalm : X.calm = true) (hi : PI X target iter wi)
    (B : BlkOk X N' scope ms k) (hg : ∀ C cells s₀ H₀ ex, PG (blkCx X N' scope C cells s₀ H₀ ex) target g) (hc : ∀ C cells s₀ H₀ ex, PTs (blkCx X N' scope C cells s₀ H₀ ex) ifs tc)
    (he : ∀ C cells s₀ H₀ ex, PE (blkCx X N' scope C cells s₀ H₀ ex) elt te) (hs : ∀ x, foldedSetIterable iter X.env x = pure x := by intro _; rfl) :
    PE X (.ListComp elt [⟨target, iter, ifs, 0⟩] scope pos) (tComp wi g tc te ms k) := by
  intro pins s σ H Q I h
  rw [eval_ListComp]
  refine comp_core (use := none) (Qv := Q) hcalm hi B hg hc he hs I h fun D H' s' C m I' hn f0 f1 f3 f4 f5 q => ?_
  exact ⟨m, hn, fun h' sb => ⟨.ref D, H', I'.turned (t' := s'.toks) (fun b o hb e => (sb.2 b hb).trans e) f0 f1 (.inr f3) f4 f5, rfl, q⟩⟩
theorem ps_setC {i : Nat} {x : Str} {px : Pos} {spos : Pos} {elt target iter : Expr} {ifs : List Expr} {scope : Scope} {pos : Pos} {wi : TI} {g : TG} {tc : TT} {te : TE} {N' : List Str} {ms : List Nat} {k : Nat} (hN : X.N.Nodup) (hx : X.N[i]? = some x) (hl : Loc X.env.scope x)
    (hcalm : X.calm = true) (hi : PI X target iter wi) (B : BlkOk X N' scope ms k) (hg : ∀ C cells s₀ H₀ ex, PG (blkCx X N' scope C cells s₀ H₀ ex) target g) (hc : ∀ C cells s₀ H₀ ex, PTs (blkCx X N' scope C cells s₀ H₀ ex) ifs tc)
    (he : ∀ C cells s₀ H₀ ex, PE (blkCx X N' scope C cells s₀ H₀ ex) elt te) (hsw : swapsWith (.ListComp elt [⟨target, iter, ifs, 0⟩] scope pos) (some (.Name x px)) spos.line X.env = pure true := by rfl) (hs : ∀ x, foldedSetIterable iter X.env x = pure x := by intro _; rfl)
    (hf : X.fn x = true ∨ X.env.scope.names.lookup x = some .local := by first | exact .inl rfl | exact .inr rfl | assumption) :
    PS X (.Assign [.Name x px] (.ListComp elt [⟨target, iter, ifs, 0⟩] scope pos) spos) (tAsg (tComp wi g tc te ms k) (gName i)) := by
  intro pins s σ H D I h
  rw [exec_Assign_Name_used _ _ _ _ hsw]
  refine wpAny_bind (wpAny_standAt (wpAny_bind ?_))
  show wpAny _ X.A (do let _ ← comprehension (.ListComp elt [⟨target, iter, ifs, 0⟩] scope pos) scope X.env _ (newList []) false (eval iter X.env) (some (assign (.Name x px) X.env))) _ _ s
  refine wpAny_bind (wpAny_mono (comp_core (use := some (assign (.Name x px) X.env)) (Q := fun _ s' => ∃ σ' H', Inv X pins σ' H' s' ∧ D.nx σ' H') hcalm hi B hg hc he hs I h fun Da H' s' C m I' hn f0 f1 f3 f4 f5 q => ?_)
    (fun _ s' hq => wpAny_pure (wpAny_pure hq)) fun _ _ e => e)
  show wpAny _ X.A (assign (.Name x px) X.env (.ref Da)) _ _ s'
  refine wpAny_assign_Name (store_ok2 I' hN hx hl (v := .ref Da) rfl (fun s'' I'' ⟨b, sb, hb⟩ => ?_) hf)
  have hCb : C ≠ b := by
    rcases hb with z | z
    · rw [z]; exact f1
    · exact fun e => f4 x b z e.symm
  refine ⟨m, hn.sameBut sb hCb, fun h' sb' => ⟨_, H', I''.turned (t' := s''.toks) (fun b o hb e => (sb'.2 b hb).trans e) f0 f1 (.inr f3) f4 f5, q⟩⟩
end
end L2
namespace L2
open PySem PySem.Spec PyProof.Rows
def blkB (N : List Str) (lk : Str → Option NameKind) (N' : List Str) (scope : Scope) (ms : List Nat) (k : Nat) : Bool :=
  scope.kind == .function && (scope.names.all fun x => scope.names.lookup x.1 == some x.2) && (scope.names.all fun x => !(x.2 == .free) || lk x.1 == some .cell || lk x.1 == some .free) &&
  N'.length == N.length + k && (N'.take N.length == N) &&
  (List.range N.length).all fun i => ms.contains i || (match N'[i]? with | none => true | some x => match scope.names.lookup x with | some .local => false | some .cell => false | _ => true)
theorem BlkOk.of {X : Cx} {N' : List Str} {scope : Scope} {ms : List Nat} {k : Nat} (h : blkB X.N X.env.kindOf N' scope ms k = true) : BlkOk X N' scope ms k := by
  unfold blkB at h
  simp only [Bool.and_eq_true] at h
  obtain ⟨⟨⟨⟨⟨h1, h2⟩, h3⟩, h4⟩, h5⟩, h6⟩ := h
  have e5 : N'.take X.N.length = X.N := eq_of_beq h5
  refine ⟨eq_of_beq h1, fun x hx => eq_of_beq (List.all_eq_true.mp h2 x hx), fun x hx hk => ?_, eq_of_beq h4, fun i hi => ?_, fun i hi hm x k' e1 e2 hk => ?_⟩
  · have q := List.all_eq_true.mp h3 x hx
    simp only [Bool.or_eq_true] at q
    rcases q with (q | q) | q
    · rw [hk] at q; cases q
    · exact .inl (eq_of_beq q)
    · exact .inr (eq_of_beq q)
  · have q : (N'.take X.N.length)[i]? = N'[i]? := List.getElem?_take_of_lt hi
    rw [e5] at q
    exact q.symm
  · have q := List.all_eq_true.mp h6 i (List.mem_range.mpr hi)
    rw [Bool.or_eq_true] at q
    rcases q with q | q
    · exact absurd (by simpa using q) hm
    · rw [e1] at q
      rcases hk with rfl | rfl | rfl
      · simp only [e2] at q; cases q
      · simp only [e2] at q; cases q
      · rfl
section
variable {K : PySem.W.Frag} {a : Addr} {xs : List V} {g : TG} {tc : TT} {te : TE} {D : Addr} {σ : St} {H : Hp} {Q : VK}
def CNext (D : Addr) (n i : Nat) (Pv : Nat → List V → St → Hp → Prop) (σ2 : St) : VK := fun v H6 => ∃ ys, H6 D = some (.lst ys) ∧ ys.length < sizeLine ∧ ∃ m', m' < n - i ∧ (m' = n - (i + 1) ∧ i + 1 ≤ n ∧ ∃ ys', Pv (i + 1) ys' σ2 (upd H6 D (.lst (ys ++ [v]))))
def CSkip (n i : Nat) (Pv : Nat → List V → St → Hp → Prop) (σ2 : St) (H5 : Hp) : Prop := ∃ m', m' < n - i ∧ (m' = n - (i + 1) ∧ i + 1 ≤ n ∧ ∃ ys', Pv (i + 1) ys' σ2 H5)
theorem cnext {n i : Nat} {Pv : Nat → List V → St → Hp → Prop} {σ2 : St} {v : V} {H6 : Hp} {ys : List V} (hi : i < n) (h : H6 D = some (.lst ys)) (hz : ys.length ≤ 100000) (p : Pv (i + 1) (ys ++ [v]) σ2 (upd H6 D (.lst (ys ++ [v])))) : CNext D n i Pv σ2 v H6 :=
  ⟨ys, h, smallLt hz, n - (i + 1), by omega, rfl, hi, _, p⟩
theorem cskip {n i : Nat} {Pv : Nat → List V → St → Hp → Prop} {σ2 : St} {H5 : Hp} {ys : List V} (hi : i < n) (p : Pv (i + 1) ys σ2 H5) : CSkip n i Pv σ2 H5 := ⟨n - (i + 1), by omega, rfl, hi, _, p⟩
theorem comp_list (Pv : Nat → List V → St → Hp → Prop) (h0 : Pv 0 [] σ (upd H D (.lst []))) (hl : ∀ i ys σ H, i ≤ xs.length → Pv i ys σ H → SqL K H a xs)
    (hs : ∀ i x ys σ H, xs[i]? = some x → i < xs.length → Pv i ys σ H → g x σ H fun σ2 H4 => tc σ2 H4 fun b H5 => if b = true then te σ2 H5 (CNext D xs.length i Pv σ2) else CSkip xs.length i Pv σ2 H5)
    (hd : ∀ ys σ H, Pv xs.length ys σ H → Q (.ref D) H) :
    CompW (Itl K a) g tc te D Q σ H := by
  refine ⟨fun i m σ H => m = xs.length - i ∧ i ≤ xs.length ∧ ∃ ys, Pv i ys σ H, ⟨xs.length, by simp, Nat.zero_le _, [], h0⟩, ?_⟩
  rintro i m σ H ⟨rfl, hi, ys, p⟩
  have q := hl i ys σ H hi p
  by_cases hlt : i < xs.length
  · refine .inr ⟨⟨xs, xs[i], q, by simp [hlt]⟩, fun x H' y => ?_⟩
    obtain ⟨e, y⟩ := y
    subst e
    exact hs i x ys σ _ (y xs q) hlt p
  · have e : i = xs.length := by omega
    subst e
    exact .inl ⟨⟨xs, q, Nat.le_refl _⟩, hd ys σ H p⟩
theorem comp_range {lo : Int} {n : Nat} (Pv : Nat → List V → St → Hp → Prop) (h0 : Pv 0 [] σ (upd H D (.lst [])))
    (hs : ∀ i ys σ H, i < n → Pv i ys σ H → g (.int (lo + i)) σ H fun σ2 H4 => tc σ2 H4 fun b H5 => if b = true then te σ2 H5 (CNext D n i Pv σ2) else CSkip n i Pv σ2 H5)
    (hd : ∀ ys σ H, Pv n ys σ H → Q (.ref D) H) :
    CompW (Itr lo n) g tc te D Q σ H := by
  refine ⟨fun i m σ H => m = n - i ∧ i ≤ n ∧ ∃ ys, Pv i ys σ H, ⟨n, by simp, Nat.zero_le _, [], h0⟩, ?_⟩
  rintro i m σ H ⟨rfl, hi, ys, p⟩
  by_cases hlt : i < n
  · refine .inr ⟨hlt, fun x H' y => ?_⟩
    obtain ⟨e, y⟩ := y
    subst e y
    exact hs i ys σ _ hlt p
  · have e : i = n := by omega
    subst e
    exact .inl ⟨Nat.le_refl _, hd ys σ H p⟩
end
end L2
namespace Sr
open PySem PyProof.Rows
def Tells (prog : Program) (w : World) (A : Around) (s : Shared) (κ : KeyKind) (kd : SortKind) : Prop :=
  ∀ (E : Value → Shared → Prop) (x y : Value) (a b : κ.α) (Q : Bool → Shared → Prop), κ.keyOf x = some a → κ.keyOf y = some b → Q (κ.blt a b) s → wpAny (model prog w) A (keyLt' kd x y) Q E s
structure Stays (kd : SortKind) (o : Array Keyed) (st : SortSt) : Prop where
  pm : (arrOf st).Perm o
  kn : kindOf st = kd
  fl : failedOf st = none
  pn : pendingOf st = #[]
section
variable {prog : Program} {w : World} {A : Around} {E : Value → Shared → Prop} {s : Shared} {o : Array Keyed} {κ : KeyKind} {kd : SortKind} {st : SortSt}
end
end Sr
namespace Sr
open PySem PyProof.Rows
def intsV : List Value → Option (List Int)
  | [] => some []
  | .int n _ :: r => (intsV r).map (n :: ·)
  | _ :: _ => none
def tupK (h : Heap) : Value → Option (List Int)
  | .ref a => match h.get? a with
    | some o => match o.data with
      | .seq its _ => intsV its.toList
      | _ => none
    | none => none
  | _ => none
theorem lex_irrefl : ∀ a : List Int, HT.lexLt a a = false
  | [] => rfl
  | x :: xs => by rw [HT.lexLt_cons, if_pos rfl]; exact lex_irrefl xs
theorem lex_trans : ∀ a b c : List Int, HT.lexLt a b = true → HT.lexLt b c = true → HT.lexLt a c = true
  | [], [], _, h, _ => by cases h
  | [], _ :: _, [], _, h => by cases h
  | [], _ :: _, _ :: _, _, _ => rfl
  | _ :: _, [], _, h, _ => by cases h
  | _ :: _, _ :: _, [], _, h => by cases h
  | x :: xs, y :: ys, z :: zs, h1, h2 => by
    rw [HT.lexLt_cons] at h1 h2 ⊢
    by_cases e1 : x = y
    · subst e1
      rw [if_pos rfl] at h1
      by_cases e2 : x = z
      · subst e2
        rw [if_pos rfl] at h2 ⊢
        exact lex_trans xs ys zs h1 h2
      · rw [if_neg e2] at h2 ⊢
        exact h2
    · rw [if_neg e1] at h1
      have l1 := of_decide_eq_true h1
      by_cases e2 : y = z
      · subst e2
        rw [if_neg e1]
        exact h1
      · rw [if_neg e2] at h2
        have l2 := of_decide_eq_true h2
        rw [if_neg (by omega)]
        exact decide_eq_true (by omega)
theorem lex_total : ∀ a b : List Int, HT.lexLt a b = false → HT.lexLt b a = false → a = b
  | [], [], _, _ => rfl
  | [], _ :: _, h, _ => by cases h
  | _ :: _, [], _, h => by cases h
  | x :: xs, y :: ys, h1, h2 => by
    rw [HT.lexLt_cons] at h1 h2
    by_cases e : x = y
    · subst e
      rw [if_pos rfl] at h1 h2
      rw [lex_total xs ys h1 h2]
    · rw [if_neg e] at h1
      rw [if_neg (Ne.symm e)] at h2
      have l1 := of_decide_eq_false h1
      have l2 := of_decide_eq_false h2
      omega
theorem lex_neg (a b c : List Int) (h : HT.lexLt a c = true) : HT.lexLt a b = true ∨ HT.lexLt b c = true := by
  cases e1 : HT.lexLt a b with
  | true => exact .inl rfl
  | false =>
    cases e2 : HT.lexLt b c with
    | true => exact .inr rfl
    | false =>
      exfalso
      cases e3 : HT.lexLt b a with
      | true =>
        have := lex_trans b a c e3 h
        rw [e2] at this
        cases this
      | false =>
        rw [lex_total a b e1 e3, e2] at h
        cases h
def kT (h : Heap) : KeyKind where
  α := List Int
  blt := HT.lexLt
  irrefl := lex_irrefl
  trans := lex_trans
  negTrans := lex_neg
  total := lex_total
  keyOf := tupK h
  dflt := []
section
variable {prog : Program} {w : World} {A : Around} {E : Value → Shared → Prop} {s : Shared}
def Head (h : Heap) (v : Value) : Prop := ∃ (a : Addr) (its : List Value) (n : Int) (t : Tok) (r : List Value), v = .ref a ∧ IsTup h a its.toArray ∧ its = .int n t :: r
def headV (h : Heap) : Value → Option Value
  | .ref a => match h.get? a with
    | some o => match o.data with
      | .seq its _ => its[0]?
      | _ => none
    | none => none
  | _ => none
end
end Sr
namespace Sr
open PySem PyProof.Rows
section
variable {prog : Program} {w : World} {A : Around} {E : Value → Shared → Prop} {s : Shared}
end
end Sr
namespace L2
open PySem PySem.Spec PyProof.Rows
abbrev TI2 := Addr × List Int
def refsV (ts : List TI2) : List V := ts.map fun t => .ref t.1
section
variable {X : Cx}
end
end L2
namespace L2
open PySem PySem.Spec PyProof.Rows
section
variable {X : Cx}
end
end L2
namespace L2
open PySem PySem.Spec PyProof.Rows
theorem pick_back (its : List Value) : slicePick its.toArray none none (some (-1)) = its.reverse.toArray := by
  unfold slicePick
  have e : sliceBounds none none (some (-1)) its.toArray.size = ((its.length : Int) - 1, -1, -1) := by
    simp [sliceBounds]
  rw [e]
  congr 1
  apply List.ext_getElem?
  intro i
  have hr : sliceRange ((its.length : Int) - 1) (-1) (-1) = (List.range its.length).map fun k => its.length - 1 - k := by
    unfold sliceRange
    have hc : (if (-1 : Int) > 0 then (if (its.length : Int) - 1 < -1 then ((-1) - ((its.length : Int) - 1) + (-1) - 1) / (-1) else 0)
        else (if (its.length : Int) - 1 > -1 then ((its.length : Int) - 1 - (-1) - (-1) - 1) / (-(-1)) else 0)) = (its.length : Int) := by
      rw [if_neg (by decide)]
      split
      · rw [show (-(-1) : Int) = 1 from rfl, Int.ediv_one]
        omega
      · omega
    simp only [hc, Int.toNat_natCast]
    apply List.map_congr_left
    intro k hk
    have := List.mem_range.mp hk
    omega
  rw [hr]
  have hf : (List.filterMap (fun x => its.toArray[x]?) ((List.range its.length).map fun k => its.length - 1 - k)) = its.reverse := by
    have h2 : ∀ n, n ≤ its.length → List.filterMap (fun x => its.toArray[x]?) ((List.range n).map fun k => its.length - 1 - k) = its.reverse.take n := by
      intro n
      induction n with
      | zero => intro _; rfl
      | succ n ih =>
        intro hn
        rw [List.range_succ, List.map_append, List.filterMap_append, ih (by omega), List.map_singleton]
        have hx : its.toArray[its.length - 1 - n]? = some its[its.length - 1 - n] := by
          rw [List.getElem?_toArray]
          exact List.getElem?_eq_getElem (by omega)
        rw [List.filterMap_cons, hx, List.filterMap_nil]
        rw [List.take_add_one, List.getElem?_reverse (by omega), List.getElem?_eq_getElem (by omega)]
        rfl
    rw [h2 its.length (Nat.le_refl _), List.take_of_length_le (by simp)]
  rw [hf]
theorem Vals.rev : ∀ {xs : List V} {us : List Value}, Vals xs us → Vals xs.reverse us.reverse
  | _, _, .nil => .nil
  | _, _, .cons r t => by
    rw [List.reverse_cons, List.reverse_cons]
    exact Vals.append (Vals.rev t) (.cons r .nil)
section
variable {X : Cx} {e st : Expr} {te tst : TE} {pos p2 : Pos}
def tRev (K : PySem.W.Frag) (te tst : TE) : TE := fun σ H Q => te σ H fun x H1 => tst σ H1 fun y H2 => ∃ a xs, x = .ref a ∧ y = .int (-1) ∧ SqL K H2 a xs ∧ ∀ p, H2 p = none → Q (.ref p) (upd H2 p (.lst xs.reverse))
theorem pe_rev (he : PE X e te) (hs : PE X st tst) : PE X (.Subscript e (.Slice none none (some st) p2) pos) (tRev X.K te tst) := by
  intro pins s σ H Q I h
  refine Subscript_ (thn (he pins s σ H _ I h) fun v s1 ⟨x, H1, I1, r1, q1⟩ => ?_)
  refine wpAny_Slice ?_
  rw [evalPart_none, evalPart_some]
  refine wpAny_pure (wpAny_pure (thn (hs pins s1 σ H1 _ I1 q1) fun vs s3 ⟨y, H3, I3, r3, q3⟩ => ?_))
  obtain ⟨a, xs, rfl, rfl, hq, q⟩ := q3
  cases r1
  obtain ⟨t, rfl⟩ := r3
  have I4 : Inv X pins σ H3 { s3 with heap := s3.heap.push { cls := .type "slice", data := .fields #[.none, .none, .int (-1) t] } } := I3.kept (t' := s3.toks) fun b ob q => Heap.get?_push_of_some _ q
  obtain ⟨its, rv, ht, hz⟩ := I4.list hq
  have hlen := rv.length
  show wpAny (model X.prog X.w) X.A (subscriptTail e (.Slice none none (some st) p2) (.ref a) (.ref s3.heap.objs.size)) (EP X pins σ Q) X.xe { s3 with heap := s3.heap.push { cls := .type "slice", data := .fields #[.none, .none, .int (-1) t] } }
  refine tail_any (ops := [.ref a, .ref s3.heap.objs.size]) ht.isList.typeIs slot_list_getitem.lookup ?_ (by with_unfolding_all rfl)
  refine wpAny_getItem_list_slice ht.isList (Heap.IsSliceOf.new ..) .none .none (.int (-1) t) (by decide) ?_ (by rw [List.size_toArray]; omega)
  rw [pick_back]
  refine ⟨.ref _, _, I4.laid (t' := s3.toks) (o := .lst xs.reverse) (fun b ob q => Heap.get?_push_of_some _ q) (Nat.le_refl _) ?_, rfl, q _ (I4.hok.fresh (Nat.le_refl _))⟩
  exact ⟨by rw [List.length_reverse]; exact hz, _, 0, rv.rev, Heap.get?_push_size _ rfl⟩
end
end L2
namespace L2
open PySem PySem.Spec PyProof.Rows
section
variable {X : Cx} (K : PySem.W.Frag) (hK : X.K = K)
include hK
theorem kix_list : IxR X (rIxL K) := by subst hK; exact ix_list
theorem kix_tup : IxR X (rIxT K) := by subst hK; exact ix_tup
theorem ksl_list : SlR X (rSlL K) := by subst hK; exact sl_list
theorem knotIn_seq : OpR X (compareOp .NotIn) (rIn K true) := by subst hK; exact op_notIn_seq
theorem keqD (hu : X.A.units + 64 < cLine) : OpR X (compareOp .Eq) (rEqD K false) := by subst hK; exact op_eqD hu
theorem kneD (hu : X.A.units + 64 < cLine) : OpR X (compareOp .NotEq) (rEqD K true) := by subst hK; exact op_neD hu
def rLen (K : PySem.W.Frag) : List V → Hp → VK → Prop := fun xs H Q => ∃ p ys, xs = [.ref p] ∧ (SqL K H p ys ∨ SqT K H p ys) ∧ Q (.int ys.length) H
theorem klen_seq : CallR X (.builtin "len") (rLen K) := by subst hK; exact call_len_seq
def rIsi (K : PySem.W.Frag) : List V → Hp → VK → Prop := fun xs H Q => ∃ x n t b, xs = [x, .ty n] ∧ TyOf K H x t ∧ PySem.W.kitOne K t (.type n) = some b ∧ Q (.bl b) H
def rListOf (K : PySem.W.Frag) : List V → Hp → VK → Prop := fun xs H Q => ∃ p ys, xs = [.ref p] ∧ (SqL K H p ys ∨ SqT K H p ys) ∧ ∀ l, H l = none → Q (.ref l) (upd H l (.lst ys))
theorem klist_of : CallR X (.type "list") (rListOf K) := by subst hK; exact call_list_of
def rSorted (K : PySem.W.Frag) : List V → Hp → VK → Prop := fun xs H Q => ∃ p ts, xs = [.ref p] ∧ SqL K H p (refsV ts) ∧ (∀ t ∈ ts, SqT K H t.1 (t.2.map V.int) ∧ t.2 ≠ []) ∧ ts.length < 64 ∧
    ∀ (l : Addr) (ts' : List TI2), H l = none → ts'.Perm ts → ts'.Pairwise (fun a b => HT.lexLt b.2 a.2 = false) → Q (.ref l) (upd H l (.lst (refsV ts')))
def rSum (K : PySem.W.Frag) : List V → Hp → VK → Prop := fun xs H Q => ∃ p ns, xs = [.ref p] ∧ SqL K H p (ns.map V.int) ∧ Q (.int (List.sum ns)) H
theorem kpi_list {tg l : Expr} {tl : TE} (hl : PE X l tl) : PI X tg l (iList K tl) := by subst hK; exact pi_list hl
theorem kpi_enum {es : List Expr} {k1 : Nat} {tp : Pos} {e : Expr} {ta : TA} {p pos : Pos} (hg : Gl X "enumerate") (hm : X.mg "enumerate" = none) (ha : PA X [e] ta) (hs : starEach [e] X.env = (false, eval e X.env) :: starEach [] X.env := by rfl) :
    PI X (.Tuple es k1 tp) (.Call (.Name "enumerate" p) [e] [] pos) (iEnum K ta) := by subst hK; exact pi_enum hg hm ha hs
theorem kpg_tup {es : List Expr} {k : Nat} {t : TGs} {n : Nat} {pos : Pos} (hc : X.calm = true) (h : PGs X es t) (hn : (assignEach es X.env).length = n := by rfl) (hst : (assignEach es X.env).findIdx? (·.1) = none := by rfl) :
    PG X (.Tuple es k pos) (gTup K n t) := by subst hK; exact pg_tup hc h hn hst
theorem kpe_rev {e st : Expr} {te tst : TE} {pos p2 : Pos} (he : PE X e te) (hs : PE X st tst) : PE X (.Subscript e (.Slice none none (some st) p2) pos) (tRev K te tst) := by subst hK; exact pe_rev he hs
theorem kpe_bm {o e : Expr} {es : List Expr} {to : TE} {t : TA} {name : Str} {apos cpos : Pos} {T id : String} {r : V → List V → Hp → VK → Prop} (pa : PlainAttrs T) (slot : Slot T name id) (hty : typeOf (.builtin id) = pure (.type "method_descriptor")) (hm : MtR X id r) (ho : PE X o to) (ha : PA X (e :: es) t)
    (hbase : attributeBase o name X.env (eval o X.env) = eval o X.env := by rfl)
    (hfew : ((backTo cpos (starEach (e :: es) X.env)).all (fun x => !x.1) && (backToKw cpos (keywordEach [] X.env)).all (fun x => x.1.isSome)
      && decide ((e :: es).length + ([] : List Keyword).length + (if ([] : List Keyword).isEmpty then 0 else 1) < 30)) = true := by rfl)
    (hline : (apos.endLine == cpos.line) = true := by rfl) (hs : starEach (e :: es) X.env = (false, eval e X.env) :: starEach es X.env := by rfl) (hplain : (backTo cpos (starEach es X.env)).any (·.1) = false := by rfl) :
    PE X (.Call (.Attribute o name apos) (e :: es) [] cpos) (tBM K T r to t) := by subst hK; exact pe_bm pa slot hty hm ho ha hbase hfew hline hs hplain
end
section
variable {X : Cx}
end
end L2
namespace Mt
open PySem
def has (t o : Int) : Bool := decide (∀ k : Nat, k < 7 → o / 2 ^ k % 2 ≤ t / 2 ^ k % 2)
end Mt
namespace Mt
open PySem L2
def falls (cs : List Int) (t : Int) : Option Nat := cs.findIdx? fun c => has c t
def optV : Option Nat → V
  | none => .non
  | some i => .int i
end Mt
namespace Mt
open PySem L2
def TupAt (H : Hp) (x : V) (p : Nat × Option Nat) : Prop := ∃ t, x = .ref t ∧ H t = some (.tup [.int p.1, optV p.2])
theorem TupAt.same {H H' : Hp} {x : V} {p : Nat × Option Nat} (h : TupAt H x p) (s : Same H H') : TupAt H' x p := let ⟨t, e, h⟩ := h; ⟨t, e, s _ _ h⟩
def pairAt (cs : List Int) (i : Nat) : Nat × Option Nat := (i, falls cs (cs.getD i 0))
def pairs (cs : List Int) : List (Nat × Option Nat) := (List.range cs.length).map (pairAt cs)
def wf (cs : List Int) : List (Nat × Option Nat) := (pairs cs).filter fun p => !decide (V.int p.1 = optV p.2)
def optD : Option Nat → PyData
  | none => .none
  | some i => .int i
def pairD (p : Nat × Option Nat) : PyData := .tuple [.int p.1, optD p.2]
abbrev dPairs (ps : List (Nat × Option Nat)) : PyData := .list (ps.map pairD)
end Mt
namespace Mt
open PySem L2
def pc (c : Int) : Int := (([1, 2, 4, 8, 16, 32, 64] : List Int).map fun b => c / b % 2).sum
def rk (c : Int) : List Int := [pc c, c]
end Mt
namespace Mt
open PySem L2
def Right (rs : List Int) : Prop := rs.Pairwise fun a b => HT.lexLt (rk b) (rk a) = false
end Mt
namespace L2
open PySem PySem.Spec PyProof.Rows
section
variable {X : Cx} {pins : List (Addr × Obj)} {σ : St} {H : Hp} {s : Shared} {h' : Heap}
end
def rSortK (K : PySem.W.Frag) (sp : Sp) : V → Hp → VK → Prop := fun x H Q => ∃ (p : Addr) (xs : List V) (key : V → List Int), x = .ref p ∧ SqL K H p xs ∧ xs.length < 64 ∧ (∀ v, key v ≠ []) ∧
  (∀ v ∈ xs, ∀ H1, Same H H1 → sp [v] H1 (fun r H2 => Same H1 H2 ∧ ∃ t, r = .ref t ∧ H2 t = some (.tup ((key v).map V.int))) E0) ∧
  ∀ (l : Addr) (ys : List V) (H1 : Hp), H l = none → Same H H1 → H1 l = some (.lst ys) → ys.Perm xs → ys.Pairwise (fun a b => HT.lexLt (key b) (key a) = false) → Q (.ref l) H1
section
variable {X : Cx} {k : Nat} {f : Addr} {fd : FuncData} {ps : List Str} {sp : Sp}
structure KeysAre (key : V → List Int) (H : Hp) (xs : List V) (ts : List Addr) : Prop where
  len : ts.length ≤ xs.length
  at_ : ∀ (j : Nat) t v, ts[j]? = some t → xs[j]? = some v → H t = some (.tup ((key v).map V.int))
end
end L2
namespace L2
open PySem PySem.Spec PyProof.Rows
section
variable {X : Cx} (K : PySem.W.Frag) (hK : X.K = K)
include hK
end
end L2
namespace L2
open PySem PySem.Spec PyProof.Rows
end L2
namespace L2
open PySem PySem.Spec PyProof.Rows
section
variable {X : Cx}
def once (ns : List Int) : List Int := PyProof.Rows.firstMet (fun i => ns.getD i 0) ns.length
def rSet (K : PySem.W.Frag) : List V → Hp → VK → Prop := fun xs H Q => ∃ p ns, xs = [.ref p] ∧ SqL K H p (ns.map V.int) ∧ ns.length + 1 < scanBound ∧ ∀ l, H l = none → Q (.ref l) (upd H l (.set (fun k => (once ns).any (· == k)) (once ns).length))
end
section
variable {X : Cx} (K : PySem.W.Frag) (hK : X.K = K)
include hK
end
end L2
namespace L2
open PySem PySem.Spec PyProof.Rows
end L2
namespace Mt
open PySem L2
def Fit (cs : List Int) : Prop := ∀ (j k : Nat) c d, j < k → cs[j]? = some c → cs[k]? = some d → has c d = false
def moreI (c : Int) : Int := c + 64 * (1 - c / 64)
def lessI (c : Int) : Int := c % 64
end Mt
namespace L2
open PySem PySem.Spec PyProof.Rows
def sg (c : Nat) : Str := ⟨#[c]⟩
def Its (x : Str) : It := ⟨fun i _ => i < x.cps.size, fun i H v H' => H' = H ∧ ∃ c, x.cps[i]? = some c ∧ v = .str (sg c), fun i _ => x.cps.size ≤ i⟩
theorem turn_str {P : Program} {w : World} {K : PySem.W.Frag} {tg : Expr} {ty : String} (it : Addr) (x : Str) (t : Tok) (hty : ty = "str_ascii_iterator" ∨ ty = "str_iterator") :
    Turn P w K tg (Its x) [it] it (fun i h => h.IsStrIter it ty x t i) where
  mem := by simp
  obj := fun i h st b hb => by
    obtain rfl : b = it := by simpa using hb
    obtain ⟨o, e, c, d⟩ := st
    exact ⟨o, e, fun v z => by rw [d] at z; cases z⟩
  keep := fun i h h' st k => by
    obtain ⟨o, e, r⟩ := st
    exact ⟨o, k it (by simp) o e, r⟩
  item := by
    intro X hP hw hK hc i pins s σ H E I hf st hg
    subst hP hw hK
    obtain ⟨f0, f1, f2, f3, f4, f5⟩ := hf it (by simp)
    have W : ∀ (Q : Option Value → Shared → Prop), (∀ v h' tk, SignAt x i v → h'.IsStrIter it ty x t (i + 1) → (∀ b o, b ∉ [it] → s.heap.get? b = some o → h'.get? b = some o) → Q (some v) { s with heap := h', toks := tk }) →
        wpAny (model X.prog X.w) X.A (pyNext (.ref it)) Q E s := by
      intro Q hQ
      rcases hty with rfl | rfl
      · exact (Walks.strAscii (prog := X.prog) (w := X.w) (I.ok.hd hc) it x t).item i s Q E hg st hQ
      · exact (Walks.strWide (prog := X.prog) (w := X.w) (I.ok.hd hc) it x t).item i s Q E hg st hQ
    refine W _ fun v h' tk hv st' kk => ?_
    obtain ⟨c, u, hcx, rfl⟩ := hv
    have I1 : Inv X pins σ H { s with heap := h', toks := tk } := I.turned (fun b o hb e => kk b o (by simpa using hb) e) f0 f1 f3 f4 f5
    obtain ⟨o, e, c', d⟩ := id st'
    exact ⟨_, rfl, go_of (s := { s with heap := h', toks := tk }) e c' d (by rcases hty with rfl | rfl <;> decide) ⟨.str (sg c), H, I1, ⟨u, rfl⟩, ⟨rfl, c, hcx, rfl⟩, st', fun b hb => (hf b hb).1⟩⟩
  done := by
    intro X hP hw hK hc i pins s σ H E I hf st hg
    subst hP hw hK
    obtain ⟨f0, f1, f2, f3, f4, f5⟩ := hf it (by simp)
    have hi : x.cps.size ≤ i := hg
    rcases hty with rfl | rfl
    · exact wpAny_pyNext_ascii_end (I.ok.hd hc) st (by simpa using hi) fun h' eb => ⟨rfl, I.turned (t' := s.toks) (fun b o hb e => eb b o hb e) f0 f1 f3 f4 f5⟩
    · exact wpAny_pyNext_wide_end (I.ok.hd hc) st (by simpa using hi) fun h' eb => ⟨rfl, I.turned (t' := s.toks) (fun b o hb e => eb b o hb e) f0 f1 f3 f4 f5⟩
  self := fun A i s Q E st h => by
    rcases hty with rfl | rfl
    · exact wpAny_pyIter_striter_ascii st h
    · exact wpAny_pyIter_striter_wide st h
section
variable {X : Cx} {tg : Expr}
def iStr (tl : TE) : TI := fun σ H R => tl σ H fun v H1 => ∃ x, v = .str x ∧ R (Its x) H1
theorem pi_str {l : Expr} {tl : TE} (hl : PE X l tl) : PI X tg l (iStr tl) := by
  intro pins s σ H R I h
  refine thn (hl pins s σ H _ I h) fun v s1 ⟨y, H1, I1, r1, q1⟩ => ?_
  obtain ⟨x, rfl, q⟩ := q1
  obtain ⟨t, rfl⟩ := r1
  have fin : ∀ (ty : String) (hty : ty = "str_ascii_iterator" ∨ ty = "str_iterator"), PIE X pins σ tg R (.ref s1.heap.objs.size) { s1 with heap := s1.heap.push { cls := .type ty, data := .fields #[.str x t, .int 0 0] } } := by
    intro ty hty
    refine ⟨s1.heap.objs.size, [s1.heap.objs.size], _, _, H1, rfl, I1.kept (t' := s1.toks) fun b o e => Heap.get?_push_of_some _ e, turn_str _ x t hty, ⟨_, Heap.get?_push_size _ rfl, rfl, rfl⟩, fun b hb => ?_, q⟩
    obtain rfl : b = s1.heap.objs.size := by simpa using hb
    exact I1.fpOk (Nat.le_refl _) (I1.hok.fresh (Nat.le_refl _))
  refine wpAny_pyIter_strU ?_
  unfold strIterType
  split
  · exact fin _ (.inl rfl)
  · exact fin _ (.inr rfl)
end
theorem for_str {x : Str} {g : TG} {tb : TS} {D : Ends} {σ : St} {H : Hp} (Pv : Nat → St → Hp → Prop) (h0 : Pv 0 σ H)
    (hs : ∀ i c σ H, x.cps[i]? = some c → i < x.cps.size → Pv i σ H → g (.str (sg c)) σ H fun σ2 H2 => tb { D with nx := Pv (i + 1), ct := Pv (i + 1), bk := D.nx } σ2 H2) (hd : ∀ σ H, Pv x.cps.size σ H → D.nx σ H) :
    ∃ W : Nat → Nat → St → Hp → Prop, (∃ m, W 0 m σ H) ∧ ∀ i m σ H, W i m σ H →
      ((Its x).stop i H ∧ D.nx σ H) ∨ ((Its x).go i H ∧ ∃ N : St → Hp → Prop, (∀ σ' H', N σ' H' → ∃ m', m' < m ∧ W (i + 1) m' σ' H') ∧ ∀ v H', (Its x).yld i H v H' → g v σ H' fun σ2 H2 => tb { D with nx := N, ct := N, bk := D.nx } σ2 H2) := by
  refine ⟨fun i m σ H => m = x.cps.size - i ∧ i ≤ x.cps.size ∧ Pv i σ H, ⟨x.cps.size, by simp, Nat.zero_le _, h0⟩, ?_⟩
  rintro i m σ H ⟨rfl, hi, p⟩
  by_cases hlt : i < x.cps.size
  · refine .inr ⟨hlt, Pv (i + 1), fun σ' H' p' => ⟨x.cps.size - (i + 1), by omega, rfl, hlt, p'⟩, fun v H' y => ?_⟩
    obtain ⟨rfl, c, hc, rfl⟩ := y
    exact hs i c σ _ hc hlt p
  · have e : i = x.cps.size := by omega
    subst e
    exact .inl ⟨Nat.le_refl _, hd σ H p⟩
theorem comp_str {x : Str} {g : TG} {tc : TT} {te : TE} {D : Addr} {σ : St} {H : Hp} {Q : VK} (Pv : Nat → List V → St → Hp → Prop) (h0 : Pv 0 [] σ (upd H D (.lst [])))
    (hs : ∀ i c ys σ H, x.cps[i]? = some c → i < x.cps.size → Pv i ys σ H → g (.str (sg c)) σ H fun σ2 H4 => tc σ2 H4 fun b H5 => if b = true then te σ2 H5 (CNext D x.cps.size i Pv σ2) else CSkip x.cps.size i Pv σ2 H5)
    (hd : ∀ ys σ H, Pv x.cps.size ys σ H → Q (.ref D) H) : CompW (Its x) g tc te D Q σ H := by
  refine ⟨fun i m σ H => m = x.cps.size - i ∧ i ≤ x.cps.size ∧ ∃ ys, Pv i ys σ H, ⟨x.cps.size, by simp, Nat.zero_le _, [], h0⟩, ?_⟩
  rintro i m σ H ⟨rfl, hi, ys, p⟩
  by_cases hlt : i < x.cps.size
  · refine .inr ⟨hlt, fun v H' y => ?_⟩
    obtain ⟨rfl, c, hc, rfl⟩ := y
    exact hs i c ys σ _ hc hlt p
  · have e : i = x.cps.size := by omega
    subst e
    exact .inl ⟨Nat.le_refl _, hd ys σ H p⟩
section
variable {X : Cx}
theorem sl_str : SlR X (fun x lo hi H Q => ∃ z, x = .str z ∧ z.length ≤ sizeLine ∧ Q (.str (Txt.slice z lo hi)) H) := by
  intro pins s σ H x v vl vu lo hi sl Q I rx hs pl pu h
  obtain ⟨z, rfl, hz, q⟩ := h
  obtain ⟨t, rfl⟩ := rx
  refine ⟨"str", _, F.slot_str_getitem.lookup, typeIs_str _ _ _, ?_⟩
  have fin : ∀ (l u : Option (Int × Tok)), s.heap.IsSlice sl l u none → l.map (·.1) = lo → u.map (·.1) = hi → wpAny (model X.prog X.w) X.A (getItem (.str z t) (.ref sl)) (EP X pins σ Q) X.xe s := by
    rintro l u h1 rfl rfl
    refine wpAny_getItem_str_slice (l := l) (u := u) (st := none) h1 rfl ?_
    exact post_val_or_str ⟨Nat.le_trans (Txt.slice_le z _ _) hz, fun t' k => ⟨.str _, H, I.tok _, ⟨_, rfl⟩, q⟩⟩
  obtain ⟨o, e, c, d⟩ := hs
  cases pl with
  | none =>
    cases pu with
    | none => exact fin none none ⟨o, e, c, d⟩ rfl rfl
    | int j tj => exact fin none (some (j, tj)) ⟨o, e, c, d⟩ rfl rfl
  | int i ti =>
    cases pu with
    | none => exact fin (some (i, ti)) none ⟨o, e, c, d⟩ rfl rfl
    | int j tj => exact fin (some (i, ti)) (some (j, tj)) ⟨o, e, c, d⟩ rfl rfl
theorem strsAre_of : ∀ {ys : List Str} {us : List Value}, Vals (ys.map V.str) us → StrsAre us ys
  | [], _, r => by cases r; exact .nil
  | y :: ys, _, r => by
    cases r with
    | cons r1 r2 =>
      obtain ⟨t, rfl⟩ := r1
      exact .cons y t (strsAre_of r2)
def rJoin (K : PySem.W.Frag) : V → List V → Hp → VK → Prop := fun x xs H Q => ∃ (z : Str) (p : Addr) (ys : List Str), x = .str z ∧ xs = [.ref p] ∧ SqL K H p (ys.map V.str) ∧ (ys.map (·.length)).sum + ys.length * z.length ≤ 16777216 ∧ Q (.str (Txt.join z ys)) H
theorem mt_join : MtR X "str.join" (rJoin X.K) := by
  intro pins s σ H x xs v us Q I rx rs h
  obtain ⟨z, p, ys, rfl, rfl, hq, hb, q⟩ := h
  obtain ⟨t, rfl⟩ := rx
  obtain ⟨u, rfl, ru⟩ := vals1 rs
  cases ru
  obtain ⟨its, rv, pl, hz⟩ := I.list hq
  exact join_list pl.isList (by simpa using strsAre_of rv) hb fun t' k => ⟨.str _, H, I.tok _, ⟨_, rfl⟩, q⟩
def rAll (K : PySem.W.Frag) : List V → Hp → VK → Prop := fun xs H Q => ∃ (p : Addr) (bs : List Bool), xs = [.ref p] ∧ SqL K H p (bs.map V.bl) ∧ Q (.bl (bs.all id)) H
end
section
variable {X : Cx} (K : PySem.W.Frag) (hK : X.K = K)
include hK
theorem kmt_join : MtR X "str.join" (rJoin K) := by subst hK; exact mt_join
end
end L2
namespace Cs
open PySem L2
structure Row where
  s : Str
  w : Int
  t : Int
  n : Int
abbrev rowV (r : Row) : List V := [.str r.s, .int r.w, .int r.t, .int r.n]
def RowAt (H : Hp) (v : V) (r : Row) : Prop := ∃ a, v = .ref a ∧ H a = some (.tup (rowV r))
theorem RowAt.same {H H' : Hp} {v : V} {r : Row} (h : RowAt H v r) (s : Same H H') : RowAt H' v r := let ⟨a, e, h⟩ := h; ⟨a, e, s _ _ h⟩
theorem rows_same {H H' : Hp} {xs : List V} {rs : List Row} (h : Paired (RowAt H) xs rs) (s : Same H H') : Paired (RowAt H') xs rs := Paired.mapP h fun _ _ z => z.same s
theorem rows_upd {H : Hp} {l : Addr} {o ys : HO} {xs : List V} {rs : List Row} (h : Paired (RowAt H) xs rs) (hl : H l = some ys) (hn : ∀ z, ys ≠ .tup z) : Paired (RowAt (upd H l o)) xs rs :=
  Paired.mapP h fun x p ⟨t, e, ht⟩ => ⟨t, e, by rw [upd_ne (ne_of ht hl fun z => hn _ z.symm)]; exact ht⟩
theorem rows_len {H : Hp} {xs : List V} {rs : List Row} (h : Paired (RowAt H) xs rs) : xs.length = rs.length := Paired.length h
theorem pd_get {α β : Type} {F : α → β → Prop} : ∀ {xs : List α} {ys : List β} {i : Nat} {x : α}, Paired F xs ys → xs[i]? = some x → ∃ y, ys[i]? = some y ∧ F x y
  | _, _, _, _, .nil, e => by simp at e
  | _, _, 0, _, .cons r _, e => by simp at e; subst e; exact ⟨_, rfl, r⟩
  | _, _, i + 1, x, .cons _ t, e => by
    obtain ⟨p, h1, h2⟩ := pd_get (i := i) (x := x) t (by simpa using e)
    exact ⟨p, by simpa using h1, h2⟩
def CaseAt (K : PySem.W.Frag) (H : Hp) (l : Addr) (rs : List Row) : Prop := ∃ xs, SqL K H l xs ∧ Paired (RowAt H) xs rs
theorem CaseAt.same {K : PySem.W.Frag} {H H' : Hp} {l : Addr} {rs : List Row} (h : CaseAt K H l rs) (s : Same H H') : CaseAt K H' l rs := let ⟨xs, h1, h2⟩ := h; ⟨xs, s.seq h1, rows_same h2 s⟩
def place (rs : List Row) (x : Str) : Option Nat := rs.findIdx? fun r => decide (r.s = x)
theorem place_some {rs : List Row} {x : Str} {i : Nat} {r : Row} (h : rs[i]? = some r) (hx : r.s = x) (hj : ∀ (j : Nat) r', j < i → rs[j]? = some r' → r'.s ≠ x) : place rs x = some i := by
  obtain ⟨hi, e⟩ := List.getElem?_eq_some_iff.mp h
  unfold place
  rw [List.findIdx?_eq_some_iff_getElem]
  refine ⟨hi, by rw [e]; exact decide_eq_true hx, fun j hji => ?_⟩
  have := hj j rs[j] hji (List.getElem?_eq_getElem (by omega))
  rw [decide_eq_false this]
  exact Bool.false_ne_true
theorem place_none {rs : List Row} {x : Str} (hj : ∀ (j : Nat) r, j < rs.length → rs[j]? = some r → r.s ≠ x) : place rs x = none := by
  unfold place
  rw [List.findIdx?_eq_none_iff]
  intro r hr
  obtain ⟨j, hjl, e⟩ := List.getElem_of_mem hr
  exact decide_eq_false (hj j r hjl (by rw [List.getElem?_eq_getElem hjl, e]))
theorem strV {x y : Str} : decide (V.str x = V.str y) = decide (x = y) := by
  rw [decide_eq_decide]
  exact ⟨fun h => V.str.inj h, fun h => by rw [h]⟩
def rowD (r : Row) : PyData := .tuple [.str r.s, .int r.w, .int r.t, .int r.n]
theorem denL_rows {K : PySem.W.Frag} {H : Hp} : ∀ {xs : List V} {rs : List Row}, Paired (RowAt H) xs rs → (∀ r ∈ rs, PyData.canLay0 (.str r.s) = true) → DenL K H xs (rs.map rowD)
  | _, _, .nil, _ => .nil
  | _, _, .cons ⟨t, e, h⟩ r, c => by
    subst e
    exact .cons (.tup (SqT.of h) (.cons (.str _ (c _ List.mem_cons_self)) (.cons (.int _) (.cons (.int _) (.cons (.int _) .nil))))) (denL_rows r fun x hx => c x (List.mem_cons_of_mem _ hx))
theorem nb_rows : ∀ rs : List Row, nbL (rs.map rowD) = true
  | [] => rfl
  | r :: rs => by
    show (nb (rowD r) && nbL (rs.map rowD)) = true
    rw [nb_rows rs]
    rfl
theorem depth_rows : ∀ rs : List Row, PyData.depthAll (rs.map rowD) ≤ 1
  | [] => Nat.zero_le _
  | r :: rs => Nat.max_le.mpr ⟨Nat.le_refl _, depth_rows rs⟩
abbrev dRows (rs : List Row) : PyData := .list (rs.map rowD)
theorem drows_depth (rs : List Row) (e : PyData) : min (dRows rs).depth e.depth ≤ 64 := by
  have q : (dRows rs).depth = PyData.depthAll (rs.map rowD) + 1 := rfl
  have := depth_rows rs
  omega
def signs : List Nat := "abcdefghijklmnopqrstuvwxyz.,-'".toList.map Char.toNat
theorem signs_lay : ∀ c ∈ signs, PyData.canLay0 (.str (sg c)) = true := by decide +kernel
theorem signs_cps : (Str.ofString "abcdefghijklmnopqrstuvwxyz.,-'").cps.toList = signs := by decide +kernel
def canSet (rs : List Row) (x : Str) : Bool := !decide (x = "") && x.cps.toList.all fun c => (place rs (sg c)).isSome
def wideAt (rs : List Row) (x : Str) : Int := match place rs x with
  | some i => match rs[i]? with
    | some r => r.w
    | none => 0
  | none => 0
def wideOf (rs : List Row) (x : Str) : Int := List.sum (x.cps.toList.map fun c => wideAt rs (sg c))
end Cs
namespace L2
open PySem PySem.Spec PyProof.Rows
section
variable {X : Cx}
def rRemove : V → List V → Hp → VK → Prop := fun x vs H Q => ∃ (l : Addr) (ns : List Int) (z : Int), x = .ref l ∧ vs = [.int z] ∧ H l = some (.lst (ns.map V.int)) ∧ z ∈ ns ∧ Q .non (upd H l (.lst ((ns.erase z).map V.int)))
def eqI (z : Int) : Value → Bool
  | .int i _ => i == z
  | _ => false
end
end L2
namespace Mt
open PySem L2
def under (ls : List Int) (c : Int) : List Int := ls.filter fun o => !decide (o = c) && has c o
end Mt
namespace Mt
open PySem L2
def upto (n : Nat) : List Int := (List.range n).map fun (k : Nat) => (k : Int)
def subs (own : Int) : List Int := (upto (own.toNat + 1)).filter fun b => has own b
def sets (cs : List Int) (own : Int) (wh : Nat) : List Int := (subs own).filter fun b => decide (falls cs (own - b) = some wh)
end Mt
namespace Mt
open PySem L2
def optI : Option Int → V
  | none => .non
  | some i => .int i
def fewS (o : Option Int) (b : Int) : Option Int := match o with
  | none => some (pc b)
  | some m => if pc b < m then some (pc b) else some m
def fewest (cs : List Int) (own : Int) (wh : Nat) : Option Int := (sets cs own wh).foldl fewS none
end Mt
namespace Mt
open PySem L2
def bitsL : List Int := [1, 2, 4, 8, 16, 32, 64]
def shared (a c : Int) : Int := (bitsL.filter fun b => decide (a / b % 2 = 1) && decide (c / b % 2 = 1)).sum
def lacks (a c : Int) : Int := (bitsL.filter fun b => decide (a / b % 2 = 1) && decide (c / b % 2 = 0)).sum
def sb (p : Bool) : Int := if p then 1 else 0
structure Bits (x : Int) (f : Int → Int) : Prop where
  at_ : ∀ b ∈ bitsL, x / b % 2 = f b
  lo : 0 ≤ x
  hi : x < 128
def Can (cs : List Int) (own cw : Int) (wh : Nat) : Prop := ∀ (k : Nat) c, k < wh → cs[k]? = some c → has c (shared own cw) = false
end Mt
namespace L2
open PySem PySem.Spec PyProof.Rows
section
variable {κ : Type} [DecidableEq κ]
def valV (kvs : List (κ × V)) (k : κ) : Option V := (kvs.find? fun kv => decide (kv.1 = k)).map (·.2)
def putK (kvs : List (κ × V)) (k : κ) (v : V) : List (κ × V) :=
  if (kvs.any fun kv => decide (kv.1 = k)) = true then kvs.map (fun kv => if kv.1 = k then (kv.1, v) else kv) else kvs ++ [(k, v)]
def dropK (kvs : List (κ × V)) (k : κ) : List (κ × V) := kvs.filter fun kv => decide (kv.1 ≠ k)
theorem KV.keys {kvs : List (κ × V)} {vs : List (κ × Value)} (r : KV kvs vs) : kvs.map (·.1) = vs.map (·.1) := by
  unfold KV at r
  induction r with
  | nil => rfl
  | cons h t ih => rw [List.map_cons, List.map_cons, ih, h.1]
theorem KV.length {kvs : List (κ × V)} {vs : List (κ × Value)} (r : KV kvs vs) : kvs.length = vs.length := Paired.length r
end
abbrev KT (H : Hp) : List (List Key × V) → List (List Key × Addr × Value) → Prop := Paired fun p q => p.1 = q.1 ∧ H q.2.1 = some (.tup (p.1.map kV)) ∧ RelV p.2 q.2.2
theorem KT.keeps {H H' : Hp} {kvs : List (List Key × V)} {xs : List (List Key × Addr × Value)} (r : KT H kvs xs) (ht : ∀ b ys, H b = some (.tup ys) → H' b = some (.tup ys)) : KT H' kvs xs :=
  Paired.mapP r fun _ _ z => ⟨z.1, ht _ _ z.2.1, z.2.2⟩
section
variable {P : Program} {w : World} {H : Hp} {h : Heap} {a : Addr}
end
def DGet (H : Hp) (a : Addr) (y : V) (r : Option V) : Prop :=
  (∃ kvs k, Rd H a (.dK kvs) ∧ y = kV k ∧ r = valV kvs k) ∨ ∃ kvs k b, Rd H a (.dT kvs) ∧ y = .ref b ∧ H b = some (.tup (k.map kV)) ∧ r = valV kvs k
def DPut (H : Hp) (a : Addr) (y v : V) (H' : Hp) : Prop :=
  (∃ kvs k, H a = some (.dK kvs) ∧ y = kV k ∧ kvs.length < sizeLine ∧ H' = upd H a (.dK (putK kvs k v))) ∨
  ∃ kvs k b, H a = some (.dT kvs) ∧ y = .ref b ∧ H b = some (.tup (k.map kV)) ∧ kvs.length < sizeLine ∧ H' = upd H a (.dT (putK kvs k v))
theorem DGet.k {H : Hp} {a : Addr} {kvs : List (Key × V)} {k : Key} (e : H a = some (.dK kvs)) : DGet H a (kV k) (valV kvs k) := .inl ⟨kvs, k, .inl e, rfl, rfl⟩
theorem DGet.t {H : Hp} {a b : Addr} {kvs : List (List Key × V)} {k : List Key} (e : H a = some (.dT kvs)) (eb : H b = some (.tup (k.map kV))) : DGet H a (.ref b) (valV kvs k) := .inr ⟨kvs, k, b, .inl e, rfl, eb, rfl⟩
theorem DPut.k {H : Hp} {a : Addr} {kvs : List (Key × V)} {k : Key} {v : V} (e : H a = some (.dK kvs)) (hl : kvs.length < sizeLine) : DPut H a (kV k) v (upd H a (.dK (putK kvs k v))) := .inl ⟨kvs, k, e, rfl, hl, rfl⟩
theorem DPut.t {H : Hp} {a b : Addr} {kvs : List (List Key × V)} {k : List Key} {v : V} (e : H a = some (.dT kvs)) (eb : H b = some (.tup (k.map kV))) (hl : kvs.length < sizeLine) :
    DPut H a (.ref b) v (upd H a (.dT (putK kvs k v))) := .inr ⟨kvs, k, b, e, rfl, eb, hl, rfl⟩
section
variable {X : Cx} {pins : List (Addr × Obj)} {σ : St} {H : Hp} {s : Shared} {a : Addr} {y v : V} {u r : Value} {o : Option V} {A : Around} {E : Value → Shared → Prop}
end
section
variable {X : Cx} {pins : List (Addr × Obj)} {σ : St} {H : Hp} {s : Shared} {a : Addr} {kvs : List (Key × V)} {k : Key} {u : Value} {A : Around} {E : Value → Shared → Prop}
end
def NoSl (i : Expr) : Prop := ∀ ov iv, subscripted i false ov iv = operate [ov, iv] (getItem ov iv)
def tDGet (td ty : TE) : TE := fun σ H Q => td σ H fun x H1 => ty σ H1 fun y H2 => ∃ a v, x = .ref a ∧ DGet H2 a y (some v) ∧ Q v H2
def tDIn (ty td : TE) : TE := fun σ H Q => ty σ H fun y H1 => td σ H1 fun x H2 => ∃ a o, x = .ref a ∧ DGet H2 a y o ∧ Q (.bl o.isSome) H2
def tDNotIn (ty td : TE) : TE := fun σ H Q => ty σ H fun y H1 => td σ H1 fun x H2 => ∃ a o, x = .ref a ∧ DGet H2 a y o ∧ Q (.bl (!o.isSome)) H2
def sDPut (td ty tv : TE) : TS := fun D σ H => tv σ H fun v H1 => td σ H1 fun x H2 => ty σ H2 fun y H3 => ∃ a H4, x = .ref a ∧ DPut H3 a y v H4 ∧ D.nx σ H4
def sDAug (td ty tv : TE) (rd : V → V → Hp → VK → Prop) : TS := fun D σ H => td σ H fun x H1 => ty σ H1 fun y H2 => ∃ a v, x = .ref a ∧ DGet H2 a y (some v) ∧
  tv σ H2 fun y2 H3 => rd v y2 H3 fun z H4 => ∃ H5, DPut H4 a y z H5 ∧ D.nx σ H5
def sDDel (td ty : TE) : TS := fun D σ H => td σ H fun x H1 => ty σ H1 fun y H2 => ∃ a kvs k, x = .ref a ∧ H2 a = some (.dK kvs) ∧ y = kV k ∧ (valV kvs k).isSome = true ∧ D.nx σ (upd H2 a (.dK (dropK kvs k)))
section
variable {X : Cx} {o i e value : Expr} {pos pos' tpos : Pos} {td ty tv : TE}
end
def tDNewK : TE := fun _ H Q => ∀ p, H p = none → Q (.ref p) (upd H p (.dK []))
def tDNewT : TE := fun _ H Q => ∀ p, H p = none → Q (.ref p) (upd H p (.dT []))
section
variable {X : Cx} {pos : Pos}
end
def tPairs : List (TE × TE) → St → Hp → (List (V × V) → Hp → Prop) → Prop
  | [], _, H, Q => Q [] H
  | (tk, tv) :: r, σ, H, Q => tk σ H fun x H1 => tv σ H1 fun y H2 => tPairs r σ H2 fun ps H3 => Q ((x, y) :: ps) H3
abbrev VV : List (V × V) → List (Value × Value) → Prop := Paired fun p q => RelV p.1 q.1 ∧ RelV p.2 q.2
def PPs (X : Cx) (pos : Pos) (keys : List (Option Expr)) (values : List Expr) (trs : List (TE × TE)) : Prop :=
  ∀ (pins : List (Addr × Obj)) (s : Shared) (σ : St) (H : Hp) (Q : List (V × V) → Hp → Prop), Inv X pins σ H s → tPairs trs σ H Q →
    wpAny (model X.prog X.w) X.A (evalPairs (pairTrees keys values X.env pos)) (fun vs s' => ∃ ps H', Inv X pins σ H' s' ∧ VV ps vs ∧ Q ps H') X.xe s
def mergeK (kvs more : List (Key × V)) : List (Key × V) := more.foldl (fun acc kv => putK acc kv.1 kv.2) kvs
def tDisp (trs : List (TE × TE)) : TE := fun σ H Q => ∀ p, H p = none → tPairs trs σ (upd H p (.dK [])) fun ps H2 => H2 p = some (.dK []) ∧ ∃ kvs : List (Key × V), ps = kvs.map (fun kv => (kV kv.1, kv.2)) ∧ kvs.length ≤ 15 ∧ Q (.ref p) (upd H2 p (.dK (mergeK [] kvs)))
structure M1 (X : Cx) (o : Expr) (m : Str) (apos : Pos) (e : Expr) (cpos : Pos) : Prop where
  base : attributeBase o m X.env (eval o X.env) = eval o X.env
  few : ((backTo cpos (starEach [e] X.env)).all (fun x => !x.1) && (backToKw cpos (keywordEach [] X.env)).all (fun x => x.1.isSome)
    && decide (([e] : List Expr).length + ([] : List Keyword).length + (if ([] : List Keyword).isEmpty then 0 else 1) < 30)) = true
  line : (apos.endLine == cpos.line) = true
  trees : backTo cpos (starEach [e] X.env) = [(false, eval e X.env)]
structure M2 (X : Cx) (o : Expr) (m : Str) (apos : Pos) (e f : Expr) (cpos : Pos) : Prop where
  base : attributeBase o m X.env (eval o X.env) = eval o X.env
  few : ((backTo cpos (starEach [e, f] X.env)).all (fun x => !x.1) && (backToKw cpos (keywordEach [] X.env)).all (fun x => x.1.isSome)
    && decide (([e, f] : List Expr).length + ([] : List Keyword).length + (if ([] : List Keyword).isEmpty then 0 else 1) < 30)) = true
  line : (apos.endLine == cpos.line) = true
  trees : backTo cpos (starEach [e, f] X.env) = [(false, eval e X.env), (false, eval f X.env)]
def IsD (H : Hp) (a : Addr) : Prop := (∃ kvs, Rd H a (.dK kvs)) ∨ ∃ kvs, Rd H a (.dT kvs)
section
variable {X : Cx} {pins : List (Addr × Obj)} {σ : St} {H : Hp} {s : Shared} {a : Addr} {y d : V} {u r : Value} {o : Option V} {A : Around} {E : Value → Shared → Prop}
end
def tDGet1 (td ty : TE) : TE := fun σ H Q => td σ H fun x H1 => ∃ a, x = .ref a ∧ IsD H1 a ∧ ty σ H1 fun y H2 => ∃ o, DGet H2 a y o ∧ Q (o.getD .non) H2
def tDGet2 (td ty tx : TE) : TE := fun σ H Q => td σ H fun x H1 => ∃ a, x = .ref a ∧ IsD H1 a ∧ ty σ H1 fun y H2 => tx σ H2 fun z H3 => ∃ o, DGet H3 a y o ∧ Q (o.getD z) H3
def tDPop1 (td ty : TE) : TE := fun σ H Q => td σ H fun x H1 => ∃ a, x = .ref a ∧ IsD H1 a ∧ ty σ H1 fun y H2 => ∃ kvs k v, H2 a = some (.dK kvs) ∧ y = kV k ∧ valV kvs k = some v ∧ Q v (upd H2 a (.dK (dropK kvs k)))
def tDPop2 (td ty tx : TE) : TE := fun σ H Q => td σ H fun x H1 => ∃ a, x = .ref a ∧ IsD H1 a ∧ ty σ H1 fun y H2 => tx σ H2 fun z H3 => ∃ kvs k, H3 a = some (.dK kvs) ∧ y = kV k ∧
  (∀ v, valV kvs k = some v → Q v (upd H3 a (.dK (dropK kvs k)))) ∧ (valV kvs k = none → Q z H3)
section
variable {X : Cx} {o e f : Expr} {apos cpos : Pos} {td ty tx : TE}
end
section
variable {X : Cx} {pins : List (Addr × Obj)} {σ : St} {H : Hp} {s : Shared} {a : Addr} {kvs : List (Key × V)} {A : Around} {E : Value → Shared → Prop}
end
section
variable {X : Cx} {pins : List (Addr × Obj)} {σ : St} {H : Hp} {s : Shared} {a : Addr} {y : V} {u : Value} {A : Around} {E : Value → Shared → Prop}
end
end L2
namespace L2
open PySem PySem.Spec PyProof.Rows
section
variable {X : Cx}
end
section
variable {κ : Type} [DecidableEq κ]
end
end L2
namespace Cs
open PySem L2
def wdict (rs : List Row) : List (Key × V) := rs.foldl (fun kvs r => putK kvs (.inr r.s) (.int r.w)) []
def bodyOf (rs : List Row) (ws : List Str) : Int := List.sum (ws.map fun x => wideOf rs x)
theorem place_row {rs : List Row} {x : Str} {k : Nat} (h : place rs x = some k) : ∃ r, rs[k]? = some r ∧ r.s = x := by
  unfold place at h
  obtain ⟨hi, h1, _⟩ := List.findIdx?_eq_some_iff_getElem.mp h
  exact ⟨rs[k], List.getElem?_eq_getElem hi, of_decide_eq_true h1⟩
end Cs
namespace L2
open PySem
theorem bt_min : bootBuiltins "min" = some (.builtin "min") := by decide +kernel
end L2
namespace L2
open PySem PySem.Spec PyProof.Rows
def Least (g : Nat → Int) (n : Nat) (m : Int) : Prop := (∃ i, i < n ∧ g i = m) ∧ ∀ i, i < n → m ≤ g i
theorem Least.one {g : Nat → Int} : Least g 1 (g 0) := ⟨⟨0, by omega, rfl⟩, fun i hi => by
  have e : i = 0 := by omega
  subst e
  exact Int.le_refl _⟩
theorem Least.no {g : Nat → Int} {n : Nat} {m : Int} (h : Least g n m) (hl : ¬ g n < m) : Least g (n + 1) m := ⟨by obtain ⟨i, hi, e⟩ := h.1; exact ⟨i, by omega, e⟩, fun i hi => by
  by_cases e : i = n
  · subst e; omega
  · exact h.2 i (by omega)⟩
def Held (g : Nat → Int) (j : Nat) (arr : Array Value) : Prop := (j = 0 ∧ arr = #[]) ∨ ∃ m t, arr = #[.int m t, .int m t] ∧ Least g j m
def Told (g : Nat → Int) (n : Nat) (d v : Value) : Prop := (n = 0 ∧ v = d) ∨ ∃ m t, v = .int m t ∧ Least g n m
def bestObj (arr : Array Value) (c : Nat) : Obj := { cls := .type "list", dict := none, data := .seq arr c, slots := #[] }
section
variable {P : Program} {w : World} {A : Around} {R : Result → Shared → Prop} {it : Addr} {fp wr : List Addr} {n : Nat} {Pr : Nat → Value → Prop} {St : Nat → Heap → Prop}
end
section
variable {P : Program} {w : World} {A : Around} {E : Value → Shared → Prop} {s : Shared}
end
def leastO : List Int → Option Int
  | [] => none
  | x :: r => some (r.foldl (fun a b => if b < a then b else a) x)
section
variable {X : Cx}
def rMinD (K : PySem.W.Frag) : V → Hp → VK → Prop := fun v H Q => ∃ a ns, v = .ref a ∧ SqL K H a (ns.map V.int) ∧ Q (Mt.optI (leastO ns)) H
def greatO : List Int → Option Int
  | [] => none
  | x :: r => some (r.foldl (fun a b => if b > a then b else a) x)
end
section
variable {X : Cx} (K : PySem.W.Frag) (hK : X.K = K)
include hK
end
end L2
namespace L2
open PySem PySem.Spec PyProof.Rows
section
variable {X : Cx} {a b : Expr} {rest : List Expr} {pos : Pos} {ta tb : TE}
def tOrL (K : PySem.W.Frag) (ta tb : TE) : TE := fun σ H Q => ta σ H fun x H1 => ∃ l xs, x = .ref l ∧ SqL K H1 l xs ∧ ∃ M : V → Hp → Prop, (xs ≠ [] → M (.ref l) H1) ∧ (xs = [] → tb σ H1 M) ∧ ∀ v H2, M v H2 → Q v H2
end
section
variable {X : Cx} {a b : Expr} {rest : List Expr} {pos : Pos} {ta tb : TE} (K : PySem.W.Frag) (hK : X.K = K)
include hK
end
end L2
namespace Ln
open PySem L2
def misfit (sp m lo hi : Int) : Int := if m * hi < sp then sp - m * hi else if 0 < sp - m * lo then 0 else sp - m * lo
def cost (sp m lo ideal hi : Int) (last : Bool) : Option Int := if last = true ∧ 0 ≤ sp - m * ideal then some 0 else if misfit sp m lo hi = 0 then some ((sp - m * ideal) * (sp - m * ideal)) else none
def costW (zs : List Int) (ms lo ideal hi : Int) (last : Bool) : Option Int := cost (ms - List.sum zs) ((zs.length : Int) - 1) lo ideal hi last
def abc : List Nat := [97, 98, 99, 100, 101, 102]
theorem abc_lay : ∀ c ∈ abc, PyData.canLay0 (.str (sg c)) = true := by decide +kernel
theorem abc_nd : (abc.map sg).Nodup := by decide +kernel
structure AbcCase (rs : List Cs.Row) : Prop where
  sg : (rs.map fun r => r.s) = abc.map sg
  wd : ∀ r ∈ rs, 1 ≤ r.w ∧ r.w ≤ 100
theorem AbcCase.len {rs : List Cs.Row} (h : AbcCase rs) : rs.length = 6 := by
  have := congrArg List.length h.sg
  rwa [List.length_map, List.length_map] at this
theorem AbcCase.nd {rs : List Cs.Row} (h : AbcCase rs) : (rs.map fun r => r.s).Nodup := by rw [h.sg]; exact abc_nd
theorem AbcCase.place {rs : List Cs.Row} (h : AbcCase rs) {c : Nat} (hc : c ∈ abc) : (Cs.place rs (L2.sg c)).isSome = true := by
  have h1 : L2.sg c ∈ rs.map fun r => r.s := by rw [h.sg]; exact List.mem_map_of_mem hc
  obtain ⟨r, hr, e⟩ := List.mem_map.mp h1
  unfold Cs.place
  rw [List.findIdx?_isSome, List.any_eq_true]
  exact ⟨r, hr, decide_eq_true e⟩
theorem AbcCase.lay {rs : List Cs.Row} (h : AbcCase rs) : ∀ r ∈ rs, PyData.canLay0 (.str r.s) = true := fun r hr => by
  have h1 : r.s ∈ rs.map fun r => r.s := List.mem_map_of_mem (f := fun r => r.s) hr
  rw [h.sg] at h1
  obtain ⟨c, hc, e⟩ := List.mem_map.mp h1
  rw [← e]
  exact abc_lay c hc
def AbcWord (x : Str) : Prop := 1 ≤ x.length ∧ x.length ≤ 6 ∧ ∀ c ∈ x.cps.toList, c ∈ abc
abbrev dWords (ws : List Str) : PyData := .list (ws.map PyData.str)
theorem denL_texts {K : PySem.W.Frag} {H : Hp} : ∀ {ws : List Str}, (∀ x ∈ ws, PyData.canLay0 (.str x) = true) → DenL K H (ws.map V.str) (ws.map PyData.str)
  | [], _ => .nil
  | x :: ws, h => .cons (.str _ (h x List.mem_cons_self)) (denL_texts fun y hy => h y (List.mem_cons_of_mem _ hy))
theorem nb_words : ∀ ws : List Str, nbL (ws.map PyData.str) = true
  | [] => rfl
  | x :: ws => by
    show (nb (PyData.str x) && nbL (ws.map PyData.str)) = true
    rw [nb_words ws]
    rfl
theorem depth_words : ∀ ws : List Str, PyData.depthAll (ws.map PyData.str) = 0
  | [] => rfl
  | x :: ws => by
    show max (PyData.str x).depth (PyData.depthAll (ws.map PyData.str)) = 0
    rw [depth_words ws]
    rfl
abbrev dBoth (rs : List Cs.Row) (ws : List Str) : PyData := .list [Cs.dRows rs, dWords ws]
structure Dr (H : Hp) (t : Addr) (xs : List V) (rs : List Cs.Row) (ws : List Str) (c p g : Addr) (ms lo ideal hi : Int) : Prop where
  tup : H t = some (.tup [.ref c, .ref p, .int ms, .ref g])
  cas : H c = some (.lst xs)
  row : Paired (Cs.RowAt H) xs rs
  abc : AbcCase rs
  wrd : H p = some (.lst (ws.map V.str))
  wok : ∀ x ∈ ws, AbcWord x
  wl1 : 1 ≤ ws.length
  wl2 : ws.length ≤ 63
  gap : H g = some (.tup [.int lo, .int ideal, .int hi])
  g0 : 0 ≤ lo
  g1 : lo ≤ ideal
  g2 : ideal ≤ hi
  g3 : hi ≤ 99
  m1 : 1 ≤ ms
  m2 : ms ≤ 2000
end Ln
namespace L2
open PySem PySem.Spec PyProof.Rows
def Its3 (lo st : Int) (n : Nat) : It := ⟨fun i _ => i < n, fun i H x H' => H' = H ∧ x = .int (lo + i * st), fun i _ => n ≤ i⟩
theorem turn_range3 {P : Program} {w : World} {K : PySem.W.Frag} {tg : Expr} (it : Addr) (lo st : Int) (n : Nat) : Turn P w K tg (Its3 lo st n) [it] it (fun i h => IsRangeIter h it (lo + (i : Nat) * st) ((n : Int) - (i : Nat)) st) where
  mem := by simp
  obj := fun i h q b hb => by
    have e : b = it := by simpa using hb
    subst e
    exact ⟨_, q, fun v z => by
      have z' : Data.fields _ = Data.cell v := z
      cases z'⟩
  keep := fun i h h' q k => k it (by simp) _ q
  item := by
    intro X hP hw hK hc i pins s σ H E I hf q hg
    subst hP hw hK
    obtain ⟨f0, f1, f2, f3, f4, f5⟩ := hf it (by simp)
    have W := Walks.range (prog := X.prog) (w := X.w) (I.ok.hd hc) it lo st n
    refine W.item i s _ _ hg q fun v h' tk hv q' kk => ?_
    obtain ⟨t, rfl⟩ := hv
    have I1 : Inv X pins σ H { s with heap := h', toks := tk } := I.turned (fun b o hb e => kk b o (by simpa using hb) e) f0 f1 f3 f4 f5
    exact ⟨_, rfl, go_of (s := { s with heap := h', toks := tk }) (n := "range_iterator") q' rfl rfl (by decide) ⟨.int (lo + i * st), H, I1, ⟨t, rfl⟩, ⟨rfl, rfl⟩, q', fun b hb => (hf b hb).1⟩⟩
  done := by
    intro X hP hw hK hc i pins s σ H E I hf q hg
    subst hP hw hK
    obtain ⟨f0, f1, f2, f3, f4, f5⟩ := hf it (by simp)
    exact wpAny_pyNext_range_end (I.ok.hd hc) q (by have : n ≤ i := hg; omega) fun h' eb => ⟨rfl, I.turned (t' := s.toks) (fun b o hb e => eb b o hb e) f0 f1 f3 f4 f5⟩
  self := fun _ _ _ _ _ q h => wpAny_pyIter_rangeiter q h
section
variable {X : Cx} {tg : Expr}
def size3 (a b c : Int) : Nat := (Builtin.Range.rangeSize a b c).toNat
theorem size3_nonneg (a b c : Int) (h : c ≠ 0) : 0 ≤ Builtin.Range.rangeSize a b c := by
  unfold Builtin.Range.rangeSize
  split
  · split
    · have := Int.ediv_nonneg (show 0 ≤ b - a - 1 by omega) (show 0 ≤ c by omega)
      omega
    · omega
  · split
    · have := Int.ediv_nonneg (show 0 ≤ a - b - 1 by omega) (show 0 ≤ -c by omega)
      omega
    · omega
def iRng3 (ta : TA) : TI := fun σ H R => ta σ H fun vs H1 => ∃ i j k : Int, vs = [.int i, .int j, .int k] ∧ (-1000000 ≤ i ∧ i ≤ 1000000 ∧ -1000000 ≤ j ∧ j ≤ 1000000) ∧ (k ≠ 0 ∧ -1000 ≤ k ∧ k ≤ 1000) ∧ R (Its3 i k (size3 i j k)) H1
theorem small3 {i j k : Int} (h1 : -1000000 ≤ i) (h2 : i ≤ 1000000) (h3 : -1000000 ≤ j) (h4 : j ≤ 1000000) (h5 : k ≠ 0) (h6 : -1000 ≤ k) (h7 : k ≤ 1000) : Builtin.Range.small i j k = true := by
  have hn := size3_nonneg i j k h5
  have hu : Builtin.Range.rangeSize i j k ≤ 2000001 := by
    unfold Builtin.Range.rangeSize
    split
    · split
      · have := Int.ediv_le_self (b := k) (show 0 ≤ j - i - 1 by omega)
        omega
      · omega
    · split
      · have := Int.ediv_le_self (b := -k) (show 0 ≤ i - j - 1 by omega)
        omega
      · omega
  unfold Builtin.Range.small
  generalize Builtin.Range.rangeSize i j k = r at hn hu ⊢
  have e : (if k > 0 then Builtin.Range.rangeFitsLong (j + (k - 1)) else Builtin.Range.rangeFitsLong (j + (k + 1))) = true := by
    split <;> simp only [Builtin.Range.rangeFitsLong, Bool.and_eq_true, decide_eq_true_eq] <;> omega
  rw [e]
  simp only [Builtin.Range.rangeFitsLong, Bool.and_eq_true, Bool.or_true, decide_eq_true_eq, and_true]
  omega
theorem range_it3 {pins : List (Addr × Obj)} {σ : St} {H : Hp} {s : Shared} {R : It → Hp → Prop} {E : Value → Shared → Prop} {i j k : Int} {t u v : Tok} {tk : Nat} (I : Inv X pins σ H s) (hsm : Builtin.Range.small i j k = true) (hk : k ≠ 0)
    (q : R (Its3 i k (size3 i j k)) H) : wpAny (model X.prog X.w) X.A (pyIter (.ref s.heap.objs.size)) (PIE X pins σ tg R) E { s with heap := s.heap.push { cls := .type "range", data := .fields #[.int i t, .int j u, .int k v] }, toks := tk } := by
  refine wpAny_pyIter_range (IsRange.new ..) hsm ?_
  generalize hg : s.heap.push { cls := .type "range", data := .fields #[.int i t, .int j u, .int k v] } = g
  have I1 : Inv X pins σ H { s with heap := g, toks := tk } := I.kept fun b o e => by rw [← hg]; exact Heap.get?_push_of_some _ e
  refine ⟨g.objs.size, [g.objs.size], _, _, H, rfl, I1.kept (t' := tk) fun b o e => Heap.get?_push_of_some _ e, turn_range3 _ i k (size3 i j k), ?_, fun b hb => ?_, q⟩
  · have e1 : i + ((0 : Nat) : Int) * k = i := by simp
    have e2 : ((size3 i j k : Nat) : Int) - ((0 : Nat) : Int) = Builtin.Range.rangeSize i j k := by
      have := size3_nonneg i j k hk
      unfold size3
      omega
    show IsRangeIter _ _ (i + ((0 : Nat) : Int) * k) (((size3 i j k : Nat) : Int) - ((0 : Nat) : Int)) k
    rw [e1, e2]
    exact Heap.get?_push_size _ rfl
  · have e : b = g.objs.size := by simpa using hb
    subst e
    exact I1.fpOk (Nat.le_refl _) (I1.hok.fresh (Nat.le_refl _))
theorem pi_range3 {a b c : Expr} {ta : TA} {p pos : Pos} (hg : Gl X "range") (hm : X.mg "range" = none) (ha : PA X [a, b, c] ta) (hs : starEach [a, b, c] X.env = [(false, eval a X.env), (false, eval b X.env), (false, eval c X.env)] := by rfl) (hs2 : starEach [b, c] X.env = [(false, eval b X.env), (false, eval c X.env)] := by rfl) :
    PI X tg (.Call (.Name "range" p) [a, b, c] [] pos) (iRng3 ta) := by
  intro pins s σ H R I h
  refine Call_ (ld_blt I hg hm boot_range (PyProof.Rows.callWith_type1 (thn (ha pos pins s σ H _ I h) fun us s1 ⟨vs, H1, I1, r1, q1⟩ => ?_) (by rw [hs, hs2]) (by rw [hs2]; rfl)))
  obtain ⟨i, j, k, e, ⟨h1, h2, h3, h4⟩, ⟨h5, h6, h7⟩, q⟩ := q1
  subst e
  cases r1 with
  | cons r rr =>
    cases rr with
    | cons r' rr =>
      cases rr with
      | cons r'' rr =>
        cases rr
        obtain ⟨t, rfl⟩ := r
        obtain ⟨t', rfl⟩ := r'
        obtain ⟨t'', rfl⟩ := r''
        exact call_range_3 h5 (range_it3 I1 (small3 h1 h2 h3 h4 h5 h6 h7) h5 q) (Or.inl (PyProof.noPylong_small (by omega)))
end
theorem for_range3 {lo st : Int} {n : Nat} {g : TG} {tb : TS} {D : Ends} {σ : St} {H : Hp} (Pv : Nat → St → Hp → Prop) (h0 : Pv 0 σ H)
    (hs : ∀ i σ H, i < n → Pv i σ H → g (.int (lo + i * st)) σ H fun σ2 H2 => tb { D with nx := Pv (i + 1), ct := Pv (i + 1), bk := D.nx } σ2 H2) (hd : ∀ σ H, Pv n σ H → D.nx σ H) :
    ∃ W : Nat → Nat → St → Hp → Prop, (∃ m, W 0 m σ H) ∧ ∀ i m σ H, W i m σ H →
      ((Its3 lo st n).stop i H ∧ D.nx σ H) ∨ ((Its3 lo st n).go i H ∧ ∃ N : St → Hp → Prop, (∀ σ' H', N σ' H' → ∃ m', m' < m ∧ W (i + 1) m' σ' H') ∧ ∀ x H', (Its3 lo st n).yld i H x H' → g x σ H' fun σ2 H2 => tb { D with nx := N, ct := N, bk := D.nx } σ2 H2) := by
  refine ⟨fun i m σ H => m = n - i ∧ i ≤ n ∧ Pv i σ H, ⟨n, by simp, Nat.zero_le _, h0⟩, ?_⟩
  rintro i m σ H ⟨rfl, hi, p⟩
  by_cases hlt : i < n
  · refine .inr ⟨hlt, Pv (i + 1), fun σ' H' p' => ⟨n - (i + 1), by omega, rfl, hlt, p'⟩, fun x H' y => ?_⟩
    obtain ⟨e, y⟩ := y
    subst e y
    exact hs i σ _ hlt p
  · have e : i = n := by omega
    subst e
    exact .inl ⟨Nat.le_refl _, hd σ H p⟩
end L2
namespace L2
open PySem PySem.Spec PyProof.Rows
section
variable {X : Cx} {pins : List (Addr × Obj)} {σ : St} {H : Hp} {s : Shared} {h' : Heap}
theorem Inv.turned4 {t' : Nat} {ch : List Addr} (I : Inv X pins σ H s) (k : ∀ b u, b ∉ ch → s.heap.get? b = some u → h'.get? b = some u) (hf : ∀ b ∈ ch, FpOk X pins H b) : Inv X pins σ H { s with heap := h', toks := t' } := by
  have nch : ∀ b u, H b = some u → b ∉ ch := fun b u e z => by rw [(hf b z).1] at e; cases e
  refine I.step (g' := s.gens) (d' := s.drawn) (ch := ch) (fun b hb => ?_) (fun b u _ _ hc e _ => k b u hc e) (fun b u _ _ hc e _ => ⟨u.slots, k b u hc e⟩)
    (fun _ _ _ _ n => n) (fun b u hc e => ⟨u, k b u hc e⟩) (fun _ _ e => e) (fun _ _ _ e => e) (fun b ps e => ⟨#[], by rw [e]; simp⟩) (fun m hm => ?_) (fun b u e => ?_) I.bare
  · obtain ⟨f0, f1, f2, f3, f4, f5⟩ := hf b hb
    exact ⟨f3, f1, f4, f5⟩
  · obtain ⟨ob, es, ep, ho, r⟩ := hm
    exact ⟨ob, es, ep, k _ ob (fun z => (hf _ z).2.1 rfl) ho, r⟩
  · refine (I.hok b u e).stay (fun c v hc q => k c v ?_ q) (fun _ q => q) fun _ _ q => q
    rcases hc with z | z
    · rw [z]; exact nch b u e
    · exact nch c _ z
end
def Itz (K : PySem.W.Frag) (a b : Addr) : It :=
  ⟨fun i H => ∃ xs ys x y, SqL K H a xs ∧ SqL K H b ys ∧ xs[i]? = some x ∧ ys[i]? = some y,
   fun i H v H' => ∃ t x y, v = .ref t ∧ H t = none ∧ (∀ xs, SqL K H a xs → xs[i]? = some x) ∧ (∀ ys, SqL K H b ys → ys[i]? = some y) ∧ H' = upd H t (.tup [x, y]),
   fun i H => ∃ xs ys, SqL K H a xs ∧ SqL K H b ys ∧ (xs.length ≤ i ∨ ys.length ≤ i)⟩
theorem bt_zip : bootBuiltins "zip" = some (.type "zip") := by decide +kernel
section
variable {X : Cx} {es : List Expr} {k1 : Nat} {tp : Pos}
def iZip (K : PySem.W.Frag) (ta : TA) : TI := fun σ H R => ta σ H fun vs H1 => ∃ a b, vs = [.ref a, .ref b] ∧ (∃ xs, SqL K H1 a xs) ∧ (∃ ys, SqL K H1 b ys) ∧ R (Itz K a b) H1
end
end L2
namespace L2
open PySem PySem.Spec PyProof.Rows
section
variable {X : Cx} (K : PySem.W.Frag) (hK : X.K = K)
include hK
end
end L2
namespace Lns
open PySem L2
def LineN (no : Addr) (H : Hp) (v : V) (ws : List Str) : Prop := ∃ p, v = .ref p ∧ p ≠ no ∧ H p = some (.lst (ws.map V.str))
theorem LineN.same {no : Addr} {H H' : Hp} {v : V} {ws : List Str} (h : LineN no H v ws) (s : Same H H') : LineN no H' v ws := let ⟨p, e, n, h⟩ := h; ⟨p, e, n, s _ _ h⟩
theorem lines_same {no : Addr} {H H' : Hp} {xs : List V} {ls : List (List Str)} (h : Paired (LineN no H) xs ls) (s : Same H H') : Paired (LineN no H') xs ls := Paired.mapP h fun _ _ z => z.same s
theorem lines_upd {no : Addr} {H : Hp} {o : HO} {xs : List V} {ls : List (List Str)} (h : Paired (LineN no H) xs ls) : Paired (LineN no (upd H no o)) xs ls :=
  Paired.mapP h fun _ _ ⟨p, e, n, z⟩ => ⟨p, e, n, by rw [upd_ne n]; exact z⟩
theorem lines_to {no no2 : Addr} {H : Hp} {xs : List V} {ls : List (List Str)} (h : Paired (LineN no H) xs ls) (h2 : H no2 = none) : Paired (LineN no2 H) xs ls :=
  Paired.mapP h fun _ _ ⟨p, e, _, z⟩ => ⟨p, e, ne_of_none z h2, z⟩
theorem lines_len {no : Addr} {H : Hp} {xs : List V} {ls : List (List Str)} (h : Paired (LineN no H) xs ls) : xs.length = ls.length := Paired.length h
theorem pd_take {α β : Type} {F : α → β → Prop} : ∀ {xs : List α} {ys : List β} (n : Nat), Paired F xs ys → Paired F (xs.take n) (ys.take n)
  | _, _, 0, _ => .nil
  | _, _, _ + 1, .nil => .nil
  | _, _, n + 1, .cons r t => .cons r (pd_take n t)
theorem pd_drop {α β : Type} {F : α → β → Prop} : ∀ {xs : List α} {ys : List β} (n : Nat), Paired F xs ys → Paired F (xs.drop n) (ys.drop n)
  | _, _, 0, h => h
  | _, _, _ + 1, .nil => .nil
  | _, _, n + 1, .cons _ t => pd_drop n t
abbrev dLines (ls : List (List Str)) : PyData := .list (ls.map Ln.dWords)
theorem denL_lines {K : PySem.W.Frag} {no : Addr} {H : Hp} : ∀ {xs : List V} {ls : List (List Str)}, Paired (LineN no H) xs ls → (∀ l ∈ ls, ∀ x ∈ l, PyData.canLay0 (.str x) = true) → DenL K H xs (ls.map Ln.dWords)
  | _, _, .nil, _ => .nil
  | _, _, .cons ⟨p, e, _, h⟩ r, c => by
    subst e
    exact .cons (.lst (SqL.of h) (Ln.denL_texts fun x hx => c _ List.mem_cons_self x hx)) (denL_lines r fun l hl => c l (List.mem_cons_of_mem _ hl))
theorem nb_lines : ∀ ls : List (List Str), nbL (ls.map Ln.dWords) = true
  | [] => rfl
  | l :: ls => by
    show (nb (Ln.dWords l) && nbL (ls.map Ln.dWords)) = true
    have h : nb (Ln.dWords l) = true := Ln.nb_words l
    rw [nb_lines ls, h]
    rfl
theorem depth_lines : ∀ ls : List (List Str), PyData.depthAll (ls.map Ln.dWords) ≤ 1
  | [] => Nat.zero_le _
  | l :: ls => by
    show max (Ln.dWords l).depth (PyData.depthAll (ls.map Ln.dWords)) ≤ 1
    have q : (Ln.dWords l).depth = PyData.depthAll (l.map PyData.str) + 1 := rfl
    have := Ln.depth_words l
    have := depth_lines ls
    omega
theorem dlines_depth (ls : List (List Str)) (e : PyData) : min (dLines ls).depth e.depth ≤ 64 := by
  have q : (dLines ls).depth = PyData.depthAll (ls.map Ln.dWords) + 1 := rfl
  have := depth_lines ls
  omega
def preT : List Str → Str
  | [] => ""
  | x :: r => x ++ " " ++ preT r
theorem app_emp (x : Str) : x ++ ("" : Str) = x := by
  show (⟨x.cps ++ (#[] : Array Nat)⟩ : Str) = x
  rw [Array.append_empty]
def lineT (ws : List Str) : Str := Txt.join " " ws
def keyT : List (List Str) → Str
  | [] => ""
  | l :: r => lineT l ++ "/" ++ keyT r
theorem key_one (l : List Str) : keyT [l] = lineT l ++ "/" := app_emp _
theorem join_cat : ∀ ls : List (List Str), Txt.join "" (ls.map fun l => lineT l ++ "/") = keyT ls := by
  intro ls
  unfold Txt.join
  rw [StrLaws.glued_eq_join]
  induction ls with
  | nil => rfl
  | cons l r ih =>
    cases r with
    | nil => exact (key_one l).symm
    | cons l2 r =>
      show (lineT l ++ "/") ++ "" ++ Str.join "" ((l2 :: r).map fun l => lineT l ++ "/") = lineT l ++ "/" ++ keyT (l2 :: r)
      rw [ih, app_emp]
def Fit (ls : List (List Str)) : Prop := ls.length ≤ 100 ∧ ∀ l ∈ ls, l.length ≤ 100 ∧ ∀ x ∈ l, x.length ≤ 100
theorem sum_le {α : Type} (f : α → Nat) (B : Nat) : ∀ l : List α, (∀ x ∈ l, f x ≤ B) → (l.map f).sum ≤ l.length * B
  | [], _ => by simp
  | x :: l, h => by
    have h1 := h x List.mem_cons_self
    have h2 := sum_le f B l fun y hy => h y (List.mem_cons_of_mem _ hy)
    rw [List.map_cons, List.sum_cons, List.length_cons, Nat.succ_mul]
    omega
theorem sum_le' {α : Type} (f : α → Nat) (B N : Nat) (l : List α) (h : ∀ x ∈ l, f x ≤ B) (hn : l.length ≤ N) : (l.map f).sum ≤ N * B :=
  Nat.le_trans (sum_le f B l h) (Nat.mul_le_mul_right _ hn)
theorem line_small {l : List Str} (h1 : l.length ≤ 100) (h2 : ∀ x ∈ l, x.length ≤ 100) : (l.map (·.length)).sum + l.length * (Str.ofString " ").length ≤ 16777216 := by
  have a := sum_le' (fun x : Str => x.length) 100 100 l h2 h1
  have e : (Str.ofString " ").length = 1 := by decide
  rw [e]
  have a : (l.map (·.length)).sum ≤ 100 * 100 := a
  omega
theorem lineT_len {l : List Str} (h1 : l.length ≤ 100) (h2 : ∀ x ∈ l, x.length ≤ 100) : (lineT l).length ≤ 10100 := by
  have a := sum_le' (fun x : Str => x.length) 100 100 l h2 h1
  have a : (l.map (·.length)).sum ≤ 100 * 100 := a
  have b := StrLaws.join_length_le " " l
  have e : (Str.ofString " ").length = 1 := by decide
  unfold lineT Txt.join
  rw [StrLaws.glued_eq_join]
  have b : (Str.join " " l).length ≤ (l.map (·.length)).sum + l.length * (Str.ofString " ").length := b
  rw [e] at b
  omega
theorem keys_small {ls : List (List Str)} (h : Fit ls) : ((ls.map fun l => lineT l ++ "/").map (·.length)).sum + (ls.map fun l => lineT l ++ "/").length * (Str.ofString "").length ≤ 16777216 := by
  rw [List.map_map, List.length_map]
  have a := sum_le' ((fun x : Str => x.length) ∘ fun l => lineT l ++ "/") 10101 100 ls (fun l hl => by
    obtain ⟨h1, h2⟩ := h.2 l hl
    have := lineT_len h1 h2
    show (lineT l ++ "/").length ≤ 10101
    rw [Str.length_append]
    have e : (Str.ofString "/").length = 1 := by decide
    have e : ("/" : Str).length = 1 := e
    omega) h.1
  have e : (Str.ofString "").length = 0 := by decide
  rw [e]
  have a : (ls.map ((fun x : Str => x.length) ∘ fun l => lineT l ++ "/")).sum ≤ 100 * 10101 := a
  have a : (ls.map ((·.length) ∘ fun l => lineT l ++ "/")).sum ≤ 100 * 10101 := a
  omega
theorem cut_init {α : Type} (f : α → V) (ini : List α) (last : α) : cutV ((ini ++ [last]).map f) none (some (-1)) = ini.map f := by
  have e1 : ((ini ++ [last]).map f).length = ini.length + 1 := by rw [List.length_map, List.length_append]; rfl
  have h0 : HT.sIx (ini.length + 1) 0 none = 0 := rfl
  have h1 : HT.sIx (ini.length + 1) (ini.length + 1) (some (-1)) = ini.length := by
    unfold HT.sIx
    simp
    omega
  unfold cutV
  rw [e1, h0, h1, List.drop_zero, Nat.sub_zero, List.map_append]
  exact List.take_left' (by rw [List.length_map])
end Lns
namespace L2
open PySem PySem.Spec PyProof.Rows PySem.Builtin PySem.Builtin.Str
section
variable {X : Cx}
theorem vals_strs : ∀ (tk : Nat) (xs : List Str), Vals (xs.map V.str) (strsFrom tk xs)
  | _, [] => .nil
  | tk, x :: r => .cons ⟨tk, rfl⟩ (vals_strs (tk + 1) r)
theorem parts_len (x y : Str) : (partsBetween x (occurrences x y 0 x.length (x.length + 1)) y.length).length ≤ x.length + 2 := by
  unfold partsBetween
  have := StrLaws.occ_length_le x y 0 x.length (x.length + 1)
  simp only [List.length_map, List.length_zip, List.length_cons, List.length_append]
  omega
theorem split_len (x y : Str) : (Txt.split x y).length ≤ x.length + 2 := by
  have := parts_len x y
  unfold Txt.split
  split
  · show 1 ≤ _
    omega
  · split
    · show 1 ≤ _
      omega
    · exact this
def rSplit : V → List V → Hp → VK → Prop := fun x xs H Q => ∃ z y, x = .str z ∧ xs = [.str y] ∧ 1 ≤ y.length ∧ z.length ≤ 90000 ∧ ∀ D, H D = none → Q (.ref D) (upd H D (.lst ((Txt.split z y).map V.str)))
theorem mt_split : MtR X "str.split" rSplit := by
  intro pins s σ H v0 xs v us Q I rx rs h
  obtain ⟨x, y, rfl, rfl, hy1, hx, q⟩ := h
  obtain ⟨t, rfl⟩ := rx
  obtain ⟨u0, rfl, ru⟩ := vals1 rs
  obtain ⟨u, rfl⟩ := ru
  have hy : (y.length == 0) = false := by
    rw [beq_eq_false_iff_ne]
    omega
  have hl := parts_len x y
  have hq := q s.heap.objs.size I.fresh
  have hz : (Txt.split x y).length ≤ sizeLine := Nat.le_trans (split_len x y) (smallL (by omega))
  cases h1 : (decide (x.length < y.length) || decide (strKind x < strKind y))
  · cases hf : (occurrences x y 0 x.length (x.length + 1)).isEmpty
    · have e : Txt.split x y = partsBetween x (occurrences x y 0 x.length (x.length + 1)) y.length := by
        unfold Txt.split
        rw [if_neg (ne_true_of_eq_false h1), if_neg (ne_true_of_eq_false hf)]
      rw [e] at hq hz
      refine call_meets F.slot_str_split (typeIs_str _ _ _) F.entry_str_split (F.args_str_split_2 _ _) (meets_str_split_sep x y t u h1 hy hf (smallL (by omega)) hz) ?_
      exact ⟨.ref _, _, I.lnew (vals_strs _ _) (by rw [List.length_map]; exact hz), rfl, hq⟩
    · have e : Txt.split x y = [x] := by
        unfold Txt.split
        rw [if_neg (ne_true_of_eq_false h1), if_pos hf]
      rw [e] at hq
      exact call_meets F.slot_str_split (typeIs_str _ _ _) F.entry_str_split (F.args_str_split_2 _ _) (meets_str_split_not_found x y t u h1 hy hf)
        ⟨.ref _, _, I.lnew (t' := s.toks) (its := [.str x t]) (ys := [.str x]) (.cons ⟨t, rfl⟩ .nil) (by show 1 ≤ sizeLine; exact smallL (by omega)), rfl, hq⟩
  · have e : Txt.split x y = [x] := by
      unfold Txt.split
      rw [if_pos h1]
    rw [e] at hq
    exact call_meets F.slot_str_split (typeIs_str _ _ _) F.entry_str_split (F.args_str_split_2 _ _) (meets_str_split_cannot_occur x y t u h1)
      ⟨.ref _, _, I.lnew (t' := s.toks) (its := [.str x t]) (ys := [.str x]) (.cons ⟨t, rfl⟩ .nil) (by show 1 ≤ sizeLine; exact smallL (by omega)), rfl, hq⟩
end
end L2
namespace Lns
open PySem L2
theorem str_ext {x y : Str} (h : x.cps.toList = y.cps.toList) : x = y := Str.ext' (Array.toList_inj.mp h)
theorem app_list (x y : Str) : (x ++ y).cps.toList = x.cps.toList ++ y.cps.toList := by rw [Str.cps_append, Array.toList_append]
theorem free_eq {c : Nat} : ∀ {a b r s : List Nat}, c ∉ a → c ∉ b → a ++ c :: r = b ++ c :: s → a = b ∧ r = s
  | [], [], _, _, _, _, h => ⟨rfl, (List.cons.inj h).2⟩
  | [], y :: b, _, _, _, hb, h => absurd ((List.cons.inj h).1 ▸ List.mem_cons_self) hb
  | x :: a, [], _, _, ha, _, h => absurd ((List.cons.inj h).1 ▸ List.mem_cons_self) ha
  | x :: a, y :: b, _, _, ha, hb, h => by
    obtain ⟨h1, h2⟩ := List.cons.inj h
    obtain ⟨h3, h4⟩ := free_eq (fun z => ha (List.mem_cons_of_mem _ z)) (fun z => hb (List.mem_cons_of_mem _ z)) h2
    exact ⟨by rw [h1, h3], h4⟩
theorem free_ne {c : Nat} {a b r : List Nat} (ha : c ∉ a) (h : a = b ++ c :: r) : False := ha (h ▸ List.mem_append_right _ List.mem_cons_self)
theorem join_uniq (c : Nat) : ∀ (ps qs : List Str), ps ≠ [] → qs ≠ [] → (∀ p ∈ ps, c ∉ p.cps.toList) → (∀ p ∈ qs, c ∉ p.cps.toList) → Str.join ⟨#[c]⟩ ps = Str.join ⟨#[c]⟩ qs → ps = qs
  | [], _, h, _, _, _, _ => absurd rfl h
  | _, [], _, h, _, _, _ => absurd rfl h
  | [p], [q], _, _, _, _, h => by
    have h : p = q := h
    rw [h]
  | [p], q :: q2 :: qs, _, _, hp, _, h => by
    have h : p = q ++ ⟨#[c]⟩ ++ Str.join ⟨#[c]⟩ (q2 :: qs) := h
    have h := congrArg (fun z : Str => z.cps.toList) h
    simp only [app_list, List.append_assoc] at h
    exact (free_ne (hp p List.mem_cons_self) h).elim
  | p :: p2 :: ps, [q], _, _, _, hq, h => by
    have h : p ++ ⟨#[c]⟩ ++ Str.join ⟨#[c]⟩ (p2 :: ps) = q := h
    have h := congrArg (fun z : Str => z.cps.toList) h
    simp only [app_list, List.append_assoc] at h
    exact (free_ne (hq q List.mem_cons_self) h.symm).elim
  | p :: p2 :: ps, q :: q2 :: qs, _, _, hp, hq, h => by
    have h : p ++ ⟨#[c]⟩ ++ Str.join ⟨#[c]⟩ (p2 :: ps) = q ++ ⟨#[c]⟩ ++ Str.join ⟨#[c]⟩ (q2 :: qs) := h
    have h := congrArg (fun z : Str => z.cps.toList) h
    simp only [app_list, List.append_assoc] at h
    obtain ⟨h1, h2⟩ := free_eq (hp p List.mem_cons_self) (hq q List.mem_cons_self) h
    have ih := join_uniq c (p2 :: ps) (q2 :: qs) (by simp) (by simp) (fun x hx => hp x (List.mem_cons_of_mem _ hx)) (fun x hx => hq x (List.mem_cons_of_mem _ hx)) (str_ext h2)
    rw [str_ext h1, ih]
theorem split_ne (x y : Str) : Txt.split x y ≠ [] := by
  unfold Txt.split
  split
  · simp
  · split
    · simp
    · rw [StrLaws.partsBetween_eq]
      obtain ⟨p, r, e⟩ := StrLaws.partsFrom_ne x y.length 0 (Builtin.Str.occurrences x y 0 x.length (x.length + 1))
      rw [e]
      simp
theorem split_join (c : Nat) {ps : List Str} (hne : ps ≠ []) (hf : ∀ p ∈ ps, c ∉ p.cps.toList) : Txt.split (Str.join ⟨#[c]⟩ ps) ⟨#[c]⟩ = ps :=
  join_uniq c _ _ (split_ne _ _) hne (StrLaws.split_free _ c) hf (StrLaws.join_split _ _)
def Plain (x : Str) : Prop := 32 ∉ x.cps.toList ∧ 47 ∉ x.cps.toList
theorem lineT_join (ws : List Str) : lineT ws = Str.join ⟨#[32]⟩ ws := by
  unfold lineT Txt.join
  rw [StrLaws.glued_eq_join]
  rfl
theorem split_line {ws : List Str} (hne : ws ≠ []) (h : ∀ x ∈ ws, Plain x) : Txt.split (lineT ws) " " = ws := by
  rw [lineT_join]
  exact split_join 32 hne fun p hp => (h p hp).1
theorem line_free : ∀ {ws : List Str}, (∀ x ∈ ws, Plain x) → 47 ∉ (lineT ws).cps.toList := by
  intro ws h
  rw [lineT_join]
  induction ws with
  | nil => exact fun z => nomatch z
  | cons x r ih =>
    cases r with
    | nil => exact (h x List.mem_cons_self).2
    | cons y r =>
      show 47 ∉ (x ++ ⟨#[32]⟩ ++ Str.join ⟨#[32]⟩ (y :: r)).cps.toList
      rw [app_list, app_list]
      have := ih fun z hz => h z (List.mem_cons_of_mem _ hz)
      simp only [List.mem_append, not_or]
      exact ⟨⟨(h x List.mem_cons_self).2, by decide⟩, this⟩
theorem key_join : ∀ ls : List (List Str), keyT ls = Str.join ⟨#[47]⟩ (ls.map lineT ++ [Str.ofString ""])
  | [] => rfl
  | l :: r => by
    show lineT l ++ "/" ++ keyT r = Str.join ⟨#[47]⟩ (lineT l :: (r.map lineT ++ [Str.ofString ""]))
    rw [key_join r]
    cases h : r.map lineT ++ [Str.ofString ""] with
    | nil => exact absurd h (by simp)
    | cons z s => rfl
theorem split_keys {ls : List (List Str)} (h : ∀ l ∈ ls, ∀ x ∈ l, Plain x) : Txt.split (keyT ls) "/" = ls.map lineT ++ [Str.ofString ""] := by
  rw [key_join]
  refine split_join 47 (by simp) fun p hp => ?_
  rcases List.mem_append.mp hp with hp | hp
  · obtain ⟨l, hl, rfl⟩ := List.mem_map.mp hp
    exact line_free (h l hl)
  · rw [List.mem_singleton.mp hp]
    exact fun z => nomatch z
theorem at_end {α : Type} (ini : List α) (last : α) : atI (ini ++ [last]) (-1) = some last := by
  have h : ixN (ini.length + 1) (-1) = some ini.length := by
    unfold ixN
    rw [if_neg (by omega), if_pos (by omega)]
    congr 1
    omega
  unfold atI
  rw [List.length_append]
  show ((ixN (ini.length + 1) (-1)).bind _) = _
  rw [h]
  show (ini ++ [last])[ini.length]? = _
  rw [List.getElem?_append_right (Nat.le_refl _), Nat.sub_self]
  rfl
def LineF (H0 : Hp) (no : Addr) (H : Hp) (v : V) (ws : List Str) : Prop := ∃ p, v = .ref p ∧ p ≠ no ∧ H0 p = none ∧ H p = some (.lst (ws.map V.str))
theorem LineF.n {H0 : Hp} {no : Addr} {H : Hp} {xs : List V} {ls : List (List Str)} (h : Paired (LineF H0 no H) xs ls) : Paired (LineN no H) xs ls := Paired.mapP h fun _ _ ⟨p, e, n, _, z⟩ => ⟨p, e, n, z⟩
theorem linesF_same {H0 : Hp} {no : Addr} {H H' : Hp} {xs : List V} {ls : List (List Str)} (h : Paired (LineF H0 no H) xs ls) (s : Same H H') : Paired (LineF H0 no H') xs ls := Paired.mapP h fun _ _ ⟨p, e, n, f, z⟩ => ⟨p, e, n, f, s _ _ z⟩
theorem linesF_upd {H0 : Hp} {no : Addr} {H : Hp} {o : HO} {xs : List V} {ls : List (List Str)} (h : Paired (LineF H0 no H) xs ls) : Paired (LineF H0 no (upd H no o)) xs ls :=
  Paired.mapP h fun _ _ ⟨p, e, n, f, z⟩ => ⟨p, e, n, f, by rw [upd_ne n]; exact z⟩
theorem linesF_len {H0 : Hp} {no : Addr} {H : Hp} {xs : List V} {ls : List (List Str)} (h : Paired (LineF H0 no H) xs ls) : xs.length = ls.length := Paired.length h
theorem linesF_new {H0 : Hp} {no : Addr} {H : Hp} {xs : List V} {ls : List (List Str)} {p : Addr} (h : Paired (LineF H0 no H) xs ls) (hp : H p = none) : V.ref p ∉ xs := by
  intro hm
  obtain ⟨i, hi, e⟩ := List.getElem_of_mem hm
  obtain ⟨_, _, p2, e2, _, _, z⟩ := Cs.pd_get h (List.getElem?_eq_getElem hi)
  rw [e] at e2
  cases e2
  rw [hp] at z
  cases z
theorem pd_app {α β : Type} {F : α → β → Prop} : ∀ {a c : List α} {b d : List β}, Paired F a b → Paired F c d → Paired F (a ++ c) (b ++ d)
  | _, _, _, _, .nil, h => h
  | _, _, _, _, .cons r t, h => .cons r (pd_app t h)
def ListF (H0 : Hp) (no : Addr) (B : Nat) (H : Hp) (v : V) : Prop := ∃ p ws, v = .ref p ∧ p ≠ no ∧ H0 p = none ∧ H p = some (.lst ws) ∧ ws.length ≤ B
theorem ListF.same {H0 : Hp} {no : Addr} {B : Nat} {H H' : Hp} {v : V} (h : ListF H0 no B H v) (s : Same H H') : ListF H0 no B H' v := let ⟨p, ws, e, n, f, z, b⟩ := h; ⟨p, ws, e, n, f, s _ _ z, b⟩
def isS (c : Nat) : Bool := !decide (c = 32) && !decide (c = 47)
def okFrom (rs : List Cs.Row) : Bool → List Nat → Bool
  | _, [] => true
  | p, c :: r => if isS c = true then (Cs.place rs (sg c)).isSome && okFrom rs true r else p && okFrom rs false r
def goesOn (rs : List Cs.Row) (ks : List Nat) (i : Nat) : Bool :=
  match ks[i]? with
  | none => false
  | some c => if isS c = true then (Cs.place rs (sg c)).isSome else decide (0 < i) && (match ks[i - 1]? with | none => false | some d => isS d)
theorem ok_on {rs : List Cs.Row} : ∀ {ks : List Nat} {p : Bool}, okFrom rs p ks = true → ∀ (i : Nat) c, ks[i]? = some c →
    if isS c = true then (Cs.place rs (sg c)).isSome = true else (i = 0 ∧ p = true) ∨ ∃ j d, i = j + 1 ∧ ks[j]? = some d ∧ isS d = true
  | [], _, _, i, c, h => by simp at h
  | k :: r, p, ok, 0, c, h => by
    have h : k = c := by simpa using h
    subst h
    unfold okFrom at ok
    by_cases hs : isS k = true
    · rw [if_pos hs] at ok ⊢
      exact (Bool.and_eq_true_iff.mp ok).1
    · rw [if_neg hs] at ok ⊢
      exact .inl ⟨rfl, (Bool.and_eq_true_iff.mp ok).1⟩
  | k :: r, p, ok, i + 1, c, h => by
    have h : r[i]? = some c := by simpa using h
    unfold okFrom at ok
    by_cases hs : isS k = true
    · rw [if_pos hs] at ok
      have ih := ok_on (Bool.and_eq_true_iff.mp ok).2 i c h
      by_cases hc : isS c = true
      · rw [if_pos hc] at ih ⊢
        exact ih
      · rw [if_neg hc] at ih ⊢
        rcases ih with ⟨rfl, _⟩ | ⟨j, d, rfl, hj, hd⟩
        · exact .inr ⟨0, k, rfl, rfl, hs⟩
        · exact .inr ⟨j + 1, d, rfl, by simpa using hj, hd⟩
    · rw [if_neg hs] at ok
      have ih := ok_on (Bool.and_eq_true_iff.mp ok).2 i c h
      by_cases hc : isS c = true
      · rw [if_pos hc] at ih ⊢
        exact ih
      · rw [if_neg hc] at ih ⊢
        rcases ih with ⟨_, e⟩ | ⟨j, d, rfl, hj, hd⟩
        · cases e
        · exact .inr ⟨j + 1, d, rfl, by simpa using hj, hd⟩
theorem ok_goes {rs : List Cs.Row} {ks : List Nat} (ok : okFrom rs false ks = true) {i : Nat} (hi : i < ks.length) : goesOn rs ks i = true := by
  have h := ok_on ok i ks[i] (List.getElem?_eq_getElem hi)
  unfold goesOn
  rw [List.getElem?_eq_getElem hi]
  show (if isS ks[i] = true then _ else _) = true
  by_cases hs : isS ks[i] = true
  · rw [if_pos hs] at h ⊢
    exact h
  · rw [if_neg hs] at h ⊢
    rcases h with ⟨_, e⟩ | ⟨j, d, rfl, hj, hd⟩
    · cases e
    · rw [show j + 1 - 1 = j from rfl, hj]
      show (decide (0 < j + 1) && isS d) = true
      rw [hd]
      simp
theorem ok_word {rs : List Cs.Row} : ∀ {w : List Nat} {p : Bool} (r : List Nat), (∀ c ∈ w, isS c = true ∧ (Cs.place rs (sg c)).isSome = true) → okFrom rs p (w ++ r) = okFrom rs (p || !w.isEmpty) r
  | [], p, r, _ => by simp
  | c :: w, p, r, h => by
    obtain ⟨h1, h2⟩ := h c List.mem_cons_self
    have ih := ok_word (w := w) (p := true) r fun d hd => h d (List.mem_cons_of_mem _ hd)
    show okFrom rs p (c :: (w ++ r)) = _
    conv => lhs; unfold okFrom
    rw [if_pos h1, h2, ih]
    simp
def Settable (rs : List Cs.Row) (x : Str) : Prop := 1 ≤ x.length ∧ ∀ c ∈ x.cps.toList, isS c = true ∧ (Cs.place rs (sg c)).isSome = true
theorem Settable.ne {rs : List Cs.Row} {x : Str} (h : Settable rs x) : (!x.cps.toList.isEmpty) = true := by
  have h1 := h.1
  unfold Str.length at h1
  cases e : x.cps.toList with
  | nil =>
    have : x.cps.toList.length = 0 := by rw [e]; rfl
    rw [Array.length_toList] at this
    omega
  | cons a b => rfl
theorem Settable.plain {rs : List Cs.Row} {x : Str} (h : Settable rs x) : Plain x := by
  constructor
  · intro z
    have := (h.2 _ z).1
    revert this
    decide
  · intro z
    have := (h.2 _ z).1
    revert this
    decide
theorem ok_line {rs : List Cs.Row} (r : List Nat) : ∀ {l : List Str} {p : Bool}, l ≠ [] → (∀ x ∈ l, Settable rs x) → okFrom rs p ((lineT l).cps.toList ++ r) = okFrom rs true r
  | [], _, h, _ => absurd rfl h
  | [x], p, _, h => by
    have hx := h x List.mem_cons_self
    rw [lineT_join]
    show okFrom rs p (x.cps.toList ++ r) = _
    rw [ok_word r hx.2, hx.ne]
    simp
  | x :: y :: l, p, _, h => by
    have hx := h x List.mem_cons_self
    have ih := ok_line r (l := y :: l) (p := false) (by simp) fun z hz => h z (List.mem_cons_of_mem _ hz)
    rw [lineT_join] at ih ⊢
    have e : (Str.join ⟨#[32]⟩ (x :: y :: l)).cps.toList ++ r = x.cps.toList ++ (32 :: ((Str.join ⟨#[32]⟩ (y :: l)).cps.toList ++ r)) := by
      show (x ++ ⟨#[32]⟩ ++ Str.join ⟨#[32]⟩ (y :: l)).cps.toList ++ r = _
      rw [app_list, app_list, List.append_assoc, List.append_assoc]
      rfl
    rw [e, ok_word _ hx.2, hx.ne]
    conv => lhs; unfold okFrom
    rw [if_neg (by decide), ih]
    simp
theorem ok_keys {rs : List Cs.Row} : ∀ {ls : List (List Str)} {p : Bool}, (∀ l ∈ ls, l ≠ [] ∧ ∀ x ∈ l, Settable rs x) → okFrom rs p (keyT ls).cps.toList = true
  | [], _, _ => rfl
  | l :: r, p, h => by
    obtain ⟨h1, h2⟩ := h l List.mem_cons_self
    have ih := ok_keys (ls := r) (p := false) fun z hz => h z (List.mem_cons_of_mem _ hz)
    have e : (keyT (l :: r)).cps.toList = (lineT l).cps.toList ++ (47 :: (keyT r).cps.toList) := by
      show (lineT l ++ "/" ++ keyT r).cps.toList = _
      rw [app_list, app_list, List.append_assoc]
      rfl
    rw [e, ok_line _ h1 h2]
    unfold okFrom
    rw [if_neg (by decide), ih]
    rfl
theorem keys_end : ∀ (ls : List (List Str)), ls ≠ [] → ∃ a, (keyT ls).cps.toList = a ++ [47]
  | [], h => absurd rfl h
  | [l], _ => ⟨(lineT l).cps.toList, by
      rw [key_one, app_list]
      rfl⟩
  | l :: l2 :: r, _ => by
    obtain ⟨a, e⟩ := keys_end (l2 :: r) (by simp)
    refine ⟨(lineT l ++ "/").cps.toList ++ a, ?_⟩
    show (lineT l ++ "/" ++ keyT (l2 :: r)).cps.toList = _
    rw [app_list, e, List.append_assoc]
end Lns
namespace L2
open PySem PySem.Spec PyProof.Rows
section
variable {M : Model} {A : Around} {E : Value → Shared → Prop} {s : Shared}
def Stays (S : List Addr) (ch : List Addr) (h h' : Heap) : Prop := ∀ b o, h.get? b = some o → b ∉ ch → (b ∉ S → h'.get? b = some o) ∧ ∃ sl, h'.get? b = some { o with slots := sl }
theorem Stays.trans {S ch : List Addr} {h h1 h2 : Heap} (x : Stays S ch h h1) (y : Stays S ch h1 h2) : Stays S ch h h2 := fun b o e n => by
  obtain ⟨x1, sl, x2⟩ := x b o e n
  refine ⟨fun hb => ?_, ?_⟩
  · exact (y b o (x1 hb) n).1 hb
  · obtain ⟨_, sl2, y2⟩ := y b _ x2 n
    exact ⟨sl2, y2⟩
theorem dict_mapFields (o : Obj) (f) : (o.mapFields f).dict = o.dict := by
  obtain ⟨c, d, dt, sl⟩ := o
  cases dt <;> rfl
def ExcAt (P : Heap → Value → Prop) (h : Heap) (e : Addr) (cls : Value) (dx : Option Addr) : Prop :=
  ∃ oe vs hd, h.get? e = some oe ∧ oe.cls = cls ∧ oe.dict = dx ∧ oe.data = .fields vs ∧ vs[1]? = some hd ∧ P h hd
def TbAt (F : Addr → Prop) (e : Addr) (x : Value) (h : Heap) (hd : Value) : Prop := ∃ T oT ts, hd = .ref T ∧ F T ∧ T ≠ e ∧ h.get? T = some oT ∧ oT.data = .fields ts ∧ ts[3]? = some x
theorem note_new {base : Heap} {env : Env} {outer : List Env} {L e : Addr} {oe : Obj} {vs : Array Value} {head : Value} {hadNext : Bool} {Q : Unit → Shared → Prop}
    (hfr : A.frames = some (env :: outer)) (hl : s.heap.FunFrames base (env :: outer)) (hf : env.frame = some L)
    (he : s.heap.get? e = some oe) (hd : oe.data = .fields vs) (hsz : 1 < vs.size)
    (h : ∀ h', s.heap.objs.size ≤ h'.objs.size → Stays ((env :: outer).filterMap (·.frame)) [e] s.heap h' → ExcAt (TbAt (fun b => s.heap.objs.size ≤ b) e (rawInt L)) h' e oe.cls oe.dict → Q () { s with heap := h' }) :
    wpAny M A (do let a ← frameOf env; let pl ← entryPlaceOf L hadNext; let b ← EntryCells.newEntry head a .none (rawInt L) .none pl; setField (.ref e) 1 b) Q E s := by
  have hene : e ∉ (env :: outer).filterMap (·.frame) := fun hm => by
    obtain ⟨_, o, ho, hnf⟩ := hl.mem hm
    rw [he] at ho; injection ho with ho; subst ho; exact hnf vs hd
  refine wpAny_bind (wpAny_frameOf_fun hfr hl hf fun h₁ hs₁ => ?_)
  refine wpAny_bind (wpAny_entryPlaceOf fun pl hpl => ?_)
  unfold EntryCells.newEntry newFields
  refine wpAny_bind (wpAny_newObj_type ?_ (hpl.sizeOk5 _ _ _ _ _))
  have he₁ : h₁.get? e = some oe := (hs₁.2.1 e hene).trans he
  have he₂ := Heap.get?_push_of_some (h := h₁) { cls := .type "traceback", dict := none, data := .fields ([head, .ref L, .none, rawInt L, .none] ++ (if pl.isEmpty then List.replicate 6 Value.none else pl)).toArray } he₁
  refine wpAny_setField he₂ hd hsz ?_
  have hTe : h₁.objs.size ≠ e := Nat.ne_of_gt (Heap.lt_size he₁)
  have hd₃ := Obj.data_mapFields hd (·.setIfInBounds 1 (Value.ref h₁.objs.size))
  have he₃ := Heap.get?_update_self (Obj.mapFields (·.setIfInBounds 1 (Value.ref h₁.objs.size))) he₂ (Obj.isFreed_of_fields hd₃)
  have hT₃ := (Heap.get?_update_other (h₁.push { cls := .type "traceback", dict := none, data := .fields ([head, .ref L, .none, rawInt L, .none] ++ (if pl.isEmpty then List.replicate 6 Value.none else pl)).toArray })
    (Obj.mapFields (·.setIfInBounds 1 (Value.ref h₁.objs.size))) (Ne.symm hTe)).trans (Heap.get?_push_size h₁ rfl)
  have hsz1 : h₁.objs.size = s.heap.objs.size := hs₁.1
  refine h _ ?_ ?_ ?_
  · rw [Heap.size_after_update, Heap.size_push, hsz1]
    exact Nat.le_succ _
  · intro b o hb hn
    have hbe : b ≠ e := fun q => hn (List.mem_singleton.mpr q)
    have keep : ∀ o, h₁.get? b = some o → ((h₁.push { cls := .type "traceback", dict := none, data := .fields ([head, .ref L, .none, rawInt L, .none] ++ (if pl.isEmpty then List.replicate 6 Value.none else pl)).toArray }).update e (Obj.mapFields (·.setIfInBounds 1 (Value.ref h₁.objs.size)))).get? b = some o := fun o hb => by
      rw [Heap.get?_update_other _ _ (Ne.symm hbe)]
      exact Heap.get?_push_of_some _ hb
    refine ⟨fun hS => keep o ((hs₁.2.1 b hS).trans hb), ?_⟩
    obtain ⟨sl, hs⟩ := hs₁.2.2 b o hb
    exact ⟨sl, keep _ hs⟩
  · exact ⟨_, _, .ref h₁.objs.size, he₃, Obj.cls_mapFields _ _, dict_mapFields _ _, hd₃, by simp [hsz], h₁.objs.size, _, _, rfl, Nat.le_of_eq hsz1.symm, hTe, hT₃, rfl, by simp⟩
theorem ExcAt.mono {P P' : Heap → Value → Prop} {h : Heap} {e : Addr} {cls : Value} {dx : Option Addr} (x : ExcAt P h e cls dx) (f : ∀ hd, P h hd → P' h hd) : ExcAt P' h e cls dx :=
  let ⟨oe, vs, hd, a, b, c, d, g, p⟩ := x
  ⟨oe, vs, hd, a, b, c, d, g, f hd p⟩
theorem TbAt.mono {F F' : Addr → Prop} {e : Addr} {x : Value} {h : Heap} {hd : Value} (t : TbAt F e x h hd) (f : ∀ b, F b → F' b) : TbAt F' e x h hd :=
  let ⟨T, oT, ts, a, b, c⟩ := t
  ⟨T, oT, ts, a, f T b, c⟩
def HdOk (F : Addr → Prop) (e L : Addr) (h : Heap) (hd : Value) : Prop := hd = .none ∨ TbAt F e .none h hd ∨ TbAt F e (rawInt L) h hd
def Recs (F : Addr → Prop) (h : Heap) (ch : List Addr) : Prop := ∀ b ∈ ch, F b ∧ ∃ o vs, h.get? b = some o ∧ o.data = .fields vs
theorem stays_refl (S ch : List Addr) (h : Heap) : Stays S ch h h := fun _ o e _ => ⟨fun _ => e, o.slots, e⟩
theorem note_any {F : Addr → Prop} {base : Heap} {env : Env} {outer : List Env} {L e : Addr} {cls : Value} {dx : Option Addr} {Q : Unit → Shared → Prop}
    (hfr : A.frames = some (env :: outer)) (hl : s.heap.FunFrames base (env :: outer)) (hf : env.frame = some L) (hF : ∀ b, s.heap.objs.size ≤ b → F b) (hFe : F e)
    (hx : ExcAt (HdOk F e L) s.heap e cls dx)
    (h : ∀ h' ch, Recs F s.heap ch → s.heap.objs.size ≤ h'.objs.size → Stays ((env :: outer).filterMap (·.frame)) ch s.heap h' → ExcAt (TbAt F e (rawInt L)) h' e cls dx → Q () { s with heap := h' }) :
    wpAny M A (noteFrame (.ref e) env) Q E s := by
  obtain ⟨oe, vs, hd, he, rfl, rfl, hdt, h1, hp⟩ := hx
  have hsz : 1 < vs.size := (Array.getElem?_eq_some_iff.mp h1).1
  unfold noteFrame
  simp only [hf]
  refine wpAny_bind (wpAny_field he hdt h1 ?_)
  rcases hp with rfl | ⟨T, oT, ts, rfl, hFT, hTe, hT, hdT, h3⟩ | ⟨T, oT, ts, rfl, hFT, hTe, hT, hdT, h3⟩
  · rw [if_neg (by decide)]
    exact note_new hfr hl hf he hdt hsz fun h' hs hst hx => h h' [e] (fun b hb => by rw [List.mem_singleton.mp hb]; exact ⟨hFe, _, _, he, hdt⟩) hs hst (hx.mono fun hd t => t.mono hF)
  · rw [if_pos (show (Value.ref T != Value.none) = true from by simp)]
    refine wpAny_bind (wpAny_field hT hdT h3 ?_)
    rw [if_neg (show ¬ ((Value.none == rawInt L) = true) from by simp [rawInt])]
    refine wpAny_bind (wpAny_setField hT hdT (Array.getElem?_eq_some_iff.mp h3).1 ?_)
    have other : ∀ b, b ≠ T → (s.heap.update T (Obj.mapFields (·.setIfInBounds 3 Value.none))).get? b = s.heap.get? b := fun b hb => Heap.get?_update_other _ _ (Ne.symm hb)
    have noRecord : ∀ b o, s.heap.get? b = some o → (∀ vs, o.data ≠ .fields vs) → b ≠ T := fun b o hb hnf q => by
      rw [q, hT] at hb; injection hb with hb; subst hb; exact hnf ts hdT
    have hsz0 : (s.heap.update T (Obj.mapFields (·.setIfInBounds 3 Value.none))).objs.size = s.heap.objs.size := Heap.size_after_update ..
    refine note_new (s := { s with heap := s.heap.update T (Obj.mapFields (·.setIfInBounds 3 Value.none)) }) hfr (hl.of_keeps fun b o hb hnf => ⟨o, (other b (noRecord b o hb hnf)).trans hb, rfl⟩) hf ((other e (Ne.symm hTe)).trans he) hdt hsz fun h' hs hst hx => ?_
    refine h h' [e, T] (fun b hb => ?_) (Nat.le_trans (Nat.le_of_eq hsz0.symm) hs) (fun b o hb hn => ?_) (hx.mono fun hd t => t.mono fun b hb => hF b (Nat.le_trans (Nat.le_of_eq hsz0.symm) hb))
    · rcases List.mem_cons.mp hb with rfl | hb
      · exact ⟨hFe, _, _, he, hdt⟩
      · rw [List.mem_singleton.mp hb]
        exact ⟨hFT, _, _, hT, hdT⟩
    · have hbT : b ≠ T := fun q => hn (by rw [q]; exact List.mem_cons_of_mem _ List.mem_cons_self)
      exact hst b o ((other b hbT).trans hb) fun q => hn (by rw [List.mem_singleton.mp q]; exact List.mem_cons_self)
  · rw [if_pos (show (Value.ref T != Value.none) = true from by simp)]
    refine wpAny_bind (wpAny_field hT hdT h3 ?_)
    rw [if_pos (by simp)]
    exact wpAny_pure (h s.heap [] (fun b hb => nomatch hb) (Nat.le_refl _) (stays_refl _ _ _) ⟨oe, vs, _, he, rfl, rfl, hdt, h1, T, oT, ts, rfl, hFT, hTe, hT, hdT, h3⟩)
theorem flight_any {F : Addr → Prop} {S : List Addr} {e : Addr} {cls x : Value} {dx : Option Addr} {fr : Option Addr} {Q : Unit → Shared → Prop} (hFe : F e) (hx : ExcAt (TbAt F e x) s.heap e cls dx)
    (h : ∀ h' ch, Recs F s.heap ch → s.heap.objs.size ≤ h'.objs.size → Stays S ch s.heap h' → ExcAt (TbAt F e (fr.elim .none fun f => rawInt f)) h' e cls dx → Q () { s with heap := h' }) :
    wpAny M A (setFlight (.ref e) fr) Q E s := by
  obtain ⟨oe, vs, hd, he, rfl, rfl, hdt, h1, T, oT, ts, rfl, hFT, hTe, hT, hdT, h3⟩ := hx
  unfold setFlight
  refine wpAny_bind (wpAny_field he hdt h1 ?_)
  rw [if_pos (show (Value.ref T != Value.none) = true from by simp)]
  have h3s := (Array.getElem?_eq_some_iff.mp h3).1
  refine wpAny_setField hT hdT h3s (h _ [T] (fun b hb => by rw [List.mem_singleton.mp hb]; exact ⟨hFT, _, _, hT, hdT⟩) (Nat.le_of_eq (Heap.size_after_update ..).symm) (fun b o hb hn => ?_) ?_)
  · have hbT : T ≠ b := fun q => hn (by rw [q]; exact List.mem_cons_self)
    have k := (Heap.get?_update_other s.heap (Obj.mapFields (·.setIfInBounds 3 (fr.elim Value.none fun f => rawInt f))) hbT).trans hb
    exact ⟨fun _ => k, o.slots, k⟩
  · have hdT3 := Obj.data_mapFields hdT (·.setIfInBounds 3 (fr.elim Value.none fun f => rawInt f))
    exact ⟨oe, vs, _, (Heap.get?_update_other _ _ hTe).trans he, rfl, rfl, hdt, h1, T, _, _, rfl, hFT, hTe, Heap.get?_update_self _ hT (Obj.isFreed_of_fields hdT3), hdT3, by simp [h3s]⟩
end
def Fr0 (X : Cx) (H : Hp) (b : Addr) : Prop := X.s₀.heap.objs.size ≤ b ∧ H b = none ∧ ∀ p ∈ X.pn, p.1 ≠ b
section
variable {X : Cx} {pins : List (Addr × Obj)} {σ : St} {H : Hp} {s : Shared}
theorem hok_ex {P : Program} {w : World} {H : Hp} {h h' : Heap} (hok : HOk P w H h) (k : ∀ b o, h.get? b = some o → H b ≠ none → h'.get? b = some o) : HOk P w H h' := fun a o e =>
  (hok a o e).stay (fun b u hb q => k b u q (by
    rcases hb with rfl | hb
    · rw [e]; exact fun z => nomatch z
    · rw [hb]; exact fun z => nomatch z)) (fun _ q => q) fun _ _ q => q
theorem Inv.exc {h' : Heap} {ch : List Addr} (I : Inv X [] σ H s) (hr : Recs (Fr0 X H) s.heap ch) (st : Stays (frs X.stack) ch s.heap h') : Inv X [] σ H { s with heap := h' } := by
  have nch : ∀ b, H b ≠ none → b ∉ ch := fun b hb q => hb (hr b q).1.2.1
  have nfr : ∀ b, H b ≠ none → b ∉ frs X.stack := fun b hb q => hb (I.stkFree b q)
  refine Inv.call' (ch := ch) I rfl ⟨fun b o q _ hb hx => (st b o q hx).1 hb, fun b o q _ _ hx => (st b o q hx).2, fun _ _ _ q _ => q, fun b o q hx => ?_, fun _ _ q => q, fun _ _ _ q => q, fun b ps q => ⟨#[], by rw [Array.append_empty]; exact q⟩⟩
    (hok_ex I.hok fun b o q hb => (st b o q (nch b hb)).1 (nfr b hb)) I.bare fun b hb => ?_
  · obtain ⟨sl, z⟩ := (st b o q hx).2
    exact ⟨_, z⟩
  · obtain ⟨⟨h1, h2, h3⟩, o, vs, ho, hd⟩ := hr b hb
    refine ⟨.inr h1, fun q => ?_, fun x c hc q => ?_, fun p hp => ?_⟩
    · obtain ⟨m, ⟨o2, es, ep, ho2, hd2, _⟩, _⟩ := I.loc
      rw [← q, ho] at ho2
      cases ho2
      rw [hd] at hd2
      cases hd2
    · obtain ⟨v, o2, ho2, hd2⟩ := I.cell x c hc
      rw [q, ho] at ho2
      cases ho2
      rw [hd] at hd2
      cases hd2
    · rw [List.append_nil] at hp
      exact h3 p hp
end
def Fly (X : Cx) (E : St → XK) (ev : Value) (s : Shared) : Prop := ∃ e cls dx σ H L, ev = .ref e ∧ X.env.frame = some L ∧ Inv X [] σ H s ∧ Fr0 X H e ∧ ExcAt (HdOk (Fr0 X H) e L) s.heap e cls dx ∧ E σ cls dx H
abbrev CX1 (P : Program) (w : World) : CXT := fun outer H s E ev s' => ∃ e cls dx H', ev = .ref e ∧ s'.os = s.os ∧ AllBare s'.gens ∧ Un (frs outer) [] H H' s.heap s'.heap ∧ HOk P w H' s'.heap ∧
  (s.heap.objs.size ≤ e ∧ H' e = none) ∧ ExcAt (TbAt (fun b => s.heap.objs.size ≤ b ∧ H' b = none) e .none) s'.heap e cls dx ∧ E cls dx H'
section
variable {X : Cx} {pins : List (Addr × Obj)} {σ : St} {H : Hp} {s : Shared}
theorem Inv.nopins (I : Inv X pins σ H s) : Inv X [] σ H s := ⟨I.ok, I.os, I.bare, I.base, I.loc, I.cell, I.free, I.freeC, fun p hp => I.pin p (List.mem_append_left _ (by rwa [List.append_nil] at hp)), I.hok, I.len⟩
theorem Inv.pnlt (I : Inv X pins σ H s) {b : Addr} (h : s.heap.objs.size ≤ b) : ∀ p ∈ X.pn, p.1 ≠ b := fun p hp q => by
  have := Heap.lt_size (I.pin p (List.mem_append_left _ hp)).1
  exact absurd (Nat.lt_of_lt_of_le this h) (by rw [q]; exact Nat.lt_irrefl _)
theorem Inv.fr0 (I : Inv X pins σ H s) {b : Addr} (h : s.heap.objs.size ≤ b) : Fr0 X H b := ⟨Nat.le_trans I.sz h, I.hok.fresh h, I.pnlt h⟩
theorem fly_note {E : St → XK} {A : Around} {M : Model} {ev : Value} {N : Value → Shared → Prop} {Q : Unit → Shared → Prop} (hA : A.frames = some X.stack) (hst : X.stack = X.env :: X.outer) (h : Fly X E ev s)
    (q : ∀ h' e cls dx σ H L, ev = .ref e → X.env.frame = some L → Inv X [] σ H { s with heap := h' } → Fr0 X H e → ExcAt (TbAt (Fr0 X H) e (rawInt L)) h' e cls dx → E σ cls dx H → Q () { s with heap := h' }) :
    wpAny M A (noteFrame ev X.env) Q N s := by
  obtain ⟨e, cls, dx, σ, H, L, rfl, hL, I, he, hx, hE⟩ := h
  have hl := I.stack
  rw [hst] at hA hl
  refine note_any hA hl hL (fun b hb => I.fr0 hb) he hx fun h' ch hr hs st hx' => ?_
  exact q h' e cls dx σ H L rfl hL (I.exc hr (by rw [hst]; exact st)) he hx' hE
theorem fly_mark {A : Around} {M : Model} {N : Value → Shared → Prop} {Q : Unit → Shared → Prop} {e : Addr} {cls x : Value} {dx fr : Option Addr} (I : Inv X [] σ H s) (he : Fr0 X H e)
    (hx : ExcAt (TbAt (Fr0 X H) e x) s.heap e cls dx) (q : ∀ h', Inv X [] σ H { s with heap := h' } → ExcAt (TbAt (Fr0 X H) e (fr.elim .none fun f => rawInt f)) h' e cls dx → Q () { s with heap := h' }) :
    wpAny M A (setFlight (.ref e) fr) Q N s :=
  flight_any (S := frs X.stack) he hx fun h' _ hr _ st hx' => q h' (I.exc hr st) hx'
theorem fly_own {E : St → XK} {M : Model} (hst : X.stack = X.env :: X.outer) : PassesOwn M X.A X.env (Fly X E) := by
  intro ev s h
  have hA : X.A.frames = some X.stack := let ⟨_, _, _, _, _, _, _, _, I, _⟩ := h; I.ok.frames
  refine fly_note hA hst h fun h' e cls dx σ H L hev hL I he hx hE => ?_
  subst hev
  obtain ⟨oe, vs, hd, ho, hc, hdi, hdt, h1, T, oT, ts, rfl, r⟩ := id hx
  unfold cameBackBy
  refine wpAny_bind (wpAny_field (s := { s with heap := h' }) ho hdt h1 ?_)
  rw [if_neg (show ¬ ((Value.ref T == Value.none) = true) from by simp)]
  rw [hL]
  exact fly_mark (s := { s with heap := h' }) (fr := some L) I he hx fun h2 I2 hx2 => ⟨e, cls, dx, σ, H, L, rfl, hL, I2, he, hx2.mono fun hd t => .inr (.inr t), hE⟩
theorem PSs.wishTo {E' : Value → Shared → Prop} {st : List Stmt} {t : TS} (h : PSs (X.wish E') st t) (hE : ∀ e s, E' e s → X.xe e s) : PSs X st t := fun pins s σ H D I hw =>
  wpAny_mono (h pins s σ H D (I.wish _) hw) (fun _ _ q => q.unwish) hE
end
def tCallS (sp : Sp) (E : St → XK) (t : TA) : TE := fun σ H Q => t σ H fun vs H1 => sp vs H1 Q (E σ)
section
variable {X : Cx} {k : Nat} {f L : Addr} {fd : FuncData} {ps : List Str} {sp : Sp} {E : St → XK} {x : Str} {p pos : Pos} {e : Expr} {es : List Expr} {t : TA}
theorem run_fnX {pins : List (Addr × Obj)} {σ : St} {H : Hp} {s : Shared} {Q : VK} {us : List Value} {vs : List V} (hL : X.env.frame = some L) (F : FnOk X.prog X.w X.K X.mg X.base (CX1 X.prog X.w) k f fd ps sp) (hr : Room k X.A) (hb : Binds X.K fd ps [])
    (I : Inv (X.wish (Fly X E)) pins σ H s) (r : Vals vs us) (h : sp vs H Q (E σ)) : wpAny (model X.prog X.w) X.A (call (.ref f) us) (EP (X.wish (Fly X E)) pins σ Q) (Fly X E) s := by
  have hl : (us ++ []).length = ps.length := by rw [List.append_nil, ← r.length]; exact F.len _ _ _ _ h
  have hb0 := hb s us I.kIn hl
  rw [List.append_nil] at hb0
  refine wpAny_call (codeAny_mono (F.run X.A X.stack s H ⟨us, []⟩ us vs Q (E σ) hr I.env0 hb0 r h) fun r s' hq => ?_)
  cases r with
  | error ev =>
    have hq : CX1 X.prog X.w X.stack H s (E σ) ev s' := hq
    obtain ⟨e, cls, dx, H', rfl, os, bare, un, hok, ⟨h1, h2⟩, hx, hE⟩ := hq
    have I0 := I.unwish
    have I1 : Inv X pins σ H' s' := I0.call' (ch := []) os un hok bare fun b z => absurd z (by simp)
    exact ⟨e, cls, dx, σ, H', L, rfl, hL, I1.nopins, ⟨Nat.le_trans I0.sz h1, h2, I0.pnlt h1⟩, hx.mono fun hd t => .inr (.inl (t.mono fun b hb => ⟨Nat.le_trans I0.sz hb.1, hb.2, I0.pnlt hb.1⟩)), hE⟩
  | ok fl =>
    cases fl with
    | ret u => exact I.after hq
    | next => exact False.elim hq
    | brk => exact False.elim hq
    | cont => exact False.elim hq
theorem pe_callX (hL : X.env.frame = some L) (F : FnOk X.prog X.w X.K X.mg X.base (CX1 X.prog X.w) k f fd ps sp) (hr : Room k X.A) (hg : Gl X x) (hm : X.mg x = some (.ref f)) (hk : PySem.W.keepIn X.K (.ref f) = true) (hb : Binds X.K fd ps [])
    (ha : PA (X.wish (Fly X E)) (e :: es) t) (hdb : (x == ("__debug__" : Str)) = false := by decide) (he : starEach (e :: es) X.env = (false, eval e X.env) :: starEach es X.env := by rfl) (hpl : (backTo pos (starEach es X.env)).any (·.1) = false := by rfl) :
    PE (X.wish (Fly X E)) (.Call (.Name x p) (e :: es) [] pos) (tCallS sp E t) := by
  intro pins s σ H Q I h
  refine wpAny_Call_Name_kw (ld_glob I hg hm ?_ hdb)
  refine PySem.W.callWith_K (h₀ := X.base) I.ok.mod.kin hk (thn (ha pos pins s σ H _ I h) fun us s1 ⟨vs, H1, I1, r, q⟩ => ⟨I1.kIn, ?_⟩) he hpl
  exact run_fnX hL F hr hb I1 r q
end
section
variable {P : Program} {w : World} {K : PySem.W.Frag} {mg : Str → Option Value} {base : Heap}
abbrev cxF (P : Program) (w : World) (K : PySem.W.Frag) (mg : Str → Option Value) (base : Heap) (N : List Str) (qual : Str) (scope : Scope) (f : Addr) (cd : Value) (A : Around) (outer : List Env) (s : Shared) (H : Hp) (E : XK) : Cx :=
  (cxOf (CX1 P w) P w K mg base N qual scope f cd A outer s H E).wish (Fly (cxOf (CX1 P w) P w K mg base N qual scope f cd A outer s H E) fun _ => E)
theorem fly_leaves {N : List Str} {qual : Str} {scope : Scope} {f : Addr} {cd : Value} {A : Around} {outer : List Env} {s : Shared} {H : Hp} {E : XK} :
    ∀ ev s', Fly (cxOf (CX1 P w) P w K mg base N qual scope f cd A outer s H E) (fun _ => E) ev s' → (cxOf (CX1 P w) P w K mg base N qual scope f cd A outer s H E).xe ev s' := by
  intro ev s' h
  show wpAny (model P w) (A.deeper (envOfC qual scope s.heap.objs.size f cd)) (leaving (envOfC qual scope s.heap.objs.size f cd) ev) _ _ s'
  unfold leaving
  refine wpAny_bind (fly_note (X := cxOf (CX1 P w) P w K mg base N qual scope f cd A outer s H E) (let ⟨_, _, _, _, _, _, _, _, I, _⟩ := h; I.ok.frames) rfl h fun h' e cls dx σ H1 L hev hL I he hx hE => ?_)
  subst hev
  refine fly_mark (s := { s' with heap := h' }) (fr := none) I he hx fun h2 I2 hx2 => ?_
  exact ⟨e, cls, dx, H1, rfl, I2.os, I2.bare, I2.base, I2.hok, ⟨he.1, he.2.1⟩, hx2.mono fun hd t => t.mono fun b hb => ⟨hb.1, hb.2.1⟩, hE⟩
theorem Fun.okX {x qual : Str} {st : Stmt} {f : Addr} {fd : FuncData} {N ps : List Str} {k : Nat} {sp : Sp} (F : Fun K x qual st f fd) (S : FnScope N ps (defScope st)) (len : ∀ vs H Q E, sp vs H Q E → vs.length = ps.length)
    (hbody : ∀ (cdv : Value) (A : Around) (outer : List Env) (s : Shared) (H : Hp) (vs : List V) (Q : VK) (E : XK), Room k (A.deeper (envOfC qual (defScope st) s.heap.objs.size f cdv)) → sp vs H Q E →
      ∃ t, PSs (cxF P w K mg base N qual (defScope st) f cdv A outer s H E) (defBody st) t ∧ t { nx := fun _ H' => Q .non H', rt := Q } (start N vs) H) : FnOk P w K mg base (CX1 P w) (k + 1) f fd ps sp := by
  obtain ⟨oc, od, kV, doc, pm, an, cdv, ct, osl, rfl, lk, hcd⟩ := F.ex
  refine fn_of lk hcd S len fun A outer s H vs Q E hr hsp => ?_
  obtain ⟨t, h, q⟩ := hbody cdv A outer s H vs Q E hr hsp
  exact ⟨t, h.wishTo fly_leaves, q⟩
end
end L2
namespace L2
open PySem PySem.Spec PyProof.Rows PySem.W PySem.Calls
abbrev bmV : List Value := [.type "ValueError", .type "Exception", .type "BaseException", .type "object"]
section
variable {prog : Program} {w : World} {A : Around} {R : Result → Shared → Prop} {h : Heap} {g : Array GenState} {d : Drawn} {t : Nat} {os : OsState}
variable {nm q : Str} {C N : Addr} {bs bm : List Value} {hdct : Bool} {sn : List Str} {sub : List Value} {ab : Bool} {col : Option Bool} {dd : Option Addr} {k0 k1 k2 k3 k5 : Option Value}
abbrev excObj (C : Addr) (t : Addr) (dx : Option Addr) : Obj := { cls := .ref C, dict := dx, data := .fields #[.ref t, .none, .none, .none, .bool false, .none] }
theorem exc_type_call {E : Value → Shared → Prop} {f : Addr} {mN : Str → Option Value} {rest : List Value} {Q : Fin → Shared → Prop} (T : OwnTail h bmV bm) (hC : h.get? C = some (excClassObj nm q C N bs bm hdct sn sub ab col dd k0 k1 k2 k3 k5 "ValueError.__new__")) (hn : h.Ns N mN)
    (hni : mN "__init__" = some (.ref f)) (hb : ∀ self, Looks (model prog w) h (bindSpecial (.ref f) self) (.ref f, [self])) (hrest : rest.length ≤ sizeLine)
    (hq : codeAny (model prog w) A (.call (.ref f) ⟨.ref (h.objs.size + 1) :: rest, []⟩) (fun r s' => match r with | .ok (.ret v) => v = .none ∧ Q (.done (.ret (.ref (h.objs.size + 1)))) s' | .ok _ => False | .error x => E x s')
      ⟨(h.push { cls := .type "tuple", data := .seq rest.toArray }).push (excObj C h.objs.size none), g, d, t, os⟩) :
    wpAny (model prog w) A (Builtin.«type.__call__» ⟨.ref C :: rest, []⟩) Q E ⟨h, g, d, t, os⟩ := by
  have F := PySem.F.excBase_ValueError
  have hBn : bmV.contains (.type "ValueError") = true := by decide
  repeat (first | with_reducible refine wpAny_loadPart_at hC ?_ | with_reducible refine wpAny_madeBy_exc hC ?_ | wp_step)
  refine codeAny_call_builtin_code (Code.quiet_builtin _ F.quiet) (wpAny_check_new_subU F hBn T hC ?_)
  refine codeAny_exc_new_subU F hBn F T hC ?_ hrest
  show wpAny _ _ _ _ _ _
  have hC₁ := Heap.get?_push_of_some { cls := .ref C, data := .fields #[.ref h.objs.size, .none, .none, .none, .bool false, .none] }
    (Heap.get?_push_of_some { cls := .type "tuple", data := .seq rest.toArray } hC)
  have hn₁ : ((h.push { cls := .type "tuple", data := .seq rest.toArray }).push { cls := .ref C, data := .fields #[.ref h.objs.size, .none, .none, .none, .bool false, .none] }).Ns N mN :=
    let ⟨o, es, ep, e, r⟩ := hn; ⟨o, es, ep, Heap.get?_push_of_some _ (Heap.get?_push_of_some _ e), r⟩
  have hget : ((h.push { cls := .type "tuple", data := .seq rest.toArray }).push
      { cls := .ref C, data := .fields #[.ref h.objs.size, .none, .none, .none, .bool false, .none] }).get? (h.objs.size + 1) = some
      { cls := .ref C, data := .fields #[.ref h.objs.size, .none, .none, .none, .bool false, .none] } := by heap_get
  have hcC : (Value.ref C :: bm).contains (.ref C) = true := by simp
  have T₁ := T.keeps (h' := (h.push { cls := .type "tuple", data := .seq rest.toArray }).push { cls := .ref C, data := .fields #[.ref h.objs.size, .none, .none, .none, .bool false, .none] })
    fun b o e => Heap.get?_push_of_some _ (Heap.get?_push_of_some _ e)
  have b1 := (hb (.ref (h.objs.size + 1))).keeps (h' := (h.push { cls := .type "tuple", data := .seq rest.toArray }).push { cls := .ref C, data := .fields #[.ref h.objs.size, .none, .none, .none, .bool false, .none] })
    fun b o e => Heap.get?_push_of_some _ (Heap.get?_push_of_some _ e)
  unfold isInstance
  repeat (first | with_reducible refine wpAny_loadPart_at hget ?_ | (with_reducible refine wpAny_isSubtype_exc hC₁ ?_; rw [hcC]) | wp_step)
  show wpAny _ _ (typeLookup (.ref C) _) _ _ _
  refine wpAny_typeLookup_tail hC₁ hn₁ T₁ F.mroIs F.init.lookup ?_
  rw [hni]
  refine wpAny_holding (wpAny_bind (b1.here ?_))
  refine wpAny_bind (wpAny_call ?_)
  refine codeAny_mono hq fun r s' z => ?_
  rcases r with e | (v | _ | _ | _) <;> first | exact z | exact z.elim | skip
  obtain ⟨rfl, z⟩ := z
  exact wpAny_pure (wpAny_pure z)
theorem exc_core {f : Addr} {mN : Str → Option Value} {rest : List Value} (T : OwnTail h bmV bm) (hC : h.get? C = some (excClassObj nm q C N bs bm hdct sn sub ab col dd k0 k1 k2 k3 k5 "ValueError.__new__")) (hn : h.Ns N mN)
    (hni : mN "__init__" = some (.ref f)) (hb : ∀ self, Looks (model prog w) h (bindSpecial (.ref f) self) (.ref f, [self])) (hrest : rest.length ≤ sizeLine)
    (hq : codeAny (model prog w) (A.under (.builtin "type.__call__" ⟨.ref C :: rest, []⟩)) (.call (.ref f) ⟨.ref (h.objs.size + 1) :: rest, []⟩) (InitBack (h.objs.size + 1) R)
      ⟨(h.push { cls := .type "tuple", data := .seq rest.toArray }).push (excObj C h.objs.size none), g, d, t, os⟩) :
    codeAny (model prog w) A (.call (.ref C) ⟨rest, []⟩) R ⟨h, g, d, t, os⟩ := by
  have f1 := tc_lookup
  have f2 := PySem.tc_bind (.ref C)
  have hT : (⟨h, g, d, t, os⟩ : Shared).TypeIs (.ref C) "type" := ⟨_, hC, rfl⟩
  refine codeAny_of_tree ?_
  show wpAny _ _ (callAny (.ref C) _) _ _ _
  repeat (any_goals (first | assumption | with_reducible refine wpAny_loadPart_at hC ?_ | wp_step))
  refine ⟨rfl, ?_⟩
  refine codeAny_call_builtin_at (Code.quiet_builtin _ (by decide +kernel)) entry_typeCall (wpAny_check_type_call_sub hC ?_)
  exact exc_type_call T hC hn hni hb hrest (codeAny_mono hq fun r s' z => by
    rcases r with e | (v | _ | _ | _) <;> first | exact z | exact z.elim)
end
theorem ns_some_of {K : PySem.W.Frag} {h : Heap} {N : Addr} {mg : Str → Option Value} {n : Str} {v : Value} (X : K.In h) (G : h.Ns N mg) (e : nsIn K N n = some (some v)) : mg n = some v := by
  obtain ⟨o, es, ep, ho, hd, _, hf⟩ := G
  unfold nsIn at e
  split at e
  · rename_i c d es' n' sl q
    have := X _ _ q
    rw [ho] at this
    cases this
    cases hd
    split at e
    · rename_i en he
      cases e
      rw [← hf]
      unfold nsFind findBy
      rw [← Array.find?_toList, he]
      rfl
    · split at e <;> cases e
  · cases e
def xclsIn (K : PySem.W.Frag) (C : Addr) (init : Option Addr) : Bool := match K.lookup C with
  | some ⟨.type "type", _, .cls cd, sl⟩ => (match cd.mro, sl.toList with
    | .ref C' :: bm, [_, _, _, _, some (.builtin n), _] => C' == C && n == "ValueError.__new__" && !cd.hasDel && tailIn K bmV bm && nsOkIn K cd.ns && nsIn K cd.ns "__init__" == some (init.map Value.ref)
    | _, _ => false)
  | _ => false
theorem xcls_of {K : PySem.W.Frag} {h : Heap} {C : Addr} {init : Option Addr} (X : K.In h) (q : xclsIn K C init = true) :
    ∃ bm N nm qn bs hd sn sub ab col dd k0 k1 k2 k3 k5 mN, h.get? C = some (excClassObj nm qn C N bs bm hd sn sub ab col dd k0 k1 k2 k3 k5 "ValueError.__new__") ∧ h.Ns N mN ∧ mN "__init__" = init.map Value.ref ∧ OwnTail h bmV bm := by
  unfold xclsIn at q
  split at q
  · rename_i dd cd sl ho
    split at q
    · rename_i C' bm k0 k1 k2 k3 n k5 hm hs
      simp only [Bool.and_eq_true, beq_iff_eq, Bool.not_eq_true'] at q
      obtain ⟨⟨⟨⟨⟨rfl, rfl⟩, hdel⟩, ht⟩, hok⟩, hni⟩ := q
      obtain ⟨nm, bs, mro, ns, qn, hd, sn, sub, ab, col, del⟩ := cd
      dsimp only at hm hdel hok hni
      subst hm hdel
      have hsl : sl = #[k0, k1, k2, k3, some (.builtin "ValueError.__new__"), k5] := by
        obtain ⟨l⟩ := sl
        simp only at hs
        rw [hs]
      subst hsl
      have G : h.Ns ns (h.nsMap ns) := .of_isNs (isNs_of_in X hok)
      refine ⟨bm, ns, nm, qn, bs, hd, sn, sub, ab, col, dd, k0, k1, k2, k3, k5, _, X _ _ ho, G, ?_, tail_of_in X ht⟩
      cases init with
      | none => exact ns_none_of X G hni
      | some f => exact ns_some_of X G hni
    · cases q
  · cases q
theorem xcls_same {K : PySem.W.Frag} {h h' : Heap} {C : Addr} {init : Option Addr} (X : K.In h) (X' : K.In h') (q : xclsIn K C init = true) : h'.get? C = h.get? C := by
  unfold xclsIn at q
  split at q
  · rename_i ho
    rw [X _ _ ho, X' _ _ ho]
  · cases q
abbrev XO (e C : Addr) (dx : Option Addr) : HO := .ext fun h => ∃ t, h.get? e = some (excObj C t dx)
structure MkX (K : PySem.W.Frag) (C f : Addr) : Prop where
  cls : xclsIn K C (some f) = true
  fn : PySem.W.isFn K (.ref f) = true
  kp : PySem.W.keepIn K (.ref C) = true
def tExc (C : Addr) (sp : Sp) (t : TA) : TE := fun σ H Q => t σ H fun vs H1 => vs.length ≤ 10 ∧ ∀ e, H1 e = none → sp (.ref e :: vs) (upd H1 e (XO e C none)) (fun v H2 => v = .non ∧ Q (.ref e) H2) E0
section
variable {X : Cx} {CX : CXT} {k : Nat} {f C : Addr} {fd : FuncData} {ps : List Str} {sp : Sp} {x m : Str} {p pos apos : Pos} {e o : Expr} {es : List Expr} {ta : TE} {t : TA} {pins : List (Addr × Obj)} {σ : St} {H : Hp} {s : Shared}
theorem Inv.exmade {vs : List Value} (I : Inv X pins σ H s) : Inv X pins σ (upd H (s.heap.objs.size + 1) (XO (s.heap.objs.size + 1) C none))
    { s with heap := (s.heap.push { cls := .type "tuple", data := .seq vs.toArray }).push (excObj C s.heap.objs.size none) } := by
  have e2 : ((s.heap.push { cls := .type "tuple", data := .seq vs.toArray }).push (excObj C s.heap.objs.size none)).get? (s.heap.objs.size + 1) = some (excObj C s.heap.objs.size none) := by
    have := Heap.get?_push_size (s.heap.push { cls := .type "tuple", data := .seq vs.toArray }) (o := excObj C s.heap.objs.size none) rfl
    rwa [Heap.size_push] at this
  refine I.laid (t' := s.toks) (fun b u q => Heap.get?_push_of_some _ (Heap.get?_push_of_some _ q)) (Nat.le_succ _) ⟨⟨_, e2⟩, ⟨_, e2⟩, ?_⟩
  rintro h1 h2 ⟨t, e⟩ k
  exact ⟨t, k _ e⟩
theorem run_excAt {Q : VK} {us : List Value} {vs : List V} (M : MkX X.K C f) (F : FnOk X.prog X.w X.K X.mg X.base CX0 k f fd ps sp) (hr : Room (k + 1) X.A) (hb : Binds X.K fd ps []) (I : Inv X pins σ H s) (r : Vals vs us) (hlen : vs.length ≤ 10)
    (hq : sp (.ref (s.heap.objs.size + 1) :: vs) (upd H (s.heap.objs.size + 1) (XO (s.heap.objs.size + 1) C none)) (fun v H2 => v = .non ∧ Q (.ref (s.heap.objs.size + 1)) H2) E0) :
    wpAny (model X.prog X.w) X.A (call (.ref C) us) (EP X pins σ Q) X.xe s := by
  have I2 := Inv.exmade (C := C) (vs := us) I
  have r2 : Vals (V.ref (s.heap.objs.size + 1) :: vs) (Value.ref (s.heap.objs.size + 1) :: us) := .cons rfl r
  have hl : (Value.ref (s.heap.objs.size + 1) :: us ++ []).length = ps.length := by
    have e := r2.length
    rw [F.len _ _ _ _ hq] at e
    rw [List.append_nil]
    exact e.symm
  obtain ⟨bm, N, nm, qn, bs, hd, sn, sub, ab, col, dd, k0, k1, k2, k3, k5, mN, hC, hn, hni, T⟩ := xcls_of I.kIn M.cls
  have hus : us.length ≤ sizeLine := smallL (by have := r.length; omega)
  have hb0 := hb { s with heap := (s.heap.push { cls := .type "tuple", data := .seq us.toArray }).push (excObj C s.heap.objs.size none) } (Value.ref (s.heap.objs.size + 1) :: us) I2.kIn hl
  rw [List.append_nil] at hb0
  obtain ⟨hp, g, d, tk, os⟩ := s
  refine wpAny_call (exc_core T hC hn hni (fun self => bind_fn I.kIn self (beq_iff_eq.mp M.fn)) hus (codeAny_mono (F.run _ X.stack _ _ ⟨Value.ref (hp.objs.size + 1) :: us, []⟩ (Value.ref (hp.objs.size + 1) :: us) _ _ E0 (hr.make C us [])
    (I2.env0.make C us []) hb0 r2 hq) fun r s' hq' => ?_))
  cases r with
  | error e => exact False.elim hq'
  | ok fl =>
    cases fl with
    | ret u =>
      obtain ⟨v, H', I3, rv, ev, q3⟩ := I2.after hq'
      subst ev
      exact ⟨rv, ⟨V.ref (hp.objs.size + 1), H', I3, rfl, q3⟩⟩
    | next => exact False.elim hq'
    | brk => exact False.elim hq'
    | cont => exact False.elim hq'
end
end L2
namespace L2
open PySem PySem.Spec PyProof.Rows PySem.W PySem.Calls Builtin Builtin.ObjectAttr
theorem get_push_lt {h : Heap} {o : Obj} {b : Addr} (hb : b < h.objs.size) : (h.push o).get? b = h.get? b := by
  have e : (h.push o).objs[b]? = h.objs[b]? := by
    cases h
    simp [Heap.push, Array.getElem?_push]
    intro q
    exact absurd q (Nat.ne_of_lt hb)
  unfold Heap.get?
  rw [e]
def xTail : List Value → Bool
  | [] => false
  | .ref c :: r => xTail r
  | v :: r => (v :: r) == bmV
theorem refuse_x (self : Value) : ∀ {l : List Value}, xTail l = true → refuseLoop self "__setattr__" l = pure () ∧ l.contains (.type "object") = true
  | [], e => by cases e
  | v :: r, e => by
    cases v with
    | ref c =>
      have ih := refuse_x self (l := r) e
      rw [refuseLoop_ref, List.contains_cons, ih.2]
      exact ⟨ih.1, Bool.or_true _⟩
    | _ =>
      have e2 := beq_iff_eq.mp (show ((_ :: r) == bmV) = true from e)
      rw [e2]
      exact ⟨PySem.F.store_ValueError.passes self, by decide⟩
section
variable {prog : Program} {w : World} {A : Around} {K : PySem.W.Frag} {C x : Addr} {s : Shared} {R : Result → Shared → Prop}
theorem osx_open {ox : Obj} {od : Option Obj} {name : Str} {tk : Tok} {v : Value} {cd : ClassData} (X : K.In s.heap) (I : PySem.W.InstAt s.heap x ox C od) (hc : clsIn K C = some cd) (ho : xTail cd.mro = true) (ha : findIn K (.ref C) name = some none)
    (h : wpAny (model prog w) A.in1 (storeInOwnDict (.ref x) (.ref C) (.str name tk) name v false)
      (fun fin s' => match fin with | .done f => R (.ok f) s' | .again c' => c'.quiet = true ∧ codeAny (model prog w) A c' R s') (fun e s' => R (.error e) s') s) :
    codeAny (model prog w) A (.call (.builtin "object.__setattr__") ⟨[.ref x, .str name tk, v], []⟩) R s := by
  have SF := PySem.F.store_object
  have ne : cd.mro.isEmpty = false := by cases q : cd.mro with | nil => rw [q] at ho; cases ho | cons _ _ => rfl
  have sub : Looks (model prog w) s.heap (isInstance (.ref x) (.type "object")) true := I.type.andThen (looks_mroIn X (by unfold mroIn; rw [hc, Option.bind_some, if_neg (by rw [ne]; decide), (refuse_x (.ref x) ho).2]))
  refine codeAny_call_builtin SF.slot.plain SF.entry (@check_slot (model prog w) _ _ s "object.__setattr__" "object" "__setattr__" (.ref x) [.str name tk, v] [] _ SF.kind SF.split sub (SF.args (.ref x) (.str name tk) v) ?_)
  have hm : Looks (model prog w) s.heap (mroOf (.ref C)) cd.mro := (looks_clsIn X hc).andThen .now
  rw [osa_eq, refuse_eq]
  refine wpAny_bind (wpAny_bind (I.type.here (wpAny_bind (hm.here ?_))))
  rw [(refuse_x (.ref x) ho).1]
  refine wpAny_pure (wpAny_bind (I.type.here (wpAny_bind ((looks_findIn X ha).here (wpAny_bind ?_)))))
  exact wpAny_pure h
structure XF (K : PySem.W.Frag) (C : Addr) (f : Str) : Prop where
  cd : ∃ cd, clsIn K C = some cd ∧ xTail cd.mro = true ∧ cd.hasDict = true
  sa : findIn K (.ref C) "__setattr__" = some (some (.builtin "object.__setattr__"))
  no : findIn K (.ref C) f = some none
theorem set_exc {E : Value → Shared → Prop} {t : Addr} {name : Str} {v : Value} {Q : Unit → Shared → Prop} (X : K.In s.heap) (hx : s.heap.get? x = some (excObj C t none)) (F : XF K C name)
    (h : ∀ h' k, s.heap.objs.size ≤ h'.objs.size → (∀ b o, b ≠ x → s.heap.get? b = some o → h'.get? b = some o) → h'.get? x = some (excObj C t (some s.heap.objs.size)) → h'.Ns1 s.heap.objs.size (fun y => if y = name then some v else none) → Q () { s with heap := h', toks := k }) :
    wpAny (model prog w) A (setAttr (.ref x) name v) Q E s := by
  obtain ⟨⟨cd, hc, ht, hd⟩, hsa, hno⟩ := F
  have J : PySem.W.InstAt s.heap x (excObj C t none) C none := ⟨hx, rfl, rfl, True.intro⟩
  refine set_plain X J hsa (osx_open (s := { s with toks := s.toks + 1 }) X J hc ht hno ?_)
  have hxd : x ≠ s.heap.objs.size := Nat.ne_of_lt (Heap.lt_size hx)
  refine wpAny_bind (wpAny_pure (wpAny_bind (wpAny_bind (wpAny_loadPart (s := { s with toks := s.toks + 1 }) hx (wpAny_bind (PySem.W.Looks.here (s := { s with toks := s.toks + 1 }) (looks_clsIn X hc) ?_))))))
  rw [hd]
  show wpAny _ _ (do
    let d ← alloc { cls := Value.type "dict", data := Data.dict #[] }
    update x fun o => { o with dict := some d }
    dictMade (.ref C) x d) _ _ _
  refine wpAny_bind (wpAny_alloc (wpAny_bind ?_))
  have hx1 := Heap.get?_push_of_some (h := s.heap) emptyDict hx
  refine wpAny_update (o := excObj C t none) (s := { s with heap := s.heap.push emptyDict, toks := s.toks + 1 }) hx1 ?_
  show wpAny _ _ (pure (some s.heap.objs.size)) _ _ _
  refine wpAny_pure ?_
  have e1 : (s.heap.push emptyDict).get? s.heap.objs.size = some emptyDict := Heap.get?_push_size s.heap rfl
  have e2 : ((s.heap.push emptyDict).update x fun o => { o with dict := some s.heap.objs.size }).get? s.heap.objs.size = some emptyDict := (Heap.get?_update_other _ _ hxd).trans e1
  have e3 : ((s.heap.push emptyDict).update x fun o => { o with dict := some s.heap.objs.size }).get? x = some (excObj C t (some s.heap.objs.size)) := Heap.get?_update_self _ hx1 rfl
  have n1 : ((s.heap.push emptyDict).update x fun o => { o with dict := some s.heap.objs.size }).Ns1 s.heap.objs.size (fun _ => none) := Heap.Ns1.of_empty ⟨emptyDict, #[], _, e2, rfl, (fun e he => absurd he (by simp)), fun _ => rfl⟩
  have k1 : ∀ b o, b ≠ x → s.heap.get? b = some o → ((s.heap.push emptyDict).update x fun o => { o with dict := some s.heap.objs.size }).get? b = some o := fun b o hb q => (Heap.get?_update_other _ _ (Ne.symm hb)).trans (Heap.get?_push_of_some _ q)
  have z1 : ((s.heap.push emptyDict).update x fun o => { o with dict := some s.heap.objs.size }).objs.size = s.heap.objs.size + 1 := by rw [Heap.size_after_update, Heap.size_push]
  generalize ((s.heap.push emptyDict).update x fun o => { o with dict := some s.heap.objs.size }) = h1 at e2 e3 n1 k1 z1 ⊢
  refine wpAny_bind (wpAny_pure (wpAny_bind ?_))
  refine wpAny_nsSet1 (s := { s with heap := h1, toks := s.toks + 1 }) n1 fun h' hn2 hs2 => ?_
  obtain ⟨oD, esD, epD, hoD, hdD, hcD⟩ := hn2.count (PySem.Within.cons (ns := []) name v (fun y hy => absurd rfl hy))
  refine wpAny_bind (wpAny_lookBehind hoD (by rw [hdD]; exact pastItsLine_dict (Nat.le_trans hcD (Nat.le_trans (smallL (show 1 ≤ 100000 by decide)) (Nat.le_succ _)))) ?_)
  refine wpAny_pure (h h' _ ?_ (fun b o hb q => ?_) ?_ hn2)
  · rw [hs2.1]
    show s.heap.objs.size ≤ h1.objs.size
    omega
  · have hbd : b ≠ s.heap.objs.size := Nat.ne_of_lt (Heap.lt_size q)
    exact (hs2.2 b hbd).trans (k1 b o hb q)
  · exact (hs2.2 x hxd).trans e3
end
section
variable {X : Cx} {pins : List (Addr × Obj)} {σ : St} {H : Hp} {s : Shared}
theorem Inv.exset {e C t : Addr} {y : V} {u : Value} {f : Str} {h' : Heap} {k : Nat} (I : Inv X pins σ H s) (he : H e = some (XO e C none)) (ry : RelV y u)
    (k1 : ∀ b o, b ≠ e → s.heap.get? b = some o → h'.get? b = some o) (e3 : h'.get? e = some (excObj C t (some s.heap.objs.size))) (n1 : h'.Ns1 s.heap.objs.size (fun z => if z = f then some u else none)) :
    Inv X pins σ (upd (upd H s.heap.objs.size (.xd [(f, y)])) e (XO e C (some s.heap.objs.size))) { s with heap := h', toks := k } := by
  obtain ⟨oD, es, ep, hoD, r⟩ := id n1
  have hfr : oD.isFreed = false := (Heap.get?_some_iff.mp hoD).2
  have g1 : (s.heap.push oD).get? s.heap.objs.size = some oD := Heap.get?_push_size s.heap hfr
  have hed : e ≠ s.heap.objs.size := Nat.ne_of_lt (I.hok.lt he)
  have I1 := I.laid (a := s.heap.objs.size) (o := .xd [(f, y)]) (h' := s.heap.push oD) (t' := s.toks) (fun b u q => Heap.get?_push_of_some _ q) (Nat.le_refl _) ⟨_, ⟨oD, es, ep, g1, r⟩, fun g => by
    show RelO (List.lookup g [(f, y)]) (if g = f then some u else none)
    by_cases q : g = f
    · rw [if_pos q, q]
      simp
      exact ry
    · rw [if_neg q]
      have : List.lookup g [(f, y)] = none := by simp [q]
      rw [this]
      exact True.intro⟩
  refine I1.write (x := e) (e := e) (h' := h') (o := XO e C (some s.heap.objs.size)) (t' := k) (by rw [upd_ne hed, he]; exact True.intro) (.inl rfl) (fun b v hb q => ?_) ⟨_, e3⟩ ⟨⟨_, e3⟩, ⟨_, e3⟩, ?_⟩
  · by_cases hbd : b = s.heap.objs.size
    · subst hbd
      rw [g1] at q
      cases q
      exact hoD
    · refine k1 b v hb ?_
      have hlt := Heap.lt_size q
      rw [Heap.size_push] at hlt
      have hlt2 : b < s.heap.objs.size := Nat.lt_of_le_of_ne (Nat.lt_succ_iff.mp hlt) hbd
      rwa [get_push_lt hlt2] at q
  · rintro h1 h2 ⟨t, q⟩ kk
    exact ⟨t, kk _ q⟩
def sXF (K : PySem.W.Frag) (ta tv : TE) (f : Str) : TS := fun D σ H => tv σ H fun y H1 => ta σ H1 fun x H2 => ∃ e C, x = .ref e ∧ H2 e = some (XO e C none) ∧ XF K C f ∧ ∀ dx, H2 dx = none → D.nx σ (upd (upd H2 dx (.xd [(f, y)])) e (XO e C (some dx)))
theorem ps_xfld {o value : Expr} {f : Str} {pos pos' : Pos} {ta tv : TE} (ha : PE X o ta) (hv : PE X value tv) (hs : swapsWith value (some (.Attribute o f pos')) pos.line X.env = pure false) : PS X (.Assign [.Attribute o f pos'] value pos) (sXF X.K ta tv f) := by
  intro pins s σ H D I h
  refine plainObj_wpAny_Assign_Attribute (thn (hv pins s σ H _ I h) fun u s1 ⟨y, H1, I1, ry, q⟩ => thn (ha pins s1 σ H1 _ I1 q) fun ov s2 ⟨x, H2, I2, rx, e, C, ex, ea, F, q2⟩ => ?_) hs
  subst ex
  obtain rfl : ov = Value.ref e := rx
  obtain ⟨⟨t, he⟩, _⟩ := I2.hok e _ ea
  refine set_exc I2.kIn he F fun h' k _ k1 e3 n1 => ?_
  exact ⟨σ, _, I2.exset ea ry k1 e3 n1, q2 _ I2.fresh⟩
end
end L2
namespace L2
open PySem PySem.Spec PyProof.Rows PySem.W PySem.Calls
structure BI (K : PySem.W.Frag) (CB : Addr) : Prop where
  reads : readsIn K CB (.type "type") = true
  find : findCls K (.ref CB) (.type "type") "__init__" = some (.val (.builtin "ValueError.__init__"))
  ga : specialIn K (.ref CB) "__getattribute__" = some (some (.builtin "type.__getattribute__"))
section
variable {X : Cx} {pins : List (Addr × Obj)} {σ : St} {H : Hp} {s : Shared}
theorem run_binit {e C : Addr} {dx init : Option Addr} {u : Value} {Q : VK} (I : Inv X pins σ H s) (he : H e = some (XO e C dx)) (hC : xclsIn X.K C init = true) (q : Q .non H) :
    wpAny (model X.prog X.w) X.A (call (.builtin "ValueError.__init__") [.ref e, u]) (EP X pins σ Q) X.xe s := by
  obtain ⟨⟨t0, hx⟩, _⟩ := I.hok e _ he
  obtain ⟨bm, N, nm, qn, bs, hd, sn, sub, ab, col, dd, k0, k1, k2, k3, k5, mN, hC, hn, hni, T⟩ := xcls_of I.kIn hC
  have F := PySem.F.excBase_ValueError
  obtain ⟨hp, g, d, tk, os⟩ := s
  refine wpAny_call (codeAny_call_builtin F.init.plain F.initEntry (wpAny_check_init_subU F T hC hx rfl ?_))
  wp_walk
  have hx : hp.get? e = some (excObj C t0 dx) := hx
  have I1 := I.kept (h' := hp.push { cls := Value.type "tuple", data := Data.seq #[u] }) (t' := tk) (fun b u q => Heap.get?_push_of_some _ q)
  have g2 : ((hp.push { cls := Value.type "tuple", data := Data.seq #[u] }).update e (Obj.mapFields fun x => x.setIfInBounds 0 (Value.ref hp.objs.size))).get? e = some (excObj C hp.objs.size dx) :=
    Heap.get?_update_self _ (Heap.get?_push_of_some _ hx) rfl
  have I2 := I1.write (x := e) (e := e) (o := XO e C dx) (h' := (hp.push { cls := Value.type "tuple", data := Data.seq #[u] }).update e (Obj.mapFields fun x => x.setIfInBounds 0 (Value.ref hp.objs.size))) (t' := tk)
    (by rw [he]; exact True.intro) (.inl rfl) (fun b v hb q => (Heap.get?_update_other _ _ (Ne.symm hb)).trans q) ⟨_, g2⟩ ⟨⟨_, g2⟩, ⟨_, g2⟩, fun h1 h2 ⟨t, z⟩ kk => ⟨t, kk _ z⟩⟩
  have eH : upd H e (XO e C dx) = H := by
    funext b
    by_cases hb : b = e
    · subst hb
      rw [upd_same, he]
    · rw [upd_ne hb]
  rw [eH] at I2
  exact ⟨.non, H, I2, rfl, q⟩
def tBI (K : PySem.W.Frag) (t : TA) : TE := fun σ H Q => t σ H fun vs H1 => ∃ e C dx init x, vs = [.ref e, .str x] ∧ H1 e = some (XO e C dx) ∧ xclsIn K C init = true ∧ Q .non H1
theorem pe_binit {CB : Addr} {x : Str} {np apos pos : Pos} {e : Expr} {es : List Expr} {t : TA} {pl : Sem Bool} (F : BI X.K CB) (hg : Gl X x) (hm : X.mg x = some (.ref CB)) (ha : PA X (e :: es) t) (hdb : (x == ("__debug__" : Str)) = false := by decide)
    (hst : starEach (e :: es) X.env = (false, eval e X.env) :: starEach es X.env := by rfl) (hpl : (backTo pos (starEach es X.env)).any (·.1) = false := by rfl)
    (ht : eval (.Call (.Attribute (.Name x np) "__init__" apos) (e :: es) [] pos) X.env = (do
      let ov ← eval (.Name x np) X.env
      standAt apos.atName
      let (f, first) ← holding [ov] (getMethod ov "__init__" pl)
      callWith pos f first (backTo pos (starEach (e :: es) X.env)) (backToKw pos (keywordEach [] X.env))) := by rfl) :
    PE X (.Call (.Attribute (.Name x np) "__init__" apos) (e :: es) [] pos) (tBI X.K t) := by
  intro pins s σ H Q I h
  refine PySem.W.methodCall_KW (pl := pl) (ld_glob I hg hm ?_ hdb) ht
  refine method_cls I.kIn F.ga (cls_value I.kIn F.reads F.find rfl ?_)
  have hA := ha pos pins { s with toks := s.toks + 1 } σ H _ (I.tok _) h
  rw [hst] at hA ⊢
  refine Calls.callWith_builtin (by show (false || (backTo pos (starEach es X.env)).any (·.1)) = false; rw [hpl] <;> rfl) (Calls.evalArgs_plain ?_)
  refine thn hA fun us s2 ⟨vs, H2, I2, r2, ex, C, dx, init, z, evs, he, hC, q⟩ => ?_
  subst evs
  cases r2 with
  | cons r1 r2 =>
    cases r2 with
    | cons r2 r3 =>
      cases r3
      obtain rfl := (show _ = Value.ref ex from r1)
      exact run_binit I2 he hC q
def tFmt (tv : TE) : TE := fun σ H Q => tv σ H fun v H1 => ∃ i : Int, v = .int i ∧ i.natAbs ≤ 1000000000 ∧ ∀ x : Str, x.length ≤ 2000 → Q (.str x) H1
theorem log_small {n : Nat} (h : n ≤ 1000000000) : n.log2 < 1920 := by
  by_cases h0 : n = 0
  · subst h0
    decide
  · have h1 : n < 2 ^ 30 := Nat.lt_of_le_of_lt h (by decide)
    exact Nat.lt_trans ((Nat.log2_lt h0).mpr h1) (by decide)
theorem pe_fmt {value : Expr} {pos : Pos} {tv : TE} (hv : PE X value tv) : PE X (.FormattedValue value (-1) none pos) (tFmt tv) := by
  intro pins s σ H Q I h
  refine wpAny_FormattedValue_plain (thn (hv pins s σ H _ I h) fun v s1 ⟨y, H1, I1, ry, i, ey, hi, q⟩ => ?_)
  subst ey
  obtain ⟨t, rfl⟩ := ry
  have hl : (Str.ofString (toString i)).length ≤ 2000 := by
    have e := int_text_length_le (k := 1920) (by decide) (log_small hi)
    rw [PySem.ofString_length]
    omega
  exact wpAny_formatField_int (log_small hi) ⟨.str _, H1, I1.tok _, ⟨_, rfl⟩, q _ hl⟩
def tJ2 (t1 t2 : TE) : TE := fun σ H Q => t1 σ H fun a H1 => ∃ x1 : Str, a = .str x1 ∧ x1.length ≤ 2000 ∧ t2 σ H1 fun b H2 => ∃ x2 : Str, b = .str x2 ∧ x2.length ≤ 2000 ∧ ∀ x, Q (.str x) H2
theorem pe_j2 {v1 v2 : Expr} {pos : Pos} {t1 t2 : TE} (h1 : PE X v1 t1) (h2 : PE X v2 t2) : PE X (.JoinedStr [v1, v2] pos) (tJ2 t1 t2) := by
  intro pins s σ H Q I h
  refine wpAny_JoinedStr ?_
  show wpAny _ _ (eval v1 X.env) _ _ _
  refine thn (h1 pins s σ H _ I h) fun a s1 ⟨y1, H1, I1, r1, x1, e1, l1, q1⟩ => ?_
  subst e1
  obtain ⟨t1', rfl⟩ := r1
  have z0 : (Str.empty ++ x1).length = x1.length := by rw [Str.length_append]; show 0 + _ = _; omega
  refine ⟨x1, t1', rfl, by rw [z0]; exact smallL (by omega), ?_⟩
  show wpAny _ _ (eval v2 X.env) _ _ _
  refine thn (h2 pins s1 σ H1 _ I1 q1) fun b s2 ⟨y2, H2, I2, r2, x2, e2, l2, q2⟩ => ?_
  subst e2
  obtain ⟨t2', rfl⟩ := r2
  have z1 : (Str.empty ++ x1 ++ x2).length ≤ sizeLine := by rw [Str.length_append, z0]; exact smallL (by omega)
  exact ⟨x2, t2', rfl, z1, z1, .str _, H2, I2.tok _, ⟨_, rfl⟩, q2 _⟩
def tJ3 (t1 t2 t3 : TE) : TE := fun σ H Q => t1 σ H fun a H1 => ∃ x1 : Str, a = .str x1 ∧ x1.length ≤ 2000 ∧ t2 σ H1 fun b H2 => ∃ x2 : Str, b = .str x2 ∧ x2.length ≤ 2000 ∧ t3 σ H2 fun c H3 => ∃ x3 : Str, c = .str x3 ∧ x3.length ≤ 2000 ∧ ∀ x, Q (.str x) H3
end
end L2
namespace L2
open PySem PySem.Spec PyProof.Rows PySem.W PySem.Calls
def unt (H : Hp) (e : Addr) : Hp := fun b => if b = e then none else H b
theorem unt_same {H : Hp} {e : Addr} : unt H e e = none := by unfold unt; rw [if_pos rfl]
theorem unt_ne {H : Hp} {e b : Addr} (h : b ≠ e) : unt H e b = H b := by unfold unt; rw [if_neg h]
section
variable {M : Model} {A : Around} {E : Value → Shared → Prop} {env : Env}
variable {nm q : Str} {C N : Addr} {bs bm : List Value} {hdct : Bool} {sn : List Str} {sub : List Value} {ab : Bool} {col : Option Bool} {dd : Option Addr} {k0 k1 k2 k3 k5 : Option Value} {newId : String}
theorem raise_made {s : Shared} {x : Sem Value} {Q : Flow → Shared → Prop} (hbase : bm.contains (.type "BaseException") = true) (hh : A.handled = none)
    (h : wpAny M A x (fun v s₁ => ∃ e t dx, v = .ref e ∧ s₁.heap.get? C = some (excClassObj nm q C N bs bm hdct sn sub ab col dd k0 k1 k2 k3 k5 newId) ∧ s₁.heap.get? e = some (excObj C t dx) ∧ E (.ref e) s₁) E s) :
    wpAny M A (raiseStmt env (some x) none) Q E s := by
  have hcB : (Value.ref C :: bm).contains (.type "BaseException") = true := by rw [List.contains_cons, hbase, Bool.or_true]
  unfold raiseStmt
  refine wpAny_bind (wpAny_mono h (fun v s₁ h₁ => ?_) fun _ _ x => x)
  obtain ⟨e, t, dx, rfl, hC, he, hE⟩ := h₁
  obtain ⟨hp, g, d, tk, os⟩ := s₁
  have he : hp.get? e = some { cls := .ref C, dict := dx, data := .fields #[.ref t, .none, .none, .none, .bool false, .none] } := he
  repeat (first | with_reducible refine wpAny_loadPart_at he ?_ | with_reducible refine wpAny_loadPart_at hC ?_ | (with_reducible refine wpAny_isSubtype_exc hC ?_; rw [hcB]) | wp_step)
  exact wpAny_raiseNew_none hh hE
end
section
variable {prog : Program} {w : World} {A : Around} {E : Value → Shared → Prop} {h : Heap} {g : Array GenState} {d : Drawn} {t : Nat} {os : OsState}
variable {nm q : Str} {C N : Addr} {bs bm : List Value} {hdct : Bool} {sn : List Str} {sub : List Value} {ab : Bool} {col : Option Bool} {dd : Option Addr} {k0 k1 k2 k3 k5 : Option Value}
end
section
variable {X : Cx} {pins : List (Addr × Obj)} {σ : St} {H : Hp} {s : Shared}
theorem Inv.unt {e : Addr} {φ : Heap → Prop} (I : Inv X pins σ H s) (he : H e = some (.ext φ)) : Inv X pins σ (unt H e) s := by
  have hn : ∀ b, H b = none → L2.unt H e b = none := fun b h => by
    by_cases q : b = e
    · rw [q, unt_same]
    · rw [unt_ne q]; exact h
  have hk : ∀ b o, H b = some o → (∀ φ, o ≠ .ext φ) → L2.unt H e b = some o := fun b o h ho => by
    rw [unt_ne (fun q => ?_)]
    · exact h
    · rw [q, he] at h
      cases h
      exact ho _ rfl
  refine ⟨I.ok, I.os, I.bare, ⟨I.base.keep, I.base.slot, fun b o q n hx => hn b (I.base.free b o q n hx), I.base.there, fun b xs q => hk b _ (I.base.tups b xs q) (fun φ z => nomatch z), fun b o u q => hk b _ (I.base.frzs b o u q) (fun φ z => nomatch z), fun b ps q => ?_⟩, I.loc, I.cell, hn _ I.free, fun x c h => hn _ (I.freeC x c h), fun p hp => ?_, fun b o q => ?_, I.len⟩
  · obtain ⟨more, z⟩ := I.base.tbls b ps q
    exact ⟨more, hk b _ z (fun φ w => nomatch w)⟩
  · obtain ⟨a, b, c⟩ := I.pin p hp
    exact ⟨a, hn _ b, c⟩
  · have hb : b ≠ e := fun z => by rw [z, unt_same] at q; cases q
    rw [unt_ne hb] at q
    exact (I.hok b o q).stay (fun _ _ _ z => z) (fun c z => hk c _ z (fun φ w => nomatch w)) fun c xs z => hk c _ z (fun φ w => nomatch w)
def RaiseX (C : Addr) (sp : Sp) (E : St → XK) (σ : St) (vs : List V) (H1 : Hp) : Prop := vs.length ≤ 10 ∧ ∀ e, H1 e = none → sp (.ref e :: vs) (upd H1 e (XO e C none)) (fun v H2 => v = .non ∧ V.ref e = .ref e ∧ ∃ dx, H2 e = some (XO e C dx) ∧ E σ (.ref C) dx (L2.unt H2 e)) E0
theorem ps_raiseX {E : St → XK} {R : St → List V → Hp → Prop} {k : Nat} {f C L : Addr} {fd : FuncData} {ps : List Str} {sp : Sp} {x : Str} {np cpos pos : Pos} {e : Expr} {es : List Expr} {t : TA} (hL : X.env.frame = some L) (hcm : X.calm = true)
    (M : MkX X.K C f) (F : FnOk X.prog X.w X.K X.mg X.base CX0 k f fd ps sp) (hr : Room (k + 1) X.A) (hg : Gl X x) (hm : X.mg x = some (.ref C)) (hb : Binds X.K fd ps []) (hR : ∀ σ vs H1, R σ vs H1 → RaiseX C sp E σ vs H1)
    (ha : PA (X.wish (Fly X E)) (e :: es) t) (hdb : (x == ("__debug__" : Str)) = false := by decide) (he : starEach (e :: es) X.env = (false, eval e X.env) :: starEach es X.env := by rfl) (hpl : (backTo cpos (starEach es X.env)).any (·.1) = false := by rfl) :
    PS (X.wish (Fly X E)) (.Raise (some (.Call (.Name x np) (e :: es) [] cpos)) none pos) (fun _ σ H => t σ H (R σ)) := by
  intro pins s σ H D I h
  obtain ⟨bm, N, nm, qn, bs, hd, sn, sub, ab, col, dd, k0, k1, k2, k3, k5, mN, hC, hn, hni, T⟩ := xcls_of I.kIn M.cls
  have hbase : bm.contains (.type "BaseException") = true := T.hasType (by decide)
  rw [arm_exec_Raise]
  refine wpAny_bind (wpAny_standAt (raise_made (C := C) (nm := nm) (q := qn) (N := N) (bs := bs) (bm := bm) (hdct := hd) (sn := sn) (sub := sub) (ab := ab) (col := col) (dd := dd) (k0 := k0) (k1 := k1) (k2 := k2) (k3 := k3) (k5 := k5) (newId := "ValueError.__new__") hbase (I.ok.hd hcm) ?_))
  show wpAny _ _ (do let v ← eval (.Call (.Name x np) (e :: es) [] cpos) X.env; standAt pos; pure v) _ _ _
  refine wpAny_bind (wpAny_mono (wpAny_Call_Name_kw (ld_glob I hg hm ?_ hdb)) (fun v s₃ h₃ => wpAny_bind (wpAny_standAt (wpAny_pure h₃))) fun _ _ z => z)
  refine PySem.W.callWith_K (h₀ := X.base) I.ok.mod.kin M.kp (thn (ha cpos pins s σ H _ I h) fun us s1 ⟨vs, H1, I1, r, q0⟩ => ⟨I1.kIn, ?_⟩) he hpl
  obtain ⟨hl, q⟩ := hR σ vs H1 q0
  refine thn (run_excAt (X := X.wish (Fly X E)) (Q := fun v H2 => v = .ref (s1.heap.objs.size + 1) ∧ ∃ dx, H2 (s1.heap.objs.size + 1) = some (XO (s1.heap.objs.size + 1) C dx) ∧ E σ (.ref C) dx (L2.unt H2 (s1.heap.objs.size + 1))) M F hr hb I1 r hl ?_) fun v s2 ⟨y, H2, I2, ry, ey, dx, he2, hE2⟩ => ?_
  · exact q (s1.heap.objs.size + 1) (I1.hok.fresh (Nat.le_succ _))
  · subst ey
    obtain rfl : v = Value.ref (s1.heap.objs.size + 1) := ry
    obtain ⟨⟨t2, ho2⟩, _⟩ := I2.hok _ _ he2
    refine ⟨_, t2, dx, rfl, (xcls_same I.kIn I2.kIn M.cls).trans hC, ho2, ?_⟩
    exact ⟨_, .ref C, dx, σ, _, L, rfl, hL, (I2.unwish.nopins).unt he2, ⟨Nat.le_trans I1.sz (Nat.le_succ _), unt_same, I1.unwish.pnlt (Nat.le_succ _)⟩, ⟨_, _, .none, ho2, rfl, rfl, rfl, rfl, .inl rfl⟩, hE2⟩
def tRaise0 (C : Addr) (E : St → XK) (t : TA) : TS := fun _ σ H => t σ H fun vs H1 => vs.length ≤ 10 ∧ E σ (.ref C) none H1
structure MkX0 (K : PySem.W.Frag) (C : Addr) : Prop where
  cls : xclsIn K C none = true
  kp : PySem.W.keepIn K (.ref C) = true
end
end L2
namespace L2
open PySem PySem.Spec PyProof.Rows PySem.W PySem.Calls
section
variable {M : Model} {A : Around} {E : Value → Shared → Prop} {s : Shared}
theorem find_erase {α : Type} {p : α → Bool} : ∀ {l : List α} {i : Nat}, (∀ x, l[i]? = some x → p x = false) → (l.eraseIdx i).find? p = l.find? p
  | [], _, _ => rfl
  | x :: l, 0, h => by
    have hx := h x rfl
    show l.find? p = (x :: l).find? p
    rw [List.find?_cons, hx]
  | x :: l, i + 1, h => by
    have ih := find_erase (l := l) (i := i) fun y hy => h y (by simpa using hy)
    show (x :: l.eraseIdx i).find? p = (x :: l).find? p
    rw [List.find?_cons, List.find?_cons, ih]
theorem nsDelX {a : Addr} {m} {name : Str} {Q : Bool → Shared → Prop} (hn : s.heap.Ns a m)
    (hQ : ∀ h' m', h'.Ns a m' → (∀ y, y ≠ name → m' y = m y) → Heap.SameBut a s.heap h' → Q (m name).isSome { s with heap := h' }) : wpAny M A (nsDel a name) Q E s := by
  obtain ⟨o, es, ep, ho, hd, hk, hm⟩ := id hn
  have hany : es.any (·.refKey) = false := by
    rw [Array.any_eq_false']; intro e he; obtain ⟨n, t, h⟩ := hk e he; simp [DictEntry.refKey, h]
  have hsome : (m name).isSome = es.any (·.key.isStr name) := by
    rw [← hm name]; simp only [nsFind, findBy, Option.isSome_map]
    rw [Bool.eq_iff_iff]; simp only [Array.find?_isSome, Array.any_eq_true]
    constructor
    · rintro ⟨x, hx, hp⟩; obtain ⟨i, hi, rfl⟩ := Array.mem_iff_getElem.mp hx; exact ⟨i, hi, hp⟩
    · rintro ⟨i, hi, hp⟩; exact ⟨_, Array.getElem_mem hi, hp⟩
  have hhas : nsHas name o = pure (es.any (·.key.isStr name)) := by
    rw [nsHas_eq]; unfold nsHasByArray; rw [hd]
    show (if (es.any fun x => x.key.isStr name) = true then _ else _) = _
    generalize (es.any fun x => x.key.isStr name) = b
    cases b <;> simp [hany]
  unfold nsDel
  refine wpAny_bind (wpAny_loadPart ho ?_)
  rw [hhas]
  refine wpAny_bind (wpAny_pure ?_)
  rw [← hsome]
  cases hmn : (m name).isSome
  · have := hQ s.heap m hn (fun _ _ => rfl) (.refl ..)
    rw [hmn] at this
    exact wpAny_pure this
  · refine wpAny_bind (wpAny_updatePart ho (wpAny_pure ?_))
    have key : ∃ m', (s.heap.update a (Obj.dropName name)).Ns a m' ∧ ∀ y, y ≠ name → m' y = m y := by
      obtain ⟨cl, d, dt, sl⟩ := o
      subst hd
      cases hi : es.findIdx? (·.key.isStr name) with
      | some i =>
        refine ⟨_, ⟨_, _, ep + 1, Heap.get?_update_self _ ho (by simp only [Obj.dropName_eq, Obj.dropNameByArray, hi] <;> rfl), (by simp only [Obj.dropName_eq, Obj.dropNameByArray, hi] <;> rfl), hk.erase i, fun _ => rfl⟩, fun y hy => ?_⟩
        rw [← hm y]
        show nsFind (es.eraseIdxIfInBounds i) y = nsFind es y
        obtain ⟨l⟩ := es
        simp only [nsFind, findBy, List.eraseIdxIfInBounds_toArray, List.find?_toArray, List.findIdx?_toArray] at hi ⊢
        rw [L2.find_erase fun x hx => ?_]
        obtain ⟨hil, hp, _⟩ := List.findIdx?_eq_some_iff_getElem.mp hi
        have ex : l[i] = x := by
          rw [List.getElem?_eq_getElem hil] at hx
          exact Option.some.inj hx
        rw [ex] at hp
        cases hk2 : x.key with
        | str z t =>
          rw [hk2] at hp
          have hz : z = name := by simpa [Value.isStr] using hp
          show (z == y) = false
          rw [hz, beq_eq_false_iff_ne]
          exact fun e => hy e.symm
        | _ => rfl
      | none => exact ⟨_, ⟨_, _, ep, Heap.get?_update_self _ ho (by simp only [Obj.dropName_eq, Obj.dropNameByArray, hi] <;> rfl), (by simp only [Obj.dropName_eq, Obj.dropNameByArray, hi] <;> rfl), hk, fun _ => rfl⟩, fun y _ => hm y⟩
    obtain ⟨m', hm', hy⟩ := key
    have := hQ _ m' hm' hy (Heap.SameBut.update ..)
    rw [hmn] at this
    exact this
theorem nameGoesX {env : Env} {n : Str} {pos : Pos} {m : Str → Option Value} {Q : Unit → Shared → Prop} (hl : env.kindOf n = some .local) (hn : s.heap.Ns env.locals m)
    (hp : (env.scope.kind == .class || (env.scope.kind == .module && env.locals != env.globals)) = false)
    (h : ∀ h' m', h'.Ns env.locals m' → (∀ y, y ≠ n → m' y = m y) → Heap.SameBut env.locals s.heap h' → Q () { s with heap := h', toks := s.toks + 1 }) :
    wpAny M A (do bindName env n .none; unbindBehindTheSuite env n pos) Q E s := by
  refine wpAny_bind (wpAny_bindName (wpAny_storeName_local hl hn (fun h₁ hn₁ hs₁ => ?_) hp))
  unfold unbindBehindTheSuite
  refine wpAny_onRaise ?_
  unfold unbindName
  refine wpAny_bind (wpAny_point (wpAny_bind ?_))
  unfold deleteName
  simp only [hl, hp]
  rw [if_neg (by decide)]
  refine wpAny_bind (nsDelX hn₁ fun h₂ m₂ hn₂ hy hs₂ => ?_)
  simp only [if_true, Option.isSome_some, Bool.not_true, Bool.false_eq_true, if_false]
  exact wpAny_pure (wpAny_point (h h₂ m₂ hn₂ (fun y hyn => by rw [hy y hyn, if_neg hyn]) (hs₁.trans hs₂)))
end
section
variable {X : Cx} {pins : List (Addr × Obj)} {σ : St} {H : Hp} {s : Shared}
theorem gone_ok {M : Model} {A : Around} {E : Value → Shared → Prop} {i : Nat} {x : Str} {pos : Pos} {Q : Unit → Shared → Prop} (I : Inv X pins σ H s) (hN : X.N.Nodup) (hi : X.N[i]? = some x) (hk : X.env.scope.names.lookup x = some .local)
    (h : ∀ s', Inv X pins (σ.set i none) H s' → Q () s') : wpAny M A (do bindName X.env x .none; unbindBehindTheSuite X.env x pos) Q E s := by
  obtain ⟨m, hn, hl⟩ := id I.loc
  have hcls : (X.env.scope.kind == .class || (X.env.scope.kind == .module && X.env.locals != X.env.globals)) = false := by rw [I.ok.kind]; rfl
  have hiσ : i < σ.length := by rw [I.len]; exact (List.getElem?_eq_some_iff.mp hi).1
  have cne := I.cne
  refine nameGoesX hk hn hcls fun h' m' hn' hy hs => ?_
  obtain ⟨oL, _, _, hoL, _⟩ := id hn
  refine h _ ⟨I.ok, I.os, I.bare, ⟨fun b o e n hb hx => ?_, fun b o e n hb hx => ?_, I.base.free, fun b o e hx => ?_, I.base.tups, I.base.frzs, I.base.tbls⟩, ⟨_, hn', fun j y v' e1 e2 e3 => ?_⟩, fun y c e => ?_, I.free, I.freeC, fun p hp => ?_, fun b ob e => ?_, by simpa using I.len⟩
  · exact (hs.2 b (Nat.ne_of_lt (Nat.lt_of_lt_of_le (Heap.lt_size e) I.ok.above))).trans (I.base.keep b o e n hb hx)
  · obtain ⟨sl, e1⟩ := I.base.slot b o e n hb hx
    exact ⟨sl, (hs.2 b (Nat.ne_of_lt (Nat.lt_of_lt_of_le (Heap.lt_size e) I.ok.above))).trans e1⟩
  · obtain ⟨o', e1⟩ := I.base.there b o e hx
    exact ⟨o', (hs.2 b (Nat.ne_of_lt (Nat.lt_of_lt_of_le (Heap.lt_size e) I.ok.above))).trans e1⟩
  · by_cases hj : j = i
    · subst hj
      rw [List.getElem?_set_self hiσ] at e2
      cases e2
    · rw [List.getElem?_set_ne (Ne.symm hj)] at e2
      obtain ⟨u', r', q⟩ := hl j y v' e1 e2 e3
      refine ⟨u', r', ?_⟩
      rcases q with ⟨k, e⟩ | ⟨k, c, e, z⟩
      · refine .inl ⟨k, ?_⟩
        have : y ≠ x := fun e => hj (nodup_ix hN e1 (e ▸ hi))
        rw [hy y this, e]
      · exact .inr ⟨k, c, e, z.sameBut hs (cne y c e)⟩
  · obtain ⟨w', z⟩ := I.cell y c e
    exact ⟨w', z.sameBut hs (cne y c e)⟩
  · obtain ⟨e, n, ne, nf, d⟩ := I.pin p hp
    exact ⟨(hs.2 p.1 ne).trans e, n, ne, nf, d⟩
  · refine (I.hok b ob e).stay (fun c w' hc q => (hs.2 c ?_).trans q) (fun _ q => q) fun _ _ q => q
    rintro rfl
    rcases hc with rfl | hc
    · rw [I.free] at e; cases e
    · rw [I.free] at hc; cases hc
abbrev Cx.suite (X : Cx) (e : Addr) : Cx := { X with A := X.A.mark (some (.ref e)), calm := false, xe := fun _ _ => False }
theorem Inv.suite (I : Inv X pins σ H s) (e : Addr) : Inv (X.suite e) pins σ H s :=
  ⟨⟨I.ok.mod, I.ok.kind, I.ok.glob, I.ok.blt, I.ok.above, I.ok.inj, I.ok.has, I.ok.cab, (fun z => nomatch z), I.ok.frames, I.ok.stk, I.ok.exf, I.ok.bs, I.ok.bsz, I.ok.noex, I.ok.exfs, I.ok.funs, I.ok.frf⟩, I.os, I.bare, I.base, I.loc, I.cell, I.free, I.freeC, I.pin, I.hok, I.len⟩
theorem Inv.unsuite {e : Addr} {A : Around} {c : Bool} {xe : Value → Shared → Prop} (hA : A.frames = some X.stack) (hd : c = true → A.handled = none) (I : Inv (X.suite e) pins σ H s) : Inv { X with A := A, calm := c, xe := xe } pins σ H s :=
  ⟨⟨I.ok.mod, I.ok.kind, I.ok.glob, I.ok.blt, I.ok.above, I.ok.inj, I.ok.has, I.ok.cab, hd, hA, I.ok.stk, I.ok.exf, I.ok.bs, I.ok.bsz, I.ok.noex, I.ok.exfs, I.ok.funs, I.ok.frf⟩, I.os, I.bare, I.base, I.loc, I.cell, I.free, I.freeC, I.pin, I.hok, I.len⟩
end
end L2
namespace L2
open PySem PySem.Spec PyProof.Rows PySem.W PySem.Calls
theorem xcls_mro {K : PySem.W.Frag} {h : Heap} {C : Addr} {init : Option Addr} {nm q : Str} {N : Addr} {bs bm : List Value} {hdct : Bool} {sn : List Str} {sub : List Value} {ab : Bool} {col : Option Bool} {dd : Option Addr} {k0 k1 k2 k3 k5 : Option Value} {newId : String}
    (X : K.In h) (hq : xclsIn K C init = true) (hC : h.get? C = some (excClassObj nm q C N bs bm hdct sn sub ab col dd k0 k1 k2 k3 k5 newId)) (v : Value) : mroIn K C v = some ((Value.ref C :: bm).contains v) := by
  unfold xclsIn at hq
  split at hq
  · rename_i ho
    have e := X _ _ ho
    rw [hC] at e
    cases e
    unfold mroIn clsIn
    rw [ho]
    rfl
  · cases hq
section
variable {M : Model} {A : Around} {E : Value → Shared → Prop} {h : Heap} {g : Array GenState} {d : Drawn} {t : Nat} {os : OsState}
theorem match_x {K : PySem.W.Frag} {e C B : Addr} {oe : Obj} {init initB : Option Addr} {b : Bool} {Q : Bool → Shared → Prop} (X : K.In h) (hC : xclsIn K C init = true) (hB : xclsIn K B initB = true) (he : h.get? e = some oe) (hcls : oe.cls = .ref C)
    (hm : mroIn K C (.ref B) = some b) (hq : Q b ⟨h, g, d, t, os⟩) : wpAny M A (excMatches (.ref e) (.ref B)) Q E ⟨h, g, d, t, os⟩ := by
  obtain ⟨bm, N, nm, qn, bs, hd, sn, sub, ab, col, dd, k0, k1, k2, k3, k5, mN, oC, _, _, T⟩ := xcls_of X hC
  obtain ⟨bm2, N2, nm2, qn2, bs2, hd2, sn2, sub2, ab2, col2, dd2, j0, j1, j2, j3, j5, mN2, oB, _, _, T2⟩ := xcls_of X hB
  have hcm : (Value.ref C :: bm).contains (.ref B) = b := by
    have := xcls_mro X hC oC (.ref B)
    rw [hm] at this
    exact (Option.some.inj this).symm
  have hbB : (Value.ref B :: bm2).contains (.type "BaseException") = true := by rw [List.contains_cons, T2.hasType (show bmV.contains (.type "BaseException") = true by decide), Bool.or_true]
  have f := tc_notTuple
  unfold excMatches
  repeat (first | (with_reducible refine wpAny_loadPart_at he ?_; rw [hcls]) | with_reducible refine wpAny_loadPart_at oB ?_ | with_reducible refine wpAny_loadPart_at oC ?_ | (with_reducible refine wpAny_isSubtype_exc oB ?_; rw [hbB]) | (with_reducible refine wpAny_isSubtype_exc oC ?_; rw [hcm]) | wp_step)
  cases b <;> (wp_walk; exact hq)
end
abbrev XE (e C : Addr) (dx : Option Addr) : HO := .ext fun h => ∃ o vs, h.get? e = some o ∧ o.cls = .ref C ∧ o.dict = dx ∧ o.data = .fields vs
abbrev THd := Ends → St → Value → Option Addr → Hp → Prop
def PHs (X : Cx) (hs : List ExceptHandler) (th : THd) : Prop := ∀ (e : Addr) (cls : Value) (dx : Option Addr) (σ : St) (H : Hp) (s : Shared) (D : Ends), Inv X [] σ H s → Fr0 X H e → ExcAt (TbAt (Fr0 X H) e .none) s.heap e cls dx → th D σ cls dx H →
  wpAny (model X.prog X.w) X.A (handleBy (.ref e) X.env hs) (SP X [] D) X.xe s
def tNoHd : THd := fun _ _ _ _ _ => False
theorem ph_nil {X : Cx} : PHs X [] tNoHd := fun _ _ _ _ _ _ _ _ _ _ h => h.elim
def Dg (i : Nat) (D : Ends) : Ends := { nx := fun σ H => D.nx (σ.set i none) H, rt := D.rt, bk := fun σ H => D.bk (σ.set i none) H, ct := fun σ H => D.ct (σ.set i none) H }
def tHd (K : PySem.W.Frag) (B : Addr) (i : Nat) (ts : TS) (tr : THd) : THd := fun D σ cls dx H => ∃ C init b, cls = .ref C ∧ xclsIn K C init = true ∧ mroIn K C (.ref B) = some b ∧
  (if b = true then ∀ e, H e = none → ts (Dg i D) (σ.set i (some (.ref e))) (upd H e (XE e C dx)) else tr D σ cls dx H)
section
variable {X : Cx} {σ : St} {H : Hp} {s : Shared}
theorem Inv.track {e C : Addr} {dx : Option Addr} {o : Obj} {vs : Array Value} (I : Inv X [] σ H s) (he : Fr0 X H e) (ho : s.heap.get? e = some o) (hc : o.cls = .ref C) (hdx : o.dict = dx) (hd : o.data = .fields vs) : Inv X [] σ (upd H e (XE e C dx)) s := by
  obtain ⟨h1, h2, h3⟩ := he
  have hk : ∀ b u, H b = some u → upd H e (XE e C dx) b = some u := fun b u q => by rw [upd_ne (ne_of_none q h2)]; exact q
  have hne : ∀ b, b ≠ e → H b = none → upd H e (XE e C dx) b = none := fun b hb q => by rw [upd_ne hb]; exact q
  have hl : X.env.locals ≠ e := fun q => by
    obtain ⟨m, ⟨o2, es, ep, ho2, hd2, _⟩, _⟩ := I.loc
    rw [q, ho] at ho2
    cases ho2
    rw [hd] at hd2
    cases hd2
  refine ⟨I.ok, I.os, I.bare, ⟨I.base.keep, I.base.slot, fun b u q n hx => hne b (fun z => ?_) (I.base.free b u q n hx), I.base.there, fun b xs q => hk b _ (I.base.tups b xs q), fun b u v q => hk b _ (I.base.frzs b u v q), fun b ps q => ?_⟩, I.loc, I.cell, hne _ hl I.free, fun x c h => hne _ (fun z => ?_) (I.freeC x c h), fun p hp => ?_, fun b u q => ?_, I.len⟩
  · rw [z] at q
    exact absurd (Heap.lt_size q) (Nat.not_lt.mpr h1)
  · obtain ⟨more, z⟩ := I.base.tbls b ps q
    exact ⟨more, hk b _ z⟩
  · obtain ⟨v, o2, ho2, hd2⟩ := I.cell x c h
    rw [z, ho] at ho2
    cases ho2
    rw [hd] at hd2
    cases hd2
  · obtain ⟨p1, p2, p3⟩ := I.pin p hp
    rw [List.append_nil] at hp
    exact ⟨p1, hne _ (h3 p hp) p2, p3⟩
  · by_cases hb : b = e
    · subst hb
      rw [upd_same] at q
      cases q
      refine ⟨⟨o, vs, ho, hc, hdx, hd⟩, ⟨o, ho⟩, ?_⟩
      rintro g1 g2 ⟨o', vs', a1, a2⟩ kk
      exact ⟨o', vs', kk _ a1, a2⟩
    · rw [upd_ne hb] at q
      exact (I.hok b u q).stay (fun _ _ _ z => z) (fun c z => hk c _ z) fun c xs z => hk c _ z
theorem ph_cons {B : Addr} {initB : Option Addr} {x n : Str} {i : Nat} {np hpos : Pos} {b₀ : Stmt} {suite : List Stmt} {rest : List ExceptHandler} {ts : TS} {tr : THd} (hg : Gl X x) (hm : X.mg x = some (.ref B)) (hB : xclsIn X.K B initB = true)
    (hN : X.N.Nodup) (hi : X.N[i]? = some n) (hk : X.env.scope.names.lookup n = some .local) (hsuite : ∀ e, PSs (X.suite e) (b₀ :: suite) ts) (hrest : PHs X rest tr) (hdb : (x == ("__debug__" : Str)) = false := by decide) :
    PHs X (.ExceptHandler (some (.Name x np)) (some n) (b₀ :: suite) hpos :: rest) (tHd X.K B i ts tr) := by
  rintro e cls dx σ H s D I he hx ⟨C, init, b, rfl, hC, hmr, hb⟩
  obtain ⟨oe, vs, hd, ho, hc, hdi, hdt, h1, hT⟩ := id hx
  refine wpAny_handleBy_cons (codeAny_handlers_test (ld_glob (X := X.suite e) (I.suite e) hg hm ?_ hdb)) (by intro q; cases q)
  obtain ⟨hp, g, d, tk, os⟩ := s
  refine match_x I.kIn hC hB ho hc hmr ?_
  cases b with
  | false => exact hrest e (.ref C) dx σ H _ D I he hx hb
  | true =>
    refine codeAny_handlers_suite_as ?_
    refine fly_mark (s := ⟨hp, g, d, tk, os⟩) (fr := none) I he hx fun h2 I2 hx2 => ?_
    obtain ⟨oe2, vs2, hd2, ho2, hc2, hdi2, hdt2, h12, hT2⟩ := id hx2
    have I3 := I2.track he ho2 hc2 hdi2 hdt2
    refine store_ok (v := .ref e) I3 hN hi (.inl hk) rfl (fun s' I4 => ?_) (.inr hk)
    have hb2 := hb e he.2.1
    refine wpAny_mono (hsuite e [] s' (σ.set i (some (.ref e))) _ (Dg i D) (I4.suite e) hb2) (fun f s3 q => ?_) fun _ _ z => z.elim
    cases f with
    | next =>
      obtain ⟨σ', H', I5, q⟩ := q
      exact gone_ok (X := X) (I5.unsuite (X := X) (A := X.A) (c := X.calm) (xe := X.xe) I.ok.frames I.ok.hd) hN hi hk fun s5 I6 => ⟨_, H', I6, q⟩
    | brk =>
      obtain ⟨σ', H', I5, q⟩ := q
      exact gone_ok (X := X) (I5.unsuite (X := X) (A := X.A) (c := X.calm) (xe := X.xe) I.ok.frames I.ok.hd) hN hi hk fun s5 I6 => ⟨_, H', I6, q⟩
    | cont =>
      obtain ⟨σ', H', I5, q⟩ := q
      exact gone_ok (X := X) (I5.unsuite (X := X) (A := X.A) (c := X.calm) (xe := X.xe) I.ok.frames I.ok.hd) hN hi hk fun s5 I6 => ⟨_, H', I6, q⟩
    | ret u =>
      obtain ⟨v, σ', H', I5, r5, q⟩ := q
      exact gone_ok (X := X) (I5.unsuite (X := X) (A := X.A) (c := X.calm) (xe := X.xe) I.ok.frames I.ok.hd) hN hi hk fun s5 I6 => ⟨v, _, H', I6, r5, q⟩
abbrev Cx.pinned (X : Cx) (pn : List (Addr × Obj)) : Cx := { X with pn := pn }
theorem Inv.heldP {pins : List (Addr × Obj)} (I : Inv X pins σ H s) : Inv (X.pinned (X.pn ++ pins)) [] σ H s :=
  ⟨⟨I.ok.mod, I.ok.kind, I.ok.glob, I.ok.blt, I.ok.above, I.ok.inj, I.ok.has, I.ok.cab, I.ok.hd, I.ok.frames, I.ok.stk, I.ok.exf, I.ok.bs, I.ok.bsz, I.ok.noex, I.ok.exfs, I.ok.funs, I.ok.frf⟩, I.os, I.bare, I.base, I.loc, I.cell, I.free, I.freeC, fun p hp => I.pin p (by rwa [List.append_nil] at hp), I.hok, I.len⟩
theorem Inv.unheldP {pins : List (Addr × Obj)} (I : Inv (X.pinned (X.pn ++ pins)) [] σ H s) : Inv X pins σ H s :=
  ⟨⟨I.ok.mod, I.ok.kind, I.ok.glob, I.ok.blt, I.ok.above, I.ok.inj, I.ok.has, I.ok.cab, I.ok.hd, I.ok.frames, I.ok.stk, I.ok.exf, I.ok.bs, I.ok.bsz, I.ok.noex, I.ok.exfs, I.ok.funs, I.ok.frf⟩, I.os, I.bare, I.base, I.loc, I.cell, I.free, I.freeC, fun p hp => I.pin p (by rw [List.append_nil]; exact hp), I.hok, I.len⟩
theorem SP.unheldP {pins : List (Addr × Obj)} {D : Ends} {f : Flow} {s' : Shared} (h : SP (X.pinned (X.pn ++ pins)) [] D f s') : SP X pins D f s' := by
  cases f with
  | next => obtain ⟨σ', H', I, q⟩ := h; exact ⟨σ', H', I.unheldP, q⟩
  | brk => obtain ⟨σ', H', I, q⟩ := h; exact ⟨σ', H', I.unheldP, q⟩
  | cont => obtain ⟨σ', H', I, q⟩ := h; exact ⟨σ', H', I.unheldP, q⟩
  | ret u => obtain ⟨v, σ', H', I, r, q⟩ := h; exact ⟨v, σ', H', I.unheldP, r, q⟩
theorem ps_try {body : List Stmt} {h₀ : ExceptHandler} {hs : List ExceptHandler} {pos : Pos} {tb : Ends → TS} {th : THd} (hst : X.stack = X.env :: X.outer) (hb : ∀ D pn, PSs ((X.pinned pn).wish (Fly (X.pinned pn) (th D))) body (tb D)) (hh : ∀ pn, PHs (X.pinned pn) (h₀ :: hs) th) :
    PS X (.Try body (h₀ :: hs) [] [] pos) (fun D σ H => tb D D σ H) := by
  intro pins s σ H D I h
  have I0 := I.heldP
  refine wpAny_Try_except (wpAny_mono (hb D (X.pn ++ pins) [] s σ H D (I0.wish _) h) (fun f s1 q => ?_) fun ev s1 q => ?_)
  · cases f with
    | next =>
      obtain ⟨σ', H', I', q⟩ := q
      exact wpAny_execs_nil ⟨σ', H', I'.unwish.unheldP, q⟩
    | ret v => exact SP.unheldP (SP.unwish q)
    | brk => exact SP.unheldP (SP.unwish q)
    | cont => exact SP.unheldP (SP.unwish q)
  · refine fly_note (X := X.pinned (X.pn ++ pins)) I0.ok.frames hst q fun h' e cls dx σ1 H1 L hev hL I1 he hx hE => ?_
    subst hev
    exact fly_mark (s := { s1 with heap := h' }) (fr := none) I1 he hx fun h2 I2 hx2 => thn (hh (X.pn ++ pins) e cls dx σ1 H1 _ D I2 he hx2 hE) fun f s3 q => SP.unheldP q
end
end L2
namespace L2
open PySem PySem.Spec PyProof.Rows PySem.W PySem.Calls Builtin Builtin.ObjectAttr
structure XG (K : PySem.W.Frag) (C : Addr) : Prop where
  ga : findIn K (.ref C) "__getattribute__" = some (some (.builtin "BaseException.__getattribute__"))
  gt : findIn K (.ref C) "__getattr__" = some none
  be : mroIn K C (.type "BaseException") = some true
  ob : mroIn K C (.type "object") = some true
  cc : findIn K (.ref C) "__class__" = some (some (.builtin "object.__class__"))
  hd : ∃ cd, clsIn K C = some cd ∧ cd.hasDict = true
section
variable {prog : Program} {w : World} {A : Around} {E : Value → Shared → Prop} {s : Shared} {K : PySem.W.Frag} {x C : Addr} {ox : Obj} {od : Option Obj} {name : Str}
theorem slot_bga : Slot "ValueError" "__getattribute__" "BaseException.__getattribute__" := PySem.F.excAttr_ValueError.ga
theorem getx_open {expr fill : Bool} {tk : Tok} {Q : Value → Shared → Prop} (X : K.In s.heap) (I : PySem.W.InstAt s.heap x ox C od) (G : XG K C)
    (h : wpAny (model prog w) A.in1 (Builtin.«object.__getattribute__» ⟨[.ref x, .str name tk], []⟩) (fun fin s' => match fin with | .done (.ret v) => wpAny (model prog w) A (handedOut v) Q E s' | _ => False) (fun _ _ => False) s) :
    wpAny (model prog w) A (getAttrBy (.ref x) (.str name tk) fill expr) Q E s := by
  have hf : (Value.builtin "BaseException.__getattribute__" == Value.builtin "object.__getattribute__") = false := by decide +kernel
  unfold getAttrBy
  refine wpAny_holding (wpAny_bind (I.type.here (wpAny_bind ((looks_findIn X G.ga).here ?_))))
  dsimp only
  rw [hf, Bool.and_false, if_neg (by decide)]
  unfold getAttrByItsOwn
  have hk : Looks (model prog w) s.heap (hookBefore (.ref C)) none := looks_hook X (by rw [if_pos (show onTheHeap (Value.ref C) = true from rfl)]; exact G.gt)
  refine wpAny_bind (hk.here (wpAny_bind (wpAny_attempt (wpAny_holding ?_))))
  unfold callGetattribute
  rw [show (expr && onTheHeap (Value.builtin "BaseException.__getattribute__")) = false from Bool.and_false _, if_neg (by decide)]
  unfold boundAndCalled
  rw [slot_bga.bind]
  refine wpAny_bind (wpAny_pure ?_)
  show wpAny _ _ (call (.builtin "BaseException.__getattribute__") [.ref x, .str name tk]) _ _ _
  refine wpAny_call (codeAny_call_builtin slot_bga.plain PySem.F.entry_bexc_ga ?_)
  refine @check_slot (model prog w) _ _ s "BaseException.__getattribute__" "BaseException" "__getattribute__" (.ref x) [.str name tk] [] _ (by decide +kernel) (by decide +kernel) (I.type.andThen (looks_mroIn X G.be)) (PySem.F.args_bexc_ga _ _) ?_
  refine wpAny_mono h (fun fin s' z => ?_) fun _ _ z => z.elim
  rcases fin with (_ | _ | _ | _) | _ <;> first | exact z | exact z.elim
theorem getx_value {expr : Bool} {v : Value} {Q : Value → Shared → Prop} (X : K.In s.heap) (I : PySem.W.InstAt s.heap x ox C od) (G : XG K C) (hf : findObj K C od name = some (.value v)) (hh : handedIn v = true) (h : Q v { s with toks := s.toks + 1 }) :
    wpAny (model prog w) A (getAttr (.ref x) name expr) Q E s := by
  unfold getAttr
  refine wpAny_bind (wpAny_mkText (getx_open (s := { s with toks := s.toks + 1 }) X I G ?_))
  unfold Builtin.«object.__getattribute__»
  refine wpAny_bind (wpAny_pure (wpAny_bind (wpAny_pure (wpAny_bind (PySem.W.Looks.here (s := { s with toks := s.toks + 1 }) I.type (wpAny_bind (PySem.W.Looks.here (s := { s with toks := s.toks + 1 }) (looks_find X I hf) ?_)))))))
  refine wpAny_pure ?_
  show wpAny _ _ (handedOut v) _ _ _
  rw [handedOut_of hh]
  exact wpAny_pure h
end
end L2
namespace L2
open PySem PySem.Spec PyProof.Rows PySem.W PySem.Calls
section
variable {X : Cx} {pins : List (Addr × Obj)} {σ : St} {H : Hp} {s : Shared}
def tXG (K : PySem.W.Frag) (ta : TE) (f : Str) : TE := fun σ H Q => ta σ H fun x H1 => ∃ e C dx fs v, x = .ref e ∧ H1 e = some (XE e C (some dx)) ∧ H1 dx = some (.xd fs) ∧ XG K C ∧ NoAttr K C f ∧ fs.lookup f = some v ∧ Q v H1
theorem pe_xg {e : Expr} {f : Str} {pos : Pos} {ta : TE} (he : PE X e ta) (hb : attributeBase e f X.env (eval e X.env) = eval e X.env) : PE X (.Attribute e f pos) (tXG X.K ta f) := by
  intro pins s σ H Q I h
  refine attr_of hb (thn (he pins s σ H _ I h) fun u s1 ⟨x, H1, I1, rx, ea, C, dx, fs, v, ex, h1, h2, G, n, l, q⟩ => ?_)
  subst ex
  obtain rfl : u = Value.ref ea := rx
  obtain ⟨⟨o, vs, ho, hc, hdx, hdt⟩, _⟩ := I1.hok ea _ h1
  obtain ⟨mA, n1, r⟩ := (show ObjOk X.prog X.w H1 s1.heap dx (.xd fs) from I1.hok dx _ h2)
  obtain ⟨od, hod, hl⟩ := lookIn_ns n1
  obtain ⟨u, hu, ru⟩ := RelO.some_of (v := v) (o := mA f) (by rw [← l]; exact r f)
  have J : PySem.W.InstAt s1.heap ea o C (some od) := ⟨ho, hc, by unfold notCls; rw [hdt], by rw [hdx]; exact hod⟩
  obtain ⟨cd, hcd, hhd⟩ := G.hd
  have hh : hasDictIn X.K C = true := by unfold hasDictIn; rw [hcd]; exact hhd
  exact getx_value I1.kIn J G (findObj_own hh n rfl (by rw [hl, hu])) (handed_of ru) ⟨v, H1, I1.tok _, ru, q⟩
def clsV : V → Option Value
  | .ref B => some (.ref B)
  | .ty n => some (.type n)
  | _ => none
def rIsX (K : PySem.W.Frag) : List V → Hp → VK → Prop := fun xs H Q => ∃ e C dx c v b, xs = [.ref e, c] ∧ H e = some (XE e C dx) ∧ (∀ a, dx = some a → ∃ fs, H a = some (.xd fs)) ∧ XG K C ∧ clsV c = some v ∧ kitOne K (.ref C) v = some b ∧ Q (.bl b) H
def rIsT (K : PySem.W.Frag) : List V → Hp → VK → Prop := fun xs H Q => ∃ e C dx t cs vs b, xs = [.ref e, .ref t] ∧ H e = some (XE e C dx) ∧ (∀ a, dx = some a → ∃ fs, H a = some (.xd fs)) ∧ XG K C ∧ H t = some (.tup cs) ∧ Paired (fun c v => clsV c = some v) cs vs ∧ kitAny K (.ref C) vs = some b ∧ Q (.bl b) H
variable {K : PySem.W.Frag} (hK : X.K = K)
include hK
theorem kpe_xg {e : Expr} {f : Str} {pos : Pos} {ta : TE} (he : PE X e ta) (hb : attributeBase e f X.env (eval e X.env) = eval e X.env := by rfl) : PE X (.Attribute e f pos) (tXG K ta f) := by subst hK; exact pe_xg he hb
end
end L2
namespace L2
open PySem PySem.Spec PyProof.Rows
structure RoomH (k : Nat) (A : Around) : Prop where
  dp : A.depth + 3 * k + 5 < recursionLimit
  un : A.units + 16 * k + 200 < cLine
theorem Room.h {k : Nat} {A : Around} (r : Room k A) (e : Option Value) : RoomH k (A.mark e) := ⟨r.dp, r.un⟩
structure FnOkH (P : Program) (w : World) (K : PySem.W.Frag) (mg : Str → Option Value) (base : Heap) (k : Nat) (f : Addr) (fd : FuncData) (ps : List Str) (sp : Sp) : Prop where
  len : ∀ vs H Q E, sp vs H Q E → vs.length = ps.length
  run : ∀ (A : Around) (outer : List Env) (s : Shared) (H : Hp) (args : Args) (us : List Value) (vs : List V) (Q : VK), RoomH k A → Env0 P w K mg base A outer s H → BindsTo s fd args (ps.zip us) → Vals vs us → sp vs H Q E0 →
    codeAny (model P w) A (.call (.ref f) args) (CR CX0 outer P w H s Q E0) s
abbrev cxH (P : Program) (w : World) (K : PySem.W.Frag) (mg : Str → Option Value) (base : Heap) (N : List Str) (qual : Str) (scope : Scope) (f : Addr) (cd : Value) (A : Around) (outer : List Env) (s : Shared) (H : Hp) : Cx :=
  { cxOf CX0 P w K mg base N qual scope f cd A outer s H E0 with calm := false, xe := fun _ _ => False }
section
variable {P : Program} {w : World} {K : PySem.W.Frag} {mg : Str → Option Value} {base : Heap}
end
section
variable {X : Cx} {k : Nat} {f : Addr} {fd : FuncData} {ps : List Str} {sp : Sp} {x : Str} {p pos : Pos} {e : Expr} {es : List Expr} {t : TA}
end
end L2
namespace L2
open PySem PySem.Spec PyProof.Rows PySem.W PySem.Calls
structure NsF (K : PySem.W.Frag) (N : Addr) (init : Option Addr) : Prop where
  lk : ∃ oc od es n sl, K.lookup N = some ⟨oc, od, .dict es n, sl⟩ ∧ (es.all fun e => match e.key with | .str _ _ => true | _ => false) = true
  ni : nsIn K N "__init__" = some (init.map Value.ref)
theorem NsF.ok {K : PySem.W.Frag} {N : Addr} {init : Option Addr} (h : NsF K N init) : nsOkIn K N = true := by
  obtain ⟨oc, od, es, n, sl, e, q⟩ := h.lk
  unfold nsOkIn
  rw [e]
  exact q
theorem tail_mk {K : PySem.W.Frag} {R : Addr} {oc : Value} {od : Option Addr} {cd : ClassData} {sl : Array (Option Value)} (lk : K.lookup R = some ⟨oc, od, .cls cd, sl⟩) (n : NsF K cd.ns none) : tailIn K bmV (.ref R :: bmV) = true := by
  have hb : tailIn K bmV bmV = true := by
    unfold tailIn
    rw [Bool.or_eq_true]
    exact .inl (beq_self_eq_true _)
  unfold tailIn
  rw [Bool.or_eq_true]
  refine .inr ?_
  dsimp only
  rw [lk]
  dsimp only
  rw [n.ok, hb, n.ni]
  rfl
theorem xcls_mk {K : PySem.W.Frag} {C : Addr} {init od : Option Addr} {cd : ClassData} {sl : Array (Option Value)} {bm : List Value} {k0 k1 k2 k3 k5 : Option Value} (lk : K.lookup C = some ⟨.type "type", od, .cls cd, sl⟩) (cm : cd.mro = .ref C :: bm)
    (hs : sl.toList = [k0, k1, k2, k3, some (.builtin "ValueError.__new__"), k5]) (hdel : cd.hasDel = false) (ht : tailIn K bmV bm = true) (n : NsF K cd.ns init) : xclsIn K C init = true := by
  unfold xclsIn
  rw [lk]
  show (match cd.mro, sl.toList with
    | .ref C' :: bm, [_, _, _, _, some (.builtin n), _] => C' == C && n == "ValueError.__new__" && !cd.hasDel && tailIn K bmV bm && nsOkIn K cd.ns && nsIn K cd.ns "__init__" == some (init.map Value.ref)
    | _, _ => false) = true
  rw [cm, hs]
  show (C == C && "ValueError.__new__" == "ValueError.__new__" && !cd.hasDel && tailIn K bmV bm && nsOkIn K cd.ns && nsIn K cd.ns "__init__" == some (init.map Value.ref)) = true
  rw [hdel, ht, n.ok, n.ni]
  simp
structure CL (K : PySem.W.Frag) (mg : Str → Option Value) (x : Str) (C : Addr) : Prop where
  mg : mg x = some (.ref C)
  is : isClsIn K C = true
  ty : typeIn K (.ref C) = some (.type "type")
def xAsk (K : PySem.W.Frag) (C : Addr) : Bool :=
  findIn K (.ref C) "__getattribute__" == some (some (.builtin "BaseException.__getattribute__")) && findIn K (.ref C) "__getattr__" == some none && mroIn K C (.type "BaseException") == some true && mroIn K C (.type "object") == some true &&
  findIn K (.ref C) "__class__" == some (some (.builtin "object.__class__")) && (clsIn K C).any (·.hasDict) && PySem.W.keepIn K (.ref C) && typeIn K (.ref C) == some (.type "type") && mroIn K C (.type "ValueError") == some true
structure XQ (K : PySem.W.Frag) (C : Addr) : Prop where
  g : XG K C
  kp : PySem.W.keepIn K (.ref C) = true
  ty : typeIn K (.ref C) = some (.type "type")
  ve : mroIn K C (.type "ValueError") = some true
theorem xq_of {K : PySem.W.Frag} {C : Addr} (h : xAsk K C = true) : XQ K C := by
  simp only [xAsk, Bool.and_eq_true, beq_iff_eq] at h
  obtain ⟨⟨⟨⟨⟨⟨⟨⟨h1, h2⟩, h3⟩, h4⟩, h5⟩, h6⟩, h7⟩, h8⟩, h9⟩ := h
  obtain ⟨cd, hc, hd⟩ := any_some h6
  exact ⟨⟨h1, h2, h3, h4, h5, cd, hc, hd⟩, h7, h8, h9⟩
def xFld (K : PySem.W.Frag) (C f : Addr) (fld : Str) : Bool :=
  (clsIn K C).any (fun cd => xTail cd.mro && cd.hasDict) && findIn K (.ref C) "__setattr__" == some (some (.builtin "object.__setattr__")) && findIn K (.ref C) fld == some none && PySem.W.isFn K (.ref f)
theorem xf_of {K : PySem.W.Frag} {C f : Addr} {fld : Str} (h : xFld K C f fld = true) : XF K C fld ∧ PySem.W.isFn K (.ref f) = true := by
  simp only [xFld, Bool.and_eq_true, beq_iff_eq] at h
  obtain ⟨⟨⟨h1, h2⟩, h3⟩, h4⟩ := h
  obtain ⟨cd, hc, hd⟩ := any_some h1
  rw [Bool.and_eq_true] at hd
  exact ⟨⟨⟨cd, hc, hd.1, hd.2⟩, h2, h3⟩, h4⟩
theorem xq_mk {K : PySem.W.Frag} {C : Addr} (h1 : findIn K (.ref C) "__getattribute__" = some (some (.builtin "BaseException.__getattribute__"))) (h2 : findIn K (.ref C) "__getattr__" = some none) (h3 : mroIn K C (.type "BaseException") = some true) (h4 : mroIn K C (.type "object") = some true)
    (h5 : findIn K (.ref C) "__class__" = some (some (.builtin "object.__class__"))) (h6 : hasDictIn K C = true) (h7 : PySem.W.keepIn K (.ref C) = true) (h8 : typeIn K (.ref C) = some (.type "type")) (h9 : mroIn K C (.type "ValueError") = some true) : xAsk K C = true := by
  unfold xAsk
  have h6 : (clsIn K C).any (·.hasDict) = true := h6
  rw [h1, h2, h3, h4, h5, h6, h7, h8, h9]
  simp
theorem xf_mk {K : PySem.W.Frag} {C f : Addr} {fld : Str} {oc : Value} {od : Option Addr} {cd : ClassData} {sl : Array (Option Value)} (lk : K.lookup C = some ⟨oc, od, .cls cd, sl⟩) (cm : xTail cd.mro = true) (hd : cd.hasDict = true)
    (h2 : findIn K (.ref C) "__setattr__" = some (some (.builtin "object.__setattr__"))) (h3 : findIn K (.ref C) fld = some none) (h4 : PySem.W.isFn K (.ref f) = true) : xFld K C f fld = true := by
  have hc : clsIn K C = some cd := by
    unfold clsIn
    rw [lk]
  unfold xFld
  rw [hc, h2, h3, h4]
  show ((xTail cd.mro && cd.hasDict) && _ && _ && _) = true
  rw [cm, hd]
  simp
structure CI (K : PySem.W.Frag) (mg : Str → Option Value) (x qual : Str) (st : Stmt) (ps : List Str) (C f : Addr) (fd : FuncData) (fld : Str) : Prop where
  mg : mg x = some (.ref C)
  cls : xclsIn K C (some f) = true
  q : XQ K C
  xf : XF K C fld
  fn : PySem.W.isFn K (.ref f) = true
  fi : Fun K "__init__" qual st f fd
  ba : ∀ us : List Value, us.length = ps.length → bindArgs fd ⟨us, []⟩ = pure (ps.zip us)
structure CN (K : PySem.W.Frag) (mg : Str → Option Value) (x : Str) (C : Addr) : Prop where
  mg : mg x = some (.ref C)
  cls : xclsIn K C none = true
  q : XQ K C
def sp_init (C : Addr) (fld : Str) : Sp := fun vs H Q _ => ∃ (e : Addr) (i : Int), vs = [.ref e, .int i] ∧ H e = some (XO e C none) ∧ i.natAbs ≤ 1000000000 ∧ ∀ dx, H dx = none → Q .non (upd (upd H dx (.xd [(fld, .int i)])) e (XO e C (some dx)))
def tRz (C : Addr) (fld : Str) (E : St → XK) (t : TA) : TS := fun _ σ H => t σ H fun vs H1 => ∃ i : Int, vs = [.int i] ∧ i.natAbs ≤ 1000000000 ∧ ∀ dx, H1 dx = none → E σ (.ref C) (some dx) (upd H1 dx (.xd [(fld, .int i)]))
section
variable {X : Cx} {k j : Nat} {f C : Addr} {fd : FuncData} {ps : List Str} {sp : Sp} {x qual fld : Str} {st : Stmt} {p np cpos pos : Pos} {e : Expr} {es : List Expr} {t : TA} {E : St → XK} {L : Addr}
theorem unt_init {H1 : Hp} {ea dx : Addr} {o o' y : HO} (he : H1 ea = none) (hn : dx ≠ ea) : unt (upd (upd (upd H1 ea o) dx y) ea o') ea = upd H1 dx y := by
  funext b
  by_cases hb : b = ea
  · subst hb
    rw [unt_same, upd_ne hn.symm, he]
  · rw [unt_ne hb, upd_ne hb]
    by_cases hd : b = dx
    · subst hd
      rw [upd_same, upd_same]
    · rw [upd_ne hd, upd_ne hd, upd_ne hb]
theorem praiseX (d : CI X.K X.mg x qual st ps C f fd fld) (F : FnOk X.prog X.w X.K X.mg X.base CX0 j f fd ps (sp_init C fld)) (hr : Room k X.A) (hg : Gl X x) (hL : X.env.frame = some L) (hcm : X.calm = true) (ha : PA (X.wish (Fly X E)) (e :: es) t) (hjk : j + 1 ≤ k := by decide) (hdb : (x == ("__debug__" : Str)) = false := by decide)
    (he : starEach (e :: es) X.env = (false, eval e X.env) :: starEach es X.env := by rfl) (hpl : (backTo cpos (starEach es X.env)).any (·.1) = false := by rfl) :
    PS (X.wish (Fly X E)) (.Raise (some (.Call (.Name x np) (e :: es) [] cpos)) none pos) (tRz C fld E t) := by
  refine ps_raiseX (R := fun σ vs H1 => ∃ i : Int, vs = [.int i] ∧ i.natAbs ≤ 1000000000 ∧ ∀ dx, H1 dx = none → E σ (.ref C) (some dx) (upd H1 dx (.xd [(fld, .int i)]))) hL hcm ⟨d.cls, d.fn, d.q.kp⟩ F (hr.mono hjk) hg d.mg (.all d.ba) (fun σ vs H1 h1 => ?_) ha hdb he hpl
  obtain ⟨i, rfl, hi, q⟩ := h1
  refine ⟨by show 1 ≤ 10; decide, fun ea hea => ⟨ea, i, rfl, upd_same, hi, fun dx hdx => ⟨rfl, rfl, some dx, upd_same, ?_⟩⟩⟩
  have hne : dx ≠ ea := fun z => by rw [z, upd_same] at hdx; cases hdx
  rw [upd_ne hne] at hdx
  rw [unt_init hea hne]
  exact q dx hdx
theorem pcallX (d : D X.K X.mg x st ps f fd) (F : FnOk X.prog X.w X.K X.mg X.base (CX1 X.prog X.w) j f fd ps sp) (hr : Room k X.A) (hg : Gl X x) (hL : X.env.frame = some L) (ha : PA (X.wish (Fly X E)) (e :: es) t) (hjk : j ≤ k := by decide) (hdb : (x == ("__debug__" : Str)) = false := by decide)
    (he : starEach (e :: es) X.env = (false, eval e X.env) :: starEach es X.env := by rfl) (hpl : (backTo pos (starEach es X.env)).any (·.1) = false := by rfl) :
    PE (X.wish (Fly X E)) (.Call (.Name x p) (e :: es) [] pos) (tCallS sp E t) := pe_callX hL (F.mono hjk) hr hg d.mg d.fn.kp (.all d.ba) ha hdb he hpl
end
theorem kph_cons {X : Cx} (K : PySem.W.Frag) (hK : X.K = K) {B : Addr} {initB : Option Addr} {x n : Str} {i : Nat} {np hpos : Pos} {b₀ : Stmt} {suite : List Stmt} {rest : List ExceptHandler} {ts : TS} {tr : THd} (hg : Gl X x) (hm : X.mg x = some (.ref B)) (hB : xclsIn K B initB = true)
    (hN : X.N.Nodup) (hi : X.N[i]? = some n) (hk : X.env.scope.names.lookup n = some .local) (hsuite : ∀ e, PSs (X.suite e) (b₀ :: suite) ts) (hrest : PHs X rest tr) (hdb : (x == ("__debug__" : Str)) = false := by decide) :
    PHs X (.ExceptHandler (some (.Name x np)) (some n) (b₀ :: suite) hpos :: rest) (tHd K B i ts tr) := by subst hK; exact ph_cons hg hm hB hN hi hk hsuite hrest hdb
end L2
namespace L2
open PySem PySem.Spec PyProof.Rows
def IsZipG (h : Heap) (z TI TO : Addr) : Prop :=
  ∃ (f0 : Value) (f1 : Bool), (f0 = .none ∨ ∃ T : Addr, f0 = rawInt T) ∧ h.get? z = some { cls := .type "zip", dict := none, data := .fields #[f0, .bool f1, .bool false, .ref TI, .ref TO], slots := #[] }
section
variable {prog : Program} {w : World} {A : Around} {E : Value → Shared → Prop} {s : Shared}
theorem wpAny_loadIfAlive {a : Addr} {Q : Option Obj → Shared → Prop} (h : Q (s.heap.get? a) s) : wpAny (model prog w) A (loadIfAlive a) Q E s := by
  intro Γ p hΓ
  unfold loadIfAlive
  rw [Sem.wp_loadIfAlive]
  exact wpAny_pure (A := A) h Γ p hΓ
theorem wp_free {z TI TO : Addr} {Q : Bool → Shared → Prop} (hz : IsZipG s.heap z TI TO)
    (h : ∀ b h', (∃ f0 f1, h'.get? z = some { cls := .type "zip", dict := none, data := .fields #[f0, .bool f1, .bool false, .ref TI, .ref TO], slots := #[] }) → (b = false → IsZipG h' z TI TO) → Heap.SameBut z s.heap h' → Q b { s with heap := h' }) :
    wpAny (model prog w) A (Builtin.SmallTypes.ownedTupleIsFree (.ref z)) Q E s := by
  obtain ⟨f0, f1, hf, hz⟩ := hz
  unfold Builtin.SmallTypes.ownedTupleIsFree
  refine wpAny_bind (wpAny_field hz rfl (x := f0) rfl ?_)
  rcases hf with rfl | ⟨T, rfl⟩
  · exact wpAny_pure (h true s.heap ⟨_, _, hz⟩ (fun z => nomatch z) ⟨rfl, fun _ _ => rfl⟩)
  · show wpAny _ _ (loadIfAlive (Int.toNat (T : Int)) >>= _) _ _ _
    refine wpAny_bind (wpAny_loadIfAlive ?_)
    cases s.heap.get? (Int.toNat (T : Int)) with
    | none => exact wpAny_pure (h true s.heap ⟨_, _, hz⟩ (fun z => nomatch z) ⟨rfl, fun _ _ => rfl⟩)
    | some o =>
      show wpAny _ _ (field (.ref z) 1 >>= _) _ _ _
      refine wpAny_bind (wpAny_field hz rfl (x := .bool f1) rfl ?_)
      cases f1 with
      | true =>
        rw [if_neg (by decide)]
        exact wpAny_bind (wpAny_pure (wpAny_pure (h false s.heap ⟨_, _, hz⟩ (fun _ => ⟨_, _, .inr ⟨T, rfl⟩, hz⟩) ⟨rfl, fun _ _ => rfl⟩)))
      | false =>
        rw [if_pos (by decide)]
        refine wpAny_bind (wpAny_setField_rec hz (by simp) fun h' hz' hs' => wpAny_pure ?_)
        exact h false h' ⟨_, _, hz'⟩ (fun _ => ⟨_, _, .inr ⟨T, rfl⟩, hz'⟩) hs'
theorem zipG_next_item {z TI TO i1 i2 l1 l2 : Addr} {k1 k2 : Nat} {xs ys : Array Value} {x y a b : Value} {Q : Value → Shared → Prop} (D : ZipApart z TI TO i1 i2 l1 l2)
    (hz : IsZipG s.heap z TI TO) (hTI : IsPair s.heap TI (.ref i1) (.ref i2)) (hTO : IsPair s.heap TO a b)
    (h1 : s.heap.IsListIter i1 l1 k1) (h2 : s.heap.IsListIter i2 l2 k2) (hl1 : s.heap.IsList l1 xs) (hl2 : s.heap.IsList l2 ys) (hx : xs[k1]? = some x) (hy : ys[k2]? = some y)
    (hQ : ∀ h', IsZipG h' z TI TO → (∃ u v, IsPair h' TO u v) → h'.IsListIter i1 l1 (k1 + 1) → h'.IsListIter i2 l2 (k2 + 1) → IsPair h' s.heap.objs.size x y → h'.objs.size = s.heap.objs.size + 1 →
      (∀ c o, c ≠ z → c ≠ TO → c ≠ i1 → c ≠ i2 → s.heap.get? c = some o → h'.get? c = some o) → Q (.ref s.heap.objs.size) { s with heap := h' }) :
    wpAny (model prog w) A (Builtin.«zip.__next__» ⟨[.ref z], []⟩) (fun fin s' => ∃ v, fin = .done (.ret v) ∧ Q v s') E s := by
  obtain ⟨f0, f1, hf, hz0⟩ := id hz
  show wpAny _ _ (field (.ref z) 2 >>= _) _ _ _
  refine wpAny_bind (wpAny_field hz0 rfl (x := .bool false) rfl ?_)
  show wpAny _ _ (field (.ref z) 3 >>= _) _ _ _
  refine wpAny_bind (wpAny_field hz0 rfl (x := .ref TI) rfl ?_)
  refine wpAny_bind (wpAny_seqItems hTI rfl ?_)
  show wpAny _ _ (Builtin.SmallTypes.ownedTupleIsFree (.ref z) >>= _) _ _ _
  refine wpAny_bind (wp_free hz fun fr h₀ hzf hzg hs₀ => ?_)
  cases fr with
  | true =>
    obtain ⟨f0', f1', hzf⟩ := hzf
    simp only [if_true]
    refine wpAny_bind (wpAny_rule ?_)
    refine wpAny_bind (wpAny_field hzf rfl (x := .ref TO) rfl ?_)
    refine wpAny_bind (wpAny_setField_rec hzf (by simp) fun h₁ hz₁ hs₁' => ?_)
    have hs₁ : Heap.SameBut z s.heap h₁ := ⟨hs₁'.1.trans hs₀.1, fun c hc => (hs₁'.2 c hc).trans (hs₀.2 c hc)⟩
    clear hs₁'
    refine wpAny_bind ?_
    simp only [List.zipIdx_cons, List.zipIdx_nil, List.forIn_cons, List.forIn_nil]
    refine wpAny_bind (wpAny_bind (wpAny_onRaise ?_))
    show wpAny _ _ (Builtin.SmallTypes.nextOf (.ref i1) >>= _) _ _ _
    refine wpAny_bind (wpAny_nextOf_list_item (h1.extBut hs₁.extBut D.i1z) (hl1.extBut hs₁.extBut D.l1z) hx fun h₂ h1₂ hs₂ => wpAny_pure ?_)
    have hTO₂ : IsPair h₂ TO a b := hs₂.extBut _ _ D.TOi1 (hs₁.extBut _ _ D.TOz hTO)
    refine wpAny_bind (wpAny_seqItems hTO₂ rfl ?_)
    refine wpAny_bind (wpAny_updateSeq_pair hTO₂ fun h₃ hTO₃ hs₃ => ?_)
    replace hTO₃ : IsPair h₃ TO x b := hTO₃
    refine wpAny_bind (wpAny_letGo (wpAny_pure ?_))
    refine wpAny_bind (wpAny_bind (wpAny_onRaise ?_))
    show wpAny _ _ (Builtin.SmallTypes.nextOf (.ref i2) >>= _) _ _ _
    refine wpAny_bind (wpAny_nextOf_list_item (((h2.extBut hs₁.extBut D.i2z).extBut hs₂.extBut D.i12.symm).extBut hs₃.extBut D.TOi2.symm)
      (((hl2.extBut hs₁.extBut D.l2z).extBut hs₂.extBut D.l2i1).extBut hs₃.extBut D.l2TO) hy fun h₄ h2₄ hs₄ => wpAny_pure ?_)
    have hTO₄ : IsPair h₄ TO x b := hs₄.extBut _ _ D.TOi2 hTO₃
    refine wpAny_bind (wpAny_seqItems hTO₄ rfl ?_)
    refine wpAny_bind (wpAny_updateSeq_pair hTO₄ fun h₅ hTO₅ hs₅ => ?_)
    replace hTO₅ : IsPair h₅ TO x y := hTO₅
    refine wpAny_bind (wpAny_letGo (wpAny_pure (wpAny_pure ?_)))
    refine wpAny_bind (wpAny_seqItems hTO₅ rfl ?_)
    refine wpAny_bind (wpAny_newTuple ?_)
    have hsz : h₅.objs.size = s.heap.objs.size := by rw [hs₅.1, hs₄.1, hs₃.1, hs₂.1, hs₁.1]
    have hz₅ := hs₅.extBut _ _ D.TOz.symm (hs₄.extBut _ _ D.i2z.symm (hs₃.extBut _ _ D.TOz.symm (hs₂.extBut _ _ D.i1z.symm hz₁)))
    have hk₅ : ∀ c o, c ≠ z → c ≠ TO → c ≠ i1 → c ≠ i2 → s.heap.get? c = some o → h₅.get? c = some o := fun c o c1 c2 c3 c4 e =>
      hs₅.extBut _ _ c2 (hs₄.extBut _ _ c4 (hs₃.extBut _ _ c2 (hs₂.extBut _ _ c3 (hs₁.extBut _ _ c1 e))))
    have h1₅ : h₅.IsListIter i1 l1 (k1 + 1) := ((h1₂.extBut hs₃.extBut D.TOi1.symm).extBut hs₄.extBut D.i12).extBut hs₅.extBut D.TOi1.symm
    have h2₅ : h₅.IsListIter i2 l2 (k2 + 1) := h2₄.extBut hs₅.extBut D.TOi2.symm
    have hzlt : z < h₅.objs.size := Heap.lt_size hz₅
    show wpAny _ _ (Builtin.SmallTypes.ownedTupleHandOut (.ref z) (.ref h₅.objs.size) >>= _) _ _ _
    refine wpAny_bind ?_
    unfold Builtin.SmallTypes.ownedTupleHandOut
    have hz₆ := Heap.get?_push_of_some { cls := .type "tuple", data := .seq #[x, y] } hz₅
    refine wpAny_bind (wpAny_setField_rec hz₆ (by simp) fun h₇ hz₇ hs₇ => ?_)
    refine wpAny_setField_rec hz₇ (by simp) fun h₈ hz₈ hs₈ => ?_
    have up : ∀ c o, c ≠ z → h₅.get? c = some o → h₈.get? c = some o := fun c o c1 e => hs₈.extBut _ _ c1 (hs₇.extBut _ _ c1 (Heap.get?_push_of_some _ e))
    have hT₈ : IsPair h₈ h₅.objs.size x y := hs₈.extBut _ _ (Nat.ne_of_gt hzlt) (hs₇.extBut _ _ (Nat.ne_of_gt hzlt) (Heap.get?_push_size _ rfl))
    have hz8 : h₈.objs.size = h₅.objs.size + 1 := by rw [hs₈.1, hs₇.1, Heap.size_push]
    have hzz : IsZipG h₈ z TI TO := ⟨_, _, .inr ⟨_, rfl⟩, hz₈⟩
    rw [hsz] at hT₈ hz8
    refine wpAny_pure ⟨_, rfl, ?_⟩
    show Q (.ref h₅.objs.size) _
    rw [hsz]
    exact hQ h₈ hzz ⟨_, _, up _ _ D.TOz hTO₅⟩ (h1₅.at fun o e => up _ o D.i1z e) (h2₅.at fun o e => up _ o D.i2z e) hT₈ hz8 fun c o c1 c2 c3 c4 e => up c o c1 (hk₅ c o c1 c2 c3 c4 e)
  | false =>
    have hz₀ := hzg rfl
    simp only [Bool.false_eq_true, if_false]
    simp only [List.forIn_cons, List.forIn_nil, ← Array.forIn_toList]
    refine wpAny_bind (wpAny_bind (wpAny_bind (wpAny_holding ?_)))
    show wpAny _ _ (Builtin.SmallTypes.nextOf (.ref i1) >>= _) _ _ _
    refine wpAny_bind (wpAny_nextOf_list_item (h1.extBut hs₀.extBut D.i1z) (hl1.extBut hs₀.extBut D.l1z) hx fun h₂ h1₂ hs₂ => wpAny_pure (wpAny_pure ?_))
    refine wpAny_bind (wpAny_bind (wpAny_holding ?_))
    show wpAny _ _ (Builtin.SmallTypes.nextOf (.ref i2) >>= _) _ _ _
    refine wpAny_bind (wpAny_nextOf_list_item ((h2.extBut hs₀.extBut D.i2z).extBut hs₂.extBut D.i12.symm) ((hl2.extBut hs₀.extBut D.l2z).extBut hs₂.extBut D.l2i1) hy fun h₄ h2₄ hs₄ => wpAny_pure (wpAny_pure (wpAny_pure ?_)))
    show wpAny _ _ (newTuple [x, y] >>= _) _ _ _
    refine wpAny_bind (wpAny_newTuple ?_)
    have hsz : h₄.objs.size = s.heap.objs.size := by rw [hs₄.1, hs₂.1, hs₀.1]
    refine wpAny_pure ⟨_, rfl, ?_⟩
    show Q (.ref h₄.objs.size) _
    have up : ∀ c o, c ≠ z → c ≠ i1 → c ≠ i2 → s.heap.get? c = some o → h₄.get? c = some o := fun c o c1 c3 c4 e => hs₄.extBut _ _ c4 (hs₂.extBut _ _ c3 (hs₀.extBut _ _ c1 e))
    obtain ⟨g0, g1, hg, hz1⟩ := hz₀
    have p1 := Heap.get?_push_of_some { cls := .type "tuple", data := .seq #[x, y] } (hs₄.extBut _ _ D.i2z.symm (hs₂.extBut _ _ D.i1z.symm hz1))
    have p2 : IsPair (h₄.push { cls := .type "tuple", data := .seq #[x, y] }) h₄.objs.size x y := Heap.get?_push_size _ rfl
    rw [hsz] at p2 ⊢
    refine hQ _ ⟨g0, g1, hg, p1⟩ ⟨a, b, Heap.get?_push_of_some _ (up _ _ D.TOz D.TOi1 D.TOi2 hTO)⟩ (((h1₂.extBut hs₄.extBut D.i12)).at fun o e => Heap.get?_push_of_some _ e) (h2₄.at fun o e => Heap.get?_push_of_some _ e) p2 (by rw [Heap.size_push, hsz]) fun c o c1 c2 c3 c4 e => Heap.get?_push_of_some _ (up c o c1 c3 c4 e)
theorem zipG_next_end {z TI TO i1 i2 l1 l2 : Addr} {k1 k2 : Nat} {xs ys : Array Value} {a b : Value} {Q : Fin → Shared → Prop} (hh : A.handled = none) (D : ZipApart z TI TO i1 i2 l1 l2)
    (hz : IsZipG s.heap z TI TO) (hTI : IsPair s.heap TI (.ref i1) (.ref i2)) (hTO : IsPair s.heap TO a b)
    (h1 : s.heap.IsListIter i1 l1 k1) (h2 : s.heap.IsListIter i2 l2 k2) (hl1 : s.heap.IsList l1 xs) (hl2 : s.heap.IsList l2 ys) (hend : xs[k1]? = none ∨ ys[k2]? = none)
    (hE : ∀ h' e, (∀ c o, c ≠ z → c ≠ TO → c ≠ i1 → c ≠ i2 → s.heap.get? c = some o → h'.get? c = some o) → (∃ o, h'.get? e = some o ∧ o.cls = .type "StopIteration") → E (.ref e) { s with heap := h' }) :
    wpAny (model prog w) A (Builtin.«zip.__next__» ⟨[.ref z], []⟩) Q E s := by
  obtain ⟨f0, f1, hf, hz0⟩ := id hz
  show wpAny _ _ (field (.ref z) 2 >>= _) _ _ _
  refine wpAny_bind (wpAny_field hz0 rfl (x := .bool false) rfl ?_)
  show wpAny _ _ (field (.ref z) 3 >>= _) _ _ _
  refine wpAny_bind (wpAny_field hz0 rfl (x := .ref TI) rfl ?_)
  refine wpAny_bind (wpAny_seqItems hTI rfl ?_)
  show wpAny _ _ (Builtin.SmallTypes.ownedTupleIsFree (.ref z) >>= _) _ _ _
  refine wpAny_bind (wp_free hz fun fr h₀ hzf hzg hs₀ => ?_)
  cases fr with
  | true =>
    obtain ⟨f0', f1', hzf⟩ := hzf
    simp only [if_true]
    refine wpAny_bind (wpAny_rule ?_)
    refine wpAny_bind (wpAny_field hzf rfl (x := .ref TO) rfl ?_)
    refine wpAny_bind (wpAny_setField_rec hzf (by simp) fun h₁ hz₁ hs₁' => ?_)
    have hs₁ : Heap.SameBut z s.heap h₁ := ⟨hs₁'.1.trans hs₀.1, fun c hc => (hs₁'.2 c hc).trans (hs₀.2 c hc)⟩
    clear hs₁'
    refine wpAny_bind ?_
    simp only [List.zipIdx_cons, List.zipIdx_nil, List.forIn_cons, List.forIn_nil]
    refine wpAny_bind (wpAny_bind (wpAny_onRaise ?_))
    show wpAny _ _ (Builtin.SmallTypes.nextOf (.ref i1) >>= _) _ _ _
    cases hx : xs[k1]? with
    | none =>
      refine wpAny_bind (wpAny_nextOf_list_end hh (h1.extBut hs₁.extBut D.i1z) (hl1.extBut hs₁.extBut D.l1z) hx fun h₂ e hs₂ he => ?_)
      obtain ⟨oe, hoe, hce⟩ := he
      have hz₂ := hs₂ _ _ D.i1z.symm hz₁
      have hez : e ≠ z := fun x => by subst x; rw [hz₂] at hoe; cases hoe; simp at hce
      refine wpAny_setField_rec hz₂ (by simp) fun h₃ _ hs₃ => hE h₃ e (fun c o c1 _ c3 _ x => hs₃.extBut _ _ c1 (hs₂ _ _ c3 (hs₁.extBut _ _ c1 x))) ⟨oe, hs₃.extBut _ _ hez hoe, hce⟩
    | some x =>
      have hy : ys[k2]? = none := by rcases hend with h | h; rw [hx] at h; cases h; exact h
      refine wpAny_bind (wpAny_nextOf_list_item (h1.extBut hs₁.extBut D.i1z) (hl1.extBut hs₁.extBut D.l1z) hx fun h₂ h1₂ hs₂ => wpAny_pure ?_)
      have hTO₂ : IsPair h₂ TO a b := hs₂.extBut _ _ D.TOi1 (hs₁.extBut _ _ D.TOz hTO)
      refine wpAny_bind (wpAny_seqItems hTO₂ rfl ?_)
      refine wpAny_bind (wpAny_updateSeq_pair hTO₂ fun h₃ hTO₃ hs₃ => ?_)
      refine wpAny_bind (wpAny_letGo (wpAny_pure ?_))
      refine wpAny_bind (wpAny_bind (wpAny_onRaise ?_))
      show wpAny _ _ (Builtin.SmallTypes.nextOf (.ref i2) >>= _) _ _ _
      refine wpAny_bind (wpAny_nextOf_list_end hh (((h2.extBut hs₁.extBut D.i2z).extBut hs₂.extBut D.i12.symm).extBut hs₃.extBut D.TOi2.symm)
        (((hl2.extBut hs₁.extBut D.l2z).extBut hs₂.extBut D.l2i1).extBut hs₃.extBut D.l2TO) hy fun h₄ e hs₄ he => ?_)
      obtain ⟨oe, hoe, hce⟩ := he
      have hz₄ := hs₄ _ _ D.i2z.symm (hs₃.extBut _ _ D.TOz.symm (hs₂.extBut _ _ D.i1z.symm hz₁))
      have hez : e ≠ z := fun x => by subst x; rw [hz₄] at hoe; cases hoe; simp at hce
      refine wpAny_setField_rec hz₄ (by simp) fun h₅ _ hs₅ => hE h₅ e (fun c o c1 c2 c3 c4 x => hs₅.extBut _ _ c1 (hs₄ _ _ c4 (hs₃.extBut _ _ c2 (hs₂.extBut _ _ c3 (hs₁.extBut _ _ c1 x))))) ⟨oe, hs₅.extBut _ _ hez hoe, hce⟩
  | false =>
    simp only [Bool.false_eq_true, if_false]
    simp only [List.forIn_cons, List.forIn_nil, ← Array.forIn_toList]
    refine wpAny_bind (wpAny_bind (wpAny_bind (wpAny_holding ?_)))
    show wpAny _ _ (Builtin.SmallTypes.nextOf (.ref i1) >>= _) _ _ _
    cases hx : xs[k1]? with
    | none =>
      refine wpAny_bind (wpAny_nextOf_list_end hh (h1.extBut hs₀.extBut D.i1z) (hl1.extBut hs₀.extBut D.l1z) hx fun h₂ e hs₂ he => ?_)
      exact hE h₂ e (fun c o c1 _ c3 _ x => hs₂ _ _ c3 (hs₀.extBut _ _ c1 x)) he
    | some x =>
      have hy : ys[k2]? = none := by rcases hend with h | h; rw [hx] at h; cases h; exact h
      refine wpAny_bind (wpAny_nextOf_list_item (h1.extBut hs₀.extBut D.i1z) (hl1.extBut hs₀.extBut D.l1z) hx fun h₂ h1₂ hs₂ => wpAny_pure (wpAny_pure ?_))
      refine wpAny_bind (wpAny_bind (wpAny_holding ?_))
      show wpAny _ _ (Builtin.SmallTypes.nextOf (.ref i2) >>= _) _ _ _
      refine wpAny_bind (wpAny_nextOf_list_end hh ((h2.extBut hs₀.extBut D.i2z).extBut hs₂.extBut D.i12.symm) ((hl2.extBut hs₀.extBut D.l2z).extBut hs₂.extBut D.l2i1) hy fun h₄ e hs₄ he => ?_)
      exact hE h₄ e (fun c o c1 _ c3 c4 x => hs₄ _ _ c4 (hs₂.extBut _ _ c3 (hs₀.extBut _ _ c1 x))) he
theorem wpAny_nextOf_zip {z : Addr} {Q : Value → Shared → Prop} (hz : ∃ o, s.heap.get? z = some o ∧ o.cls = .type "zip") (h : wpAny (model prog w) A.in1 (Builtin.«zip.__next__» ⟨[.ref z], []⟩) (fun fin s' => ∃ v, fin = .done (.ret v) ∧ Q v s') E s) :
    wpAny (model prog w) A (Builtin.SmallTypes.nextOf (.ref z)) Q E s := by
  have hT : s.TypeIs (.ref z) "zip" := hz
  unfold Builtin.SmallTypes.nextOf
  refine wpAny_bind (wpAny_callSpecial?_slot (name := Str.ofString "__next__") hT F.slot_zip_next
    (wpAny_call_entry F.slot_zip_next hT F.entry_zip_next (wpAny_mono h (fun fin s' ⟨v, e, q⟩ => ⟨v, e, wpAny_pure q⟩) fun _ _ e => e) (F.args_zip_next_1 _)))
end
end L2
namespace L2
open PySem PySem.Spec PyProof.Rows
open AutoSeq1 (wpAny_loadPart')
theorem meets_enum_zip (z TI TO : Addr) :
    Meets (Builtin.«enumerate.__new__» ⟨[.type "enumerate", .ref z], []⟩) (fun _ R s => s.heap.get? z = some { cls := .type "zip", dict := none, data := .fields #[.none, .bool false, .bool false, .ref TI, .ref TO], slots := #[] } ∧
      R (.ok (.ret (.ref s.heap.objs.size))) { s with heap := s.heap.push { cls := .type "enumerate", data := .fields #[.none, .bool false, .ref z, rawInt 0, .none, .none] } }) :=
  .of_wp fun prog w A R s h => by
    obtain ⟨hp, g, d, tk, os⟩ := s; obtain ⟨hl, h⟩ := h
    have hsub := sub_enumerate
    have hL : IsZip (Shared.heap ⟨hp, g, d, tk, os⟩) z TI TO .none := hl
    wp_walk using wpAny_loadPart' hl
    refine wpAny_stack_any fun st => wpAny_pure ?_
    split
    · rename_i c _ _ _ _ _
      cases (c == Value.type "enumerate")
      · wp_walk using wpAny_loadPart' hl, wpAny_pyIter_zip hL
        exact ⟨_, rfl, h⟩
      · wp_walk using wpAny_loadPart' hl, wpAny_pyIter_zip hL
        exact ⟨_, rfl, h⟩
    · wp_walk using wpAny_loadPart' hl, wpAny_pyIter_zip hL
      exact ⟨_, rfl, h⟩
section
variable {prog : Program} {w : World} {A : Around} {E : Value → Shared → Prop} {s : Shared}
theorem call_enum_zip {z TI TO : Addr} {Q : Value → Shared → Prop} (hz : IsZip s.heap z TI TO .none)
    (h : ∀ h', IsEnum h' s.heap.objs.size z 0 .none → (∀ b o, s.heap.get? b = some o → h'.get? b = some o) → Q (.ref s.heap.objs.size) { s with heap := h' }) :
    wpAny (model prog w) A (call (.type "enumerate") [.ref z]) Q E s := by
  refine callType_new F.called_enumerate (by decide) (F.typeCall_enumerate_1 _) (F.newCall_enumerate_1 _) (fun obj => F.args_object_init_2 obj _) F.entry_enumerate_new
    (meets_enum_zip z TI TO) ⟨hz, ?_⟩
  have he : IsEnum (s.heap.push { cls := .type "enumerate", data := .fields #[.none, .bool false, .ref z, rawInt 0, .none, .none] }) s.heap.objs.size z 0 .none := Heap.get?_push_size _ rfl
  exact ⟨⟨_, he, rfl⟩, h _ he fun b o x => Heap.get?_push_of_some _ x⟩
theorem enum_next_of {e it : Addr} {i : Nat} {old : Value} {Q1 Q : Value → Shared → Prop} (he : IsEnum s.heap e it i old)
    (hn : wpAny (model prog w) A (Builtin.SmallTypes.nextOf (.ref it)) (fun x s1 => IsEnum s1.heap e it i old ∧ Q1 x s1) E s)
    (hQ : ∀ x s1 h', Q1 x s1 → e < s1.heap.objs.size → IsEnumOut h' e it ((i : Int) + 1) x s1.heap.objs.size →
      h'.get? s1.heap.objs.size = some { cls := .type "tuple", data := .seq #[.int i s1.toks, x] } →
      (∀ b o, b ≠ e → s1.heap.get? b = some o → h'.get? b = some o) → Q (.ref s1.heap.objs.size) { s1 with heap := h', toks := s1.toks + 1 }) :
    wpAny (model prog w) A (Builtin.«enumerate.__next__» ⟨[.ref e], []⟩) (fun fin s' => ∃ v, fin = .done (.ret v) ∧ Q v s') E s := by
  show wpAny _ _ (field (.ref e) 2 >>= _) _ _ _
  refine wpAny_bind (wpAny_field he rfl (x := .ref it) rfl ?_)
  refine wpAny_bind (wpAny_mono hn (fun x s1 hq => ?_) fun _ _ z => z)
  obtain ⟨he₁, q1⟩ := hq
  obtain ⟨h₁, g, d, tk, os⟩ := s1
  have q2 := fun h' => hQ x ⟨h₁, g, d, tk, os⟩ h' q1 (Heap.lt_size he₁)
  clear hQ hn q1
  show wpAny _ _ (field (.ref e) 3 >>= _) _ _ ⟨h₁, g, d, tk, os⟩
  refine wpAny_bind (wpAny_field he₁ rfl (x := rawInt i) rfl ?_)
  show wpAny _ _ (field (.ref e) 4 >>= _) _ _ ⟨h₁, g, d, tk, os⟩
  refine wpAny_bind (wpAny_field he₁ rfl (x := .none) rfl ?_)
  show wpAny _ _ (mkInt i >>= _) _ _ ⟨h₁, g, d, tk, os⟩
  refine wpAny_bind (wpAny_mkInt ?_)
  show wpAny _ _ (setField (.ref e) 3 (rawInt ((i : Int) + 1)) >>= _) _ _ ⟨h₁, g, d, tk + 1, os⟩
  refine wpAny_bind (wpAny_setField_rec he₁ (by simp) fun h₂ he₂ hs₂ => ?_)
  replace hs₂ : Heap.SameBut e h₁ h₂ := hs₂
  replace he₂ : IsEnum h₂ e it ((i : Int) + 1) old := he₂
  show wpAny _ _ (setField (.ref e) 4 .none >>= _) _ _ ⟨h₂, g, d, tk + 1, os⟩
  refine wpAny_bind (wpAny_setField_rec he₂ (by simp) fun h₃ he₃ hs₃ => ?_)
  replace hs₃ : Heap.SameBut e h₂ h₃ := hs₃
  replace he₃ : IsEnum h₃ e it ((i : Int) + 1) old := he₃
  show wpAny _ _ (newTuple [.int i tk, x] >>= _) _ _ ⟨h₃, g, d, tk + 1, os⟩
  refine wpAny_bind (wpAny_newTuple ?_)
  have he₄ : IsEnum (h₃.push { cls := .type "tuple", data := .seq #[.int i tk, x] }) e it ((i : Int) + 1) old := Heap.get?_push_of_some _ he₃
  generalize hh₄ : h₃.push { cls := .type "tuple", data := .seq #[.int i tk, x] } = h₄ at he₄
  have hsz : h₃.objs.size = h₁.objs.size := by rw [hs₃.1, hs₂.1]
  have hel : e < h₁.objs.size := Heap.lt_size he₁
  have ht₄ : h₄.get? h₁.objs.size = some { cls := .type "tuple", data := .seq #[.int i tk, x] } := by rw [← hh₄, ← hsz]; exact Heap.get?_push_size _ rfl
  have hk₄ : ∀ b o, b ≠ e → h₁.get? b = some o → h₄.get? b = some o := fun b o hbe hb => by
    rw [← hh₄]; exact Heap.get?_push_of_some _ (hs₃.extBut b o hbe (hs₂.extBut b o hbe hb))
  show wpAny _ _ (Builtin.SmallTypes.ownedTupleIsFree (.ref e) >>= _) _ _ ⟨h₄, g, d, tk + 1, os⟩
  rw [hsz]
  clear hh₄ he₃ hs₃ he₂ hs₂ he₁ hsz h₃ h₂
  refine wpAny_bind ?_
  unfold Builtin.SmallTypes.ownedTupleIsFree
  refine wpAny_bind (wpAny_field he₄ rfl (x := .none) rfl (wpAny_pure ?_))
  simp only [if_true]
  refine wpAny_bind (wpAny_rule ?_)
  refine wpAny_bind (wpAny_field he₄ rfl (x := old) rfl ?_)
  refine wpAny_bind (wpAny_setField_rec he₄ (by simp) fun h₅ he₅ hs₅ => ?_)
  replace hs₅ : Heap.SameBut e h₄ h₅ := hs₅
  replace he₅ : IsEnum h₅ e it ((i : Int) + 1) x := he₅
  show wpAny _ _ (Builtin.SmallTypes.ownedTupleHandOut (.ref e) (.ref h₁.objs.size) >>= _) _ _ ⟨h₅, g, d, tk + 1, os⟩
  refine wpAny_bind ?_
  unfold Builtin.SmallTypes.ownedTupleHandOut
  refine wpAny_bind (wpAny_setField_rec he₅ (by simp) fun h₆ he₆ hs₆ => ?_)
  replace hs₆ : Heap.SameBut e h₅ h₆ := hs₆
  replace he₆ : IsEnumOut h₆ e it ((i : Int) + 1) x h₁.objs.size := he₆
  refine wpAny_setField_rec he₆ (by simp) fun h₇ he₇ hs₇ => ?_
  replace hs₇ : Heap.SameBut e h₆ h₇ := hs₇
  replace he₇ : IsEnumOut h₇ e it ((i : Int) + 1) x h₁.objs.size := he₇
  refine wpAny_bind (wpAny_letGo (wpAny_pure ⟨_, rfl, q2 h₇ he₇ ?_ ?_⟩))
  · exact hs₇.extBut _ _ (Nat.ne_of_gt hel) (hs₆.extBut _ _ (Nat.ne_of_gt hel) (hs₅.extBut _ _ (Nat.ne_of_gt hel) ht₄))
  · exact fun b o hbe hb => hs₇.extBut b o hbe (hs₆.extBut b o hbe (hs₅.extBut b o hbe (hk₄ b o hbe hb)))
theorem pyNext_enum_of {e it : Addr} {i : Nat} {old : Value} {Q1 : Value → Shared → Prop} {Q : Option Value → Shared → Prop} (he : IsEnum s.heap e it i old)
    (hn : wpAny (model prog w) A.in1 (Builtin.SmallTypes.nextOf (.ref it)) (fun x s1 => IsEnum s1.heap e it i old ∧ Q1 x s1) (fun x s1 => (∃ a, x = .ref a ∧ ∃ o, s1.heap.get? a = some o ∧ o.cls = .type "StopIteration") ∧ Q none s1) s)
    (hQ : ∀ x s1 h', Q1 x s1 → e < s1.heap.objs.size → IsEnumOut h' e it ((i : Int) + 1) x s1.heap.objs.size →
      h'.get? s1.heap.objs.size = some { cls := .type "tuple", data := .seq #[.int i s1.toks, x] } →
      (∀ b o, b ≠ e → s1.heap.get? b = some o → h'.get? b = some o) → Q (some (.ref s1.heap.objs.size)) { s1 with heap := h', toks := s1.toks + 1 }) :
    wpAny (model prog w) A (pyNext (.ref e)) Q E s := by
  have hT : s.TypeIs (.ref e) "enumerate" := ⟨_, he, rfl⟩
  unfold pyNext
  refine wpAny_bind (wpAny_attempt (wpAny_callSpecial?_slot (name := Str.ofString "__next__") hT F.slot_enumerate_next
    (wpAny_call_entry F.slot_enumerate_next hT F.entry_enumerate_next (enum_next_of he (wpAny_mono hn (fun _ _ z => z) fun x s1 z => ?_) fun x s1 h' q a b c d => wpAny_pure (hQ x s1 h' q a b c d)) (F.args_enumerate_next_1 _))))
  obtain ⟨⟨a, rfl, o, ho, hc⟩, q⟩ := z
  refine wpAny_bind (wpAny_isInstance (T := "StopIteration") (b := true) ⟨o, ho, hc⟩ isSubtype_stop ?_)
  exact wpAny_pure q
end
def Itez (K : PySem.W.Frag) (a b : Addr) : It :=
  ⟨fun i H => ∃ xs ys x y, SqL K H a xs ∧ SqL K H b ys ∧ xs[i]? = some x ∧ ys[i]? = some y,
   fun i H v H' => ∃ p t x y, v = .ref t ∧ H p = none ∧ H t = none ∧ t ≠ p ∧ (∀ xs, SqL K H a xs → xs[i]? = some x) ∧ (∀ ys, SqL K H b ys → ys[i]? = some y) ∧ H' = upd (upd H p (.tup [x, y])) t (.tup [.int i, .ref p]),
   fun i H => ∃ xs ys, SqL K H a xs ∧ SqL K H b ys ∧ (xs.length ≤ i ∨ ys.length ≤ i)⟩
theorem turn_enumzip {P : Program} {w : World} {K : PySem.W.Frag} {es : List Expr} {k1 : Nat} {tp : Pos} (a b e z TI TO i1 i2 : Addr) (D : ZipApart z TI TO i1 i2 a b) (De : e ≠ z ∧ e ≠ TI ∧ e ≠ TO ∧ e ≠ i1 ∧ e ≠ i2) :
    Turn P w K (.Tuple es k1 tp) (Itez K a b) [e, z, TO, i1, i2, TI] e (fun i h => (∃ old, IsEnum h e z (i : Nat) old) ∧ IsZipG h z TI TO ∧ IsPair h TI (.ref i1) (.ref i2) ∧ (∃ u v, IsPair h TO u v) ∧ h.IsListIter i1 a i ∧ h.IsListIter i2 b i) where
  mem := by simp
  obj := fun i h st c hc => by
    obtain ⟨⟨old, e0⟩, ⟨f0, f1, _, e1⟩, e2, ⟨u, v, e3⟩, ⟨o4, e4, c4, d4⟩, ⟨o5, e5, c5, d5⟩⟩ := st
    simp only [List.mem_cons, List.not_mem_nil, or_false] at hc
    rcases hc with rfl | rfl | rfl | rfl | rfl | rfl
    · refine ⟨_, e0, fun v q => ?_⟩
      have q' : Data.fields _ = Data.cell v := q
      cases q'
    · refine ⟨_, e1, fun v q => ?_⟩
      have q' : Data.fields _ = Data.cell v := q
      cases q'
    · refine ⟨_, e3, fun v q => ?_⟩
      have q' : Data.seq _ _ = Data.cell v := q
      cases q'
    · exact ⟨o4, e4, fun v q => by rw [d4] at q; cases q⟩
    · exact ⟨o5, e5, fun v q => by rw [d5] at q; cases q⟩
    · refine ⟨_, e2, fun v q => ?_⟩
      have q' : Data.seq _ _ = Data.cell v := q
      cases q'
  keep := fun i h h' st k => by
    obtain ⟨⟨old, e0⟩, ⟨f0, f1, hf, e1⟩, e2, ⟨u, v, e3⟩, e4, e5⟩ := st
    exact ⟨⟨old, k e (by simp) _ e0⟩, ⟨f0, f1, hf, k z (by simp) _ e1⟩, k TI (by simp) _ e2, ⟨u, v, k TO (by simp) _ e3⟩, e4.at fun o e => k i1 (by simp) o e, e5.at fun o e => k i2 (by simp) o e⟩
  item := by
    intro X hP hw hK hc i pins s σ H E I hf st hg
    subst hP hw hK
    obtain ⟨xs, ys, x, y, hqx, hqy, hx, hy⟩ := hg
    obtain ⟨itx, rx, px, hzx⟩ := I.list hqx
    obtain ⟨ity, ry, py, hzy⟩ := I.list hqy
    obtain ⟨ux, hux, rux⟩ := rx.get hx
    obtain ⟨uy, huy, ruy⟩ := ry.get hy
    obtain ⟨⟨old, he⟩, hz, hTI, ⟨u, v, hTO⟩, hi1, hi2⟩ := st
    have hzo : ∃ o, s.heap.get? z = some o ∧ o.cls = .type "zip" := by obtain ⟨_, _, _, h⟩ := hz; exact ⟨_, h, rfl⟩
    have lt : ∀ c ∈ [e, z, TO, i1, i2, TI], c < s.heap.objs.size := by
      obtain ⟨_, _, _, h1⟩ := hz
      obtain ⟨o4, e4, _⟩ := hi1
      obtain ⟨o5, e5, _⟩ := hi2
      intro c hc
      simp only [List.mem_cons, List.not_mem_nil, or_false] at hc
      rcases hc with rfl | rfl | rfl | rfl | rfl | rfl
      · exact Heap.lt_size he
      · exact Heap.lt_size h1
      · exact Heap.lt_size hTO
      · exact Heap.lt_size e4
      · exact Heap.lt_size e5
      · exact Heap.lt_size hTI
    refine pyNext_enum_of (Q1 := fun vv s1 => vv = .ref s.heap.objs.size ∧ ∃ h1, s1 = { s with heap := h1 } ∧ IsZipG h1 z TI TO ∧ (∃ u v, IsPair h1 TO u v) ∧ h1.IsListIter i1 a (i + 1) ∧ h1.IsListIter i2 b (i + 1) ∧ IsPair h1 s.heap.objs.size ux uy ∧ h1.objs.size = s.heap.objs.size + 1 ∧
      (∀ c o, c ≠ z → c ≠ TO → c ≠ i1 → c ≠ i2 → s.heap.get? c = some o → h1.get? c = some o)) he
      (wpAny_nextOf_zip hzo (zipG_next_item D hz hTI hTO hi1 hi2 px.isList py.isList (x := ux) (y := uy) (by simpa using hux) (by simpa using huy) fun h1 b1 b2 b3 b4 b5 b6 b7 => ⟨b7 _ _ De.1 De.2.2.1 De.2.2.2.1 De.2.2.2.2 he, rfl, h1, rfl, b1, b2, b3, b4, b5, b6, b7⟩)) ?_
    rintro vv s1 h2 ⟨rfl, h1, rfl, b1, b2, b3, b4, b5, b6, b7⟩ hel hout htu hk2
    dsimp only at hel hout htu hk2
    refine ⟨_, rfl, ?_⟩
    refine wpAny_letOwnedTupleGo_enum hout fun h3 he3 hs3 => ?_
    replace hs3 : Heap.SameBut e h2 h3 := hs3
    rw [b6] at htu hout ⊢
    have hn : H s.heap.objs.size = none := I.hok.fresh (Nat.le_refl _)
    have hn2 : H (s.heap.objs.size + 1) = none := I.hok.fresh (Nat.le_succ _)
    have I1 : Inv X pins σ (upd H s.heap.objs.size (.tup [x, y])) { s with heap := h1, toks := s.toks } :=
      I.turnLay (ch := [z, TO, i1, i2]) (fun c o hc q => b7 c o (fun e => hc (by simp [e])) (fun e => hc (by simp [e])) (fun e => hc (by simp [e])) (fun e => hc (by simp [e])) q)
        (fun c hc => hf c (by simp only [List.mem_cons, List.not_mem_nil, or_false] at hc ⊢; rcases hc with e | e | e | e <;> simp [e])) (Nat.le_refl _) ⟨Nat.le_of_ble_eq_true rfl, [ux, uy], .cons rux (.cons ruy .nil), ⟨_, b5, rfl, 0, rfl⟩⟩
    have hfe : FpOk X pins (upd H s.heap.objs.size (.tup [x, y])) e := by
      obtain ⟨f0, f1⟩ := hf e (by simp)
      exact ⟨by rw [upd_ne (Nat.ne_of_lt (lt e (by simp)))]; exact f0, f1⟩
    have k13 : ∀ c o, c ≠ e → h1.get? c = some o → h3.get? c = some o := fun c o hc q => (hs3.2 c hc).trans (hk2 c o hc q)
    have ht3 : h3.get? (s.heap.objs.size + 1) = some { cls := .type "tuple", data := .seq #[.int i s.toks, .ref s.heap.objs.size] } := (hs3.2 _ (Nat.ne_of_gt (Nat.lt_succ_of_lt (lt e (by simp))))).trans htu
    have I2 : Inv X pins σ (upd (upd H s.heap.objs.size (.tup [x, y])) (s.heap.objs.size + 1) (.tup [.int i, .ref s.heap.objs.size])) { s with heap := h3, toks := s.toks + 1 } :=
      I1.turnLay (ch := [e]) (fun c o hc q => k13 c o (fun z => hc (by simp [z])) q) (fun c hc => by
        have z : c = e := by simpa using hc
        rw [z]; exact hfe) (Nat.le_of_eq b6) ⟨Nat.le_of_ble_eq_true rfl, [.int i s.toks, .ref s.heap.objs.size], .cons ⟨_, rfl⟩ (.cons rfl .nil), ⟨_, ht3, rfl, 0, rfl⟩⟩
    refine ⟨.ref (s.heap.objs.size + 1), _, I2, rfl, ⟨_, _, x, y, rfl, hn, hn2, Nat.succ_ne_self _, fun zs h => by rw [I.list_inj h hqx]; exact hx, fun zs h => by rw [I.list_inj h hqy]; exact hy, rfl⟩, ?_, fun c hc => ?_⟩
    · obtain ⟨g0, g1, hg, hzz⟩ := b1
      obtain ⟨u2, v2, hTO2⟩ := b2
      refine ⟨⟨.ref s.heap.objs.size, ?_⟩, ⟨g0, g1, hg, k13 _ _ De.1.symm hzz⟩, k13 _ _ De.2.1.symm (b7 _ _ D.TIz D.TITO D.TIi1 D.TIi2 hTI), ⟨u2, v2, k13 _ _ De.2.2.1.symm hTO2⟩, b3.at fun o q => k13 _ o De.2.2.2.1.symm q, b4.at fun o q => k13 _ o De.2.2.2.2.symm q⟩
      · have e1 : ((i + 1 : Nat) : Int) = (i : Int) + 1 := Int.natCast_succ i
        rw [e1]
        exact he3
    · have l := lt c hc
      rw [upd_ne (Nat.ne_of_lt (Nat.lt_succ_of_lt l)), upd_ne (Nat.ne_of_lt l)]
      exact (hf c hc).1
  done := by
    intro X hP hw hK hc i pins s σ H E I hf st hg
    subst hP hw hK
    obtain ⟨xs, ys, hqx, hqy, hx⟩ := hg
    obtain ⟨itx, rx, px, hzx⟩ := I.list hqx
    obtain ⟨ity, ry, py, hzy⟩ := I.list hqy
    obtain ⟨⟨old, he⟩, hz, hTI, ⟨u, v, hTO⟩, hi1, hi2⟩ := st
    have hzo : ∃ o, s.heap.get? z = some o ∧ o.cls = .type "zip" := by obtain ⟨_, _, _, h⟩ := hz; exact ⟨_, h, rfl⟩
    have hlx := rx.length
    have hly := ry.length
    refine pyNext_enum_of (Q1 := fun _ _ => False) he (wpAny_nextOf_zip hzo (zipG_next_end (I.ok.hd hc) D hz hTI hTO hi1 hi2 px.isList py.isList ?_ fun h' ee k hee => ⟨⟨ee, rfl, hee⟩, rfl, ?_⟩)) (fun _ _ _ q => q.elim)
    · rcases hx with h | h
      · exact .inl (by simp; omega)
      · exact .inr (by simp; omega)
    · exact I.turned4 (t' := s.toks) (ch := [z, TO, i1, i2]) (fun c o hc q => k c o (fun e => hc (by simp [e])) (fun e => hc (by simp [e])) (fun e => hc (by simp [e])) (fun e => hc (by simp [e])) q)
        (fun c hc => hf c (by simp only [List.mem_cons, List.not_mem_nil, or_false] at hc ⊢; rcases hc with e | e | e | e <;> simp [e]))
  self := fun _ _ _ _ _ st h => let ⟨⟨_, e1⟩, _⟩ := st; wpAny_pyIter_enum e1 h
theorem enumApart_new (n : Nat) : n + 5 ≠ n + 4 ∧ n + 5 ≠ n + 2 ∧ n + 5 ≠ n + 3 ∧ n + 5 ≠ n ∧ n + 5 ≠ n + 1 := by omega
section
variable {X : Cx} {es : List Expr} {k1 : Nat} {tp : Pos}
def iEnumZip (K : PySem.W.Frag) (ta : TA) : TI := fun σ H R => ta σ H fun vs H1 => ∃ a b, vs = [.ref a, .ref b] ∧ (∃ xs, SqL K H1 a xs) ∧ (∃ ys, SqL K H1 b ys) ∧ R (Itez K a b) H1
theorem pi_enumzip {a b : Expr} {ta : TA} {p pos p2 pos2 : Pos} (hg : Gl X "enumerate") (hm : X.mg "enumerate" = none) (hg2 : Gl X "zip") (hm2 : X.mg "zip" = none) (ha : PA X [a, b] ta) (hs : starEach [a, b] X.env = [(false, eval a X.env), (false, eval b X.env)] := by rfl) (hs2 : starEach [b] X.env = [(false, eval b X.env)] := by rfl)
    (hs3 : starEach [.Call (.Name "zip" p) [a, b] [] pos] X.env = (false, eval (.Call (.Name "zip" p) [a, b] [] pos) X.env) :: starEach [] X.env := by rfl) :
    PI X (.Tuple es k1 tp) (.Call (.Name "enumerate" p2) [.Call (.Name "zip" p) [a, b] [] pos] [] pos2) (iEnumZip X.K ta) := by
  intro pins s σ H R I h
  refine wpAny_Call_Name_kw (ld_blt I hg hm bt_enumerate ?_)
  refine PyProof.Rows.callWith_type1 ?_ hs3 (by rfl)
  rw [hs3]
  show wpAny _ _ (spliced ((false, eval (.Call (.Name "zip" p) [a, b] [] pos) X.env) :: backTo pos2 (starEach [] X.env))) _ _ s
  refine Calls.spliced_cons ?_
  refine wpAny_Call_Name_kw (ld_blt I hg2 hm2 bt_zip ?_)
  refine PyProof.Rows.callWith_type1 (thn (ha pos pins s σ H _ I h) fun us s1 ⟨vs, H1, I1, r1, q1⟩ => ?_) (by rw [hs, hs2]) (by rw [hs2]; rfl)
  obtain ⟨l1, l2, rfl, ⟨xs, hqx⟩, ⟨ys, hqy⟩, q⟩ := q1
  obtain ⟨u1, u2, rfl, ru1, ru2⟩ := vals2 r1
  cases ru1
  cases ru2
  obtain ⟨itx, rx, px, hzx⟩ := I1.list hqx
  obtain ⟨ity, ry, py, hzy⟩ := I1.list hqy
  have a1 : l1 < s1.heap.objs.size := by obtain ⟨_, e, _⟩ := px.isList; exact Heap.lt_size e
  have a2 : l2 < s1.heap.objs.size := by obtain ⟨_, e, _⟩ := py.isList; exact Heap.lt_size e
  refine call_zip_2 px.isList py.isList fun h' hz hTI hTO hi1 hi2 hsz hk => ?_
  refine Calls.spliced_nil ?_
  refine call_enum_zip hz fun h2 he hk2 => ?_
  refine wpAny_pyIter_enum he ?_
  dsimp only at he hk2 ⊢
  rw [hsz] at he ⊢
  refine ⟨s1.heap.objs.size + 5, [s1.heap.objs.size + 5, s1.heap.objs.size + 4, s1.heap.objs.size + 3, s1.heap.objs.size, s1.heap.objs.size + 1, s1.heap.objs.size + 2], _, _, H1, rfl, I1.kept (t' := s1.toks) (fun c o e => hk2 c o (hk c o e)), turn_enumzip l1 l2 _ _ _ _ _ _ (zipApart_new a1 a2) (enumApart_new _), ⟨⟨_, he⟩, ⟨_, _, .inl rfl, hk2 _ _ hz⟩, hk2 _ _ hTI, ⟨_, _, hk2 _ _ hTO⟩, hi1.at fun o e => hk2 _ o e, hi2.at fun o e => hk2 _ o e⟩, fun c hc => ?_, q⟩
  have hge : s1.heap.objs.size ≤ c := by
    simp only [List.mem_cons, List.not_mem_nil, or_false] at hc
    rcases hc with rfl | rfl | rfl | rfl | rfl | rfl <;> omega
  exact I1.fpOk hge (I1.hok.fresh hge)
end
theorem for_enumzip {K : PySem.W.Frag} {a b : Addr} {xs ys : List V} {g : TG} {tb : TS} {D : Ends} {σ : St} {H : Hp} (m : Nat) (hm : m ≤ xs.length ∧ m ≤ ys.length ∧ (xs.length ≤ m ∨ ys.length ≤ m)) (Pv : Nat → St → Hp → Prop) (h0 : Pv 0 σ H) (hl : ∀ i σ H, i ≤ m → Pv i σ H → SqL K H a xs ∧ SqL K H b ys)
    (hs : ∀ i x y p t σ H, i < m → xs[i]? = some x → ys[i]? = some y → Pv i σ H → H p = none → H t = none → t ≠ p → g (.ref t) σ (upd (upd H p (.tup [x, y])) t (.tup [.int i, .ref p])) fun σ2 H2 => tb { D with nx := Pv (i + 1), ct := Pv (i + 1), bk := D.nx } σ2 H2) (hd : ∀ σ H, Pv m σ H → D.nx σ H) :
    ∃ W : Nat → Nat → St → Hp → Prop, (∃ m, W 0 m σ H) ∧ ∀ i m σ H, W i m σ H →
      ((Itez K a b).stop i H ∧ D.nx σ H) ∨ ((Itez K a b).go i H ∧ ∃ N : St → Hp → Prop, (∀ σ' H', N σ' H' → ∃ m', m' < m ∧ W (i + 1) m' σ' H') ∧ ∀ x H', (Itez K a b).yld i H x H' → g x σ H' fun σ2 H2 => tb { D with nx := N, ct := N, bk := D.nx } σ2 H2) := by
  refine ⟨fun i n σ H => n = m - i ∧ i ≤ m ∧ Pv i σ H, ⟨m, by simp, Nat.zero_le _, h0⟩, ?_⟩
  rintro i n σ H ⟨rfl, hi, p⟩
  obtain ⟨qx, qy⟩ := hl i σ H hi p
  by_cases hlt : i < m
  · have hlx : i < xs.length := by omega
    have hly : i < ys.length := by omega
    refine .inr ⟨⟨xs, ys, xs[i], ys[i], qx, qy, by simp [hlx], by simp [hly]⟩, Pv (i + 1), fun σ' H' p' => ⟨m - (i + 1), by omega, rfl, hlt, p'⟩, fun v H' y => ?_⟩
    obtain ⟨pp, t, x, y, rfl, hn, hn2, hne, hx, hy, rfl⟩ := y
    exact hs i x y pp t σ _ hlt (hx xs qx) (hy ys qy) p hn hn2 hne
  · have e : i = m := by omega
    subst e
    exact .inl ⟨⟨xs, ys, qx, qy, hm.2.2⟩, hd σ H p⟩
end L2
namespace L2
open PySem PySem.Spec PyProof.Rows
section
variable {X : Cx} (K : PySem.W.Frag) (hK : X.K = K)
include hK
theorem kpi_enumzip {es : List Expr} {k1 : Nat} {tp : Pos} {a b : Expr} {ta : TA} {p pos p2 pos2 : Pos} (hg : Gl X "enumerate") (hm : X.mg "enumerate" = none) (hg2 : Gl X "zip") (hm2 : X.mg "zip" = none) (ha : PA X [a, b] ta) (hs : starEach [a, b] X.env = [(false, eval a X.env), (false, eval b X.env)] := by rfl) (hs2 : starEach [b] X.env = [(false, eval b X.env)] := by rfl)
    (hs3 : starEach [.Call (.Name "zip" p) [a, b] [] pos] X.env = (false, eval (.Call (.Name "zip" p) [a, b] [] pos) X.env) :: starEach [] X.env := by rfl) :
    PI X (.Tuple es k1 tp) (.Call (.Name "enumerate" p2) [.Call (.Name "zip" p) [a, b] [] pos] [] pos2) (iEnumZip K ta) := by subst hK; exact pi_enumzip hg hm hg2 hm2 ha hs hs2 hs3
end
end L2
namespace Unl
open PySem L2 PySem.Builtin.Str
theorem pick_range (x : Str) (a : Nat) : ∀ n, ((List.range n).map fun (k : Nat) => a + k).filterMap (x.cps[·]?) = (x.cps.toList.drop a).take n
  | 0 => rfl
  | n + 1 => by
    rw [List.range_succ, List.map_append, List.filterMap_append, pick_range x a n, List.take_add_one, List.getElem?_drop]
    congr 1
    show List.filterMap _ [a + n] = _
    rw [Array.getElem?_toList, List.filterMap_cons, List.filterMap_nil]
    cases x.cps[a + n]? <;> rfl
theorem range_of {a b : Int} {p m : Nat} (ha : a = (p : Int)) (hb : (b - a).toNat = m) : sliceRange a b 1 = (List.range m).map fun (k : Nat) => p + k := by
  subst ha
  unfold sliceRange
  simp only [show (1 : Int) > 0 by decide, if_true]
  have e : (if (p : Int) < b then (b - p + 1 - 1) / 1 else 0).toNat = m := by
    split <;> omega
  rw [e]
  refine List.map_congr_left fun k _ => ?_
  omega
theorem slice_by {x : Str} {lo hi : Option Int} {p m : Nat} (e : strSliceIndices lo hi 1 x.length = (List.range m).map fun (k : Nat) => p + k) (hm : m = x.length → p = 0) : (Txt.slice x lo hi).cps.toList = (x.cps.toList.drop p).take m := by
  have hl : x.cps.toList.length = x.length := Array.length_toList
  unfold Txt.slice
  rw [e]
  split
  · rename_i h
    simp only [List.length_map, List.length_range, beq_self_eq_true, Bool.true_and, beq_iff_eq] at h
    rw [hm h, List.drop_zero, List.take_of_length_le (by omega)]
  · show ((((List.range m).map fun (k : Nat) => p + k).filterMap (x.cps[·]?)).toArray).toList = _
    rw [pick_range]
theorem slice_to (x : Str) {z : Int} (n : Nat) (hz : z = (n : Int)) : (Txt.slice x none (some z)).cps.toList = x.cps.toList.take n := by
  have hl : x.cps.toList.length = x.length := Array.length_toList
  have e : strSliceIndices none (some z) 1 x.length = (List.range (min n x.length)).map fun (k : Nat) => 0 + k := by
    unfold strSliceIndices
    simp only [show (1 : Int) > 0 by decide, if_true]
    exact range_of rfl (by split <;> omega)
  rw [slice_by e (fun _ => rfl), List.drop_zero, ← hl, ← List.take_take, List.take_length]
def TextOk (m : Nat) (x : Str) : Prop := x.cps.toList.length ≤ m ∧ ∀ c ∈ x.cps.toList, c < 0x110000
theorem TextOk.len {m : Nat} {x : Str} (h : TextOk m x) : x.length ≤ m := by
  have hl : x.cps.toList.length = x.length := Array.length_toList
  rw [← hl]
  exact h.1
theorem TextOk.lay {m : Nat} {x : Str} (h : TextOk m x) : PyData.canLay0 (.str x) = true := by
  show (x.cps.all fun c => decide (c < 0x110000)) = true
  rw [← Array.all_toList, List.all_eq_true]
  exact fun c hc => decide_eq_true (h.2 c hc)
def cp : List Nat → List Nat → Nat
  | a :: x, b :: y => if a = b then cp x y + 1 else 0
  | _, _ => 0
theorem cp_le : ∀ x y, cp x y ≤ x.length ∧ cp x y ≤ y.length
  | [], _ => ⟨Nat.zero_le _, by cases ‹List Nat› <;> exact Nat.zero_le _⟩
  | _ :: _, [] => ⟨Nat.zero_le _, Nat.zero_le _⟩
  | a :: x, b :: y => by
    have := cp_le x y
    show (if a = b then cp x y + 1 else 0) ≤ x.length + 1 ∧ (if a = b then cp x y + 1 else 0) ≤ y.length + 1
    split <;> omega
theorem cp_lt : ∀ {x y : List Nat} {i : Nat}, i < cp x y → x[i]? = y[i]?
  | [], _, _, h => by cases ‹List Nat› <;> exact absurd h (Nat.not_lt_zero _)
  | _ :: _, [], _, h => absurd h (Nat.not_lt_zero _)
  | a :: x, b :: y, i, h => by
    have h : i < (if a = b then cp x y + 1 else 0) := h
    split at h
    · rename_i e
      cases i with
      | zero => rw [e]; rfl
      | succ j => exact cp_lt (x := x) (y := y) (Nat.lt_of_succ_lt_succ h)
    · exact absurd h (Nat.not_lt_zero _)
theorem cp_at : ∀ {x y : List Nat} {c d : Nat}, x[cp x y]? = some c → y[cp x y]? = some d → c ≠ d
  | [], _, _, _, h, _ => by simp at h
  | _ :: _, [], _, _, _, h => by simp at h
  | a :: x, b :: y, c, d, h, h2 => by
    by_cases e : a = b
    · have ec : cp (a :: x) (b :: y) = cp x y + 1 := if_pos e
      rw [ec] at h h2
      exact cp_at (x := x) (y := y) h h2
    · have ec : cp (a :: x) (b :: y) = 0 := if_neg e
      rw [ec] at h h2
      have h : some a = some c := h
      have h2 : some b = some d := h2
      cases h
      cases h2
      exact e
theorem cp_take {x y : List Nat} {i : Nat} (h : i ≤ cp x y) : x.take i = y.take i := by
  refine List.ext_getElem? fun j => ?_
  rw [List.getElem?_take, List.getElem?_take]
  split
  · exact cp_lt (by omega)
  · rfl
theorem cp_ne {x y : List Nat} (h : x ≠ y) : x.take (cp x y + 1) ≠ y.take (cp x y + 1) := by
  intro e
  have hle := cp_le x y
  have e1 : x[cp x y]? = y[cp x y]? := by
    have := congrArg (·[cp x y]?) e
    simpa [List.getElem?_take] using this
  cases hx : x[cp x y]? with
  | none =>
    rw [hx] at e1
    have l1 := List.getElem?_eq_none_iff.mp hx
    have l2 := List.getElem?_eq_none_iff.mp e1.symm
    have := cp_take (Nat.le_refl (cp x y))
    rw [List.take_of_length_le (by omega), List.take_of_length_le (by omega)] at this
    exact h this
  | some c => exact cp_at hx (e1 ▸ hx) rfl
def un : Nat → List Str → List Str → Option (Nat × Nat)
  | k, t :: ts, s :: ss => if t = s then un (k + 1) ts ss else some (k, cp t.cps.toList s.cps.toList)
  | _, [], [] => none
  | k, _, _ => some (k, 0)
theorem un_at : ∀ {i k : Nat} {ts ss : List Str} {t s : Str}, (∀ j, j < i → ts[j]? = ss[j]?) → ts[i]? = some t → ss[i]? = some s → t ≠ s → un k ts ss = some (k + i, cp t.cps.toList s.cps.toList)
  | _, _, [], _, _, _, _, h, _, _ => by simp at h
  | _, _, _ :: _, [], _, _, _, _, h, _ => by simp at h
  | 0, k, a :: ts, b :: ss, t, s, _, h, h2, n => by
    have h : some a = some t := h
    have h2 : some b = some s := h2
    cases h
    cases h2
    exact if_neg n
  | i + 1, k, a :: ts, b :: ss, t, s, q, h, h2, n => by
    have e : a = b := Option.some.inj (q 0 (Nat.succ_pos _))
    have := un_at (i := i) (k := k + 1) (ts := ts) (ss := ss) (fun j hj => q (j + 1) (Nat.succ_lt_succ hj)) h h2 n
    rw [show k + (i + 1) = k + 1 + i by omega, ← this]
    exact if_pos e
theorem un_end : ∀ {i k : Nat} {ts ss : List Str}, (∀ j, j < i → ts[j]? = ss[j]?) → i = min ts.length ss.length → ts.length ≠ ss.length → un k ts ss = some (k + i, 0)
  | _, _, [], [], _, _, h => absurd rfl h
  | i, k, [], b :: ss, _, e, _ => by
    have : i = 0 := by rw [e]; exact Nat.zero_min _
    subst this
    rfl
  | i, k, a :: ts, [], _, e, _ => by
    have : i = 0 := by rw [e]; exact Nat.min_zero _
    subst this
    rfl
  | 0, k, a :: ts, b :: ss, _, e, _ => by
    have e : 0 = min (ts.length + 1) (ss.length + 1) := e
    omega
  | i + 1, k, a :: ts, b :: ss, q, e, n => by
    have e0 : a = b := Option.some.inj (q 0 (Nat.succ_pos _))
    have e : i + 1 = min (ts.length + 1) (ss.length + 1) := e
    have n : ts.length + 1 ≠ ss.length + 1 := n
    have := un_end (i := i) (k := k + 1) (ts := ts) (ss := ss) (fun j hj => q (j + 1) (Nat.succ_lt_succ hj)) (by omega) (by omega)
    rw [show k + (i + 1) = k + 1 + i by omega, ← this]
    exact if_pos e0
theorem un_none : ∀ {k : Nat} (ts : List Str), un k ts ts = none
  | _, [] => rfl
  | k, t :: ts => (if_pos rfl : un k (t :: ts) (t :: ts) = un (k + 1) ts ts).trans (un_none ts)
theorem un_all {k : Nat} {ts ss : List Str} (q : ∀ j, j < ts.length → ts[j]? = ss[j]?) (h : ts.length = ss.length) : un k ts ss = none := by
  have : ts = ss := List.ext_getElem? fun j => by
    by_cases hj : j < ts.length
    · exact q j hj
    · rw [List.getElem?_eq_none (by omega), List.getElem?_eq_none (by omega)]
  rw [this]
  exact un_none ss
def UnAt (H : Hp) (v : V) : Option (Nat × Nat) → Prop
  | none => v = .non
  | some (i, p) => ∃ t, v = .ref t ∧ H t = some (.tup [.int i, .int p])
theorem UnAt.same {H H' : Hp} {v : V} {o : Option (Nat × Nat)} (h : UnAt H v o) (hs : Same H H') : UnAt H' v o := by
  cases o with
  | none => exact h
  | some ip =>
    obtain ⟨t, e, ht⟩ := h
    exact ⟨t, e, hs _ _ ht⟩
end Unl
namespace Lw
open PySem L2
set_option maxHeartbeats 4000000
section

local macro_rules | `(tactic| walk_at "hk") => `(tactic| first | assumption | exact upd_same | exact same_new (by assumption) _ _ _ (by walk_at "hk"))
local macro_rules | `(tactic| walk_at "rd1") => `(tactic| first | refine ⟨_, rfl, ?_⟩ | refine ⟨_, _, rfl, rfl, ?_⟩ | refine ⟨_, _, _, _, rfl, rfl, SqL.of (by walk_at "hk"), (by assumption), ?_⟩ | refine And.intro rfl ?_ | refine And.intro (Nat.le_of_ble_eq_true rfl) ?_ | refine And.intro (by first | decide | omega) ?_ | refine And.intro ⟨by first | decide | omega, by first | decide | omega⟩ ?_ | refine And.intro (.inl ⟨by first | decide | omega, by first | decide | omega⟩) ?_ | refine And.intro (.inr ⟨by first | decide | omega, by first | decide | omega⟩) ?_ | refine ⟨_, _, rfl, SqT.of (by first | exact upd_same | assumption), rfl, ?_⟩)
local macro_rules | `(tactic| walk_at "rd") => `(tactic| repeat (walk_at "rd1"))
local macro_rules | `(tactic| walk_at "tg") => `(tactic| refine ⟨_, _, rfl, ?_⟩)
def top (i : Nat) : Stmt := PySem.Challenge.pw_linecaster_k56_whole_keys_cast_and_read.main.body.getD i (.Pass ⟨0, 0, 0, 0⟩)
abbrev s_channel_of : Stmt := top 4
theorem sc_channel_of : FnScope ["case", "sign", "number", "channel"] ["case", "sign"] (defScope s_channel_of) := ⟨rfl, rfl, rfl, by decide +kernel, rfl, by decide +kernel, by decide +kernel⟩
abbrev s_keys_of : Stmt := top 8
theorem sc_keys_of : FnScope ["lines"] ["lines"] (defScope s_keys_of) := ⟨rfl, rfl, rfl, by decide +kernel, rfl, by decide +kernel, by decide +kernel⟩
abbrev s_is_sign_key : Stmt := top 9
theorem sc_is_sign_key : FnScope ["key"] ["key"] (defScope s_is_sign_key) := ⟨rfl, rfl, rfl, by decide +kernel, rfl, by decide +kernel, by decide +kernel⟩
abbrev s_goes_on : Stmt := top 10
theorem sc_goes_on : FnScope ["case", "keys", "at"] ["case", "keys", "at"] (defScope s_goes_on) := ⟨rfl, rfl, rfl, by decide +kernel, rfl, by decide +kernel, by decide +kernel⟩
abbrev s_look_at_keys : Stmt := top 11
theorem sc_look_at_keys : FnScope ["case", "keys", "at"] ["case", "keys"] (defScope s_look_at_keys) := ⟨rfl, rfl, rfl, by decide +kernel, rfl, by decide +kernel, by decide +kernel⟩
abbrev s_lines_of : Stmt := top 12
theorem sc_lines_of : FnScope ["case", "keys"] ["case", "keys"] (defScope s_lines_of) := ⟨rfl, rfl, rfl, by decide +kernel, rfl, by decide +kernel, by decide +kernel⟩
abbrev s_first_place_unlike : Stmt := top 14
theorem sc_first_place_unlike : FnScope ["one", "other", "place"] ["one", "other"] (defScope s_first_place_unlike) := ⟨rfl, rfl, rfl, by decide +kernel, rfl, by decide +kernel, by decide +kernel⟩
abbrev s_first_unlike : Stmt := top 15
theorem sc_first_unlike : FnScope ["case", "keys", "slugs", "texts", "number", "pair", "text", "slug"] ["case", "keys", "slugs"] (defScope s_first_unlike) := ⟨rfl, rfl, rfl, by decide +kernel, rfl, by decide +kernel, by decide +kernel⟩
abbrev s_law_cell_at : Stmt := top 17
theorem sc_law_cell_at : FnScope ["_law_script", "_law_k"] ["_law_script", "_law_k"] (defScope s_law_cell_at) := ⟨rfl, rfl, rfl, by decide +kernel, rfl, by decide +kernel, by decide +kernel⟩
abbrev s_law_mixed : Stmt := top 18
theorem sc_law_mixed : FnScope ["_law_cell", "_law_k"] ["_law_cell", "_law_k"] (defScope s_law_mixed) := ⟨rfl, rfl, rfl, by decide +kernel, rfl, by decide +kernel, by decide +kernel⟩
abbrev s_law_case : Stmt := top 19
theorem sc_law_case : FnScope ["_law_script", "_law_signs", "_law_first", "_law_case_here", "_law_k", "_law_number", "_law_sign", "_law_teeth", "_law_many"] ["_law_script"] (defScope s_law_case) := ⟨rfl, rfl, rfl, by decide +kernel, rfl, by decide +kernel, by decide +kernel⟩
abbrev s_law_word : Stmt := top 20
theorem sc_law_word : FnScope ["_law_case_here", "_law_number", "_law_most", "_law_word_here", "_law_k"] ["_law_case_here", "_law_number", "_law_most"] (defScope s_law_word) := ⟨rfl, rfl, rfl, by decide +kernel, rfl, by decide +kernel, by decide +kernel⟩
abbrev s_law_words : Stmt := top 21
theorem sc_law_words : FnScope ["_law_case_here", "_law_cells", "_law_k", "_law_most"] ["_law_case_here", "_law_cells", "_law_k", "_law_most"] (defScope s_law_words) := ⟨rfl, rfl, rfl, by decide +kernel, rfl, by decide +kernel, by decide +kernel⟩
abbrev s_law_texts : Stmt := top 22
theorem sc_law_texts : FnScope ["_law_lines"] ["_law_lines"] (defScope s_law_texts) := ⟨rfl, rfl, rfl, by decide +kernel, rfl, by decide +kernel, by decide +kernel⟩
abbrev s_law_refused : Stmt := top 23
theorem sc_law_refused : FnScope ["_law_case_here", "_law_keys", "_law_slugs", "_law_told", "e"] ["_law_case_here", "_law_keys", "_law_slugs"] (defScope s_law_refused) := ⟨rfl, rfl, rfl, by decide +kernel, rfl, by decide +kernel, by decide +kernel⟩
abbrev s_law_alike_to : Stmt := top 24
theorem sc_law_alike_to : FnScope ["_law_case_here", "_law_lines", "_law_others", "_law_found", "_law_line", "_law_place", "_law_one", "_law_other"] ["_law_case_here", "_law_lines", "_law_others"] (defScope s_law_alike_to) := ⟨rfl, rfl, rfl, by decide +kernel, rfl, by decide +kernel, by decide +kernel⟩
abbrev s_law : Stmt := top 25
theorem sc_law : FnScope ["_law_script", "_law_case_here", "_law_lines", "_law_k", "_law_keys", "_law_kept", "_law_some", "_law_others", "_law_at", "_law_own", "_law_strange", "_law_bad", "_law_slugs"] ["_law_script"] (defScope s_law) := ⟨rfl, rfl, rfl, by decide +kernel, rfl, by decide +kernel, by decide +kernel⟩
abbrev s_init_NoKeys : Stmt := inClass (top 2) 0
theorem sc_init_NoKeys : FnScope ["self", "at"] ["self", "at"] (defScope s_init_NoKeys) := ⟨rfl, rfl, rfl, by decide +kernel, rfl, by decide +kernel, by decide +kernel⟩
set_option genInjectivity false
set_option genSizeOf false
structure Ad where
  f_channel_of : Addr
  d_channel_of : FuncData
  f_keys_of : Addr
  d_keys_of : FuncData
  f_is_sign_key : Addr
  d_is_sign_key : FuncData
  f_goes_on : Addr
  d_goes_on : FuncData
  f_look_at_keys : Addr
  d_look_at_keys : FuncData
  f_lines_of : Addr
  d_lines_of : FuncData
  f_first_place_unlike : Addr
  d_first_place_unlike : FuncData
  f_first_unlike : Addr
  d_first_unlike : FuncData
  f_law_cell_at : Addr
  d_law_cell_at : FuncData
  f_law_mixed : Addr
  d_law_mixed : FuncData
  f_law_case : Addr
  d_law_case : FuncData
  f_law_word : Addr
  d_law_word : FuncData
  f_law_words : Addr
  d_law_words : FuncData
  f_law_texts : Addr
  d_law_texts : FuncData
  f_law_refused : Addr
  d_law_refused : FuncData
  f_law_alike_to : Addr
  d_law_alike_to : FuncData
  f_law : Addr
  d_law : FuncData
  c_CasterError : Addr
  c_NoKeys : Addr
  f_init_NoKeys : Addr
  d_init_NoKeys : FuncData
  t_GAP_KEY : Tok
  t_SEND_KEY : Tok
structure Tx (K : PySem.W.Frag) (mg : Str → Option Value) (a : Ad) : Prop where
  channel_of : D K mg "channel_of" s_channel_of ["case", "sign"] a.f_channel_of a.d_channel_of
  keys_of : D K mg "keys_of" s_keys_of ["lines"] a.f_keys_of a.d_keys_of
  is_sign_key : D K mg "is_sign_key" s_is_sign_key ["key"] a.f_is_sign_key a.d_is_sign_key
  goes_on : D K mg "goes_on" s_goes_on ["case", "keys", "at"] a.f_goes_on a.d_goes_on
  look_at_keys : D K mg "look_at_keys" s_look_at_keys ["case", "keys"] a.f_look_at_keys a.d_look_at_keys
  lines_of : D K mg "lines_of" s_lines_of ["case", "keys"] a.f_lines_of a.d_lines_of
  first_place_unlike : D K mg "first_place_unlike" s_first_place_unlike ["one", "other"] a.f_first_place_unlike a.d_first_place_unlike
  first_unlike : D K mg "first_unlike" s_first_unlike ["case", "keys", "slugs"] a.f_first_unlike a.d_first_unlike
  law_cell_at : D K mg "_law_cell_at" s_law_cell_at ["_law_script", "_law_k"] a.f_law_cell_at a.d_law_cell_at
  law_mixed : D K mg "_law_mixed" s_law_mixed ["_law_cell", "_law_k"] a.f_law_mixed a.d_law_mixed
  law_case : D K mg "_law_case" s_law_case ["_law_script"] a.f_law_case a.d_law_case
  law_word : D K mg "_law_word" s_law_word ["_law_case_here", "_law_number", "_law_most"] a.f_law_word a.d_law_word
  law_words : D K mg "_law_words" s_law_words ["_law_case_here", "_law_cells", "_law_k", "_law_most"] a.f_law_words a.d_law_words
  law_texts : D K mg "_law_texts" s_law_texts ["_law_lines"] a.f_law_texts a.d_law_texts
  law_refused : D K mg "_law_refused" s_law_refused ["_law_case_here", "_law_keys", "_law_slugs"] a.f_law_refused a.d_law_refused
  law_alike_to : D K mg "_law_alike_to" s_law_alike_to ["_law_case_here", "_law_lines", "_law_others"] a.f_law_alike_to a.d_law_alike_to
  law : D K mg "law" s_law ["_law_script"] a.f_law a.d_law
  cl_CasterError : CL K mg "CasterError" a.c_CasterError
  cl_NoKeys : CI K mg "NoKeys" "NoKeys.__init__" s_init_NoKeys ["self", "at"] a.c_NoKeys a.f_init_NoKeys a.d_init_NoKeys "at"
  bi : BI K a.c_CasterError
  m_NoKeys_CasterError : PySem.W.mroIn K a.c_NoKeys (.ref a.c_CasterError) = some true
  m_NoKeys_NoKeys : PySem.W.mroIn K a.c_NoKeys (.ref a.c_NoKeys) = some true
  g_GAP_KEY : mg "GAP_KEY" = some (.str " " a.t_GAP_KEY)
  g_SEND_KEY : mg "SEND_KEY" = some (.str "/" a.t_SEND_KEY)
  b_ValueError : mg "ValueError" = none
  b_enumerate : mg "enumerate" = none
  b_len : mg "len" = none
  b_list : mg "list" = none
  b_min : mg "min" = none
  b_range : mg "range" = none
  b_zip : mg "zip" = none
abbrev lawLevel : Nat := 8
def sp_law_mixed : Sp := fun vs H Q _ => ∃ c k : Int, vs = [.int c, .int k] ∧ 0 ≤ k ∧ k ≤ 1000000 ∧ ∀ z, 0 ≤ z → z < 2147483629 → Q (.int z) H
theorem ok_law_mixed (T : Tx K mg a) : FnOk P w K mg base CX0 1 a.f_law_mixed a.d_law_mixed ["_law_cell", "_law_k"] sp_law_mixed := by
  refine T.law_mixed.fn.ok sc_law_mixed (fun vs H Q E h => ?_) (fun cdv A outer s H vs Q E hr h => ?_)
  · obtain ⟨c, k, rfl, _⟩ := h
    rfl
  obtain ⟨c, k, rfl, h0, h1, q⟩ := h
  refine ⟨_, (pss_one (ps_ret (pe_op op_mod (pe_op op_mul (pe_op op_add (pe_op op_mod (pv 0) (pe_op op_pow pe_int pe_int)) pe_int) (pe_op op_add pe_int (pe_op op_mul (pe_op op_mul pe_int (pv 1)) (pv 1)))) pe_int))), ?_⟩
  have e18 : (10 : Int) ^ (18 : Int).toNat = 1000000000000000000 := by decide
  have hc0 := Int.emod_nonneg c (show (1000000000000000000 : Int) ≠ 0 by decide)
  have hc1 := Int.emod_lt_of_pos c (show (0 : Int) < 1000000000000000000 by decide)
  refine ⟨_, rfl, ?_⟩
  refine ⟨_, _, rfl, rfl, ⟨by decide, by decide, by decide⟩, ?_⟩
  refine ⟨_, _, rfl, rfl, (by show (0 : Int) < (10 : Int) ^ (18 : Int).toNat; rw [e18]; decide), ?_⟩
  dsimp only
  rw [e18]
  refine ⟨_, _, rfl, rfl, ?_⟩
  refine ⟨_, rfl, ?_⟩
  refine ⟨_, _, rfl, rfl, .inl ⟨by decide, by decide⟩, ?_⟩
  refine ⟨_, rfl, ?_⟩
  refine ⟨_, _, rfl, rfl, .inl ⟨by omega, by omega⟩, ?_⟩
  refine ⟨_, _, rfl, rfl, ?_⟩
  refine ⟨_, _, rfl, rfl, .inl ⟨by omega, by omega⟩, ?_⟩
  refine ⟨_, _, rfl, rfl, (by show (0 : Int) < 2147483629; decide), ?_⟩
  exact q _ (Int.emod_nonneg _ (by decide)) (Int.emod_lt_of_pos _ (by decide))
end
end Lw
namespace Lw
open PySem L2
set_option maxHeartbeats 4000000
section
variable {P : Program} {w : World} {K : PySem.W.Frag} {mg : Str → Option Value} {base : Heap} {a : Ad}
local macro_rules | `(tactic| walk_at "hk") => `(tactic| first | assumption | exact upd_same | exact same_new (by assumption) _ _ _ (by walk_at "hk"))
local macro_rules | `(tactic| walk_at "rd1") => `(tactic| first | refine ⟨_, rfl, ?_⟩ | refine ⟨_, _, rfl, rfl, ?_⟩ | refine ⟨_, _, _, _, rfl, rfl, SqL.of (by walk_at "hk"), (by assumption), ?_⟩ | refine And.intro rfl ?_ | refine And.intro (Nat.le_of_ble_eq_true rfl) ?_ | refine And.intro (by first | decide | omega) ?_ | refine And.intro ⟨by first | decide | omega, by first | decide | omega⟩ ?_ | refine And.intro (.inl ⟨by first | decide | omega, by first | decide | omega⟩) ?_ | refine And.intro (.inr ⟨by first | decide | omega, by first | decide | omega⟩) ?_ | refine ⟨_, _, rfl, SqT.of (by first | exact upd_same | assumption), rfl, ?_⟩)
local macro_rules | `(tactic| walk_at "rd") => `(tactic| repeat (walk_at "rd1"))
local macro_rules | `(tactic| walk_at "tg") => `(tactic| refine ⟨_, _, rfl, ?_⟩)
/-- a word that the case can set, short -/
def WordOk (rs : List Cs.Row) (m : Nat) (x : Str) : Prop := 1 ≤ x.length ∧ x.length ≤ m ∧ ∀ c ∈ x.cps.toList, (Cs.place rs (sg c)).isSome = true
theorem place_mem {rs : List Cs.Row} {r : Cs.Row} (h : r ∈ rs) : (Cs.place rs r.s).isSome = true := by
  unfold Cs.place
  rw [List.findIdx?_isSome, List.any_eq_true]
  exact ⟨r, h, decide_eq_true rfl⟩
def sp_law_word (K : PySem.W.Frag) : Sp := fun vs H Q _ => ∃ (l : Addr) (n m : Int) (rs : List Cs.Row), vs = [.ref l, .int n, .int m] ∧ Cs.CaseAt K H l rs ∧ rs ≠ [] ∧ rs.length ≤ 1000 ∧ (∀ r ∈ rs, ∃ c ∈ Cs.signs, r.s = sg c) ∧ 0 ≤ n ∧ 1 ≤ m ∧ m ≤ 1000 ∧ ∀ x, WordOk rs m.toNat x → Q (.str x) H
theorem ok_law_word (T : Tx K mg a) : FnOk P w K mg base CX0 1 a.f_law_word a.d_law_word ["_law_case_here", "_law_number", "_law_most"] (sp_law_word K) := by
  refine T.law_word.fn.ok sc_law_word (fun vs H Q E h => ?_) (fun cdv A outer s H vs Q E hr h => ?_)
  · obtain ⟨l, n, m, rs, rfl, _⟩ := h
    rfl
  obtain ⟨l, n, m, rs, rfl, ⟨xs, hS, hp⟩, hne, hl, hsg, hn0, hm1, hm2, q⟩ := h
  refine ⟨_, (pss_cons (ps_set (i := 3) sc_law_word.nd rfl (Or.inl rfl) pe_str)
      (pss_cons (ps_for PassesOwn.never rfl (pi_range1 rfl T.b_range (pa_cons (pe_op op_add pe_int (pe_op op_mod (pv 1) (pv 2))) pa_nil)) (pg_name (i := 4) sc_law_word.nd rfl (Or.inl rfl)) (pss_one (ps_set (i := 3) sc_law_word.nd rfl (Or.inl rfl) (pe_op op_add_str (pv 3) (pe_ix (kix_tup K rfl) (pe_ix (kix_list K rfl) (pv 0) (pe_op op_mod (pe_op op_fdiv (pv 1) (pe_op op_add pe_int (pv 4))) (pe_callB (klen_seq K rfl) rfl T.b_len bt_len (pa_cons (pv 0) pa_nil))) (fun _ _ => rfl)) pe_int (fun _ _ => rfl))))))
      (pss_one (ps_ret (pv 3))))), ?_⟩
  have hxl := Cs.rows_len hp
  have hpos : 0 < rs.length := List.length_pos_iff.mpr hne
  have hx0 := Int.emod_nonneg n (show m ≠ 0 by omega)
  have hx1 := Int.emod_lt_of_pos n (show 0 < m by omega)
  refine ⟨_, rfl, ?_⟩
  refine ⟨_, rfl, ?_⟩
  refine ⟨_, _, rfl, rfl, (by show 0 < m; omega), ?_⟩
  refine ⟨_, _, rfl, rfl, ?_⟩
  refine ⟨_, rfl, (by show -(2 ^ 62) ≤ 1 + n % m; omega), (by show 1 + n % m < 2 ^ 62; omega), ?_⟩
  refine for_range (n := (1 + n % m).toNat) (fun i σ H2 => ∃ (x : Str) (v4 : Option V), σ = [some (.ref l), some (.int n), some (.int m), some (.str x), v4] ∧ H2 = H ∧ x.length = i ∧ ∀ c ∈ x.cps.toList, (Cs.place rs (sg c)).isSome = true)
    ⟨"", none, rfl, rfl, by decide, fun c h => by rw [show (Str.ofString "").cps.toList = [] by decide] at h; cases h⟩ ?_ ?_
  · rintro i σ H2 hi ⟨x, v4, rfl, rfl, hxlen, hxp⟩
    have hd0 := Int.ediv_nonneg hn0 (show (0 : Int) ≤ 7 + (0 + (i : Int)) by omega)
    have hy0 := Int.emod_nonneg (n / (7 + (0 + (i : Int)))) (show (xs.length : Int) ≠ 0 by omega)
    have hy1 := Int.emod_lt_of_pos (n / (7 + (0 + (i : Int)))) (show (0 : Int) < xs.length by omega)
    obtain ⟨k, hk⟩ := Int.eq_ofNat_of_zero_le hy0
    have hkl : k < xs.length := by omega
    obtain ⟨r, hri, t, et, ht⟩ := Cs.pd_get hp (List.getElem?_eq_getElem hkl)
    have hat : atI xs (k : Int) = some (.ref t) := by rw [← et]; exact atI_nat (List.getElem?_eq_getElem hkl)
    have hrm := List.mem_of_getElem? hri
    obtain ⟨c, _, ec⟩ := hsg r hrm
    refine ⟨_, rfl, ?_⟩
    refine ⟨_, rfl, ?_⟩
    refine ⟨_, rfl, ?_⟩
    refine ⟨_, rfl, ?_⟩
    refine ⟨_, _, rfl, rfl, ?_⟩
    refine ⟨_, _, rfl, rfl, ⟨by omega, by omega⟩, ?_⟩
    refine ⟨_, rfl, ?_⟩
    refine ⟨l, _, rfl, .inl hS, ?_⟩
    refine ⟨_, _, rfl, rfl, (by show (0 : Int) < _; omega), ?_⟩
    dsimp only
    rw [hk]
    refine ⟨l, _, _, _, rfl, rfl, hS, hat, ?_⟩
    refine ⟨t, _, _, _, rfl, rfl, SqT.of ht, rfl, ?_⟩
    refine ⟨_, _, rfl, rfl, smallL (by rw [ec]; show x.length + 1 ≤ _; omega), ?_⟩
    refine ⟨x ++ r.s, _, rfl, rfl, ?_, fun d hd => ?_⟩
    · rw [Str.length_append, ec, hxlen]
      rfl
    · rw [ec, Str.cps_append, Array.toList_append] at hd
      rcases List.mem_append.mp hd with h | h
      · exact hxp d h
      · have : d = c := by simpa [sg] using h
        rw [this, ← ec]
        exact place_mem hrm
  · rintro σ H2 ⟨x, v4, rfl, rfl, hxlen, hxp⟩
    refine ⟨_, rfl, ?_⟩
    exact q x ⟨by omega, by omega, hxp⟩
def sp_law_words (K : PySem.W.Frag) : Sp := fun vs H Q _ => ∃ (l p : Addr) (k m : Int) (rs : List Cs.Row) (ns : List Int), vs = [.ref l, .ref p, .int k, .int m] ∧ Cs.CaseAt K H l rs ∧ rs ≠ [] ∧ rs.length ≤ 1000 ∧ (∀ r ∈ rs, ∃ c ∈ Cs.signs, r.s = sg c) ∧ SqL K H p (ns.map V.int) ∧ ns.length ≤ 1000 ∧ 0 ≤ k ∧ k ≤ 1000 ∧ 1 ≤ m ∧ m ≤ 1000 ∧
  ∀ (r : Addr) (ws : List Str) H', H r = none → Same H H' → H' r = some (.lst (ws.map V.str)) → ws.length = ns.length → (∀ x ∈ ws, WordOk rs m.toNat x) → Q (.ref r) H'
theorem ok_law_words (T : Tx K mg a) : FnOk P w K mg base CX0 2 a.f_law_words a.d_law_words ["_law_case_here", "_law_cells", "_law_k", "_law_most"] (sp_law_words K) := by
  have G_law_word := ok_law_word (P := P) (w := w) (base := base) T
  have G_law_mixed := ok_law_mixed (P := P) (w := w) (base := base) T
  refine T.law_words.fn.ok sc_law_words (fun vs H Q E h => ?_) (fun cdv A outer s H vs Q E hr h => ?_)
  · obtain ⟨l, p, k, m, rs, ns, rfl, _⟩ := h
    rfl
  obtain ⟨l, p, k, m, rs, ns, rfl, hC, hne, hl, hsg, hN, hnl, hk0, hk1, hm1, hm2, q⟩ := h
  refine ⟨_, (pss_one (ps_ret (pe_compG rfl (pi_range1 rfl T.b_range (pa_cons (pe_callB (klen_seq K rfl) rfl T.b_len bt_len (pa_cons (pv 1) pa_nil)) pa_nil)) (BlkOk.of (N' := ["_law_case_here", "_law_cells", "_law_k", "_law_most", "_law_j"]) (ms := []) (k := 1) (by rfl)) (fun _ _ _ _ _ => (pg_name (i := 4) (show List.Nodup (["_law_case_here", "_law_cells", "_law_k", "_law_most", "_law_j"] : List Str) from by decide +kernel) rfl (Or.inl rfl))) (fun _ _ _ _ _ => pts_nil) (fun _ _ _ _ _ => (pcall T.law_word G_law_word hr rfl (pa_cons (pv 0) (pa_cons (pcall T.law_mixed G_law_mixed hr rfl (pa_cons (pe_ix (kix_list K rfl) (pv 1) (pv 4) (fun _ _ => rfl)) (pa_cons (pe_op op_add (pv 2) (pv 4)) pa_nil))) (pa_cons (pv 3) pa_nil)))))))), ?_⟩
  refine ⟨_, rfl, ?_⟩
  refine ⟨p, _, rfl, .inl hN, ?_⟩
  rw [List.length_map]
  refine ⟨_, rfl, by omega, by omega, fun D hD => ?_⟩
  refine comp_range (n := ns.length) (fun i ys σ H2 => ∃ (ws : List Str) (v4 : Option V), ys = ws.map V.str ∧ σ = [some (.ref l), some (.ref p), some (.int k), some (.int m), v4] ∧ Same H H2 ∧ H2 D = some (.lst ys) ∧ ws.length = i ∧ ∀ x ∈ ws, WordOk rs m.toNat x)
    ?_ ?_ ?_
  · exact ⟨[], none, rfl, rfl, same_new hD _, upd_same, rfl, fun x h => nomatch h⟩
  · rintro i ys σ H2 hi ⟨ws, v4, rfl, rfl, hs, hh, hwl, hw⟩
    have hni : ns[i]? = some ns[i] := List.getElem?_eq_getElem hi
    have hat : atI (ns.map V.int) (0 + (i : Int)) = some (.int ns[i]) := by rw [Int.zero_add]; exact atI_nat (by rw [List.getElem?_map, hni] <;> rfl)
    refine ⟨_, rfl, ?_⟩
    refine ⟨_, rfl, ?_⟩
    refine ⟨_, rfl, ?_⟩
    refine ⟨p, _, _, _, rfl, rfl, hs.seq hN, hat, ?_⟩
    refine ⟨_, rfl, ?_⟩
    refine ⟨_, rfl, ?_⟩
    refine ⟨_, _, rfl, rfl, ?_⟩
    refine ⟨_, _, rfl, by omega, by omega, fun z hz0 hz1 => ?_⟩
    refine ⟨_, rfl, ?_⟩
    refine ⟨l, z, m, rs, rfl, hC.same hs, hne, hl, hsg, hz0, hm1, hm2, fun x hx => ?_⟩
    refine cnext hi hh (by rw [List.length_map]; omega) ⟨ws ++ [x], _, by rw [List.map_append]; rfl, rfl, same_upd hs hD, upd_same, by rw [List.length_append, hwl]; rfl, fun y hy => ?_⟩
    rcases List.mem_append.mp hy with h | h
    · exact hw y h
    · rw [List.mem_singleton.mp h]
      exact hx
  · rintro ys σ H2 ⟨ws, v4, rfl, rfl, hs, hh, hwl, hw⟩
    exact q D ws H2 hD hs hh hwl hw
def sp_law_cell_at (K : PySem.W.Frag) : Sp := fun vs H Q _ => ∃ (l : Addr) (k : Int) (ns : List Int), vs = [.ref l, .int k] ∧ SqL K H l (ns.map V.int) ∧ 0 ≤ k ∧ ∀ z, Q (.int z) H
theorem ok_law_cell_at (T : Tx K mg a) : FnOk P w K mg base CX0 1 a.f_law_cell_at a.d_law_cell_at ["_law_script", "_law_k"] (sp_law_cell_at K) := by
  refine T.law_cell_at.fn.ok sc_law_cell_at (fun vs H Q E h => ?_) (fun cdv A outer s H vs Q E hr h => ?_)
  · obtain ⟨l, k, ns, rfl, _⟩ := h
    rfl
  obtain ⟨l, k, ns, rfl, hS, h0, q⟩ := h
  refine ⟨_, (pss_cons (ps_if (pt_cmpR op_lt (pv 1) (pe_callB (klen_seq K rfl) rfl T.b_len bt_len (pa_cons (pv 0) pa_nil)) (nomark _)) (pss_one (ps_ret (pe_ix (kix_list K rfl) (pv 0) (pv 1) (fun _ _ => rfl)))) pss_nil)
      (pss_one (ps_ret pe_int))), ?_⟩
  walk_at "rd"
  refine ⟨l, _, rfl, .inl hS, ?_⟩
  walk_at "rd"
  refine ite2 (fun c => ?_) (fun c => ?_)
  · have c' := of_decide_eq_true c
    rw [List.length_map] at c'
    walk_at "rd"
    exact ⟨l, _, _, _, rfl, rfl, hS, atI_getD h0 c', q _⟩
  · exact q _
def stepsI : List Int := [1, 7, 11, 13, 17, 19, 23, 29]
/-- a step coprime to 30 leads to another place each time -/
theorem steps_apart {a st i j : Int} (hst : st ∈ stepsI) (hi : 0 ≤ i ∧ i < 30) (hj : 0 ≤ j ∧ j < 30) (h : (a + st * i) % 30 = (a + st * j) % 30) : i = j := by
  simp only [stepsI, List.mem_cons, List.not_mem_nil, or_false] at hst
  rcases hst with rfl | rfl | rfl | rfl | rfl | rfl | rfl | rfl <;> omega
def signAt (i : Int) : Nat := Cs.signs.getD i.toNat 0
theorem signs_at2 {i : Int} (h0 : 0 ≤ i) (h1 : i < 30) : signAt i ∈ Cs.signs ∧ atI (Str.ofString "abcdefghijklmnopqrstuvwxyz.,-'").cps.toList i = some (signAt i) := by
  rw [Cs.signs_cps]
  have hl : Cs.signs.length = 30 := by decide +kernel
  have hk : i.toNat < Cs.signs.length := by omega
  have ek : i = ((i.toNat : Nat) : Int) := by omega
  have e : signAt i = Cs.signs[i.toNat] := by
    unfold signAt
    rw [List.getD_eq_getElem?_getD, List.getElem?_eq_getElem hk]
    rfl
  have q : atI Cs.signs ((i.toNat : Nat) : Int) = some Cs.signs[i.toNat] := atI_nat (List.getElem?_eq_getElem hk)
  rw [← ek] at q
  rw [e]
  exact ⟨List.getElem_mem hk, q⟩
theorem signAt_inj' : ∀ i j : Fin 30, signAt (i.val : Int) = signAt (j.val : Int) → i = j := by decide +kernel
theorem signAt_inj {i j : Int} (hi : 0 ≤ i ∧ i < 30) (hj : 0 ≤ j ∧ j < 30) (h : signAt i = signAt j) : i = j := by
  have e1 : ((i.toNat : Nat) : Int) = i := by omega
  have e2 : ((j.toNat : Nat) : Int) = j := by omega
  have := signAt_inj' ⟨i.toNat, by omega⟩ ⟨j.toNat, by omega⟩ (by simpa only [e1, e2] using h)
  have q := congrArg Fin.val this
  have q : i.toNat = j.toNat := q
  omega
theorem sg_inj {c d : Nat} (h : sg c = sg d) : c = d := by
  have := congrArg (fun s : Str => s.cps.toList) h
  simpa [sg] using this
/-- the rows' signs, by their places -/
theorem rows_apart {rs : List Cs.Row} {a st : Int} (hst : st ∈ stepsI) (hl : rs.length ≤ 30) (h : ∀ (j : Nat) r, rs[j]? = some r → r.s = sg (signAt ((a + st * (j : Int)) % 30))) : (rs.map fun r => r.s).Nodup := by
  rw [List.Nodup, List.pairwise_map, List.pairwise_iff_getElem]
  intro i j hi hj hij e
  rw [h i _ (List.getElem?_eq_getElem hi), h j _ (List.getElem?_eq_getElem hj)] at e
  have e1 := signAt_inj (by omega) (by omega) (sg_inj e)
  have e2 := steps_apart hst (by omega) (by omega) e1
  omega
def sp_law_case (K : PySem.W.Frag) : Sp := fun vs H Q _ => ∃ (l : Addr) (ns : List Int), vs = [.ref l] ∧ SqL K H l (ns.map V.int) ∧
  ∀ (r : Addr) (xs : List V) (rs : List Cs.Row) (H' : Hp), H r = none → Same H H' → H' r = some (.lst xs) → Paired (Cs.RowAt H') xs rs → 1 ≤ rs.length → rs.length ≤ 30 → (∀ x ∈ rs, ∃ c ∈ Cs.signs, x.s = sg c) → (rs.map fun x => x.s).Nodup → (∀ x ∈ rs, 1 ≤ x.w ∧ x.w ≤ 99) → Q (.ref r) H'
theorem ok_law_case (T : Tx K mg a) : FnOk P w K mg base CX0 2 a.f_law_case a.d_law_case ["_law_script"] (sp_law_case K) := by
  have G_law_cell_at := ok_law_cell_at (P := P) (w := w) (base := base) T
  have G_law_mixed := ok_law_mixed (P := P) (w := w) (base := base) T
  refine T.law_case.fn.ok sc_law_case (fun vs H Q E h => ?_) (fun cdv A outer s H vs Q E hr h => ?_)
  · obtain ⟨l, ns, rfl, _⟩ := h
    rfl
  obtain ⟨l, ns, rfl, hS, q⟩ := h
  refine ⟨_, (pss_cons (ps_set (i := 1) sc_law_case.nd rfl (Or.inl rfl) pe_str)
      (pss_cons (ps_set (i := 2) sc_law_case.nd rfl (Or.inl rfl) (pcall T.law_mixed G_law_mixed hr rfl (pa_cons (pcall T.law_cell_at G_law_cell_at hr rfl (pa_cons (pv 0) (pa_cons pe_int pa_nil))) (pa_cons pe_int pa_nil))))
      (pss_cons (ps_set (i := 3) sc_law_case.nd rfl (Or.inl rfl) (pe_lst pa_nil))
      (pss_cons (ps_for PassesOwn.never rfl (pi_range1 rfl T.b_range (pa_cons (pe_op op_add pe_int (pe_op op_mod (pcall T.law_mixed G_law_mixed hr rfl (pa_cons (pcall T.law_cell_at G_law_cell_at hr rfl (pa_cons (pv 0) (pa_cons pe_int pa_nil))) (pa_cons pe_int pa_nil))) pe_int)) pa_nil)) (pg_name (i := 4) sc_law_case.nd rfl (Or.inl rfl)) (pss_cons (ps_set (i := 5) sc_law_case.nd rfl (Or.inl rfl) (pcall T.law_mixed G_law_mixed hr rfl (pa_cons (pe_op op_add (pcall T.law_cell_at G_law_cell_at hr rfl (pa_cons (pv 0) (pa_cons (pe_op op_mod (pv 4) pe_int) pa_nil))) (pv 4)) (pa_cons (pe_op op_add (pv 4) pe_int) pa_nil))))
      (pss_cons (ps_set (i := 6) sc_law_case.nd rfl (Or.inl rfl) (pe_ix ix_str (pv 1) (pe_op op_mod (pe_op op_add (pv 2) (pe_op op_mul (pe_ix (kix_list K rfl) (pe_lst (pa_cons pe_int (pa_cons pe_int (pa_cons pe_int (pa_cons pe_int (pa_cons pe_int (pa_cons pe_int (pa_cons pe_int (pa_cons pe_int pa_nil))))))))) (pe_op op_mod (pe_op op_fdiv (pv 2) pe_int) pe_int) (fun _ _ => rfl)) (pv 4))) pe_int) (fun _ _ => rfl)))
      (pss_cons (ps_set (i := 7) sc_law_case.nd rfl (Or.inl rfl) (pe_op op_mod (pe_op op_add (pe_op op_fdiv (pv 2) pe_int) (pe_op op_mul (pe_op op_add (pe_op op_mul pe_int (pe_op op_mod (pe_op op_fdiv (pv 2) pe_int) pe_int)) pe_int) (pv 4))) pe_int))
      (pss_cons (ps_set (i := 8) sc_law_case.nd rfl (Or.inl rfl) (pe_op op_mul (pe_op op_mod (pe_op op_fdiv (pv 5) pe_int) pe_int) (pe_callB (call_min2 rfl) rfl T.b_min bt_min (pa_cons pe_int (pa_cons (pe_op op_mod (pe_op op_fdiv (pv 5) pe_int) pe_int) pa_nil)))))
      (pss_one (ps_expr (kpe_bm K rfl PySem.F.plainAttrs_list PySem.F.slot_list_append PySem.F.type_list_append mt_append (pv 3) (pa_cons (pe_tup (pa_cons (pv 6) (pa_cons (pe_op op_add pe_int (pe_op op_mod (pv 5) (pe_ix (kix_list K rfl) (pe_lst (pa_cons pe_int (pa_cons pe_int (pa_cons pe_int pa_nil)))) (pe_op op_mod (pe_op op_fdiv (pv 2) pe_int) pe_int) (fun _ _ => rfl)))) (pa_cons (pv 7) (pa_cons (pv 8) pa_nil))))) pa_nil)))))))))
      (pss_one (ps_ret (pv 3))))))), ?_⟩
  walk_at "rd"
  refine ⟨l, 0, ns, rfl, hS, by decide, fun c0 => ?_⟩
  walk_at "rd"
  refine ⟨_, _, rfl, by decide, by decide, fun f hf0 hf1 => ?_⟩
  walk_at "rd"
  intro rc hrc
  obtain ⟨st, hst, est⟩ := ints_mem (zs := [1, 7, 11, 13, 17, 19, 23, 29]) (i := f / 30 % 8) (by omega) (by show f / 30 % 8 < 8; omega)
  have hst' : 1 ≤ st ∧ st ≤ 29 := by simp at hst; omega
  obtain ⟨wd, hwd, ewd⟩ := ints_mem (zs := [3, 12, 99]) (i := f / 5 % 3) (by omega) (by show f / 5 % 3 < 3; omega)
  have hwd' : 3 ≤ wd ∧ wd ≤ 99 := by simp at hwd; omega
  have hs1 := same_new hrc (.lst [])
  walk_at "rd"
  refine ⟨l, 1, ns, rfl, hs1.seq hS, by decide, fun c1 => ?_⟩
  walk_at "rd"
  refine ⟨_, _, rfl, by decide, by decide, fun g hg0 hg1 => ?_⟩
  walk_at "rd"
  refine for_range (n := (1 + g % 30).toNat) (fun i σ H2 => ∃ (xs : List V) (rs : List Cs.Row) (v4 v5 v6 v7 v8 : Option V), σ = [some (.ref l), some (.str "abcdefghijklmnopqrstuvwxyz.,-'"), some (.int f), some (.ref rc), v4, v5, v6, v7, v8] ∧ Same H H2 ∧ H2 rc = some (.lst xs) ∧ Paired (Cs.RowAt H2) xs rs ∧ rs.length = i ∧ (∀ (j : Nat) r, rs[j]? = some r → r.s = sg (signAt ((f + st * (j : Int)) % 30))) ∧ ∀ x ∈ rs, 1 ≤ x.w ∧ x.w ≤ 99)
    ⟨[], [], none, none, none, none, none, rfl, hs1, upd_same, .nil, rfl, fun j r h => by simp at h, fun x h => nomatch h⟩ ?_ ?_
  · rintro i σ H2 hi ⟨xs, rs, v4, v5, v6, v7, v8, rfl, hs, hhc, hpd, hrl, hsg, hwb⟩
    have hi30 : (i : Int) < 30 := by omega
    obtain ⟨hcs, ec⟩ := signs_at2 (i := (f + st * (0 + (i : Int))) % 30) (by omega) (by omega)
    walk_at "rd"
    refine ⟨l, _, ns, rfl, hs.seq hS, by omega, fun c2 => ?_⟩
    walk_at "rd"
    refine ⟨_, _, rfl, by omega, by omega, fun z hz0 hz1 => ?_⟩
    walk_at "rd"
    intro p1 hp1
    walk_at "rd"
    refine ⟨_, _, _, rfl, rfl, by decide, ec, ?_⟩
    walk_at "rd"
    try refine ⟨_, _, rfl, ?_⟩
    walk_at "rd"
    have hsA := same_new hp1 (.lst [.int 1, .int 7, .int 11, .int 13, .int 17, .int 19, .int 23, .int 29])
    have hhA := hsA _ _ hhc
    refine ⟨.inl ⟨rfl, _, SqL.of hhA⟩, ?_⟩
    walk_at "rd"
    intro p2 hp2
    have hsB := same_add (o := .lst [.int 3, .int 12, .int 99]) hsA hp2
    have hz2 := Int.emod_nonneg z (show wd ≠ 0 by omega)
    have hz3 := Int.emod_lt_of_pos z (show 0 < wd by omega)
    walk_at "rd"
    intro t ht
    have hsC := same_add (o := .tup (Cs.rowV ⟨sg (signAt ((f + st * (0 + (i : Int))) % 30)), 1 + z % wd, (f / 240 + (2 * (f / 30000 % 64) + 1) * (0 + (i : Int))) % 128, z / 99 % 41 * (if z / 11 % 5 < 1 then z / 11 % 5 else 1)⟩)) hsB ht
    have hhC := hsC _ _ hhc
    have hxl := Cs.rows_len hpd
    refine ⟨rc, _, _, rfl, rfl, hhC, smallLt (by omega), ?_⟩
    refine ⟨xs ++ [.ref t], rs ++ [⟨sg (signAt ((f + st * (0 + (i : Int))) % 30)), 1 + z % wd, (f / 240 + (2 * (f / 30000 % 64) + 1) * (0 + (i : Int))) % 128, z / 99 % 41 * (if z / 11 % 5 < 1 then z / 11 % 5 else 1)⟩], _, _, _, _, _, rfl, same_upd (hs.trans hsC) hrc, upd_same, ?_, by rw [List.length_append, hrl]; rfl, fun j r hj => ?_, fun x hx => ?_⟩
    · refine Paired.snoc (Cs.rows_upd (Cs.rows_same hpd hsC) hhC (fun z e => by cases e)) ⟨t, rfl, ?_⟩
      rw [upd_ne (ne_of upd_same hhC (fun e => by cases e)), upd_same]
      rfl
    · by_cases hji : j < rs.length
      · rw [List.getElem?_append_left hji] at hj
        exact hsg j r hj
      · have hj2 := (List.getElem?_eq_some_iff.mp hj).1
        rw [List.length_append] at hj2
        have hj3 : j = rs.length := by
          have : j < rs.length + 1 := hj2
          omega
        subst hj3
        rw [List.getElem?_append_right (Nat.le_refl _), Nat.sub_self] at hj
        have hj : _ = r := Option.some.inj hj
        subst hj
        show sg (signAt ((f + st * (0 + (i : Int))) % 30)) = _
        rw [Int.zero_add, hrl]
    · rcases List.mem_append.mp hx with h | h
      · exact hwb x h
      · rw [List.mem_singleton.mp h]
        show 1 ≤ 1 + z % wd ∧ 1 + z % wd ≤ 99
        omega
  · rintro σ H2 ⟨xs, rs, v4, v5, v6, v7, v8, rfl, hs, hhc, hpd, hrl, hsg, hwb⟩
    refine ⟨_, rfl, ?_⟩
    refine q rc xs rs H2 hrc hs hhc hpd (by omega) (by omega) (fun x hx => ?_) (rows_apart hst (by omega) hsg) hwb
    obtain ⟨j, hj, e⟩ := List.getElem_of_mem hx
    rw [← e, hsg j _ (List.getElem?_eq_getElem hj)]
    exact ⟨_, (signs_at2 (by omega) (by omega)).1, rfl⟩
def sp_keys_of (K : PySem.W.Frag) : Sp := fun vs H Q _ => ∃ (p no : Addr) (xs : List V) (ls : List (List Str)), vs = [.ref p] ∧ SqL K H p xs ∧ Paired (Lns.LineN no H) xs ls ∧ Lns.Fit ls ∧ ∀ H', Same H H' → Q (.str (Lns.keyT ls)) H'
theorem ok_keys_of (T : Tx K mg a) : FnOk P w K mg base CX0 1 a.f_keys_of a.d_keys_of ["lines"] (sp_keys_of K) := by
  refine T.keys_of.fn.ok sc_keys_of (fun vs H Q E h => ?_) (fun cdv A outer s H vs Q E hr h => ?_)
  · obtain ⟨p, no, xs, ls, rfl, _⟩ := h
    rfl
  obtain ⟨p, no, xs, ls, rfl, hS, hp, hf, q⟩ := h
  have hxl := Lns.lines_len hp
  have hf1 := hf.1
  refine ⟨_, (pss_one (ps_ret (kpe_bm K rfl PySem.F.plainAttrs_str PySem.F.slot_str_join PySem.F.type_str_join (kmt_join K rfl) pe_str (pa_cons (pe_compG rfl (kpi_list K rfl (pv 0)) (BlkOk.of (N' := ["lines", "line"]) (ms := []) (k := 1) (by rfl)) (fun _ _ _ _ _ => (pg_name (i := 1) (show List.Nodup (["lines", "line"] : List Str) from by decide +kernel) rfl (Or.inl rfl))) (fun _ _ _ _ _ => pts_nil) (fun _ _ _ _ _ => (pe_op op_add_str (kpe_bm K rfl PySem.F.plainAttrs_str PySem.F.slot_str_join PySem.F.type_str_join (kmt_join K rfl) pe_str (pa_cons (pv 1) pa_nil)) (pe_glob (v := .str "/") rfl T.g_SEND_KEY ⟨_, rfl⟩)))) pa_nil)))), ?_⟩
  walk_at "rd"
  intro D hD
  refine comp_list (a := p) (xs := xs) (fun i ys σ H2 => ∃ (v2 : Option V), ys = ((ls.take i).map fun l => Lns.lineT l ++ "/").map V.str ∧ σ = [some (.ref p), v2] ∧ Same H H2 ∧ H2 D = some (.lst ys))
    ?_ ?_ ?_ ?_
  · exact ⟨none, rfl, rfl, same_new hD _, upd_same⟩
  · rintro i ys σ H2 hi ⟨v2, _, _, hs, _⟩
    exact hs.seq hS
  · rintro i x ys σ H2 hx hil ⟨v2, rfl, rfl, hs, hh⟩
    obtain ⟨l, hl, p2, rfl, _, hp2⟩ := Cs.pd_get hp hx
    obtain ⟨hl1, hl2⟩ := hf.2 l (List.mem_of_getElem? hl)
    have hll := Lns.lineT_len hl1 hl2
    walk_at "rd"
    refine ⟨_, p2, l, rfl, rfl, SqL.of (hs _ _ hp2), Lns.line_small hl1 hl2, ?_⟩
    walk_at "rd"
    refine ⟨smallL ?_, ?_⟩
    · have e : (Str.ofString "/").length = 1 := by decide
      have e2 : (Txt.join (Str.ofString " ") l).length ≤ 10100 := hll
      omega
    refine cnext hil hh ?_ ⟨_, ?_, rfl, same_upd hs hD, upd_same⟩
    · rw [List.length_map, List.length_map, List.length_take]
      omega
    · rw [List.take_add_one, hl, List.map_append, List.map_append]
      rfl
  · rintro ys σ H2 ⟨v2, rfl, rfl, hs, hh⟩
    rw [hxl, List.take_of_length_le (Nat.le_refl _)] at hh
    refine ⟨_, D, _, rfl, rfl, SqL.of hh, Lns.keys_small hf, ?_⟩
    have e := Lns.join_cat ls
    have q := q _ hs
    rw [← e] at q
    exact q
def sp_channel_of (K : PySem.W.Frag) : Sp := fun vs H Q _ => ∃ (l : Addr) (x : Str) (rs : List Cs.Row), vs = [.ref l, .str x] ∧ Cs.CaseAt K H l rs ∧ ∀ H', Same H H' → Q (Mt.optV (Cs.place rs x)) H'
theorem ok_channel_of (T : Tx K mg a) : FnOk P w K mg base CX0 1 a.f_channel_of a.d_channel_of ["case", "sign"] (sp_channel_of K) := by
  refine T.channel_of.fn.ok sc_channel_of (fun vs H Q E h => ?_) (fun cdv A outer s H vs Q E hr h => ?_)
  · obtain ⟨l, x, rs, rfl, _⟩ := h
    rfl
  obtain ⟨l, x, rs, rfl, ⟨xs, hS, hp⟩, q⟩ := h
  refine ⟨_, (pss_cons (ps_for PassesOwn.never rfl (kpi_enum K rfl rfl T.b_enumerate (pa_cons (pv 0) pa_nil)) (kpg_tup K rfl (n := 2) rfl (pgs_cons (pg_name (i := 2) sc_channel_of.nd rfl (Or.inl rfl)) (pgs_cons (pg_name (i := 3) sc_channel_of.nd rfl (Or.inl rfl)) pgs_nil))) (pss_one (ps_if (pt_cmpR op_eq (pe_ix (kix_tup K rfl) (pv 3) pe_int (fun _ _ => rfl)) (pv 1) (nomark _)) (pss_one (ps_ret (pv 2))) pss_nil)))
      (pss_one (ps_ret pe_non))), ?_⟩
  walk_at "rd"
  try refine ⟨⟨_, hS⟩, ?_⟩
  refine for_enum (a := l) (xs := xs) (fun i σ H2 => ∃ (v1 v2 : Option V), σ = [some (.ref l), some (.str x), v1, v2] ∧ Same H H2 ∧ ∀ (j : Nat) r, j < i → rs[j]? = some r → r.s ≠ x)
    ⟨none, none, rfl, Same.refl _, fun j _ h => absurd h (Nat.not_lt_zero _)⟩ (fun i σ H2 _ ⟨_, _, _, hs, _⟩ => hs.seq hS) ?_ ?_
  · rintro i y p σ H2 hy ⟨v1, v2, rfl, hs, hb⟩ hpn
    obtain ⟨r, hri, t, rfl, ht⟩ := Cs.pd_get hp hy
    have hs2 := same_add (o := .tup [.int i, .ref t]) hs hpn
    have ht2 := hs2 _ _ ht
    walk_at "rd"
    walk_at "tg"
    walk_at "tg"
    walk_at "rd"
    refine ⟨t, _, _, _, rfl, rfl, SqT.of ht2, rfl, ?_⟩
    walk_at "rd"
    rw [Cs.strV]
    by_cases e : r.s = x
    · rw [decide_eq_true e]
      refine iteT ?_
      walk_at "rd"
      have := q _ hs2
      rw [Cs.place_some hri e hb] at this
      exact this
    · rw [decide_eq_false e]
      refine iteF ?_
      refine ⟨_, _, rfl, hs2, fun j r' hj hr' => ?_⟩
      by_cases z : j = i
      · subst z
        rw [hri] at hr'
        cases hr'
        exact e
      · exact hb j r' (by omega) hr'
  · rintro σ H2 ⟨v1, v2, rfl, hs, hb⟩
    have := q _ hs
    rw [Cs.place_none (fun j r hj => hb j r (by rw [Cs.rows_len hp]; exact hj))] at this
    exact this
theorem sgV {c d : Nat} : decide (V.str (sg c) = V.str (sg d)) = decide (c = d) := by
  rw [Cs.strV, decide_eq_decide]
  exact ⟨fun h => sg_inj h, fun h => by rw [h]⟩
def sp_is_sign_key : Sp := fun vs H Q _ => ∃ c : Nat, vs = [.str (sg c)] ∧ Q (.bl (Lns.isS c)) H
theorem ok_is_sign_key (T : Tx K mg a) : FnOk P w K mg base CX0 1 a.f_is_sign_key a.d_is_sign_key ["key"] sp_is_sign_key := by
  refine T.is_sign_key.fn.ok sc_is_sign_key (fun vs H Q E h => ?_) (fun cdv A outer s H vs Q E hr h => ?_)
  · obtain ⟨c, rfl, _⟩ := h
    rfl
  obtain ⟨c, rfl, q⟩ := h
  have e1 : decide (V.str (sg c) = V.str (Str.ofString " ")) = decide (c = 32) := sgV (d := 32)
  have e2 : decide (V.str (sg c) = V.str (Str.ofString "/")) = decide (c = 47) := sgV (d := 47)
  unfold Lns.isS at q
  refine ⟨_, (pss_one (ps_ret (pe_and (pe_cmpR op_ne (pv 0) (pe_glob (v := .str " ") rfl T.g_GAP_KEY ⟨_, rfl⟩) (nomark _)) (pe_one (pe_cmpR op_ne (pv 0) (pe_glob (v := .str "/") rfl T.g_SEND_KEY ⟨_, rfl⟩) (nomark _)))))), ?_⟩
  walk_at "rd"
  rw [e1]
  cases h32 : decide (c = 32) with
  | true =>
    rw [h32] at q
    exact q
  | false =>
    rw [h32] at q
    refine iteT ?_
    walk_at "rd"
    rw [e2]
    exact q
def sp_goes_on (K : PySem.W.Frag) : Sp := fun vs H Q _ => ∃ (l : Addr) (x : Str) (i : Nat) (rs : List Cs.Row), vs = [.ref l, .str x, .int (i : Int)] ∧ Cs.CaseAt K H l rs ∧ x.length ≤ 90000 ∧ i < x.cps.toList.length ∧ ∀ H', Same H H' → Q (.bl (Lns.goesOn rs x.cps.toList i)) H'
theorem ok_goes_on (T : Tx K mg a) : FnOk P w K mg base CX0 2 a.f_goes_on a.d_goes_on ["case", "keys", "at"] (sp_goes_on K) := by
  have G_is_sign_key := ok_is_sign_key (P := P) (w := w) (base := base) T
  have G_channel_of := ok_channel_of (P := P) (w := w) (base := base) T
  refine T.goes_on.fn.ok sc_goes_on (fun vs H Q E h => ?_) (fun cdv A outer s H vs Q E hr h => ?_)
  · obtain ⟨l, x, i, rs, rfl, _⟩ := h
    rfl
  obtain ⟨l, x, i, rs, rfl, hC, hx, hi, q⟩ := h
  have hxs : x.length ≤ sizeLine := smallL (by omega)
  have ec : atI x.cps.toList (i : Int) = some x.cps.toList[i] := atI_nat (List.getElem?_eq_getElem hi)
  unfold Lns.goesOn at q
  rw [List.getElem?_eq_getElem hi] at q
  generalize x.cps.toList[i] = c at ec q
  have q : ∀ H', Same H H' → Q (.bl (if Lns.isS c = true then (Cs.place rs (sg c)).isSome else decide (0 < i) && (match x.cps.toList[i - 1]? with | none => false | some d => Lns.isS d))) H' := q
  refine ⟨_, (pss_cons (ps_if (pt_val (pcall T.is_sign_key G_is_sign_key hr rfl (pa_cons (pe_ix ix_str (pv 1) (pv 2) (fun _ _ => rfl)) pa_nil))) (pss_one (ps_ret (pe_cmp (pc_notN (pcall T.channel_of G_channel_of hr rfl (pa_cons (pv 0) (pa_cons (pe_ix ix_str (pv 1) (pv 2) (fun _ _ => rfl)) pa_nil))))))) pss_nil)
      (pss_one (ps_ret (pe_and (pe_cmpR op_gt (pv 2) pe_int (nomark _)) (pe_one (pcall T.is_sign_key G_is_sign_key hr rfl (pa_cons (pe_ix ix_str (pv 1) (pe_op op_sub (pv 2) pe_int) (fun _ _ => rfl)) pa_nil))))))), ?_⟩
  walk_at "rd"
  refine ⟨_, _, _, rfl, rfl, hxs, ec, ?_⟩
  walk_at "rd"
  try refine ⟨_, rfl, ?_⟩
  cases hs : Lns.isS c with
  | true =>
    rw [hs] at q
    refine iteT ?_
    walk_at "rd"
    refine ⟨_, _, _, rfl, rfl, hxs, ec, ?_⟩
    walk_at "rd"
    refine ⟨l, sg c, rs, rfl, hC, fun H1 hs1 => ?_⟩
    have e : (!decide (Mt.optV (Cs.place rs (sg c)) = V.non)) = (Cs.place rs (sg c)).isSome := by
      cases Cs.place rs (sg c) <;> rfl
    have q := q H1 hs1
    rw [if_pos rfl, ← e] at q
    exact q
  | false =>
    rw [hs] at q
    refine iteF ?_
    walk_at "rd"
    have q := q H (Same.refl _)
    rw [if_neg (by decide)] at q
    cases i with
    | zero =>
      refine iteF ?_
      exact q
    | succ j =>
      have hj : j < x.cps.toList.length := by omega
      have ec2 : atI x.cps.toList (((j + 1 : Nat) : Int) - 1) = some x.cps.toList[j] := by
        rw [show (((j + 1 : Nat) : Int) - 1) = ((j : Nat) : Int) by omega]
        exact atI_nat (List.getElem?_eq_getElem hj)
      rw [show j + 1 - 1 = j from rfl, List.getElem?_eq_getElem hj] at q
      have e0 : decide ((0 : Int) < ((j + 1 : Nat) : Int)) = true := decide_eq_true (by omega)
      rw [e0]
      refine iteT ?_
      walk_at "rd"
      refine ⟨_, _, _, rfl, rfl, hxs, ec2, ?_⟩
      walk_at "rd"
      have q : Q (.bl (decide (0 < j + 1) && Lns.isS x.cps.toList[j])) H := q
      rw [show decide (0 < j + 1) = true from decide_eq_true (by omega), Bool.true_and] at q
      exact q
def sp_look_at_keys0 (K : PySem.W.Frag) : Sp := fun vs H Q _ => ∃ (l : Addr) (x : Str) (rs : List Cs.Row), vs = [.ref l, .str x] ∧ Cs.CaseAt K H l rs ∧ x.length ≤ 90000 ∧ Lns.okFrom rs false x.cps.toList = true ∧ (x.cps.toList = [] ∨ ∃ a, x.cps.toList = a ++ [47]) ∧ ∀ H', Same H H' → Q .non H'
theorem ok_look_at_keys0 (T : Tx K mg a) : FnOk P w K mg base CX0 3 a.f_look_at_keys a.d_look_at_keys ["case", "keys"] (sp_look_at_keys0 K) := by
  have G_goes_on := ok_goes_on (P := P) (w := w) (base := base) T
  refine T.look_at_keys.fn.ok sc_look_at_keys (fun vs H Q E h => ?_) (fun cdv A outer s H vs Q E hr h => ?_)
  · obtain ⟨l, x, rs, rfl, _⟩ := h
    rfl
  obtain ⟨l, x, rs, rfl, hC, hx, hok, hend, q⟩ := h
  have hxs : x.length ≤ sizeLine := smallL (by omega)
  have hxl : x.cps.toList.length = x.length := Array.length_toList
  refine ⟨_, (pss_cons (ps_for PassesOwn.never rfl (pi_range1 rfl T.b_range (pa_cons (pe_callB call_len_str rfl T.b_len bt_len (pa_cons (pv 1) pa_nil)) pa_nil)) (pg_name (i := 2) sc_look_at_keys.nd rfl (Or.inl rfl)) (pss_one (ps_if (pt_not (pt_val (pcall T.goes_on G_goes_on hr rfl (pa_cons (pv 0) (pa_cons (pv 1) (pa_cons (pv 2) pa_nil)))))) (pss_one ps_never) pss_nil)))
      (pss_one (ps_if (PW.pt (pw_and (pt_cmpR op_ne (pv 1) pe_str (nomark _)) (pw_and1 (pt_cmpR op_ne (pe_ix ix_str (pv 1) (pe_un un_neg pe_int) (fun _ _ => rfl)) (pe_glob (v := .str "/") rfl T.g_SEND_KEY ⟨_, rfl⟩) (nomark _))))) (pss_one ps_never) pss_nil))), ?_⟩
  walk_at "rd"
  refine for_range (n := x.length) (fun i σ H2 => ∃ v2 : Option V, σ = [some (.ref l), some (.str x), v2] ∧ Same H H2) ⟨none, rfl, Same.refl _⟩ ?_ ?_
  · rintro i σ H2 hi ⟨v2, rfl, hs⟩
    walk_at "rd"
    refine ⟨l, x, i, rs, by rw [Int.zero_add]; rfl, hC.same hs, hx, by omega, fun H3 hs3 => ?_⟩
    rw [Lns.ok_goes hok (by omega)]
    refine ⟨_, rfl, ?_⟩
    refine iteF ?_
    exact ⟨_, rfl, hs.trans hs3⟩
  · rintro σ H2 ⟨v2, rfl, hs⟩
    walk_at "rd"
    rcases hend with he | ⟨a0, he⟩
    · have ex : x = "" := Lns.str_ext he
      subst ex
      have e1 : (!decide (V.str (Str.ofString "") = V.str (Str.ofString ""))) = false := by rw [decide_eq_true rfl]; rfl
      rw [e1]
      try refine iteF ?_
      exact q H2 hs
    · have hne : x ≠ "" := fun e => by
        rw [e] at he
        have h := congrArg List.length he
        rw [List.length_append] at h
        have h : 0 = a0.length + 1 := h
        omega
      have e1 : (!decide (V.str x = V.str (Str.ofString ""))) = true := by rw [Cs.strV, decide_eq_false hne]; rfl
      rw [e1]
      try refine iteT ?_
      have ec : atI x.cps.toList (-1) = some 47 := by
        rw [he]
        exact Lns.at_end a0 47
      walk_at "rd"
      refine ⟨_, _, _, rfl, rfl, hxs, ec, ?_⟩
      walk_at "rd"
      have e2 : (!decide (V.str ({ cps := #[47] } : Str) = V.str (Str.ofString "/"))) = false := by rw [show (Str.ofString "/") = ({ cps := #[47] } : Str) from rfl, decide_eq_true rfl]; rfl
      rw [e2]
      try refine iteF ?_
      exact q H2 hs
def sp_lines_of0 (K : PySem.W.Frag) : Sp := fun vs H Q _ => ∃ (l : Addr) (rs : List Cs.Row) (ls : List (List Str)), vs = [.ref l, .str (Lns.keyT ls)] ∧ Cs.CaseAt K H l rs ∧ (Lns.keyT ls).length ≤ 90000 ∧ (∀ x ∈ ls, (Lns.lineT x).length ≤ 90000) ∧ ls.length ≤ 1000 ∧ (∀ x ∈ ls, x ≠ [] ∧ ∀ y ∈ x, Lns.Settable rs y) ∧
  ∀ (D : Addr) (zs : List V) H', H D = none → Same H H' → H' D = some (.lst zs) → Paired (Lns.LineF H D H') zs ls → zs.Nodup → Q (.ref D) H'
theorem ok_lines_of0 (T : Tx K mg a) : FnOk P w K mg base CX0 4 a.f_lines_of a.d_lines_of ["case", "keys"] (sp_lines_of0 K) := by
  have G0_look_at_keys := ok_look_at_keys0 (P := P) (w := w) (base := base) T
  refine T.lines_of.fn.ok sc_lines_of (fun vs H Q E h => ?_) (fun cdv A outer s H vs Q E hr h => ?_)
  · obtain ⟨l, rs, ls, rfl, _⟩ := h
    rfl
  obtain ⟨l, rs, ls, rfl, hC, hk, hll, hl, hset, q⟩ := h
  have hplain : ∀ x ∈ ls, ∀ y ∈ x, Lns.Plain y := fun x hx y hy => ((hset x hx).2 y hy).plain
  have hend : (Lns.keyT ls).cps.toList = [] ∨ ∃ a, (Lns.keyT ls).cps.toList = a ++ [47] := by
    by_cases e : ls = []
    · rw [e]
      exact .inl rfl
    · exact .inr (Lns.keys_end ls e)
  refine ⟨_, (pss_cons (ps_expr (pcall T.look_at_keys G0_look_at_keys hr rfl (pa_cons (pv 0) (pa_cons (pv 1) pa_nil))))
      (pss_one (ps_ret (pe_compG rfl (kpi_list K rfl (pe_slice (ksl_list K rfl) (kpe_bm K rfl PySem.F.plainAttrs_str PySem.F.slot_str_split PySem.F.type_str_split mt_split (pv 1) (pa_cons (pe_glob (v := .str "/") rfl T.g_SEND_KEY ⟨_, rfl⟩) pa_nil)) po_none (po_some (pe_un un_neg pe_int)))) (BlkOk.of (N' := ["case", "keys", "line"]) (ms := []) (k := 1) (by rfl)) (fun _ _ _ _ _ => (pg_name (i := 2) (show List.Nodup (["case", "keys", "line"] : List Str) from by decide +kernel) rfl (Or.inl rfl))) (fun _ _ _ _ _ => pts_nil) (fun _ _ _ _ _ => (kpe_bm K rfl PySem.F.plainAttrs_str PySem.F.slot_str_split PySem.F.type_str_split mt_split (pv 2) (pa_cons (pe_glob (v := .str " ") rfl T.g_GAP_KEY ⟨_, rfl⟩) pa_nil))))))), ?_⟩
  walk_at "rd"
  refine ⟨l, _, rs, rfl, hC, hk, Lns.ok_keys hset, hend, fun H1 hs1 => ?_⟩
  walk_at "rd"
  intro p2 hp2
  rw [Lns.split_keys hplain]
  have hs2 := same_new hp2 (.lst ((ls.map Lns.lineT ++ [Str.ofString ""]).map V.str))
  have h22 : upd H1 p2 (.lst ((ls.map Lns.lineT ++ [Str.ofString ""]).map V.str)) p2 = some (.lst ((ls.map Lns.lineT ++ [Str.ofString ""]).map V.str)) := upd_same
  generalize upd H1 p2 (.lst ((ls.map Lns.lineT ++ [Str.ofString ""]).map V.str)) = H2 at hs2 h22 ⊢
  walk_at "rd"
  refine ⟨p2, _, rfl, SqL.of h22, fun p3 hp3 => ?_⟩
  rw [show cutV ((ls.map Lns.lineT ++ [Str.ofString ""]).map V.str) none (some (-1)) = (ls.map Lns.lineT).map V.str from Lns.cut_init V.str _ _]
  have hs3 := same_new hp3 (.lst ((ls.map Lns.lineT).map V.str))
  have h33 : upd H2 p3 (.lst ((ls.map Lns.lineT).map V.str)) p3 = some (.lst ((ls.map Lns.lineT).map V.str)) := upd_same
  generalize upd H2 p3 (.lst ((ls.map Lns.lineT).map V.str)) = H3 at hs3 h33 ⊢
  have hs03 := hs1.trans (hs2.trans hs3)
  refine ⟨p3, rfl, ⟨_, SqL.of h33⟩, fun D hD => ?_⟩
  refine comp_list (a := p3) (xs := (ls.map Lns.lineT).map V.str) (fun j zs σ H6 => ∃ (v2 : Option V), σ = [some (.ref l), some (.str (Lns.keyT ls)), v2] ∧ Same H3 H6 ∧ H6 D = some (.lst zs) ∧ Paired (Lns.LineF H D H6) zs (ls.take j) ∧ zs.Nodup)
    ?_ ?_ ?_ ?_
  · exact ⟨none, rfl, same_new hD _, upd_same, .nil, .nil⟩
  · rintro j zs σ H6 hj ⟨_, _, hs, _⟩
    exact hs.seq (SqL.of h33)
  · rintro j x zs σ H6 hx hjl ⟨v2, rfl, hs, hh, hz, hnd⟩
    rw [List.getElem?_map, List.getElem?_map] at hx
    obtain ⟨y, hy, rfl⟩ := Option.map_eq_some_iff.mp hx
    obtain ⟨w0, hw0, rfl⟩ := Option.map_eq_some_iff.mp hy
    have hwm := List.mem_of_getElem? hw0
    have hzl := Lns.linesF_len hz
    rw [List.length_take] at hzl
    have hlw := hll w0 hwm
    walk_at "rd"
    intro pn hpn
    rw [Lns.split_line (hset w0 hwm).1 (hplain w0 hwm)]
    have hsn := same_new hpn (.lst (w0.map V.str))
    have hDn : pn ≠ D := fun e => by rw [e, hh] at hpn; cases hpn
    refine cnext hjl (hsn _ _ hh) (by omega) ⟨_, rfl, same_upd (hs.trans hsn) hD, upd_same, ?_, ?_⟩
    · rw [List.take_add_one, hw0]
      exact Paired.snoc (Lns.linesF_upd (Lns.linesF_same hz hsn)) ⟨pn, rfl, hDn, hs03.free (hs.free hpn), by rw [upd_ne hDn]; exact upd_same⟩
    · rw [List.nodup_append]
      refine ⟨hnd, by simp, fun a ha b hb => ?_⟩
      rw [List.mem_singleton.mp hb]
      exact fun e => Lns.linesF_new hz hpn (e ▸ ha)
  · rintro zs σ H6 ⟨v2, rfl, hs6, hh6, hz6, hnd⟩
    rw [List.length_map, List.length_map, List.take_of_length_le (Nat.le_refl _)] at hz6
    exact q D zs H6 (hs03.free hD) (hs03.trans hs6) hh6 hz6 hnd
theorem kit_ss {K : PySem.W.Frag} : PySem.W.kitOne K (.type "str") (.type "str") = some true := by rfl
theorem cutv_take {xs : List V} {z : Int} {n : Nat} (h : z = (n : Int)) : cutV xs none (some z) = xs.take n := by
  subst h
  unfold cutV
  rw [HT.sIx_none, HT.sIx_nat, List.drop_zero, Nat.sub_zero, Nat.min_def]
  split
  · rfl
  · rw [List.take_of_length_le (Nat.le_refl _), List.take_of_length_le (by omega)]
theorem cutv_drop {xs : List V} {z : Int} {n : Nat} (h : z = (n : Int)) (hn : n ≤ xs.length) : cutV xs (some z) none = xs.drop n := by
  subst h
  unfold cutV
  rw [HT.sIx_none, HT.sIx_nat, Nat.min_eq_left hn]
  exact List.take_of_length_le (by rw [List.length_drop]; exact Nat.le_refl _)
theorem cutv_from1 {xs : List V} : cutV xs (some 1) none = xs.drop 1 := by
  cases xs with
  | nil => rfl
  | cons x r => exact cutv_drop (n := 1) rfl (by show 1 ≤ r.length + 1; omega)
theorem size6 {b : Int} {i : Nat} (h : i < size3 2 b 6) : 2 + (i : Int) * 6 < b := by
  unfold size3 Builtin.Range.rangeSize at h
  rw [if_pos (by decide)] at h
  split at h
  · omega
  · simp at h
theorem word_lay {rs : List Cs.Row} (hsg : ∀ r ∈ rs, ∃ c ∈ Cs.signs, r.s = sg c) {m : Nat} {x : Str} (h : WordOk rs m x) : PyData.canLay0 (.str x) = true := by
  show (x.cps.all fun c => decide (c < 0x110000)) = true
  rw [← Array.all_toList, List.all_eq_true]
  intro c hc
  obtain ⟨k, hk⟩ := Option.isSome_iff_exists.mp (h.2.2 c hc)
  obtain ⟨r, hr, e⟩ := Cs.place_row hk
  obtain ⟨d, hd, e2⟩ := hsg r (List.mem_of_getElem? hr)
  have e3 : c = d := sg_inj (e.symm.trans e2)
  have lt : ∀ d ∈ Cs.signs, d < 0x110000 := by decide +kernel
  exact decide_eq_true (e3 ▸ lt d hd)
/-- a line of one to six short words that the case can set -/
def LineOk (rs : List Cs.Row) (l : List Str) : Prop := l ≠ [] ∧ l.length ≤ 6 ∧ ∀ x ∈ l, WordOk rs 6 x
theorem lines_fit {rs : List Cs.Row} {ls : List (List Str)} (h : ∀ x ∈ ls, LineOk rs x) (hl : ls.length ≤ 100) : Lns.Fit ls :=
  ⟨hl, fun l hm => by
    obtain ⟨_, h2, h3⟩ := h l hm
    exact ⟨by omega, fun x hx => Nat.le_trans (h3 x hx).2.1 (by decide)⟩⟩
theorem cut_line {ns : List Int} {a m : Int} (h0 : 0 ≤ a) (h1 : a < (ns.length : Int)) (hm : 0 ≤ m ∧ m < 6) : ∃ ms : List Int, cutV (ns.map V.int) (some a) (some (a + 1 + m)) = ms.map V.int ∧ 1 ≤ ms.length ∧ ms.length ≤ 6 := by
  obtain ⟨a', rfl⟩ := Int.eq_ofNat_of_zero_le h0
  obtain ⟨m', rfl⟩ := Int.eq_ofNat_of_zero_le hm.1
  have e : (a' : Int) + 1 + (m' : Int) = ((a' + 1 + m' : Nat) : Int) := by omega
  refine ⟨(ns.drop (HT.sIx ns.length 0 (some (a' : Int)))).take (HT.sIx ns.length ns.length (some ((a' + 1 + m' : Nat) : Int)) - HT.sIx ns.length 0 (some (a' : Int))), ?_, ?_, ?_⟩
  · rw [e]
    unfold cutV
    rw [List.length_map, List.map_take, List.map_drop]
  · rw [HT.sIx_nat, HT.sIx_nat, List.length_take, List.length_drop]
    omega
  · rw [HT.sIx_nat, HT.sIx_nat, List.length_take, List.length_drop]
    omega
theorem line_len {rs : List Cs.Row} {l : List Str} (h : LineOk rs l) : (Lns.lineT l).length ≤ 42 := by
  obtain ⟨_, h1, h2⟩ := h
  have a := Lns.sum_le' (fun x : Str => x.length) 6 6 l (fun x hx => (h2 x hx).2.1) h1
  have a : (l.map (·.length)).sum ≤ 6 * 6 := a
  have b := StrLaws.join_length_le " " l
  have e : (Str.ofString " ").length = 1 := by decide
  unfold Lns.lineT Txt.join
  rw [StrLaws.glued_eq_join]
  have b : (Str.join " " l).length ≤ (l.map (·.length)).sum + l.length * (Str.ofString " ").length := b
  rw [e] at b
  omega
theorem key_len {rs : List Cs.Row} : ∀ {ls : List (List Str)}, (∀ l ∈ ls, LineOk rs l) → (Lns.keyT ls).length ≤ ls.length * 43
  | [], _ => by show (Str.ofString "").length ≤ _; decide
  | l :: r, h => by
    have a := line_len (h l List.mem_cons_self)
    have b := key_len fun l hl => h l (List.mem_cons_of_mem _ hl)
    show (Lns.lineT l ++ "/" ++ Lns.keyT r).length ≤ _
    rw [Str.length_append, Str.length_append, List.length_cons, Nat.succ_mul]
    have e : ("/" : Str).length = 1 := by decide
    omega
open Unl
def sp_first_place_unlike : Sp := fun vs H Q _ => ∃ (x y : Str), vs = [.str x, .str y] ∧ x.length ≤ 90000 ∧ y.length ≤ 90000 ∧ ∀ H', Same H H' → Q (.int (cp x.cps.toList y.cps.toList : Nat)) H'
theorem ok_first_place_unlike (T : Tx K mg a) : FnOk P w K mg base CX0 1 a.f_first_place_unlike a.d_first_place_unlike ["one", "other"] sp_first_place_unlike := by
  refine T.first_place_unlike.fn.ok sc_first_place_unlike (fun vs H Q E h => ?_) (fun cdv A outer s H vs Q E hr h => ?_)
  · obtain ⟨x, y, rfl, _⟩ := h
    rfl
  obtain ⟨x, y, rfl, hx, hy, q⟩ := h
  have hxl : x.cps.toList.length = x.length := Array.length_toList
  have hyl : y.cps.toList.length = y.length := Array.length_toList
  have hle := cp_le x.cps.toList y.cps.toList
  refine ⟨_, (pss_cons (ps_set (i := 2) sc_first_place_unlike.nd rfl (Or.inl rfl) pe_int)
      (pss_cons (ps_while PassesOwn.never (PW.pt (pw_and (pt_cmpR op_lt (pv 2) (pe_callB (call_min2 rfl) rfl T.b_min bt_min (pa_cons (pe_callB call_len_str rfl T.b_len bt_len (pa_cons (pv 0) pa_nil)) (pa_cons (pe_callB call_len_str rfl T.b_len bt_len (pa_cons (pv 1) pa_nil)) pa_nil))) (nomark _)) (pw_and1 (pt_cmpR op_eq (pe_ix ix_str (pv 0) (pv 2) (fun _ _ => rfl)) (pe_ix ix_str (pv 1) (pv 2) (fun _ _ => rfl)) (nomark _))))) (pss_one (ps_set (i := 2) sc_first_place_unlike.nd rfl (Or.inl rfl) (pe_op op_add (pv 2) pe_int))))
      (pss_one (ps_ret (pv 2))))), ?_⟩
  walk_at "rd"
  refine ⟨fun m σ H2 => ∃ i : Nat, σ = [some (.str x), some (.str y), some (.int (i : Int))] ∧ m = cp x.cps.toList y.cps.toList - i ∧ i ≤ cp x.cps.toList y.cps.toList ∧ Same H H2, ⟨_, 0, rfl, rfl, Nat.zero_le _, Same.refl _⟩, ?_⟩
  rintro m σ H2 ⟨i, rfl, rfl, hi, hs⟩
  walk_at "rd"
  refine ⟨smallL (by omega), ?_⟩
  walk_at "rd"
  refine ⟨smallL (by omega), ?_⟩
  walk_at "rd"
  refine ⟨_, _, rfl, ?_⟩
  walk_at "rd"
  have hm : (if (y.length : Int) < (x.length : Int) then (y.length : Int) else (x.length : Int)) = ((min x.length y.length : Nat) : Int) := by split <;> omega
  rw [hm]
  by_cases hlt : i < min x.length y.length
  · have ex : atI x.cps.toList (i : Int) = some (x.cps.toList[i]'(by omega)) := atI_nat (List.getElem?_eq_getElem (by omega))
    have ey : atI y.cps.toList (i : Int) = some (y.cps.toList[i]'(by omega)) := atI_nat (List.getElem?_eq_getElem (by omega))
    rw [decide_eq_true (show (i : Int) < ((min x.length y.length : Nat) : Int) by omega)]
    refine iteT ?_
    refine ⟨_, rfl, ?_⟩
    refine ⟨_, rfl, ?_⟩
    refine ⟨_, _, _, rfl, rfl, smallL (by omega), ex, ?_⟩
    refine ⟨_, rfl, ?_⟩
    refine ⟨_, rfl, ?_⟩
    refine ⟨_, _, _, rfl, rfl, smallL (by omega), ey, ?_⟩
    walk_at "rd"
    rw [show decide (V.str ({ cps := #[x.cps.toList[i]'(by omega)] } : Str) = V.str ({ cps := #[y.cps.toList[i]'(by omega)] } : Str)) = decide (x.cps.toList[i]'(by omega) = y.cps.toList[i]'(by omega)) from sgV]
    by_cases e : x.cps.toList[i]'(by omega) = y.cps.toList[i]'(by omega)
    · rw [decide_eq_true e]
      refine iteT ?_
      have hi2 : i < cp x.cps.toList y.cps.toList := by
        rcases Nat.lt_or_ge i (cp x.cps.toList y.cps.toList) with h | h
        · exact h
        · have hie : i = cp x.cps.toList y.cps.toList := by omega
          exact absurd e (cp_at (x := x.cps.toList) (y := y.cps.toList) (by rw [← hie]; exact List.getElem?_eq_getElem (by omega)) (by rw [← hie]; exact List.getElem?_eq_getElem (by omega)))
      refine ⟨fun σ' H' => σ' = [some (.str x), some (.str y), some (.int ((i + 1 : Nat) : Int))] ∧ Same H H', ?_, ?_⟩
      · rintro σ' H' ⟨rfl, hs'⟩
        exact ⟨_, by omega, i + 1, rfl, rfl, hi2, hs'⟩
      · walk_at "rd"
        exact hs
    · rw [decide_eq_false e]
      refine iteF ?_
      have hi2 : i = cp x.cps.toList y.cps.toList := by
        rcases Nat.lt_or_ge i (cp x.cps.toList y.cps.toList) with h | h
        · have := cp_lt h
          rw [List.getElem?_eq_getElem (by omega), List.getElem?_eq_getElem (by omega)] at this
          exact absurd (Option.some.inj this) e
        · omega
      walk_at "rd"
      rw [hi2]
      exact q _ hs
  · rw [decide_eq_false (show ¬ (i : Int) < ((min x.length y.length : Nat) : Int) by omega)]
    refine iteF ?_
    have hi2 : i = cp x.cps.toList y.cps.toList := by omega
    walk_at "rd"
    rw [hi2]
    exact q _ hs
open Unl
theorem int_tup {H : Hp} {v : V} {i p : Nat} {t : Addr} (e : v = .ref t) (h : H t = some (.tup [.int (i : Int), .int (p : Int)])) : UnAt H v (some (i, p)) := ⟨t, e, h⟩
theorem strs_get {ts : List Str} {i : Nat} {v : V} (h : (ts.map V.str)[i]? = some v) : ∃ t, v = .str t ∧ ts[i]? = some t := by
  rw [List.getElem?_map] at h
  obtain ⟨t, ht, rfl⟩ := Option.map_eq_some_iff.mp h
  exact ⟨t, rfl, ht⟩
def sp_first_unlike0 (K : PySem.W.Frag) : Sp := fun vs H Q _ => ∃ (l d : Addr) (rs : List Cs.Row) (ls : List (List Str)) (ss : List Str), vs = [.ref l, .str (Lns.keyT ls), .ref d] ∧ Cs.CaseAt K H l rs ∧ (Lns.keyT ls).length ≤ 90000 ∧ (∀ x ∈ ls, (Lns.lineT x).length ≤ 90000) ∧ Lns.Fit ls ∧ (∀ x ∈ ls, x ≠ [] ∧ ∀ y ∈ x, Lns.Settable rs y) ∧
  SqL K H d (ss.map V.str) ∧ ss.length ≤ 1000 ∧ (∀ x ∈ ss, x.length ≤ 90000) ∧ ∀ v H', Same H H' → UnAt H' v (un 0 (ls.map Lns.lineT) ss) → Q v H'
theorem ok_first_unlike0 (T : Tx K mg a) : FnOk P w K mg base CX0 5 a.f_first_unlike a.d_first_unlike ["case", "keys", "slugs"] (sp_first_unlike0 K) := by
  have G0_lines_of := ok_lines_of0 (P := P) (w := w) (base := base) T
  have G_first_place_unlike := ok_first_place_unlike (P := P) (w := w) (base := base) T
  refine T.first_unlike.fn.ok sc_first_unlike (fun vs H Q E h => ?_) (fun cdv A outer s H vs Q E hr h => ?_)
  · obtain ⟨l, d, rs, ls, ss, rfl, _⟩ := h
    rfl
  obtain ⟨l, d, rs, ls, ss, rfl, hC, hk, hll, hfit, hset, hS, hsl, hsx, q⟩ := h
  have hf1 := hfit.1
  refine ⟨_, (pss_cons (ps_setC (i := 3) sc_first_unlike.nd rfl (Or.inl rfl) rfl (kpi_list K rfl (pcall T.lines_of G0_lines_of hr rfl (pa_cons (pv 0) (pa_cons (pv 1) pa_nil)))) (BlkOk.of (N' := ["case", "keys", "slugs", "texts", "number", "pair", "text", "slug", "line"]) (ms := []) (k := 1) (by rfl)) (fun _ _ _ _ _ => (pg_name (i := 8) (show List.Nodup (["case", "keys", "slugs", "texts", "number", "pair", "text", "slug", "line"] : List Str) from by decide +kernel) rfl (Or.inl rfl))) (fun _ _ _ _ _ => pts_nil) (fun _ _ _ _ _ => (kpe_bm K rfl PySem.F.plainAttrs_str PySem.F.slot_str_join PySem.F.type_str_join (kmt_join K rfl) pe_str (pa_cons (pv 8) pa_nil))))
      (pss_cons (ps_for PassesOwn.never rfl (kpi_enumzip K rfl rfl T.b_enumerate rfl T.b_zip (pa_cons (pv 3) (pa_cons (pv 2) pa_nil))) (kpg_tup K rfl (n := 2) rfl (pgs_cons (pg_name (i := 4) sc_first_unlike.nd rfl (Or.inl rfl)) (pgs_cons (pg_name (i := 5) sc_first_unlike.nd rfl (Or.inl rfl)) pgs_nil))) (pss_cons (ps_asg (pv 5) (kpg_tup K rfl (n := 2) rfl (pgs_cons (pg_name (i := 6) sc_first_unlike.nd rfl (Or.inl rfl)) (pgs_cons (pg_name (i := 7) sc_first_unlike.nd rfl (Or.inl rfl)) pgs_nil))))
      (pss_one (ps_if (pt_cmpR op_ne (pv 6) (pv 7) (nomark _)) (pss_one (ps_ret (pe_tup (pa_cons (pv 4) (pa_cons (pcall T.first_place_unlike G_first_place_unlike hr rfl (pa_cons (pv 6) (pa_cons (pv 7) pa_nil))) pa_nil))))) pss_nil))))
      (pss_cons (ps_if (pt_cmpR op_ne (pe_callB (klen_seq K rfl) rfl T.b_len bt_len (pa_cons (pv 3) pa_nil)) (pe_callB (klen_seq K rfl) rfl T.b_len bt_len (pa_cons (pv 2) pa_nil)) (nomark _)) (pss_one (ps_ret (pe_tup (pa_cons (pe_callB (call_min2 rfl) rfl T.b_min bt_min (pa_cons (pe_callB (klen_seq K rfl) rfl T.b_len bt_len (pa_cons (pv 3) pa_nil)) (pa_cons (pe_callB (klen_seq K rfl) rfl T.b_len bt_len (pa_cons (pv 2) pa_nil)) pa_nil))) (pa_cons pe_int pa_nil))))) pss_nil)
      (pss_one (ps_ret pe_non))))), ?_⟩
  walk_at "rd"
  refine ⟨l, rs, ls, rfl, hC, hk, hll, by omega, hset, fun D zs H1 hD hs1 hh1 hz1 hnd => ?_⟩
  have hz1n := Lns.LineF.n hz1
  have hzl := Lns.linesF_len hz1
  refine ⟨D, rfl, ⟨_, SqL.of hh1⟩, fun E2 hE2 => ?_⟩
  refine comp_list (a := D) (xs := zs) (fun j ys σ H6 => ∃ (v : Option V), σ = [some (.ref l), some (.str (Lns.keyT ls)), some (.ref d), none, none, none, none, none, v] ∧ Same H1 H6 ∧ H6 E2 = some (.lst ys) ∧ ys = ((ls.take j).map Lns.lineT).map V.str)
    ?_ ?_ ?_ ?_
  · exact ⟨none, rfl, same_new hE2 _, upd_same, rfl⟩
  · rintro j ys σ H6 hj ⟨_, _, hs, _⟩
    exact hs.seq (SqL.of hh1)
  · rintro j x ys σ H6 hx hjl ⟨v, rfl, hs, hh, rfl⟩
    obtain ⟨w0, hw0, p, rfl, _, hp⟩ := Cs.pd_get hz1n hx
    have hwm := List.mem_of_getElem? hw0
    walk_at "rd"
    refine ⟨_, p, w0, rfl, rfl, SqL.of (hs _ _ hp), ?_, ?_⟩
    · have := hfit.2 w0 hwm
      exact Lns.line_small this.1 this.2
    · refine cnext hjl hh ?_ ⟨_, rfl, same_upd hs hE2, upd_same, ?_⟩
      · rw [List.length_map, List.length_map, List.length_take]
        omega
      · rw [List.take_add_one, hw0, List.map_append, List.map_append]
        rfl
  · rintro ys σ H6 ⟨v, rfl, hs, hh, rfl⟩
    rw [List.take_of_length_le (by omega)] at hh
    have hs6 := hs1.trans hs
    generalize hts : ls.map Lns.lineT = ts at hh q
    have htl : ts.length = ls.length := by rw [← hts, List.length_map]
    have hd6 := hs6.seq hS
    walk_at "rd"
    refine ⟨E2, d, rfl, ⟨_, SqL.of hh⟩, ⟨_, hd6⟩, ?_⟩
    refine for_enumzip (a := E2) (b := d) (xs := ts.map V.str) (ys := ss.map V.str) (min ts.length ss.length) ⟨by rw [List.length_map]; omega, by rw [List.length_map]; omega, by rw [List.length_map, List.length_map]; omega⟩
      (fun i σ H7 => ∃ (v4 v5 v6 v7 : Option V), σ = [some (.ref l), some (.str (Lns.keyT ls)), some (.ref d), some (.ref E2), v4, v5, v6, v7] ∧ Same H6 H7 ∧ ∀ j, j < i → ts[j]? = ss[j]?)
      ⟨none, none, none, none, rfl, Same.refl _, fun j h => absurd h (Nat.not_lt_zero _)⟩ (fun i σ H7 _ ⟨_, _, _, _, _, hs7, _⟩ => ⟨hs7.seq (SqL.of hh), hs7.seq hd6⟩) ?_ ?_
    · rintro i x y p t σ H7 hi hx hy ⟨v4, v5, v6, v7, rfl, hs7, hb⟩ hp hpt htp
      obtain ⟨tx, rfl, htx⟩ := strs_get hx
      obtain ⟨sx, rfl, hsx2⟩ := strs_get hy
      have hp8 := same_new hp (.tup [.str tx, .str sx])
      have h8p : upd H7 p (.tup [.str tx, .str sx]) p = some (.tup [.str tx, .str sx]) := upd_same
      have h8t : upd H7 p (.tup [.str tx, .str sx]) t = none := by rw [upd_ne htp]; exact hpt
      generalize upd H7 p (.tup [.str tx, .str sx]) = H8 at hp8 h8p h8t ⊢
      have hs9 := same_new h8t (.tup [.int i, .ref p])
      have h9t : upd H8 t (.tup [.int i, .ref p]) t = some (.tup [.int i, .ref p]) := upd_same
      generalize upd H8 t (.tup [.int i, .ref p]) = H9 at hs9 h9t ⊢
      have h9p := hs9 _ _ h8p
      have hs79 := hs7.trans (hp8.trans hs9)
      walk_at "rd"
      walk_at "tg"
      walk_at "tg"
      walk_at "rd"
      walk_at "tg"
      walk_at "tg"
      walk_at "rd"
      have hxm : tx.length ≤ 90000 := by
        rw [← hts, List.getElem?_map] at htx
        obtain ⟨w0, hw0, rfl⟩ := Option.map_eq_some_iff.mp htx
        exact hll w0 (List.mem_of_getElem? hw0)
      rw [Cs.strV]
      by_cases e : tx = sx
      · rw [decide_eq_true e]
        refine iteF ?_
        refine ⟨_, _, _, _, rfl, hs79, fun j hj => ?_⟩
        by_cases z : j = i
        · rw [z, htx, hsx2, e]
        · exact hb j (by omega)
      · rw [decide_eq_false e]
        refine iteT ?_
        walk_at "rd"
        refine ⟨tx, sx, rfl, hxm, hsx sx (List.mem_of_getElem? hsx2), fun H10 hs10 => ?_⟩
        walk_at "rd"
        intro r hr0
        refine q _ _ ((hs6.trans (hs79.trans hs10)).trans (same_new hr0 _)) ?_
        rw [un_at hb htx hsx2 e, Nat.zero_add]
        exact ⟨r, rfl, upd_same⟩
    · rintro σ H7 ⟨v4, v5, v6, v7, rfl, hs7, hb⟩
      have hE7 := hs7 _ _ hh
      have hd7 := hs7.seq hd6
      walk_at "rd"
      refine ⟨E2, _, rfl, .inl (SqL.of hE7), ?_⟩
      rw [List.length_map]
      walk_at "rd"
      refine ⟨d, _, rfl, .inl hd7, ?_⟩
      rw [List.length_map]
      walk_at "rd"
      by_cases e : ts.length = ss.length
      · rw [show (!decide (V.int (ts.length : Int) = V.int (ss.length : Int))) = false by rw [decide_eq_true (by rw [e])]; rfl]
        refine iteF ?_
        walk_at "rd"
        refine q _ _ (hs6.trans hs7) ?_
        rw [un_all (fun j hj => hb j (by omega)) e]
        rfl
      · rw [show (!decide (V.int (ts.length : Int) = V.int (ss.length : Int))) = true by rw [decide_eq_false (fun h => by injection h with h; omega)]; rfl]
        refine iteT ?_
        walk_at "rd"
        refine ⟨E2, _, rfl, .inl (SqL.of hE7), ?_⟩
        rw [List.length_map]
        walk_at "rd"
        refine ⟨d, _, rfl, .inl hd7, ?_⟩
        rw [List.length_map]
        walk_at "rd"
        refine ⟨_, _, rfl, ?_⟩
        walk_at "rd"
        intro r hr0
        refine q _ _ ((hs6.trans hs7).trans (same_new hr0 _)) ?_
        rw [un_end hb rfl e, Nat.zero_add]
        refine ⟨r, rfl, ?_⟩
        rw [upd_same]
        have hm : (if (ss.length : Int) < (ts.length : Int) then (ss.length : Int) else (ts.length : Int)) = ((min ts.length ss.length : Nat) : Int) := by split <;> omega
        rw [hm]
        rfl
theorem ok_init_NoKeys (T : Tx K mg a) : FnOk P w K mg base CX0 1 a.f_init_NoKeys a.d_init_NoKeys ["self", "at"] (sp_init a.c_NoKeys "at") := by
  refine T.cl_NoKeys.fi.ok sc_init_NoKeys (fun vs H Q E h => ?_) (fun cdv A outer s H vs Q E hr h => ?_)
  · obtain ⟨e, i, rfl, _⟩ := h
    rfl
  obtain ⟨e, i, rfl, he, hi, q⟩ := h
  refine ⟨_, (pss_cons (ps_expr (pe_binit T.bi rfl T.cl_CasterError.mg (pa_cons (pv 0) (pa_cons (pe_j2 pe_str (pe_fmt (pv 1))) pa_nil)))) (pss_one (ps_xfld (pv 0) (pv 1) rfl))), ?_⟩
  refine ⟨_, rfl, ?_⟩
  refine ⟨_, rfl, by decide, ?_⟩
  refine ⟨_, rfl, ?_⟩
  refine ⟨i, rfl, hi, fun x hx => ?_⟩
  refine ⟨x, rfl, hx, fun y => ?_⟩
  refine ⟨e, a.c_NoKeys, none, some a.f_init_NoKeys, y, rfl, he, T.cl_NoKeys.cls, ?_⟩
  refine ⟨_, rfl, ?_⟩
  refine ⟨_, rfl, ?_⟩
  exact ⟨e, a.c_NoKeys, rfl, he, T.cl_NoKeys.xf, fun dx hdx => q dx hdx⟩
/-- the number of the first key at which the keys are not good -/
def kAt (rs : List Cs.Row) (cs : List Nat) : Nat := ((List.range cs.length).find? (fun i => !Lns.goesOn rs cs i)).getD cs.length
theorem kat_at {rs : List Cs.Row} {cs : List Nat} {i : Nat} (h : ∀ j, j < i → Lns.goesOn rs cs j = true) (hi : i < cs.length) (hn : Lns.goesOn rs cs i = false) : kAt rs cs = i := by
  unfold kAt
  have : (List.range cs.length).find? (fun i => !Lns.goesOn rs cs i) = some i := by
    rw [List.find?_eq_some_iff_append]
    refine ⟨by rw [hn]; rfl, List.range i, (List.range (cs.length - i)).map (i + ·) |>.drop 1, ?_, fun j hj => ?_⟩
    · have e : List.range cs.length = List.range i ++ (List.range (cs.length - i)).map (i + ·) := by
        rw [← List.range_add]
        congr 1
        omega
      rw [e]
      congr 1
      obtain ⟨m, hm⟩ : ∃ m, cs.length - i = m + 1 := ⟨cs.length - i - 1, by omega⟩
      rw [hm, List.range_succ_eq_map, List.map_cons]
      rfl
    · rw [h j (List.mem_range.mp hj)]
      rfl
  rw [this]
  rfl
theorem kat_end {rs : List Cs.Row} {cs : List Nat} (h : ∀ j, j < cs.length → Lns.goesOn rs cs j = true) : kAt rs cs = cs.length := by
  unfold kAt
  have : (List.range cs.length).find? (fun i => !Lns.goesOn rs cs i) = none := by
    rw [List.find?_eq_none]
    intro j hj
    rw [h j (List.mem_range.mp hj)]
    decide
  rw [this]
  rfl
/-- keys that are not good -/
def BadK (rs : List Cs.Row) (cs : List Nat) : Prop := (∃ i, i < cs.length ∧ Lns.goesOn rs cs i = false) ∨ ∃ a c, cs = a ++ [c] ∧ c ≠ 47
def spX (K : PySem.W.Frag) (C : Addr) (vs : List V) (H : Hp) (E : XK) (l : Addr) (x : Str) (rs : List Cs.Row) : Prop := Cs.CaseAt K H l rs ∧ x.length ≤ 90000 ∧ BadK rs x.cps.toList ∧ ∀ H' dx, Same H H' → H' dx = none → E (.ref C) (some dx) (upd H' dx (.xd [("at", .int (kAt rs x.cps.toList : Nat))]))
def sp_look_at_keys (K : PySem.W.Frag) (C : Addr) : Sp := fun vs H Q E => ∃ (l : Addr) (x : Str) (rs : List Cs.Row), vs = [.ref l, .str x] ∧ spX K C vs H E l x rs
theorem ok_look_at_keys (T : Tx K mg a) : FnOk P w K mg base (CX1 P w) 3 a.f_look_at_keys a.d_look_at_keys ["case", "keys"] (sp_look_at_keys K a.c_NoKeys) := by
  have G_goes_on := ok_goes_on (P := P) (w := w) (base := base) T
  have G_init_NoKeys := ok_init_NoKeys (P := P) (w := w) (base := base) T
  refine T.look_at_keys.fn.okX sc_look_at_keys (fun vs H Q E h => ?_) (fun cdv A outer s H vs Q E hr h => ?_)
  · obtain ⟨l, x, rs, rfl, _⟩ := h
    rfl
  obtain ⟨l, x, rs, rfl, hC, hx, hbad, qx⟩ := h
  have hxs : x.length ≤ sizeLine := smallL (by omega)
  have hxl : x.cps.toList.length = x.length := Array.length_toList
  refine ⟨_, (pss_cons (ps_for (fly_own rfl) rfl (pi_range1 rfl T.b_range (pa_cons (pe_callB call_len_str rfl T.b_len bt_len (pa_cons (pv 1) pa_nil)) pa_nil)) (pg_name (i := 2) sc_look_at_keys.nd rfl (Or.inl rfl)) (pss_one (ps_if (pt_not (pt_val (pcall T.goes_on G_goes_on hr rfl (pa_cons (pv 0) (pa_cons (pv 1) (pa_cons (pv 2) pa_nil)))))) (pss_one (praiseX T.cl_NoKeys G_init_NoKeys hr rfl rfl rfl (pa_cons (pv 2) pa_nil))) pss_nil)))
      (pss_one (ps_if (PW.pt (pw_and (pt_cmpR op_ne (pv 1) pe_str (nomark _)) (pw_and1 (pt_cmpR op_ne (pe_ix ix_str (pv 1) (pe_un un_neg pe_int) (fun _ _ => rfl)) (pe_glob (v := .str "/") rfl T.g_SEND_KEY ⟨_, rfl⟩) (nomark _))))) (pss_one (praiseX T.cl_NoKeys G_init_NoKeys hr rfl rfl rfl (pa_cons (pe_callB call_len_str rfl T.b_len bt_len (pa_cons (pv 1) pa_nil)) pa_nil))) pss_nil))), ?_⟩
  walk_at "rd"
  refine for_range (n := x.length) (fun i σ H2 => ∃ v2 : Option V, σ = [some (.ref l), some (.str x), v2] ∧ Same H H2 ∧ ∀ j, j < i → Lns.goesOn rs x.cps.toList j = true) ⟨none, rfl, Same.refl _, fun j h => absurd h (Nat.not_lt_zero _)⟩ ?_ ?_
  · rintro i σ H2 hi ⟨v2, rfl, hs, hb⟩
    walk_at "rd"
    refine ⟨l, x, i, rs, by rw [Int.zero_add]; rfl, hC.same hs, hx, by omega, fun H3 hs3 => ?_⟩
    refine ⟨_, rfl, ?_⟩
    cases hg : Lns.goesOn rs x.cps.toList i with
    | true =>
      refine iteF ?_
      refine ⟨_, rfl, hs.trans hs3, fun j hj => ?_⟩
      by_cases z : j = i
      · rw [z]; exact hg
      · exact hb j (by omega)
    | false =>
      refine iteT ?_
      walk_at "rd"
      rw [Int.zero_add]
      intro dx hdx
      have := qx H3 dx (hs.trans hs3) hdx
      rw [kat_at hb (by omega) hg] at this
      exact this
  · rintro σ H2 ⟨v2, rfl, hs, hb⟩
    have hke := kat_end (rs := rs) (cs := x.cps.toList) (fun j hj => hb j (by omega))
    obtain ⟨a0, c, he, hc⟩ : ∃ a c, x.cps.toList = a ++ [c] ∧ c ≠ 47 := by
      rcases hbad with ⟨i, hi, hg⟩ | h
      · rw [hb i (by omega)] at hg
        cases hg
      · exact h
    walk_at "rd"
    have hne : x ≠ "" := fun e => by
      rw [e] at he
      have h := congrArg List.length he
      rw [List.length_append] at h
      have h : 0 = a0.length + 1 := h
      omega
    have e1 : (!decide (V.str x = V.str (Str.ofString ""))) = true := by rw [Cs.strV, decide_eq_false hne]; rfl
    rw [e1]
    try refine iteT ?_
    have ec : atI x.cps.toList (-1) = some c := by
      rw [he]
      exact Lns.at_end a0 c
    walk_at "rd"
    refine ⟨_, _, _, rfl, rfl, hxs, ec, ?_⟩
    walk_at "rd"
    have e2 : (!decide (V.str ({ cps := #[c] } : Str) = V.str (Str.ofString "/"))) = true := by rw [show decide (V.str ({ cps := #[c] } : Str) = V.str (Str.ofString "/")) = decide (c = 47) from sgV (d := 47), decide_eq_false hc]; rfl
    rw [e2]
    try refine iteT ?_
    walk_at "rd"
    intro dx hdx
    have := qx H2 dx hs hdx
    rw [hke, hxl] at this
    exact this
def sp_lines_of (K : PySem.W.Frag) (C : Addr) : Sp := fun vs H Q E => ∃ (l : Addr) (x : Str) (rs : List Cs.Row), vs = [.ref l, .str x] ∧ spX K C vs H E l x rs
theorem ok_lines_of (T : Tx K mg a) : FnOk P w K mg base (CX1 P w) 4 a.f_lines_of a.d_lines_of ["case", "keys"] (sp_lines_of K a.c_NoKeys) := by
  have G_look_at_keys := ok_look_at_keys (P := P) (w := w) (base := base) T
  refine T.lines_of.fn.okX sc_lines_of (fun vs H Q E h => ?_) (fun cdv A outer s H vs Q E hr h => ?_)
  · obtain ⟨l, x, rs, rfl, _⟩ := h
    rfl
  obtain ⟨l, x, rs, rfl, hC, hx, hbad, qx⟩ := h
  refine ⟨_, (pss_cons (ps_expr (pcallX T.look_at_keys G_look_at_keys hr rfl rfl (pa_cons (pv 0) (pa_cons (pv 1) pa_nil))))
      (pss_one (ps_ret (pe_compG rfl (kpi_list K rfl (pe_slice (ksl_list K rfl) (kpe_bm K rfl PySem.F.plainAttrs_str PySem.F.slot_str_split PySem.F.type_str_split mt_split (pv 1) (pa_cons (pe_glob (v := .str "/") rfl T.g_SEND_KEY ⟨_, rfl⟩) pa_nil)) po_none (po_some (pe_un un_neg pe_int)))) (BlkOk.of (N' := ["case", "keys", "line"]) (ms := []) (k := 1) (by rfl)) (fun _ _ _ _ _ => (pg_name (i := 2) (show List.Nodup (["case", "keys", "line"] : List Str) from by decide +kernel) rfl (Or.inl rfl))) (fun _ _ _ _ _ => pts_nil) (fun _ _ _ _ _ => (kpe_bm K rfl PySem.F.plainAttrs_str PySem.F.slot_str_split PySem.F.type_str_split mt_split (pv 2) (pa_cons (pe_glob (v := .str " ") rfl T.g_GAP_KEY ⟨_, rfl⟩) pa_nil))))))), ?_⟩
  walk_at "rd"
  exact ⟨l, x, rs, rfl, hC, hx, hbad, fun H2 dx hs2 hdx => qx H2 dx hs2 hdx⟩
def sp_first_unlike (K : PySem.W.Frag) (C : Addr) : Sp := fun vs H Q E => ∃ (l : Addr) (x : Str) (v : V) (rs : List Cs.Row), vs = [.ref l, .str x, v] ∧ spX K C vs H E l x rs
theorem ok_first_unlike (T : Tx K mg a) : FnOk P w K mg base (CX1 P w) 5 a.f_first_unlike a.d_first_unlike ["case", "keys", "slugs"] (sp_first_unlike K a.c_NoKeys) := by
  have G_lines_of := ok_lines_of (P := P) (w := w) (base := base) T
  have G_first_place_unlike := ok_first_place_unlike (P := P) (w := w) (base := base) T
  refine T.first_unlike.fn.okX sc_first_unlike (fun vs H Q E h => ?_) (fun cdv A outer s H vs Q E hr h => ?_)
  · obtain ⟨l, x, v, rs, rfl, _⟩ := h
    rfl
  obtain ⟨l, x, v, rs, rfl, hC, hx, hbad, qx⟩ := h
  refine ⟨_, (pss_cons (ps_setC (i := 3) sc_first_unlike.nd rfl (Or.inl rfl) rfl (kpi_list K rfl (pcallX T.lines_of G_lines_of hr rfl rfl (pa_cons (pv 0) (pa_cons (pv 1) pa_nil)))) (BlkOk.of (N' := ["case", "keys", "slugs", "texts", "number", "pair", "text", "slug", "line"]) (ms := []) (k := 1) (by rfl)) (fun _ _ _ _ _ => (pg_name (i := 8) (show List.Nodup (["case", "keys", "slugs", "texts", "number", "pair", "text", "slug", "line"] : List Str) from by decide +kernel) rfl (Or.inl rfl))) (fun _ _ _ _ _ => pts_nil) (fun _ _ _ _ _ => (kpe_bm K rfl PySem.F.plainAttrs_str PySem.F.slot_str_join PySem.F.type_str_join (kmt_join K rfl) pe_str (pa_cons (pv 8) pa_nil))))
      (pss_cons (ps_for (fly_own rfl) rfl (kpi_enumzip K rfl rfl T.b_enumerate rfl T.b_zip (pa_cons (pv 3) (pa_cons (pv 2) pa_nil))) (kpg_tup K rfl (n := 2) rfl (pgs_cons (pg_name (i := 4) sc_first_unlike.nd rfl (Or.inl rfl)) (pgs_cons (pg_name (i := 5) sc_first_unlike.nd rfl (Or.inl rfl)) pgs_nil))) (pss_cons (ps_asg (pv 5) (kpg_tup K rfl (n := 2) rfl (pgs_cons (pg_name (i := 6) sc_first_unlike.nd rfl (Or.inl rfl)) (pgs_cons (pg_name (i := 7) sc_first_unlike.nd rfl (Or.inl rfl)) pgs_nil))))
      (pss_one (ps_if (pt_cmpR op_ne (pv 6) (pv 7) (nomark _)) (pss_one (ps_ret (pe_tup (pa_cons (pv 4) (pa_cons (pcall T.first_place_unlike G_first_place_unlike hr rfl (pa_cons (pv 6) (pa_cons (pv 7) pa_nil))) pa_nil))))) pss_nil))))
      (pss_cons (ps_if (pt_cmpR op_ne (pe_callB (klen_seq K rfl) rfl T.b_len bt_len (pa_cons (pv 3) pa_nil)) (pe_callB (klen_seq K rfl) rfl T.b_len bt_len (pa_cons (pv 2) pa_nil)) (nomark _)) (pss_one (ps_ret (pe_tup (pa_cons (pe_callB (call_min2 rfl) rfl T.b_min bt_min (pa_cons (pe_callB (klen_seq K rfl) rfl T.b_len bt_len (pa_cons (pv 3) pa_nil)) (pa_cons (pe_callB (klen_seq K rfl) rfl T.b_len bt_len (pa_cons (pv 2) pa_nil)) pa_nil))) (pa_cons pe_int pa_nil))))) pss_nil)
      (pss_one (ps_ret pe_non))))), ?_⟩
  walk_at "rd"
  exact ⟨l, x, rs, rfl, hC, hx, hbad, fun H2 dx hs2 hdx => qx H2 dx hs2 hdx⟩
def sp_law_refused (K : PySem.W.Frag) : Sp := fun vs H Q _ => ∃ (l : Addr) (x : Str) (v : V) (rs : List Cs.Row), vs = [.ref l, .str x, v] ∧ Cs.CaseAt K H l rs ∧ x.length ≤ 90000 ∧ BadK rs x.cps.toList ∧ ∀ H', Same H H' → Q (.bl true) H'
theorem ok_law_refused (T : Tx K mg a) : FnOk P w K mg base CX0 6 a.f_law_refused a.d_law_refused ["_law_case_here", "_law_keys", "_law_slugs"] (sp_law_refused K) := by
  have G_lines_of := ok_lines_of (P := P) (w := w) (base := base) T
  have G_first_unlike := ok_first_unlike (P := P) (w := w) (base := base) T
  refine T.law_refused.fn.ok sc_law_refused (fun vs H Q E h => ?_) (fun cdv A outer s H vs Q E hr h => ?_)
  · obtain ⟨l, x, v, rs, rfl, _⟩ := h
    rfl
  obtain ⟨l, x, v, rs, rfl, hC, hx, hbad, q⟩ := h
  generalize hk : kAt rs x.cps.toList = k
  have hg := T.cl_NoKeys.q.g
  refine ⟨_, (pss_cons (ps_set (i := 3) sc_law_refused.nd rfl (Or.inl rfl) (pe_lst pa_nil))
      (pss_cons (ps_cut (ps_try rfl (fun _ _ => (pss_one (ps_expr (pcallX T.first_unlike G_first_unlike hr rfl rfl (pa_cons (pv 0) (pa_cons (pv 1) (pa_cons (pv 2) pa_nil))))))) (fun _ => (kph_cons K rfl (i := 4) rfl T.cl_NoKeys.mg T.cl_NoKeys.cls sc_law_refused.nd rfl rfl (fun _ => (pss_one (ps_set (i := 3) sc_law_refused.nd rfl (Or.inl rfl) (pe_lst (pa_cons (kpe_xg (K := K) rfl (pv 4)) pa_nil))))) ph_nil))))
      (pss_cons (ps_cut (ps_try rfl (fun _ _ => (pss_one (ps_expr (pcallX T.lines_of G_lines_of hr rfl rfl (pa_cons (pv 0) (pa_cons (pv 1) pa_nil)))))) (fun _ => (kph_cons K rfl (i := 4) rfl T.cl_NoKeys.mg T.cl_NoKeys.cls sc_law_refused.nd rfl rfl (fun _ => (pss_one (ps_expr (kpe_bm K rfl PySem.F.plainAttrs_list PySem.F.slot_list_append PySem.F.type_list_append mt_append (pv 3) (pa_cons (kpe_xg (K := K) rfl (pv 4)) pa_nil))))) ph_nil))))
      (pss_one (ps_ret (pe_and (pe_cmpR op_eq (pe_callB (klen_seq K rfl) rfl T.b_len bt_len (pa_cons (pv 3) pa_nil)) pe_int (nomark _)) (pe_one (pe_cmpR op_eq (pe_ix (kix_list K rfl) (pv 3) pe_int (fun _ _ => rfl)) (pe_ix (kix_list K rfl) (pv 3) pe_int (fun _ _ => rfl)) (nomark _))))))))), ?_⟩
  walk_at "rd"
  intro t0 ht0
  have hs0 := same_new ht0 (.lst [])
  generalize upd H t0 (.lst []) = H0 at hs0 ⊢
  refine ⟨fun σ H2 => ∃ t v4, σ = [some (.ref l), some (.str x), some v, some (.ref t), v4] ∧ Same H H2 ∧ H t = none ∧ H2 t = some (.lst [.int (k : Int)]), ?_, ?_⟩
  · walk_at "rd"
    refine ⟨l, x, v, rs, rfl, hC.same hs0, hx, hbad, fun H3 dx hs3 hdx => ?_⟩
    refine ⟨a.c_NoKeys, some a.f_init_NoKeys, true, rfl, T.cl_NoKeys.cls, T.m_NoKeys_NoKeys, iteT ?_⟩
    intro e he0
    rw [hk] at he0 ⊢
    have hde : dx ≠ e := fun z => by rw [← z, upd_same] at he0; cases he0
    have he1 : upd (upd H3 dx (.xd [("at", .int (k : Int))])) e (XE e a.c_NoKeys (some dx)) e = some (XE e a.c_NoKeys (some dx)) := upd_same
    have hd1 : upd (upd H3 dx (.xd [("at", .int (k : Int))])) e (XE e a.c_NoKeys (some dx)) dx = some (.xd [("at", .int (k : Int))]) := by rw [upd_ne hde, upd_same]
    have hs4 : Same H (upd (upd H3 dx (.xd [("at", .int (k : Int))])) e (XE e a.c_NoKeys (some dx))) := same_add (same_add (hs0.trans hs3) hdx) he0
    generalize upd (upd H3 dx (.xd [("at", .int (k : Int))])) e (XE e a.c_NoKeys (some dx)) = H4 at he1 hd1 hs4 ⊢
    walk_at "rd"
    refine ⟨e, a.c_NoKeys, dx, _, _, rfl, he1, hd1, hg, (T.cl_NoKeys).xf.no, rfl, ?_⟩
    walk_at "rd"
    intro t ht
    exact ⟨t, _, rfl, hs4.trans (same_new ht _), hs4.free ht, upd_same⟩
  rintro σ H2 ⟨t, v4, rfl, hs2, ht, ht2⟩
  refine ⟨fun σ H3 => ∃ v4, σ = [some (.ref l), some (.str x), some v, some (.ref t), v4] ∧ Same H H3 ∧ H3 t = some (.lst [.int (k : Int), .int (k : Int)]), ?_, ?_⟩
  · walk_at "rd"
    refine ⟨l, x, rs, rfl, hC.same hs2, hx, hbad, fun H3 dx hs3 hdx => ?_⟩
    refine ⟨a.c_NoKeys, some a.f_init_NoKeys, true, rfl, T.cl_NoKeys.cls, T.m_NoKeys_NoKeys, iteT ?_⟩
    intro e he0
    rw [hk] at he0 ⊢
    have hde : dx ≠ e := fun z => by rw [← z, upd_same] at he0; cases he0
    have he1 : upd (upd H3 dx (.xd [("at", .int (k : Int))])) e (XE e a.c_NoKeys (some dx)) e = some (XE e a.c_NoKeys (some dx)) := upd_same
    have hd1 : upd (upd H3 dx (.xd [("at", .int (k : Int))])) e (XE e a.c_NoKeys (some dx)) dx = some (.xd [("at", .int (k : Int))]) := by rw [upd_ne hde, upd_same]
    have hs24 : Same H2 (upd (upd H3 dx (.xd [("at", .int (k : Int))])) e (XE e a.c_NoKeys (some dx))) := same_add (same_add hs3 hdx) he0
    generalize upd (upd H3 dx (.xd [("at", .int (k : Int))])) e (XE e a.c_NoKeys (some dx)) = H4 at he1 hd1 hs24 ⊢
    have hs4 := hs2.trans hs24
    have ht4 := hs24 _ _ ht2
    walk_at "rd"
    refine ⟨.inl ⟨rfl, _, SqL.of ht4⟩, ?_⟩
    walk_at "rd"
    refine ⟨e, a.c_NoKeys, dx, _, _, rfl, he1, hd1, hg, (T.cl_NoKeys).xf.no, rfl, ?_⟩
    refine ⟨t, _, _, rfl, rfl, ht4, smallLt (by show 1 ≤ _; omega), ?_⟩
    exact ⟨_, rfl, same_upd hs4 ht, upd_same⟩
  rintro σ H3 ⟨v4, rfl, hs3, ht3⟩
  walk_at "rd"
  refine ⟨t, _, rfl, .inl (SqL.of ht3), ?_⟩
  walk_at "rd"
  refine ⟨t, _, _, _, rfl, rfl, SqL.of ht3, rfl, ?_⟩
  refine ⟨_, rfl, ?_⟩
  refine ⟨t, _, _, _, rfl, rfl, SqL.of ht3, rfl, ?_⟩
  walk_at "rd"
  rw [decide_eq_true rfl]
  exact q _ hs3
def sp_law_texts (K : PySem.W.Frag) : Sp := fun vs H Q _ => ∃ (p no : Addr) (xs : List V) (ls : List (List Str)), vs = [.ref p] ∧ SqL K H p xs ∧ Paired (Lns.LineN no H) xs ls ∧ Lns.Fit ls ∧ ∀ (r : Addr) H', H r = none → Same H H' → H' r = some (.lst ((ls.map Lns.lineT).map V.str)) → Q (.ref r) H'
theorem ok_law_texts (T : Tx K mg a) : FnOk P w K mg base CX0 1 a.f_law_texts a.d_law_texts ["_law_lines"] (sp_law_texts K) := by
  refine T.law_texts.fn.ok sc_law_texts (fun vs H Q E h => ?_) (fun cdv A outer s H vs Q E hr h => ?_)
  · obtain ⟨p, no, xs, ls, rfl, _⟩ := h
    rfl
  obtain ⟨p, no, xs, ls, rfl, hS, hp, hf, q⟩ := h
  have hxl := Lns.lines_len hp
  have hf1 := hf.1
  refine ⟨_, (pss_one (ps_ret (pe_compG rfl (kpi_list K rfl (pv 0)) (BlkOk.of (N' := ["_law_lines", "_law_line"]) (ms := []) (k := 1) (by rfl)) (fun _ _ _ _ _ => (pg_name (i := 1) (show List.Nodup (["_law_lines", "_law_line"] : List Str) from by decide +kernel) rfl (Or.inl rfl))) (fun _ _ _ _ _ => pts_nil) (fun _ _ _ _ _ => (kpe_bm K rfl PySem.F.plainAttrs_str PySem.F.slot_str_join PySem.F.type_str_join (kmt_join K rfl) pe_str (pa_cons (pv 1) pa_nil)))))), ?_⟩
  walk_at "rd"
  intro D hD
  refine comp_list (a := p) (xs := xs) (fun i ys σ H2 => ∃ (v2 : Option V), ys = ((ls.take i).map Lns.lineT).map V.str ∧ σ = [some (.ref p), v2] ∧ Same H H2 ∧ H2 D = some (.lst ys))
    ?_ ?_ ?_ ?_
  · exact ⟨none, rfl, rfl, same_new hD _, upd_same⟩
  · rintro j zs σ H6 hj ⟨_, _, _, hs, _⟩
    exact hs.seq hS
  · rintro j x ys σ H6 hx hjl ⟨v, rfl, rfl, hs, hh⟩
    obtain ⟨w0, hw0, t, rfl, _, ht⟩ := Cs.pd_get hp hx
    have hwm := List.mem_of_getElem? hw0
    walk_at "rd"
    refine ⟨_, t, w0, rfl, rfl, SqL.of (hs _ _ ht), ?_, ?_⟩
    · have := hf.2 w0 hwm
      exact Lns.line_small this.1 this.2
    · refine cnext hjl hh ?_ ⟨_, ?_, rfl, same_upd hs hD, upd_same⟩
      · rw [List.length_map, List.length_map, List.length_take]
        omega
      · rw [List.take_add_one, hw0, List.map_append, List.map_append]
        rfl
  · rintro ys σ H6 ⟨v, rfl, rfl, hs, hh⟩
    rw [List.take_of_length_le (by omega)] at hh
    exact q D H6 hD hs hh
open Unl
theorem cp_symm : ∀ x y, cp x y = cp y x
  | [], [] => rfl
  | [], _ :: _ => rfl
  | _ :: _, [] => rfl
  | a :: x, b :: y => by
    show (if a = b then cp x y + 1 else 0) = (if b = a then cp y x + 1 else 0)
    rw [cp_symm x y]
    by_cases h : a = b
    · rw [if_pos h, if_pos h.symm]
    · rw [if_neg h, if_neg (fun e => h e.symm)]
theorem un_symm : ∀ (k : Nat) (ts ss : List Str), un k ts ss = un k ss ts
  | _, [], [] => rfl
  | _, [], _ :: _ => rfl
  | _, _ :: _, [] => rfl
  | k, t :: ts, s :: ss => by
    show (if t = s then un (k + 1) ts ss else some (k, cp t.cps.toList s.cps.toList)) = (if s = t then un (k + 1) ss ts else some (k, cp s.cps.toList t.cps.toList))
    rw [un_symm (k + 1) ts ss, cp_symm]
    by_cases h : t = s
    · rw [if_pos h, if_pos h.symm]
    · rw [if_neg h, if_neg (fun e => h e.symm)]
theorem un_eq : ∀ {k : Nat} {ts ss : List Str}, un k ts ss = none → ts = ss
  | _, [], [], _ => rfl
  | _, [], _ :: _, h => by cases h
  | _, _ :: _, [], h => by cases h
  | k, t :: ts, s :: ss, h => by
    have h : (if t = s then un (k + 1) ts ss else some (k, cp t.cps.toList s.cps.toList)) = none := h
    split at h
    · rename_i e
      rw [e, un_eq h]
    · cases h
theorem un_inv : ∀ {k : Nat} {ts ss : List Str} {i p : Nat}, un k ts ss = some (i, p) → ∃ j, i = k + j ∧ ts.take j = ss.take j ∧ j ≤ ts.length ∧ j ≤ ss.length ∧ ((∃ t s, ts[j]? = some t ∧ ss[j]? = some s ∧ t ≠ s ∧ p = cp t.cps.toList s.cps.toList) ∨ ((j = ts.length ∨ j = ss.length) ∧ p = 0 ∧ ts.length ≠ ss.length))
  | _, [], [], _, _, h => by cases h
  | k, [], s :: ss, i, p, h => by
    have h : some (k, 0) = some (i, p) := h
    cases h
    exact ⟨0, rfl, rfl, Nat.zero_le _, Nat.zero_le _, .inr ⟨.inl rfl, rfl, fun e => by cases e⟩⟩
  | k, t :: ts, [], i, p, h => by
    have h : some (k, 0) = some (i, p) := h
    cases h
    exact ⟨0, rfl, rfl, Nat.zero_le _, Nat.zero_le _, .inr ⟨.inr rfl, rfl, fun e => by cases e⟩⟩
  | k, t :: ts, s :: ss, i, p, h => by
    have h : (if t = s then un (k + 1) ts ss else some (k, cp t.cps.toList s.cps.toList)) = some (i, p) := h
    split at h
    · rename_i e
      obtain ⟨j, rfl, h1, h2, h3, h4⟩ := un_inv h
      refine ⟨j + 1, by omega, by rw [List.take_succ_cons, List.take_succ_cons, e, h1], Nat.succ_le_succ h2, Nat.succ_le_succ h3, ?_⟩
      rcases h4 with ⟨t', s', a1, a2, a3, a4⟩ | ⟨a1, a2, a3⟩
      · exact .inl ⟨t', s', a1, a2, a3, a4⟩
      · refine .inr ⟨?_, a2, fun z => a3 (Nat.succ.inj z)⟩
        rcases a1 with z | z
        · exact .inl (congrArg Nat.succ z)
        · exact .inr (congrArg Nat.succ z)
    · rename_i e
      cases h
      exact ⟨0, rfl, rfl, Nat.zero_le _, Nat.zero_le _, .inl ⟨t, s, rfl, rfl, e, rfl⟩⟩
theorem cp_one {x y : List Nat} (h : x ≠ y) : (x.drop (cp x y)).take 1 ≠ (y.drop (cp x y)).take 1 := by
  intro e
  apply cp_ne h
  have a := cp_take (Nat.le_refl (cp x y))
  rw [List.take_add, List.take_add, a, e]
theorem slice_one (x : Str) {z : Int} (n : Nat) (hz : z = (n : Int)) : (Txt.slice x (some z) (some (z + 1))).cps.toList = (x.cps.toList.drop n).take 1 := by
  have hl : x.cps.toList.length = x.length := Array.length_toList
  have e : Builtin.Str.strSliceIndices (some z) (some (z + 1)) 1 x.length = (List.range (min (n + 1) x.length - min n x.length)).map fun (k : Nat) => min n x.length + k := by
    unfold Builtin.Str.strSliceIndices
    simp only [show (1 : Int) > 0 by decide, if_true]
    exact range_of (by split <;> omega) (by split <;> split <;> omega)
  rw [slice_by e (fun _ => by omega)]
  by_cases h : n < x.length
  · rw [Nat.min_eq_left (by omega), Nat.min_eq_left (by omega), show n + 1 - n = 1 by omega]
  · rw [List.drop_of_length_le (by omega), List.drop_of_length_le (by omega)]
    rw [List.take_nil, List.take_nil]
theorem lines_back {ls : List (List Str)} (h : ∀ x ∈ ls, x ≠ [] ∧ ∀ y ∈ x, Lns.Plain y) : (ls.map Lns.lineT).map (fun t => Txt.split t " ") = ls := by
  rw [List.map_map]
  have : ∀ x ∈ ls, ((fun t => Txt.split t " ") ∘ Lns.lineT) x = id x := fun x hx => Lns.split_line (h x hx).1 (h x hx).2
  rw [List.map_congr_left this, List.map_id]
theorem lines_inj {ls os : List (List Str)} (h : ∀ x ∈ ls, x ≠ [] ∧ ∀ y ∈ x, Lns.Plain y) (h2 : ∀ x ∈ os, x ≠ [] ∧ ∀ y ∈ x, Lns.Plain y) (e : ls.map Lns.lineT = os.map Lns.lineT) : ls = os := by
  rw [← lines_back h, ← lines_back h2, e]
theorem settable {rs : List Cs.Row} (hsg : ∀ r ∈ rs, ∃ c ∈ Cs.signs, r.s = sg c) {m : Nat} {x : Str} (h : WordOk rs m x) : Lns.Settable rs x := by
  refine ⟨h.1, fun c hc => ⟨?_, h.2.2 c hc⟩⟩
  obtain ⟨k, hk⟩ := Option.isSome_iff_exists.mp (h.2.2 c hc)
  obtain ⟨r, hr, e⟩ := Cs.place_row hk
  obtain ⟨d, hd, e2⟩ := hsg r (List.mem_of_getElem? hr)
  have e3 : c = d := sg_inj (e.symm.trans e2)
  have lt : ∀ d ∈ Cs.signs, Lns.isS d = true := by decide +kernel
  exact e3 ▸ lt d hd
theorem un_den {K : PySem.W.Frag} {H : Hp} {v : V} {o : Option (Nat × Nat)} (h : UnAt H v o) : Den K H v (match o with | none => .none | some (i, p) => .tuple [.int (i : Int), .int (p : Int)]) := by
  cases o with
  | none =>
    obtain rfl : v = .non := h
    exact .non
  | some ip =>
    obtain ⟨t, rfl, ht⟩ := h
    exact .tup (SqT.of ht) (.cons (.int _) (.cons (.int _) .nil))
def sp_law_alike_to (K : PySem.W.Frag) : Sp := fun vs H Q _ => ∃ (c p o no no2 : Addr) (xs ys : List V) (rs : List Cs.Row) (ls os : List (List Str)), vs = [.ref c, .ref p, .ref o] ∧ Cs.CaseAt K H c rs ∧ (∀ r ∈ rs, ∃ c ∈ Cs.signs, r.s = sg c) ∧ SqL K H p xs ∧ Paired (Lns.LineN no H) xs ls ∧ SqL K H o ys ∧ Paired (Lns.LineN no2 H) ys os ∧ (∀ x ∈ ls, LineOk rs x) ∧ (∀ x ∈ os, LineOk rs x) ∧ ls.length ≤ 50 ∧ os.length ≤ 50 ∧ ∀ H', Same H H' → Q (.bl true) H'
theorem ok_law_alike_to (T : Tx K mg a) : FnOk P w K mg base CX0 6 a.f_law_alike_to a.d_law_alike_to ["_law_case_here", "_law_lines", "_law_others"] (sp_law_alike_to K) := by
  have G0_first_unlike := ok_first_unlike0 (P := P) (w := w) (base := base) T
  have G_keys_of := ok_keys_of (P := P) (w := w) (base := base) T
  have G_law_texts := ok_law_texts (P := P) (w := w) (base := base) T
  refine T.law_alike_to.fn.ok sc_law_alike_to (fun vs H Q E h => ?_) (fun cdv A outer s H vs Q E hr h => ?_)
  · obtain ⟨c, p, o, no, no2, xs, ys, rs, ls, os, rfl, _⟩ := h
    rfl
  obtain ⟨c, p, o, no, no2, xs, ys, rs, ls, os, rfl, hC, hsg, hP, hpl, hO, hpo, hlo, hoo, hll, hol, q⟩ := h
  have hfl : Lns.Fit ls := lines_fit hlo (by omega)
  have hfo : Lns.Fit os := lines_fit hoo (by omega)
  have hkl := key_len hlo
  have hko := key_len hoo
  have hxl := Lns.lines_len hpl
  have hyl := Lns.lines_len hpo
  have setL : ∀ x ∈ ls, x ≠ [] ∧ ∀ y ∈ x, Lns.Settable rs y := fun x hx => ⟨(hlo x hx).1, fun y hy => settable hsg ((hlo x hx).2.2 y hy)⟩
  have setO : ∀ x ∈ os, x ≠ [] ∧ ∀ y ∈ x, Lns.Settable rs y := fun x hx => ⟨(hoo x hx).1, fun y hy => settable hsg ((hoo x hx).2.2 y hy)⟩
  have plL : ∀ x ∈ ls, x ≠ [] ∧ ∀ y ∈ x, Lns.Plain y := fun x hx => ⟨(setL x hx).1, fun y hy => ((setL x hx).2 y hy).plain⟩
  have plO : ∀ x ∈ os, x ≠ [] ∧ ∀ y ∈ x, Lns.Plain y := fun x hx => ⟨(setO x hx).1, fun y hy => ((setO x hx).2 y hy).plain⟩
  have tL : ∀ x ∈ ls, (Lns.lineT x).length ≤ 90000 := fun x hx => Nat.le_trans (line_len (hlo x hx)) (by decide)
  have tO : ∀ x ∈ os, (Lns.lineT x).length ≤ 90000 := fun x hx => Nat.le_trans (line_len (hoo x hx)) (by decide)
  have layL : ∀ x ∈ ls, ∀ y ∈ x, PyData.canLay0 (.str y) = true := fun x hx y hy => word_lay hsg ((hlo x hx).2.2 y hy)
  have layO : ∀ x ∈ os, ∀ y ∈ x, PyData.canLay0 (.str y) = true := fun x hx y hy => word_lay hsg ((hoo x hx).2.2 y hy)
  refine ⟨_, (pss_cons (ps_set (i := 3) sc_law_alike_to.nd rfl (Or.inl rfl) (pcall T.first_unlike G0_first_unlike hr rfl (pa_cons (pv 0) (pa_cons (pcall T.keys_of G_keys_of hr rfl (pa_cons (pv 1) pa_nil)) (pa_cons (pcall T.law_texts G_law_texts hr rfl (pa_cons (pv 2) pa_nil)) pa_nil)))))
      (pss_cons (ps_if (pt_cmpR (kneD K rfl hr.units) (pv 3) (pcall T.first_unlike G0_first_unlike hr rfl (pa_cons (pv 0) (pa_cons (pcall T.keys_of G_keys_of hr rfl (pa_cons (pv 2) pa_nil)) (pa_cons (pcall T.law_texts G_law_texts hr rfl (pa_cons (pv 1) pa_nil)) pa_nil)))) (nomark _)) (pss_one (ps_ret pe_bl)) pss_nil)
      (pss_cons (ps_if (pt_cmp (pc_isN (pv 3))) (pss_one (ps_ret (pe_cmpR (keqD K rfl hr.units) (pv 1) (pv 2) (nomark _)))) pss_nil)
      (pss_cons (ps_asg (pv 3) (kpg_tup K rfl (n := 2) rfl (pgs_cons (pg_name (i := 4) sc_law_alike_to.nd rfl (Or.inl rfl)) (pgs_cons (pg_name (i := 5) sc_law_alike_to.nd rfl (Or.inl rfl)) pgs_nil))))
      (pss_cons (ps_if (pt_cmpR (kneD K rfl hr.units) (pe_slice (ksl_list K rfl) (pv 1) po_none (po_some (pv 4))) (pe_slice (ksl_list K rfl) (pv 2) po_none (po_some (pv 4))) (nomark _)) (pss_one (ps_ret pe_bl)) pss_nil)
      (pss_cons (ps_if (PW.pt (pw_or (pt_cmpR op_eq (pv 4) (pe_callB (klen_seq K rfl) rfl T.b_len bt_len (pa_cons (pv 1) pa_nil)) (nomark _)) (pw_or1 (pt_cmpR op_eq (pv 4) (pe_callB (klen_seq K rfl) rfl T.b_len bt_len (pa_cons (pv 2) pa_nil)) (nomark _))))) (pss_one (ps_ret (pe_and (pe_cmpR op_eq (pv 5) pe_int (nomark _)) (pe_one (pe_cmpR op_ne (pe_callB (klen_seq K rfl) rfl T.b_len bt_len (pa_cons (pv 1) pa_nil)) (pe_callB (klen_seq K rfl) rfl T.b_len bt_len (pa_cons (pv 2) pa_nil)) (nomark _)))))) pss_nil)
      (pss_cons (ps_set (i := 6) sc_law_alike_to.nd rfl (Or.inl rfl) (kpe_bm K rfl PySem.F.plainAttrs_str PySem.F.slot_str_join PySem.F.type_str_join (kmt_join K rfl) pe_str (pa_cons (pe_ix (kix_list K rfl) (pv 1) (pv 4) (fun _ _ => rfl)) pa_nil)))
      (pss_cons (ps_set (i := 7) sc_law_alike_to.nd rfl (Or.inl rfl) (kpe_bm K rfl PySem.F.plainAttrs_str PySem.F.slot_str_join PySem.F.type_str_join (kmt_join K rfl) pe_str (pa_cons (pe_ix (kix_list K rfl) (pv 2) (pv 4) (fun _ _ => rfl)) pa_nil)))
      (pss_one (ps_ret (pe_and (pe_cmpR op_ne (pv 6) (pv 7) (nomark _)) (pe_and (pe_cmpR op_eq (pe_slice sl_str (pv 6) po_none (po_some (pv 5))) (pe_slice sl_str (pv 7) po_none (po_some (pv 5))) (nomark _)) (pe_one (pe_cmpR op_ne (pe_slice sl_str (pv 6) (po_some (pv 5)) (po_some (pe_op op_add (pv 5) pe_int))) (pe_slice sl_str (pv 7) (po_some (pv 5)) (po_some (pe_op op_add (pv 5) pe_int))) (nomark _))))))))))))))), ?_⟩
  walk_at "rd"
  refine ⟨p, no, xs, ls, rfl, hP, hpl, hfl, fun H1 hs1 => ?_⟩
  walk_at "rd"
  refine ⟨o, no2, ys, os, rfl, hs1.seq hO, Lns.lines_same hpo hs1, hfo, fun r1 H2 hr1 hs2 hr2 => ?_⟩
  have hs02 := hs1.trans hs2
  refine ⟨c, r1, rs, ls, os.map Lns.lineT, rfl, hC.same hs02, by omega, tL, hfl, setL, SqL.of hr2, by rw [List.length_map]; omega, (fun x hx => ?_), fun v H3 hs3 hv => ?_⟩
  · obtain ⟨y, hy, rfl⟩ := List.mem_map.mp hx
    exact tO y hy
  have hs03 := hs02.trans hs3
  walk_at "rd"
  refine ⟨o, no2, ys, os, rfl, hs03.seq hO, Lns.lines_same hpo hs03, hfo, fun H4 hs4 => ?_⟩
  have hs04 := hs03.trans hs4
  walk_at "rd"
  refine ⟨p, no, xs, ls, rfl, hs04.seq hP, Lns.lines_same hpl hs04, hfl, fun r2 H5 hr5 hs5 hr25 => ?_⟩
  have hs05 := hs04.trans hs5
  refine ⟨c, r2, rs, os, ls.map Lns.lineT, rfl, hC.same hs05, by omega, tO, hfo, setO, SqL.of hr25, by rw [List.length_map]; omega, (fun x hx => ?_), fun v2 H6 hs6 hv2 => ?_⟩
  · obtain ⟨y, hy, rfl⟩ := List.mem_map.mp hx
    exact tL y hy
  have hs06 := hs05.trans hs6
  have hv6 := hv.same (hs4.trans (hs5.trans hs6))
  rw [un_symm] at hv2
  have hP6 := hs06.seq hP
  have hO6 := hs06.seq hO
  have hpl6 := Lns.lines_same hpl hs06
  have hpo6 := Lns.lines_same hpo hs06
  cases hun : un 0 (ls.map Lns.lineT) (os.map Lns.lineT) with
  | none =>
    rw [hun] at hv6 hv2
    have elo : ls = os := lines_inj plL plO (un_eq hun)
    obtain rfl : v = .non := hv6
    obtain rfl : v2 = .non := hv2
    refine ⟨.none, .none, .non, .non, by decide, ?_⟩
    rw [eqv_refl (show nb PyData.none = true from rfl)]
    walk_at "rd"
    try refine iteF ?_
    walk_at "rd"
    subst elo
    refine ⟨Lns.dLines ls, Lns.dLines ls, .lst hP6 (Lns.denL_lines hpl6 layL), .lst hO6 (Lns.denL_lines hpo6 layL), Lns.dlines_depth _ _, ?_⟩
    rw [eqv_refl (show nb (Lns.dLines ls) = true from Lns.nb_lines ls)]
    exact q _ hs06
  | some ip =>
    obtain ⟨i, pp⟩ := ip
    rw [hun] at hv6 hv2
    obtain ⟨j, ej, h1, h2, h3, h4⟩ := un_inv hun
    rw [Nat.zero_add] at ej
    subst ej
    obtain ⟨tv, rfl, htv⟩ := hv6
    obtain ⟨tv2, rfl, htv2⟩ := hv2
    rw [List.length_map] at h2 h3
    refine ⟨.tuple [.int (i : Int), .int (pp : Int)], .tuple [.int (i : Int), .int (pp : Int)], .tup (SqT.of htv) (.cons (.int _) (.cons (.int _) .nil)), .tup (SqT.of htv2) (.cons (.int _) (.cons (.int _) .nil)), Nat.le_of_ble_eq_true rfl, ?_⟩
    rw [eqv_refl (show nb (PyData.tuple [.int (i : Int), .int (pp : Int)]) = true from rfl)]
    walk_at "rd"
    try refine iteF ?_
    walk_at "rd"
    walk_at "tg"
    walk_at "tg"
    walk_at "rd"
    refine ⟨p, _, rfl, hP6, fun p7 hp7 => ?_⟩
    rw [show cutV xs none (some (i : Int)) = xs.take i from cutv_take rfl]
    have hs7 := same_new hp7 (.lst (xs.take i))
    have h77 : upd H6 p7 (.lst (xs.take i)) p7 = some (.lst (xs.take i)) := upd_same
    generalize upd H6 p7 (.lst (xs.take i)) = H7 at hs7 h77 ⊢
    walk_at "rd"
    refine ⟨o, _, rfl, hs7.seq hO6, fun p8 hp8 => ?_⟩
    rw [show cutV ys none (some (i : Int)) = ys.take i from cutv_take rfl]
    have hs8 := same_new hp8 (.lst (ys.take i))
    have h88 : upd H7 p8 (.lst (ys.take i)) p8 = some (.lst (ys.take i)) := upd_same
    generalize upd H7 p8 (.lst (ys.take i)) = H8 at hs8 h88 ⊢
    have hs68 := hs7.trans hs8
    have hs08 := hs06.trans hs68
    have etk : os.take i = ls.take i := by
      refine (lines_inj (fun x hx => plL x (List.mem_of_mem_take hx)) (fun x hx => plO x (List.mem_of_mem_take hx)) ?_).symm
      rw [List.map_take, List.map_take]
      exact h1
    have hpo8 : Paired (Lns.LineN no2 H8) (ys.take i) (ls.take i) := by
      rw [← etk]
      exact Lns.pd_take i (Lns.lines_same hpo6 hs68)
    refine ⟨Lns.dLines (ls.take i), Lns.dLines (ls.take i), .lst (SqL.of (hs8 _ _ h77)) (Lns.denL_lines (Lns.pd_take i (Lns.lines_same hpl6 hs68)) (fun x hx => layL x (List.mem_of_mem_take hx))), .lst (SqL.of h88) (Lns.denL_lines hpo8 (fun x hx => layL x (List.mem_of_mem_take hx))), Lns.dlines_depth _ _, ?_⟩
    rw [eqv_refl (show nb (Lns.dLines (ls.take i)) = true from Lns.nb_lines _)]
    walk_at "rd"
    try refine iteF ?_
    have hP8 := hs68.seq hP6
    have hO8 := hs68.seq hO6
    have iv : ∀ {i j : Int}, decide (V.int i = V.int j) = decide (i = j) := fun {i j} => decide_eq_decide.mpr ⟨fun h => by injection h, fun h => by rw [h]⟩
    walk_at "rd"
    refine ⟨p, _, rfl, .inl hP8, ?_⟩
    rw [hxl]
    walk_at "rd"
    rw [iv]
    rcases h4 with ⟨tx, sx, ht1, ht2, hne, hpc⟩ | ⟨hend, hp0, hln⟩
    · have hi1 : i < ls.length := by
        have := (List.getElem?_eq_some_iff.mp ht1).1
        rw [List.length_map] at this
        exact this
      have hi2 : i < os.length := by
        have := (List.getElem?_eq_some_iff.mp ht2).1
        rw [List.length_map] at this
        exact this
      rw [decide_eq_false (show ¬ (i : Int) = (ls.length : Int) by omega)]
      refine iteF ?_
      walk_at "rd"
      refine ⟨o, _, rfl, .inl hO8, ?_⟩
      rw [hyl]
      walk_at "rd"
      rw [iv, decide_eq_false (show ¬ (i : Int) = (os.length : Int) by omega)]
      refine iteF ?_
      rw [List.getElem?_map] at ht1 ht2
      obtain ⟨l1, hl1, rfl⟩ := Option.map_eq_some_iff.mp ht1
      obtain ⟨l2, hl2, rfl⟩ := Option.map_eq_some_iff.mp ht2
      obtain ⟨l1', hl1', q1, e1, _, hq1⟩ := Cs.pd_get (Lns.lines_same hpl6 hs68) (List.getElem?_eq_getElem (show i < xs.length by omega))
      rw [hl1] at hl1'
      cases hl1'
      obtain ⟨l2', hl2', q2, e2, _, hq2⟩ := Cs.pd_get (Lns.lines_same hpo6 hs68) (List.getElem?_eq_getElem (show i < ys.length by omega))
      rw [hl2] at hl2'
      cases hl2'
      have a1 : ∀ _ : Unit, atI xs (i : Int) = some (.ref q1) := fun _ => by rw [← e1]; exact atI_nat (List.getElem?_eq_getElem _)
      have a2 : ∀ _ : Unit, atI ys (i : Int) = some (.ref q2) := fun _ => by rw [← e2]; exact atI_nat (List.getElem?_eq_getElem _)
      have m1 := List.mem_of_getElem? hl1
      have m2 := List.mem_of_getElem? hl2
      have n1 := tL l1 m1
      have n2 := tO l2 m2
      walk_at "rd"
      refine ⟨p, _, _, _, rfl, rfl, hP8, a1 (), ?_⟩
      refine ⟨_, q1, l1, rfl, rfl, SqL.of hq1, Lns.line_small (hfl.2 l1 m1).1 (hfl.2 l1 m1).2, ?_⟩
      walk_at "rd"
      refine ⟨o, _, _, _, rfl, rfl, hO8, a2 (), ?_⟩
      refine ⟨_, q2, l2, rfl, rfl, SqL.of hq2, Lns.line_small (hfo.2 l2 m2).1 (hfo.2 l2 m2).2, ?_⟩
      rw [show Txt.join (Str.ofString " ") l1 = Lns.lineT l1 from rfl, show Txt.join (Str.ofString " ") l2 = Lns.lineT l2 from rfl]
      clear ht1 ht2
      generalize Lns.lineT l1 = X at hne hpc n1 ⊢
      generalize Lns.lineT l2 = Y at hne hpc n2 ⊢
      have hne2 : X.cps.toList ≠ Y.cps.toList := fun h => hne (Lns.str_ext h)
      have b1 := slice_to X (z := (pp : Int)) pp rfl
      have b2 := slice_to Y (z := (pp : Int)) pp rfl
      have b3 := slice_one X (z := (pp : Int)) pp rfl
      have b4 := slice_one Y (z := (pp : Int)) pp rfl
      have f1 : Txt.slice X none (some (pp : Int)) = Txt.slice Y none (some (pp : Int)) := Lns.str_ext (by rw [b1, b2]; exact cp_take (by omega))
      have f2 : Txt.slice X (some (pp : Int)) (some ((pp : Int) + 1)) ≠ Txt.slice Y (some (pp : Int)) (some ((pp : Int) + 1)) := fun h => by
        have h := congrArg (fun s : Str => s.cps.toList) h
        rw [b3, b4, hpc] at h
        exact cp_one hne2 h
      walk_at "rd"
      rw [Cs.strV, decide_eq_false hne]
      refine iteT ?_
      walk_at "rd"
      refine ⟨smallL (by omega), ?_⟩
      walk_at "rd"
      refine ⟨smallL (by omega), ?_⟩
      walk_at "rd"
      rw [Cs.strV, decide_eq_true f1]
      refine iteT ?_
      walk_at "rd"
      refine ⟨smallL (by omega), ?_⟩
      walk_at "rd"
      refine ⟨smallL (by omega), ?_⟩
      walk_at "rd"
      rw [Cs.strV, decide_eq_false f2]
      exact q _ hs08
    · rw [List.length_map, List.length_map] at hend hln
      subst hp0
      by_cases hc : i = ls.length
      · rw [decide_eq_true (show (i : Int) = (ls.length : Int) by omega)]
        refine iteT ?_
        refine iteT ?_
        walk_at "rd"
        refine ⟨p, _, rfl, .inl hP8, ?_⟩
        rw [hxl]
        walk_at "rd"
        refine ⟨o, _, rfl, .inl hO8, ?_⟩
        rw [hyl]
        walk_at "rd"
        rw [iv, decide_eq_false (show ¬ (ls.length : Int) = (os.length : Int) by omega)]
        exact q _ hs08
      · rw [decide_eq_false (show ¬ (i : Int) = (ls.length : Int) by omega)]
        refine iteF ?_
        walk_at "rd"
        refine ⟨o, _, rfl, .inl hO8, ?_⟩
        rw [hyl]
        walk_at "rd"
        rw [iv, decide_eq_true (show (i : Int) = (os.length : Int) by omega)]
        refine iteT ?_
        walk_at "rd"
        refine ⟨p, _, rfl, .inl hP8, ?_⟩
        rw [hxl]
        walk_at "rd"
        refine ⟨o, _, rfl, .inl hO8, ?_⟩
        rw [hyl]
        walk_at "rd"
        rw [iv, decide_eq_false (show ¬ (ls.length : Int) = (os.length : Int) by omega)]
        exact q _ hs08
open Unl
theorem size4 {b : Int} {i : Nat} (h : i < size3 2 b 4) : 2 + (i : Int) * 4 < b := by
  unfold size3 Builtin.Range.rangeSize at h
  rw [if_pos (by decide)] at h
  split at h
  · omega
  · simp at h
theorem cut4 {ns : List Int} {a : Int} (h0 : 0 ≤ a) (h1 : a < (ns.length : Int)) : ∃ ms : List Int, cutV (ns.map V.int) (some a) (some (a + 4)) = ms.map V.int ∧ 1 ≤ ms.length ∧ ms.length ≤ 4 := by
  obtain ⟨a', rfl⟩ := Int.eq_ofNat_of_zero_le h0
  have e : (a' : Int) + 4 = ((a' + 4 : Nat) : Int) := by omega
  refine ⟨(ns.drop (HT.sIx ns.length 0 (some (a' : Int)))).take (HT.sIx ns.length ns.length (some ((a' + 4 : Nat) : Int)) - HT.sIx ns.length 0 (some (a' : Int))), ?_, ?_, ?_⟩
  · rw [e]
    unfold cutV
    rw [List.length_map, List.map_take, List.map_drop]
  · rw [HT.sIx_nat, HT.sIx_nat, List.length_take, List.length_drop]
    omega
  · rw [HT.sIx_nat, HT.sIx_nat, List.length_take, List.length_drop]
    omega
/-- a part of a list of lines -/
def cutL {α : Type} (xs : List α) (lo hi : Option Int) : List α := (xs.drop (HT.sIx xs.length 0 lo)).take (HT.sIx xs.length xs.length hi - HT.sIx xs.length 0 lo)
theorem cutL_mem {α : Type} {xs : List α} {lo hi : Option Int} {x : α} (h : x ∈ cutL xs lo hi) : x ∈ xs := List.mem_of_mem_drop (List.mem_of_mem_take h)
theorem cutL_len {α : Type} (xs : List α) (lo hi : Option Int) : (cutL xs lo hi).length ≤ xs.length := by
  unfold cutL
  rw [List.length_take, List.length_drop]
  omega
theorem pd_cut {β : Type} {F : V → β → Prop} {xs : List V} {ys : List β} (h : Paired F xs ys) (lo hi : Option Int) : Paired F (cutV xs lo hi) (cutL ys lo hi) := by
  unfold cutV cutL
  rw [Paired.length h]
  exact Lns.pd_take _ (Lns.pd_drop _ h)
/-- a list of good lines, at v -/
def LinesAt (rs : List Cs.Row) (H : Hp) (v : V) (ls : List (List Str)) : Prop := (∃ p no xs, v = .ref p ∧ H p = some (.lst xs) ∧ Paired (Lns.LineN no H) xs ls) ∧ ls.length ≤ 50 ∧ ∀ x ∈ ls, LineOk rs x
theorem LinesAt.same {rs : List Cs.Row} {H H' : Hp} {v : V} {ls : List (List Str)} (h : LinesAt rs H v ls) (s : Same H H') : LinesAt rs H' v ls :=
  let ⟨⟨p, no, xs, e, hp, hd⟩, r⟩ := h
  ⟨⟨p, no, xs, e, s _ _ hp, Lns.lines_same hd s⟩, r⟩
/-- the same, and nothing of it stands at the place no -/
def LinesN (rs : List Cs.Row) (no : Addr) (H : Hp) (v : V) (ls : List (List Str)) : Prop := (∃ p xs, v = .ref p ∧ p ≠ no ∧ H p = some (.lst xs) ∧ Paired (Lns.LineN no H) xs ls) ∧ ls.length ≤ 50 ∧ ∀ x ∈ ls, LineOk rs x
theorem LinesAt.n {rs : List Cs.Row} {no : Addr} {H : Hp} {v : V} {ls : List (List Str)} (h : LinesAt rs H v ls) (hn : H no = none) : LinesN rs no H v ls :=
  let ⟨⟨p, _, xs, e, hp, hd⟩, r⟩ := h
  ⟨⟨p, xs, e, ne_of_none hp hn, hp, Lns.lines_to hd hn⟩, r⟩
theorem LinesN.same {rs : List Cs.Row} {no : Addr} {H H' : Hp} {v : V} {ls : List (List Str)} (h : LinesN rs no H v ls) (s : Same H H') : LinesN rs no H' v ls :=
  let ⟨⟨p, xs, e, n, hp, hd⟩, r⟩ := h
  ⟨⟨p, xs, e, n, s _ _ hp, Lns.lines_same hd s⟩, r⟩
theorem LinesN.upd {rs : List Cs.Row} {no : Addr} {H : Hp} {o : HO} {v : V} {ls : List (List Str)} (h : LinesN rs no H v ls) : LinesN rs no (upd H no o) v ls :=
  let ⟨⟨p, xs, e, n, hp, hd⟩, r⟩ := h
  ⟨⟨p, xs, e, n, by rw [upd_ne n]; exact hp, Lns.lines_upd hd⟩, r⟩
theorem LinesN.all {rs : List Cs.Row} {no : Addr} {H H' : Hp} {vs : List V} {os : List (List (List Str))} (h : Paired (LinesN rs no H) vs os) (s : Same H H') : Paired (LinesN rs no H') vs os := Paired.mapP h fun _ _ z => z.same s
theorem LinesN.allu {rs : List Cs.Row} {no : Addr} {H : Hp} {o : HO} {vs : List V} {os : List (List (List Str))} (h : Paired (LinesN rs no H) vs os) : Paired (LinesN rs no (L2.upd H no o)) vs os := Paired.mapP h fun _ _ z => z.upd
theorem lineok_add {rs : List Cs.Row} {x : List Str} {y : Str} (h : LineOk rs x) (hl : x.length ≤ 4) (hy : WordOk rs 6 y) : LineOk rs (x ++ [y]) := ⟨by simp, by rw [List.length_append]; show _ + 1 ≤ 6; omega, fun z hz => (List.mem_append.mp hz).elim (h.2.2 z) fun e => by rw [List.mem_singleton.mp e]; exact hy⟩
theorem lines_else {no E : Addr} {H : Hp} {o : HO} : ∀ {zs : List V} {os : List (List Str)}, Paired (Lns.LineN no H) zs os → (∀ v ∈ zs, v ≠ .ref E) → Paired (Lns.LineN no (upd H E o)) zs os
  | _, _, .nil, _ => .nil
  | _, _, .cons ⟨p, e, n, h⟩ t, k => .cons ⟨p, e, n, by rw [upd_ne (fun z => k _ List.mem_cons_self (by rw [e, z]))]; exact h⟩ (lines_else t fun v hv => k v (List.mem_cons_of_mem _ hv))
theorem pd_rev {β : Type} {F : V → β → Prop} : ∀ {xs : List V} {ys : List β}, Paired F xs ys → Paired F xs.reverse ys.reverse
  | _, _, .nil => .nil
  | _, _, .cons r t => by
    rw [List.reverse_cons, List.reverse_cons]
    exact Paired.snoc (pd_rev t) r
theorem lineok_rev {rs : List Cs.Row} {x : List Str} (h : LineOk rs x) : LineOk rs x.reverse := ⟨fun e => h.1 (List.reverse_eq_nil_iff.mp e), by rw [List.length_reverse]; exact h.2.1, fun y hy => h.2.2 y (List.mem_reverse.mp hy)⟩
theorem in_strs (z : Str) : ∀ zs : List Str, inV (.str z) (zs.map V.str) = decide (z ∈ zs)
  | [] => rfl
  | x :: zs => by
    have ih := in_strs z zs
    unfold inV at ih ⊢
    rw [List.map_cons, List.any_cons, ih]
    show (x == z || decide (z ∈ zs)) = decide (z ∈ x :: zs)
    by_cases e : x = z
    · subst e
      rw [beq_self_eq_true, Bool.true_or, decide_eq_true List.mem_cons_self]
    · rw [beq_eq_false_iff_ne.mpr e, Bool.false_or, decide_eq_decide]
      exact ⟨fun h => List.mem_cons_of_mem _ h, fun h => (List.mem_cons.mp h).resolve_left fun e2 => e e2.symm⟩
theorem flat_strs : ∀ zs : List Str, (zs.map V.str).all flatV = true
  | [] => rfl
  | _ :: zs => flat_strs zs
theorem goes_in {rs : List Cs.Row} (pre post : List Nat) (c : Nat) : Lns.goesOn rs (pre ++ c :: post) pre.length = (if Lns.isS c = true then (Cs.place rs (sg c)).isSome else decide (0 < pre.length) && (match (pre ++ c :: post)[pre.length - 1]? with | none => false | some d => Lns.isS d)) := by
  unfold Lns.goesOn
  rw [List.getElem?_append_right (Nat.le_refl _), Nat.sub_self]
  rfl
/-- a sign that the case has not -/
theorem bad_sign {rs : List Cs.Row} {cs : List Nat} (pre post : List Nat) (c : Nat) (e : cs = pre ++ c :: post) (hs : Lns.isS c = true) (hn : Cs.place rs (sg c) = none) : BadK rs cs := by
  refine .inl ⟨pre.length, by rw [e, List.length_append]; show pre.length < pre.length + (post.length + 1); omega, ?_⟩
  rw [e, goes_in, if_pos hs, hn]
  rfl
/-- a key that is no sign, at the beginning or behind another -/
theorem bad_gap {rs : List Cs.Row} {cs : List Nat} (pre post : List Nat) (c : Nat) (e : cs = pre ++ c :: post) (hs : Lns.isS c = false) (hp : pre = [] ∨ ∃ a, pre = a ++ [47]) : BadK rs cs := by
  refine .inl ⟨pre.length, by rw [e, List.length_append]; show pre.length < pre.length + (post.length + 1); omega, ?_⟩
  rw [e, goes_in, hs, if_neg (by decide)]
  rcases hp with rfl | ⟨a, rfl⟩
  · rfl
  · have e2 : (a ++ [47] ++ c :: post)[(a ++ [47]).length - 1]? = some 47 := by
      rw [List.length_append, show a.length + [47].length - 1 = a.length from rfl, List.append_assoc, List.getElem?_append_right (Nat.le_refl _), Nat.sub_self]
      rfl
    rw [e2]
    exact Bool.and_false _
theorem not_own {rs : List Cs.Row} {x : Str} (h : x ∉ rs.map fun r => r.s) : Cs.place rs x = none := Cs.place_none fun j r _ hr e => h (List.mem_map.mpr ⟨r, List.mem_of_getElem? hr, e⟩)
theorem slice_init (x : Str) : (Txt.slice x none (some (-1))).cps.toList = x.cps.toList.dropLast := by
  have hl : x.cps.toList.length = x.length := Array.length_toList
  have e : Builtin.Str.strSliceIndices none (some (-1)) 1 x.length = (List.range (x.length - 1)).map fun (k : Nat) => 0 + k := by
    unfold Builtin.Str.strSliceIndices
    simp only [show (1 : Int) > 0 by decide, if_true]
    exact range_of rfl (by split <;> omega)
  rw [slice_by e (fun _ => rfl), List.drop_zero, List.dropLast_eq_take, hl]
theorem signs_is : ∀ d ∈ Cs.signs, Lns.isS d = true := by decide +kernel
theorem app_cps (x y : Str) : (x ++ y).cps.toList = x.cps.toList ++ y.cps.toList := Lns.app_list x y
def sp_law (K : PySem.W.Frag) : Sp := fun vs H Q _ => ∃ (a : Addr) (ns : List Int), vs = [.ref a] ∧ SqL K H a (ns.map V.int) ∧ ns.length ≤ 63 ∧ ∀ H', Q (.bl true) H'
theorem ok_law (T : Tx K mg a) : FnOk P w K mg base CX0 lawLevel a.f_law a.d_law ["_law_script"] (sp_law K) := by
  have G_law_case := ok_law_case (P := P) (w := w) (base := base) T
  have G_law_words := ok_law_words (P := P) (w := w) (base := base) T
  have G_keys_of := ok_keys_of (P := P) (w := w) (base := base) T
  have G_law_texts := ok_law_texts (P := P) (w := w) (base := base) T
  have G_law_alike_to := ok_law_alike_to (P := P) (w := w) (base := base) T
  have G_law_refused := ok_law_refused (P := P) (w := w) (base := base) T
  have G0_first_unlike := ok_first_unlike0 (P := P) (w := w) (base := base) T
  have G0_lines_of := ok_lines_of0 (P := P) (w := w) (base := base) T
  refine T.law.fn.ok sc_law (fun vs H Q E h => ?_) (fun cdv A outer s H vs Q E hr h => ?_)
  · obtain ⟨l, ns, rfl, _⟩ := h
    rfl
  obtain ⟨l, ns, rfl, hS, hl, q⟩ := h
  refine ⟨_, (pss_cons (ps_set (i := 1) sc_law.nd rfl (Or.inr rfl) (pcall T.law_case G_law_case hr rfl (pa_cons (pv 0) pa_nil)))
      (pss_cons (ps_set (i := 2) sc_law.nd rfl (Or.inl rfl) (pe_lst pa_nil))
      (pss_cons (ps_for PassesOwn.never rfl (pi_range3 rfl T.b_range (pa_cons pe_int (pa_cons (pe_callB (call_min2 rfl) rfl T.b_min bt_min (pa_cons (pe_callB (klen_seq K rfl) rfl T.b_len bt_len (pa_cons (pv 0) pa_nil)) (pa_cons pe_int pa_nil))) (pa_cons pe_int pa_nil)))) (pg_name (i := 3) sc_law.nd rfl (Or.inl rfl)) (pss_one (ps_expr (kpe_bm K rfl PySem.F.plainAttrs_list PySem.F.slot_list_append PySem.F.type_list_append mt_append (pv 2) (pa_cons (pcall T.law_words G_law_words hr rfl (pa_cons (pv 1) (pa_cons (pe_slice (ksl_list K rfl) (pv 0) (po_some (pv 3)) (po_some (pe_op op_add (pv 3) pe_int))) (pa_cons (pv 3) (pa_cons pe_int pa_nil))))) pa_nil)))))
      (pss_cons (ps_set (i := 4) sc_law.nd rfl (Or.inl rfl) (pcall T.keys_of G_keys_of hr rfl (pa_cons (pv 2) pa_nil)))
      (pss_cons (ps_set (i := 5) sc_law.nd rfl (Or.inl rfl) (pe_callTy (klist_of K rfl) rfl T.b_list bt_list (pa_cons (pv 1) pa_nil)))
      (pss_cons (ps_if (pt_cmp (pc_notN (pcall T.first_unlike G0_first_unlike hr rfl (pa_cons (pv 1) (pa_cons (pv 4) (pa_cons (pcall T.law_texts G_law_texts hr rfl (pa_cons (pcall T.lines_of G0_lines_of hr rfl (pa_cons (pv 1) (pa_cons (pv 4) pa_nil))) pa_nil)) pa_nil)))))) (pss_one (ps_ret pe_bl)) pss_nil)
      (pss_cons (ps_set (i := 6) sc_law.nd rfl (Or.inl rfl) (pe_lst (pa_cons (pe_slice (ksl_list K rfl) (pv 2) (po_some pe_int) po_none) (pa_cons (pe_slice (ksl_list K rfl) (pv 2) po_none (po_some (pe_un un_neg pe_int))) (pa_cons (pe_op op_cat (pv 2) (pe_lst (pa_cons (pe_lst (pa_cons (pe_ix (kix_tup K rfl) (pe_ix (kix_list K rfl) (pv 1) pe_int (fun _ _ => rfl)) pe_int (fun _ _ => rfl)) pa_nil)) pa_nil))) (pa_cons (pe_compG rfl (kpi_list K rfl (pv 2)) (BlkOk.of (N' := ["_law_script", "_law_case_here", "_law_lines", "_law_k", "_law_keys", "_law_kept", "_law_some", "_law_others", "_law_at", "_law_own", "_law_strange", "_law_bad", "_law_slugs", "_law_line"]) (ms := []) (k := 1) (by rfl)) (fun _ _ _ _ _ => (pg_name (i := 13) (show List.Nodup (["_law_script", "_law_case_here", "_law_lines", "_law_k", "_law_keys", "_law_kept", "_law_some", "_law_others", "_law_at", "_law_own", "_law_strange", "_law_bad", "_law_slugs", "_law_line"] : List Str) from by decide +kernel) rfl (Or.inl rfl))) (fun _ _ _ _ _ => pts_nil) (fun _ _ _ _ _ => (kpe_rev K rfl (pv 13) (pe_un un_neg pe_int)))) (pa_cons (kpe_rev K rfl (pv 2) (pe_un un_neg pe_int)) pa_nil)))))))
      (pss_cons (ps_expr (kpe_bm K rfl PySem.F.plainAttrs_list PySem.F.slot_list_append PySem.F.type_list_append mt_append (pv 6) (pa_cons (pe_op op_cat (pe_compG rfl (kpi_list K rfl (pe_slice (ksl_list K rfl) (pv 2) po_none (po_some pe_int))) (BlkOk.of (N' := ["_law_script", "_law_case_here", "_law_lines", "_law_k", "_law_keys", "_law_kept", "_law_some", "_law_others", "_law_at", "_law_own", "_law_strange", "_law_bad", "_law_slugs", "_law_line"]) (ms := []) (k := 1) (by rfl)) (fun _ _ _ _ _ => (pg_name (i := 13) (show List.Nodup (["_law_script", "_law_case_here", "_law_lines", "_law_k", "_law_keys", "_law_kept", "_law_some", "_law_others", "_law_at", "_law_own", "_law_strange", "_law_bad", "_law_slugs", "_law_line"] : List Str) from by decide +kernel) rfl (Or.inl rfl))) (fun _ _ _ _ _ => pts_nil) (fun _ _ _ _ _ => (pe_op op_cat (pv 13) (pe_lst (pa_cons (pe_ix (kix_tup K rfl) (pe_ix (kix_list K rfl) (pv 1) (pe_un un_neg pe_int) (fun _ _ => rfl)) pe_int (fun _ _ => rfl)) pa_nil))))) (pe_slice (ksl_list K rfl) (pv 2) (po_some pe_int) po_none)) pa_nil)))
      (pss_cons (ps_expr (kpe_bm K rfl PySem.F.plainAttrs_list PySem.F.slot_list_append PySem.F.type_list_append mt_append (pv 6) (pa_cons (pe_op op_cat (pe_slice (ksl_list K rfl) (pv 2) po_none (po_some pe_int)) (pe_compG rfl (kpi_list K rfl (pe_slice (ksl_list K rfl) (pv 2) (po_some pe_int) po_none)) (BlkOk.of (N' := ["_law_script", "_law_case_here", "_law_lines", "_law_k", "_law_keys", "_law_kept", "_law_some", "_law_others", "_law_at", "_law_own", "_law_strange", "_law_bad", "_law_slugs", "_law_line"]) (ms := []) (k := 1) (by rfl)) (fun _ _ _ _ _ => (pg_name (i := 13) (show List.Nodup (["_law_script", "_law_case_here", "_law_lines", "_law_k", "_law_keys", "_law_kept", "_law_some", "_law_others", "_law_at", "_law_own", "_law_strange", "_law_bad", "_law_slugs", "_law_line"] : List Str) from by decide +kernel) rfl (Or.inl rfl))) (fun _ _ _ _ _ => (pts_one (pt_cmpR op_gt (pe_callB (klen_seq K rfl) rfl T.b_len bt_len (pa_cons (pv 13) pa_nil)) pe_int (nomark _)))) (fun _ _ _ _ _ => (pe_slice (ksl_list K rfl) (pv 13) (po_some pe_int) po_none)))) pa_nil)))
      (pss_cons (ps_for PassesOwn.never rfl (kpi_list K rfl (pv 6)) (pg_name (i := 7) sc_law.nd rfl (Or.inl rfl)) (pss_one (ps_if (pt_not (pt_val (pcall T.law_alike_to G_law_alike_to hr rfl (pa_cons (pv 1) (pa_cons (pv 2) (pa_cons (pv 7) pa_nil)))))) (pss_one (ps_ret pe_bl)) pss_nil)))
      (pss_cons (ps_for PassesOwn.never rfl (pi_range1 rfl T.b_range (pa_cons (pe_callB (klen_seq K rfl) rfl T.b_len bt_len (pa_cons (pv 2) pa_nil)) pa_nil)) (pg_name (i := 8) sc_law.nd rfl (Or.inl rfl)) (pss_one (ps_if (pt_cmpR (kneD K rfl hr.units) (pcall T.lines_of G0_lines_of hr rfl (pa_cons (pv 1) (pa_cons (pcall T.keys_of G_keys_of hr rfl (pa_cons (pe_slice (ksl_list K rfl) (pv 2) po_none (po_some (pv 8))) pa_nil)) pa_nil))) (pe_slice (ksl_list K rfl) (pv 2) po_none (po_some (pv 8))) (nomark _)) (pss_one (ps_ret pe_bl)) pss_nil)))
      (pss_cons (ps_set (i := 9) sc_law.nd rfl (Or.inr rfl) (pe_compG rfl (kpi_list K rfl (pv 1)) (BlkOk.of (N' := ["_law_script", "_law_case_here", "_law_lines", "_law_k", "_law_keys", "_law_kept", "_law_some", "_law_others", "_law_at", "_law_own", "_law_strange", "_law_bad", "_law_slugs", "_law_channel"]) (ms := []) (k := 1) (by rfl)) (fun _ _ _ _ _ => (pg_name (i := 13) (show List.Nodup (["_law_script", "_law_case_here", "_law_lines", "_law_k", "_law_keys", "_law_kept", "_law_some", "_law_others", "_law_at", "_law_own", "_law_strange", "_law_bad", "_law_slugs", "_law_channel"] : List Str) from by decide +kernel) rfl (Or.inl rfl))) (fun _ _ _ _ _ => pts_nil) (fun _ _ _ _ _ => (pe_ix (kix_tup K rfl) (pv 13) pe_int (fun _ _ => rfl)))))
      (pss_cons (ps_set (i := 10) sc_law.nd rfl (Or.inl rfl) (pe_op op_cat (pe_compG rfl (pi_str pe_str) (BlkOk.of (N' := ["_law_script", "_law_case_here", "_law_lines", "_law_k", "_law_keys", "_law_kept", "_law_some", "_law_others", "_law_at", "_law_own", "_law_strange", "_law_bad", "_law_slugs", "_law_sign"]) (ms := []) (k := 1) (by rfl)) (fun _ _ _ _ _ => (pg_name (i := 13) (show List.Nodup (["_law_script", "_law_case_here", "_law_lines", "_law_k", "_law_keys", "_law_kept", "_law_some", "_law_others", "_law_at", "_law_own", "_law_strange", "_law_bad", "_law_slugs", "_law_sign"] : List Str) from by decide +kernel) rfl (Or.inl rfl))) (fun _ _ _ _ _ => (pts_one (pt_cmpR (knotIn_seq K rfl) (pv 13) (pv 9) (by with_unfolding_all rfl)))) (fun _ _ _ _ _ => (pv 13))) (pe_lst (pa_cons pe_str pa_nil))))
      (pss_cons (ps_set (i := 6) sc_law.nd rfl (Or.inl rfl) (pe_lst (pa_cons (pe_op op_add_str (pv 4) pe_str) (pa_cons (pe_op op_add_str (pv 4) pe_str) (pa_cons (pe_op op_add_str (pv 4) (pe_ix (kix_tup K rfl) (pe_ix (kix_list K rfl) (pv 1) pe_int (fun _ _ => rfl)) pe_int (fun _ _ => rfl))) (pa_cons (pe_op op_add_str pe_str (pv 4)) (pa_cons (pe_op op_add_str (pe_slice sl_str (pv 4) po_none (po_some (pe_un un_neg pe_int))) pe_str) (pa_cons (pe_op op_add_str (pe_op op_add_str (pv 4) (pe_ix (kix_list K rfl) (pv 10) pe_int (fun _ _ => rfl))) pe_str) pa_nil))))))))
      (pss_cons (ps_for PassesOwn.never rfl (kpi_list K rfl (pv 6)) (pg_name (i := 11) sc_law.nd rfl (Or.inl rfl)) (pss_one (ps_for PassesOwn.never rfl (kpi_list K rfl (pe_lst (pa_cons (pcall T.law_texts G_law_texts hr rfl (pa_cons (pv 2) pa_nil)) (pa_cons (pe_lst pa_nil) (pa_cons (pe_lst (pa_cons pe_str pa_nil)) (pa_cons (pcall T.law_texts G_law_texts hr rfl (pa_cons (kpe_rev K rfl (pv 2) (pe_un un_neg pe_int)) pa_nil)) (pa_cons (pe_slice (ksl_list K rfl) (kpe_bm K rfl PySem.F.plainAttrs_str PySem.F.slot_str_split PySem.F.type_str_split mt_split (pv 11) (pa_cons pe_str pa_nil)) po_none (po_some (pe_un un_neg pe_int))) pa_nil))))))) (pg_name (i := 12) sc_law.nd rfl (Or.inl rfl)) (pss_one (ps_if (pt_not (pt_val (pcall T.law_refused G_law_refused hr rfl (pa_cons (pv 1) (pa_cons (pv 11) (pa_cons (pv 12) pa_nil)))))) (pss_one (ps_ret pe_bl)) pss_nil)))))
      (pss_one (ps_ret (pe_cmpR (keqD K rfl hr.units) (pv 1) (pv 5) (nomark _))))))))))))))))))), ?_⟩
  walk_at "rd"
  refine ⟨l, ns, rfl, hS, fun c xs rs H1 hc0 hs1 hc1 hpd hr1 hr2 hsg hnd hwd => ?_⟩
  have hrne : rs ≠ [] := fun z => by rw [z] at hr1; exact absurd hr1 (by decide)
  have hxl := Cs.rows_len hpd
  walk_at "rd"
  intro ll hll
  have hs2 := same_new hll (.lst [])
  have h2l : upd H1 ll (.lst []) ll = some (.lst []) := upd_same
  generalize upd H1 ll (.lst []) = H2 at hs2 h2l ⊢
  walk_at "rd"
  refine ⟨l, _, rfl, .inl ((hs1.trans hs2).seq hS), ?_⟩
  rw [List.length_map]
  walk_at "rd"
  refine ⟨_, _, rfl, ?_⟩
  have hmm : (if (62 : Int) < (ns.length : Int) then (62 : Int) else (ns.length : Int)) ≤ ns.length ∧ 0 ≤ (if (62 : Int) < (ns.length : Int) then (62 : Int) else (ns.length : Int)) ∧ (if (62 : Int) < (ns.length : Int) then (62 : Int) else (ns.length : Int)) ≤ 62 := by split <;> omega
  walk_at "rd"
  refine ⟨_, _, _, rfl, ⟨by omega, by omega, by omega, by omega⟩, ⟨by decide, by decide, by decide⟩, ?_⟩
  have hsz : size3 2 (if (62 : Int) < (ns.length : Int) then (62 : Int) else (ns.length : Int)) 4 ≤ 15 := by
    unfold size3 Builtin.Range.rangeSize
    rw [if_pos (by decide)]
    generalize (if (62 : Int) < (ns.length : Int) then (62 : Int) else (ns.length : Int)) = mm at hmm ⊢
    split <;> omega
  refine for_range3 (lo := 2) (st := 4) (n := size3 2 (if (62 : Int) < (ns.length : Int) then (62 : Int) else (ns.length : Int)) 4) (fun i σ H5 => ∃ (ys : List V) (ls : List (List Str)) (v3 : Option V), σ = [some (.ref l), some (.ref c), some (.ref ll), v3, none, none, none, none, none, none, none, none, none] ∧ Same H1 H5 ∧ H5 ll = some (.lst ys) ∧ Paired (Lns.LineN ll H5) ys ls ∧ ls.length = i ∧ ∀ x ∈ ls, LineOk rs x ∧ x.length ≤ 4)
    ⟨[], [], none, rfl, hs2, h2l, .nil, rfl, fun x h => nomatch h⟩ ?_ ?_
  · rintro i σ H5 hi ⟨ys, ls, v3, rfl, hs5, hl5, hp5, hi5, hok5⟩
    have hlt := size4 hi
    have hi15 : i < 15 := by omega
    have hS5 := (hs1.trans hs5).seq hS
    have hysl := Lns.lines_len hp5
    obtain ⟨ms, ecut, hms1, hms6⟩ := cut4 (ns := ns) (a := 2 + (i : Int) * 4) (by omega) (by omega)
    walk_at "rd"
    refine ⟨.inl ⟨rfl, _, SqL.of hl5⟩, ?_⟩
    walk_at "rd"
    refine ⟨l, _, rfl, hS5, fun p6 hp6 => ?_⟩
    rw [ecut]
    have hs6 := same_new hp6 (.lst (ms.map V.int))
    have h66 : upd H5 p6 (.lst (ms.map V.int)) p6 = some (.lst (ms.map V.int)) := upd_same
    generalize upd H5 p6 (.lst (ms.map V.int)) = H6 at hs6 h66 ⊢
    have hs16 := hs5.trans hs6
    walk_at "rd"
    refine ⟨c, p6, _, 6, rs, ms, rfl, ⟨xs, SqL.of (hs16 _ _ hc1), Cs.rows_same hpd hs16⟩, hrne, by omega, hsg, SqL.of h66, by omega, by omega, by omega, by decide, by decide, fun pl us H7 hpl0 hs7 hpl hul huk => ?_⟩
    have hs57 := hs6.trans hs7
    have hs17 := hs16.trans hs7
    have hl7 := hs57 _ _ hl5
    have hp7 := Lns.lines_same hp5 hs57
    have hll7 : pl ≠ ll := fun e => by
      have h6l := hs6 _ _ hl5
      rw [← e, hpl0] at h6l
      cases h6l
    have hune : us ≠ [] := fun z => by rw [z] at hul; have hul : 0 = ms.length := hul; omega
    refine ⟨ll, _, _, rfl, rfl, hl7, smallLt (by omega), ?_⟩
    refine ⟨ys ++ [.ref pl], ls ++ [us], _, rfl, same_upd hs17 hll, upd_same, Paired.snoc (Lns.lines_upd hp7) ⟨pl, rfl, hll7, by rw [upd_ne hll7]; exact hpl⟩, by rw [List.length_append, hi5]; rfl, fun x hx => ?_⟩
    rcases List.mem_append.mp hx with h | h
    · exact hok5 x h
    · rw [List.mem_singleton.mp h]
      exact ⟨⟨hune, by omega, huk⟩, by omega⟩
  · rintro σ H5 ⟨ys, ls, v3, rfl, hs5, hl5, hp5, hi5, hok4⟩
    have hok5 : ∀ x ∈ ls, LineOk rs x := fun x hx => (hok4 x hx).1
    have hkl := key_len hok5
    have hysl := Lns.lines_len hp5
    have hset : ∀ x ∈ ls, x ≠ [] ∧ ∀ y ∈ x, Lns.Settable rs y := fun x hx => ⟨(hok5 x hx).1, fun y hy => settable hsg ((hok5 x hx).2.2 y hy)⟩
    have hC5 : Cs.CaseAt K H5 c rs := ⟨xs, SqL.of (hs5 _ _ hc1), Cs.rows_same hpd hs5⟩
    have hfit : Lns.Fit ls := lines_fit hok5 (by omega)
    have htx : ∀ x ∈ ls, (Lns.lineT x).length ≤ 90000 := fun x hx => Nat.le_trans (line_len (hok5 x hx)) (by decide)
    walk_at "rd"
    refine ⟨ll, ll, ys, ls, rfl, SqL.of hl5, hp5, hfit, fun H6 hs6 => ?_⟩
    walk_at "rd"
    refine ⟨_, _, rfl, .inl (SqL.of ((hs5.trans hs6) _ _ hc1)), fun kp hkp => ?_⟩
    have hs7 := same_new hkp (.lst xs)
    have hk7 : upd H6 kp (.lst xs) kp = some (.lst xs) := upd_same
    generalize upd H6 kp (.lst xs) = H7 at hs7 hk7 ⊢
    have hs57 := hs6.trans hs7
    walk_at "rd"
    refine ⟨c, rs, ls, rfl, hC5.same hs57, by omega, htx, by omega, hset, fun D zs H8 hD hs8 hh8 hz8 hznd => ?_⟩
    have hs58 := hs57.trans hs8
    walk_at "rd"
    refine ⟨D, D, zs, ls, rfl, SqL.of hh8, Lns.LineF.n hz8, hfit, fun r9 H9 hr9 hs9 hr99 => ?_⟩
    have hs59 := hs58.trans hs9
    walk_at "rd"
    refine ⟨c, r9, rs, ls, ls.map Lns.lineT, rfl, hC5.same hs59, by omega, htx, hfit, hset, SqL.of hr99, by rw [List.length_map]; omega, (fun x hx => ?_), fun v H10 hs10 hv => ?_⟩
    · obtain ⟨y, hy, rfl⟩ := List.mem_map.mp hx
      exact htx y hy
    rw [un_none] at hv
    obtain rfl : v = .non := hv
    have hs510 := hs59.trans hs10
    have hk10 := ((hs8.trans hs9).trans hs10) _ _ hk7
    have hl10 := hs510 _ _ hl5
    have hp10 := Lns.lines_same hp5 hs510
    obtain ⟨r0, hr0, t0, ht0e, ht0⟩ := Cs.pd_get (Cs.rows_same hpd (hs5.trans hs510)) (List.getElem?_eq_getElem (show 0 < xs.length by omega))
    obtain ⟨c0, hc0m, hc0e⟩ := hsg r0 (List.mem_of_getElem? hr0)
    have w0 : WordOk rs 6 r0.s := ⟨by rw [hc0e]; exact Nat.le_refl _, by rw [hc0e]; show 1 ≤ 6; decide, fun d hd => by
      rw [hc0e] at hd
      have : d = c0 := by simpa [sg] using hd
      rw [this, ← hc0e]
      exact place_mem (List.mem_of_getElem? hr0)⟩
    have hx0 : ∀ _ : Unit, atI xs 0 = some (.ref t0) := fun _ => by rw [← ht0e]; exact atI_nat (j := 0) (List.getElem?_eq_getElem _)
    have hc10 := (hs5.trans hs510) _ _ hc1
    walk_at "rd"
    refine ⟨ll, _, rfl, SqL.of hl10, fun p11 hp11 => ?_⟩
    have hs11 := same_new hp11 (.lst (cutV ys (some 1) none))
    have A11 : LinesAt rs (upd H10 p11 (.lst (cutV ys (some 1) none))) (.ref p11) (cutL ls (some 1) none) := ⟨⟨p11, ll, _, rfl, upd_same, pd_cut (Lns.lines_same hp10 hs11) _ _⟩, Nat.le_trans (cutL_len ..) (by omega), fun x hx => hok5 x (cutL_mem hx)⟩
    generalize upd H10 p11 (.lst (cutV ys (some 1) none)) = H11 at hs11 A11 ⊢
    walk_at "rd"
    refine ⟨ll, _, rfl, SqL.of (hs11 _ _ hl10), fun p12 hp12 => ?_⟩
    have hs12 := same_new hp12 (.lst (cutV ys none (some (-1))))
    have hp11' := Lns.lines_same hp10 hs11
    have A12 : LinesAt rs (upd H11 p12 (.lst (cutV ys none (some (-1))))) (.ref p12) (cutL ls none (some (-1))) := ⟨⟨p12, ll, _, rfl, upd_same, pd_cut (Lns.lines_same hp11' hs12) _ _⟩, Nat.le_trans (cutL_len ..) (by omega), fun x hx => hok5 x (cutL_mem hx)⟩
    generalize upd H11 p12 (.lst (cutV ys none (some (-1)))) = H12 at hs12 A12 ⊢
    have hs1012 := hs11.trans hs12
    refine ⟨_, rfl, ?_⟩
    refine ⟨_, rfl, ?_⟩
    refine ⟨c, _, _, _, rfl, rfl, SqL.of (hs1012 _ _ hc10), hx0 (), ?_⟩
    refine ⟨t0, _, _, _, rfl, rfl, SqT.of (hs1012 _ _ ht0), rfl, ?_⟩
    walk_at "rd"
    intro p13 hp13
    have hs13 := same_new hp13 (.lst [.str r0.s])
    have h13 : upd H12 p13 (.lst [.str r0.s]) p13 = some (.lst ([r0.s].map V.str)) := upd_same
    generalize upd H12 p13 (.lst [.str r0.s]) = H13 at hs13 h13 ⊢
    walk_at "rd"
    intro p14 hp14
    have hs14 := same_new hp14 (.lst [.ref p13])
    have h14 : upd H13 p14 (.lst [.ref p13]) p14 = some (.lst [.ref p13]) := upd_same
    generalize upd H13 p14 (.lst [.ref p13]) = H14 at hs14 h14 ⊢
    have hs1014 := hs1012.trans (hs13.trans hs14)
    refine ⟨ll, p14, _, _, rfl, rfl, hs1014 _ _ hl10, h14, smallL (by show _ + 1 ≤ _; omega), fun p15 hp15 => ?_⟩
    have hs15 := same_new hp15 (.lst (ys ++ [.ref p13]))
    have h14l := hs1014 _ _ hl10
    have hne13 : p13 ≠ ll := fun e => by
      have := hs1012 _ _ hl10
      rw [← e, hp13] at this
      cases this
    have A15 : LinesAt rs (upd H14 p15 (.lst (ys ++ [.ref p13]))) (.ref p15) (ls ++ [[r0.s]]) := ⟨⟨p15, ll, _, rfl, upd_same, Paired.snoc (Lns.lines_same hp10 (hs1014.trans hs15)) ⟨p13, rfl, hne13, (hs14.trans hs15) _ _ h13⟩⟩, by rw [List.length_append]; show _ + 1 ≤ _; omega, fun x hx => by
      rcases List.mem_append.mp hx with h | h
      · exact hok5 x h
      · rw [List.mem_singleton.mp h]
        exact ⟨by simp, by show 1 ≤ 6; decide, fun y hy => by rw [List.mem_singleton.mp hy]; exact w0⟩⟩
    generalize upd H14 p15 (.lst (ys ++ [.ref p13])) = H15 at hs15 A15 ⊢
    have hs1015 := hs1014.trans hs15
    walk_at "rd"
    have hl15 := hs1015 _ _ hl10
    have hp15' := Lns.lines_same hp10 hs1015
    refine ⟨⟨_, SqL.of hl15⟩, fun E16 hE16 => ?_⟩
    refine comp_list (a := ll) (xs := ys) (fun j zs σ H6 => ∃ (v13 : Option V), σ = [some (.ref l), some (.ref c), some (.ref ll), v3, some (.str (Lns.keyT ls)), some (.ref kp), none, none, none, none, none, none, none, v13] ∧ Same H15 H6 ∧ H6 E16 = some (.lst zs) ∧ Paired (Lns.LineN E16 H6) zs ((ls.take j).map List.reverse))
      ?_ ?_ ?_ ?_
    · exact ⟨none, rfl, same_new hE16 _, upd_same, .nil⟩
    · rintro j zs σ H6 hj ⟨_, _, hs, _⟩
      exact hs.seq (SqL.of hl15)
    · rintro j x zs σ H6 hx hjl ⟨v13, rfl, hs, hh, hz⟩
      obtain ⟨w1, hw1, pw, rfl, _, hpw⟩ := Cs.pd_get hp15' hx
      have hzl := Lns.lines_len hz
      rw [List.length_map, List.length_take] at hzl
      walk_at "rd"
      refine ⟨pw, _, rfl, rfl, SqL.of (hs _ _ hpw), fun pn hpn => ?_⟩
      rw [← List.map_reverse]
      have hsn := same_new hpn (.lst (w1.reverse.map V.str))
      have hpnE : pn ≠ E16 := fun e => by rw [e, hh] at hpn; cases hpn
      refine cnext hjl (hsn _ _ hh) (by omega) ⟨_, rfl, same_upd (hs.trans hsn) hE16, upd_same, ?_⟩
      rw [List.take_add_one, hw1, List.map_append]
      exact Paired.snoc (Lns.lines_upd (Lns.lines_same hz hsn)) ⟨pn, rfl, hpnE, by rw [upd_ne hpnE]; exact upd_same⟩
    rintro zs16 σ H16 ⟨v13, rfl, hs16, hh16, hz16⟩
    rw [List.take_of_length_le (by omega)] at hz16
    have hs1016 := hs1015.trans hs16
    have A16 : LinesAt rs H16 (.ref E16) (ls.map List.reverse) := ⟨⟨E16, E16, _, rfl, hh16, hz16⟩, by rw [List.length_map]; omega, fun x hx => by
      obtain ⟨y, hy, rfl⟩ := List.mem_map.mp hx
      exact lineok_rev (hok5 y hy)⟩
    clear hz16 hh16
    have hl16 := hs1016 _ _ hl10
    walk_at "rd"
    refine ⟨ll, _, rfl, rfl, SqL.of hl16, fun p17 hp17 => ?_⟩
    have hs17 := same_new hp17 (.lst ys.reverse)
    have A17 : LinesAt rs (upd H16 p17 (.lst ys.reverse)) (.ref p17) ls.reverse := ⟨⟨p17, ll, _, rfl, upd_same, pd_rev (Lns.lines_same hp10 (hs1016.trans hs17))⟩, by rw [List.length_reverse]; omega, fun x hx => hok5 x (List.mem_reverse.mp hx)⟩
    generalize upd H16 p17 (.lst ys.reverse) = H17 at hs17 A17 ⊢
    have hs1017 := hs1016.trans hs17
    walk_at "rd"
    intro p18 hp18
    have hs18 := same_new hp18 (.lst [.ref p11, .ref p12, .ref p15, .ref E16, .ref p17])
    have h18 : upd H17 p18 (.lst [.ref p11, .ref p12, .ref p15, .ref E16, .ref p17]) p18 = some (.lst [.ref p11, .ref p12, .ref p15, .ref E16, .ref p17]) := upd_same
    generalize upd H17 p18 (.lst [.ref p11, .ref p12, .ref p15, .ref E16, .ref p17]) = H18 at hs18 h18 ⊢
    have hs1018 := hs1017.trans hs18
    have S5 : Paired (LinesN rs p18 H17) [.ref p11, .ref p12, .ref p15, .ref E16, .ref p17] [cutL ls (some 1) none, cutL ls none (some (-1)), ls ++ [[r0.s]], ls.map List.reverse, ls.reverse] :=
      .cons ((A11.same (hs12.trans (hs13.trans (hs14.trans (hs15.trans (hs16.trans hs17)))))).n hp18) (.cons ((A12.same (hs13.trans (hs14.trans (hs15.trans (hs16.trans hs17))))).n hp18) (.cons ((A15.same (hs16.trans hs17)).n hp18) (.cons ((A16.same hs17).n hp18) (.cons (A17.n hp18) .nil))))
    replace S5 := LinesN.all S5 hs18
    clear A11 A12 A15 A16 A17
    have hpq : Paired (Lns.LineN p18 H18) ys ls := Lns.lines_same (Lns.lines_to (Lns.lines_same hp10 hs1017) hp18) hs18
    have hl18 := hs1018 _ _ hl10
    have hc18 := hs1018 _ _ hc10
    have hsv5 : [V.ref p11, V.ref p12, V.ref p15, V.ref E16, V.ref p17].length = 5 := rfl
    generalize [V.ref p11, V.ref p12, V.ref p15, V.ref E16, V.ref p17] = sv at h18 S5 hsv5
    generalize [cutL ls (some 1) none, cutL ls none (some (-1)), ls ++ [[r0.s]], ls.map List.reverse, ls.reverse] = so at S5
    obtain ⟨rz, hrz, tz, htze, htz⟩ := Cs.pd_get (Cs.rows_same hpd (hs5.trans (hs510.trans hs1018))) (List.getElem?_eq_getElem (show xs.length - 1 < xs.length by omega))
    obtain ⟨cz, hczm, hcze⟩ := hsg rz (List.mem_of_getElem? hrz)
    have wz : WordOk rs 6 rz.s := ⟨by rw [hcze]; exact Nat.le_refl _, by rw [hcze]; show 1 ≤ 6; decide, fun d hd => by
      rw [hcze] at hd
      have : d = cz := by simpa [sg] using hd
      rw [this, ← hcze]
      exact place_mem (List.mem_of_getElem? hrz)⟩
    have hxz : ∀ _ : Unit, atI xs (-1) = some (.ref tz) := fun _ => by
      rw [← htze]
      have hne : xs ≠ [] := fun e => by rw [e] at hxl; have hxl : 0 = rs.length := hxl; omega
      have e := (List.dropLast_concat_getLast hne).symm
      have g : xs[xs.length - 1]'(by omega) = xs.getLast hne := (List.getLast_eq_getElem hne).symm
      rw [g]
      have := Lns.at_end xs.dropLast (xs.getLast hne)
      rw [← e] at this
      exact this
    walk_at "rd"
    refine ⟨.inl ⟨rfl, _, SqL.of h18⟩, ?_⟩
    walk_at "rd"
    refine ⟨ll, _, rfl, SqL.of hl18, fun p19 hp19 => ?_⟩
    rw [show cutV ys none (some 1) = ys.take 1 from cutv_take rfl]
    have hs19 := same_new hp19 (.lst (ys.take 1))
    have h19 : upd H18 p19 (.lst (ys.take 1)) p19 = some (.lst (ys.take 1)) := upd_same
    generalize upd H18 p19 (.lst (ys.take 1)) = H19 at hs19 h19 ⊢
    have hpq19 := Lns.pd_take 1 (Lns.lines_same hpq hs19)
    have h19s := hs19 _ _ h18
    have hl1 : (ys.take 1).length ≤ 1 := by rw [List.length_take]; omega
    refine ⟨p19, rfl, ⟨_, SqL.of h19⟩, fun E20 hE20 => ?_⟩
    have hE20s : E20 ≠ p18 := fun e => by rw [e, h19s] at hE20; cases hE20
    refine comp_list (a := p19) (xs := ys.take 1) (fun j zs σ H6 => ∃ (v13 : Option V) (os : List (List Str)), σ = [some (.ref l), some (.ref c), some (.ref ll), v3, some (.str (Lns.keyT ls)), some (.ref kp), some (.ref p18), none, none, none, none, none, none, v13] ∧ Same H19 H6 ∧ H6 E20 = some (.lst zs) ∧ Paired (Lns.LineN p18 H6) zs os ∧ (∀ v ∈ zs, v ≠ .ref E20) ∧ os.length ≤ j ∧ ∀ x ∈ os, LineOk rs x)
      ?_ ?_ ?_ ?_
    · exact ⟨none, [], rfl, same_new hE20 _, upd_same, .nil, (fun v h => nomatch h), Nat.le_refl _, (fun x h => nomatch h)⟩
    · rintro j zs σ H6 hj ⟨_, _, _, hs, _⟩
      exact hs.seq (SqL.of h19)
    · rintro j x zs σ H6 hx hjl ⟨v13, os, rfl, hs, hh, hz, hzE, hosl, hook⟩
      obtain ⟨w1, hw1, pw, rfl, _, hpw⟩ := Cs.pd_get hpq19 hx
      have hw1m : w1 ∈ ls := List.mem_of_mem_take (List.mem_of_getElem? hw1)
      have hzl := Lns.lines_len hz
      have hs186 := hs19.trans hs
      walk_at "rd"
      refine ⟨c, _, _, _, rfl, rfl, SqL.of (hs186 _ _ hc18), hxz (), ?_⟩
      refine ⟨tz, _, _, _, rfl, rfl, SqT.of (hs186 _ _ htz), rfl, ?_⟩
      walk_at "rd"
      intro pa hpa
      have hsa := same_new hpa (.lst [.str rz.s])
      have haa : upd H6 pa (.lst [.str rz.s]) pa = some (.lst ([rz.s].map V.str)) := upd_same
      generalize upd H6 pa (.lst [.str rz.s]) = Ha at hsa haa ⊢
      refine ⟨pw, pa, _, _, rfl, rfl, (hs.trans hsa) _ _ hpw, haa, smallL (by rw [List.length_map, List.length_map]; show w1.length + 1 ≤ _; have := (hok4 w1 hw1m).2; omega), fun pb hpb => ?_⟩
      rw [← List.map_append]
      have hsb := same_new hpb (.lst ((w1 ++ [rz.s]).map V.str))
      have hbb : upd Ha pb (.lst ((w1 ++ [rz.s]).map V.str)) pb = some (.lst ((w1 ++ [rz.s]).map V.str)) := upd_same
      have hpbE : pb ≠ E20 := fun e => by rw [e, hsa _ _ hh] at hpb; cases hpb
      have hpbs : pb ≠ p18 := fun e => by rw [e, (hs.trans hsa) _ _ h19s] at hpb; cases hpb
      generalize upd Ha pb (.lst ((w1 ++ [rz.s]).map V.str)) = Hb at hsb hbb ⊢
      have hs6b := hsa.trans hsb
      refine cnext hjl (hs6b _ _ hh) (by omega) ⟨_, os ++ [w1 ++ [rz.s]], rfl, same_upd (hs.trans hs6b) hE20, upd_same, Paired.snoc (lines_else (Lns.lines_same hz hs6b) hzE) ⟨pb, rfl, hpbs, by rw [upd_ne hpbE]; exact hbb⟩, (fun v hv => ?_), by rw [List.length_append]; show _ + 1 ≤ _; omega, fun x hx => ?_⟩
      · rcases List.mem_append.mp hv with h | h
        · exact hzE v h
        · rw [List.mem_singleton.mp h]
          exact fun e => hpbE (by injection e)
      · rcases List.mem_append.mp hx with h | h
        · exact hook x h
        · rw [List.mem_singleton.mp h]
          exact lineok_add (hok5 w1 hw1m) (hok4 w1 hw1m).2 wz
    rintro zs20 σ H20 ⟨v13, os20, rfl, hs20, hh20, hz20, hzE20, hosl20, hook20⟩
    have hs1820 := hs19.trans hs20
    walk_at "rd"
    refine ⟨ll, _, rfl, SqL.of (hs1820 _ _ hl18), fun p21 hp21 => ?_⟩
    have hs21 := same_new hp21 (.lst (cutV ys (some 1) none))
    have h21 : upd H20 p21 (.lst (cutV ys (some 1) none)) p21 = some (.lst (cutV ys (some 1) none)) := upd_same
    generalize upd H20 p21 (.lst (cutV ys (some 1) none)) = H21 at hs21 h21 ⊢
    have hs1821 := hs1820.trans hs21
    have hpc21 := pd_cut (Lns.lines_same hpq hs1821) (some 1) none
    have hcl := cutL_len ls (some 1) none
    have hz20l := Lns.lines_len hz20
    have hpc21l := Lns.lines_len hpc21
    refine ⟨E20, p21, _, _, rfl, rfl, hs21 _ _ hh20, h21, smallL (by omega), fun p22 hp22 => ?_⟩
    have hs22 := same_new hp22 (.lst (zs20 ++ cutV ys (some 1) none))
    have h22s := hs1821 _ _ h18
    have hp22s : p22 ≠ p18 := fun e => by rw [e, h22s] at hp22; cases hp22
    have A22 : LinesN rs p18 (upd H21 p22 (.lst (zs20 ++ cutV ys (some 1) none))) (.ref p22) (os20 ++ cutL ls (some 1) none) := ⟨⟨p22, _, rfl, hp22s, upd_same, Lns.pd_app (Lns.lines_same hz20 (hs21.trans hs22)) (Lns.lines_same hpc21 hs22)⟩, by rw [List.length_append]; omega, fun x hx => (List.mem_append.mp hx).elim (hook20 x) fun h => hok5 x (cutL_mem h)⟩
    generalize upd H21 p22 (.lst (zs20 ++ cutV ys (some 1) none)) = H22 at hs22 A22 ⊢
    have hs1822 := hs1821.trans hs22
    have h22p := hs22 _ _ h22s
    refine ⟨p18, _, _, rfl, rfl, h22p, smallLt (by omega), ?_⟩
    have S6 : Paired (LinesN rs p18 (upd H22 p18 (.lst (sv ++ [.ref p22])))) (sv ++ [.ref p22]) (so ++ [os20 ++ cutL ls (some 1) none]) := LinesN.allu (Paired.snoc (LinesN.all S5 hs1822) A22)
    have h23p : upd H22 p18 (.lst (sv ++ [.ref p22])) p18 = some (.lst (sv ++ [.ref p22])) := upd_same
    have hs1723 : Same H17 (upd H22 p18 (.lst (sv ++ [.ref p22]))) := same_upd (hs18.trans hs1822) hp18
    have hpq23 : Paired (Lns.LineN p18 (upd H22 p18 (.lst (sv ++ [.ref p22])))) ys ls := Lns.lines_upd (Lns.lines_same hpq hs1822)
    generalize upd H22 p18 (.lst (sv ++ [.ref p22])) = H23 at S6 h23p hs1723 hpq23 ⊢
    clear S5 A22 hz20 hpc21 hpq19
    have hs1023 := hs1017.trans hs1723
    have hl23 := hs1023 _ _ hl10
    walk_at "rd"
    refine ⟨.inl ⟨rfl, _, SqL.of h23p⟩, ?_⟩
    walk_at "rd"
    refine ⟨ll, _, rfl, SqL.of hl23, fun p24 hp24 => ?_⟩
    have hs24 := same_new hp24 (.lst (cutV ys none (some 2)))
    have h24 : upd H23 p24 (.lst (cutV ys none (some 2))) p24 = some (.lst (cutV ys none (some 2))) := upd_same
    generalize upd H23 p24 (.lst (cutV ys none (some 2))) = H24 at hs24 h24 ⊢
    walk_at "rd"
    refine ⟨ll, _, rfl, SqL.of (hs24 _ _ hl23), fun p25 hp25 => ?_⟩
    have hs25 := same_new hp25 (.lst (cutV ys (some 2) none))
    have h25 : upd H24 p25 (.lst (cutV ys (some 2) none)) p25 = some (.lst (cutV ys (some 2) none)) := upd_same
    generalize upd H24 p25 (.lst (cutV ys (some 2) none)) = H25 at hs25 h25 ⊢
    have hs2325 := hs24.trans hs25
    have hpq25 := pd_cut (Lns.lines_same hpq23 hs2325) (some 2) none
    have hcl25 := Lns.lines_len hpq25
    have hcl25' := cutL_len ls (some 2) none
    have h25s := hs2325 _ _ h23p
    refine ⟨p25, rfl, ⟨_, SqL.of h25⟩, fun E26 hE26 => ?_⟩
    refine comp_list (a := p25) (xs := cutV ys (some 2) none) (fun j zs σ H6 => ∃ (v13 : Option V) (os : List (List Str)), σ = [some (.ref l), some (.ref c), some (.ref ll), v3, some (.str (Lns.keyT ls)), some (.ref kp), some (.ref p18), none, none, none, none, none, none, v13] ∧ Same H25 H6 ∧ H6 E26 = some (.lst zs) ∧ Paired (Lns.LineN p18 H6) zs os ∧ (∀ v ∈ zs, v ≠ .ref E26) ∧ os.length ≤ j ∧ ∀ x ∈ os, LineOk rs x)
      ?_ ?_ ?_ ?_
    · exact ⟨none, [], rfl, same_new hE26 _, upd_same, .nil, (fun v h => nomatch h), Nat.le_refl _, (fun x h => nomatch h)⟩
    · rintro j zs σ H6 hj ⟨_, _, _, hs, _⟩
      exact hs.seq (SqL.of h25)
    · rintro j x zs σ H6 hx hjl ⟨v13, os, rfl, hs, hh, hz, hzE, hosl, hook⟩
      obtain ⟨w1, hw1, pw, rfl, _, hpw⟩ := Cs.pd_get hpq25 hx
      have hw1m : w1 ∈ ls := cutL_mem (List.mem_of_getElem? hw1)
      have hzl := Lns.lines_len hz
      walk_at "rd"
      refine ⟨pw, _, rfl, .inl (SqL.of (hs _ _ hpw)), ?_⟩
      rw [List.length_map]
      walk_at "rd"
      refine ite2 (fun hgt => ?_) (fun _ => ?_)
      · have hgt : (1 : Int) < (w1.length : Int) := of_decide_eq_true hgt
        walk_at "rd"
        refine ⟨pw, _, rfl, SqL.of (hs _ _ hpw), fun pb hpb => ?_⟩
        rw [cutv_from1, ← List.map_drop]
        have hsb := same_new hpb (.lst ((w1.drop 1).map V.str))
        have hbb : upd H6 pb (.lst ((w1.drop 1).map V.str)) pb = some (.lst ((w1.drop 1).map V.str)) := upd_same
        have hpbE : pb ≠ E26 := fun e => by rw [e, hh] at hpb; cases hpb
        have hpbs : pb ≠ p18 := fun e => by rw [e, hs _ _ h25s] at hpb; cases hpb
        generalize upd H6 pb (.lst ((w1.drop 1).map V.str)) = Hb at hsb hbb ⊢
        refine cnext hjl (hsb _ _ hh) (by omega) ⟨_, os ++ [w1.drop 1], rfl, same_upd (hs.trans hsb) hE26, upd_same, Paired.snoc (lines_else (Lns.lines_same hz hsb) hzE) ⟨pb, rfl, hpbs, by rw [upd_ne hpbE]; exact hbb⟩, (fun v hv => ?_), by rw [List.length_append]; show _ + 1 ≤ _; omega, fun x hx => ?_⟩
        · rcases List.mem_append.mp hv with h | h
          · exact hzE v h
          · rw [List.mem_singleton.mp h]
            exact fun e => hpbE (by injection e)
        · rcases List.mem_append.mp hx with h | h
          · exact hook x h
          · rw [List.mem_singleton.mp h]
            have hw := hok5 w1 hw1m
            exact ⟨fun e => by have := congrArg List.length e; rw [List.length_drop] at this; have this : w1.length - 1 = 0 := this; omega, by rw [List.length_drop]; have := hw.2.1; omega, fun y hy => hw.2.2 y (List.mem_of_mem_drop hy)⟩
      · exact cskip hjl ⟨_, os, rfl, hs, hh, hz, hzE, by omega, hook⟩
    rintro zs26 σ H26 ⟨v13', os26, rfl, hs26, hh26, hz26, hzE26, hosl26, hook26⟩
    have hs2326 := hs2325.trans hs26
    have hpc26 := pd_cut (Lns.lines_same hpq23 hs2326) none (some 2)
    have hcl26 := cutL_len ls none (some 2)
    have hz26l := Lns.lines_len hz26
    have hpc26l := Lns.lines_len hpc26
    refine ⟨p24, E26, _, _, rfl, rfl, (hs25.trans hs26) _ _ h24, hh26, smallL (by omega), fun p27 hp27 => ?_⟩
    have hs27 := same_new hp27 (.lst (cutV ys none (some 2) ++ zs26))
    have h26s := hs2326 _ _ h23p
    have hp27s : p27 ≠ p18 := fun e => by rw [e, h26s] at hp27; cases hp27
    have A27 : LinesN rs p18 (upd H26 p27 (.lst (cutV ys none (some 2) ++ zs26))) (.ref p27) (cutL ls none (some 2) ++ os26) := ⟨⟨p27, _, rfl, hp27s, upd_same, Lns.pd_app (Lns.lines_same hpc26 hs27) (Lns.lines_same hz26 hs27)⟩, by rw [List.length_append]; omega, fun x hx => (List.mem_append.mp hx).elim (fun h => hok5 x (cutL_mem h)) (hook26 x)⟩
    generalize upd H26 p27 (.lst (cutV ys none (some 2) ++ zs26)) = H27 at hs27 A27 ⊢
    have hs2327 := hs2326.trans hs27
    refine ⟨p18, _, _, rfl, rfl, hs27 _ _ h26s, smallLt (by rw [List.length_append]; show _ + 1 ≤ _; omega), ?_⟩
    have S7 : Paired (LinesN rs p18 (upd H27 p18 (.lst (sv ++ [.ref p22] ++ [.ref p27])))) (sv ++ [.ref p22] ++ [.ref p27]) (so ++ [os20 ++ cutL ls (some 1) none] ++ [cutL ls none (some 2) ++ os26]) := LinesN.allu (Paired.snoc (LinesN.all S6 hs2327) A27)
    have h28p : upd H27 p18 (.lst (sv ++ [.ref p22] ++ [.ref p27])) p18 = some (.lst (sv ++ [.ref p22] ++ [.ref p27])) := upd_same
    have hs1728 : Same H17 (upd H27 p18 (.lst (sv ++ [.ref p22] ++ [.ref p27]))) := same_upd (hs1723.trans hs2327) hp18
    generalize upd H27 p18 (.lst (sv ++ [.ref p22] ++ [.ref p27])) = H28 at S7 h28p hs1728 ⊢
    generalize sv ++ [V.ref p22] ++ [V.ref p27] = sv7 at S7 h28p
    generalize so ++ [os20 ++ cutL ls (some 1) none] ++ [cutL ls none (some 2) ++ os26] = so7 at S7
    clear S6 A27 hz26 hpc26 hpq25 hpq23 hpq
    have hs528 := hs510.trans (hs1017.trans hs1728)
    walk_at "rd"
    refine ⟨⟨_, SqL.of h28p⟩, ?_⟩
    refine for_list (a := p18) (xs := sv7) (fun i σ H30 => ∃ v7 : Option V, σ = [some (.ref l), some (.ref c), some (.ref ll), v3, some (.str (Lns.keyT ls)), some (.ref kp), some (.ref p18), v7, none, none, none, none, none] ∧ Same H28 H30) ⟨none, rfl, Same.refl _⟩ (fun i σ H30 _ ⟨_, _, hs⟩ => hs.seq (SqL.of h28p)) ?_ ?_
    · rintro i x σ H30 hx ⟨v7, rfl, hs30⟩
      obtain ⟨os, hosm, ⟨po, xo, rfl, _, hpo, hpod⟩, hol, hook⟩ := Cs.pd_get S7 hx
      have hs530 := hs528.trans hs30
      walk_at "rd"
      refine ⟨c, ll, po, ll, p18, ys, xo, rs, ls, os, rfl, hC5.same hs530, hsg, SqL.of (hs530 _ _ hl5), Lns.lines_same hp5 hs530, SqL.of (hs30 _ _ hpo), Lns.lines_same hpod hs30, hok5, hook, by omega, hol, fun H31 hs31 => ?_⟩
      walk_at "rd"
      try refine iteF ?_
      exact hs30.trans hs31
    rintro σ H30 ⟨v7, rfl, hs30⟩
    have hs530 := hs528.trans hs30
    clear S7 h28p
    walk_at "rd"
    refine ⟨ll, _, rfl, .inl (SqL.of (hs530 _ _ hl5)), ?_⟩
    walk_at "rd"
    refine for_range (n := ys.length) (fun i σ H31 => ∃ v8 : Option V, σ = [some (.ref l), some (.ref c), some (.ref ll), v3, some (.str (Lns.keyT ls)), some (.ref kp), some (.ref p18), v7, v8, none, none, none, none] ∧ Same H10 H31) ⟨none, rfl, (hs1017.trans hs1728).trans hs30⟩ ?_ ?_
    · rintro i σ H31 hi ⟨v8, rfl, hs31'⟩
      have hs31 := hs510.trans hs31'
      have hlt : ∀ x ∈ ls.take i, x ∈ ls := fun x hx => List.mem_of_mem_take hx
      have hti : (ls.take i).length ≤ 15 := by rw [List.length_take]; omega
      have hokt : ∀ x ∈ ls.take i, LineOk rs x := fun x hx => hok5 x (hlt x hx)
      have hkt := key_len hokt
      walk_at "rd"
      refine ⟨ll, _, rfl, SqL.of (hs31 _ _ hl5), fun p32 hp32 => ?_⟩
      rw [show cutV ys none (some (0 + (i : Int))) = ys.take i from cutv_take (by omega)]
      have hs32 := same_new hp32 (.lst (ys.take i))
      have h32 : upd H31 p32 (.lst (ys.take i)) p32 = some (.lst (ys.take i)) := upd_same
      generalize upd H31 p32 (.lst (ys.take i)) = H32 at hs32 h32 ⊢
      have hs532 := hs31.trans hs32
      walk_at "rd"
      refine ⟨p32, ll, ys.take i, ls.take i, rfl, SqL.of h32, Lns.pd_take i (Lns.lines_same hp5 hs532), lines_fit hokt (by omega), fun H33 hs33 => ?_⟩
      have hs533 := hs532.trans hs33
      walk_at "rd"
      refine ⟨c, rs, ls.take i, rfl, hC5.same hs533, by omega, (fun x hx => htx x (hlt x hx)), by omega, (fun x hx => hset x (hlt x hx)), fun D3 zs3 H34 hD3 hs34 hh34 hz34 _ => ?_⟩
      have hs534 := hs533.trans hs34
      walk_at "rd"
      refine ⟨ll, _, rfl, SqL.of (hs534 _ _ hl5), fun p35 hp35 => ?_⟩
      rw [show cutV ys none (some (0 + (i : Int))) = ys.take i from cutv_take (by omega)]
      have hs35 := same_new hp35 (.lst (ys.take i))
      have h35 : upd H34 p35 (.lst (ys.take i)) p35 = some (.lst (ys.take i)) := upd_same
      generalize upd H34 p35 (.lst (ys.take i)) = H35 at hs35 h35 ⊢
      have hs535 := hs534.trans hs35
      have lay : ∀ x ∈ ls.take i, ∀ y ∈ x, PyData.canLay0 (.str y) = true := fun x hx y hy => word_lay hsg ((hokt x hx).2.2 y hy)
      refine ⟨Lns.dLines (ls.take i), Lns.dLines (ls.take i), .lst (SqL.of (hs35 _ _ hh34)) (Lns.denL_lines (Lns.lines_same (Lns.LineF.n hz34) hs35) lay), .lst (SqL.of h35) (Lns.denL_lines (Lns.pd_take i (Lns.lines_same hp5 hs535)) lay), Lns.dlines_depth _ _, ?_⟩
      rw [eqv_refl (show nb (Lns.dLines (ls.take i)) = true from Lns.nb_lines _)]
      walk_at "rd"
      try refine iteF ?_
      have hs1035 := hs31'.trans (hs32.trans (hs33.trans (hs34.trans hs35)))
      first | exact ⟨_, rfl, hs1035⟩ | exact hs1035
    rintro σ H31 ⟨v8, rfl, hs31'⟩
    have hs31 := hs510.trans hs31'
    have hk31 := hs31' _ _ hk10
    clear hs30 hs530 hs528
    have hc31 := (hs5.trans hs31) _ _ hc1
    have hpd31 := Cs.rows_same hpd (hs5.trans hs31)
    walk_at "rd"
    refine ⟨⟨_, SqL.of hc31⟩, fun E32 hE32 => ?_⟩
    refine comp_list (a := c) (xs := xs) (fun j zs σ H6 => ∃ (v13 : Option V), σ = [some (.ref l), some (.ref c), some (.ref ll), v3, some (.str (Lns.keyT ls)), some (.ref kp), some (.ref p18), v7, v8, none, none, none, none, v13] ∧ Same H31 H6 ∧ H6 E32 = some (.lst zs) ∧ zs = ((rs.take j).map fun r => r.s).map V.str)
      ?_ ?_ ?_ ?_
    · exact ⟨none, rfl, same_new hE32 _, upd_same, rfl⟩
    · rintro j zs σ H6 hj ⟨_, _, hs, _⟩
      exact hs.seq (SqL.of hc31)
    · rintro j x zs σ H6 hx hjl ⟨v13, rfl, hs, hh, rfl⟩
      obtain ⟨r, hrj, t, rfl, ht⟩ := Cs.pd_get hpd31 hx
      walk_at "rd"
      refine ⟨t, _, _, _, rfl, rfl, SqT.of (hs _ _ ht), rfl, ?_⟩
      refine cnext hjl hh ?_ ⟨_, rfl, same_upd hs hE32, upd_same, ?_⟩
      · rw [List.length_map, List.length_map, List.length_take]
        omega
      · rw [List.take_add_one, hrj, List.map_append, List.map_append]
        rfl
    rintro zs32 σ H32 ⟨v13'', rfl, hs32, hh32, rfl⟩
    rw [List.take_of_length_le (by omega)] at hh32
    have hs532 := hs31.trans hs32
    walk_at "rd"
    intro F hF
    refine comp_str (x := Str.ofString "abcdefghijklmnopqrstuvwxyz.,-'") (fun j zs σ H6 => ∃ (v13 : Option V) (ds : List Nat), σ = [some (.ref l), some (.ref c), some (.ref ll), v3, some (.str (Lns.keyT ls)), some (.ref kp), some (.ref p18), v7, v8, some (.ref E32), none, none, none, v13] ∧ Same H32 H6 ∧ H6 F = some (.lst zs) ∧ zs = (ds.map sg).map V.str ∧ ds.length ≤ j ∧ ∀ d ∈ ds, Lns.isS d = true ∧ Cs.place rs (sg d) = none)
      ?_ ?_ ?_
    · exact ⟨none, [], rfl, same_new hF _, upd_same, rfl, Nat.le_refl _, fun d h => nomatch h⟩
    · rintro j d zs σ H6 hd hjl ⟨v13, ds, rfl, hs, hh, rfl, hdl, hds⟩
      have hdm : d ∈ Cs.signs := by
        rw [← Cs.signs_cps]
        exact Array.mem_toList_iff.mpr (Array.mem_of_getElem? hd)
      have hj30 : j < 30 := hjl
      walk_at "rd"
      refine ⟨E32, _, rfl, .inl (SqL.of (hs _ _ hh32)), rfl, flat_strs _, ?_⟩
      rw [if_pos rfl, in_strs]
      refine ⟨_, rfl, ?_⟩
      by_cases hin : sg d ∈ rs.map fun r => r.s
      · rw [decide_eq_true hin]
        refine iteF ?_
        exact cskip hjl ⟨_, ds, rfl, hs, hh, rfl, by omega, hds⟩
      · rw [decide_eq_false hin]
        refine iteT ?_
        walk_at "rd"
        refine cnext hjl hh (by rw [List.length_map, List.length_map]; omega) ⟨_, ds ++ [d], rfl, same_upd hs hF, upd_same, by rw [List.map_append, List.map_append]; rfl, by rw [List.length_append]; show _ + 1 ≤ _; omega, fun d' hd' => ?_⟩
        rcases List.mem_append.mp hd' with h | h
        · exact hds d' h
        · rw [List.mem_singleton.mp h]
          exact ⟨signs_is d hdm, not_own hin⟩
    rintro zs33 σ H33 ⟨v13c, ds, rfl, hs33, hh33, rfl, hdl, hds⟩
    have hdl30 : ds.length ≤ 30 := hdl
    have hn65 : Cs.place rs (sg 65) = none := not_own fun h => by
      obtain ⟨r, hr', e⟩ := List.mem_map.mp h
      obtain ⟨c1, hc1m, e1⟩ := hsg r hr'
      have e2 : c1 = 65 := sg_inj (e1.symm.trans e)
      have no : 65 ∉ Cs.signs := by decide +kernel
      exact no (e2 ▸ hc1m)
    have hn10 : Cs.place rs (sg 10) = none := not_own fun h => by
      obtain ⟨r, hr', e⟩ := List.mem_map.mp h
      obtain ⟨c1, hc1m, e1⟩ := hsg r hr'
      have e2 : c1 = 10 := sg_inj (e1.symm.trans e)
      have no : 10 ∉ Cs.signs := by decide +kernel
      exact no (e2 ▸ hc1m)
    walk_at "rd"
    intro p34 hp34
    have hs34 := same_new hp34 (.lst [.str (Str.ofString "A")])
    have h34 : upd H33 p34 (.lst [.str (Str.ofString "A")]) p34 = some (.lst [.str (Str.ofString "A")]) := upd_same
    generalize upd H33 p34 (.lst [.str (Str.ofString "A")]) = H34 at hs34 h34 ⊢
    refine ⟨F, p34, _, _, rfl, rfl, hs34 _ _ hh33, h34, smallL (by rw [List.length_map, List.length_map]; show _ + 1 ≤ _; omega), fun p35 hp35 => ?_⟩
    obtain ⟨d0, dr, hd0, hd0s, hd0n⟩ : ∃ d0 dr, (ds.map sg).map V.str ++ [V.str (Str.ofString "A")] = V.str (sg d0) :: dr ∧ Lns.isS d0 = true ∧ Cs.place rs (sg d0) = none := by
      cases ds with
      | nil => exact ⟨65, [], rfl, by decide, hn65⟩
      | cons d r => exact ⟨d, _, rfl, hds d List.mem_cons_self⟩
    rw [hd0]
    have hs35 := same_new hp35 (.lst (V.str (sg d0) :: dr))
    have h35 : upd H34 p35 (.lst (V.str (sg d0) :: dr)) p35 = some (.lst (V.str (sg d0) :: dr)) := upd_same
    generalize upd H34 p35 (.lst (V.str (sg d0) :: dr)) = H35 at hs35 h35 ⊢
    have hs535 := hs532.trans (hs33.trans (hs34.trans hs35))
    have hkl2 : (Lns.keyT ls).length ≤ 700 := by omega
    have hk0 : (Lns.keyT ls).cps.toList = [] ∨ ∃ a, (Lns.keyT ls).cps.toList = a ++ [47] := by
      by_cases e : ls = []
      · rw [e]
        exact .inl rfl
      · exact .inr (Lns.keys_end ls e)
    have g1 : (Str.ofString "/").length = 1 := by decide
    have g2 : (Str.ofString " ").length = 1 := by decide
    have g3 : r0.s.length = 1 := by rw [hc0e]; rfl
    have g4 : (Str.ofString "\n/").length = 2 := by decide
    have g5 : (sg d0).length = 1 := rfl
    have g6 := Txt.slice_le (Lns.keyT ls) none (some (-1))
    walk_at "rd"
    refine ⟨smallL (by omega), ?_⟩
    walk_at "rd"
    refine ⟨smallL (by omega), ?_⟩
    refine ⟨_, rfl, ?_⟩
    refine ⟨_, rfl, ?_⟩
    refine ⟨c, _, _, _, rfl, rfl, SqL.of ((hs5.trans hs535) _ _ hc1), hx0 (), ?_⟩
    obtain ⟨r0x, hr0x, t0x, ht0xe, ht0x⟩ := Cs.pd_get (Cs.rows_same hpd (hs5.trans hs535)) (List.getElem?_eq_getElem (show 0 < xs.length by omega))
    rw [hr0] at hr0x
    cases hr0x
    rw [ht0e] at ht0xe
    cases ht0xe
    refine ⟨t0, _, _, _, rfl, rfl, SqT.of ht0x, rfl, ?_⟩
    refine ⟨_, _, rfl, rfl, smallL (by omega), ?_⟩
    walk_at "rd"
    refine ⟨smallL (by omega), ?_⟩
    walk_at "rd"
    refine ⟨smallL (by omega), ?_⟩
    walk_at "rd"
    refine ⟨smallL (by omega), ?_⟩
    walk_at "rd"
    refine ⟨p35, _, _, _, rfl, rfl, SqL.of h35, atI_nat (j := 0) (show (V.str (sg d0) :: dr)[0]? = some (V.str (sg d0)) from rfl), ?_⟩
    refine ⟨_, _, rfl, rfl, smallL (by omega), ?_⟩
    walk_at "rd"
    refine ⟨smallL (by rw [Str.length_append]; omega), ?_⟩
    walk_at "rd"
    intro p36 hp36
    have hbad : ∀ x ∈ [Lns.keyT ls ++ Str.ofString "/", Lns.keyT ls ++ Str.ofString " ", Lns.keyT ls ++ r0.s, Str.ofString "/" ++ Lns.keyT ls, Txt.slice (Lns.keyT ls) none (some (-1)) ++ Str.ofString "\n/", Lns.keyT ls ++ sg d0 ++ Str.ofString "/"], x.length ≤ 90000 ∧ BadK rs x.cps.toList := by
      intro x hx
      simp only [List.mem_cons, List.not_mem_nil, or_false] at hx
      rcases hx with rfl | rfl | rfl | rfl | rfl | rfl
      · exact ⟨by rw [Str.length_append]; omega, bad_gap (Lns.keyT ls).cps.toList [] 47 (app_cps _ _) (by decide) hk0⟩
      · exact ⟨by rw [Str.length_append]; omega, bad_gap (Lns.keyT ls).cps.toList [] 32 (app_cps _ _) (by decide) hk0⟩
      · refine ⟨by rw [Str.length_append]; omega, .inr ⟨(Lns.keyT ls).cps.toList, c0, by rw [app_cps, hc0e]; rfl, fun e => ?_⟩⟩
        have := signs_is c0 hc0m
        rw [e] at this
        exact absurd this (by decide)
      · exact ⟨by rw [Str.length_append]; omega, bad_gap [] (Lns.keyT ls).cps.toList 47 (app_cps _ _) (by decide) (.inl rfl)⟩
      · exact ⟨by rw [Str.length_append]; omega, bad_sign (Lns.keyT ls).cps.toList.dropLast [47] 10 (by rw [app_cps, slice_init]; rfl) (by decide) hn10⟩
      · exact ⟨by rw [Str.length_append, Str.length_append]; omega, bad_sign (Lns.keyT ls).cps.toList [47] d0 (by rw [app_cps, app_cps, List.append_assoc]; rfl) hd0s hd0n⟩
    have hs36 := same_new hp36 (.lst [.str (Lns.keyT ls ++ Str.ofString "/"), .str (Lns.keyT ls ++ Str.ofString " "), .str (Lns.keyT ls ++ r0.s), .str (Str.ofString "/" ++ Lns.keyT ls), .str (Txt.slice (Lns.keyT ls) none (some (-1)) ++ Str.ofString "\n/"), .str (Lns.keyT ls ++ sg d0 ++ Str.ofString "/")])
    have h36 : upd H35 p36 (.lst [.str (Lns.keyT ls ++ Str.ofString "/"), .str (Lns.keyT ls ++ Str.ofString " "), .str (Lns.keyT ls ++ r0.s), .str (Str.ofString "/" ++ Lns.keyT ls), .str (Txt.slice (Lns.keyT ls) none (some (-1)) ++ Str.ofString "\n/"), .str (Lns.keyT ls ++ sg d0 ++ Str.ofString "/")]) p36 = some (.lst ([Lns.keyT ls ++ Str.ofString "/", Lns.keyT ls ++ Str.ofString " ", Lns.keyT ls ++ r0.s, Str.ofString "/" ++ Lns.keyT ls, Txt.slice (Lns.keyT ls) none (some (-1)) ++ Str.ofString "\n/", Lns.keyT ls ++ sg d0 ++ Str.ofString "/"].map V.str)) := upd_same
    generalize upd H35 p36 (.lst [.str (Lns.keyT ls ++ Str.ofString "/"), .str (Lns.keyT ls ++ Str.ofString " "), .str (Lns.keyT ls ++ r0.s), .str (Str.ofString "/" ++ Lns.keyT ls), .str (Txt.slice (Lns.keyT ls) none (some (-1)) ++ Str.ofString "\n/"), .str (Lns.keyT ls ++ sg d0 ++ Str.ofString "/")]) = H36 at hs36 h36 ⊢
    generalize [Lns.keyT ls ++ Str.ofString "/", Lns.keyT ls ++ Str.ofString " ", Lns.keyT ls ++ r0.s, Str.ofString "/" ++ Lns.keyT ls, Txt.slice (Lns.keyT ls) none (some (-1)) ++ Str.ofString "\n/", Lns.keyT ls ++ sg d0 ++ Str.ofString "/"] = bs at hbad h36
    have hs536 := hs535.trans hs36
    walk_at "rd"
    refine ⟨⟨_, SqL.of h36⟩, ?_⟩
    refine for_list (a := p36) (xs := bs.map V.str) (fun i σ H37 => ∃ v11 v12 : Option V, σ = [some (.ref l), some (.ref c), some (.ref ll), v3, some (.str (Lns.keyT ls)), some (.ref kp), some (.ref p36), v7, v8, some (.ref E32), some (.ref p35), v11, v12] ∧ Same H36 H37) ⟨none, none, rfl, Same.refl _⟩ (fun i σ H37 _ ⟨_, _, _, hs⟩ => hs.seq (SqL.of h36)) ?_ ?_
    · rintro i x σ H37 hx ⟨v11, v12, rfl, hs37⟩
      rw [List.getElem?_map] at hx
      obtain ⟨bx, hbx, rfl⟩ := Option.map_eq_some_iff.mp hx
      obtain ⟨hbl, hbk⟩ := hbad bx (List.mem_of_getElem? hbx)
      have hs537 := hs536.trans hs37
      walk_at "rd"
      refine ⟨ll, ll, ys, ls, rfl, SqL.of (hs537 _ _ hl5), Lns.lines_same hp5 hs537, hfit, fun r38 H38 hr38 hs38 hr38' => ?_⟩
      have hs538 := hs537.trans hs38
      walk_at "rd"
      intro p39 hp39
      have hs39 := same_new hp39 (.lst [])
      generalize upd H38 p39 (.lst []) = H39 at hs39 ⊢
      walk_at "rd"
      intro p40 hp40
      have hs40 := same_new hp40 (.lst [.str (Str.ofString "x")])
      generalize upd H39 p40 (.lst [.str (Str.ofString "x")]) = H40 at hs40 ⊢
      have hs540 := hs538.trans (hs39.trans hs40)
      walk_at "rd"
      refine ⟨ll, _, rfl, rfl, SqL.of (hs540 _ _ hl5), fun p41 hp41 => ?_⟩
      have hs41 := same_new hp41 (.lst ys.reverse)
      have h41 : upd H40 p41 (.lst ys.reverse) p41 = some (.lst ys.reverse) := upd_same
      generalize upd H40 p41 (.lst ys.reverse) = H41 at hs41 h41 ⊢
      have hs541 := hs540.trans hs41
      walk_at "rd"
      refine ⟨p41, ll, ys.reverse, ls.reverse, rfl, SqL.of h41, pd_rev (Lns.lines_same hp5 hs541), lines_fit (fun x hx => hok5 x (List.mem_reverse.mp hx)) (by rw [List.length_reverse]; omega), fun r42 H42 hr42 hs42 hr42' => ?_⟩
      walk_at "rd"
      intro D43 hD43
      have hs43 := same_new hD43 (.lst ((Txt.split bx (Str.ofString "/")).map V.str))
      have h43 : upd H42 D43 (.lst ((Txt.split bx (Str.ofString "/")).map V.str)) D43 = some (.lst ((Txt.split bx (Str.ofString "/")).map V.str)) := upd_same
      generalize upd H42 D43 (.lst ((Txt.split bx (Str.ofString "/")).map V.str)) = H43 at hs43 h43 ⊢
      walk_at "rd"
      refine ⟨D43, _, rfl, SqL.of h43, fun p44 hp44 => ?_⟩
      have hs44 := same_new hp44 (.lst (cutV ((Txt.split bx (Str.ofString "/")).map V.str) none (some (-1))))
      generalize upd H43 p44 (.lst (cutV ((Txt.split bx (Str.ofString "/")).map V.str) none (some (-1)))) = H44 at hs44 ⊢
      walk_at "rd"
      intro p45 hp45
      have hs45 := same_new hp45 (.lst [.ref r38, .ref p39, .ref p40, .ref r42, .ref p44])
      have h45 : upd H44 p45 (.lst [.ref r38, .ref p39, .ref p40, .ref r42, .ref p44]) p45 = some (.lst [.ref r38, .ref p39, .ref p40, .ref r42, .ref p44]) := upd_same
      generalize upd H44 p45 (.lst [.ref r38, .ref p39, .ref p40, .ref r42, .ref p44]) = H45 at hs45 h45 ⊢
      have hs3745 := hs38.trans (hs39.trans (hs40.trans (hs41.trans (hs42.trans (hs43.trans (hs44.trans hs45))))))
      refine ⟨p45, rfl, ⟨_, SqL.of h45⟩, ?_⟩
      refine for_list (a := p45) (xs := [.ref r38, .ref p39, .ref p40, .ref r42, .ref p44]) (fun j σ H46 => ∃ v12 : Option V, σ = [some (.ref l), some (.ref c), some (.ref ll), v3, some (.str (Lns.keyT ls)), some (.ref kp), some (.ref p36), v7, v8, some (.ref E32), some (.ref p35), some (.str bx), v12] ∧ Same H45 H46) ⟨_, rfl, Same.refl _⟩ (fun j σ H46 _ ⟨_, _, hs⟩ => hs.seq (SqL.of h45)) ?_ ?_
      · rintro j y σ H46 hy ⟨v12, rfl, hs46⟩
        walk_at "rd"
        refine ⟨c, bx, y, rs, rfl, hC5.same ((hs537.trans hs3745).trans hs46), hbl, hbk, fun H47 hs47 => ?_⟩
        walk_at "rd"
        try refine iteF ?_
        first | exact ⟨_, rfl, hs46.trans hs47⟩ | exact hs46.trans hs47
      · rintro σ H46 ⟨v12, rfl, hs46⟩
        first | exact ⟨_, _, rfl, hs37.trans (hs3745.trans hs46)⟩ | exact hs37.trans (hs3745.trans hs46)
    · rintro σ H37 ⟨v11, v12, rfl, hs37⟩
      walk_at "rd"
      have hs137 := hs5.trans (hs536.trans hs37)
      have hk37 : H37 kp = some (.lst xs) := (hs32.trans (hs33.trans (hs34.trans (hs35.trans (hs36.trans hs37))))) _ _ hk31
      have layR : ∀ r ∈ rs, PyData.canLay0 (.str r.s) = true := fun r hr => by
        obtain ⟨d, hd, e⟩ := hsg r hr
        rw [e]
        exact Cs.signs_lay d hd
      refine ⟨Cs.dRows rs, Cs.dRows rs, .lst (SqL.of (hs137 _ _ hc1)) (Cs.denL_rows (Cs.rows_same hpd hs137) layR), .lst (SqL.of (hk37)) (Cs.denL_rows (Cs.rows_same hpd hs137) layR), Cs.drows_depth _ _, ?_⟩
      rw [eqv_refl (show nb (Cs.dRows rs) = true from Cs.nb_rows rs)]
      exact q _
theorem txt_mk {K : PySem.W.Frag} {h : Heap} {mg : Str → Option Value} (X : K.In h) (G : h.Ns mainGlobals mg)
    {f0 : Addr} {od0 an0 : Option Addr} {sl0 : Array (Option Value)} {oc0 kV0 dc0 pm0 cd0 ct0 : Value} {f1 : Addr} {od1 an1 : Option Addr} {sl1 : Array (Option Value)} {oc1 kV1 dc1 pm1 cd1 ct1 : Value} {f2 : Addr} {od2 an2 : Option Addr} {sl2 : Array (Option Value)} {oc2 kV2 dc2 pm2 cd2 ct2 : Value} {f3 : Addr} {od3 an3 : Option Addr} {sl3 : Array (Option Value)} {oc3 kV3 dc3 pm3 cd3 ct3 : Value} {f4 : Addr} {od4 an4 : Option Addr} {sl4 : Array (Option Value)} {oc4 kV4 dc4 pm4 cd4 ct4 : Value} {f5 : Addr} {od5 an5 : Option Addr} {sl5 : Array (Option Value)} {oc5 kV5 dc5 pm5 cd5 ct5 : Value} {f6 : Addr} {od6 an6 : Option Addr} {sl6 : Array (Option Value)} {oc6 kV6 dc6 pm6 cd6 ct6 : Value} {f7 : Addr} {od7 an7 : Option Addr} {sl7 : Array (Option Value)} {oc7 kV7 dc7 pm7 cd7 ct7 : Value} {f8 : Addr} {od8 an8 : Option Addr} {sl8 : Array (Option Value)} {oc8 kV8 dc8 pm8 cd8 ct8 : Value} {f9 : Addr} {od9 an9 : Option Addr} {sl9 : Array (Option Value)} {oc9 kV9 dc9 pm9 cd9 ct9 : Value} {f10 : Addr} {od10 an10 : Option Addr} {sl10 : Array (Option Value)} {oc10 kV10 dc10 pm10 cd10 ct10 : Value} {f11 : Addr} {od11 an11 : Option Addr} {sl11 : Array (Option Value)} {oc11 kV11 dc11 pm11 cd11 ct11 : Value} {f12 : Addr} {od12 an12 : Option Addr} {sl12 : Array (Option Value)} {oc12 kV12 dc12 pm12 cd12 ct12 : Value} {f13 : Addr} {od13 an13 : Option Addr} {sl13 : Array (Option Value)} {oc13 kV13 dc13 pm13 cd13 ct13 : Value} {f14 : Addr} {od14 an14 : Option Addr} {sl14 : Array (Option Value)} {oc14 kV14 dc14 pm14 cd14 ct14 : Value} {f15 : Addr} {od15 an15 : Option Addr} {sl15 : Array (Option Value)} {oc15 kV15 dc15 pm15 cd15 ct15 : Value} {f16 : Addr} {od16 an16 : Option Addr} {sl16 : Array (Option Value)} {oc16 kV16 dc16 pm16 cd16 ct16 : Value}
    (a0 : PySem.W.nsIn K mainGlobals "channel_of" = some (some (.ref f0))) (l0 : K.lookup f0 = some ⟨oc0, od0, .func (PySem.W.fnOf "channel_of" "channel_of" (defArgs s_channel_of) (defBody s_channel_of) (defScope s_channel_of) .none kV0 dc0 pm0 an0 cd0 ct0), sl0⟩) (c0 : PySem.W.codeIn K cd0 "channel_of" = true) (k0 : PySem.W.keepIn K (.ref f0) = true)
    (a1 : PySem.W.nsIn K mainGlobals "keys_of" = some (some (.ref f1))) (l1 : K.lookup f1 = some ⟨oc1, od1, .func (PySem.W.fnOf "keys_of" "keys_of" (defArgs s_keys_of) (defBody s_keys_of) (defScope s_keys_of) .none kV1 dc1 pm1 an1 cd1 ct1), sl1⟩) (c1 : PySem.W.codeIn K cd1 "keys_of" = true) (k1 : PySem.W.keepIn K (.ref f1) = true)
    (a2 : PySem.W.nsIn K mainGlobals "is_sign_key" = some (some (.ref f2))) (l2 : K.lookup f2 = some ⟨oc2, od2, .func (PySem.W.fnOf "is_sign_key" "is_sign_key" (defArgs s_is_sign_key) (defBody s_is_sign_key) (defScope s_is_sign_key) .none kV2 dc2 pm2 an2 cd2 ct2), sl2⟩) (c2 : PySem.W.codeIn K cd2 "is_sign_key" = true) (k2 : PySem.W.keepIn K (.ref f2) = true)
    (a3 : PySem.W.nsIn K mainGlobals "goes_on" = some (some (.ref f3))) (l3 : K.lookup f3 = some ⟨oc3, od3, .func (PySem.W.fnOf "goes_on" "goes_on" (defArgs s_goes_on) (defBody s_goes_on) (defScope s_goes_on) .none kV3 dc3 pm3 an3 cd3 ct3), sl3⟩) (c3 : PySem.W.codeIn K cd3 "goes_on" = true) (k3 : PySem.W.keepIn K (.ref f3) = true)
    (a4 : PySem.W.nsIn K mainGlobals "look_at_keys" = some (some (.ref f4))) (l4 : K.lookup f4 = some ⟨oc4, od4, .func (PySem.W.fnOf "look_at_keys" "look_at_keys" (defArgs s_look_at_keys) (defBody s_look_at_keys) (defScope s_look_at_keys) .none kV4 dc4 pm4 an4 cd4 ct4), sl4⟩) (c4 : PySem.W.codeIn K cd4 "look_at_keys" = true) (k4 : PySem.W.keepIn K (.ref f4) = true)
    (a5 : PySem.W.nsIn K mainGlobals "lines_of" = some (some (.ref f5))) (l5 : K.lookup f5 = some ⟨oc5, od5, .func (PySem.W.fnOf "lines_of" "lines_of" (defArgs s_lines_of) (defBody s_lines_of) (defScope s_lines_of) .none kV5 dc5 pm5 an5 cd5 ct5), sl5⟩) (c5 : PySem.W.codeIn K cd5 "lines_of" = true) (k5 : PySem.W.keepIn K (.ref f5) = true)
    (a6 : PySem.W.nsIn K mainGlobals "first_place_unlike" = some (some (.ref f6))) (l6 : K.lookup f6 = some ⟨oc6, od6, .func (PySem.W.fnOf "first_place_unlike" "first_place_unlike" (defArgs s_first_place_unlike) (defBody s_first_place_unlike) (defScope s_first_place_unlike) .none kV6 dc6 pm6 an6 cd6 ct6), sl6⟩) (c6 : PySem.W.codeIn K cd6 "first_place_unlike" = true) (k6 : PySem.W.keepIn K (.ref f6) = true)
    (a7 : PySem.W.nsIn K mainGlobals "first_unlike" = some (some (.ref f7))) (l7 : K.lookup f7 = some ⟨oc7, od7, .func (PySem.W.fnOf "first_unlike" "first_unlike" (defArgs s_first_unlike) (defBody s_first_unlike) (defScope s_first_unlike) .none kV7 dc7 pm7 an7 cd7 ct7), sl7⟩) (c7 : PySem.W.codeIn K cd7 "first_unlike" = true) (k7 : PySem.W.keepIn K (.ref f7) = true)
    (a8 : PySem.W.nsIn K mainGlobals "_law_cell_at" = some (some (.ref f8))) (l8 : K.lookup f8 = some ⟨oc8, od8, .func (PySem.W.fnOf "_law_cell_at" "_law_cell_at" (defArgs s_law_cell_at) (defBody s_law_cell_at) (defScope s_law_cell_at) .none kV8 dc8 pm8 an8 cd8 ct8), sl8⟩) (c8 : PySem.W.codeIn K cd8 "_law_cell_at" = true) (k8 : PySem.W.keepIn K (.ref f8) = true)
    (a9 : PySem.W.nsIn K mainGlobals "_law_mixed" = some (some (.ref f9))) (l9 : K.lookup f9 = some ⟨oc9, od9, .func (PySem.W.fnOf "_law_mixed" "_law_mixed" (defArgs s_law_mixed) (defBody s_law_mixed) (defScope s_law_mixed) .none kV9 dc9 pm9 an9 cd9 ct9), sl9⟩) (c9 : PySem.W.codeIn K cd9 "_law_mixed" = true) (k9 : PySem.W.keepIn K (.ref f9) = true)
    (a10 : PySem.W.nsIn K mainGlobals "_law_case" = some (some (.ref f10))) (l10 : K.lookup f10 = some ⟨oc10, od10, .func (PySem.W.fnOf "_law_case" "_law_case" (defArgs s_law_case) (defBody s_law_case) (defScope s_law_case) .none kV10 dc10 pm10 an10 cd10 ct10), sl10⟩) (c10 : PySem.W.codeIn K cd10 "_law_case" = true) (k10 : PySem.W.keepIn K (.ref f10) = true)
    (a11 : PySem.W.nsIn K mainGlobals "_law_word" = some (some (.ref f11))) (l11 : K.lookup f11 = some ⟨oc11, od11, .func (PySem.W.fnOf "_law_word" "_law_word" (defArgs s_law_word) (defBody s_law_word) (defScope s_law_word) .none kV11 dc11 pm11 an11 cd11 ct11), sl11⟩) (c11 : PySem.W.codeIn K cd11 "_law_word" = true) (k11 : PySem.W.keepIn K (.ref f11) = true)
    (a12 : PySem.W.nsIn K mainGlobals "_law_words" = some (some (.ref f12))) (l12 : K.lookup f12 = some ⟨oc12, od12, .func (PySem.W.fnOf "_law_words" "_law_words" (defArgs s_law_words) (defBody s_law_words) (defScope s_law_words) .none kV12 dc12 pm12 an12 cd12 ct12), sl12⟩) (c12 : PySem.W.codeIn K cd12 "_law_words" = true) (k12 : PySem.W.keepIn K (.ref f12) = true)
    (a13 : PySem.W.nsIn K mainGlobals "_law_texts" = some (some (.ref f13))) (l13 : K.lookup f13 = some ⟨oc13, od13, .func (PySem.W.fnOf "_law_texts" "_law_texts" (defArgs s_law_texts) (defBody s_law_texts) (defScope s_law_texts) .none kV13 dc13 pm13 an13 cd13 ct13), sl13⟩) (c13 : PySem.W.codeIn K cd13 "_law_texts" = true) (k13 : PySem.W.keepIn K (.ref f13) = true)
    (a14 : PySem.W.nsIn K mainGlobals "_law_refused" = some (some (.ref f14))) (l14 : K.lookup f14 = some ⟨oc14, od14, .func (PySem.W.fnOf "_law_refused" "_law_refused" (defArgs s_law_refused) (defBody s_law_refused) (defScope s_law_refused) .none kV14 dc14 pm14 an14 cd14 ct14), sl14⟩) (c14 : PySem.W.codeIn K cd14 "_law_refused" = true) (k14 : PySem.W.keepIn K (.ref f14) = true)
    (a15 : PySem.W.nsIn K mainGlobals "_law_alike_to" = some (some (.ref f15))) (l15 : K.lookup f15 = some ⟨oc15, od15, .func (PySem.W.fnOf "_law_alike_to" "_law_alike_to" (defArgs s_law_alike_to) (defBody s_law_alike_to) (defScope s_law_alike_to) .none kV15 dc15 pm15 an15 cd15 ct15), sl15⟩) (c15 : PySem.W.codeIn K cd15 "_law_alike_to" = true) (k15 : PySem.W.keepIn K (.ref f15) = true)
    (a16 : PySem.W.nsIn K mainGlobals "law" = some (some (.ref f16))) (l16 : K.lookup f16 = some ⟨oc16, od16, .func (PySem.W.fnOf "law" "law" (defArgs s_law) (defBody s_law) (defScope s_law) .none kV16 dc16 pm16 an16 cd16 ct16), sl16⟩) (c16 : PySem.W.codeIn K cd16 "law" = true) (k16 : PySem.W.keepIn K (.ref f16) = true)
    {c_CasterError : Addr} (ca_CasterError : PySem.W.nsIn K mainGlobals "CasterError" = some (some (.ref c_CasterError)))
    (ci_CasterError : PySem.W.isClsIn K c_CasterError = true) (ct_CasterError : PySem.W.typeIn K (.ref c_CasterError) = some (.type "type"))
    {c_NoKeys : Addr} (ca_NoKeys : PySem.W.nsIn K mainGlobals "NoKeys" = some (some (.ref c_NoKeys)))
    {od_CasterError : Option Addr} {cd_CasterError : ClassData} {sl_CasterError : Array (Option Value)} (lk_CasterError : K.lookup c_CasterError = some ⟨.type "type", od_CasterError, .cls cd_CasterError, sl_CasterError⟩)
    {N_CasterError : Addr} (cN_CasterError : cd_CasterError.ns = N_CasterError) {noc_CasterError : Value} {nod_CasterError : Option Addr} {nes_CasterError : Array DictEntry} {nn_CasterError : Nat} {nsl_CasterError : Array (Option Value)} (ln_CasterError : K.lookup N_CasterError = some ⟨noc_CasterError, nod_CasterError, .dict nes_CasterError nn_CasterError, nsl_CasterError⟩)
    (le_CasterError : (nes_CasterError.toList.all fun e => match e.key with | .str _ _ => true | _ => false) = true) (ni_CasterError : PySem.W.nsIn K N_CasterError "__init__" = some none)
    {fi_NoKeys : Addr} (cn_NoKeys : PySem.W.findIn K (.ref c_NoKeys) "__init__" = some (some (.ref fi_NoKeys)))
    {iod_NoKeys ian_NoKeys : Option Addr} {isl_NoKeys : Array (Option Value)} {ioc_NoKeys ikV_NoKeys idc_NoKeys ipm_NoKeys icd_NoKeys ict_NoKeys : Value}
    (cl_NoKeys : K.lookup fi_NoKeys = some ⟨ioc_NoKeys, iod_NoKeys, .func (PySem.W.fnOf "__init__" "NoKeys.__init__" (defArgs s_init_NoKeys) (defBody s_init_NoKeys) (defScope s_init_NoKeys) .none ikV_NoKeys idc_NoKeys ipm_NoKeys ian_NoKeys icd_NoKeys ict_NoKeys), isl_NoKeys⟩) (cc_NoKeys : PySem.W.codeIn K icd_NoKeys "NoKeys.__init__" = true) (ck_NoKeys : PySem.W.keepIn K (.ref fi_NoKeys) = true)
    {od_NoKeys : Option Addr} {cd_NoKeys : ClassData} {sl_NoKeys : Array (Option Value)} (lk_NoKeys : K.lookup c_NoKeys = some ⟨.type "type", od_NoKeys, .cls cd_NoKeys, sl_NoKeys⟩)
    {N_NoKeys : Addr} (cN_NoKeys : cd_NoKeys.ns = N_NoKeys) {noc_NoKeys : Value} {nod_NoKeys : Option Addr} {nes_NoKeys : Array DictEntry} {nn_NoKeys : Nat} {nsl_NoKeys : Array (Option Value)} (ln_NoKeys : K.lookup N_NoKeys = some ⟨noc_NoKeys, nod_NoKeys, .dict nes_NoKeys nn_NoKeys, nsl_NoKeys⟩)
    (le_NoKeys : (nes_NoKeys.toList.all fun e => match e.key with | .str _ _ => true | _ => false) = true) (ni_NoKeys : PySem.W.nsIn K N_NoKeys "__init__" = some (some (.ref fi_NoKeys)))
    {k0_NoKeys k1_NoKeys k2_NoKeys k3_NoKeys k5_NoKeys : Option Value} (cs_NoKeys : sl_NoKeys.toList = [k0_NoKeys, k1_NoKeys, k2_NoKeys, k3_NoKeys, some (.builtin "ValueError.__new__"), k5_NoKeys]) (cm_NoKeys : cd_NoKeys.mro = .ref c_NoKeys :: .ref c_CasterError :: bmV) (ch_NoKeys : cd_NoKeys.hasDel = false)
    (q1_NoKeys : PySem.W.findIn K (.ref c_NoKeys) "__getattribute__" = some (some (.builtin "BaseException.__getattribute__"))) (q2_NoKeys : PySem.W.findIn K (.ref c_NoKeys) "__getattr__" = some none) (q3_NoKeys : PySem.W.mroIn K c_NoKeys (.type "BaseException") = some true) (q4_NoKeys : PySem.W.mroIn K c_NoKeys (.type "object") = some true) (q5_NoKeys : PySem.W.findIn K (.ref c_NoKeys) "__class__" = some (some (.builtin "object.__class__"))) (q6_NoKeys : PySem.W.hasDictIn K c_NoKeys = true) (q7_NoKeys : PySem.W.keepIn K (.ref c_NoKeys) = true) (q8_NoKeys : PySem.W.typeIn K (.ref c_NoKeys) = some (.type "type")) (q9_NoKeys : PySem.W.mroIn K c_NoKeys (.type "ValueError") = some true)
    (w1_NoKeys : cd_NoKeys.hasDict = true) (w2_NoKeys : PySem.W.findIn K (.ref c_NoKeys) "__setattr__" = some (some (.builtin "object.__setattr__"))) (w3_NoKeys : PySem.W.findIn K (.ref c_NoKeys) "at" = some none) (w4_NoKeys : PySem.W.isFn K (.ref fi_NoKeys) = true)
    (b1 : PySem.W.readsIn K c_CasterError (.type "type") = true) (b2 : PySem.W.findCls K (.ref c_CasterError) (.type "type") "__init__" = some (.val (.builtin "ValueError.__init__"))) (b3 : PySem.W.specialIn K (.ref c_CasterError) "__getattribute__" = some (some (.builtin "type.__getattribute__")))
    (m_NoKeys_CasterError : PySem.W.mroIn K c_NoKeys (.ref c_CasterError) = some true)
    (m_NoKeys_NoKeys : PySem.W.mroIn K c_NoKeys (.ref c_NoKeys) = some true)
    {t_GAP_KEY : Tok} (y_GAP_KEY : PySem.W.nsIn K mainGlobals "GAP_KEY" = some (some (.str " " t_GAP_KEY)))
    {t_SEND_KEY : Tok} (y_SEND_KEY : PySem.W.nsIn K mainGlobals "SEND_KEY" = some (some (.str "/" t_SEND_KEY)))
    (z_ValueError : PySem.W.nsIn K mainGlobals "ValueError" = some none)
    (z_enumerate : PySem.W.nsIn K mainGlobals "enumerate" = some none)
    (z_len : PySem.W.nsIn K mainGlobals "len" = some none)
    (z_list : PySem.W.nsIn K mainGlobals "list" = some none)
    (z_min : PySem.W.nsIn K mainGlobals "min" = some none)
    (z_range : PySem.W.nsIn K mainGlobals "range" = some none)
    (z_zip : PySem.W.nsIn K mainGlobals "zip" = some none)
    : ∃ a : Ad, Tx K mg a := by
  have D0 : D K mg "channel_of" s_channel_of ["case", "sign"] f0 _ := ⟨fun_mk l0 c0 k0, fun us hl => match us, hl with | [_, _], _ => rfl, PySem.W.mg_of X G a0⟩
  have D1 : D K mg "keys_of" s_keys_of ["lines"] f1 _ := ⟨fun_mk l1 c1 k1, fun us hl => match us, hl with | [_], _ => rfl, PySem.W.mg_of X G a1⟩
  have D2 : D K mg "is_sign_key" s_is_sign_key ["key"] f2 _ := ⟨fun_mk l2 c2 k2, fun us hl => match us, hl with | [_], _ => rfl, PySem.W.mg_of X G a2⟩
  have D3 : D K mg "goes_on" s_goes_on ["case", "keys", "at"] f3 _ := ⟨fun_mk l3 c3 k3, fun us hl => match us, hl with | [_, _, _], _ => rfl, PySem.W.mg_of X G a3⟩
  have D4 : D K mg "look_at_keys" s_look_at_keys ["case", "keys"] f4 _ := ⟨fun_mk l4 c4 k4, fun us hl => match us, hl with | [_, _], _ => rfl, PySem.W.mg_of X G a4⟩
  have D5 : D K mg "lines_of" s_lines_of ["case", "keys"] f5 _ := ⟨fun_mk l5 c5 k5, fun us hl => match us, hl with | [_, _], _ => rfl, PySem.W.mg_of X G a5⟩
  have D6 : D K mg "first_place_unlike" s_first_place_unlike ["one", "other"] f6 _ := ⟨fun_mk l6 c6 k6, fun us hl => match us, hl with | [_, _], _ => rfl, PySem.W.mg_of X G a6⟩
  have D7 : D K mg "first_unlike" s_first_unlike ["case", "keys", "slugs"] f7 _ := ⟨fun_mk l7 c7 k7, fun us hl => match us, hl with | [_, _, _], _ => rfl, PySem.W.mg_of X G a7⟩
  have D8 : D K mg "_law_cell_at" s_law_cell_at ["_law_script", "_law_k"] f8 _ := ⟨fun_mk l8 c8 k8, fun us hl => match us, hl with | [_, _], _ => rfl, PySem.W.mg_of X G a8⟩
  have D9 : D K mg "_law_mixed" s_law_mixed ["_law_cell", "_law_k"] f9 _ := ⟨fun_mk l9 c9 k9, fun us hl => match us, hl with | [_, _], _ => rfl, PySem.W.mg_of X G a9⟩
  have D10 : D K mg "_law_case" s_law_case ["_law_script"] f10 _ := ⟨fun_mk l10 c10 k10, fun us hl => match us, hl with | [_], _ => rfl, PySem.W.mg_of X G a10⟩
  have D11 : D K mg "_law_word" s_law_word ["_law_case_here", "_law_number", "_law_most"] f11 _ := ⟨fun_mk l11 c11 k11, fun us hl => match us, hl with | [_, _, _], _ => rfl, PySem.W.mg_of X G a11⟩
  have D12 : D K mg "_law_words" s_law_words ["_law_case_here", "_law_cells", "_law_k", "_law_most"] f12 _ := ⟨fun_mk l12 c12 k12, fun us hl => match us, hl with | [_, _, _, _], _ => rfl, PySem.W.mg_of X G a12⟩
  have D13 : D K mg "_law_texts" s_law_texts ["_law_lines"] f13 _ := ⟨fun_mk l13 c13 k13, fun us hl => match us, hl with | [_], _ => rfl, PySem.W.mg_of X G a13⟩
  have D14 : D K mg "_law_refused" s_law_refused ["_law_case_here", "_law_keys", "_law_slugs"] f14 _ := ⟨fun_mk l14 c14 k14, fun us hl => match us, hl with | [_, _, _], _ => rfl, PySem.W.mg_of X G a14⟩
  have D15 : D K mg "_law_alike_to" s_law_alike_to ["_law_case_here", "_law_lines", "_law_others"] f15 _ := ⟨fun_mk l15 c15 k15, fun us hl => match us, hl with | [_, _, _], _ => rfl, PySem.W.mg_of X G a15⟩
  have D16 : D K mg "law" s_law ["_law_script"] f16 _ := ⟨fun_mk l16 c16 k16, fun us hl => match us, hl with | [_], _ => rfl, PySem.W.mg_of X G a16⟩
  have F_CasterError : NsF K cd_CasterError.ns none := by rw [cN_CasterError]; exact ⟨⟨_, _, _, _, _, ln_CasterError, by rw [← Array.all_toList]; exact le_CasterError⟩, ni_CasterError⟩
  have F_NoKeys : NsF K cd_NoKeys.ns (some fi_NoKeys) := by rw [cN_NoKeys]; exact ⟨⟨_, _, _, _, _, ln_NoKeys, by rw [← Array.all_toList]; exact le_NoKeys⟩, ni_NoKeys⟩
  have TL : PySem.W.tailIn K bmV (.ref c_CasterError :: bmV) = true := tail_mk lk_CasterError F_CasterError
  have E_CasterError : CL K mg "CasterError" c_CasterError := ⟨PySem.W.mg_of X G ca_CasterError, ci_CasterError, ct_CasterError⟩
  have X_NoKeys := xcls_mk lk_NoKeys cm_NoKeys cs_NoKeys ch_NoKeys TL F_NoKeys
  have Q_NoKeys := xq_of (xq_mk q1_NoKeys q2_NoKeys q3_NoKeys q4_NoKeys q5_NoKeys q6_NoKeys q7_NoKeys q8_NoKeys q9_NoKeys)
  have W_NoKeys := xf_of (xf_mk (f := fi_NoKeys) lk_NoKeys (by rw [cm_NoKeys]; rfl) w1_NoKeys w2_NoKeys w3_NoKeys w4_NoKeys)
  have E_NoKeys : CI K mg "NoKeys" "NoKeys.__init__" s_init_NoKeys ["self", "at"] c_NoKeys fi_NoKeys _ "at" := ⟨PySem.W.mg_of X G ca_NoKeys, X_NoKeys, Q_NoKeys, W_NoKeys.1, W_NoKeys.2, fun_mk cl_NoKeys cc_NoKeys ck_NoKeys, fun us hl => match us, hl with | [_, _], _ => rfl⟩
  exact ⟨⟨f0, _, f1, _, f2, _, f3, _, f4, _, f5, _, f6, _, f7, _, f8, _, f9, _, f10, _, f11, _, f12, _, f13, _, f14, _, f15, _, f16, _, c_CasterError, c_NoKeys, fi_NoKeys, _, t_GAP_KEY, t_SEND_KEY⟩, ⟨D0, D1, D2, D3, D4, D5, D6, D7, D8, D9, D10, D11, D12, D13, D14, D15, D16, E_CasterError, E_NoKeys, ⟨b1, b2, b3⟩, m_NoKeys_CasterError, m_NoKeys_NoKeys, PySem.W.mg_of X G y_GAP_KEY, PySem.W.mg_of X G y_SEND_KEY, PySem.W.mg_none_of X G z_ValueError, PySem.W.mg_none_of X G z_enumerate, PySem.W.mg_none_of X G z_len, PySem.W.mg_none_of X G z_list, PySem.W.mg_none_of X G z_min, PySem.W.mg_none_of X G z_range, PySem.W.mg_none_of X G z_zip⟩⟩
end
end Lw
open PySem PySem.W PyProof.Rows
set_option maxRecDepth 100000 in
set_option maxHeartbeats 0 in
theorem PySem.Challenge.cw_linecaster_k56_whole_keys_cast_and_read_holds : PySem.Challenge.rw_linecaster_k56_whole_keys_cast_and_read.Holds := by
  w_on; o_law; k_head; (case hw => w_witness2)
  k_fill
  refine L2.walk_ofK (l := PySem.Challenge.rw_linecaster_k56_whole_keys_cast_and_read) (n := 63) (k := Lw.lawLevel) (x := "_law_script") (CX := L2.CX0) (sp := Lw.sp_law) rfl (by decide) rfl ⟨rfl, by decide, by decide⟩ (fun w h Y => PySem.W.kIn_of Y) ?F ?S ?C
  case F =>
    intro w mg fa h KX G hmg
    have T : ∃ a : Lw.Ad, Lw.Tx (L2.KOf KX) mg a := by
      dsimp only [L2.KOf]
      refine' Lw.txt_mk KX G ?a0 ?l0 ?c0 ?k0 ?a1 ?l1 ?c1 ?k1 ?a2 ?l2 ?c2 ?k2 ?a3 ?l3 ?c3 ?k3 ?a4 ?l4 ?c4 ?k4 ?a5 ?l5 ?c5 ?k5 ?a6 ?l6 ?c6 ?k6 ?a7 ?l7 ?c7 ?k7 ?a8 ?l8 ?c8 ?k8 ?a9 ?l9 ?c9 ?k9 ?a10 ?l10 ?c10 ?k10 ?a11 ?l11 ?c11 ?k11 ?a12 ?l12 ?c12 ?k12 ?a13 ?l13 ?c13 ?k13 ?a14 ?l14 ?c14 ?k14 ?a15 ?l15 ?c15 ?k15 ?a16 ?l16 ?c16 ?k16 ?ca_CasterError ?ci_CasterError ?ct_CasterError ?ca_NoKeys ?lk_CasterError ?cN_CasterError ?ln_CasterError ?le_CasterError ?ni_CasterError ?cn_NoKeys ?cl_NoKeys ?cc_NoKeys ?ck_NoKeys ?lk_NoKeys ?cN_NoKeys ?ln_NoKeys ?le_NoKeys ?ni_NoKeys ?cs_NoKeys ?cm_NoKeys ?ch_NoKeys ?q1_NoKeys ?q2_NoKeys ?q3_NoKeys ?q4_NoKeys ?q5_NoKeys ?q6_NoKeys ?q7_NoKeys ?q8_NoKeys ?q9_NoKeys ?w1_NoKeys ?w2_NoKeys ?w3_NoKeys ?w4_NoKeys ?b1 ?b2 ?b3 ?m_NoKeys_CasterError ?m_NoKeys_NoKeys ?y_GAP_KEY ?y_SEND_KEY ?z_ValueError ?z_enumerate ?z_len ?z_list ?z_min ?z_range ?z_zip
      (case a0 => k_is)
      (case l0 => k_is)
      (case c0 => k_is)
      (case k0 => k_is)
      (case a1 => k_is)
      (case l1 => k_is)
      (case c1 => k_is)
      (case k1 => k_is)
      (case a2 => k_is)
      (case l2 => k_is)
      (case c2 => k_is)
      (case k2 => k_is)
      (case a3 => k_is)
      (case l3 => k_is)
      (case c3 => k_is)
      (case k3 => k_is)
      (case a4 => k_is)
      (case l4 => k_is)
      (case c4 => k_is)
      (case k4 => k_is)
      (case a5 => k_is)
      (case l5 => k_is)
      (case c5 => k_is)
      (case k5 => k_is)
      (case a6 => k_is)
      (case l6 => k_is)
      (case c6 => k_is)
      (case k6 => k_is)
      (case a7 => k_is)
      (case l7 => k_is)
      (case c7 => k_is)
      (case k7 => k_is)
      (case a8 => k_is)
      (case l8 => k_is)
      (case c8 => k_is)
      (case k8 => k_is)
      (case a9 => k_is)
      (case l9 => k_is)
      (case c9 => k_is)
      (case k9 => k_is)
      (case a10 => k_is)
      (case l10 => k_is)
      (case c10 => k_is)
      (case k10 => k_is)
      (case a11 => k_is)
      (case l11 => k_is)
      (case c11 => k_is)
      (case k11 => k_is)
      (case a12 => k_is)
      (case l12 => k_is)
      (case c12 => k_is)
      (case k12 => k_is)
      (case a13 => k_is)
      (case l13 => k_is)
      (case c13 => k_is)
      (case k13 => k_is)
      (case a14 => k_is)
      (case l14 => k_is)
      (case c14 => k_is)
      (case k14 => k_is)
      (case a15 => k_is)
      (case l15 => k_is)
      (case c15 => k_is)
      (case k15 => k_is)
      (case a16 => k_is)
      (case l16 => k_is)
      (case c16 => k_is)
      (case k16 => k_is)
      (case ca_CasterError => k_is)
      (case ci_CasterError => k_is)
      (case ct_CasterError => k_is)
      (case ca_NoKeys => k_is)
      (case lk_CasterError => k_is)
      (case cN_CasterError => rfl)
      (case ln_CasterError => k_is)
      (case le_CasterError => rfl)
      (case ni_CasterError => k_is)
      (case cn_NoKeys => k_is)
      (case cl_NoKeys => k_is)
      (case cc_NoKeys => k_is)
      (case ck_NoKeys => k_is)
      (case lk_NoKeys => k_is)
      (case cN_NoKeys => rfl)
      (case ln_NoKeys => k_is)
      (case le_NoKeys => rfl)
      (case ni_NoKeys => k_is)
      (case cs_NoKeys => rfl)
      (case cm_NoKeys => rfl)
      (case ch_NoKeys => rfl)
      (case q1_NoKeys => k_is)
      (case q2_NoKeys => k_is)
      (case q3_NoKeys => k_is)
      (case q4_NoKeys => k_is)
      (case q5_NoKeys => k_is)
      (case q6_NoKeys => k_is)
      (case q7_NoKeys => k_is)
      (case q8_NoKeys => k_is)
      (case q9_NoKeys => k_is)
      (case w1_NoKeys => rfl)
      (case w2_NoKeys => k_is)
      (case w3_NoKeys => k_is)
      (case w4_NoKeys => k_is)
      (case b1 => k_is)
      (case b2 => k_is)
      (case b3 => k_is)
      (case m_NoKeys_CasterError => k_is)
      (case m_NoKeys_NoKeys => k_is)
      (case y_GAP_KEY => k_is)
      (case y_SEND_KEY => k_is)
      (case z_ValueError => k_is)
      (case z_enumerate => k_is)
      (case z_len => k_is)
      (case z_list => k_is)
      (case z_min => k_is)
      (case z_range => k_is)
      (case z_zip => k_is)
    obtain ⟨a, T⟩ := T
    have e0 := hmg.symm.trans T.law.mg
    cases e0
    exact ⟨_, fun s u => .of_eq (T.law.ba [u] rfl), fun base kb nb => Lw.ok_law T⟩
  case S => exact fun K H a ns hl hO hS => ⟨a, ns, rfl, hS, hl, fun _ => rfl⟩
  case C => exact fun _ _ _ _ z => z
