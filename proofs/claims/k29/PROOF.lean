import PyProof.Rows.All
import Wide.All
import OpenK.AllK
import Wide.FinOn
import Lean
import PyProof.EqAt
import PyProof.EqKinds
import PyProof.TupleCall
import PyProof.P3Eq
import PyProof.NeData
import PyProof.Rows.SortShellK
import PySem.Challenge.RW_linecaster_k29_no_copy
set_option Elab.async false
set_option linter.all false
set_option maxRecDepth 100000
namespace L2
open PySem PySem.Spec PyProof.Rows
abbrev Key := Sum Int Str
def keyIs : Key → Value → Bool
  | .inl k, v => Value.isInt k v
  | .inr x, v => Value.isStrOf x v
def keyH (w : World) : Key → Int
  | .inl k => hashInt k
  | .inr x => hashStr w x
theorem keyIs_shape : ∀ {k : Key} {v : Value}, keyIs k v = true → (∃ i t, k = Sum.inl i ∧ v = Value.int i t) ∨ (∃ x t, k = Sum.inr x ∧ v = Value.str x t)
  | .inl i, v, h => by
    obtain ⟨t, e⟩ := Value.isInt_shape (k := i) (v := v) h
    exact .inl ⟨i, t, rfl, e⟩
  | .inr x, v, h => by
    obtain ⟨t, e⟩ := Value.isStrOf_shape (x := x) (v := v) h
    exact .inr ⟨x, t, rfl, e⟩
theorem key_ll (a b : Int) : decide ((Sum.inl a : Key) = Sum.inl b) = (a == b) := by
  by_cases e : a = b
  · subst e; simp
  · have h : ¬ (Sum.inl a : Key) = Sum.inl b := fun q => e (Sum.inl.inj q)
    rw [decide_eq_false h]
    exact (beq_eq_false_iff_ne.mpr e).symm
theorem key_rr (a b : Str) : decide ((Sum.inr a : Key) = Sum.inr b) = decide (a = b) := by
  by_cases e : a = b
  · subst e; simp
  · have h : ¬ (Sum.inr a : Key) = Sum.inr b := fun q => e (Sum.inr.inj q)
    rw [decide_eq_false h, decide_eq_false e]
theorem key_lr (a : Int) (b : Str) : decide ((Sum.inl a : Key) = Sum.inr b) = false := decide_eq_false (fun q => nomatch q)
theorem key_rl (a : Str) (b : Int) : decide ((Sum.inr a : Key) = Sum.inl b) = false := decide_eq_false (fun q => nomatch q)
def mixKind (prog : Program) (w : World) : PySem.KeyKind prog w Key where
  is := keyIs
  hash := keyH w
  inj := fun v a b ha hb => by
    rcases keyIs_shape ha with ⟨i, t, rfl, rfl⟩ | ⟨x, t, rfl, rfl⟩
    · rcases keyIs_shape hb with ⟨j, u, rfl, e⟩ | ⟨y, u, rfl, e⟩
      · injection e with e1 _; rw [e1]
      · exact nomatch e
    · rcases keyIs_shape hb with ⟨j, u, rfl, e⟩ | ⟨y, u, rfl, e⟩
      · exact nomatch e
      · injection e with e1 _; rw [e1]
  byValue := fun k v h => by
    rcases keyIs_shape h with ⟨i, t, rfl, rfl⟩ | ⟨x, t, rfl, rfl⟩ <;> rfl
  pyHash := fun hv h => by
    rcases keyIs_shape hv with ⟨i, t, rfl, rfl⟩ | ⟨x, t, rfl, rfl⟩
    · exact wpAny_pyHash_int h
    · exact wpAny_pyHash_str h
  eqBool := fun hu hv h => by
    rcases keyIs_shape hu with ⟨i, t, rfl, rfl⟩ | ⟨x, t, rfl, rfl⟩
    · rcases keyIs_shape hv with ⟨j, u, rfl, rfl⟩ | ⟨y, u, rfl, rfl⟩
      · rw [key_ll] at h; exact wpAny_eqBool_int h
      · rw [key_lr] at h; exact SeqAt.EqAt.int_str i t y u _ _ _ _ h
    · rcases keyIs_shape hv with ⟨j, u, rfl, rfl⟩ | ⟨y, u, rfl, rfl⟩
      · rw [key_rl] at h; exact SeqAt.EqAt.str_int x t j u _ _ _ _ h
      · rw [key_rr] at h; exact wpAny_eqBool_str h
  «strs» := fun k x t v h => by
    rcases keyIs_shape h with ⟨i, u, rfl, e⟩ | ⟨y, u, rfl, e⟩
    · exact nomatch e
    · injection e with e1 _
      subst e1
      cases v <;> rfl
end L2
namespace L2
open PySem PySem.Spec PyProof.Rows
inductive V where
  | non | bl (b : Bool) | int (i : Int) | str (x : Str) | byt (b : Array UInt8) | flt (b : UInt64) | ref (a : Addr) | ty (n : String)
  deriving DecidableEq
def RelV : V → Value → Prop
  | .non, u => u = Value.none
  | .bl b, u => u = Value.bool b
  | .int i, u => ∃ t, u = Value.int i t
  | .str x, u => ∃ t, u = Value.str x t
  | .byt b, u => ∃ t, u = Value.bytes b t
  | .flt b, u => ∃ t, u = Value.float b t
  | .ref a, u => u = Value.ref a
  | .ty n, u => u = Value.type n
abbrev Vals : List V → List Value → Prop := Paired RelV
theorem Vals.length {xs : List V} {us : List Value} (r : Vals xs us) : xs.length = us.length := Paired.length r
theorem Vals.get : ∀ {xs : List V} {us : List Value} {i : Nat} {x : V}, Vals xs us → xs[i]? = some x → ∃ u, us[i]? = some u ∧ RelV x u
  | _, _, _, _, .nil, e => by simp at e
  | _, _, 0, _, .cons r _, e => by simp at e; subst e; exact ⟨_, rfl, r⟩
  | _, _, i + 1, x, .cons _ t, e => by
    obtain ⟨u, h1, h2⟩ := Vals.get (i := i) (x := x) t (by simpa using e)
    exact ⟨u, by simpa using h1, h2⟩
theorem Vals.set {x : V} {u : Value} (r : RelV x u) : ∀ {xs : List V} {us : List Value} (i : Nat), Vals xs us → Vals (xs.set i x) (us.set i u)
  | _, _, _, .nil => .nil
  | _, _, 0, .cons _ t => .cons r t
  | _, _, i + 1, .cons q t => .cons q (Vals.set r i t)
theorem Vals.append : ∀ {xs ys : List V} {us ws : List Value}, Vals xs us → Vals ys ws → Vals (xs ++ ys) (us ++ ws)
  | _, _, _, _, .nil, s => s
  | _, _, _, _, .cons r t, s => .cons r (Vals.append t s)
theorem Vals.take : ∀ {xs : List V} {us : List Value} (n : Nat), Vals xs us → Vals (xs.take n) (us.take n)
  | _, _, 0, _ => .nil
  | _, _, _ + 1, .nil => .nil
  | _, _, n + 1, .cons r t => .cons r (Vals.take n t)
theorem Vals.drop : ∀ {xs : List V} {us : List Value} (n : Nat), Vals xs us → Vals (xs.drop n) (us.drop n)
  | _, _, 0, r => r
  | _, _, _ + 1, .nil => .nil
  | _, _, n + 1, .cons _ t => Vals.drop n t
def RelO : Option V → Option Value → Prop
  | some v, some u => RelV v u
  | none, none => True
  | _, _ => False
def KV {κ : Type} : List (κ × V) → List (κ × Value) → Prop := Paired fun (p : κ × V) (q : κ × Value) => p.1 = q.1 ∧ RelV p.2 q.2
def kV : Key → V
  | .inl i => .int i
  | .inr x => .str x
inductive HO where
  | lst (xs : List V)
  | tup (xs : List V)
  | dK (kvs : List (Key × V)) | dT (kvs : List (List Key × V))
  | set (S : Int → Bool) (n : Nat)
  | ins (C dx : Addr) (fs : List (Str × V))
  | own (x : Addr)
  | xd (fs : List (Str × V))
  | met (f x : Addr)
  | rng (lo hi : Int)
  | frz (o : Obj) (u : HO)
  | tbl (ps : Array Value)
  | ext (φ : Heap → Prop)
abbrev Hp := Addr → Option HO
def upd (H : Hp) (a : Addr) (o : HO) : Hp := fun b => if b = a then some o else H b
theorem upd_same {H : Hp} {a : Addr} {o : HO} : upd H a o a = some o := by unfold upd; rw [if_pos rfl]
theorem upd_ne {H : Hp} {a b : Addr} {o : HO} (h : b ≠ a) : upd H a o b = H b := by unfold upd; rw [if_neg h]
theorem ne_of {H : Hp} {a b : Addr} {o u : HO} (h : H a = some o) (h' : H b = some u) (d : o ≠ u) : a ≠ b := by
  intro e; subst e; rw [h] at h'; exact d (Option.some.inj h')
theorem ne_of_none {H : Hp} {a b : Addr} {o : HO} (h : H a = some o) (h' : H b = none) : a ≠ b := by
  intro e; subst e; rw [h] at h'; cases h'
section
variable (P : Program) (w : World)
def ObjOk (H : Hp) (h : Heap) (a : Addr) : HO → Prop
  | .lst xs => xs.length ≤ sizeLine ∧ ∃ (its : List Value) (n : Nat), Vals xs its ∧ h.get? a = some { cls := .type "list", data := .seq its.toArray n }
  | .tup xs => xs.length ≤ sizeLine ∧ ∃ its : List Value, Vals xs its ∧ IsTup h a its.toArray
  | .dK kvs => kvs.length ≤ sizeLine ∧ (a == sysModules) = false ∧ ∃ vs, KV kvs vs ∧ h.DictOf (mixKind P w) a vs
  | .dT kvs => kvs.length ≤ sizeLine ∧ (a == sysModules) = false ∧ ∃ xs : List (List Key × Addr × Value),
      Paired (fun (p : List Key × V) (q : List Key × Addr × Value) => p.1 = q.1 ∧ H q.2.1 = some (.tup (p.1.map kV)) ∧ RelV p.2 q.2.2) kvs xs ∧
      ∃ o es ep, h.get? a = some o ∧ o.ExactDict ∧ o.data = .dict es ep ∧ es.toList = xs.map (entryOfKey (tupleKind (mixKind P w))) ∧ (xs.map (·.1)).Nodup
  | .set S n => h.SetOf (intKind P w) a S n
  | .ins C dx fs => H dx = some (.own a) ∧ fs.length ≤ 1000 ∧ dx ≠ a ∧ h.get? a = some (PySem.W.instObj C dx) ∧
      ∃ mA, h.Ns1 dx mA ∧ (∀ f, RelO (fs.lookup f) (mA f)) ∧ PySem.Within mA (fs.map (·.1))
  | .own _ => ∃ o, h.get? a = some o
  | .xd fs => ∃ mA, h.Ns1 a mA ∧ ∀ f, RelO (fs.lookup f) (mA f)
  | .rng lo hi => ∃ t u v, h.get? a = some { cls := .type "range", data := .fields #[.int lo t, .int hi u, .int 1 v] }
  | .frz o u => h.get? a = some o ∧ ObjOk H h a u
  | .tbl ps => h.get? a = some { cls := .none, data := .fields ps }
  | .met f x => h.get? a = some (PySem.W.methodObj (.ref f) (.ref x))
  | .ext φ => φ h ∧ (∃ o, h.get? a = some o) ∧ ∀ h1 h2 : Heap, φ h1 → (∀ o, h1.get? a = some o → h2.get? a = some o) → φ h2
def HOk (H : Hp) (h : Heap) : Prop := ∀ a o, H a = some o → ObjOk P w H h a o
end
section
variable {P : Program} {w : World} {H H' : Hp} {h h' : Heap} {a : Addr} {o : HO}
theorem ObjOk.lt (x : ObjOk P w H h a o) : a < h.objs.size := by
  cases o with
  | lst xs => obtain ⟨_, _, _, _, e⟩ := x; exact Heap.lt_size e
  | tup xs => obtain ⟨_, _, _, p⟩ := x; exact p.lt
  | dK kvs => obtain ⟨_, _, _, _, o, _, _, e, _⟩ := x; exact Heap.lt_size e
  | dT kvs => obtain ⟨_, _, _, _, o, _, _, e, _⟩ := x; exact Heap.lt_size e
  | set S n => obtain ⟨o, _, _, _, e, _⟩ := x; exact Heap.lt_size e
  | ins C dx fs => obtain ⟨_, _, _, e, _⟩ := x; exact Heap.lt_size e
  | own y => obtain ⟨_, e⟩ := x; exact Heap.lt_size e
  | xd fs => obtain ⟨_, ⟨_, _, _, e, _⟩, _⟩ := x; exact Heap.lt_size e
  | rng lo hi => obtain ⟨_, _, _, e⟩ := x; exact Heap.lt_size e
  | frz ob u => obtain ⟨e, _⟩ := x; exact Heap.lt_size e
  | tbl ps => exact Heap.lt_size (show h.get? a = some _ from x)
  | met f y => exact Heap.lt_size (show h.get? a = some _ from x)
  | ext φ => obtain ⟨_, ⟨_, e⟩, _⟩ := x; exact Heap.lt_size e
theorem Paired.mapP {α β : Type} {F G : α → β → Prop} : ∀ {l₁ : List α} {l₂ : List β}, Paired F l₁ l₂ → (∀ a b, F a b → G a b) → Paired G l₁ l₂
  | _, _, .nil, _ => .nil
  | _, _, .cons r t, f => .cons (f _ _ r) (Paired.mapP t f)
theorem ObjOk.stay (x : ObjOk P w H h a o) (k : ∀ b u, (b = a ∨ H b = some (.own a)) → h.get? b = some u → h'.get? b = some u)
    (ho : ∀ b, H b = some (.own a) → H' b = some (.own a)) (ht : ∀ b xs, H b = some (.tup xs) → H' b = some (.tup xs)) : ObjOk P w H' h' a o := by
  induction o with
  | lst xs => obtain ⟨z, its, n, r, e⟩ := x; exact ⟨z, its, n, r, k _ _ (.inl rfl) e⟩
  | tup xs => obtain ⟨z, its, r, ob, e, c⟩ := x; exact ⟨z, its, r, ob, k _ _ (.inl rfl) e, c⟩
  | dK kvs => obtain ⟨z, y, vs, r, ob, es, ep, e, c⟩ := x; exact ⟨z, y, vs, r, ob, es, ep, k _ _ (.inl rfl) e, c⟩
  | dT kvs =>
    obtain ⟨z, y, xs, r, ob, es, ep, e, c⟩ := x
    exact ⟨z, y, xs, Paired.mapP r fun p q z => ⟨z.1, ht _ _ z.2.1, z.2.2⟩, ob, es, ep, k _ _ (.inl rfl) e, c⟩
  | set S n => obtain ⟨ob, es, ep, t, e, c⟩ := x; exact ⟨ob, es, ep, t, k _ _ (.inl rfl) e, c⟩
  | ins C dx fs =>
    obtain ⟨d, z, ne, e, mA, ⟨od, es, ep, e2, c⟩, r⟩ := x
    exact ⟨ho _ d, z, ne, k _ _ (.inl rfl) e, mA, ⟨od, es, ep, k _ _ (.inr d) e2, c⟩, r⟩
  | own y => obtain ⟨ob, e⟩ := x; exact ⟨ob, k _ _ (.inl rfl) e⟩
  | xd fs => obtain ⟨mA, ⟨od, es, ep, e, c⟩, r⟩ := x; exact ⟨mA, ⟨od, es, ep, k _ _ (.inl rfl) e, c⟩, r⟩
  | rng lo hi => obtain ⟨t, u, v, e⟩ := x; exact ⟨t, u, v, k _ _ (.inl rfl) e⟩
  | frz ob u ih => obtain ⟨e, q⟩ := x; exact ⟨k _ _ (.inl rfl) e, ih q⟩
  | tbl ps =>
    have e : h.get? a = some { cls := .none, data := .fields ps } := x
    show h'.get? a = some { cls := .none, data := .fields ps }
    exact k a _ (.inl rfl) e
  | met f y =>
    have e : h.get? a = some (PySem.W.methodObj (.ref f) (.ref y)) := x
    show h'.get? a = some (PySem.W.methodObj (.ref f) (.ref y))
    exact k a _ (.inl rfl) e
  | ext φ => obtain ⟨p, ⟨o, e⟩, st⟩ := x; exact ⟨st _ _ p fun o q => k _ _ (.inl rfl) q, ⟨o, k _ _ (.inl rfl) e⟩, st⟩
theorem HOk.lt (x : HOk P w H h) (e : H a = some o) : a < h.objs.size := (x a o e).lt
theorem HOk.fresh (x : HOk P w H h) (e : h.objs.size ≤ a) : H a = none := by
  cases q : H a with
  | none => rfl
  | some u => exact absurd (Nat.lt_of_lt_of_le (x.lt q) e) (Nat.lt_irrefl _)
theorem HOk.kept (x : HOk P w H h) (k : ∀ b u, h.get? b = some u → h'.get? b = some u) : HOk P w H h' := fun a o e =>
  (x a o e).stay (fun b u _ q => k b u q) (fun _ q => q) fun _ _ q => q
theorem HOk.laid (x : HOk P w H h) (k : ∀ b u, h.get? b = some u → h'.get? b = some u) (hp : h.objs.size ≤ a) (new : ObjOk P w (upd H a o) h' a o) : HOk P w (upd H a o) h' := fun b u e => by
  have hn := x.fresh hp
  by_cases hb : b = a
  · subst hb; rw [upd_same] at e; cases e; exact new
  · rw [upd_ne hb] at e
    exact (x b u e).stay (fun c v _ q => k c v q) (fun c q => by rw [upd_ne (ne_of_none q hn)]; exact q) fun c xs q => by rw [upd_ne (ne_of_none q hn)]; exact q
end
def Rd (H : Hp) (a : Addr) (u : HO) : Prop := H a = some u ∨ ∃ o, H a = some (.frz o u)
theorem Rd.of {H : Hp} {a : Addr} {u : HO} (h : H a = some u) : Rd H a u := .inl h
theorem Rd.ok {P : Program} {w : World} {H : Hp} {h : Heap} {a : Addr} {u : HO} (r : Rd H a u) (x : HOk P w H h) : ObjOk P w H h a u := by
  rcases r with r | ⟨o, r⟩
  · exact x a u r
  · obtain ⟨_, q⟩ := x a _ r
    exact q
def Mut : Option HO → Prop
  | some (.lst _) => True
  | some (.dK _) => True
  | some (.dT _) => True
  | some (.set _ _) => True
  | some (.ins _ _ _) => True
  | some (.ext _) => True
  | _ => False
section
variable {P : Program} {w : World} {H : Hp} {h h' : Heap} {x e : Addr} {o' : HO}
theorem HOk.write (ok : HOk P w H h) (mu : Mut (H x)) (he : e = x ∨ H e = some (.own x)) (k : ∀ b u, b ≠ e → h.get? b = some u → h'.get? b = some u) (heo : ∃ u, h'.get? e = some u)
    (new : ObjOk P w (upd H x o') h' x o') : HOk P w (upd H x o') h' := fun b u q => by
  have nown : ∀ c y, H c = some (.own y) → c ≠ x := fun c y r z => by subst z; rw [r] at mu; exact mu
  have ntup : ∀ c xs, H c = some (.tup xs) → c ≠ x := fun c xs r z => by subst z; rw [r] at mu; exact mu
  by_cases hb : b = x
  · subst hb; rw [upd_same] at q; cases q; exact new
  · rw [upd_ne hb] at q
    by_cases hbe : b = e
    · have q' : H b = some (.own x) := by
        rcases he with z | z
        · exact absurd (hbe.trans z) hb
        · rw [hbe]; exact z
      rw [q] at q'; cases q'
      obtain ⟨v, hv⟩ := heo
      exact ⟨v, by rw [hbe]; exact hv⟩
    · refine (ok b u q).stay (fun c v hc r => k c v ?_ r) (fun c r => by rw [upd_ne (nown c b r)]; exact r) fun c xs r => by rw [upd_ne (ntup c xs r)]; exact r
      rcases hc with rfl | hc
      · exact hbe
      · rintro rfl
        rcases he with z | z
        · exact nown c b hc z
        · rw [hc] at z; cases z; exact hb rfl
end
structure Un (fs ex : List Addr) (H H' : Hp) (h h' : Heap) : Prop where
  keep : ∀ b o, h.get? b = some o → H b = none → b ∉ fs → b ∉ ex → h'.get? b = some o
  slot : ∀ b o, h.get? b = some o → H b = none → b ∈ fs → b ∉ ex → ∃ sl, h'.get? b = some { o with slots := sl }
  free : ∀ b o, h.get? b = some o → H b = none → b ∉ ex → H' b = none
  there : ∀ b o, h.get? b = some o → b ∉ ex → ∃ o', h'.get? b = some o'
  tups : ∀ b xs, H b = some (.tup xs) → H' b = some (.tup xs)
  frzs : ∀ b o u, H b = some (.frz o u) → H' b = some (.frz o u)
  tbls : ∀ b ps, H b = some (.tbl ps) → ∃ more, H' b = some (.tbl (ps ++ more))
section
variable {fs fs' ex ex' : List Addr} {H H1 H2 : Hp} {h h1 h2 h' : Heap} {a x e : Addr} {o : HO}
theorem Un.any (u : Un fs ex H H1 h h1) {b : Addr} {ob : Obj} (q : h.get? b = some ob) (n : H b = none) (hx : b ∉ ex) : ∃ sl, h1.get? b = some { ob with slots := sl } := by
  by_cases hb : b ∈ fs
  · exact u.slot b ob q n hb hx
  · exact ⟨ob.slots, u.keep b ob q n hb hx⟩
theorem Un.trans (a : Un fs ex H H1 h h1) (b : Un fs ex H1 H2 h1 h2) : Un fs ex H H2 h h2 where
  keep := fun c ob q n hc hx => b.keep c ob (a.keep c ob q n hc hx) (a.free c ob q n hx) hc hx
  slot := fun c ob q n hc hx => by
    obtain ⟨sl, e1⟩ := a.slot c ob q n hc hx
    obtain ⟨sl', e2⟩ := b.slot c _ e1 (a.free c ob q n hx) hc hx
    exact ⟨sl', e2⟩
  free := fun c ob q n hx => by
    obtain ⟨o', e1⟩ := a.there c ob q hx
    exact b.free c o' e1 (a.free c ob q n hx) hx
  there := fun c ob q hx => by
    obtain ⟨o', e1⟩ := a.there c ob q hx
    exact b.there c o' e1 hx
  tups := fun c xs q => b.tups c xs (a.tups c xs q)
  frzs := fun c ob xs q => b.frzs c ob xs (a.frzs c ob xs q)
  tbls := fun c ps q => by
    obtain ⟨m1, e1⟩ := a.tbls c ps q
    obtain ⟨m2, e2⟩ := b.tbls c _ e1
    exact ⟨m1 ++ m2, by rw [e2, Array.append_assoc]⟩
theorem Un.kept (k : ∀ b u, h.get? b = some u → h'.get? b = some u) : Un fs ex H H h h' :=
  ⟨fun b ob q _ _ _ => k b ob q, fun b ob q _ _ _ => ⟨ob.slots, k b ob q⟩, fun _ _ _ n _ => n, fun b ob q _ => ⟨ob, k b ob q⟩, fun _ _ q => q, fun _ _ _ q => q, fun _ ps q => ⟨#[], by rw [q]; simp⟩⟩
theorem Un.refl : Un fs ex H H h h := Un.kept fun _ _ q => q
theorem Un.laid (k : ∀ b u, h.get? b = some u → h'.get? b = some u) (hp : h.objs.size ≤ a) (hn : H a = none) : Un fs ex H (upd H a o) h h' where
  keep := fun b u q _ _ _ => k b u q
  slot := fun b u q _ _ _ => ⟨u.slots, k b u q⟩
  free := fun b u q n _ => by rw [upd_ne (Nat.ne_of_lt (Nat.lt_of_lt_of_le (Heap.lt_size q) hp))]; exact n
  there := fun b u q _ => ⟨u, k b u q⟩
  tups := fun b xs q => by rw [upd_ne (ne_of_none q hn)]; exact q
  frzs := fun b u xs q => by rw [upd_ne (ne_of_none q hn)]; exact q
  tbls := fun b ps q => ⟨#[], by rw [upd_ne (ne_of_none q hn), q]; simp⟩
theorem Un.write (mu : Mut (H x)) (he : e = x ∨ H e = some (.own x)) (k : ∀ b u, b ≠ e → h.get? b = some u → h'.get? b = some u) (heo : ∃ u, h'.get? e = some u) : Un fs ex H (upd H x o) h h' := by
  have hx : ∀ b, H b = none → b ≠ x := fun b n z => by subst z; rw [n] at mu; exact mu
  have hb : ∀ b, H b = none → b ≠ e := fun b n z => by
    subst z
    rcases he with r | r
    · exact hx b n r
    · rw [n] at r; cases r
  have hm : ∀ b u, H b = some u → ¬ Mut (some u) → b ≠ x := fun b u q nm z => by subst z; rw [q] at mu; exact nm mu
  refine ⟨fun b u q n _ _ => k b u (hb b n) q, fun b u q n _ _ => ⟨u.slots, k b u (hb b n) q⟩, fun b u q n _ => by rw [upd_ne (hx b n)]; exact n, fun b u q _ => ?_,
    fun b xs q => by rw [upd_ne (hm b _ q fun z => z)]; exact q, fun b u xs q => by rw [upd_ne (hm b _ q fun z => z)]; exact q, fun b ps q => ⟨#[], by rw [upd_ne (hm b _ q fun z => z), q]; simp⟩⟩
  by_cases hbe : b = e
  · subst hbe; exact heo
  · exact ⟨u, k b u hbe q⟩
theorem Un.mono (u : Un fs ex H H1 h h1) (hs : ∀ b ∈ fs, b ∈ fs') (hx : ∀ b ∈ ex, b ∈ ex') : Un fs' ex' H H1 h h1 :=
  ⟨fun b ob q n hb he => u.keep b ob q n (fun z => hb (hs b z)) fun z => he (hx b z), fun _ _ q n _ he => u.any q n fun z => he (hx _ z), fun b ob q n he => u.free b ob q n fun z => he (hx b z), fun b ob q he => u.there b ob q fun z => he (hx b z), u.tups, u.frzs, u.tbls⟩
end
def trk (h : Heap) (H : Hp) : List Addr := (List.range h.objs.size).filter fun a => (H a).isSome
def hidT (h : Heap) (H : Hp) : Heap := PySem.W.hideAll h (trk h H)
theorem hidT_size (h : Heap) (H : Hp) : (hidT h H).objs.size = h.objs.size := PySem.W.hideAll_size _ _
theorem hidT_get {h : Heap} {H : Hp} {b : Addr} {o : Obj} (e : h.get? b = some o) (n : H b = none) : (hidT h H).get? b = some o :=
  PySem.W.hideAll_get _ e fun hm => by
    have q : (H b).isSome = true := (List.mem_filter.mp hm).2
    rw [n] at q; simp at q
theorem of_hidT {h : Heap} {H : Hp} {b : Addr} {o : Obj} (e : (hidT h H).get? b = some o) : h.get? b = some o ∧ H b = none := by
  have e' : h.get? b = some o := PySem.W.of_hideAll (trk h H) e
  refine ⟨e', ?_⟩
  cases q : H b with
  | none => rfl
  | some x =>
    have hm : b ∈ trk h H := List.mem_filter.mpr ⟨List.mem_range.mpr (Heap.lt_size e'), by simp [q]⟩
    have z : (hidT h H).get? b = none := PySem.W.hideAll_none (trk h H) hm
    rw [z] at e; cases e
def allNews (g h : Heap) (L : Addr) : List (Addr × Obj) := (List.range h.objs.size).filterMap fun a => if a = L ∨ (g.get? a).isSome = true then none else (h.get? a).map fun o => (a, o)
def rest (g h : Heap) (L d : Addr) : List (Addr × Obj) := (allNews g h L).filter fun p => decide (p.1 ≠ d)
end L2
namespace L2
open PySem PySem.Spec PyProof.Rows
structure Mod (K : PySem.W.Frag) (mg : Str → Option Value) (base : Heap) : Prop where
  kin : K.In base
  glob : base.Ns mainGlobals mg
  blt : ∃ mb, base.Ns builtinsNs mb ∧ ∀ x : Str, x ≠ "__name__" → mb x = bootBuiltins x
  nolimit : base.NoLimit
structure Cx where
  prog : Program
  w : World
  K : PySem.W.Frag
  mg : Str → Option Value
  base : Heap
  A : Around
  N : List Str
  s₀ : Shared
  H₀ : Hp
  env : Env
  outer : List Env
  stack : List Env
  ex : List Addr
  fn : Str → Bool
  calm : Bool
  pn : List (Addr × Obj)
  xe : Value → Shared → Prop
def frs (l : List Env) : List Addr := l.filterMap (·.frame)
abbrev Cx.fs (X : Cx) : List Addr := frs X.outer
def Vis (sc : Scope) (x : Str) : Prop := sc.names.lookup x = some .local ∨ sc.names.lookup x = some .cell ∨ sc.names.lookup x = some .free
def Loc (sc : Scope) (x : Str) : Prop := sc.names.lookup x = some .local ∨ sc.names.lookup x = some .cell
def Look (env : Env) (h : Heap) (m : Str → Option Value) (x : Str) (u : Value) : Prop :=
  (env.kindOf x = some .local ∧ m x = some u) ∨ ((env.kindOf x = some .cell ∨ env.kindOf x = some .free) ∧ ∃ c, env.cells.lookup x = some c ∧ h.IsCell c (some u))
structure Cx.Ok (X : Cx) : Prop where
  mod : Mod X.K X.mg X.base
  kind : X.env.scope.kind = .function
  glob : X.env.globals = mainGlobals
  blt : X.env.builtins = builtinsNs
  above : X.s₀.heap.objs.size ≤ X.env.locals
  inj : ∀ x y c, X.env.cells.lookup x = some c → X.env.cells.lookup y = some c → x = y
  has : ∀ x, (X.env.kindOf x = some .cell ∨ X.env.kindOf x = some .free) → ∃ c, X.env.cells.lookup x = some c
  cab : ∀ x c, X.fn x = true → X.env.cells.lookup x = some c → X.s₀.heap.objs.size ≤ c
  hd : X.calm = true → X.A.handled = none
  frames : X.A.frames = some X.stack
  stk : X.stack = X.outer ∨ (X.stack = X.env :: X.outer ∧ X.env.frame = some X.env.locals)
  exf : ∀ b ∈ X.ex, b ≠ X.env.locals ∧ ∀ x c, X.env.cells.lookup x = some c → c ≠ b
  bs : ∀ b o, X.base.get? b = some o → X.s₀.heap.get? b = some o ∧ X.H₀ b = none
  bsz : X.base.objs.size ≤ X.s₀.heap.objs.size
  noex : ∀ b o, X.base.get? b = some o → b ∉ X.ex
  exfs : ∀ b ∈ X.ex, b ∉ X.fs
  funs : X.s₀.heap.FunFrames X.base X.outer
  frf : ∀ b ∈ X.fs, X.H₀ b = none
structure Inv (X : Cx) (pins : List (Addr × Obj)) (σ : List (Option V)) (H : Hp) (s : Shared) : Prop where
  ok : X.Ok
  os : s.os = X.s₀.os
  bare : AllBare s.gens
  base : Un X.fs X.ex X.H₀ H X.s₀.heap s.heap
  loc : ∃ m, s.heap.Ns X.env.locals m ∧ ∀ (i : Nat) (x : Str) (v : V), X.N[i]? = some x → σ[i]? = some (some v) → Vis X.env.scope x → ∃ u, RelV v u ∧ Look X.env s.heap m x u
  cell : ∀ x c, X.env.cells.lookup x = some c → ∃ v, s.heap.IsCell c v
  free : H X.env.locals = none
  freeC : ∀ x c, X.env.cells.lookup x = some c → H c = none
  pin : ∀ p ∈ X.pn ++ pins, s.heap.get? p.1 = some p.2 ∧ H p.1 = none ∧ p.1 ≠ X.env.locals ∧ p.1 ∉ X.fs ∧ ∀ v, p.2.data ≠ .cell v
  hok : HOk X.prog X.w H s.heap
  len : σ.length = X.N.length
section
variable {X : Cx} {pins : List (Addr × Obj)} {σ : List (Option V)} {H H' : Hp} {s : Shared} {h' : Heap}
theorem Cx.Ok.nofr (ok : X.Ok) {b : Addr} {o : Obj} (e : X.base.get? b = some o) : b ∉ X.fs := fun hb => by
  have := (ok.funs.mem hb).1
  rw [e] at this; cases this
theorem Inv.bs (I : Inv X pins σ H s) : ∀ b o, X.base.get? b = some o → s.heap.get? b = some o ∧ H b = none := fun b o e =>
  ⟨I.base.keep b o (I.ok.bs b o e).1 (I.ok.bs b o e).2 (I.ok.nofr e) (I.ok.noex b o e), I.base.free b o (I.ok.bs b o e).1 (I.ok.bs b o e).2 (I.ok.noex b o e)⟩
theorem Inv.bk (I : Inv X pins σ H s) : ∀ b o, X.base.get? b = some o → s.heap.get? b = some o := fun b o e => (I.bs b o e).1
theorem Inv.mod (I : Inv X pins σ H s) : Mod X.K X.mg X.base := I.ok.mod
theorem Inv.kIn (I : Inv X pins σ H s) : X.K.In s.heap := I.ok.mod.kin.keeps I.bk
theorem Inv.nolimit (I : Inv X pins σ H s) : s.heap.NoLimit := I.ok.mod.nolimit.keeps I.bk
theorem Inv.fr (I : Inv X pins σ H s) : ∃ m, Fr X.base X.env.locals s.heap m :=
  let ⟨m, hn, _⟩ := I.loc
  ⟨m, hn, I.bk, Nat.le_trans I.ok.bsz I.ok.above⟩
theorem Inv.lt (I : Inv X pins σ H s) : X.env.locals < s.heap.objs.size := let ⟨_, hn, _⟩ := I.loc; hn.lt
theorem Inv.sz (I : Inv X pins σ H s) : X.s₀.heap.objs.size ≤ s.heap.objs.size := Nat.le_trans I.ok.above (Nat.le_of_lt I.lt)
theorem Inv.nofs (I : Inv X pins σ H s) {a : Addr} (h : s.heap.objs.size ≤ a) : a ∉ X.fs := fun hb => by
  obtain ⟨_, o, ho, _⟩ := I.ok.funs.mem hb
  exact absurd (Nat.lt_of_lt_of_le (Heap.lt_size ho) (Nat.le_trans I.sz h)) (Nat.lt_irrefl _)
theorem Inv.cne (I : Inv X pins σ H s) : ∀ x c, X.env.cells.lookup x = some c → c ≠ X.env.locals := fun x c e z => by
  obtain ⟨v, o, ho, hd⟩ := I.cell x c e
  obtain ⟨m, ⟨o', es, ep, ho', hd', _⟩, _⟩ := I.loc
  rw [z, ho'] at ho; cases ho; rw [hd'] at hd; cases hd
theorem Inv.funs (I : Inv X pins σ H s) : s.heap.FunFrames X.base X.outer := by
  have all : ∀ (l : List Env), (∀ b ∈ frs l, b ∈ X.fs) → X.s₀.heap.FunFrames X.base l → s.heap.FunFrames X.base l := by
    intro l
    induction l with
    | nil => intro _ _; trivial
    | cons env r ih =>
      intro hs hl
      obtain ⟨hk, ⟨L, o, hf, hn, ho, hd⟩, hr⟩ := hl
      have hL : L ∈ X.fs := hs L (by unfold frs; rw [List.filterMap_cons, hf]; exact List.mem_cons_self)
      obtain ⟨sl, e⟩ := I.base.slot L o ho (I.ok.frf L hL) hL fun z => I.ok.exfs L z hL
      exact ⟨hk, ⟨L, _, hf, hn, e, hd⟩, ih (fun b hb => hs b (by unfold frs; rw [List.filterMap_cons, hf]; exact List.mem_cons_of_mem _ hb)) hr⟩
  exact all X.outer (fun _ hb => hb) I.ok.funs
theorem Inv.stack (I : Inv X pins σ H s) : s.heap.FunFrames X.base X.stack := by
  rcases I.ok.stk with e | ⟨e, hf⟩
  · rw [e]; exact I.funs
  · rw [e]
    obtain ⟨m, hn, _⟩ := I.loc
    refine .cons (by rw [I.ok.kind]; decide) hf hn ?_ I.funs
    exact Heap.get?_none_of_le (Nat.le_trans I.ok.bsz I.ok.above)
theorem Inv.stkSub (I : Inv X pins σ H s) : ∀ b ∈ frs X.stack, b ∈ X.env.locals :: X.fs := fun b hb => by
  rcases I.ok.stk with e | ⟨e, hf⟩
  · rw [e] at hb; exact List.mem_cons_of_mem _ hb
  · rw [e] at hb
    unfold frs at hb
    rw [List.filterMap_cons, hf] at hb
    exact hb
theorem Inv.stkFree (I : Inv X pins σ H s) : ∀ b ∈ frs X.stack, H b = none := fun b hb => by
  rcases List.mem_cons.mp (I.stkSub b hb) with e | hb
  · rw [e]; exact I.free
  · obtain ⟨_, o, ho, _⟩ := I.ok.funs.mem hb
    exact I.base.free b o ho (I.ok.frf b hb) fun z => I.ok.exfs b z hb
theorem Inv.step {g' : Array GenState} {t' : Nat} {d' : Drawn} {ch : List Addr} (I : Inv X pins σ H s)
    (hch : ∀ b ∈ ch, (b ∈ X.ex ∨ X.s₀.heap.objs.size ≤ b) ∧ b ≠ X.env.locals ∧ (∀ x c, X.env.cells.lookup x = some c → c ≠ b) ∧ ∀ p ∈ X.pn ++ pins, p.1 ≠ b)
    (keep : ∀ b o, b ≠ X.env.locals → b ∉ X.fs → b ∉ ch → s.heap.get? b = some o → H b = none → h'.get? b = some o)
    (slot : ∀ b o, b ≠ X.env.locals → b ∈ X.fs → b ∉ ch → s.heap.get? b = some o → H b = none → ∃ sl, h'.get? b = some { o with slots := sl }) (free : ∀ b o, b ∉ ch → s.heap.get? b = some o → H b = none → H' b = none)
    (there : ∀ b o, b ∉ ch → s.heap.get? b = some o → ∃ o', h'.get? b = some o')
    (tups : ∀ b xs, H b = some (.tup xs) → H' b = some (.tup xs)) (frzs : ∀ b o u, H b = some (.frz o u) → H' b = some (.frz o u)) (tbls : ∀ b ps, H b = some (.tbl ps) → ∃ more, H' b = some (.tbl (ps ++ more)))
    (ns : ∀ m, s.heap.Ns X.env.locals m → h'.Ns X.env.locals m) (hok : HOk X.prog X.w H' h') (hg : AllBare g') :
    Inv X pins σ H' { s with heap := h', gens := g', drawn := d', toks := t' } := by
  have neL : ∀ b o, X.s₀.heap.get? b = some o → b ≠ X.env.locals := fun b o e => Nat.ne_of_lt (Nat.lt_of_lt_of_le (Heap.lt_size e) I.ok.above)
  have neC : ∀ b o, X.s₀.heap.get? b = some o → b ∉ X.ex → b ∉ ch := fun b o e hx hb => by
    rcases (hch b hb).1 with z | z
    · exact hx z
    · exact absurd (Nat.lt_of_lt_of_le (Heap.lt_size e) z) (Nat.lt_irrefl _)
  have cellK : ∀ x c, X.env.cells.lookup x = some c → ∀ v, s.heap.IsCell c v → h'.IsCell c v := fun x c e v ⟨o, ho, hd⟩ => by
    have nch : c ∉ ch := fun z => (hch c z).2.2.1 x c e rfl
    by_cases hc : c ∈ X.fs
    · obtain ⟨sl, q⟩ := slot c o (I.cne x c e) hc nch ho (I.freeC x c e)
      exact ⟨_, q, hd⟩
    · exact ⟨o, keep c o (I.cne x c e) hc nch ho (I.freeC x c e), hd⟩
  refine ⟨I.ok, I.os, hg, ⟨fun b o e n hb hx => ?_, fun b o e n hb hx => ?_, fun b o e n hx => ?_, fun b o e hx => ?_, fun b xs e => tups b xs (I.base.tups b xs e), fun b o xs e => frzs b o xs (I.base.frzs b o xs e), fun b ps e => ?_⟩, ?_, fun x c e => ?_, ?_, fun x c e => ?_, fun p hp => ?_, hok, I.len⟩
  · exact keep b o (neL b o e) hb (neC b o e hx) (I.base.keep b o e n hb hx) (I.base.free b o e n hx)
  · obtain ⟨sl, e1⟩ := I.base.slot b o e n hb hx
    obtain ⟨sl', e2⟩ := slot b _ (neL b o e) hb (neC b o e hx) e1 (I.base.free b o e n hx)
    exact ⟨sl', e2⟩
  · obtain ⟨o', e1⟩ := I.base.there b o e hx
    exact free b o' (neC b o e hx) e1 (I.base.free b o e n hx)
  · obtain ⟨o', e1⟩ := I.base.there b o e hx
    exact there b o' (neC b o e hx) e1
  · obtain ⟨m1, e1⟩ := I.base.tbls b ps e
    obtain ⟨m2, e2⟩ := tbls b _ e1
    exact ⟨m1 ++ m2, by rw [e2, Array.append_assoc]⟩
  · obtain ⟨m, hn, hl⟩ := I.loc
    refine ⟨m, ns m hn, fun i x v e1 e2 e3 => ?_⟩
    obtain ⟨u, r, l⟩ := hl i x v e1 e2 e3
    refine ⟨u, r, ?_⟩
    rcases l with l | ⟨k, c, e, z⟩
    · exact .inl l
    · exact .inr ⟨k, c, e, cellK x c e _ z⟩
  · obtain ⟨v, z⟩ := I.cell x c e
    exact ⟨v, cellK x c e v z⟩
  · obtain ⟨m, ⟨o, _, _, ho, _⟩, _⟩ := I.loc
    exact free _ o (fun z => (hch _ z).2.1 rfl) ho I.free
  · obtain ⟨v, o, ho, hd⟩ := I.cell x c e
    exact free c o (fun z => (hch c z).2.2.1 x c e rfl) ho (I.freeC x c e)
  · obtain ⟨e, n, ne, nf, d⟩ := I.pin p hp
    have nch : p.1 ∉ ch := fun z => (hch p.1 z).2.2.2 p hp rfl
    exact ⟨keep p.1 p.2 ne nf nch e n, free p.1 p.2 nch e n, ne, nf, d⟩
theorem Inv.un {t' : Nat} (I : Inv X pins σ H s) (u : Un X.fs [] H H' s.heap h') (hok : HOk X.prog X.w H' h') : Inv X pins σ H' { s with heap := h', toks := t' } := by
  obtain ⟨m, ⟨o, es, ep, ho, r⟩, _⟩ := id I.loc
  obtain ⟨sl, hL⟩ := u.any ho I.free (by simp)
  exact I.step (g' := s.gens) (d' := s.drawn) (ch := []) (fun _ z => nomatch z) (fun b o _ hb _ e n => u.keep b o e n hb (by simp)) (fun b o _ hb _ e n => u.slot b o e n hb (by simp)) (fun b o _ e n => u.free b o e n (by simp)) (fun b o _ e => u.there b o e (by simp)) u.tups u.frzs u.tbls (fun m' hm => by
    obtain ⟨o', es', ep', ho', r'⟩ := hm
    rw [ho] at ho'; cases ho'
    exact ⟨_, es', ep', hL, r'⟩) hok I.bare
theorem Inv.call {g' : Array GenState} {t' : Nat} {d' : Drawn} {ch : List Addr} (I : Inv X pins σ H s) (u : Un (frs X.stack) ch H H' s.heap h') (hok : HOk X.prog X.w H' h') (hg : AllBare g')
    (hch : ∀ b ∈ ch, (b ∈ X.ex ∨ X.s₀.heap.objs.size ≤ b) ∧ b ≠ X.env.locals ∧ (∀ x c, X.env.cells.lookup x = some c → c ≠ b) ∧ ∀ p ∈ X.pn ++ pins, p.1 ≠ b) :
    Inv X pins σ H' { s with heap := h', gens := g', drawn := d', toks := t' } := by
  obtain ⟨m, ⟨o, es, ep, ho, r⟩, _⟩ := id I.loc
  obtain ⟨sl, hL⟩ := u.any ho I.free fun z => (hch _ z).2.1 rfl
  exact I.step (ch := ch) hch (fun b o hL hb hc e n => u.keep b o e n (fun z => (List.mem_cons.mp (I.stkSub b z)).elim hL hb) hc) (fun b o _ _ hc e n => u.any e n hc) (fun b o hc e n => u.free b o e n hc) (fun b o hc e => u.there b o e hc) u.tups u.frzs u.tbls (fun m' hm => by
    obtain ⟨o', es', ep', ho', r'⟩ := hm
    rw [ho] at ho'; cases ho'
    exact ⟨_, es', ep', hL, r'⟩) hok hg
theorem Inv.turned {t' : Nat} {it : Addr} (I : Inv X pins σ H s) (k : ∀ b o, b ≠ it → s.heap.get? b = some o → h'.get? b = some o) (hn : H it = none) (hL : it ≠ X.env.locals)
    (h1 : it ∈ X.ex ∨ X.s₀.heap.objs.size ≤ it) (h2 : ∀ x c, X.env.cells.lookup x = some c → c ≠ it) (h3 : ∀ p ∈ X.pn ++ pins, p.1 ≠ it) : Inv X pins σ H { s with heap := h', toks := t' } := by
  have nit : ∀ b u, H b = some u → b ≠ it := fun b u e z => by rw [z, hn] at e; cases e
  refine I.step (g' := s.gens) (d' := s.drawn) (ch := [it]) (fun b hb => ?_) (fun b o _ _ hc e _ => k b o (fun z => hc (by simp [z])) e) (fun b o _ _ hc e _ => ⟨o.slots, k b o (fun z => hc (by simp [z])) e⟩) (fun _ _ _ _ n => n)
    (fun b o hc e => ⟨o, k b o (fun z => hc (by simp [z])) e⟩) (fun _ _ e => e) (fun _ _ _ e => e) (fun b ps e => ⟨#[], by rw [e]; simp⟩) (fun m hm => ?_) (fun b u e => ?_) I.bare
  · have e : b = it := by simpa using hb
    subst e
    exact ⟨h1, hL, h2, h3⟩
  · obtain ⟨o, es, ep, ho, r⟩ := hm
    exact ⟨o, es, ep, k _ o (Ne.symm hL) ho, r⟩
  · refine (I.hok b u e).stay (fun c v hc q => k c v ?_ q) (fun _ q => q) fun _ _ q => q
    rcases hc with z | z
    · rw [z]; exact nit b u e
    · exact nit c _ z
theorem Inv.tok (I : Inv X pins σ H s) (t : Nat) : Inv X pins σ H { s with toks := t } := I.un (h' := s.heap) (t' := t) Un.refl I.hok
theorem Inv.kept {t' : Nat} (I : Inv X pins σ H s) (k : ∀ b u, s.heap.get? b = some u → h'.get? b = some u) : Inv X pins σ H { s with heap := h', toks := t' } := I.un (Un.kept k) (I.hok.kept k)
theorem Inv.laid {a : Addr} {o : HO} {t' : Nat} (I : Inv X pins σ H s) (k : ∀ b u, s.heap.get? b = some u → h'.get? b = some u) (hp : s.heap.objs.size ≤ a) (new : ObjOk X.prog X.w (upd H a o) h' a o) :
    Inv X pins σ (upd H a o) { s with heap := h', toks := t' } := I.un (Un.laid k hp (I.hok.fresh hp)) (I.hok.laid k hp new)
theorem Inv.write {x e : Addr} {o : HO} {t' : Nat} (I : Inv X pins σ H s) (mu : Mut (H x)) (he : e = x ∨ H e = some (.own x)) (k : ∀ b u, b ≠ e → s.heap.get? b = some u → h'.get? b = some u) (heo : ∃ u, h'.get? e = some u)
    (new : ObjOk X.prog X.w (upd H x o) h' x o) : Inv X pins σ (upd H x o) { s with heap := h', toks := t' } := I.un (Un.write mu he k heo) (I.hok.write mu he k heo new)
theorem Inv.weak {σ' : List (Option V)} (I : Inv X pins σ H s) (hl : σ'.length = σ.length) (w : ∀ (i : Nat) v, σ'[i]? = some (some v) → σ[i]? = some (some v)) : Inv X pins σ' H s :=
  ⟨I.ok, I.os, I.bare, I.base, let ⟨m, hn, hl'⟩ := I.loc; ⟨m, hn, fun i x v e1 e2 e3 => hl' i x v e1 (w i v e2) e3⟩, I.cell, I.free, I.freeC, I.pin, I.hok, hl.trans I.len⟩
theorem Inv.pins_of {pins' : List (Addr × Obj)} (I : Inv X pins σ H s) (h : ∀ p ∈ pins', s.heap.get? p.1 = some p.2 ∧ H p.1 = none ∧ p.1 ≠ X.env.locals ∧ p.1 ∉ X.fs ∧ ∀ v, p.2.data ≠ .cell v) : Inv X pins' σ H s :=
  ⟨I.ok, I.os, I.bare, I.base, I.loc, I.cell, I.free, I.freeC, fun p hp => (List.mem_append.mp hp).elim (fun z => I.pin p (List.mem_append_left _ z)) (h p), I.hok, I.len⟩
theorem nodup_ix {N : List Str} (hN : N.Nodup) {i j : Nat} {x : Str} (a : N[i]? = some x) (b : N[j]? = some x) : i = j := by
  obtain ⟨h1, e1⟩ := List.getElem?_eq_some_iff.mp a
  obtain ⟨h2, e2⟩ := List.getElem?_eq_some_iff.mp b
  exact (List.getElem_inj hN).mp (e1.trans e2.symm)
theorem store_ok2 {M : Model} {A : Around} {E : Value → Shared → Prop} {i : Nat} {x : Str} {v : V} {u : Value} {Q : Unit → Shared → Prop} (I : Inv X pins σ H s) (hN : X.N.Nodup) (hi : X.N[i]? = some x) (hx : Loc X.env.scope x) (r : RelV v u)
    (h : ∀ s', Inv X pins (σ.set i (some v)) H s' → (∃ a, Heap.SameBut a s.heap s'.heap ∧ (a = X.env.locals ∨ X.env.cells.lookup x = some a)) → Q () s') (hf : X.fn x = true ∨ X.env.scope.names.lookup x = some .local := by first | exact .inl rfl | exact .inr rfl | assumption) : wpAny M A (storeName X.env x u) Q E s := by
  obtain ⟨m, hn, hl⟩ := id I.loc
  have hcls : (X.env.scope.kind == .class || (X.env.scope.kind == .module && X.env.locals != X.env.globals)) = false := by rw [I.ok.kind]; rfl
  have hiσ : i < σ.length := by rw [I.len]; exact (List.getElem?_eq_some_iff.mp hi).1
  have cne := I.cne
  have tracked : ∀ {a : Addr} {h' : Heap}, (∃ o, s.heap.get? a = some o ∧ H a = none) → Heap.SameBut a s.heap h' → HOk X.prog X.w H h' := fun {a h'} ha hs b ob e => by
    obtain ⟨_, _, hfree⟩ := ha
    refine (I.hok b ob e).stay (fun c w' hc q => (hs.2 c ?_).trans q) (fun _ q => q) fun _ _ q => q
    rintro rfl
    rcases hc with rfl | hc
    · rw [hfree] at e; cases e
    · rw [hfree] at hc; cases hc
  rcases hx with hk | hk
  · refine wpAny_storeName_local hk hn (fun h' hn' hs => ?_) hcls
    obtain ⟨oL, _, _, hoL, _⟩ := id hn
    refine h _ ⟨I.ok, I.os, I.bare, ⟨fun b o e n hb hx => ?_, fun b o e n hb hx => ?_, I.base.free, fun b o e hx => ?_, I.base.tups, I.base.frzs, I.base.tbls⟩, ⟨_, hn', fun j y v' e1 e2 e3 => ?_⟩, fun y c e => ?_, I.free, I.freeC, fun p hp => ?_, tracked ⟨oL, hoL, I.free⟩ hs, by simpa using I.len⟩ ⟨_, hs, .inl rfl⟩
    · exact (hs.2 b (Nat.ne_of_lt (Nat.lt_of_lt_of_le (Heap.lt_size e) I.ok.above))).trans (I.base.keep b o e n hb hx)
    · obtain ⟨sl, e1⟩ := I.base.slot b o e n hb hx
      exact ⟨sl, (hs.2 b (Nat.ne_of_lt (Nat.lt_of_lt_of_le (Heap.lt_size e) I.ok.above))).trans e1⟩
    · obtain ⟨o', e1⟩ := I.base.there b o e hx
      exact ⟨o', (hs.2 b (Nat.ne_of_lt (Nat.lt_of_lt_of_le (Heap.lt_size e) I.ok.above))).trans e1⟩
    · by_cases hj : j = i
      · subst hj
        rw [hi] at e1; cases e1
        rw [List.getElem?_set_self hiσ] at e2
        cases e2
        exact ⟨u, r, .inl ⟨hk, by simp⟩⟩
      · rw [List.getElem?_set_ne (Ne.symm hj)] at e2
        obtain ⟨u', r', q⟩ := hl j y v' e1 e2 e3
        refine ⟨u', r', ?_⟩
        rcases q with ⟨k, e⟩ | ⟨k, c, e, z⟩
        · refine .inl ⟨k, ?_⟩
          have : y ≠ x := fun e => hj (nodup_ix hN e1 (e ▸ hi))
          simp [this, e]
        · exact .inr ⟨k, c, e, z.sameBut hs (cne y c e)⟩
    · obtain ⟨w', z⟩ := I.cell y c e
      exact ⟨w', z.sameBut hs (cne y c e)⟩
    · obtain ⟨e, n, ne, nf, d⟩ := I.pin p hp
      exact ⟨(hs.2 p.1 ne).trans e, n, ne, nf, d⟩
  · have hfn : X.fn x = true := by
      rcases hf with z | z
      · exact z
      · rw [z] at hk; cases hk
    obtain ⟨c, hc⟩ := I.ok.has x (.inl hk)
    obtain ⟨w', z⟩ := I.cell x c hc
    refine wpAny_storeName_cell I.ok.kind hk hc z (fun h' hc' hs => ?_)
    obtain ⟨oc, hoc, hocd⟩ := id z
    refine h { s with heap := h' } ⟨I.ok, I.os, I.bare, ⟨fun b o e n hb hx => ?_, fun b o e n hb hx => ?_, I.base.free, fun b o e hx => ?_, I.base.tups, I.base.frzs, I.base.tbls⟩, ⟨m, hn.sameBut hs (Ne.symm (cne x c hc)), fun j y v' e1 e2 e3 => ?_⟩, fun y c' e => ?_, I.free, I.freeC, fun p hp => ?_, tracked ⟨oc, hoc, I.freeC x c hc⟩ hs, by simpa using I.len⟩ ⟨c, hs, .inr hc⟩
    · exact (hs.2 b (Nat.ne_of_lt (Nat.lt_of_lt_of_le (Heap.lt_size e) (I.ok.cab x c hfn hc)))).trans (I.base.keep b o e n hb hx)
    · obtain ⟨sl, e1⟩ := I.base.slot b o e n hb hx
      exact ⟨sl, (hs.2 b (Nat.ne_of_lt (Nat.lt_of_lt_of_le (Heap.lt_size e) (I.ok.cab x c hfn hc)))).trans e1⟩
    · obtain ⟨o', e1⟩ := I.base.there b o e hx
      exact ⟨o', (hs.2 b (Nat.ne_of_lt (Nat.lt_of_lt_of_le (Heap.lt_size e) (I.ok.cab x c hfn hc)))).trans e1⟩
    · by_cases hj : j = i
      · subst hj
        rw [hi] at e1; cases e1
        rw [List.getElem?_set_self hiσ] at e2
        cases e2
        exact ⟨u, r, .inr ⟨.inl hk, c, hc, hc'⟩⟩
      · rw [List.getElem?_set_ne (Ne.symm hj)] at e2
        obtain ⟨u', r', q⟩ := hl j y v' e1 e2 e3
        refine ⟨u', r', ?_⟩
        rcases q with q | ⟨k, c', e, z'⟩
        · exact .inl q
        · refine .inr ⟨k, c', e, z'.sameBut hs ?_⟩
          rintro rfl
          exact hj (nodup_ix hN e1 (I.ok.inj _ _ _ e hc ▸ hi))
    · by_cases hcc : c' = c
      · subst hcc; exact ⟨_, hc'⟩
      · obtain ⟨w2, z2⟩ := I.cell y c' e
        exact ⟨w2, z2.sameBut hs hcc⟩
    · obtain ⟨e, n, ne, nf, d⟩ := I.pin p hp
      refine ⟨(hs.2 p.1 ?_).trans e, n, ne, nf, d⟩
      intro q
      rw [q, hoc] at e
      have q' : oc = p.2 := Option.some.inj e
      exact d w' (by rw [← q']; exact hocd)
theorem store_ok {M : Model} {A : Around} {E : Value → Shared → Prop} {i : Nat} {x : Str} {v : V} {u : Value} {Q : Unit → Shared → Prop} (I : Inv X pins σ H s) (hN : X.N.Nodup) (hi : X.N[i]? = some x) (hx : Loc X.env.scope x) (r : RelV v u)
    (h : ∀ s', Inv X pins (σ.set i (some v)) H s' → Q () s') (hf : X.fn x = true ∨ X.env.scope.names.lookup x = some .local := by first | exact .inl rfl | exact .inr rfl | assumption) : wpAny M A (storeName X.env x u) Q E s :=
  store_ok2 I hN hi hx r (fun s' I' _ => h s' I') hf
theorem Inv.call' {s' : Shared} {ch : List Addr} (I : Inv X pins σ H s) (ho : s'.os = s.os) (u : Un (frs X.stack) ch H H' s.heap s'.heap) (hok : HOk X.prog X.w H' s'.heap) (hg : AllBare s'.gens)
    (hch : ∀ b ∈ ch, (b ∈ X.ex ∨ X.s₀.heap.objs.size ≤ b) ∧ b ≠ X.env.locals ∧ (∀ x c, X.env.cells.lookup x = some c → c ≠ b) ∧ ∀ p ∈ X.pn ++ pins, p.1 ≠ b) : Inv X pins σ H' s' := by
  obtain ⟨h', g', d', t', o'⟩ := s'
  have e : o' = s.os := ho
  subst e
  exact I.call (g' := g') (t' := t') (d' := d') u hok hg hch
end
abbrev XK := Value → Option Addr → Hp → Prop
abbrev St := List (Option V)
abbrev VK := V → Hp → Prop
abbrev TE := St → Hp → VK → Prop
abbrev TT := St → Hp → (Bool → Hp → Prop) → Prop
abbrev TA := St → Hp → (List V → Hp → Prop) → Prop
structure Ends where
  nx : St → Hp → Prop
  rt : VK
  bk : St → Hp → Prop := fun _ _ => False
  ct : St → Hp → Prop := fun _ _ => False
abbrev TS := Ends → St → Hp → Prop
def EP (X : Cx) (pins : List (Addr × Obj)) (σ : St) (Q : VK) (u : Value) (s' : Shared) : Prop := ∃ v H', Inv X pins σ H' s' ∧ RelV v u ∧ Q v H'
def TP (X : Cx) (pins : List (Addr × Obj)) (σ : St) (Q : Bool → Hp → Prop) (b : Bool) (s' : Shared) : Prop := ∃ H', Inv X pins σ H' s' ∧ Q b H'
def AP (X : Cx) (pins : List (Addr × Obj)) (σ : St) (Q : List V → Hp → Prop) (us : List Value) (s' : Shared) : Prop := ∃ vs H', Inv X pins σ H' s' ∧ Vals vs us ∧ Q vs H'
def SP (X : Cx) (pins : List (Addr × Obj)) (D : Ends) (f : Flow) (s' : Shared) : Prop :=
  match f with
  | .next => ∃ σ' H', Inv X pins σ' H' s' ∧ D.nx σ' H'
  | .brk => ∃ σ' H', Inv X pins σ' H' s' ∧ D.bk σ' H'
  | .cont => ∃ σ' H', Inv X pins σ' H' s' ∧ D.ct σ' H'
  | .ret u => ∃ v σ' H', Inv X pins σ' H' s' ∧ RelV v u ∧ D.rt v H'
def PE (X : Cx) (e : Expr) (t : TE) : Prop :=
  ∀ (pins : List (Addr × Obj)) (s : Shared) (σ : St) (H : Hp) (Q : VK), Inv X pins σ H s → t σ H Q → wpAny (model X.prog X.w) X.A (eval e X.env) (EP X pins σ Q) X.xe s
def PT (X : Cx) (e : Expr) (t : TT) : Prop :=
  ∀ (pins : List (Addr × Obj)) (s : Shared) (σ : St) (H : Hp) (Q : Bool → Hp → Prop), Inv X pins σ H s → t σ H Q → wpAny (model X.prog X.w) X.A (isTrue e X.env (eval e X.env)) (TP X pins σ Q) X.xe s
def PW (X : Cx) (e : Expr) (t : TT) : Prop :=
  ∀ (whole : Sem Value) (pins : List (Addr × Obj)) (s : Shared) (σ : St) (H : Hp) (Q : Bool → Hp → Prop), Inv X pins σ H s → t σ H Q → wpAny (model X.prog X.w) X.A (isTrue e X.env whole) (TP X pins σ Q) X.xe s
theorem PW.pt {X : Cx} {e : Expr} {t : TT} (h : PW X e t) : PT X e t := h _
def PA (X : Cx) (es : List Expr) (t : TA) : Prop :=
  ∀ (pos : Pos) (pins : List (Addr × Obj)) (s : Shared) (σ : St) (H : Hp) (Q : List V → Hp → Prop), Inv X pins σ H s → t σ H Q → wpAny (model X.prog X.w) X.A (spliced (backTo pos (starEach es X.env))) (AP X pins σ Q) X.xe s
def PS (X : Cx) (st : Stmt) (t : TS) : Prop :=
  ∀ (pins : List (Addr × Obj)) (s : Shared) (σ : St) (H : Hp) (D : Ends), Inv X pins σ H s → t D σ H → wpAny (model X.prog X.w) X.A (exec st X.env) (SP X pins D) X.xe s
def PSs (X : Cx) (st : List Stmt) (t : TS) : Prop :=
  ∀ (pins : List (Addr × Obj)) (s : Shared) (σ : St) (H : Hp) (D : Ends), Inv X pins σ H s → t D σ H → wpAny (model X.prog X.w) X.A (execs st X.env) (SP X pins D) X.xe s
theorem thn {α : Type} {t : Sem α} {Q Q' : α → Shared → Prop} {M : Model} {A : Around} {E : Value → Shared → Prop} {s : Shared} (h : wpAny M A t Q E s) (hQ : ∀ a s, Q a s → Q' a s) : wpAny M A t Q' E s := wpAny_mono h hQ fun _ _ x => x
end L2
namespace L2
open PySem PySem.Spec PyProof.Rows
section
variable {X : Cx}
theorem bin {a b : Expr} {ta tb : TE} (ha : PE X a ta) (hb : PE X b tb) {pins : List (Addr × Obj)} {s : Shared} {σ : St} {H : Hp} {R : V → V → Hp → Prop} (I : Inv X pins σ H s) (h : ta σ H fun x H1 => tb σ H1 fun y H2 => R x y H2)
    {α : Type} {Q : α → Shared → Prop} {f : Value → Value → Sem α}
    (hf : ∀ v u s2 x y H2, Inv X pins σ H2 s2 → RelV x v → RelV y u → R x y H2 → wpAny (model X.prog X.w) X.A (f v u) Q X.xe s2) :
    wpAny (model X.prog X.w) X.A (eval a X.env) (fun v s₁ => wpAny (model X.prog X.w) X.A (eval b X.env) (fun u s₂ => wpAny (model X.prog X.w) X.A (f v u) Q X.xe s₂) X.xe s₁) X.xe s := by
  refine thn (ha pins s σ H _ I h) fun v s1 ⟨x, H1, I1, r1, q1⟩ => ?_
  refine thn (hb pins s1 σ H1 _ I1 q1) fun u s2 ⟨y, H2, I2, r2, q2⟩ => ?_
  exact hf v u s2 x y H2 I2 r1 r2 q2
def tVar (i : Nat) : TE := fun σ H Q => ∃ v, σ[i]? = some (some v) ∧ Q v H
def tC (v : V) : TE := fun _ H Q => Q v H
theorem pe_var {i : Nat} {x : Str} {pos : Pos} (hN : X.N[i]? = some x) (hv : Vis X.env.scope x) (hd : (x == ("__debug__" : Str)) = false := by decide) (hcd : (x == ("__classdict__" : Str)) = false := by decide) : PE X (.Name x pos) (tVar i) := by
  intro pins s σ H Q I h
  obtain ⟨v, e, h⟩ := h
  obtain ⟨m, hn, hl⟩ := I.loc
  obtain ⟨u, r, l⟩ := hl i x v hN e hv
  have fin : EP X pins σ Q u s := ⟨v, H, I, r, h⟩
  rcases l with ⟨hk, hm⟩ | ⟨hk, c, hc, hcell⟩
  · exact wpAny_Name (wpAny_loadName_local I.ok.kind hk hn hm fin) hd
  · rcases hk with hk | hk
    · exact wpAny_Name (wpAny_loadName_cell I.ok.kind hk hc hcell fin) hd
    · exact wpAny_Name (wpAny_loadName_free I.ok.kind hk hc hcell fin hcd) hd
theorem pe_int {i j pos} : PE X (.Constant (.int i) j pos) (tC (.int i)) := fun _ _ _ H _ I h => wpAny_Constant_int ⟨.int i, H, I.tok _, ⟨_, rfl⟩, h⟩
theorem pe_bl {b j pos} : PE X (.Constant (.bool b) j pos) (tC (.bl b)) := fun _ _ _ H _ I h => Constant_bool ⟨.bl b, H, I, rfl, h⟩
theorem pe_str {x j pos} : PE X (.Constant (.str x) j pos) (tC (.str x)) := fun _ _ _ H _ I h => Calls.Constant_str ⟨.str x, H, I.tok _, ⟨_, rfl⟩, h⟩
def Gl (X : Cx) (x : Str) : Prop := X.env.kindOf x = some .globalImplicit
theorem ld_glob {E : Value → Shared → Prop} {pins : List (Addr × Obj)} {s : Shared} {σ : St} {H : Hp} {x : Str} {u : Value} {pos : Pos} {Q : Value → Shared → Prop} (I : Inv X pins σ H s) (hg : Gl X x) (hm : X.mg x = some u) (h : Q u s)
    (hd : (x == ("__debug__" : Str)) = false := by decide) : wpAny (model X.prog X.w) X.A (eval (.Name x pos) X.env) Q E s :=
  Calls.Name_function_global I.ok.kind hg (Calls.loadGlobal_global (by rw [I.ok.glob]; exact I.mod.glob.keeps I.bk) hm h) hd
theorem ld_blt {E : Value → Shared → Prop} {pins : List (Addr × Obj)} {s : Shared} {σ : St} {H : Hp} {x : Str} {u : Value} {pos : Pos} {Q : Value → Shared → Prop} (I : Inv X pins σ H s) (hg : Gl X x) (hm : X.mg x = none) (hv : bootBuiltins x = some u) (h : Q u s)
    (hn : x ≠ "__name__" := by decide) (hd : (x == ("__debug__" : Str)) = false := by decide) : wpAny (model X.prog X.w) X.A (eval (.Name x pos) X.env) Q E s := by
  obtain ⟨mb, h1, h2⟩ := I.mod.blt
  exact Calls.Name_function_global I.ok.kind hg (Calls.loadGlobal_builtin (by rw [I.ok.glob]; exact I.mod.glob.keeps I.bk) hm (by rw [I.ok.blt]; exact h1.keeps I.bk) ((h2 x hn).trans hv) h) hd
theorem pe_glob {x : Str} {v : V} {u : Value} {pos : Pos} (hg : Gl X x) (hm : X.mg x = some u) (r : RelV v u) (hd : (x == ("__debug__" : Str)) = false := by decide) : PE X (.Name x pos) (tC v) :=
  fun _ _ _ H _ I h => ld_glob I hg hm ⟨v, H, I, r, h⟩ hd
theorem pe_bltn {x : Str} {v : V} {u : Value} {pos : Pos} (hg : Gl X x) (hm : X.mg x = none) (hv : bootBuiltins x = some u) (r : RelV v u) (hn : x ≠ "__name__" := by decide) (hd : (x == ("__debug__" : Str)) = false := by decide) : PE X (.Name x pos) (tC v) :=
  fun _ _ _ H _ I h => ld_blt I hg hm hv ⟨v, H, I, r, h⟩ hn hd
variable {a b : Expr} {ta tb : TE} {pos : Pos}
def PC (X : Cx) (op : CmpOp) (a b : Expr) (t : TE) : Prop :=
  ∀ (pins : List (Addr × Obj)) (s : Shared) (σ : St) (H : Hp) (Q : VK), Inv X pins σ H s → t σ H Q →
    wpAny (model X.prog X.w) X.A (eval a X.env) (fun v s₁ => wpAny (model X.prog X.w) X.A (eval b X.env) (fun u s₂ => wpAny (model X.prog X.w) X.A (compareOp op v u) (EP X pins σ Q) X.xe s₂) X.xe s₁) X.xe s
theorem nobehind (b : Expr) {op : CmpOp} (h : op ≠ .In) (h2 : op ≠ .NotIn) : behindInMarks op b = false := by
  have e1 : (op == CmpOp.In) = false := by cases op <;> first | rfl | exact absurd rfl h
  have e2 : (op == CmpOp.NotIn) = false := by cases op <;> first | rfl | exact absurd rfl h2
  cases b <;> simp [behindInMarks, e1, e2]
def tB (t : TE) : TT := fun σ H Q => t σ H fun x H1 => ∃ c, x = .bl c ∧ Q c H1
theorem pt_cmp {op : CmpOp} {t : TE} (h : PC X op a b t) (h1 : behindInMarks op b = false := by first | exact nobehind _ (by decide) (by decide) | rfl) : PT X (.Compare a [op] [b] pos) (tB t) := by
  intro pins s σ H Q I hw
  refine wpAny_isTrue_Compare1 (thn (h pins s σ H _ I hw) fun v s1 h1 => thn h1 fun u s2 h2 => thn h2 fun c s3 ⟨x, H1, I1, r1, q1⟩ => ?_) h1
  obtain ⟨d, rfl, q⟩ := q1
  cases r1
  exact wpAny_truthy_bool ⟨H1, I1, q⟩
theorem pt_val {e : Expr} {t : TE} (h : PE X e t) (he : ∀ whole, isTrue e X.env whole = (do let v ← whole; standAt e.pos; holding [v] (truthy v)) := by intro _; rfl) : PT X e (tB t) := by
  intro pins s σ H Q I hw
  refine isTrue_plain (thn (h pins s σ H _ I hw) fun v s1 ⟨x, H1, I1, r1, q1⟩ => ?_) (he _)
  obtain ⟨d, rfl, q⟩ := q1
  cases r1
  exact wpAny_truthy_bool ⟨H1, I1, q⟩
variable {tA tB' : TT} {rest : List Expr}
def tAnd (t u : TT) : TT := fun σ H Q => t σ H fun c H1 => if c = true then u σ H1 Q else Q false H1
def tOr (t u : TT) : TT := fun σ H Q => t σ H fun c H1 => if c = true then Q true H1 else u σ H1 Q
def tNot (t : TT) : TT := fun σ H Q => t σ H fun c H1 => Q (!c) H1
theorem pw_and1 (ha : PT X a tA) : PW X (.BoolOp .And [a] pos) tA := by
  intro wh pins s σ H Q I h
  refine isTrue_and (thn (ha pins s σ H Q I h) fun c s1 e => ?_)
  cases c with
  | true => exact isTrue_and_nil e
  | false => exact e
theorem pw_or1 (ha : PT X a tA) : PW X (.BoolOp .Or [a] pos) tA := by
  intro wh pins s σ H Q I h
  refine isTrue_or (thn (ha pins s σ H Q I h) fun c s1 e => ?_)
  cases c with
  | false => exact isTrue_or_nil e
  | true => exact e
theorem pw_and (ha : PT X a tA) (hb : PW X (.BoolOp .And (b :: rest) pos) tB') : PW X (.BoolOp .And (a :: b :: rest) pos) (tAnd tA tB') := by
  intro wh pins s σ H Q I h
  refine isTrue_and (thn (ha pins s σ H _ I h) fun c s1 ⟨H1, I1, q1⟩ => ?_)
  cases c with
  | true => exact hb wh pins s1 σ H1 Q I1 q1
  | false => exact ⟨H1, I1, q1⟩
theorem pw_or (ha : PT X a tA) (hb : PW X (.BoolOp .Or (b :: rest) pos) tB') : PW X (.BoolOp .Or (a :: b :: rest) pos) (tOr tA tB') := by
  intro wh pins s σ H Q I h
  refine isTrue_or (thn (ha pins s σ H _ I h) fun c s1 ⟨H1, I1, q1⟩ => ?_)
  cases c with
  | true => exact ⟨H1, I1, q1⟩
  | false => exact hb wh pins s1 σ H1 Q I1 q1
theorem pt_not (ha : PT X a tA) : PT X (.UnaryOp .Not a pos) (tNot tA) := by
  intro pins s σ H Q I h
  exact isTrue_not (ha pins s σ H (fun c H1 => Q (!c) H1) I h)
def tAndV (ta tb : TE) : TE := fun σ H Q => ta σ H fun x H1 => ∃ c, x = .bl c ∧ if c = true then tb σ H1 Q else Q (.bl false) H1
theorem pe_one {op} {t : TE} (h : PE X a t) : PE X (.BoolOp op [a] pos) t := fun pins s σ H Q I hw => BoolOp_one (h pins s σ H Q I hw)
theorem pe_and (ha : PE X a ta) (hb : PE X (.BoolOp .And (b :: rest) pos) tb) : PE X (.BoolOp .And (a :: b :: rest) pos) (tAndV ta tb) := by
  intro pins s σ H Q I h
  refine BoolOp_and (thn (ha pins s σ H _ I h) fun v s1 ⟨x, H1, I1, r1, q1⟩ => ?_)
  obtain ⟨c, rfl, q1⟩ := q1
  cases r1
  refine wpAny_truthy_bool ?_
  cases c with
  | true => exact hb pins s1 σ H1 Q I1 q1
  | false => exact ⟨.bl false, H1, I1, rfl, q1⟩
def tIf (t : TT) (ta tb : TE) : TE := fun σ H Q => t σ H fun c H1 => if c = true then ta σ H1 Q else tb σ H1 Q
theorem pe_ifExp {c : Expr} (hc : PT X c tA) (ha : PE X a ta) (hb : PE X b tb) : PE X (.IfExp c a b pos) (tIf tA ta tb) := by
  intro pins s σ H Q I h
  refine wpAny_IfExp (thn (hc pins s σ H _ I h) fun d s1 ⟨H1, I1, q1⟩ => ?_)
  cases d with
  | true => exact ha pins s1 σ H1 Q I1 q1
  | false => exact hb pins s1 σ H1 Q I1 q1
end
end L2
namespace L2
open PySem PySem.Spec PyProof.Rows
def SqL (K : PySem.W.Frag) (H : Hp) (a : Addr) (xs : List V) : Prop :=
  Rd H a (.lst xs) ∨
    ∃ (o : Obj) (its : Array Value) (n : Nat), K.lookup a = some o ∧ o.cls = .type "list" ∧ o.dict = none ∧ o.data = .seq its n ∧ its.size ≤ sizeLine ∧ Vals xs its.toList
def SqT (K : PySem.W.Frag) (H : Hp) (a : Addr) (xs : List V) : Prop :=
  Rd H a (.tup xs) ∨
    ∃ (o : Obj) (its : Array Value) (n : Nat), K.lookup a = some o ∧ o.cls = .type "tuple" ∧ o.data = .seq its n ∧ its.size ≤ sizeLine ∧ Vals xs its.toList
def absV : Value → Option V
  | .none => some .non
  | .bool b => some (.bl b)
  | .int i _ => some (.int i)
  | .str x _ => some (.str x)
  | .bytes b _ => some (.byt b)
  | .float b _ => some (.flt b)
  | .ref a => some (.ref a)
  | .type n => some (.ty n)
  | _ => none
theorem RelV.abs {x : V} {u : Value} (r : RelV x u) : absV u = some x := by
  cases x with
  | non => cases r; rfl
  | bl _ => cases r; rfl
  | int _ => obtain ⟨t, rfl⟩ := r; rfl
  | str _ => obtain ⟨t, rfl⟩ := r; rfl
  | byt _ => obtain ⟨t, rfl⟩ := r; rfl
  | flt _ => obtain ⟨t, rfl⟩ := r; rfl
  | ref _ => cases r; rfl
  | ty _ => cases r; rfl
theorem RelV.inj {x y : V} {u : Value} (r : RelV x u) (q : RelV y u) : x = y := Option.some.inj (r.abs.symm.trans q.abs)
theorem Vals.inj : ∀ {xs ys : List V} {us : List Value}, Vals xs us → Vals ys us → xs = ys
  | _, _, _, .nil, .nil => rfl
  | _, _, _, .cons r t, .cons r' t' => by rw [r.inj r', Vals.inj t t']
section
variable {X : Cx} {pins : List (Addr × Obj)} {σ : St} {H : Hp} {s : Shared} {a : Addr} {xs ys : List V}
theorem SqL.of {K : PySem.W.Frag} (h : H a = some (.lst xs)) : SqL K H a xs := .inl (.inl h)
theorem SqT.of {K : PySem.W.Frag} (h : H a = some (.tup xs)) : SqT K H a xs := .inl (.inl h)
theorem Inv.list (I : Inv X pins σ H s) (h : SqL X.K H a xs) : ∃ its : List Value, Vals xs its ∧ PlainL s.heap a its.toArray ∧ xs.length ≤ sizeLine := by
  rcases h with h | ⟨o, its, n, hk, hc, hd, hs, hz, r⟩
  · obtain ⟨z, its, n, r, e⟩ := h.ok I.hok
    exact ⟨its, r, ⟨_, n, e, rfl, rfl, rfl⟩, z⟩
  · refine ⟨its.toList, r, ⟨o, n, I.kIn a o hk, hc, hd, by simpa using hs⟩, ?_⟩
    have e := r.length
    simp only [Array.length_toList] at e
    omega
theorem Inv.tuple (I : Inv X pins σ H s) (h : SqT X.K H a xs) : ∃ its : List Value, Vals xs its ∧ IsTup s.heap a its.toArray ∧ xs.length ≤ sizeLine := by
  rcases h with h | ⟨o, its, n, hk, hc, hs, hz, r⟩
  · obtain ⟨z, its, r, p⟩ := h.ok I.hok
    exact ⟨its, r, p, z⟩
  · refine ⟨its.toList, r, ⟨o, I.kIn a o hk, hc, n, by simpa using hs⟩, ?_⟩
    have e := r.length
    simp only [Array.length_toList] at e
    omega
theorem Inv.list_inj (I : Inv X pins σ H s) (h : SqL X.K H a xs) (h' : SqL X.K H a ys) : xs = ys := by
  obtain ⟨its, r, ⟨o, n, e, _, _, d⟩, _⟩ := I.list h
  obtain ⟨its', r', ⟨o', n', e', _, _, d'⟩, _⟩ := I.list h'
  rw [e] at e'; cases e'
  rw [d] at d'
  injection d' with d1 _
  have : its = its' := by simpa using congrArg Array.toList d1
  subst this
  exact r.inj r'
theorem Inv.tuple_inj (I : Inv X pins σ H s) (h : SqT X.K H a xs) (h' : SqT X.K H a ys) : xs = ys := by
  obtain ⟨its, r, ⟨o, e, _, n, d⟩, _⟩ := I.tuple h
  obtain ⟨its', r', ⟨o', e', _, n', d'⟩, _⟩ := I.tuple h'
  rw [e] at e'; cases e'
  rw [d] at d'
  injection d' with d1 _
  have : its = its' := by simpa using congrArg Array.toList d1
  subst this
  exact r.inj r'
end
abbrev Cx.wish (X : Cx) (E : Value → Shared → Prop) : Cx := { X with xe := E }
abbrev Cx.nox (X : Cx) : Cx := X.wish fun _ _ => False
theorem Cx.Ok.wish {X : Cx} (ok : X.Ok) (E : Value → Shared → Prop) : (X.wish E).Ok :=
  ⟨ok.mod, ok.kind, ok.glob, ok.blt, ok.above, ok.inj, ok.has, ok.cab, ok.hd, ok.frames, ok.stk, ok.exf, ok.bs, ok.bsz, ok.noex, ok.exfs, ok.funs, ok.frf⟩
theorem Cx.Ok.unwish {X : Cx} {E : Value → Shared → Prop} (ok : (X.wish E).Ok) : X.Ok :=
  ⟨ok.mod, ok.kind, ok.glob, ok.blt, ok.above, ok.inj, ok.has, ok.cab, ok.hd, ok.frames, ok.stk, ok.exf, ok.bs, ok.bsz, ok.noex, ok.exfs, ok.funs, ok.frf⟩
section
variable {X : Cx} {pins : List (Addr × Obj)} {σ : St} {H : Hp} {s : Shared} {E : Value → Shared → Prop}
theorem Inv.wish (I : Inv X pins σ H s) (E : Value → Shared → Prop) : Inv (X.wish E) pins σ H s := ⟨I.ok.wish E, I.os, I.bare, I.base, I.loc, I.cell, I.free, I.freeC, I.pin, I.hok, I.len⟩
theorem Inv.unwish (I : Inv (X.wish E) pins σ H s) : Inv X pins σ H s := ⟨I.ok.unwish, I.os, I.bare, I.base, I.loc, I.cell, I.free, I.freeC, I.pin, I.hok, I.len⟩
theorem SP.unwish {D : Ends} {f : Flow} {s' : Shared} (h : SP (X.wish E) pins D f s') : SP X pins D f s' := by
  cases f with
  | next => obtain ⟨σ', H', I, q⟩ := h; exact ⟨σ', H', I.unwish, q⟩
  | brk => obtain ⟨σ', H', I, q⟩ := h; exact ⟨σ', H', I.unwish, q⟩
  | cont => obtain ⟨σ', H', I, q⟩ := h; exact ⟨σ', H', I.unwish, q⟩
  | ret u => obtain ⟨v, σ', H', I, r, q⟩ := h; exact ⟨v, σ', H', I.unwish, r, q⟩
theorem PSs.nox {st : List Stmt} {t : TS} (h : PSs X.nox st t) : PSs X st t := fun pins s σ H D I hw =>
  wpAny_mono (h pins s σ H D (I.wish _) hw) (fun _ _ q => q.unwish) fun _ _ z => False.elim z
end
section
variable {X : Cx} {st : Stmt} {rest : List Stmt} {t u : TS} {e : Expr} {te : TE} {pos : Pos}
def tNext : TS := fun D σ H => D.nx σ H
def tSeq (t u : TS) : TS := fun D σ H => t { D with nx := u D } σ H
theorem pss_nil : PSs X [] tNext := fun _ _ σ H _ I h => wpAny_execs_nil ⟨σ, H, I, h⟩
theorem pss_cons (h1 : PS X st t) (h2 : PSs X rest u) : PSs X (st :: rest) (tSeq t u) := by
  intro pins s σ H D I h
  refine wpAny_execs_cons (thn (h1 pins s σ H { D with nx := u D } I h) fun f s1 q => ?_)
  cases f with
  | next =>
    obtain ⟨σ', H', I', q⟩ := q
    exact h2 pins s1 σ' H' D I' q
  | ret v => exact q
  | brk => exact q
  | cont => exact q
theorem pss_one (h1 : PS X st t) : PSs X [st] t := by
  intro pins s σ H D I h
  refine wpAny_execs_cons (thn (h1 pins s σ H D I h) fun f s1 q => ?_)
  cases f with
  | next => exact wpAny_execs_nil q
  | ret v => exact q
  | brk => exact q
  | cont => exact q
theorem Inv.quiet {pins : List (Addr × Obj)} {σ : St} {H : Hp} {s : Shared} (I : Inv X pins σ H s) : interactive X.env = false := by simp [interactive, I.ok.kind]
def tDrop (te : TE) : TS := fun D σ H => te σ H fun _ H1 => D.nx σ H1
theorem ps_expr (he : PE X e te) (hs : swapsWith e none pos.line X.env = pure false := by rfl) : PS X (.Expr e pos) (tDrop te) := by
  intro pins s σ H D I h
  exact wpAny_Expr_any (thn (he pins s σ H _ I h) fun v s1 ⟨x, H1, I1, r1, q1⟩ => ⟨σ, H1, I1, q1⟩) I.quiet hs
def tRet (te : TE) : TS := fun D σ H => te σ H D.rt
theorem ps_ret (he : PE X e te) : PS X (.Return (some e) pos) (tRet te) := by
  intro pins s σ H D I h
  exact wpAny_Return_some (thn (he pins s σ H _ I h) fun v s1 ⟨x, H1, I1, r1, q1⟩ => ⟨x, σ, H1, I1, r1, q1⟩)
def tIfS (c : TT) (t u : TS) : TS := fun D σ H => c σ H fun b H1 => if b = true then t D σ H1 else u D σ H1
theorem ps_if {c : Expr} {a b : List Stmt} {tc : TT} (hc : PT X c tc) (ha : PSs X a t) (hb : PSs X b u) : PS X (.If c a b pos) (tIfS tc t u) := by
  intro pins s σ H D I h
  refine wpAny_If (thn (hc pins s σ H _ I h) fun d s1 ⟨H1, I1, q1⟩ => ?_)
  cases d with
  | true => exact ha pins s1 σ H1 D I1 q1
  | false => exact hb pins s1 σ H1 D I1 q1
end
abbrev TG := V → St → Hp → (St → Hp → Prop) → Prop
abbrev TGs := List V → St → Hp → (St → Hp → Prop) → Prop
def PG (X : Cx) (target : Expr) (t : TG) : Prop :=
  ∀ (pins : List (Addr × Obj)) (s : Shared) (σ : St) (H : Hp) (v : V) (u : Value) (Q : St → Hp → Prop), Inv X pins σ H s → RelV v u → t v σ H Q →
    wpAny (model X.prog X.w) X.A (assign target X.env u) (fun _ s' => ∃ σ' H', Inv X pins σ' H' s' ∧ Q σ' H') X.xe s
def PGs (X : Cx) (ts : List Expr) (t : TGs) : Prop :=
  ∀ (pins : List (Addr × Obj)) (s : Shared) (σ : St) (H : Hp) (vs : List V) (us : List Value) (Q : St → Hp → Prop), Inv X pins σ H s → Vals vs us → t vs σ H Q →
    wpAny (model X.prog X.w) X.A (assignInOrder ((assignEach ts X.env).map (·.2)) us) (fun _ s' => ∃ σ' H', Inv X pins σ' H' s' ∧ Q σ' H') X.xe s
section
variable {X : Cx} {pos : Pos}
def gName (i : Nat) : TG := fun v σ H Q => Q (σ.set i (some v)) H
theorem pg_name {i : Nat} {x : Str} (hN : X.N.Nodup) (hi : X.N[i]? = some x) (hx : Loc X.env.scope x) (hf : X.fn x = true ∨ X.env.scope.names.lookup x = some .local := by first | exact .inl rfl | exact .inr rfl | assumption) : PG X (.Name x pos) (gName i) := by
  intro pins s σ H v u Q I r h
  exact wpAny_assign_Name (store_ok I hN hi hx r (fun s' I' => ⟨_, H, I', h⟩) hf)
def gNil : TGs := fun vs σ H Q => vs = [] ∧ Q σ H
def gCons (t : TG) (u : TGs) : TGs := fun vs σ H Q => ∃ v r, vs = v :: r ∧ t v σ H fun σ' H' => u r σ' H' Q
theorem pgs_nil : PGs X [] gNil := by
  intro pins s σ H vs us Q I r h
  obtain ⟨e, h⟩ := h
  subst e
  cases r
  exact assignInOrder_nil ⟨σ, H, I, h⟩
theorem pgs_cons {e : Expr} {es : List Expr} {t : TG} {u : TGs} (h1 : PG X e t) (h2 : PGs X es u)
    (hs : (assignEach (e :: es) X.env).map (·.2) = assign e X.env :: (assignEach es X.env).map (·.2) := by rfl) : PGs X (e :: es) (gCons t u) := by
  intro pins s σ H vs us Q I r h
  obtain ⟨v, vr, e1, h⟩ := h
  subst e1
  cases r with
  | cons r rr =>
    rw [hs]
    refine assignInOrder_cons (thn (h1 pins s σ H _ _ _ I r h) fun _ s1 ⟨σ1, H1, I1, q1⟩ => ?_)
    exact h2 pins s1 σ1 H1 _ _ Q I1 rr q1
def gTup (K : PySem.W.Frag) (n : Nat) (t : TGs) : TG := fun v σ H Q => ∃ a xs, v = .ref a ∧ SqT K H a xs ∧ xs.length = n ∧ t xs σ H Q
theorem pg_tup {es : List Expr} {k : Nat} {t : TGs} {n : Nat} (hc : X.calm = true) (h : PGs X es t)
    (hn : (assignEach es X.env).length = n := by rfl) (hst : (assignEach es X.env).findIdx? (·.1) = none := by rfl) : PG X (.Tuple es k pos) (gTup X.K n t) := by
  intro pins s σ H v u Q I r hw
  obtain ⟨a, xs, e1, hq, hl, hw⟩ := hw
  subst e1
  cases r
  obtain ⟨its, rv, ht, hz⟩ := I.tuple hq
  refine assign_Tuple_tuple (I.ok.hd hc) ht (by simp [hn, ← hl, rv.length]) hst fun h' hx => ?_
  have I1 : Inv X pins σ H { s with heap := h' } := I.kept (t' := s.toks) fun b o e => hx b o (Nat.ne_of_lt (Heap.lt_size e)) e
  exact h pins _ σ H xs _ Q I1 (by simpa using rv) hw
def tAsg (te : TE) (g : TG) : TS := fun D σ H => te σ H fun x H1 => g x σ H1 D.nx
theorem ps_asg {tg e : Expr} {te : TE} {g : TG} (he : PE X e te) (hg : PG X tg g) (hs : swapsWithSole [tg] e pos.line X.env = pure false := by rfl) (hw : swappedStores [tg] e X.env = pure none := by rfl)
    (h1 : (assignEach [tg] X.env).map (·.2) = [assign tg X.env] := by rfl) : PS X (.Assign [tg] e pos) (tAsg te g) := by
  intro pins s σ H D I h
  refine wpAny_Assign_stores (thn (he pins s σ H _ I h) fun v s1 ⟨x, H1, I1, r1, q1⟩ => ?_) hs hw
  rw [h1]
  exact thn (hg pins s1 σ H1 x v _ I1 r1 q1) fun _ s2 q => q
theorem ps_set {i : Nat} {x : Str} {e : Expr} {te : TE} {pos' : Pos} (hN : X.N.Nodup) (hi : X.N[i]? = some x) (hx : Loc X.env.scope x) (he : PE X e te) (hs : swapsWith e (some (.Name x pos')) pos.line X.env = pure false := by rfl) (hf : X.fn x = true ∨ X.env.scope.names.lookup x = some .local := by first | exact .inl rfl | exact .inr rfl | assumption) :
    PS X (.Assign [.Name x pos'] e pos) (tAsg te (gName i)) := by
  intro pins s σ H D I h
  refine wpAny_Assign_Name (thn (he pins s σ H _ I h) fun v s1 ⟨y, H1, I1, r1, q1⟩ => ?_) hs
  exact store_ok I1 hN hi hx r1 (fun s2 I2 => ⟨_, H1, I2, q1⟩) hf
end
section
variable {X : Cx} {pos : Pos}
def tWhile (c : TT) (tb : TS) : TS := fun D σ H => ∃ W : Nat → St → Hp → Prop, (∃ m, W m σ H) ∧ ∀ m σ H, W m σ H →
  c σ H fun b H1 => if b = true then ∃ N : St → Hp → Prop, (∀ σ' H', N σ' H' → ∃ m', m' < m ∧ W m' σ' H') ∧ tb { D with nx := N, ct := N, bk := D.nx } σ H1 else D.nx σ H1
theorem ps_while {c : Expr} {body : List Stmt} {tc : TT} {tb : TS} (hp : PassesOwn (model X.prog X.w) X.A X.env X.xe) (hc : PT X c tc) (hb : PSs X body tb) : PS X (.While c body [] pos) (tWhile tc tb) := by
  intro pins s σ H D I h
  obtain ⟨W, ⟨m0, w0⟩, turn⟩ := h
  refine wpAny_While (codeAny_whileLoop (fun n s' => ∃ σ' H', Inv X pins σ' H' s' ∧ W n σ' H') ?_ m0 ⟨σ, H, I, w0⟩)
  rintro n s1 ⟨σ1, H1, I1, w1⟩
  refine wpAny_passesOwn hp (thn (hc pins s1 σ1 H1 _ I1 (turn n σ1 H1 w1)) fun b s2 ⟨H2, I2, q2⟩ => ?_)
  cases b with
  | true =>
    obtain ⟨N, hN, q2⟩ := q2
    rw [if_pos rfl]
    refine wpAny_passesOwn hp (thn (hb pins s2 σ1 H2 _ I2 q2) fun f s3 q3 => ?_)
    cases f with
    | next =>
      obtain ⟨σ3, H3, I3, n3⟩ := q3
      obtain ⟨m', hm, w3⟩ := hN σ3 H3 n3
      exact ⟨m', hm, σ3, H3, I3, w3⟩
    | cont =>
      obtain ⟨σ3, H3, I3, n3⟩ := q3
      obtain ⟨m', hm, w3⟩ := hN σ3 H3 n3
      exact ⟨m', hm, σ3, H3, I3, w3⟩
    | brk => exact q3
    | ret v => exact q3
  | false =>
    rw [if_neg Bool.false_ne_true]
    exact wpAny_execs_nil ⟨σ1, H2, I2, q2⟩
end
structure It where
  go : Nat → Hp → Prop
  yld : Nat → Hp → V → Hp → Prop
  stop : Nat → Hp → Prop
def FpOk (X : Cx) (pins : List (Addr × Obj)) (H : Hp) (b : Addr) : Prop :=
  H b = none ∧ b ≠ X.env.locals ∧ b ∉ X.fs ∧ (b ∈ X.ex ∨ X.s₀.heap.objs.size ≤ b) ∧ (∀ x c, X.env.cells.lookup x = some c → c ≠ b) ∧ ∀ p ∈ X.pn ++ pins, p.1 ≠ b
theorem Inv.fpOk {X : Cx} {pins : List (Addr × Obj)} {σ : St} {H H' : Hp} {s : Shared} {b : Addr} (I : Inv X pins σ H s) (hb : s.heap.objs.size ≤ b) (hn : H' b = none) : FpOk X pins H' b := by
  refine ⟨hn, Nat.ne_of_gt (Nat.lt_of_lt_of_le I.lt hb), I.nofs hb, .inr (Nat.le_trans I.sz hb), fun x c e z => ?_, fun p hp z => ?_⟩
  · obtain ⟨v, q⟩ := I.cell x c e
    exact absurd (Nat.lt_of_lt_of_le q.lt (by rw [z]; exact hb)) (Nat.lt_irrefl _)
  · exact absurd (Nat.lt_of_lt_of_le (Heap.lt_size (I.pin p hp).1) (by rw [z]; exact hb)) (Nat.lt_irrefl _)
structure Turn (P : Program) (w : World) (K : PySem.W.Frag) (tg : Expr) (J : It) (fp : List Addr) (it : Addr) (tn : Nat → Heap → Prop) : Prop where
  mem : it ∈ fp
  obj : ∀ i h, tn i h → ∀ b ∈ fp, ∃ o, h.get? b = some o ∧ ∀ v, o.data ≠ .cell v
  keep : ∀ i h h', tn i h → (∀ b ∈ fp, ∀ o, h.get? b = some o → h'.get? b = some o) → tn i h'
  item : ∀ (X : Cx), X.prog = P → X.w = w → X.K = K → X.calm = true → ∀ (i : Nat) (pins : List (Addr × Obj)) (s : Shared) (σ : St) (H : Hp) (E : Value → Shared → Prop), Inv X pins σ H s → (∀ b ∈ fp, FpOk X pins H b) → tn i s.heap → J.go i H →
    wpAny (model P w) X.A (pyNext (.ref it)) (fun r s1 => ∃ u, r = some u ∧
      wpAny (model P w) X.A (letOwnedTupleGo tg (.ref it) u) (fun _ s2 => ∃ x H', Inv X pins σ H' s2 ∧ RelV x u ∧ J.yld i H x H' ∧ tn (i + 1) s2.heap ∧ ∀ b ∈ fp, H' b = none) E s1) E s
  done : ∀ (X : Cx), X.prog = P → X.w = w → X.K = K → X.calm = true → ∀ (i : Nat) (pins : List (Addr × Obj)) (s : Shared) (σ : St) (H : Hp) (E : Value → Shared → Prop), Inv X pins σ H s → (∀ b ∈ fp, FpOk X pins H b) → tn i s.heap → J.stop i H →
    wpAny (model P w) X.A (pyNext (.ref it)) (fun r s1 => r = none ∧ Inv X pins σ H s1) E s
  self : ∀ (A : Around) (i : Nat) (s : Shared) (Q : Value → Shared → Prop) (E : Value → Shared → Prop), tn i s.heap → Q (.ref it) s → wpAny (model P w) A (pyIter (.ref it)) Q E s
abbrev TI := St → Hp → (It → Hp → Prop) → Prop
def PIE (X : Cx) (pins : List (Addr × Obj)) (σ : St) (tg : Expr) (R : It → Hp → Prop) (itv : Value) (s2 : Shared) : Prop :=
  ∃ (it : Addr) (fp : List Addr) (tn : Nat → Heap → Prop) (J : It) (H' : Hp), itv = .ref it ∧ Inv X pins σ H' s2 ∧ Turn X.prog X.w X.K tg J fp it tn ∧ tn 0 s2.heap ∧ (∀ b ∈ fp, FpOk X pins H' b) ∧ R J H'
def PI (X : Cx) (tg iter : Expr) (wi : TI) : Prop :=
  ∀ (pins : List (Addr × Obj)) (s : Shared) (σ : St) (H : Hp) (R : It → Hp → Prop), Inv X pins σ H s → wi σ H R →
    wpAny (model X.prog X.w) X.A (eval iter X.env) (fun v s1 => wpAny (model X.prog X.w) X.A (pyIter v) (PIE X pins σ tg R) X.xe s1) X.xe s
theorem go_of {M : Model} {A : Around} {E : Value → Shared → Prop} {s : Shared} {tg : Expr} {it : Addr} {u : Value} {o : Obj} {n : String} {vs : Array Value} {Q : Unit → Shared → Prop} (ho : s.heap.get? it = some o) (hc : o.cls = .type n) (hd : o.data = .fields vs)
    (hn : ["enumerate", "zip", "dict_itemiterator", "dict_reverseitemiterator", "odict_iterator", "itertools.zip_longest", "itertools.pairwise"].contains n = false) (hQ : Q () s) : wpAny M A (letOwnedTupleGo tg (.ref it) u) Q E s := by
  unfold letOwnedTupleGo
  cases tg <;> first
    | exact wpAny_pure hQ
    | (cases u <;> first
        | exact wpAny_pure hQ
        | (refine wpAny_bind (wpAny_load ho ?_)
           rw [hc, hd]
           show wpAny M A (if (["enumerate", "zip", "dict_itemiterator", "dict_reverseitemiterator", "odict_iterator", "itertools.zip_longest", "itertools.pairwise"].contains n && vs[0]? == some (rawInt _)) = true then _ else _) Q E s
           rw [if_neg (by intro h; rw [hn, Bool.false_and] at h; cases h)]
           exact wpAny_pure hQ))
def Itl (K : PySem.W.Frag) (a : Addr) : It :=
  ⟨fun i H => ∃ xs x, SqL K H a xs ∧ xs[i]? = some x, fun i H x H' => H' = H ∧ ∀ xs, SqL K H a xs → xs[i]? = some x, fun i H => ∃ xs, SqL K H a xs ∧ xs.length ≤ i⟩
def Itt (K : PySem.W.Frag) (a : Addr) : It :=
  ⟨fun i H => ∃ xs x, SqT K H a xs ∧ xs[i]? = some x, fun i H x H' => H' = H ∧ ∀ xs, SqT K H a xs → xs[i]? = some x, fun i H => ∃ xs, SqT K H a xs ∧ xs.length ≤ i⟩
def Itr (lo : Int) (n : Nat) : It := ⟨fun i _ => i < n, fun i H x H' => H' = H ∧ x = .int (lo + i), fun i _ => n ≤ i⟩
theorem turn_list {P : Program} {w : World} {K : PySem.W.Frag} {tg : Expr} (a it : Addr) : Turn P w K tg (Itl K a) [it] it (fun i h => h.IsListIter it a i) where
  mem := by simp
  obj := fun i h st b hb => by
    have e : b = it := by simpa using hb
    subst e
    obtain ⟨o, e, c, d⟩ := st
    exact ⟨o, e, fun v z => by rw [d] at z; cases z⟩
  keep := fun i h h' st k => st.at fun o e => k it (by simp) o e
  item := by
    intro X hP hw hK hc i pins s σ H E I hf st hg
    subst hP hw hK
    obtain ⟨xs, x, hq, hx⟩ := hg
    obtain ⟨its, rv, p, hz⟩ := I.list hq
    obtain ⟨u, hu, ru⟩ := rv.get hx
    obtain ⟨f0, f1, f2, f3, f4, f5⟩ := hf it (by simp)
    refine wpAny_pyNext_list_item st p.isList (x := u) (by simpa using hu) fun h' st' sb => ?_
    have I1 : Inv X pins σ H { s with heap := h' } := I.turned (t' := s.toks) (fun b o hb e => (sb.2 b hb).trans e) f0 f1 f3 f4 f5
    obtain ⟨o, e, c, d⟩ := id st'
    exact ⟨u, rfl, go_of (s := { s with heap := h' }) e c d (by decide) ⟨x, H, I1, ru, ⟨rfl, fun ys hy => by rw [I.list_inj hy hq]; exact hx⟩, st', fun b hb => (hf b hb).1⟩⟩
  done := by
    intro X hP hw hK hc i pins s σ H E I hf st hg
    subst hP hw hK
    obtain ⟨xs, hq, hx⟩ := hg
    obtain ⟨its, rv, p, hz⟩ := I.list hq
    obtain ⟨f0, f1, f2, f3, f4, f5⟩ := hf it (by simp)
    have hl := rv.length
    exact wpAny_pyNext_list_end (I.ok.hd hc) st p.isList (by simp; omega) fun h' eb => ⟨rfl, I.turned (t' := s.toks) (fun b o hb e => eb b o hb e) f0 f1 f3 f4 f5⟩
  self := fun _ _ _ _ _ st h => wpAny_pyIter_listiter st h
theorem turn_tuple {P : Program} {w : World} {K : PySem.W.Frag} {tg : Expr} (a it : Addr) : Turn P w K tg (Itt K a) [it] it (fun i h => h.IsTupleIter it a i) where
  mem := by simp
  obj := fun i h st b hb => by
    have e : b = it := by simpa using hb
    subst e
    obtain ⟨o, e, c, d⟩ := st
    exact ⟨o, e, fun v z => by rw [d] at z; cases z⟩
  keep := fun i h h' st k => st.at fun o e => k it (by simp) o e
  item := by
    intro X hP hw hK hc i pins s σ H E I hf st hg
    subst hP hw hK
    obtain ⟨xs, x, hq, hx⟩ := hg
    obtain ⟨its, rv, p, hz⟩ := I.tuple hq
    obtain ⟨u, hu, ru⟩ := rv.get hx
    obtain ⟨f0, f1, f2, f3, f4, f5⟩ := hf it (by simp)
    refine wpAny_pyNext_tuple_item st (show s.heap.IsTuple a its.toArray from p) (x := u) (by simpa using hu) fun h' st' sb => ?_
    have I1 : Inv X pins σ H { s with heap := h' } := I.turned (t' := s.toks) (fun b o hb e => (sb.2 b hb).trans e) f0 f1 f3 f4 f5
    obtain ⟨o, e, c, d⟩ := id st'
    exact ⟨u, rfl, go_of (s := { s with heap := h' }) e c d (by decide) ⟨x, H, I1, ru, ⟨rfl, fun ys hy => by rw [I.tuple_inj hy hq]; exact hx⟩, st', fun b hb => (hf b hb).1⟩⟩
  done := by
    intro X hP hw hK hc i pins s σ H E I hf st hg
    subst hP hw hK
    obtain ⟨xs, hq, hx⟩ := hg
    obtain ⟨its, rv, p, hz⟩ := I.tuple hq
    obtain ⟨f0, f1, f2, f3, f4, f5⟩ := hf it (by simp)
    have hl := rv.length
    exact wpAny_pyNext_tuple_end (I.ok.hd hc) st (show s.heap.IsTuple a its.toArray from p) (by simp; omega) fun h' eb => ⟨rfl, I.turned (t' := s.toks) (fun b o hb e => eb b o hb e) f0 f1 f3 f4 f5⟩
  self := fun _ _ _ _ _ st h => wpAny_pyIter_tupleiter st h
theorem turn_range {P : Program} {w : World} {K : PySem.W.Frag} {tg : Expr} (it : Addr) (lo : Int) (n : Nat) : Turn P w K tg (Itr lo n) [it] it (fun i h => IsRangeIter h it (lo + (i : Nat) * 1) ((n : Int) - (i : Nat)) 1) where
  mem := by simp
  obj := fun i h st b hb => by
    have e : b = it := by simpa using hb
    subst e
    exact ⟨_, st, fun v z => by
      have z' : Data.fields _ = Data.cell v := z
      cases z'⟩
  keep := fun i h h' st k => k it (by simp) _ st
  item := by
    intro X hP hw hK hc i pins s σ H E I hf st hg
    subst hP hw hK
    obtain ⟨f0, f1, f2, f3, f4, f5⟩ := hf it (by simp)
    have W := Walks.range (prog := X.prog) (w := X.w) (I.ok.hd hc) it lo 1 n
    refine W.item i s _ _ hg st fun v h' tk hv st' kk => ?_
    obtain ⟨t, rfl⟩ := hv
    have I1 : Inv X pins σ H { s with heap := h', toks := tk } := I.turned (fun b o hb e => kk b o (by simpa using hb) e) f0 f1 f3 f4 f5
    refine ⟨_, rfl, go_of (s := { s with heap := h', toks := tk }) (n := "range_iterator") st' rfl rfl (by decide) ⟨.int (lo + i), H, I1, ⟨t, ?_⟩, ⟨rfl, rfl⟩, st', fun b hb => (hf b hb).1⟩⟩
    rw [Int.mul_one]
  done := by
    intro X hP hw hK hc i pins s σ H E I hf st hg
    subst hP hw hK
    obtain ⟨f0, f1, f2, f3, f4, f5⟩ := hf it (by simp)
    exact wpAny_pyNext_range_end (I.ok.hd hc) st (by have : n ≤ i := hg; omega) fun h' eb => ⟨rfl, I.turned (t' := s.toks) (fun b o hb e => eb b o hb e) f0 f1 f3 f4 f5⟩
  self := fun _ _ _ _ _ st h => wpAny_pyIter_rangeiter st h
end L2
namespace L2
open PySem PySem.Spec PyProof.Rows
section
variable {X : Cx} {tg : Expr}
def iList (K : PySem.W.Frag) (tl : TE) : TI := fun σ H R => tl σ H fun x H1 => ∃ a, x = .ref a ∧ (∃ xs, SqL K H1 a xs) ∧ R (Itl K a) H1
def iTup (K : PySem.W.Frag) (tl : TE) : TI := fun σ H R => tl σ H fun x H1 => ∃ a, x = .ref a ∧ (∃ xs, SqT K H1 a xs) ∧ R (Itt K a) H1
theorem pi_list {l : Expr} {tl : TE} (hl : PE X l tl) : PI X tg l (iList X.K tl) := by
  intro pins s σ H R I h
  refine thn (hl pins s σ H _ I h) fun v s1 ⟨x, H1, I1, r1, q1⟩ => ?_
  obtain ⟨a, e, ⟨xs, hq⟩, q⟩ := q1
  subst e
  cases r1
  obtain ⟨its, rv, p, hz⟩ := I1.list hq
  refine wpAny_pyIter_list p.isList ?_
  refine ⟨s1.heap.objs.size, [s1.heap.objs.size], _, _, H1, rfl, I1.kept (t' := s1.toks) fun b o e => Heap.get?_push_of_some _ e, turn_list a _, ⟨_, Heap.get?_push_size _ rfl, rfl, rfl⟩, fun b hb => ?_, q⟩
  have e : b = s1.heap.objs.size := by simpa using hb
  subst e
  exact I1.fpOk (Nat.le_refl _) (I1.hok.fresh (Nat.le_refl _))
theorem pi_tup {l : Expr} {tl : TE} (hl : PE X l tl) : PI X tg l (iTup X.K tl) := by
  intro pins s σ H R I h
  refine thn (hl pins s σ H _ I h) fun v s1 ⟨x, H1, I1, r1, q1⟩ => ?_
  obtain ⟨a, e, ⟨xs, hq⟩, q⟩ := q1
  subst e
  cases r1
  obtain ⟨its, rv, p, hz⟩ := I1.tuple hq
  refine wpAny_pyIter_tuple (show s1.heap.IsTuple a its.toArray from p) ?_
  refine ⟨s1.heap.objs.size, [s1.heap.objs.size], _, _, H1, rfl, I1.kept (t' := s1.toks) fun b o e => Heap.get?_push_of_some _ e, turn_tuple a _, ⟨_, Heap.get?_push_size _ rfl, rfl, rfl⟩, fun b hb => ?_, q⟩
  have e : b = s1.heap.objs.size := by simpa using hb
  subst e
  exact I1.fpOk (Nat.le_refl _) (I1.hok.fresh (Nat.le_refl _))
theorem range_it {pins : List (Addr × Obj)} {σ : St} {H : Hp} {s : Shared} {R : It → Hp → Prop} {E : Value → Shared → Prop} {lo hi : Int} {t u v : Tok} {tk : Nat} (I : Inv X pins σ H s) (h1 : -(2 ^ 62) ≤ lo) (h2 : lo < 2 ^ 62) (h3 : -(2 ^ 62) ≤ hi) (h4 : hi < 2 ^ 62)
    (q : R (Itr lo (hi - lo).toNat) H) : wpAny (model X.prog X.w) X.A (pyIter (.ref s.heap.objs.size)) (PIE X pins σ tg R) E { s with heap := s.heap.push { cls := .type "range", data := .fields #[.int lo t, .int hi u, .int 1 v] }, toks := tk } := by
  refine wpAny_pyIter_range (IsRange.new ..) (small_one h1 h2 h3 h4) ?_
  have I1 : Inv X pins σ H { s with heap := s.heap.push { cls := .type "range", data := .fields #[.int lo t, .int hi u, .int 1 v] }, toks := tk } := I.kept fun b o e => Heap.get?_push_of_some _ e
  refine ⟨(s.heap.push { cls := .type "range", data := .fields #[.int lo t, .int hi u, .int 1 v] }).objs.size, [(s.heap.push { cls := .type "range", data := .fields #[.int lo t, .int hi u, .int 1 v] }).objs.size], _, _, H, rfl,
    I1.kept (t' := tk) fun b o e => Heap.get?_push_of_some _ e, turn_range _ lo (hi - lo).toNat, ?_, fun b hb => ?_, q⟩
  · have e1 : lo + ((0 : Nat) : Int) * 1 = lo := by simp
    have e2 : (((hi - lo).toNat : Nat) : Int) - ((0 : Nat) : Int) = Builtin.Range.rangeSize lo hi 1 := by rw [rangeSize_one]; split <;> omega
    show IsRangeIter _ _ (lo + ((0 : Nat) : Int) * 1) ((((hi - lo).toNat : Nat) : Int) - ((0 : Nat) : Int)) 1
    rw [e1, e2]
    exact Heap.get?_push_size _ rfl
  · have e : b = (s.heap.push { cls := .type "range", data := .fields #[.int lo t, .int hi u, .int 1 v] }).objs.size := by simpa using hb
    subst e
    exact I1.fpOk (Nat.le_refl _) (I1.hok.fresh (Nat.le_refl _))
def iRng1 (ta : TA) : TI := fun σ H R => ta σ H fun vs H1 => ∃ j : Int, vs = [.int j] ∧ -(2 ^ 62) ≤ j ∧ j < 2 ^ 62 ∧ R (Itr 0 j.toNat) H1
theorem pi_range1 {a : Expr} {ta : TA} {p pos : Pos} (hg : Gl X "range") (hm : X.mg "range" = none) (ha : PA X [a] ta) (hs : starEach [a] X.env = [(false, eval a X.env)] := by rfl) : PI X tg (.Call (.Name "range" p) [a] [] pos) (iRng1 ta) := by
  intro pins s σ H R I h
  refine Call_ (ld_blt I hg hm boot_range (PyProof.Rows.callWith_type1 (thn (ha pos pins s σ H _ I h) fun us s1 ⟨vs, H1, I1, r1, q1⟩ => ?_) hs rfl))
  obtain ⟨j, e, q1, q2, q⟩ := q1
  subst e
  cases r1 with
  | cons r rr =>
    cases rr
    obtain ⟨t, rfl⟩ := r
    exact call_range_1 (range_it I1 (by omega) (by omega) q1 q2 (by simpa using q))
def tFor (wi : TI) (g : TG) (tb : TS) : TS := fun D σ H => wi σ H fun J H1 => ∃ W : Nat → Nat → St → Hp → Prop, (∃ m, W 0 m σ H1) ∧ ∀ i m σ H, W i m σ H →
  (J.stop i H ∧ D.nx σ H) ∨ (J.go i H ∧ ∃ N : St → Hp → Prop, (∀ σ' H', N σ' H' → ∃ m', m' < m ∧ W (i + 1) m' σ' H') ∧ ∀ x H', J.yld i H x H' → g x σ H' fun σ2 H2 => tb { D with nx := N, ct := N, bk := D.nx } σ2 H2)
def pinsAt (fp : List Addr) (h : Heap) : List (Addr × Obj) := fp.filterMap fun b => (h.get? b).map fun o => (b, o)
theorem mem_pinsAt {fp : List Addr} {h : Heap} {b : Addr} {o : Obj} (hb : b ∈ fp) (e : h.get? b = some o) : (b, o) ∈ pinsAt fp h := List.mem_filterMap.mpr ⟨b, hb, by rw [e]; rfl⟩
theorem of_pinsAt {fp : List Addr} {h : Heap} {p : Addr × Obj} (hp : p ∈ pinsAt fp h) : p.1 ∈ fp ∧ h.get? p.1 = some p.2 := by
  obtain ⟨b, hb, e⟩ := List.mem_filterMap.mp hp
  cases q : h.get? b with
  | none => rw [q] at e; cases e
  | some o =>
    rw [q] at e
    have e' : (b, o) = p := Option.some.inj e
    subst e'
    exact ⟨hb, q⟩
theorem Inv.pinned {pins : List (Addr × Obj)} {σ : St} {H : Hp} {s : Shared} {fp : List Addr} (I : Inv X pins σ H s) (hf : ∀ b ∈ fp, FpOk X pins H b) (ho : ∀ b ∈ fp, ∃ o, s.heap.get? b = some o ∧ ∀ v, o.data ≠ .cell v) : Inv X (pins ++ pinsAt fp s.heap) σ H s :=
  I.pins_of fun p hp => (List.mem_append.mp hp).elim (fun z => I.pin p (List.mem_append_right _ z)) fun z => by
    obtain ⟨hb, e⟩ := of_pinsAt z
    obtain ⟨f0, f1, f2, _⟩ := hf p.1 hb
    obtain ⟨o, e', d⟩ := ho p.1 hb
    rw [e] at e'; cases e'
    exact ⟨e, f0, f1, f2, d⟩
theorem Inv.unpinned {pins pl : List (Addr × Obj)} {σ : St} {H : Hp} {s : Shared} (I : Inv X (pins ++ pl) σ H s) : Inv X pins σ H s := I.pins_of fun p hp => I.pin p (List.mem_append_right _ (List.mem_append_left _ hp))
theorem ps_for {iter : Expr} {body : List Stmt} {wi : TI} {g : TG} {tb : TS} {pos : Pos} (hp : PassesOwn (model X.prog X.w) X.A X.env X.xe) (hc : X.calm = true) (hi : PI X tg iter wi) (hg : PG X tg g) (hb : PSs X body tb)
    (hs : ∀ x, foldedSetIterable iter X.env x = pure x := by intro _; rfl) : PS X (.For tg iter body [] pos) (tFor wi g tb) := by
  intro pins s σ H D I h
  refine wpAny_For (thn (hi pins s σ H _ I h) fun v s1 h1 => thn h1 fun itv s2 h2 => ?_) hs
  obtain ⟨it, fp, tn, J, H2, e, I2, T, st2, f2, W, ⟨m0, w0⟩, turn⟩ := h2
  subst e
  have stat : ∀ {H' : Hp}, (∀ b ∈ fp, H' b = none) → ∀ b ∈ fp, FpOk X pins H' b := fun hn b hb => ⟨hn b hb, (f2 b hb).2⟩
  refine codeAny_forLoop_any (fun n s' => ∃ i σ' H', Inv X pins σ' H' s' ∧ tn i s'.heap ∧ (∀ b ∈ fp, H' b = none) ∧ W i n σ' H') ?_ m0 ⟨0, σ, H2, I2, st2, fun b hb => (f2 b hb).1, w0⟩
  rintro n s3 ⟨i, σ3, H3, I3, st3, fr3, w3⟩
  rcases turn i n σ3 H3 w3 with ⟨stop, qn⟩ | ⟨go, N, hN, step⟩
  · refine wpAny_passesOwn hp (thn (T.done X rfl rfl rfl hc i pins s3 σ3 H3 X.xe I3 (stat fr3) st3 stop) fun r s4 ⟨hr, I4⟩ => ?_)
    subst hr
    exact wpAny_execs_nil ⟨σ3, H3, I4, qn⟩
  · refine wpAny_passesOwn hp (thn (T.item X rfl rfl rfl hc i pins s3 σ3 H3 X.xe I3 (stat fr3) st3 go) fun r s4 ⟨u, hr, h4⟩ => ?_)
    subst hr
    refine wpAny_passesOwn hp (thn h4 fun _ s5 ⟨x, H5, I5, r5, y5, st5, fr5⟩ => ?_)
    have I5' := I5.pinned (stat fr5) (T.obj _ _ st5)
    refine wpAny_passesOwn hp (thn (hg _ s5 σ3 H5 x u _ I5' r5 (step x H5 y5)) fun _ s6 ⟨σ6, H6, I6, q6⟩ => ?_)
    refine wpAny_passesOwn hp (thn (hb _ s6 σ6 H6 _ I6 q6) fun f s7 q7 => ?_)
    have again : ∀ {σ7 : St} {H7 : Hp}, Inv X (pins ++ pinsAt fp s5.heap) σ7 H7 s7 → N σ7 H7 → ∃ m, m < n ∧ ∃ i σ' H', Inv X pins σ' H' s7 ∧ tn i s7.heap ∧ (∀ b ∈ fp, H' b = none) ∧ W i m σ' H' := fun {σ7 H7} I7 n7 => by
      obtain ⟨m', hm, w7⟩ := hN σ7 H7 n7
      refine ⟨m', hm, i + 1, σ7, H7, I7.unpinned, T.keep _ _ _ st5 fun b hb o e => (I7.pin (b, o) (List.mem_append_right _ (List.mem_append_right _ (mem_pinsAt hb e)))).1, fun b hb => ?_, w7⟩
      obtain ⟨o, e, d⟩ := T.obj _ _ st5 b hb
      exact (I7.pin (b, o) (List.mem_append_right _ (List.mem_append_right _ (mem_pinsAt hb e)))).2.1
    cases f with
    | next => obtain ⟨σ7, H7, I7, n7⟩ := q7; exact again I7 n7
    | cont => obtain ⟨σ7, H7, I7, n7⟩ := q7; exact again I7 n7
    | brk => obtain ⟨σ7, H7, I7, q7⟩ := q7; exact ⟨σ7, H7, I7.unpinned, q7⟩
    | ret v => obtain ⟨x7, σ7, H7, I7, r7, q7⟩ := q7; exact ⟨x7, σ7, H7, I7.unpinned, r7, q7⟩
end
theorem for_list {K : PySem.W.Frag} {a : Addr} {xs : List V} {g : TG} {tb : TS} {D : Ends} {σ : St} {H : Hp} (Pv : Nat → St → Hp → Prop) (h0 : Pv 0 σ H) (hl : ∀ i σ H, i ≤ xs.length → Pv i σ H → SqL K H a xs)
    (hs : ∀ i x σ H, xs[i]? = some x → Pv i σ H → g x σ H fun σ2 H2 => tb { D with nx := Pv (i + 1), ct := Pv (i + 1), bk := D.nx } σ2 H2) (hd : ∀ σ H, Pv xs.length σ H → D.nx σ H) :
    ∃ W : Nat → Nat → St → Hp → Prop, (∃ m, W 0 m σ H) ∧ ∀ i m σ H, W i m σ H →
      ((Itl K a).stop i H ∧ D.nx σ H) ∨ ((Itl K a).go i H ∧ ∃ N : St → Hp → Prop, (∀ σ' H', N σ' H' → ∃ m', m' < m ∧ W (i + 1) m' σ' H') ∧ ∀ x H', (Itl K a).yld i H x H' → g x σ H' fun σ2 H2 => tb { D with nx := N, ct := N, bk := D.nx } σ2 H2) := by
  refine ⟨fun i m σ H => m = xs.length - i ∧ i ≤ xs.length ∧ Pv i σ H, ⟨xs.length, by simp, Nat.zero_le _, h0⟩, ?_⟩
  rintro i m σ H ⟨rfl, hi, p⟩
  have q := hl i σ H hi p
  by_cases hlt : i < xs.length
  · refine .inr ⟨⟨xs, xs[i], q, by simp [hlt]⟩, Pv (i + 1), fun σ' H' p' => ⟨xs.length - (i + 1), by omega, rfl, hlt, p'⟩, fun x H' y => ?_⟩
    obtain ⟨e, y⟩ := y
    subst e
    exact hs i x σ _ (y xs q) p
  · have e : i = xs.length := by omega
    subst e
    exact .inl ⟨⟨xs, q, Nat.le_refl _⟩, hd σ H p⟩
theorem for_range {lo : Int} {n : Nat} {g : TG} {tb : TS} {D : Ends} {σ : St} {H : Hp} (Pv : Nat → St → Hp → Prop) (h0 : Pv 0 σ H)
    (hs : ∀ i σ H, i < n → Pv i σ H → g (.int (lo + i)) σ H fun σ2 H2 => tb { D with nx := Pv (i + 1), ct := Pv (i + 1), bk := D.nx } σ2 H2) (hd : ∀ σ H, Pv n σ H → D.nx σ H) :
    ∃ W : Nat → Nat → St → Hp → Prop, (∃ m, W 0 m σ H) ∧ ∀ i m σ H, W i m σ H →
      ((Itr lo n).stop i H ∧ D.nx σ H) ∨ ((Itr lo n).go i H ∧ ∃ N : St → Hp → Prop, (∀ σ' H', N σ' H' → ∃ m', m' < m ∧ W (i + 1) m' σ' H') ∧ ∀ x H', (Itr lo n).yld i H x H' → g x σ H' fun σ2 H2 => tb { D with nx := N, ct := N, bk := D.nx } σ2 H2) := by
  refine ⟨fun i m σ H => m = n - i ∧ i ≤ n ∧ Pv i σ H, ⟨n, by simp, Nat.zero_le _, h0⟩, ?_⟩
  rintro i m σ H ⟨rfl, hi, p⟩
  by_cases hlt : i < n
  · refine .inr ⟨hlt, Pv (i + 1), fun σ' H' p' => ⟨n - (i + 1), by omega, rfl, hlt, p'⟩, fun x H' y => ?_⟩
    obtain ⟨e, y⟩ := y
    subst e y
    exact hs i σ _ hlt p
  · have e : i = n := by omega
    subst e
    exact .inl ⟨Nat.le_refl _, hd σ H p⟩
end L2
namespace L2
open PySem PySem.Spec PyProof.Rows
abbrev R2 := V → V → Hp → VK → Prop
def OpR (X : Cx) (f : Value → Value → Sem Value) (r : R2) : Prop :=
  ∀ (pins : List (Addr × Obj)) (s : Shared) (σ : St) (H : Hp) (x y : V) (v u : Value) (Q : VK), Inv X pins σ H s → RelV x v → RelV y u → r x y H Q →
    wpAny (model X.prog X.w) X.A (f v u) (EP X pins σ Q) X.xe s
def UnR (X : Cx) (f : Value → Sem Value) (r : V → Hp → VK → Prop) : Prop :=
  ∀ (pins : List (Addr × Obj)) (s : Shared) (σ : St) (H : Hp) (x : V) (v : Value) (Q : VK), Inv X pins σ H s → RelV x v → r x H Q →
    wpAny (model X.prog X.w) X.A (f v) (EP X pins σ Q) X.xe s
def CallR (X : Cx) (f : Value) (r : List V → Hp → VK → Prop) : Prop :=
  ∀ (pins : List (Addr × Obj)) (s : Shared) (σ : St) (H : Hp) (xs : List V) (us : List Value) (Q : VK), Inv X pins σ H s → Vals xs us → r xs H Q →
    wpAny (model X.prog X.w) X.A (call f us) (EP X pins σ Q) X.xe s
def tOp (r : R2) (ta tb : TE) : TE := fun σ H Q => ta σ H fun x H1 => tb σ H1 fun y H2 => r x y H2 Q
def tUn (r : V → Hp → VK → Prop) (ta : TE) : TE := fun σ H Q => ta σ H fun x H1 => r x H1 Q
def rI (C : Int → Int → Prop) (g : Int → Int → V) : R2 := fun x y H Q => ∃ i j, x = .int i ∧ y = .int j ∧ C i j ∧ Q (g i j) H
def rI0 (g : Int → Int → V) : R2 := fun x y H Q => ∃ i j, x = .int i ∧ y = .int j ∧ Q (g i j) H
def rU (g : Int → V) : V → Hp → VK → Prop := fun x H Q => ∃ i, x = .int i ∧ Q (g i) H
section
variable {X : Cx} {a b c : Expr} {ta tb tc : TE} {pos : Pos}
theorem binT (ha : PE X a ta) (hb : PE X b tb) {pins : List (Addr × Obj)} {s : Shared} {σ : St} {H : Hp} {R : V → V → Hp → Prop} (I : Inv X pins σ H s)
    (h : ta σ H fun x H1 => tb σ H1 fun y H2 => R x y H2) {Q : Value → Shared → Prop} {f : Value → Value → Sem Value}
    (hf : ∀ v u s2 x y H2, Inv X pins σ H2 s2 → RelV x v → RelV y u → R x y H2 → wpAny (model X.prog X.w) X.A (f v u) Q X.xe s2) :
    wpAny (model X.prog X.w) X.A (eval a X.env) (fun v s₁ => wpAny (model X.prog X.w) X.A (eval b X.env) (fun u s₂ => wpAny (model X.prog X.w) X.A (f v u) Q X.xe s₂) X.xe s₁) X.xe s := by
  refine thn (ha pins s σ H _ I h) fun v s1 ⟨x, H1, I1, r1, q1⟩ => ?_
  refine thn (hb pins s1 σ H1 _ I1 q1) fun u s2 ⟨y, H2, I2, r2, q2⟩ => ?_
  exact hf v u s2 x y H2 I2 r1 r2 q2
theorem pe_op {op : Operator} {r : R2} (ho : OpR X (binaryOp op) r) (ha : PE X a ta) (hb : PE X b tb) : PE X (.BinOp a op b pos) (tOp r ta tb) := by
  intro pins s σ H Q I h
  exact wpAny_BinOp (binT ha hb I h fun v u s2 x y H2 I2 rx ry q => ho pins s2 σ H2 x y v u Q I2 rx ry q)
theorem pe_un {op : UnaryOp} {r : V → Hp → VK → Prop} (ho : UnR X (unaryOp op) r) (ha : PE X a ta) : PE X (.UnaryOp op a pos) (tUn r ta) := by
  intro pins s σ H Q I h
  exact UnaryOp_ (thn (ha pins s σ H _ I h) fun v s1 ⟨x, H1, I1, r1, q1⟩ => ho pins s1 σ H1 x v Q I1 r1 q1)
theorem opI {f : Value → Value → Sem Value} {C : Int → Int → Prop} {g : Int → Int → Int}
    (rule : ∀ (i j : Int) (t u : Tok) (s : Shared) (Q : Value → Shared → Prop) (E : Value → Shared → Prop), C i j → Q (.int (g i j) s.toks) { s with toks := s.toks + 1 } → wpAny (model X.prog X.w) X.A (f (.int i t) (.int j u)) Q E s) :
    OpR X f (rI C fun i j => .int (g i j)) := by
  intro pins s σ H x y v u Q I rx ry h
  obtain ⟨i, j, rfl, rfl, hc, q⟩ := h
  obtain ⟨t, rfl⟩ := rx
  obtain ⟨t', rfl⟩ := ry
  exact rule i j t t' s _ _ hc ⟨.int (g i j), H, I.tok _, ⟨_, rfl⟩, q⟩
theorem opI0 {f : Value → Value → Sem Value} {g : Int → Int → Int}
    (rule : ∀ (i j : Int) (t u : Tok) (s : Shared) (Q : Value → Shared → Prop) (E : Value → Shared → Prop), Q (.int (g i j) s.toks) { s with toks := s.toks + 1 } → wpAny (model X.prog X.w) X.A (f (.int i t) (.int j u)) Q E s) :
    OpR X f (rI0 fun i j => .int (g i j)) := by
  intro pins s σ H x y v u Q I rx ry h
  obtain ⟨i, j, rfl, rfl, q⟩ := h
  obtain ⟨t, rfl⟩ := rx
  obtain ⟨t', rfl⟩ := ry
  exact rule i j t t' s _ _ ⟨.int (g i j), H, I.tok _, ⟨_, rfl⟩, q⟩
theorem opB0 {f : Value → Value → Sem Value} {g : Int → Int → Bool}
    (rule : ∀ (i j : Int) (t u : Tok) (s : Shared) (Q : Value → Shared → Prop) (E : Value → Shared → Prop), Q (.bool (g i j)) s → wpAny (model X.prog X.w) X.A (f (.int i t) (.int j u)) Q E s) :
    OpR X f (rI0 fun i j => .bl (g i j)) := by
  intro pins s σ H x y v u Q I rx ry h
  obtain ⟨i, j, rfl, rfl, q⟩ := h
  obtain ⟨t, rfl⟩ := rx
  obtain ⟨t', rfl⟩ := ry
  exact rule i j t t' s _ _ ⟨.bl (g i j), H, I, rfl, q⟩
def CDiv (i j : Int) : Prop := 0 < j ∧ j < 1073741824
def CPow (i j : Int) : Prop := 0 ≤ j ∧ j ≤ 1000000 ∧ i.natAbs < 2 ^ 64
def CMul (i j : Int) : Prop := (-(2 ^ 64) < i ∧ i < 2 ^ 64) ∨ (-(2 ^ 64) < j ∧ j < 2 ^ 64)
theorem CMul.ok {i j : Int} (h : CMul i j) : IntMulOk i j := by
  rcases h with ⟨h1, h2⟩ | ⟨h1, h2⟩
  · exact .of_left (intBits_le_64 h1 h2)
  · exact .of_right (intBits_le_64 h1 h2)
theorem op_add : OpR X (binaryOp .Add) (rI0 fun i j => .int (i + j)) := opI0 fun _ _ _ _ _ _ _ q => add_int q
theorem op_sub : OpR X (binaryOp .Sub) (rI0 fun i j => .int (i - j)) := opI0 fun _ _ _ _ _ _ _ q => sub_int q
theorem op_mul : OpR X (binaryOp .Mult) (rI CMul fun i j => .int (i * j)) := opI fun _ _ _ _ _ _ _ hc q => mul_int q hc.ok
theorem op_fdiv : OpR X (binaryOp .FloorDiv) (rI CDiv fun i j => .int (i / j)) := opI fun i j _ _ _ _ _ hc q => by
  have h1 : (0 : Int) < j := hc.1
  have h2 : j < 1073741824 := hc.2
  exact floordiv_int (by omega) (by rw [Int.fdiv_eq_ediv_of_nonneg i (by omega)]; exact q) (.inl (PyProof.noPylong_small (by omega)))
theorem op_mod : OpR X (binaryOp .Mod) (rI (fun _ j => 0 < j) fun i j => .int (i % j)) := opI fun i j _ _ _ _ _ hc q => by
  have h1 : (0 : Int) < j := hc
  exact mod_int' (by omega) (by rw [Int.fmod_eq_emod_of_nonneg i (by omega)]; exact q)
theorem op_pow : OpR X (binaryOp .Pow) (rI CPow fun i j => .int (i ^ j.toNat)) := opI fun _ _ _ _ _ _ _ hc q => pow_int_small hc.1 hc.2.1 hc.2.2 q
theorem unI {f : Value → Sem Value} {g : Int → Int}
    (rule : ∀ (i : Int) (t : Tok) (s : Shared) (Q : Value → Shared → Prop) (E : Value → Shared → Prop), Q (.int (g i) s.toks) { s with toks := s.toks + 1 } → wpAny (model X.prog X.w) X.A (f (.int i t)) Q E s) :
    UnR X f (rU fun i => .int (g i)) := by
  intro pins s σ H x v Q I rx h
  obtain ⟨i, rfl, q⟩ := h
  obtain ⟨t, rfl⟩ := rx
  exact rule i t s _ _ ⟨.int (g i), H, I.tok _, ⟨_, rfl⟩, q⟩
theorem un_neg : UnR X (unaryOp .USub) (rU fun i => .int (-i)) := unI fun _ _ _ _ _ q => neg_int q
end
def scal : V → V → Bool
  | .non, .non => true | .non, .int _ => true | .int _, .non => true | .non, .bl _ => true | .bl _, .non => true | .non, .str _ => true | .str _, .non => true
  | .int _, .int _ => true | .bl _, .bl _ => true | .str _, .str _ => true | .byt _, .byt _ => true
  | .int _, .str _ => true | .str _, .int _ => true | .bl _, .str _ => true | .str _, .bl _ => true
  | _, _ => false
def rEq : R2 := fun x y H Q => scal x y = true ∧ Q (.bl (decide (x = y))) H
def rNe : R2 := fun x y H Q => scal x y = true ∧ Q (.bl (!decide (x = y))) H
theorem dec_int {i j : Int} : decide (V.int i = V.int j) = (i == j) := by
  rw [Bool.eq_iff_iff]
  simp
theorem dec_bl {i j : Bool} : decide (V.bl i = V.bl j) = (i == j) := by
  rw [Bool.eq_iff_iff]
  simp
theorem dec_str {i j : Str} : decide (V.str i = V.str j) = (i == j) := by
  rw [Bool.eq_iff_iff]
  simp
theorem dec_byt {i j : Array UInt8} : decide (V.byt i = V.byt j) = (i.toList == j.toList) := by
  rw [Bool.eq_iff_iff]
  cases i
  cases j
  simp
section
variable {X : Cx} {a b c : Expr} {ta tb tc : TE} {pos : Pos}
theorem fin_bl {pins : List (Addr × Obj)} {σ : St} {H : Hp} {s : Shared} {Q : VK} {k k' : Bool} (I : Inv X pins σ H s) (q : Q (.bl k) H) (e : k = k') : EP X pins σ Q (.bool k') s := by
  subst e
  exact ⟨.bl k, H, I, rfl, q⟩
theorem op_eq : OpR X (compareOp .Eq) rEq := by
  intro pins s σ H x y v u Q I rx ry h
  obtain ⟨hs, q⟩ := h
  cases x with
  | non =>
    cases rx
    cases y with
    | non => cases ry; exact PySem.EqNone.eq_none_none (fin_bl I q (by simp))
    | bl j => cases ry; exact PySem.EqNone.eq_none_bool (fin_bl I q (by simp))
    | int j => obtain ⟨t', rfl⟩ := ry; exact PySem.EqNone.eq_none_int (fin_bl I q (by simp))
    | str j => obtain ⟨t', rfl⟩ := ry; exact PySem.EqNone.eq_none_str (fin_bl I q (by simp))
    | _ => exact absurd (show false = true from hs) Bool.false_ne_true
  | bl i =>
    cases rx
    cases y with
    | non => cases ry; exact PySem.EqNone.eq_bool_none (fin_bl I q (by simp))
    | bl j => cases ry; exact eq_bool (fin_bl I q dec_bl)
    | str j => obtain ⟨t', rfl⟩ := ry; exact PySem.EqMixed.eq_bool_str (fin_bl I q (by simp))
    | _ => exact absurd (show false = true from hs) Bool.false_ne_true
  | int i =>
    obtain ⟨t, rfl⟩ := rx
    cases y with
    | non => cases ry; exact PySem.EqNone.eq_int_none (fin_bl I q (by simp))
    | int j => obtain ⟨t', rfl⟩ := ry; exact eq_int (fin_bl I q dec_int)
    | str j => obtain ⟨t', rfl⟩ := ry; exact PySem.EqMixed.eq_int_str (fin_bl I q (by simp))
    | _ => exact absurd (show false = true from hs) Bool.false_ne_true
  | str i =>
    obtain ⟨t, rfl⟩ := rx
    cases y with
    | non => cases ry; exact PySem.EqNone.eq_str_none (fin_bl I q (by simp))
    | bl j => cases ry; exact PySem.EqMixed.eq_str_bool (fin_bl I q (by simp))
    | int j => obtain ⟨t', rfl⟩ := ry; exact PySem.EqMixed.eq_str_int (fin_bl I q (by simp))
    | str j => obtain ⟨t', rfl⟩ := ry; exact eq_str (fin_bl I q dec_str)
    | _ => exact absurd (show false = true from hs) Bool.false_ne_true
  | byt i =>
    obtain ⟨t, rfl⟩ := rx
    cases y with
    | byt j => obtain ⟨t', rfl⟩ := ry; exact PySem.W.eq_bytes (fin_bl I q dec_byt)
    | _ => exact absurd (show false = true from hs) Bool.false_ne_true
  | _ => cases y <;> exact absurd (show false = true from hs) Bool.false_ne_true
theorem op_ne : OpR X (compareOp .NotEq) rNe := by
  intro pins s σ H x y v u Q I rx ry h
  obtain ⟨hs, q⟩ := h
  cases x with
  | non =>
    cases rx
    cases y with
    | non => cases ry; exact PySem.EqNone.ne_none_none (fin_bl I q (by simp))
    | bl j => cases ry; exact PySem.EqNone.ne_none_bool (fin_bl I q (by simp))
    | int j => obtain ⟨t', rfl⟩ := ry; exact PySem.EqNone.ne_none_int (fin_bl I q (by simp))
    | str j => obtain ⟨t', rfl⟩ := ry; exact PySem.EqNone.ne_none_str (fin_bl I q (by simp))
    | _ => exact absurd (show false = true from hs) Bool.false_ne_true
  | bl i =>
    cases rx
    cases y with
    | non => cases ry; exact PySem.EqNone.ne_bool_none (fin_bl I q (by simp))
    | bl j => cases ry; exact ne_bool (fin_bl I q (congrArg not dec_bl))
    | str j => obtain ⟨t', rfl⟩ := ry; exact PySem.EqMixed.ne_bool_str (fin_bl I q (by simp))
    | _ => exact absurd (show false = true from hs) Bool.false_ne_true
  | int i =>
    obtain ⟨t, rfl⟩ := rx
    cases y with
    | non => cases ry; exact PySem.EqNone.ne_int_none (fin_bl I q (by simp))
    | int j => obtain ⟨t', rfl⟩ := ry; exact ne_int (fin_bl I q (congrArg not dec_int))
    | str j => obtain ⟨t', rfl⟩ := ry; exact PySem.EqMixed.ne_int_str (fin_bl I q (by simp))
    | _ => exact absurd (show false = true from hs) Bool.false_ne_true
  | str i =>
    obtain ⟨t, rfl⟩ := rx
    cases y with
    | non => cases ry; exact PySem.EqNone.ne_str_none (fin_bl I q (by simp))
    | bl j => cases ry; exact PySem.EqMixed.ne_str_bool (fin_bl I q (by simp))
    | int j => obtain ⟨t', rfl⟩ := ry; exact PySem.EqMixed.ne_str_int (fin_bl I q (by simp))
    | str j => obtain ⟨t', rfl⟩ := ry; exact ne_str (fin_bl I q (congrArg not dec_str))
    | _ => exact absurd (show false = true from hs) Bool.false_ne_true
  | byt i =>
    obtain ⟨t, rfl⟩ := rx
    cases y with
    | byt j => obtain ⟨t', rfl⟩ := ry; exact PySem.W.ne_bytes (fin_bl I q (congrArg not dec_byt))
    | _ => exact absurd (show false = true from hs) Bool.false_ne_true
  | _ => cases y <;> exact absurd (show false = true from hs) Bool.false_ne_true
theorem op_lt : OpR X (compareOp .Lt) (rI0 fun i j => .bl (decide (i < j))) := opB0 fun _ _ _ _ _ _ _ q => lt_int q
theorem op_le : OpR X (compareOp .LtE) (rI0 fun i j => .bl (decide (i ≤ j))) := opB0 fun _ _ _ _ _ _ _ q => le_int q
theorem op_gt : OpR X (compareOp .Gt) (rI0 fun i j => .bl (decide (j < i))) := opB0 fun _ _ _ _ _ _ _ q => gt_int q
theorem op_in_str : OpR X (compareOp .In) (fun x y H Q => ∃ i j, x = .str i ∧ y = .str j ∧ Q (.bl (!(Builtin.Str.occurrences j i 0 j.length 1).isEmpty)) H) := by
  intro pins s σ H x y v u Q I rx ry h
  obtain ⟨i, j, rfl, rfl, q⟩ := h
  obtain ⟨t, rfl⟩ := rx
  obtain ⟨t', rfl⟩ := ry
  exact in_str (fin_bl I q rfl)
theorem nomark (b : Expr) {op : CmpOp} (h : op ≠ .In := by decide) (h2 : op ≠ .NotIn := by decide) : behindInMarks op b = false := by
  have e1 : (op == CmpOp.In) = false := by cases op <;> first | rfl | exact absurd rfl h
  have e2 : (op == CmpOp.NotIn) = false := by cases op <;> first | rfl | exact absurd rfl h2
  cases b <;> simp [behindInMarks, e1, e2]
theorem pe_cmpR {op : CmpOp} {r : R2} (ho : OpR X (compareOp op) r) (ha : PE X a ta) (hb : PE X b tb) (hm : behindInMarks op b = false) : PE X (.Compare a [op] [b] pos) (tOp r ta tb) := by
  intro pins s σ H Q I h
  exact wpAny_Compare1 (binT ha hb I h fun v u s2 x y H2 I2 rx ry q => ho pins s2 σ H2 x y v u Q I2 rx ry q) hm
def tTest (t : TE) : TT := fun σ H Q => t σ H fun x H' => ∃ k, x = .bl k ∧ Q k H'
theorem pt_cmpR {op : CmpOp} {r : R2} (ho : OpR X (compareOp op) r) (ha : PE X a ta) (hb : PE X b tb) (hm : behindInMarks op b = false) : PT X (.Compare a [op] [b] pos) (tTest (tOp r ta tb)) := by
  intro pins s σ H Q I h
  refine wpAny_isTrue_Compare1 (thn (ha pins s σ H _ I h) fun v s1 ⟨x, H1, I1, r1, q1⟩ => thn (hb pins s1 σ H1 _ I1 q1) fun u s2 ⟨y, H2, I2, r2, q2⟩ =>
    thn (ho pins s2 σ H2 x y v u _ I2 r1 r2 q2) fun c s3 ⟨z, H3, I3, r3, k, e, q3⟩ => ?_) hm
  subst e
  cases r3
  exact wpAny_truthy_bool ⟨H3, I3, q3⟩
def tChain (r r' : R2) (ta tb tc : TE) : TE := fun σ H Q => ta σ H fun x H1 => tb σ H1 fun y H2 => r x y H2 fun z H3 => ∃ k, z = .bl k ∧
  (if k = true then tc σ H3 fun w' H4 => r' y w' H4 Q else Q (.bl false) H3)
theorem pe_chain {op op' : CmpOp} {r r' : R2} (ho : OpR X (compareOp op) r) (ho' : OpR X (compareOp op') r') (ha : PE X a ta) (hb : PE X b tb) (hc : PE X c tc)
    (hm : lastMarks [op, op'] [b, c] = false := by with_unfolding_all rfl) : PE X (.Compare a [op, op'] [b, c] pos) (tChain r r' ta tb tc) := by
  intro pins s σ H Q I h
  refine Compare_chain (thn (ha pins s σ H _ I h) fun v s1 ⟨x, H1, I1, r1, q1⟩ => chain_link (thn (hb pins s1 σ H1 _ I1 q1) fun u s2 ⟨y, H2, I2, r2, q2⟩ =>
    thn (ho pins s2 σ H2 x y v u _ I2 r1 r2 q2) fun d s3 ⟨z, H3, I3, r3, k, e, q3⟩ => ?_)) hm
  subst e
  cases r3
  refine wpAny_truthy_bool ?_
  cases k with
  | false => exact ite_ff ⟨.bl false, H3, I3, rfl, q3⟩
  | true => exact ite_tt (chain_last (thn (hc pins s3 σ H3 _ I3 q3) fun w' s4 ⟨z', H4, I4, r4, q4⟩ => ho' pins s4 σ H4 y z' u w' Q I4 r2 r4 q4))
theorem pt_chain {op op' : CmpOp} {r r' : R2} (ho : OpR X (compareOp op) r) (ho' : OpR X (compareOp op') r') (ha : PE X a ta) (hb : PE X b tb) (hc : PE X c tc)
    (hm : lastMarks [op, op'] [b, c] = false := by with_unfolding_all rfl) : PT X (.Compare a [op, op'] [b, c] pos) (tTest (tChain r r' ta tb tc)) := by
  intro pins s σ H Q I h
  refine isTrue_chain (thn (ha pins s σ H _ I h) fun v s1 ⟨x, H1, I1, r1, q1⟩ => test_link (thn (hb pins s1 σ H1 _ I1 q1) fun u s2 ⟨y, H2, I2, r2, q2⟩ =>
    thn (ho pins s2 σ H2 x y v u _ I2 r1 r2 q2) fun d s3 ⟨z, H3, I3, r3, k, e, q3⟩ => ?_)) hm
  subst e
  cases r3
  refine wpAny_truthy_bool ?_
  cases k with
  | false =>
    obtain ⟨k', e', q'⟩ := q3
    cases e'
    exact ite_ff ⟨H3, I3, q'⟩
  | true =>
    refine ite_tt (test_last (thn (hc pins s3 σ H3 _ I3 q3) fun w' s4 ⟨z', H4, I4, r4, q4⟩ => thn (ho' pins s4 σ H4 y z' u w' _ I4 r2 r4 q4) fun d' s5 ⟨z2, H5, I5, r5, k2, e2, q5⟩ => ?_))
    subst e2
    cases r5
    exact wpAny_truthy_bool ⟨H5, I5, q5⟩
theorem line63 : (sizeLine : Nat) < 2 ^ 63 := by rw [sizeLine_eq]; decide
theorem op_add_str : OpR X (binaryOp .Add) (fun x y H Q => ∃ i j, x = .str i ∧ y = .str j ∧ i.length + j.length ≤ sizeLine ∧ Q (.str (i ++ j)) H) := by
  intro pins s σ H x y v u Q I rx ry h
  obtain ⟨i, j, rfl, rfl, hz, q⟩ := h
  obtain ⟨t, rfl⟩ := rx
  obtain ⟨t', rfl⟩ := ry
  exact add_str (fun t' tk => ⟨.str (i ++ j), H, I.tok _, ⟨_, rfl⟩, q⟩) hz
theorem vals1 {x : V} {us : List Value} (r : Vals [x] us) : ∃ u, us = [u] ∧ RelV x u := by
  cases r with
  | cons r1 r2 => cases r2; exact ⟨_, rfl, r1⟩
theorem vals2 {x y : V} {us : List Value} (r : Vals [x, y] us) : ∃ u w', us = [u, w'] ∧ RelV x u ∧ RelV y w' := by
  cases r with
  | cons r1 r2 =>
    cases r2 with
    | cons r3 r4 => cases r4; exact ⟨_, _, rfl, r1, r3⟩
theorem call_min2 (hc : X.calm = true) : CallR X (.builtin "min") (fun xs H Q => ∃ i j, xs = [.int i, .int j] ∧ Q (.int (if j < i then j else i)) H) := by
  intro pins s σ H xs us Q I r h
  obtain ⟨i, j, rfl, q⟩ := h
  obtain ⟨u, w', rfl, ⟨t, rfl⟩, ⟨t', rfl⟩⟩ := vals2 r
  refine min_two_ints (I.ok.hd hc) fun h' tk k => ⟨_, H, I.kept k, ?_, q⟩
  by_cases hj : j < i
  · rw [if_pos hj, if_pos hj]; exact ⟨_, rfl⟩
  · rw [if_neg hj, if_neg hj]; exact ⟨_, rfl⟩
end
end L2
namespace L2
open PySem PySem.Spec PyProof.Rows
structure ObjM (h : Heap) (x dx C : Addr) (mA : Str → Option Value) : Prop where
  obj : h.get? x = some (PySem.W.instObj C dx)
  ns : h.Ns1 dx mA
  ne : dx ≠ x
theorem lookIn_ns {h : Heap} {dx : Addr} {mA : Str → Option Value} (n : h.Ns1 dx mA) : ∃ od, h.get? dx = some od ∧ ∀ name, PySem.W.lookIn name od = some (mA name) := by
  obtain ⟨o, es, ep, ho, hd, hk, _, hm⟩ := n
  refine ⟨o, ho, fun name => ?_⟩
  have e := hm name
  unfold nsFind findBy at e
  rw [← Array.find?_toList] at e
  unfold PySem.W.lookIn
  rw [hd]
  dsimp only
  split
  · rename_i y q
    rw [q] at e
    exact congrArg some e
  · rename_i q
    rw [q] at e
    have a : es.toList.any (·.refKey) = false := by
      rw [List.any_eq_false]
      intro y hy
      obtain ⟨z, t, hkey⟩ := hk y (Array.mem_toList_iff.mp hy)
      simp [DictEntry.refKey, hkey]
    have a' : ¬ es.toList.any (·.refKey) = true := by rw [a]; exact Bool.false_ne_true
    rw [if_neg a']
    exact congrArg some e
theorem ObjM.look {h : Heap} {x dx C : Addr} {mA : Str → Option Value} (I : ObjM h x dx C mA) : ∃ od, PySem.W.InstAt h x (PySem.W.instObj C dx) C (some od) ∧ ∀ name, PySem.W.lookIn name od = some (mA name) :=
  let ⟨od, ho, hl⟩ := lookIn_ns I.ns
  ⟨od, ⟨I.obj, rfl, rfl, ho⟩, hl⟩
section
variable {prog : Program} {w : World} {A : Around} {E : Value → Shared → Prop} {s : Shared} {K : PySem.W.Frag} {x dx C f : Addr} {mA : Str → Option Value} {name : Str} {v : Value}
end
section
variable {P : Program} {w : World} {H H' : Hp} {h h' : Heap} {a C dx : Addr} {fs fs' : List (Str × V)}
end
section
variable {X : Cx} {pins : List (Addr × Obj)} {σ : St} {H : Hp} {s : Shared} {a C dx : Addr} {fs : List (Str × V)} {f : Str} {v : V} {A : Around} {E : Value → Shared → Prop}
end
section
variable {X : Cx} {o e value : Expr} {f : Str} {pos pos' tpos : Pos} {ta tv : TE}
end
section
variable {X : Cx} {pins : List (Addr × Obj)} {σ : St} {H : Hp} {s : Shared} {A : Around} {E : Value → Shared → Prop} {Q : Value → Shared → Prop} {c : Value} {b : Bool}
end
end L2
namespace L2
open PySem PySem.Spec PyProof.Rows
structure Room (k : Nat) (A : Around) : Prop where
  hd : A.handled = none
  dp : A.depth + 3 * k + 5 < recursionLimit
  un : A.units + 16 * k + 200 < cLine
theorem Room.mono {j k : Nat} {A : Around} (r : Room k A) (h : j ≤ k) : Room j A := ⟨r.hd, by have := r.dp; omega, by have := r.un; omega⟩
theorem Room.deeper {k : Nat} {A : Around} (r : Room (k + 1) A) (env : Env) : Room k (A.deeper env) :=
  ⟨r.hd, by have := r.dp; show A.depth + 1 + 3 * k + 5 < _; omega, by have := r.un; show A.units + 3 + 16 * k + 200 < _; omega⟩
theorem Room.depth {k : Nat} {A : Around} (r : Room k A) : A.depth < recursionLimit := by have := r.dp; omega
theorem Room.units {k : Nat} {A : Around} (r : Room k A) : A.units + 64 < cLine := by have := r.un; omega
def tNil : TA := fun _ H Q => Q [] H
def tCons (ta : TE) (tr : TA) : TA := fun σ H Q => ta σ H fun x H1 => tr σ H1 fun xs H2 => Q (x :: xs) H2
section
variable {X : Cx} {e : Expr} {es : List Expr} {te : TE} {t : TA} {pos : Pos}
theorem pa_nil : PA X [] tNil := fun _ _ _ _ H Q I h => Calls.spliced_nil ⟨[], H, I, .nil, h⟩
theorem pa_cons (ha : PE X e te) (hr : PA X es t) (hs : starEach (e :: es) X.env = (false, eval e X.env) :: starEach es X.env := by rfl) : PA X (e :: es) (tCons te t) := by
  intro pos pins s σ H Q I h
  rw [hs]
  show wpAny _ _ (spliced ((false, eval e X.env) :: backTo pos (starEach es X.env))) _ _ s
  refine Calls.spliced_cons (thn (ha pins s σ H _ I h) fun u s1 ⟨x, H1, I1, r1, q1⟩ => ?_)
  exact thn (hr pos pins s1 σ H1 _ I1 q1) fun us s2 ⟨xs, H2, I2, r2, q2⟩ => ⟨x :: xs, H2, I2, .cons r1 r2, q2⟩
def tTup (t : TA) : TE := fun σ H Q => t σ H fun xs H1 => xs.length ≤ sizeLine ∧ ∀ p, H1 p = none → Q (.ref p) (upd H1 p (.tup xs))
def tLst (t : TA) : TE := fun σ H Q => t σ H fun xs H1 => xs.length ≤ sizeLine ∧ ∀ p, H1 p = none → Q (.ref p) (upd H1 p (.lst xs))
theorem pe_tup {x1} (h : PA X es t) : PE X (.Tuple es x1 pos) (tTup t) := by
  intro pins s σ H Q I hq
  refine wpAny_Tuple_spliced (thn (h pos pins s σ H _ I hq) fun us s1 ⟨xs, H1, I1, r, z, q⟩ => ⟨by rw [← r.length]; exact z, ?_⟩)
  have hf : H1 s1.heap.objs.size = none := I1.hok.fresh (Nat.le_refl _)
  refine ⟨.ref s1.heap.objs.size, upd H1 s1.heap.objs.size (.tup xs), I1.laid (t' := s1.toks) (fun b u e => Heap.get?_push_of_some _ e) (Nat.le_refl _) ?_, rfl, q _ hf⟩
  exact ⟨z, us, r, ⟨_, Heap.get?_push_size _ rfl, rfl, _, rfl⟩⟩
theorem pe_lst (h : PA X es t) : PE X (.List es pos) (tLst t) := by
  intro pins s σ H Q I hq
  refine wpAny_List_spliced (thn (h pos pins s σ H _ I hq) fun us s1 ⟨xs, H1, I1, r, z, q⟩ => ⟨by rw [← r.length]; exact z, ?_⟩)
  have hf : H1 s1.heap.objs.size = none := I1.hok.fresh (Nat.le_refl _)
  refine ⟨.ref s1.heap.objs.size, upd H1 s1.heap.objs.size (.lst xs), I1.laid (t' := s1.toks) (fun b u e => Heap.get?_push_of_some _ e) (Nat.le_refl _) ?_, rfl, q _ hf⟩
  exact ⟨z, us, 0, r, Heap.get?_push_size _ rfl⟩
end
abbrev Sp := List V → Hp → VK → XK → Prop
abbrev CXT := List Env → Hp → Shared → XK → Value → Shared → Prop
structure Env0 (P : Program) (w : World) (K : PySem.W.Frag) (mg : Str → Option Value) (base : Heap) (A : Around) (outer : List Env) (s : Shared) (H : Hp) : Prop where
  frames : A.frames = some outer
  mod : Mod K mg base
  bs : ∀ b o, base.get? b = some o → s.heap.get? b = some o ∧ H b = none
  bsz : base.objs.size ≤ s.heap.objs.size
  funs : s.heap.FunFrames base outer
  frf : ∀ b ∈ frs outer, H b = none
  hok : HOk P w H s.heap
  bare : AllBare s.gens
def CE (outer : List Env) (P : Program) (w : World) (H : Hp) (s : Shared) (Q : VK) (u : Value) (s' : Shared) : Prop :=
  ∃ v H', s'.os = s.os ∧ AllBare s'.gens ∧ Un (frs outer) [] H H' s.heap s'.heap ∧ HOk P w H' s'.heap ∧ RelV v u ∧ Q v H'
def CR (CX : CXT) (outer : List Env) (P : Program) (w : World) (H : Hp) (s : Shared) (Q : VK) (E : XK) (r : Result) (s' : Shared) : Prop :=
  match r with
  | .ok (.ret u) => CE outer P w H s Q u s'
  | .ok _ => False
  | .error e => CX outer H s E e s'
structure FnOk (P : Program) (w : World) (K : PySem.W.Frag) (mg : Str → Option Value) (base : Heap) (CX : CXT) (k : Nat) (f : Addr) (fd : FuncData) (ps : List Str) (sp : Sp) : Prop where
  len : ∀ vs H Q E, sp vs H Q E → vs.length = ps.length
  run : ∀ (A : Around) (outer : List Env) (s : Shared) (H : Hp) (args : Args) (us : List Value) (vs : List V) (Q : VK) (E : XK), Room k A → Env0 P w K mg base A outer s H → BindsTo s fd args (ps.zip us) → Vals vs us → sp vs H Q E →
    codeAny (model P w) A (.call (.ref f) args) (CR CX outer P w H s Q E) s
theorem FnOk.mono {P : Program} {w : World} {K : PySem.W.Frag} {mg : Str → Option Value} {base : Heap} {CX : CXT} {j k : Nat} {f : Addr} {fd : FuncData} {ps : List Str} {sp : Sp} (F : FnOk P w K mg base CX j f fd ps sp) (h : j ≤ k) :
    FnOk P w K mg base CX k f fd ps sp := ⟨F.len, fun A outer s H args us vs Q E hr => F.run A outer s H args us vs Q E (hr.mono h)⟩
section
variable {X : Cx} {pins : List (Addr × Obj)} {σ : St} {H : Hp} {s s' : Shared}
theorem Inv.env0 (I : Inv X pins σ H s) : Env0 X.prog X.w X.K X.mg X.base X.A X.stack s H :=
  ⟨I.ok.frames, I.ok.mod, I.bs, Nat.le_trans I.ok.bsz I.sz, I.stack, I.stkFree, I.hok, I.bare⟩
theorem Inv.after {Q : VK} {u : Value} (I : Inv X pins σ H s) (h : CE X.stack X.prog X.w H s Q u s') : EP X pins σ Q u s' := by
  obtain ⟨v, H', os, bare, un, hok, r, q⟩ := h
  obtain ⟨hh, g, d, t, os'⟩ := s'
  obtain rfl : os' = s.os := os
  exact ⟨v, H', I.call (h' := hh) (g' := g) (d' := d) (t' := t) (ch := []) un hok bare (fun b z => absurd z (by simp)), r, q⟩
end
def tCall (sp : Sp) (dvs : List V) (E : XK) (t : TA) : TE := fun σ H Q => t σ H fun vs H1 => sp (vs ++ dvs) H1 Q E
def Binds (K : PySem.W.Frag) (fd : FuncData) (ps : List Str) (ds : List Value) : Prop :=
  ∀ (s : Shared) (us : List Value), K.In s.heap → (us ++ ds).length = ps.length → BindsTo s fd ⟨us, []⟩ (ps.zip (us ++ ds))
theorem Binds.all {K : PySem.W.Frag} {fd : FuncData} {ps : List Str} (h : ∀ us : List Value, us.length = ps.length → bindArgs fd ⟨us, []⟩ = pure (ps.zip us)) : Binds K fd ps [] := fun s us _ hl => by
  rw [List.append_nil] at hl ⊢
  exact .of_eq (h us hl)
def Passes (CX : CXT) (X : Cx) (E : XK) : Prop := ∀ (pins : List (Addr × Obj)) (σ : St) (H : Hp) (s : Shared) (e : Value) (s' : Shared), Inv X pins σ H s → CX X.stack H s E e s' → X.xe e s'
section
variable {X : Cx} {CX : CXT} {k : Nat} {f C : Addr} {fd : FuncData} {ps : List Str} {sp : Sp} {dvs : List V} {ds : List Value} {E : XK} {x m : Str} {p pos apos : Pos} {e o : Expr} {es : List Expr} {ta : TE} {t : TA}
theorem run_fn {pins : List (Addr × Obj)} {σ : St} {H : Hp} {s : Shared} {Q : VK} {us : List Value} {vs : List V} (F : FnOk X.prog X.w X.K X.mg X.base CX k f fd ps sp) (hr : Room k X.A) (hb : Binds X.K fd ps ds) (hd : Vals dvs ds) (hx : Passes CX X E)
    (I : Inv X pins σ H s) (r : Vals vs us) (h : sp (vs ++ dvs) H Q E) : wpAny (model X.prog X.w) X.A (call (.ref f) us) (EP X pins σ Q) X.xe s := by
  have r2 : Vals (vs ++ dvs) (us ++ ds) := r.append hd
  have hl : (us ++ ds).length = ps.length := by rw [← r2.length]; exact F.len _ _ _ _ h
  refine wpAny_call (codeAny_mono (F.run X.A X.stack s H ⟨us, []⟩ (us ++ ds) (vs ++ dvs) Q E hr I.env0 (hb s us I.kIn hl) r2 h) fun r s' hq => ?_)
  cases r with
  | error e => exact hx pins σ H s e s' I hq
  | ok fl =>
    cases fl with
    | ret u => exact I.after hq
    | next => exact False.elim hq
    | brk => exact False.elim hq
    | cont => exact False.elim hq
theorem pe_call (F : FnOk X.prog X.w X.K X.mg X.base CX k f fd ps sp) (hr : Room k X.A) (hg : Gl X x) (hm : X.mg x = some (.ref f)) (hk : PySem.W.keepIn X.K (.ref f) = true) (hb : Binds X.K fd ps ds) (hd : Vals dvs ds) (hx : Passes CX X E)
    (ha : PA X (e :: es) t) (hdb : (x == ("__debug__" : Str)) = false := by decide) (he : starEach (e :: es) X.env = (false, eval e X.env) :: starEach es X.env := by rfl) (hpl : (backTo pos (starEach es X.env)).any (·.1) = false := by rfl) :
    PE X (.Call (.Name x p) (e :: es) [] pos) (tCall sp dvs E t) := by
  intro pins s σ H Q I h
  refine wpAny_Call_Name_kw (ld_glob I hg hm ?_ hdb)
  refine PySem.W.callWith_K (h₀ := X.base) I.ok.mod.kin hk (thn (ha pos pins s σ H _ I h) fun us s1 ⟨vs, H1, I1, r, q⟩ => ⟨I1.kIn, ?_⟩) he hpl
  exact run_fn F hr hb hd hx I1 r q
end
section
variable {X : Cx} {CX : CXT} {k : Nat} {f C : Addr} {fd : FuncData} {ps ks : List Str} {sp : Sp} {E : XK} {x m : Str} {p pos apos kpos : Pos} {e o : Expr} {es : List Expr} {kws : List Keyword} {te ta : TE} {t tk : TA} {nm : Option Str}
variable {g : List Value → List Value → List Value} {gV : List V → List V → List V}
end
structure FnScope (N P : List Str) (sc : Scope) : Prop where
  kind : sc.kind = .function
  co : sc.isCoroutine = false
  gen : sc.isGenerator = false
  nd : N.Nodup
  pre : N.take P.length = P
  par : ∀ x ∈ P, sc.names.lookup x = some .local ∨ sc.names.lookup x = some .cell
  nofree : ∀ y ∈ sc.names, y.2 ≠ .free
theorem bindL_out {kindOf : Str → Option NameKind} {x : Str} : ∀ {binds : List (Str × Value)} {m : Str → Option Value}, (∀ v, (x, v) ∉ binds) → bindL kindOf binds m x = m x
  | [], _, _ => rfl
  | (n, v) :: r, m, h => by
    unfold bindL
    rw [bindL_out fun w hw => h w (List.mem_cons_of_mem _ hw)]
    split
    · have : x ≠ n := by rintro rfl; exact h v List.mem_cons_self
      simp [this]
    · rfl
theorem bindC_out {kindOf : Str → Option NameKind} {x : Str} : ∀ {binds : List (Str × Value)} {m : Str → Option Value}, (∀ v, (x, v) ∉ binds) → bindC kindOf binds m x = m x
  | [], _, _ => rfl
  | (n, v) :: r, m, h => by
    unfold bindC
    rw [bindC_out fun w hw => h w (List.mem_cons_of_mem _ hw)]
    split
    · rfl
    · have : x ≠ n := by rintro rfl; exact h v List.mem_cons_self
      simp [this]
theorem bindL_get {kindOf : Str → Option NameKind} {x : Str} {v : Value} : ∀ {P : List Str} {vs : List Value} {i : Nat} {m : Str → Option Value}, P.Nodup → P[i]? = some x → vs[i]? = some v → kindOf x = some .local →
    bindL kindOf (P.zip vs) m x = some v
  | [], _, _, _, _, h, _, _ => by simp at h
  | _ :: _, [], _, _, _, _, h, _ => by simp at h
  | p :: P, w :: vs, 0, m, nd, h1, h2, hk => by
    simp at h1 h2; subst h1; subst h2
    show bindL kindOf ((p, w) :: P.zip vs) m p = _
    unfold bindL
    rw [bindL_out fun v hv => (List.nodup_cons.mp nd).1 (List.of_mem_zip hv).1, if_pos hk]
    simp
  | p :: P, w :: vs, i + 1, m, nd, h1, h2, hk => by
    show bindL kindOf ((p, w) :: P.zip vs) m x = _
    unfold bindL
    exact bindL_get (i := i) (List.nodup_cons.mp nd).2 (by simpa using h1) (by simpa using h2) hk
theorem bindC_get {kindOf : Str → Option NameKind} {x : Str} {v : Value} : ∀ {P : List Str} {vs : List Value} {i : Nat} {m : Str → Option Value}, P.Nodup → P[i]? = some x → vs[i]? = some v → kindOf x ≠ some .local →
    bindC kindOf (P.zip vs) m x = some v
  | [], _, _, _, _, h, _, _ => by simp at h
  | _ :: _, [], _, _, _, _, h, _ => by simp at h
  | p :: P, w :: vs, 0, m, nd, h1, h2, hk => by
    simp at h1 h2; subst h1; subst h2
    show bindC kindOf ((p, w) :: P.zip vs) m p = _
    unfold bindC
    rw [bindC_out fun v hv => (List.nodup_cons.mp nd).1 (List.of_mem_zip hv).1, if_neg hk]
    simp
  | p :: P, w :: vs, i + 1, m, nd, h1, h2, hk => by
    show bindC kindOf ((p, w) :: P.zip vs) m x = _
    unfold bindC
    exact bindC_get (i := i) (List.nodup_cons.mp nd).2 (by simpa using h1) (by simpa using h2) hk
def start (N : List Str) (vs : List V) : St := vs.map some ++ List.replicate (N.length - vs.length) none
def cxOf (CX : CXT) (P : Program) (w : World) (K : PySem.W.Frag) (mg : Str → Option Value) (base : Heap) (N : List Str) (qual : Str) (scope : Scope) (f : Addr) (cd : Value) (A : Around) (outer : List Env) (s : Shared) (H : Hp) (E : XK) : Cx where
  prog := P
  w := w
  K := K
  mg := mg
  base := base
  A := A.deeper (envOfC qual scope s.heap.objs.size f cd)
  N := N
  s₀ := s
  H₀ := H
  env := envOfC qual scope s.heap.objs.size f cd
  outer := outer
  stack := envOfC qual scope s.heap.objs.size f cd :: outer
  ex := []
  calm := true
  fn := fun _ => true
  pn := []
  xe := fun e s' => wpAny (model P w) (A.deeper (envOfC qual scope s.heap.objs.size f cd)) (leaving (envOfC qual scope s.heap.objs.size f cd) e) (fun _ s'' => CX outer H s E e s'') (fun e' s'' => CX outer H s E e' s'') s'
theorem cell_has {sc : Scope} {n : Nat} {x : Str} (h : sc.names.lookup x = some .cell) : ∃ c, (cellsFrom n sc.names []).lookup x = some c := by
  have q := PySem.W.cellsFrom_some sc.names n [] (.inl h)
  exact Option.isSome_iff_exists.mp q
theorem inv_start {CX : CXT} {P : Program} {w : World} {K : PySem.W.Frag} {mg : Str → Option Value} {base : Heap} {N ps : List Str} {qual : Str} {scope : Scope} {f : Addr} {cd : Value} {A : Around} {outer : List Env} {s s1 : Shared} {H : Hp} {E : XK} {us : List Value} {vs : List V}
    (S : FnScope N ps scope) (hd : A.handled = none) (e0 : Env0 P w K mg base A outer s H) (hl : vs.length = ps.length) (r : Vals vs us)
    (x : InCallC s s.heap.objs.size (bindL (envOfC qual scope s.heap.objs.size f cd).kindOf (ps.zip us) fun _ => none) (cellsFrom (s.heap.objs.size + 1) scope.names []) (bindC (envOfC qual scope s.heap.objs.size f cd).kindOf (ps.zip us) fun _ => none) s1) :
    Inv (cxOf CX P w K mg base N qual scope f cd A outer s H E) [] (start N vs) H s1 := by
  have hpl : ps.length ≤ N.length := by have := congrArg List.length S.pre; rw [List.length_take] at this; omega
  obtain ⟨h1, tk, rfl, hk⟩ := x.done
  have noA : ∀ b : Addr, b ∉ (cxOf CX P w K mg base N qual scope f cd A outer s H E).ex := fun b z => absurd (show b ∈ ([] : List Addr) from z) (by simp)
  refine ⟨⟨e0.mod, S.kind, rfl, rfl, Nat.le_refl _, fun y z c h1 h2 => ?_, fun y hy => ?_, fun y c _ h => ?_, fun _ => hd, Around.frames_deeper e0.frames, .inr ⟨rfl, rfl⟩, fun b z => absurd z (noA b), e0.bs, e0.bsz, fun b _ _ => noA b, fun b z => absurd z (noA b), e0.funs, e0.frf⟩,
    rfl, e0.bare, Un.kept hk, ⟨_, x.toInCall.ns, fun i y v h1 h2 h3 => ?_⟩, fun y c h => ⟨_, x.cell y c h⟩, e0.hok.fresh (Nat.le_refl _), fun y c h => ?_, fun p hp => absurd (show p ∈ ([] : List (Addr × Obj)) from hp) (by simp), e0.hok.kept hk, ?_⟩
  · exact name_of_addr x.apart (PySem.mem_of_lookup h1) (PySem.mem_of_lookup h2)
  · have hy : scope.names.lookup y = some .cell ∨ scope.names.lookup y = some .free := hy
    rcases hy with hy | hy
    · exact cell_has hy
    · exact absurd rfl (S.nofree _ (PySem.mem_of_lookup hy))
  · exact Nat.le_of_lt (x.above y c (PySem.mem_of_lookup h))
  · have hi : i < vs.length := by
      unfold start at h2
      by_cases hi : i < vs.length
      · exact hi
      · rw [List.getElem?_append_right (by simpa using hi)] at h2
        rw [List.getElem?_replicate] at h2
        split at h2 <;> cases h2
    have ha : vs[i]? = some v := by
      unfold start at h2
      rw [List.getElem?_append_left (by simpa using hi), List.getElem?_map] at h2
      cases e : vs[i]? with
      | none => rw [e] at h2; cases h2
      | some a => rw [e] at h2; cases h2; rfl
    obtain ⟨u, hu, rv⟩ := r.get ha
    have hp : ps[i]? = some y := by
      rw [← S.pre, List.getElem?_take_of_lt (by omega)]; exact h1
    have ndP : ps.Nodup := by rw [← S.pre]; exact S.nd.sublist (List.take_sublist _ _)
    refine ⟨u, rv, ?_⟩
    rcases S.par y (List.mem_of_getElem? hp) with k | k
    · exact .inl ⟨k, bindL_get ndP hp hu k⟩
    · obtain ⟨c, e⟩ := cell_has (n := s.heap.objs.size + 1) k
      refine .inr ⟨.inl k, c, e, ?_⟩
      have q := x.cell y c e
      rw [bindC_get ndP hp hu (by show scope.names.lookup y ≠ _; rw [k]; decide)] at q
      exact q
  · exact e0.hok.fresh (Nat.le_of_lt (x.above y c (PySem.mem_of_lookup h)))
  · unfold start
    show _ = N.length
    rw [List.length_append, List.length_map, List.length_replicate]
    omega
theorem fn_of {CX : CXT} {P : Program} {w : World} {K : PySem.W.Frag} {mg : Str → Option Value} {base : Heap} {k : Nat} {f : Addr} {name qual : Str} {params : Arguments} {body : List Stmt} {scope : Scope} {dV kV doc pm cdv ct oc : Value} {an od : Option Addr}
    {osl : Array (Option Value)} {N ps : List Str} {sp : Sp} (lk : K.lookup f = some ⟨oc, od, .func (PySem.W.fnOf name qual params body scope dV kV doc pm an cdv ct), osl⟩) (hcd : PySem.W.codeIn K cdv qual = true) (S : FnScope N ps scope)
    (len : ∀ vs H Q E, sp vs H Q E → vs.length = ps.length)
    (hbody : ∀ (A : Around) (outer : List Env) (s : Shared) (H : Hp) (vs : List V) (Q : VK) (E : XK), Room k (A.deeper (envOfC qual scope s.heap.objs.size f cdv)) → sp vs H Q E →
      ∃ t, PSs (cxOf CX P w K mg base N qual scope f cdv A outer s H E) body t ∧ t { nx := fun _ H' => Q .non H', rt := Q } (start N vs) H) :
    FnOk P w K mg base CX (k + 1) f (PySem.W.fnOf name qual params body scope dV kV doc pm an cdv ct) ps sp := by
  refine ⟨len, fun A outer s H args us vs Q E hr e0 hb r hsp => ?_⟩
  have hl := len _ _ _ _ hsp
  have KX : K.In s.heap := e0.mod.kin.keeps fun b o e => (e0.bs b o e).1
  have lim : s.heap.NoLimit := e0.mod.nolimit.keeps fun b o e => (e0.bs b o e).1
  have hkind : ∀ y ∈ ps.zip us, scope.names.lookup y.1 = some .local ∨ (scope.names.lookup y.1 = some .cell ∧ ((cellsFrom (s.heap.objs.size + 1) scope.names []).lookup y.1).isSome = true) := fun ⟨n, v⟩ hy => by
    rcases S.par n (List.of_mem_zip hy).1 with q | q
    · exact .inl q
    · exact .inr ⟨q, PySem.W.cellsFrom_some _ _ _ (.inl q)⟩
  refine codeAny_call_function hr.depth (KX _ _ lk) rfl S.co S.gen rfl (PySem.W.codeRec_of KX hcd) (hb _ _ _ _ ?_)
  refine wpAny_newFunctionEnv_cells S.kind hkind fun env he s1 x => ?_
  subst he
  refine ⟨lim.keeps x.toInCall.keep, codeAny_func ?_⟩
  obtain ⟨t, ht, hq⟩ := hbody A outer s H vs Q E (hr.deeper _) hsp
  have I : Inv (cxOf CX P w K mg base N qual scope f cdv A outer s H E) [] (start N vs) H s1 := inv_start S hr.hd e0 hl r x
  refine wpAny_mono (ht [] s1 (start N vs) H _ I hq) (fun fl s' hs => ?_) fun e s' hs => hs
  have fin : ∀ {σ' : St} {H' : Hp} {v : V} {u : Value}, Inv (cxOf CX P w K mg base N qual scope f cdv A outer s H E) [] σ' H' s' → RelV v u → Q v H' → CE outer P w H s Q u s' :=
    fun {σ' H' v u} J rv q => ⟨v, H', J.os, J.bare, J.base, J.hok, rv, q⟩
  cases fl with
  | ret u =>
    obtain ⟨v, σ', H', J, rv, q⟩ := hs
    exact fin J rv q
  | next =>
    obtain ⟨σ', H', J, q⟩ := hs
    exact fin (v := V.non) (u := Value.none) J rfl q
  | brk =>
    obtain ⟨_, _, _, q⟩ := hs
    exact False.elim q
  | cont =>
    obtain ⟨_, _, _, q⟩ := hs
    exact False.elim q
end L2
namespace L2
open PySem PySem.Spec PyProof.Rows
section
variable {X : Cx} {x : Str} {p pos : Pos} {e : Expr} {es : List Expr} {t : TA} {id T : String} {r : List V → Hp → VK → Prop}
def tCB (r : List V → Hp → VK → Prop) (t : TA) : TE := fun σ H Q => t σ H fun vs H1 => r vs H1 Q
theorem pe_callB (hc : CallR X (.builtin id) r) (hg : Gl X x) (hm : X.mg x = none) (hv : bootBuiltins x = some (.builtin id)) (ha : PA X (e :: es) t) (hn : x ≠ "__name__" := by decide) (hdb : (x == ("__debug__" : Str)) = false := by decide)
    (he : starEach (e :: es) X.env = (false, eval e X.env) :: starEach es X.env := by rfl) (hpl : (backTo pos (starEach es X.env)).any (·.1) = false := by rfl) : PE X (.Call (.Name x p) (e :: es) [] pos) (tCB r t) := by
  intro pins s σ H Q I h
  refine wpAny_Call_Name_kw (ld_blt I hg hm hv ?_ hn hdb)
  exact PyProof.Rows.callWith_builtin1 (thn (ha pos pins s σ H _ I h) fun us s1 ⟨vs, H1, I1, r1, q1⟩ => hc pins s1 σ H1 vs us Q I1 r1 q1) he hpl
theorem pe_callTy (hc : CallR X (.type T) r) (hg : Gl X x) (hm : X.mg x = none) (hv : bootBuiltins x = some (.type T)) (ha : PA X (e :: es) t) (hn : x ≠ "__name__" := by decide) (hdb : (x == ("__debug__" : Str)) = false := by decide)
    (he : starEach (e :: es) X.env = (false, eval e X.env) :: starEach es X.env := by rfl) (hpl : (backTo pos (starEach es X.env)).any (·.1) = false := by rfl) : PE X (.Call (.Name x p) (e :: es) [] pos) (tCB r t) := by
  intro pins s σ H Q I h
  refine wpAny_Call_Name_kw (ld_blt I hg hm hv ?_ hn hdb)
  exact PyProof.Rows.callWith_type1 (thn (ha pos pins s σ H _ I h) fun us s1 ⟨vs, H1, I1, r1, q1⟩ => hc pins s1 σ H1 vs us Q I1 r1 q1) he hpl
end
end L2
namespace HT
open PySem PyProof.Rows
section
open PySem.SeqAt
open PySem.AutoSeq1 (wpAny_loadPart')
open PySem.MeetsSeq PySem.MeetsSeq2 PySem.MeetsSeq3
end
section
variable {prog : Program} {w : World} {A : Around} {E : Value → Shared → Prop} {s : Shared}
def sIx (n d : Nat) : Option Int → Nat
  | none => d
  | some v => if v < 0 then (v + (n : Int)).toNat else min v.toNat n
theorem sIx_none (n d : Nat) : sIx n d none = d := rfl
theorem sIx_nat (n d k : Nat) : sIx n d (some (k : Int)) = min k n := by
  show (if (k : Int) < 0 then ((k : Int) + (n : Int)).toNat else min (k : Int).toNat n) = min k n
  rw [if_neg (by omega), Int.toNat_natCast]
theorem sIx_le (n d : Nat) (hd : d ≤ n) (o : Option Int) : sIx n d o ≤ n := by
  cases o with
  | none => exact hd
  | some v =>
    show (if v < 0 then (v + (n : Int)).toNat else min v.toNat n) ≤ n
    by_cases hv : v < 0
    · rw [if_pos hv]; omega
    · rw [if_neg hv]; exact Nat.min_le_right _ _
theorem clip_eq (v : Int) (n d : Nat) : (if v < 0 then max (v + (n : Int)) 0 else min v (n : Int)) = ((sIx n d (some v) : Nat) : Int) := by
  show (if v < 0 then max (v + (n : Int)) 0 else min v (n : Int)) = (((if v < 0 then (v + (n : Int)).toNat else min v.toNat n) : Nat) : Int)
  by_cases hv : v < 0
  · simp only [if_pos hv]; omega
  · simp only [if_neg hv]; omega
theorem adjust_gen (lo hi : Option Int) (n : Nat) : Builtin.Slice.sliceAdjust lo hi 1 (n : Int) = (((sIx n 0 lo : Nat) : Int), ((sIx n n hi : Nat) : Int)) := by
  have h1 : ¬ ((1 : Int) < 0) := by omega
  unfold Builtin.Slice.sliceAdjust
  simp only [h1, if_false]
  refine Prod.ext ?_ ?_
  · cases lo with
    | none => rfl
    | some v => exact clip_eq v n 0
  · cases hi with
    | none => rfl
    | some v => exact clip_eq v n n
theorem places_gen (i j : Nat) : Builtin.Slice.slicePlaces (i : Int) (j : Int) 1 = j - i := by
  unfold Builtin.Slice.slicePlaces
  have h1 : (1 : Int) > 0 := by omega
  simp only [h1, if_true, Int.ediv_one]
  split <;> omega
theorem slicePart_ {v : Value} {o : Option Int} {Q : Option Int → Shared → Prop} (p : IsPart v o) (h : Q o s) : wpAny (model prog w) A (Builtin.Slice.slicePartIndex v) Q E s := by
  cases p with
  | none => exact slicePart_none h
  | int i t => exact slicePart_int h
theorem sliceApplied_gen {sl : Addr} {vl vu : Value} {lo hi : Option Int} {n : Nat} {Q : Int × Int × Nat → Shared → Prop} (hs : s.heap.IsSliceOf sl vl vu .none) (pl : IsPart vl lo) (pu : IsPart vu hi)
    (h : Q (((sIx n 0 lo : Nat) : Int), 1, sIx n n hi - sIx n 0 lo) s) : wpAny (model prog w) A (Builtin.Slice.sliceApplied (.ref sl) (pure (n : Int))) Q E s := by
  obtain ⟨os, hos, hcs, hds⟩ := id hs
  unfold Builtin.Slice.sliceApplied Builtin.Slice.sliceFields
  refine wpAny_bind (wpAny_bind (wpAny_field hos hds (x := vl) rfl (wpAny_bind (wpAny_field hos hds (x := vu) rfl (wpAny_bind (wpAny_field hos hds (x := .none) rfl (wpAny_pure ?_)))))))
  refine wpAny_bind (slicePart_none ?_)
  show wpAny _ _ (if ((1 : Int) == 0) = true then _ else _) _ _ s
  rw [if_neg (by decide)]
  refine wpAny_bind (slicePart_ pl (wpAny_bind (slicePart_ pu (wpAny_bind (wpAny_pure ?_)))))
  show wpAny _ _ (match Builtin.Slice.sliceAdjust lo hi 1 (n : Int) with | (lo, hi) => pure (lo, (1 : Int), Builtin.Slice.slicePlaces lo hi 1)) _ _ s
  rw [adjust_gen lo hi n]
  show wpAny _ _ (pure (((sIx n 0 lo : Nat) : Int), (1 : Int), Builtin.Slice.slicePlaces ((sIx n 0 lo : Nat) : Int) ((sIx n n hi : Nat) : Int) 1)) _ _ s
  rw [places_gen]
  exact wpAny_pure h
theorem pick_gen (xs : Array Value) (i k : Nat) : ((List.range k).filterMap fun (m : Nat) => xs[((i : Int) + (m : Int) * 1).toNat]?).toArray = ((xs.toList.drop i).take k).toArray := by
  have e : (fun (m : Nat) => xs[((i : Int) + (m : Int) * 1).toNat]?) = fun m => xs[i + m]? := by
    funext m
    have : ((i : Int) + (m : Int) * 1).toNat = i + m := by omega
    rw [this]
  rw [e]
  have := pick_run xs i k
  rw [List.filterMap_map] at this
  have e2 : ((fun x => xs[x]?) ∘ fun x => i + x) = fun m => xs[i + m]? := rfl
  rw [e2] at this
  rw [this]
theorem getItem_tuple_cut {t sl : Addr} {items : Array Value} {vl vu : Value} {lo hi : Option Int} {Q : Value → Shared → Prop} (ht : IsTup s.heap t items) (hs : s.heap.IsSliceOf sl vl vu .none) (pl : IsPart vl lo) (pu : IsPart vu hi)
    (hw : ¬ (sIx items.size 0 lo = 0 ∧ sIx items.size items.size hi = items.size))
    (h : Q (.ref s.heap.objs.size) { s with heap := s.heap.push { cls := .type "tuple", data := .seq ((items.toList.drop (sIx items.size 0 lo)).take (sIx items.size items.size hi - sIx items.size 0 lo)).toArray } })
    (hsz : items.size ≤ sizeLine) : wpAny (model prog w) A (getItem (.ref t) (.ref sl)) Q E s := by
  have htake : sizeOk (.seq ((items.toList.drop (sIx items.size 0 lo)).take (sIx items.size items.size hi - sIx items.size 0 lo)).toArray) := by
    show ((items.toList.drop (sIx items.size 0 lo)).take (sIx items.size items.size hi - sIx items.size 0 lo)).toArray.size ≤ sizeLine
    rw [List.size_toArray, List.length_take, List.length_drop, Array.length_toList]
    omega
  have hj : sIx items.size items.size hi ≤ items.size := sIx_le _ _ (Nat.le_refl _) hi
  obtain ⟨os, hos, hcs, hds⟩ := id hs
  have hTs : s.TypeIs (.ref sl) "slice" := ⟨os, hos, hcs⟩
  unfold getItem
  try with_reducible refine wpAny_holding ?_
  first | refine wpAny_bind (wpAny_pure ?_) | skip
  refine wpAny_bind (wpAny_sequenceKey ht.typeIs (by decide) ?_)
  refine wpAny_bind (wpAny_callSpecial?_slot (name := Str.ofString "__getitem__") ht.typeIs PyProof.Rows.slot_tuple_getitem
    (wpAny_call_entry PyProof.Rows.slot_tuple_getitem ht.typeIs entry_tuple_getitem ?_ (args_tuple_getitem _ _)))
  show wpAny _ _ (Builtin.Tuple.tupleItemsOf (.ref t) >>= _) _ _ s
  refine wpAny_bind (tupleItemsOf_ ht ?_)
  refine wpAny_bind (wpAny_typeOf hTs ?_)
  rw [if_pos (by decide)]
  refine wpAny_bind (sliceApplied_gen hs pl pu ?_)
  have hno : ¬ ((((sIx items.size 0 lo : Nat) : Int) == 0 && (1 : Int) == 1 && (sIx items.size items.size hi - sIx items.size 0 lo) == items.size) = true) := by
    intro q
    rw [Bool.and_eq_true, Bool.and_eq_true] at q
    have q1 : ((sIx items.size 0 lo : Nat) : Int) = 0 := eq_of_beq q.1.1
    have q2 : sIx items.size items.size hi - sIx items.size 0 lo = items.size := eq_of_beq q.2
    exact hw ⟨by omega, by omega⟩
  show wpAny _ _ (if (((sIx items.size 0 lo : Nat) : Int) == 0 && (1 : Int) == 1 && (sIx items.size items.size hi - sIx items.size 0 lo) == items.size) = true then _ else _) _ _ s
  rw [if_neg hno, pick_gen]
  first
    | exact wpAny_bind (m := Builtin.Tuple.tupleExact _) (wpAny_newObj_type (wpAny_pure ⟨_, rfl, wpAny_pure h⟩) htake)
    | exact wpAny_bind (m := Builtin.Tuple.tupleExact _) (wpAny_newObj_type (wpAny_bind (wpAny_pure (wpAny_pure ⟨_, rfl, wpAny_pure h⟩))) htake)
    | exact wpAny_bind (wpAny_bind (m := Builtin.Tuple.tupleExact _) (wpAny_newObj_type (wpAny_pure (wpAny_pure ⟨_, rfl, wpAny_pure h⟩)) htake))
    | exact wpAny_bind (wpAny_bind (m := Builtin.Tuple.tupleExact _) (wpAny_newObj_type (wpAny_pure ⟨_, rfl, wpAny_pure h⟩) htake))
end
end HT
namespace L2
open PySem PySem.Spec PyProof.Rows
abbrev TO := St → Hp → (Option Int → Hp → Prop) → Prop
def PO (X : Cx) (e : Option Expr) (t : TO) : Prop :=
  ∀ (pins : List (Addr × Obj)) (s : Shared) (σ : St) (H : Hp) (Q : Option Int → Hp → Prop), Inv X pins σ H s → t σ H Q →
    wpAny (model X.prog X.w) X.A (evalPart e X.env) (fun u s' => ∃ o H', Inv X pins σ H' s' ∧ IsPart u o ∧ Q o H') X.xe s
def tNoPart : TO := fun _ H Q => Q none H
def tPart (t : TE) : TO := fun σ H Q => t σ H fun x H1 => ∃ i, x = .int i ∧ Q (some i) H1
section
variable {X : Cx} {e : Expr} {te : TE} {lo hi : Option Expr} {tl th : TO} {pos p2 : Pos}
theorem po_none : PO X none tNoPart := by
  intro pins s σ H Q I h
  rw [evalPart_none]
  exact wpAny_pure ⟨none, H, I, .none, h⟩
theorem po_some (h : PE X e te) : PO X (some e) (tPart te) := by
  intro pins s σ H Q I hw
  rw [evalPart_some]
  refine thn (h pins s σ H _ I hw) fun u s1 ⟨x, H1, I1, r1, q1⟩ => ?_
  obtain ⟨i, rfl, q⟩ := q1
  obtain ⟨t, rfl⟩ := r1
  exact ⟨some i, H1, I1, .int i t, q⟩
def SlR (X : Cx) (r : V → Option Int → Option Int → Hp → VK → Prop) : Prop :=
  ∀ (pins : List (Addr × Obj)) (s : Shared) (σ : St) (H : Hp) (x : V) (v vl vu : Value) (lo hi : Option Int) (sl : Addr) (Q : VK), Inv X pins σ H s → RelV x v → s.heap.IsSliceOf sl vl vu .none → IsPart vl lo → IsPart vu hi → r x lo hi H Q →
    ∃ T id, typeLookup (.type T) "__getitem__" = pure (some (.builtin id)) ∧ s.TypeIs v T ∧ wpAny (model X.prog X.w) X.A (getItem v (.ref sl)) (EP X pins σ Q) X.xe s
def tSl (r : V → Option Int → Option Int → Hp → VK → Prop) (te : TE) (tl th : TO) : TE := fun σ H Q => te σ H fun x H1 => tl σ H1 fun l H2 => th σ H2 fun u H3 => r x l u H3 Q
theorem pe_slice {r : V → Option Int → Option Int → Hp → VK → Prop} (hr : SlR X r) (he : PE X e te) (hl : PO X lo tl) (hu : PO X hi th) : PE X (.Subscript e (.Slice lo hi none p2) pos) (tSl r te tl th) := by
  intro pins s σ H Q I h
  refine Subscript_ (thn (he pins s σ H _ I h) fun v s1 ⟨x, H1, I1, r1, q1⟩ => ?_)
  refine wpAny_Slice (thn (hl pins s1 σ H1 _ I1 q1) fun vl s2 ⟨l, H2, I2, pl, q2⟩ => thn (hu pins s2 σ H2 _ I2 q2) fun vu s3 ⟨u, H3, I3, pu, q3⟩ => ?_)
  rw [evalPart_none]
  refine wpAny_pure ?_
  have I4 : Inv X pins σ H3 { s3 with heap := s3.heap.push { cls := .type "slice", data := .fields #[vl, vu, .none] } } := I3.kept (t' := s3.toks) fun b ob q => Heap.get?_push_of_some _ q
  obtain ⟨T, id, hT, ht, hg⟩ := hr pins { s3 with heap := s3.heap.push { cls := .type "slice", data := .fields #[vl, vu, .none] } } σ H3 x v vl vu l u s3.heap.objs.size Q I4 r1 (Heap.IsSliceOf.new ..) pl pu q3
  show wpAny (model X.prog X.w) X.A (subscriptTail e (.Slice lo hi none p2) v (.ref s3.heap.objs.size)) (EP X pins σ Q) X.xe { s3 with heap := s3.heap.push { cls := .type "slice", data := .fields #[vl, vu, .none] } }
  exact tail_any (ops := [.ref s3.heap.objs.size, v]) ht hT hg (by with_unfolding_all rfl)
def cutV (xs : List V) (lo hi : Option Int) : List V := (xs.drop (HT.sIx xs.length 0 lo)).take (HT.sIx xs.length xs.length hi - HT.sIx xs.length 0 lo)
theorem cutV_length (xs : List V) (lo hi : Option Int) : (cutV xs lo hi).length ≤ xs.length := by
  unfold cutV
  rw [List.length_take, List.length_drop]
  omega
def rSlT (K : PySem.W.Frag) : V → Option Int → Option Int → Hp → VK → Prop := fun x lo hi H Q => ∃ a xs, x = .ref a ∧ SqT K H a xs ∧
  ¬ (HT.sIx xs.length 0 lo = 0 ∧ HT.sIx xs.length xs.length hi = xs.length) ∧ ∀ p, H p = none → Q (.ref p) (upd H p (.tup (cutV xs lo hi)))
theorem sl_tup : SlR X (rSlT X.K) := by
  intro pins s σ H x v vl vu lo hi sl Q I rx hs pl pu h
  obtain ⟨a, xs, rfl, hx, hw, q⟩ := h
  cases rx
  obtain ⟨its, r, ht, hz⟩ := I.tuple hx
  have hlen : its.toArray.size = xs.length := by rw [List.size_toArray]; exact r.length.symm
  refine ⟨"tuple", _, PyProof.Rows.slot_tuple_getitem.lookup, ht.typeIs, ?_⟩
  refine HT.getItem_tuple_cut ht hs pl pu (by rw [hlen]; exact hw) ?_ (by rw [hlen]; exact hz)
  rw [hlen]
  refine ⟨.ref s.heap.objs.size, _, I.laid (t' := s.toks) (o := .tup (cutV xs lo hi)) (fun b ob q => Heap.get?_push_of_some _ q) (Nat.le_refl _) ?_, rfl, q _ (I.hok.fresh (Nat.le_refl _))⟩
  exact ⟨Nat.le_trans (cutV_length xs lo hi) hz, _, (r.drop (HT.sIx xs.length 0 lo)).take (HT.sIx xs.length xs.length hi - HT.sIx xs.length 0 lo), IsTup.new _ _⟩
end
end L2
namespace L2
open PySem PySem.Spec PyProof.Rows
def ixN (n : Nat) (i : Int) : Option Nat := if 0 ≤ i then (if i < n then some i.toNat else none) else if -(n : Int) ≤ i then some (i + n).toNat else none
def atI {α : Type} (xs : List α) (i : Int) : Option α := (ixN xs.length i).bind fun j => xs[j]?
theorem ixN_seq {n : Nat} {i : Int} {j : Nat} (h : ixN n i = some j) : seqIndex? i n = some j ∧ j < n ∧ -(n : Int) ≤ i ∧ i < n := by
  unfold ixN at h
  by_cases h0 : 0 ≤ i
  · rw [if_pos h0] at h
    by_cases h1 : i < n
    · rw [if_pos h1] at h
      have e : i.toNat = j := Option.some.inj h
      exact ⟨by rw [seqIndex_of h0 h1, e], by omega, by omega, h1⟩
    · rw [if_neg h1] at h; cases h
  · rw [if_neg h0] at h
    by_cases h1 : -(n : Int) ≤ i
    · rw [if_pos h1] at h
      have e : (i + n).toNat = j := Option.some.inj h
      exact ⟨by rw [seqIndex_neg (by omega) h1, e], by omega, h1, by omega⟩
    · rw [if_neg h1] at h; cases h
theorem atI_get {α : Type} {xs : List α} {i : Int} {v : α} (h : atI xs i = some v) : ∃ j, seqIndex? i xs.length = some j ∧ xs[j]? = some v ∧ j < xs.length ∧ -(xs.length : Int) ≤ i ∧ i < xs.length := by
  unfold atI at h
  cases e : ixN xs.length i with
  | none => rw [e] at h; cases h
  | some j =>
    rw [e] at h
    obtain ⟨h1, h2, h3, h4⟩ := ixN_seq e
    exact ⟨j, h1, h, h2, h3, h4⟩
theorem atI_nat {α : Type} {xs : List α} {j : Nat} {v : α} (h : xs[j]? = some v) : atI xs (j : Int) = some v := by
  have hj : j < xs.length := (List.getElem?_eq_some_iff.mp h).1
  have e : ixN xs.length (j : Int) = some j := by
    unfold ixN
    rw [if_pos (by omega), if_pos (by omega)]; simp
  unfold atI; rw [e]; exact h
theorem atI_last {α : Type} (xs : List α) (v : α) : atI (xs ++ [v]) (-1) = some v := by
  have hl : (xs ++ [v]).length = xs.length + 1 := by simp
  have e : ixN (xs ++ [v]).length (-1) = some xs.length := by
    unfold ixN
    rw [hl, if_neg (by decide), if_pos (by omega)]
    congr 1
    omega
  unfold atI
  rw [e]
  show (xs ++ [v])[xs.length]? = some v
  simp
def PlainIx (b : Expr) : Prop := ∀ o i, subscripted b false o i = operate [o, i] (getItem o i)
def IxR (X : Cx) (r : R2) : Prop :=
  ∀ (value slice : Expr) (pins : List (Addr × Obj)) (s : Shared) (σ : St) (H : Hp) (x y : V) (v u : Value) (Q : VK), Inv X pins σ H s → RelV x v → RelV y u → r x y H Q →
    subscripted slice false v u = operate [v, u] (getItem v u) → wpAny (model X.prog X.w) X.A (subscriptTail value slice v u) (EP X pins σ Q) X.xe s
def MtR (X : Cx) (id : String) (r : V → List V → Hp → VK → Prop) : Prop :=
  ∀ (pins : List (Addr × Obj)) (s : Shared) (σ : St) (H : Hp) (x : V) (xs : List V) (v : Value) (us : List Value) (Q : VK), Inv X pins σ H s → RelV x v → Vals xs us → r x xs H Q →
    wpAny (model X.prog X.w) X.A (call (.builtin id) (v :: us)) (EP X pins σ Q) X.xe s
section
variable {X : Cx} {a b : Expr} {ta tb : TE} {pos : Pos}
theorem pe_ix {r : R2} (hr : IxR X r) (ha : PE X a ta) (hb : PE X b tb) (hs : PlainIx b) : PE X (.Subscript a b pos) (tOp r ta tb) := by
  intro pins s σ H Q I h
  exact Subscript_ (binT ha hb I h fun v u s2 x y H2 I2 rx ry q => hr a b pins s2 σ H2 x y v u Q I2 rx ry q (hs _ _))
def rIxL (K : PySem.W.Frag) : R2 := fun x y H Q => ∃ p xs i v, x = .ref p ∧ y = .int i ∧ SqL K H p xs ∧ atI xs i = some v ∧ Q v H
def rIxT (K : PySem.W.Frag) : R2 := fun x y H Q => ∃ p xs i v, x = .ref p ∧ y = .int i ∧ SqT K H p xs ∧ atI xs i = some v ∧ Q v H
def rIxS : R2 := fun x y H Q => ∃ z i c, x = .str z ∧ y = .int i ∧ z.length ≤ sizeLine ∧ atI z.cps.toList i = some c ∧ Q (.str ⟨#[c]⟩) H
theorem ix_list : IxR X (rIxL X.K) := by
  intro value slice pins s σ H x y v u Q I rx ry h hs
  obtain ⟨p, xs, i, z, rfl, rfl, hq, he, q⟩ := h
  cases rx
  obtain ⟨t, rfl⟩ := ry
  obtain ⟨its, r, pl, hz⟩ := I.list hq
  obtain ⟨j, h1, h2, h3, h4, h5⟩ := atI_get he
  obtain ⟨w, ew, rw'⟩ := r.get h2
  have hl := r.length
  have hn := line63
  have fin : EP X pins σ Q w s := ⟨z, H, I, rw', q⟩
  by_cases h0 : 0 ≤ i
  · have hj : i.toNat = j := by
      rw [seqIndex_of h0 h5] at h1
      exact Option.some.inj h1
    exact item_listR pl.isList h0 (by omega) (by rw [hj]; simpa using ew) fin hs
  · have hj : (i + (its.toArray.size : Int)).toNat = j := by
      rw [seqIndex_neg (by omega) h4] at h1
      rw [List.size_toArray, ← hl]
      exact Option.some.inj h1
    exact subscriptTail_builtinR (x := w) pl.isList.typeIs slot_list_getitem.lookup
      (wpAny_getItem_list_neg (Q := fun r s' => r = w ∧ EP X pins σ Q r s') pl.isList (by omega) (by rw [List.size_toArray] <;> omega) (by omega) (by rw [hj]; simpa using ew) ⟨rfl, fin⟩) hs
theorem ix_tup : IxR X (rIxT X.K) := by
  intro value slice pins s σ H x y v u Q I rx ry h hs
  obtain ⟨p, xs, i, z, rfl, rfl, hq, he, q⟩ := h
  cases rx
  obtain ⟨t, rfl⟩ := ry
  obtain ⟨its, r, pl, hz⟩ := I.tuple hq
  obtain ⟨j, h1, h2, h3, h4, h5⟩ := atI_get he
  obtain ⟨w, ew, rw'⟩ := r.get h2
  have hl := r.length
  have hn := line63
  have fin : EP X pins σ Q w s := ⟨z, H, I, rw', q⟩
  exact subscriptTail_builtinR (x := w) pl.typeIs slot_tuple_getitem.lookup
    (getItem_tuple (j := j) (Q := fun r s' => r = w ∧ EP X pins σ Q r s') pl (by omega) (by omega) (by rw [List.size_toArray, ← hl]; exact h1) (by simpa using ew) ⟨rfl, fin⟩) hs
theorem ix_str : IxR X rIxS := by
  intro value slice pins s σ H x y v u Q I rx ry h hs
  obtain ⟨z, i, c, rfl, rfl, hz, he, q⟩ := h
  obtain ⟨t, rfl⟩ := rx
  obtain ⟨t', rfl⟩ := ry
  obtain ⟨j, h1, h2, h3, h4, h5⟩ := atI_get he
  have hl : z.cps.toList.length = z.length := by simp [Str.length]
  rw [hl] at h1 h4 h5
  have hn := line63
  exact tail_any (typeIs_str s z t) slot_str_getitem.lookup (getItem_str (c := c) (by
    have e1 : decide (i < -(2 ^ 63 : Int)) = false := decide_eq_false (by omega)
    have e2 : decide (i ≥ 2 ^ 63) = false := decide_eq_false (by omega)
    rw [e1, e2, Bool.or_false]) (by rw [h1]; simpa using h2) ⟨.str ⟨#[c]⟩, H, I.tok _, ⟨_, rfl⟩, q⟩) hs
theorem Inv.lst {pins : List (Addr × Obj)} {σ : St} {H : Hp} {s : Shared} {p : Addr} {xs : List V} (I : Inv X pins σ H s) (h : H p = some (.lst xs)) :
    ∃ (its : List Value) (n : Nat), Vals xs its ∧ s.heap.get? p = some { cls := .type "list", data := .seq its.toArray n } ∧ xs.length ≤ sizeLine := by
  obtain ⟨z, its, n, r, e⟩ := I.hok p _ h
  exact ⟨its, n, r, e, z⟩
theorem slice_bounds (lo hi : Option Int) (n : Nat) : (sliceBounds lo hi none n).1 = ((HT.sIx n 0 lo : Nat) : Int) ∧ (sliceBounds lo hi none n).2.1 = ((HT.sIx n n hi : Nat) : Int) ∧ (sliceBounds lo hi none n).2.2 = 1 := by
  refine ⟨?_, ?_, rfl⟩
  · cases lo with
    | none => simp [sliceBounds, HT.sIx]
    | some i =>
      simp only [sliceBounds, HT.sIx, Option.getD_none, show (1 : Int) > 0 by decide, if_true]
      by_cases h : i < 0
      · simp only [h, if_true] <;> omega
      · simp only [h, if_false] <;> omega
  · cases hi with
    | none => simp [sliceBounds, HT.sIx]
    | some i =>
      simp only [sliceBounds, HT.sIx, Option.getD_none, show (1 : Int) > 0 by decide, if_true]
      by_cases h : i < 0
      · simp only [h, if_true] <;> omega
      · simp only [h, if_false] <;> omega
theorem slicePick_cut (its : List Value) (lo hi : Option Int) : slicePick its.toArray lo hi none = ((its.drop (HT.sIx its.length 0 lo)).take (HT.sIx its.length its.length hi - HT.sIx its.length 0 lo)).toArray := by
  obtain ⟨h1, h2, h3⟩ := slice_bounds lo hi its.toArray.size
  unfold slicePick
  rw [h1, h2, h3]
  simp only [sliceRange_one, pick_run, List.size_toArray] <;> rfl
def rSlL (K : PySem.W.Frag) : V → Option Int → Option Int → Hp → VK → Prop := fun x lo hi H Q => ∃ a xs, x = .ref a ∧ SqL K H a xs ∧ ∀ p, H p = none → Q (.ref p) (upd H p (.lst (cutV xs lo hi)))
theorem sl_list : SlR X (rSlL X.K) := by
  intro pins s σ H x v vl vu lo hi sl Q I rx hs pl pu h
  obtain ⟨a, xs, rfl, hx, q⟩ := h
  cases rx
  obtain ⟨its, r, ht, hz⟩ := I.list hx
  have hlen := r.length
  refine ⟨"list", _, slot_list_getitem.lookup, ht.isList.typeIs, ?_⟩
  refine wpAny_getItem_list_slice ht.isList hs pl pu .none (by simp) ?_ (by rw [List.size_toArray] <;> omega)
  rw [slicePick_cut, ← hlen]
  refine ⟨.ref s.heap.objs.size, _, I.laid (t' := s.toks) (o := .lst (cutV xs lo hi)) (fun b ob q => Heap.get?_push_of_some _ q) (Nat.le_refl _) ?_, rfl, q _ (I.hok.fresh (Nat.le_refl _))⟩
  exact ⟨Nat.le_trans (cutV_length xs lo hi) hz, _, 0, (r.drop (HT.sIx xs.length 0 lo)).take (HT.sIx xs.length xs.length hi - HT.sIx xs.length 0 lo), Heap.get?_push_size _ rfl⟩
def flatV : V → Bool
  | .non => true
  | .bl _ => true
  | .int _ => true
  | .str _ => true
  | _ => false
def eqV : V → V → Bool
  | .non, .non => true
  | .bl a, .bl b => a == b
  | .bl a, .int b => (if a then 1 else 0) == b
  | .int a, .bl b => a == (if b then 1 else 0)
  | .int a, .int b => a == b
  | .str a, .str b => a == b
  | _, _ => false
theorem eqAt_V {A : Around} {s : Shared} {y x : V} {u v : Value} (ry : RelV y u) (rx : RelV x v) (fy : flatV y = true) (fx : flatV x = true) : SeqAt.EqAt A s u v (eqV y x) := by
  cases y with
  | non =>
    cases ry
    cases x with
    | non => cases rx; exact SeqAt.EqAt.same _
    | bl b => cases rx; exact SeqAt.EqAt.none_bool b
    | int b => obtain ⟨t, rfl⟩ := rx; exact SeqAt.EqAt.none_int b t
    | str b => obtain ⟨t, rfl⟩ := rx; exact SeqAt.EqAt.none_str b t
    | _ => exact absurd (show false = true from fx) Bool.false_ne_true
  | bl a =>
    cases ry
    cases x with
    | non => cases rx; exact SeqAt.EqAt.bool_none a
    | bl b => cases rx; exact SeqAt.EqAt.bool_bool a b
    | int b => obtain ⟨t, rfl⟩ := rx; exact SeqAt.EqAt.bool_int a b t
    | str b => obtain ⟨t, rfl⟩ := rx; exact SeqAt.EqAt.bool_str a b t
    | _ => exact absurd (show false = true from fx) Bool.false_ne_true
  | int a =>
    obtain ⟨t', rfl⟩ := ry
    cases x with
    | non => cases rx; exact SeqAt.EqAt.int_none a t'
    | bl b => cases rx; exact SeqAt.EqAt.int_bool a t' b
    | int b => obtain ⟨t, rfl⟩ := rx; exact SeqAt.EqAt.int_int a t' b t
    | str b => obtain ⟨t, rfl⟩ := rx; exact SeqAt.EqAt.int_str a t' b t
    | _ => exact absurd (show false = true from fx) Bool.false_ne_true
  | str a =>
    obtain ⟨t', rfl⟩ := ry
    cases x with
    | non => cases rx; exact SeqAt.EqAt.str_none a t'
    | bl b => cases rx; exact SeqAt.EqAt.str_bool a t' b
    | int b => obtain ⟨t, rfl⟩ := rx; exact SeqAt.EqAt.str_int a t' b t
    | str b => obtain ⟨t, rfl⟩ := rx; exact SeqAt.EqAt.str_str a t' b t
    | _ => exact absurd (show false = true from fx) Bool.false_ne_true
  | _ => exact absurd (show false = true from fy) Bool.false_ne_true
def eqU (x : V) (u : Value) : Bool := match u with
  | .none => eqV .non x
  | .bool b => eqV (.bl b) x
  | .int i _ => eqV (.int i) x
  | .str z _ => eqV (.str z) x
  | _ => false
theorem eqU_of {x y : V} {u : Value} (r : RelV y u) (f : flatV y = true) : eqU x u = eqV y x := by
  cases y with
  | non => cases r; rfl
  | bl b => cases r; rfl
  | int i => obtain ⟨t, rfl⟩ := r; rfl
  | str z => obtain ⟨t, rfl⟩ := r; rfl
  | _ => exact absurd (show false = true from f) Bool.false_ne_true
theorem any_eqU {x : V} : ∀ {xs : List V} {us : List Value}, Vals xs us → xs.all flatV = true → us.any (eqU x) = xs.any fun y => eqV y x
  | _, _, .nil, _ => rfl
  | y :: xs, u :: us, .cons r t, f => by
    rw [List.all_cons, Bool.and_eq_true] at f
    rw [List.any_cons, List.any_cons, eqU_of r f.1, any_eqU t f.2]
theorem mem_eqAt {A : Around} {s : Shared} {x : V} {v : Value} (rx : RelV x v) (fx : flatV x = true) : ∀ {xs : List V} {us : List Value}, Vals xs us → xs.all flatV = true → ∀ u ∈ us, SeqAt.EqAt A s u v (eqU x u)
  | _, _, .nil, _ => fun u hu => by cases hu
  | y :: xs, u :: us, .cons r t, f => fun u' hu => by
    rw [List.all_cons, Bool.and_eq_true] at f
    rcases List.mem_cons.mp hu with rfl | hu
    · rw [eqU_of r f.1]; exact eqAt_V r rx f.1 fx
    · exact mem_eqAt rx fx t f.2 u' hu
def inV (x : V) (xs : List V) : Bool := xs.any fun y => eqV y x
def rIn (K : PySem.W.Frag) (neg : Bool) : R2 := fun x y H Q => ∃ p xs, y = .ref p ∧ (SqL K H p xs ∨ SqT K H p xs) ∧ flatV x = true ∧ xs.all flatV = true ∧ Q (.bl (if neg then !inV x xs else inV x xs)) H
theorem op_notIn_seq : OpR X (compareOp .NotIn) (rIn X.K true) := by
  intro pins s σ H x y v u Q I rx ry h
  obtain ⟨p, xs, rfl, hq, fx, fs, q⟩ := h
  cases ry
  rcases hq with hq | hq
  · obtain ⟨its, r, pl, hz⟩ := I.list hq
    refine SeqAt.notIn_listAt (eqU x) pl.isList (fun w hw => mem_eqAt rx fx r fs w (by simpa using hw)) ⟨.bl _, H, I, rfl, ?_⟩
    rw [show its.toArray.any (eqU x) = its.any (eqU x) by simp, any_eqU r fs]
    exact q
  · obtain ⟨its, r, pl, hz⟩ := I.tuple hq
    refine SeqAt.notIn_tupleAt (eqU x) pl (fun w hw => mem_eqAt rx fx r fs w (by simpa using hw)) ⟨.bl _, H, I, rfl, ?_⟩
    rw [show its.toArray.any (eqU x) = its.any (eqU x) by simp, any_eqU r fs]
    exact q
theorem call_len_seq : CallR X (.builtin "len") (fun xs H Q => ∃ p ys, xs = [.ref p] ∧ (SqL X.K H p ys ∨ SqT X.K H p ys) ∧ Q (.int ys.length) H) := by
  intro pins s σ H xs us Q I r h
  obtain ⟨p, ys, rfl, hq, q⟩ := h
  obtain ⟨u, rfl, rx⟩ := vals1 r
  cases rx
  have hn := line63
  rcases hq with hq | hq
  · obtain ⟨its, r', pl, hz⟩ := I.list hq
    have hlen := r'.length
    exact Calls.call_len_list pl.isList (by simp only [List.size_toArray] <;> omega) ⟨.int ys.length, H, I.tok _, ⟨s.toks + 1, by rw [List.size_toArray, hlen]⟩, q⟩
  · obtain ⟨its, r', pl, hz⟩ := I.tuple hq
    have hlen := r'.length
    exact len_tuple pl (by simp only [List.size_toArray] <;> omega) ⟨.int ys.length, H, I.tok _, ⟨s.toks + 1, by rw [List.size_toArray, hlen]⟩, q⟩
theorem call_len_str : CallR X (.builtin "len") (fun xs H Q => ∃ z, xs = [.str z] ∧ z.length ≤ sizeLine ∧ Q (.int z.length) H) := by
  intro pins s σ H xs us Q I r h
  obtain ⟨z, rfl, hz, q⟩ := h
  obtain ⟨u, rfl, t, rfl⟩ := vals1 r
  have hn := line63
  exact len_str (by omega) ⟨.int z.length, H, I.tok _, ⟨_, rfl⟩, q⟩
def tyV (K : PySem.W.Frag) (T : String) (x : V) (H : Hp) : Prop := match x with
  | .str _ => T = "str"
  | .int _ => T = "int"
  | .ref p => (T = "list" ∧ ∃ xs, SqL K H p xs) ∨ (T = "tuple" ∧ ∃ o, K.lookup p = some o ∧ o.cls = .type "tuple" ∧ o.dict = none) ∨
      (T = "dict" ∧ ((∃ kvs, H p = some (.dK kvs)) ∨ ∃ kvs, H p = some (.dT kvs))) ∨ (T = "set" ∧ ∃ S n, H p = some (.set S n))
  | _ => False
theorem tyV_is {pins : List (Addr × Obj)} {σ : St} {H : Hp} {s : Shared} {T : String} {x : V} {v : Value} (I : Inv X pins σ H s) (r : RelV x v) (ty : tyV X.K T x H) :
    s.TypeIs v T ∧ ∀ a, v = .ref a → ∃ ob, s.heap.get? a = some ob ∧ ob.dict = none := by
  cases x with
  | str z =>
    obtain ⟨t, rfl⟩ := r
    cases (show T = "str" from ty)
    exact ⟨typeIs_str s z t, fun _ e => nomatch e⟩
  | int i =>
    obtain ⟨t, rfl⟩ := r
    cases (show T = "int" from ty)
    exact ⟨typeIs_int s i t, fun _ e => nomatch e⟩
  | ref p =>
    cases r
    rcases ty with ⟨rfl, xs, hq⟩ | ⟨rfl, o, hk, hc, hd⟩ | ⟨rfl, hk⟩ | ⟨rfl, S, n, hk⟩
    · obtain ⟨its, _, pl, _⟩ := I.list hq
      refine ⟨pl.isList.typeIs, fun a e => ?_⟩
      cases e
      obtain ⟨o, n, e, c, hd, _⟩ := pl
      exact ⟨o, e, hd⟩
    · refine ⟨⟨o, I.kIn p o hk, hc⟩, fun a e => ?_⟩
      cases e
      exact ⟨o, I.kIn _ o hk, hd⟩
    · have z : ∃ o, s.heap.get? p = some o ∧ o.ExactDict := by
        rcases hk with ⟨kvs, hk⟩ | ⟨kvs, hk⟩
        · obtain ⟨_, _, _, _, o, _, _, e, ex, _⟩ := I.hok p _ hk
          exact ⟨o, e, ex⟩
        · obtain ⟨_, _, _, _, o, _, _, e, ex, _⟩ := I.hok p _ hk
          exact ⟨o, e, ex⟩
      obtain ⟨o, e, ex⟩ := z
      refine ⟨⟨o, e, ex.1⟩, fun a e2 => ?_⟩
      cases e2
      exact ⟨o, e, ex.2.1⟩
    · obtain ⟨o, _, _, _, e, ex, _⟩ := I.hok p _ hk
      refine ⟨⟨o, e, ex.1⟩, fun a e2 => ?_⟩
      cases e2
      exact ⟨o, e, ex.2.1⟩
  | _ => exact False.elim ty
def tBM0 (K : PySem.W.Frag) (T : String) (r : V → List V → Hp → VK → Prop) (to : TE) : TE := fun σ H Q => to σ H fun x H1 => tyV K T x H1 ∧ r x [] H1 Q
def tBM (K : PySem.W.Frag) (T : String) (r : V → List V → Hp → VK → Prop) (to : TE) (t : TA) : TE := fun σ H Q => to σ H fun x H1 => tyV K T x H1 ∧ t σ H1 fun xs H2 => r x xs H2 Q
variable {o e : Expr} {es : List Expr} {to : TE} {t : TA} {name : Str} {apos cpos : Pos} {T id : String} {r : V → List V → Hp → VK → Prop}
theorem pe_bm0 (pa : PlainAttrs T) (slot : Slot T name id) (hty : typeOf (.builtin id) = pure (.type "method_descriptor")) (hm : MtR X id r) (ho : PE X o to)
    (hbase : attributeBase o name X.env (eval o X.env) = eval o X.env := by rfl) (hline : (apos.endLine == cpos.line) = true := by rfl) : PE X (.Call (.Attribute o name apos) [] [] cpos) (tBM0 X.K T r to) := by
  intro pins s σ H Q I h
  refine wpAny_Call_method0_late hbase hline (thn (ho pins s σ H _ I h) fun v s1 ⟨x, H1, I1, r1, ty, q1⟩ => ?_)
  obtain ⟨h1, h2⟩ := tyV_is I1 r1 ty
  exact ⟨T, id, pa, slot, hty, h1, h2, Calls.callWith_builtin rfl (PySem.evalArgs_none (hm pins s1 σ H1 x [] v [] Q I1 r1 .nil q1))⟩
theorem pe_bm (pa : PlainAttrs T) (slot : Slot T name id) (hty : typeOf (.builtin id) = pure (.type "method_descriptor")) (hm : MtR X id r) (ho : PE X o to) (ha : PA X (e :: es) t)
    (hbase : attributeBase o name X.env (eval o X.env) = eval o X.env := by rfl)
    (hfew : ((backTo cpos (starEach (e :: es) X.env)).all (fun x => !x.1) && (backToKw cpos (keywordEach [] X.env)).all (fun x => x.1.isSome)
      && decide ((e :: es).length + ([] : List Keyword).length + (if ([] : List Keyword).isEmpty then 0 else 1) < 30)) = true := by rfl)
    (hline : (apos.endLine == cpos.line) = true := by rfl) (hs : starEach (e :: es) X.env = (false, eval e X.env) :: starEach es X.env := by rfl) (hplain : (backTo cpos (starEach es X.env)).any (·.1) = false := by rfl) :
    PE X (.Call (.Attribute o name apos) (e :: es) [] cpos) (tBM X.K T r to t) := by
  intro pins s σ H Q I h
  refine wpAny_Call_method_late hbase hfew hline rfl (thn (ho pins s σ H _ I h) fun v s1 ⟨x, H1, I1, r1, ty, q1⟩ => ?_)
  obtain ⟨h1, h2⟩ := tyV_is I1 r1 ty
  refine ⟨T, id, pa, slot, hty, h1, h2, ?_⟩
  have hA := ha cpos pins s1 σ H1 _ I1 q1
  rw [hs] at hA ⊢
  refine Calls.callWith_builtin (by show (false || (backTo cpos (starEach es X.env)).any (·.1)) = false; rw [hplain] <;> rfl) (Calls.evalArgs_plain ?_)
  exact thn hA fun us s2 ⟨vs, H2, I2, r2, q2⟩ => hm pins s2 σ H2 x vs v us Q I2 r1 r2 q2
end
end L2
namespace L2
open PySem PySem.Spec PyProof.Rows
def MtM (X : Cx) (id : String) (r : V → List V → Hp → VK → Prop) : Prop :=
  ∀ (pins : List (Addr × Obj)) (s : Shared) (σ : St) (H : Hp) (x : V) (xs : List V) (v : Value) (us : List Value) (Q : VK), Inv X pins σ H s → RelV x v → Vals xs us → r x xs H Q →
    wpAny (model X.prog X.w) X.A (call (.builtin id) (v :: us)) (EP X pins σ Q) X.xe s
theorem Vals.one : ∀ {x : V} {us : List Value}, Vals [x] us → ∃ u, us = [u] ∧ RelV x u
  | _, _, .cons r .nil => ⟨_, rfl, r⟩
theorem Vals.two : ∀ {x y : V} {us : List Value}, Vals [x, y] us → ∃ u v, us = [u, v] ∧ RelV x u ∧ RelV y v
  | _, _, _, .cons r (.cons q .nil) => ⟨_, _, rfl, r, q⟩
theorem Vals.zero : ∀ {us : List Value}, Vals [] us → us = []
  | _, .nil => rfl
theorem Vals.dropLast {xs : List V} {us : List Value} (h : Vals xs us) : Vals xs.dropLast us.dropLast := by
  induction h with
  | nil => exact .nil
  | cons r t ih =>
    cases t with
    | nil => exact .nil
    | cons q t' => exact .cons r ih
theorem erase_last {α : Type} (l : List α) : l.eraseIdx (l.length - 1) = l.dropLast := by
  induction l with
  | nil => rfl
  | cons a r ih =>
    cases r with
    | nil => rfl
    | cons b r =>
      have e : (a :: b :: r).length - 1 = ((b :: r).length - 1) + 1 := by
        have h1 : (a :: b :: r).length = r.length + 2 := rfl
        have h2 : (b :: r).length = r.length + 1 := rfl
        omega
      rw [e, List.eraseIdx_cons_succ, ih]
      all_goals rfl
section
variable {X : Cx} {pins : List (Addr × Obj)} {σ : St} {H : Hp} {s : Shared} {l b : Addr} {xs ys zs : List V}
theorem Inv.lset {its its' : List Value} {n : Nat} {f : Array Value → Array Value} {t' : Nat} (I : Inv X pins σ H s) (hH : H l = some (.lst xs))
    (e : s.heap.get? l = some { cls := .type "list", data := .seq its.toArray n }) (hf : f its.toArray = its'.toArray) (hv : Vals ys its') (hz : ys.length ≤ sizeLine) :
    Inv X pins σ (upd H l (.lst ys)) { s with heap := s.heap.update l (Obj.mapSeq f), toks := t' } := by
  have q := PySem.IsL.update e f
  rw [hf] at q
  refine I.write (x := l) (e := l) (by rw [hH]; exact trivial) (.inl rfl) (fun b' u hb hu => (Heap.get?_update_other s.heap (Obj.mapSeq f) (Ne.symm hb)).trans hu) ⟨_, q⟩ ?_
  exact ⟨hz, its', _, hv, q⟩
theorem Inv.lnew {its : List Value} {t' : Nat} (I : Inv X pins σ H s) (hv : Vals ys its) (hz : ys.length ≤ sizeLine) :
    Inv X pins σ (upd H s.heap.objs.size (.lst ys)) { s with heap := s.heap.push { cls := .type "list", data := .seq its.toArray }, toks := t' } :=
  I.laid (fun _ _ q => Heap.get?_push_of_some _ q) (Nat.le_refl _) ⟨hz, its, 0, hv, Heap.get?_push_size _ rfl⟩
theorem Inv.fresh (I : Inv X pins σ H s) : H s.heap.objs.size = none := I.hok.fresh (Nat.le_refl _)
theorem Inv.lstM (I : Inv X pins σ H s) (hH : H l = some (.lst xs)) : xs.length ≤ sizeLine ∧ ∃ (its : List Value) (n : Nat), Vals xs its ∧ xs.length = its.length ∧ s.heap.get? l = some { cls := .type "list", data := .seq its.toArray n } := by
  obtain ⟨z, its, n, r, e⟩ := I.hok l _ hH
  exact ⟨z, its, n, r, r.length, e⟩
theorem notLongL {n : Nat} (h : n ≤ sizeLine) : Builtin.List.listTooLong n = false := by
  unfold Builtin.List.listTooLong
  exact decide_eq_false (by omega)
end
section
variable {X : Cx}
def rAppend : V → List V → Hp → VK → Prop := fun x vs H Q => ∃ l xs y, x = .ref l ∧ vs = [y] ∧ H l = some (.lst xs) ∧ xs.length < sizeLine ∧ Q .non (upd H l (.lst (xs ++ [y])))
theorem mt_append : MtM X "list.append" rAppend := by
  intro pins s σ H x vs v us Q I rx rv h
  obtain ⟨l, xs, y, rfl, rfl, hH, hz, q⟩ := h
  cases rx
  obtain ⟨u, rfl, ru⟩ := rv.one
  obtain ⟨z, its, n, r, hl, e⟩ := I.lstM hH
  refine call_meets F.slot_list_append ⟨_, e, rfl⟩ F.entry_list_append (F.args_list_append_2 _ _) (PySem.list_append l its.toArray n u (by rw [List.size_toArray]; omega)) ⟨e, ?_⟩
  refine ⟨.non, _, I.lset (its' := its ++ [u]) hH e (by simp) (r.append (.cons ru .nil)) ?_, rfl, q⟩
  rw [List.length_append, List.length_singleton]
  omega
def rExtend : V → List V → Hp → VK → Prop := fun x vs H Q => ∃ l b xs zs, x = .ref l ∧ vs = [.ref b] ∧ H l = some (.lst xs) ∧ H b = some (.lst zs) ∧ xs.length + zs.length ≤ sizeLine ∧ Q .non (upd H l (.lst (xs ++ zs)))
theorem mt_extend : MtM X "list.extend" rExtend := by
  intro pins s σ H x vs v us Q I rx rv h
  obtain ⟨l, b, xs, zs, rfl, rfl, hH, hB, hz, q⟩ := h
  cases rx
  obtain ⟨u, rfl, ru⟩ := rv.one
  cases ru
  obtain ⟨z, its, n, r, hl, e⟩ := I.lstM hH
  obtain ⟨z2, its2, n2, r2, hl2, e2⟩ := I.lstM hB
  have hsz : its.toArray.size + its2.toArray.size ≤ sizeLine := by rw [List.size_toArray, List.size_toArray]; omega
  have hlong : ¬ (!its.toArray.isEmpty && Builtin.List.listTooLong (its.toArray.size + its2.toArray.size)) = true := by
    rw [notLongL hsz, Bool.and_false]
    exact Bool.false_ne_true
  refine call_meets F.slot_list_extend ⟨_, e, rfl⟩ F.entry_list_extend (F.args_list_extend_2 _ _)
    (AutoSeq1.list_extend_list_list_0 l its.toArray n b its2.toArray n2 hlong (by rw [List.size_toArray]; omega) (by omega)) ⟨e, e2, ?_⟩
  refine ⟨.non, _, I.lset (its' := its ++ its2) hH e (by simp) (r.append r2) ?_, rfl, q⟩
  rw [List.length_append]
  omega
def rPop : V → List V → Hp → VK → Prop := fun x vs H Q => ∃ l xs y, x = .ref l ∧ vs = [] ∧ H l = some (.lst xs) ∧ xs[xs.length - 1]? = some y ∧ Q y (upd H l (.lst xs.dropLast))
theorem mt_pop : MtM X "list.pop" rPop := by
  intro pins s σ H x vs v us Q I rx rv h
  obtain ⟨l, xs, y, rfl, rfl, hH, hy, q⟩ := h
  cases rx
  have hus := rv.zero
  subst hus
  obtain ⟨z, its, n, r, hl, e⟩ := I.lstM hH
  obtain ⟨u, hu, ru⟩ := r.get hy
  have hy' : its.toArray[its.toArray.size - 1]? = some u := by
    show its.toArray[its.length - 1]? = some u
    rw [← Array.getElem?_toList, ← hl]
    exact hu
  refine call_meets F.slot_list_pop ⟨_, e, rfl⟩ F.entry_list_pop (F.args_list_pop_1 _) (MeetsSeq.list_pop_last l its.toArray n u hy' (by rw [List.size_toArray]; omega)) ⟨e, ?_⟩
  refine ⟨y, _, I.lset (its' := its.dropLast) hH e ?_ r.dropLast ?_, ru, q⟩
  · show its.toArray.eraseIdxIfInBounds (its.toArray.size - 1) = its.dropLast.toArray
    rw [List.size_toArray, List.eraseIdxIfInBounds_toArray, erase_last]
  · rw [List.length_dropLast]
    omega
def rCat : R2 := fun x y H Q => ∃ l b xs zs, x = .ref l ∧ y = .ref b ∧ H l = some (.lst xs) ∧ H b = some (.lst zs) ∧ xs.length + zs.length ≤ sizeLine ∧ ∀ p, H p = none → Q (.ref p) (upd H p (.lst (xs ++ zs)))
theorem op_cat : OpR X (binaryOp .Add) rCat := by
  intro pins s σ H x y v u Q I rx ry h
  obtain ⟨l, b, xs, zs, rfl, rfl, hH, hB, hz, q⟩ := h
  cases rx
  cases ry
  obtain ⟨z, its, n, r, hl, e⟩ := I.lstM hH
  obtain ⟨z2, its2, n2, r2, hl2, e2⟩ := I.lstM hB
  refine PySem.P.add_list e e2 ?_ (by rw [List.size_toArray, List.size_toArray]; omega)
  have ea : its.toArray ++ its2.toArray = (its ++ its2).toArray := by simp
  rw [ea]
  exact ⟨.ref _, _, I.lnew (t' := s.toks) (r.append r2) (by rw [List.length_append]; omega), rfl, q _ I.fresh⟩
end
section
variable {prog : Program} {w : World} {A : Around} {E : Value → Shared → Prop} {s : Shared}
set_option maxRecDepth 100000 in
end
section
variable {X : Cx}
end
end L2
namespace Att
open PySem PySem.W PySem.Calls PyProof.Rows
theorem ints_of_wellAll {P : Params} {h : Heap} : ∀ (ns : List Int) (vs : List Value), WellAll P h vs (ns.map WData.int) → IntsAre vs ns := by
  intro ns
  induction ns with
  | nil =>
    intro vs w
    rw [List.map_nil] at w
    cases w
    exact .nil
  | cons n ns ih =>
    intro vs w
    rw [List.map_cons] at w
    cases w with
    | cons a b =>
      cases a
      exact .cons _ _ (ih _ b)
theorem script_of {l : OpenLaw} {n : Nat} (hn : l.most = some n) {P : Params} {h : Heap} {args : List WData} {vals : List Value}
    (hpre : l.row.toRowW.claim.pre args = true) (hwl : WellAll P h vals args) :
    ∃ a vs ns, vals = [Value.ref a] ∧ args = [WData.list (ns.map WData.int)] ∧ h.get? a = some { cls := .type "list", data := .seq vs.toArray } ∧ IntsAre vs ns ∧ ns.length ≤ n := by
  have hsh : WShape.hasAll [] args [.list .int] = true := (pre_splitW hpre).1
  have hc : l.pre.holds [] { args := args } = true := (pre_splitW hpre).2
  obtain ⟨d, r, rfl, h1, h2⟩ := hasAllW_cons hsh
  obtain rfl := hasAllW_nil h2
  obtain ⟨xs, rfl, h3⟩ := hasW_list h1
  obtain ⟨ns, rfl⟩ := items_int h3
  have hlen : ns.length ≤ n := by
    unfold OpenLaw.pre at hc
    have h4 : (WTm.not (.lt (.lit (.int (n : Int))) (.len (.arg 0)))).holds [] { args := [.list (ns.map .int)] } = true := by
      have h4 := (holds_andW hc).1
      rw [hn] at h4
      exact h4
    have h5 := condW_of h4 (w_not (w_lt w_lit (w_len_list (w_arg rfl))))
    rw [List.length_map] at h5
    refine Nat.le_of_not_lt fun q => ?_
    have q' : (n : Int) < ((ns.length : Nat) : Int) := by omega
    first
      | (rw [decide_eq_true q'] at h5; exact absurd h5 (by decide))
      | (simp at h5; omega)
  cases hwl with
  | cons w1 w2 =>
    cases w2
    cases w1 with
    | list ho hall => exact ⟨_, _, ns, rfl, rfl, ho, ints_of_wellAll ns _ hall, hlen⟩
theorem post_true (l : OpenLaw) (args : List WData) : l.row.toRowW.claim.post args (.bool true) args = true :=
  postW_of (r := l.row.toRowW) (X := (true == true))
    (show WShape.has [] (.bool true) .bool = true by first | rfl | decide | simp [WShape.has, WShape.arms, WShape.armsAll])
    (show (WTm.eq .res (.lit (.bool true))).value [] { args := args, res := some (.bool true), after := args } = some (.bool (true == true)) from w_eq_bool (w_res rfl) w_lit) rfl
theorem attach_call {l : OpenLaw} {n : Nat} {q : Program} {loose : List Str} {XP : (Str → Option Value) → Heap → Prop} {YP : World → Heap → Prop} {d : DefRec}
    (hn : l.most = some n) (hdf : d.params.defaults = [])
    (call : ∀ (w : World) (s₀ s₁ : Shared) (mg mb : Str → Option Value) (fa : Addr) (o : Obj) (pm cd doc : Value) (a : Addr) (vs : List Value) (ns : List Int),
      Ground q loose [] XP w s₀ mg mb s₁.heap → YP w s₁.heap →
      s₁.heap.get? fa = some o → o.data = .func (docDef d.name d.params d.body d.scope pm cd doc) → s₁.heap.CodeRec cd d.name → mg d.name = some (.ref fa) →
      s₁.heap.get? a = some { cls := .type "list", data := .seq vs.toArray } → IntsAre vs ns → ns.length ≤ n → s₁.gens = #[] →
      codeAny (model l.prog w) callerA (.call (.ref fa) ⟨[.ref a], []⟩) (fun r s' => r = .ok (.ret (.bool true)) ∧ OldK s₁.heap s'.heap ∧ s'.os = s₁.os ∧ AllBare s'.gens) s₁) :
    WalkO q loose XP YP l.row.toRowW d [] (fun f vs => PySem.call f vs) := by
  intro w s₀ s₁ mg mb G Y fa o pm cd doc dV kV ho hd hcd hD hmg hg args vals as hpre hlay hrd hwl hlo
  obtain rfl : dV = .none := Dflts.none hD hdf
  obtain rfl : kV = .none := Dflts.noKw hD
  obtain ⟨a, vs, ns, rfl, rfl, hobj, hints, hlen⟩ := script_of hn hpre hwl
  refine enter_call (codeAny_mono (call w s₀ s₁ mg mb fa o pm cd doc a vs ns G Y ho (fd_plain hd) hcd hmg hobj hints hlen hg) fun r s' hq => ?_)
  obtain ⟨rfl, h2, h3, h4⟩ := hq
  exact ⟨.inl ⟨.bool true, .bool true, [], rfl, fun _ => rfl, .bool true, post_true l _, fun _ => ⟨List.Pairwise.nil, fun _ hm => (nomatch hm)⟩⟩, h2, h3, h4⟩
section
variable {prog : Program} {w : World} {A : Around} {E : Value → Shared → Prop} {s : Shared} {K : Frag}
end
end Att
namespace L2
open PySem PySem.Spec PyProof.Rows
theorem vals_ints : ∀ {vs : List Value} {ns : List Int}, IntsAre vs ns → Vals (ns.map V.int) vs
  | _, _, .nil => .nil
  | _, _, .cons n t h => .cons ⟨t, rfl⟩ (vals_ints h)
def Only (H : Hp) : Prop := ∀ b, H b = none ∨ ∃ o xs, H b = some (.frz o (.lst xs))
theorem law_call {P : Program} {w : World} {K : PySem.W.Frag} {mg mb : Str → Option Value} {CX : CXT} {k : Nat} {fa a : Addr} {fd : FuncData} {x : Str} {sp : Sp} {s₁ : Shared} {vs : List Value} {ns : List Int}
    (KX : K.In s₁.heap) (hns : s₁.heap.Ns mainGlobals mg) (hb : s₁.heap.Ns builtinsNs mb) (hbb : ∀ x : Str, x ≠ "__name__" → mb x = bootBuiltins x) (hlim : s₁.heap.NoLimit) (hg : s₁.gens = #[])
    (ha : s₁.heap.get? a = some { cls := .type "list", data := .seq vs.toArray }) (hi : IntsAre vs ns) (hl : ns.length ≤ sizeLine) (hr : Room k callerA)
    (F : ∀ base : Heap, K.In base → base.Ns mainGlobals mg → FnOk P w K mg base CX k fa fd [x] sp) (hbind : ∀ (s : Shared) (u : Value), BindsTo s fd ⟨[u], []⟩ [(x, u)])
    (hsp : ∀ H : Hp, Only H → SqL K H a (ns.map V.int) → sp [.ref a] H (fun v _ => v = .bl true) fun _ _ _ => False)
    (hCX : ∀ H e s', CX [] H s₁ (fun _ _ _ => False) e s' → False) :
    codeAny (model P w) callerA (.call (.ref fa) ⟨[.ref a], []⟩) (fun r s' => r = .ok (.ret (.bool true)) ∧ OldK s₁.heap s'.heap ∧ s'.os = s₁.os ∧ AllBare s'.gens) s₁ := by
  have rv := vals_ints hi
  have lenV := hi.length
  have core : ∀ H : Hp, Only H → SqL K H a (ns.map V.int) → HOk P w H s₁.heap → (∀ b, H b ≠ none → b = a) → (H a ≠ none → K.lookup a = none) →
      codeAny (model P w) callerA (.call (.ref fa) ⟨[.ref a], []⟩) (fun r s' => r = .ok (.ret (.bool true)) ∧ OldK s₁.heap s'.heap ∧ s'.os = s₁.os ∧ AllBare s'.gens) s₁ := by
    intro H hO hS hok hA hK
    have base_of : ∀ {b : Addr} {o : Obj}, s₁.heap.get? b = some o → H b = none → (hidT s₁.heap H).get? b = some o := fun e n => hidT_get e n
    have noA : ∀ {b : Addr} {o : Obj} {es : Array DictEntry} {ep : Nat}, s₁.heap.get? b = some o → o.data = .dict es ep → H b = none := fun {b o es ep} e d => by
      cases q : H b with
      | none => rfl
      | some u =>
        have e' : b = a := hA b (by rw [q]; simp)
        subst e'
        rw [ha] at e; cases e
        have d' : Data.seq vs.toArray _ = Data.dict es ep := d
        cases d'
    have nsK : ∀ {b : Addr} {m : Str → Option Value}, s₁.heap.Ns b m → (hidT s₁.heap H).Ns b m := fun {b m} ⟨o, es, ep, e, d, r⟩ => ⟨o, es, ep, base_of e (noA e d), d, r⟩
    have hKb : K.In (hidT s₁.heap H) := fun b o e => base_of (KX b o e) (by
      cases q : H b with
      | none => rfl
      | some u =>
        have e' : b = a := hA b (by rw [q]; simp)
        subst e'
        rw [hK (by rw [q]; simp)] at e; cases e)
    have hM : Mod K mg (hidT s₁.heap H) := ⟨hKb, nsK hns, ⟨mb, nsK hb, hbb⟩, let ⟨mc, h1, h2⟩ := hlim; ⟨mc, nsK h1, h2⟩⟩
    have e0 : Env0 P w K mg (hidT s₁.heap H) callerA [] s₁ H := ⟨rfl, hM, fun b o e => of_hidT e, Nat.le_of_eq (hidT_size _ _), trivial, fun b hb => absurd (show b ∈ ([] : List Addr) from hb) (by simp), hok, .of_eq hg⟩
    refine codeAny_mono ((F _ hKb (nsK hns)).run callerA [] s₁ H ⟨[.ref a], []⟩ [.ref a] [.ref a] _ _ hr e0 (hbind s₁ (.ref a)) (.cons rfl .nil) (hsp H hO hS)) fun r s' h => ?_
    cases r with
    | error e => exact (hCX H e s' h).elim
    | ok fl =>
      cases fl with
      | next => exact False.elim h
      | brk => exact False.elim h
      | cont => exact False.elim h
      | ret u =>
        obtain ⟨v, H', os, bare, un, hok', r', q⟩ := h
        have q' : v = .bl true := q
        subst q'
        obtain rfl : u = Value.bool true := r'
        refine ⟨rfl, OldK.of_keep fun b o e => ?_, os, bare⟩
        cases q : H b with
        | none => exact un.keep b o e q (by intro z; exact absurd (show b ∈ ([] : List Addr) from z) (by simp)) (by simp)
        | some u =>
          rcases hO b with z | ⟨ob, xs, z⟩
          · rw [q] at z; cases z
          · have z2 := un.frzs b ob _ z
            obtain ⟨e1, _⟩ := hok b _ z
            obtain ⟨e2, _⟩ := hok' b _ z2
            rw [e] at e1; cases e1
            exact e2
  cases hk : K.lookup a with
  | some o =>
    have e := KX a o hk
    rw [ha] at e
    cases e
    refine core (fun _ => none) (fun _ => .inl rfl) (.inr ⟨_, vs.toArray, _, hk, rfl, rfl, rfl, by rw [List.size_toArray, lenV]; exact hl, by simpa using rv⟩) (fun b u z => by have z' : (none : Option HO) = some u := z; cases z') (fun b z => absurd rfl z) fun z => absurd rfl z
  | none =>
    refine core (fun b => if b = a then some (.frz { cls := .type "list", data := .seq vs.toArray } (.lst (ns.map V.int))) else none) (fun b => ?_) (.inl (.inr ⟨{ cls := .type "list", data := .seq vs.toArray }, if_pos rfl⟩)) (fun b u z => ?_) (fun b z => ?_) fun _ => hk
    · by_cases hb : b = a
      · exact .inr ⟨_, _, if_pos hb⟩
      · exact .inl (if_neg hb)
    · by_cases hb : b = a
      · have z' := (if_pos hb).symm.trans z
        cases z'
        subst hb
        exact ⟨ha, by rw [List.length_map]; exact hl, vs, _, rv, ha⟩
      · have z' := (if_neg hb).symm.trans z
        cases z'
    · by_cases hb : b = a
      · exact hb
      · exact absurd (if_neg hb) z
end L2
namespace L2
open PySem PySem.Spec PyProof.Rows
abbrev KOf {K : PySem.W.Frag} {h : Heap} (_ : K.In h) : PySem.W.Frag := K
theorem walk_of {l : PySem.W.OpenLaw} {n k : Nat} {q : Program} {loose : List Str} {XP : (Str → Option Value) → Heap → Prop} {YP : World → Heap → Prop} {d : DefRec} {K : Params → PySem.W.Frag} {CX : World → CXT} {sp : World → Sp} {x : Str}
    (hn : l.most = some n) (hn2 : n ≤ sizeLine) (hdf : d.params.defaults = []) (hr : Room k callerA)
    (hY : ∀ (w : World) (h : Heap), YP w h → (K w.params).In h)
    (F : ∀ (w : World) (mg : Str → Option Value) (fa : Addr) (h : Heap), (K w.params).In h → h.Ns mainGlobals mg → mg d.name = some (.ref fa) →
      ∃ fd : FuncData, (∀ (s : Shared) (u : Value), BindsTo s fd ⟨[u], []⟩ [(x, u)]) ∧
        ∀ base : Heap, (K w.params).In base → base.Ns mainGlobals mg → FnOk l.prog w (K w.params) mg base (CX w) k fa fd [x] (sp w))
    (hsp : ∀ (w : World) (H : Hp) (a : Addr) (ns : List Int), ns.length ≤ n → Only H → SqL (K w.params) H a (ns.map V.int) → sp w [.ref a] H (fun v _ => v = .bl true) fun _ _ _ => False)
    (hCX : ∀ (w : World) (H : Hp) (s : Shared) (e : Value) (s' : Shared), CX w [] H s (fun _ _ _ => False) e s' → False) :
    PySem.W.WalkO q loose XP YP l.row.toRowW d [] (fun f vs => PySem.call f vs) := by
  refine Att.attach_call hn hdf fun w s₀ s₁ mg mb fa o pm cd doc a vs ns G Y ho hd hcd hmg hobj hints hlen hg => ?_
  have KX := hY w _ Y
  obtain ⟨fd, hb, hF⟩ := F w mg fa _ KX G.T.g hmg
  exact law_call KX G.T.g G.T.b G.T.builtins G.T.nolimit hg hobj hints (Nat.le_trans hlen hn2) hr hF hb (fun H hO hS => hsp w H a ns hlen hO hS) fun H e s' => hCX w H s₁ e s'
theorem walk_ofK {l : PySem.W.OpenLaw} {n k : Nat} {q : Program} {loose : List Str} {XP : (Str → Option Value) → Heap → Prop} {YP : World → Heap → Prop} {d : DefRec} {K : Params → PySem.W.Frag} {CX : CXT} {sp : PySem.W.Frag → Sp} {x : Str}
    (hn : l.most = some n) (hn2 : n ≤ sizeLine) (hdf : d.params.defaults = []) (hr : Room k callerA)
    (hY : ∀ (w : World) (h : Heap), YP w h → (K w.params).In h)
    (F : ∀ (w : World) (mg : Str → Option Value) (fa : Addr) (h : Heap), (K w.params).In h → h.Ns mainGlobals mg → mg d.name = some (.ref fa) →
      ∃ fd : FuncData, (∀ (s : Shared) (u : Value), BindsTo s fd ⟨[u], []⟩ [(x, u)]) ∧
        ∀ base : Heap, (K w.params).In base → base.Ns mainGlobals mg → FnOk l.prog w (K w.params) mg base CX k fa fd [x] (sp (K w.params)))
    (hsp : ∀ (K : PySem.W.Frag) (H : Hp) (a : Addr) (ns : List Int), ns.length ≤ n → Only H → SqL K H a (ns.map V.int) → sp K [.ref a] H (fun v _ => v = .bl true) fun _ _ _ => False)
    (hCX : ∀ (H : Hp) (s : Shared) (e : Value) (s' : Shared), CX [] H s (fun _ _ _ => False) e s' → False) :
    PySem.W.WalkO q loose XP YP l.row.toRowW d [] (fun f vs => PySem.call f vs) :=
  walk_of (K := K) (CX := fun _ => CX) (sp := fun w => sp (K w.params)) hn hn2 hdf hr hY F (fun w H a ns h1 h2 h3 => hsp (K w.params) H a ns h1 h2 h3) fun _ H s e s' => hCX H s e s'
end L2
namespace L2
open PySem PySem.Spec PyProof.Rows
def inClass (s : Stmt) (j : Nat) : Stmt := match s with
  | .ClassDef _ _ _ body _ _ _ _ _ _ _ => body.getD j (.Pass ⟨0, 0, 0, 0⟩)
  | _ => .Pass ⟨0, 0, 0, 0⟩
def defArgs (s : Stmt) : Arguments := match s with
  | .FunctionDef _ a _ _ _ _ _ _ _ _ => a
  | _ => { posonlyargs := [], args := [], vararg := none, kwonlyargs := [], kw_defaults := [], kwarg := none, defaults := [] }
def defBody (s : Stmt) : List Stmt := match s with
  | .FunctionDef _ _ b _ _ _ _ _ _ _ => b
  | _ => []
def defScope (s : Stmt) : Scope := match s with
  | .FunctionDef _ _ _ _ _ _ sc _ _ _ => sc
  | _ => { kind := .function, names := [], isGenerator := false, isCoroutine := false }
abbrev CX0 : CXT := fun _ _ _ _ _ _ => False
abbrev E0 : XK := fun _ _ _ => False
theorem pass0 {X : Cx} : Passes CX0 X E0 := fun _ _ _ _ _ _ _ h => h.elim
structure Fun (K : PySem.W.Frag) (x qual : Str) (st : Stmt) (f : Addr) (fd : FuncData) : Prop where
  ex : ∃ (oc : Value) (od : Option Addr) (kV doc pm : Value) (an : Option Addr) (cdv ct : Value) (osl : Array (Option Value)),
    fd = PySem.W.fnOf x qual (defArgs st) (defBody st) (defScope st) .none kV doc pm an cdv ct ∧ K.lookup f = some ⟨oc, od, .func fd, osl⟩ ∧ PySem.W.codeIn K cdv qual = true
  kp : PySem.W.keepIn K (.ref f) = true
section
variable {P : Program} {w : World} {K : PySem.W.Frag} {mg : Str → Option Value} {base : Heap}
theorem Fun.ok {x qual : Str} {st : Stmt} {f : Addr} {fd : FuncData} {N ps : List Str} {k : Nat} {sp : Sp} (F : Fun K x qual st f fd) (S : FnScope N ps (defScope st)) (len : ∀ vs H Q E, sp vs H Q E → vs.length = ps.length)
    (hbody : ∀ (cdv : Value) (A : Around) (outer : List Env) (s : Shared) (H : Hp) (vs : List V) (Q : VK) (E : XK), Room k (A.deeper (envOfC qual (defScope st) s.heap.objs.size f cdv)) → sp vs H Q E →
      ∃ t, PSs (cxOf CX0 P w K mg base N qual (defScope st) f cdv A outer s H E).nox (defBody st) t ∧ t { nx := fun _ H' => Q .non H', rt := Q } (start N vs) H) : FnOk P w K mg base CX0 (k + 1) f fd ps sp := by
  obtain ⟨oc, od, kV, doc, pm, an, cdv, ct, osl, rfl, lk, hcd⟩ := F.ex
  refine fn_of lk hcd S len fun A outer s H vs Q E hr hsp => ?_
  obtain ⟨t, h, q⟩ := hbody cdv A outer s H vs Q E hr hsp
  exact ⟨t, h.nox, q⟩
theorem Fun.binds {x qual : Str} {st : Stmt} {f : Addr} {fd : FuncData} {ps : List Str} (F : Fun K x qual st f fd)
    (h : ∀ (kV doc pm : Value) (an : Option Addr) (cdv ct : Value) (us : List Value), us.length = ps.length → bindArgs (PySem.W.fnOf x qual (defArgs st) (defBody st) (defScope st) .none kV doc pm an cdv ct) ⟨us, []⟩ = pure (ps.zip us)) : Binds K fd ps [] := by
  obtain ⟨oc, od, kV, doc, pm, an, cdv, ct, osl, rfl, lk, hcd⟩ := F.ex
  exact .all (h kV doc pm an cdv ct)
theorem fun_mk {x qual : Str} {st : Stmt} {f : Addr} {oc : Value} {od an : Option Addr} {osl : Array (Option Value)} {kV doc pm cdv ct : Value} (l : K.lookup f = some ⟨oc, od, .func (PySem.W.fnOf x qual (defArgs st) (defBody st) (defScope st) .none kV doc pm an cdv ct), osl⟩)
    (c : PySem.W.codeIn K cdv qual = true) (k : PySem.W.keepIn K (.ref f) = true) : Fun K x qual st f (PySem.W.fnOf x qual (defArgs st) (defBody st) (defScope st) .none kV doc pm an cdv ct) := ⟨⟨oc, od, kV, doc, pm, an, cdv, ct, osl, rfl, l, c⟩, k⟩
end
section
variable {X : Cx}
theorem pv (i : Nat) {x : Str} {pos : Pos} (hN : X.N[i]? = some x := by rfl) (hv : Vis X.env.scope x := by first | exact Or.inl rfl | exact Or.inr (Or.inl rfl) | exact Or.inr (Or.inr rfl)) (hd : (x == ("__debug__" : Str)) = false := by decide)
    (hcd : (x == ("__classdict__" : Str)) = false := by decide) : PE X (.Name x pos) (tVar i) := pe_var hN hv hd hcd
end
theorem iteF {A B : Prop} (h : B) : if false = true then A else B := by
  rw [if_neg Bool.false_ne_true]
  exact h
theorem iteT {A B : Prop} (h : A) : if true = true then A else B := by
  rw [if_pos rfl]
  exact h
theorem ite2 {c A B : Prop} [Decidable c] (h1 : c → A) (h2 : ¬ c → B) : if c then A else B := by
  by_cases h : c
  · rw [if_pos h]
    exact h1 h
  · rw [if_neg h]
    exact h2 h
def Same (H H' : Hp) : Prop := ∀ b o, H b = some o → H' b = some o
theorem Same.refl (H : Hp) : Same H H := fun _ _ h => h
theorem Same.trans {H H1 H2 : Hp} (a : Same H H1) (b : Same H1 H2) : Same H H2 := fun c o h => b c o (a c o h)
theorem Same.free {H H' : Hp} (e : Same H H') {l : Addr} (h : H' l = Option.none) : H l = Option.none := by
  cases q : H l with
  | none => rfl
  | some o =>
    rw [e l o q] at h
    cases h
theorem Same.seq {K : PySem.W.Frag} {H H' : Hp} {a : Addr} {xs : List V} (e : Same H H') (h : SqL K H a xs) : SqL K H' a xs := by
  rcases h with (h | ⟨o, h⟩) | h
  · exact .inl (.inl (e _ _ h))
  · exact .inl (.inr ⟨o, e _ _ h⟩)
  · exact .inr h
end L2
set_option maxHeartbeats 4000000
namespace L2
open PySem PySem.Spec PyProof.Rows
structure D (K : PySem.W.Frag) (mg : Str → Option Value) (x : Str) (st : Stmt) (ps : List Str) (f : Addr) (fd : FuncData) : Prop where
  fn : Fun K x x st f fd
  ba : ∀ us : List Value, us.length = ps.length → bindArgs fd ⟨us, []⟩ = pure (ps.zip us)
  mg : mg x = some (.ref f)
section
variable {X : Cx} {k j : Nat} {f : Addr} {fd : FuncData} {ps : List Str} {sp : Sp} {x : Str} {st : Stmt} {p pos : Pos} {e : Expr} {es : List Expr} {t : TA}
theorem pcall (d : D X.K X.mg x st ps f fd) (F : FnOk X.prog X.w X.K X.mg X.base CX0 j f fd ps sp) (hr : Room k X.A) (hg : Gl X x) (ha : PA X (e :: es) t) (hjk : j ≤ k := by decide) (hdb : (x == ("__debug__" : Str)) = false := by decide)
    (he : starEach (e :: es) X.env = (false, eval e X.env) :: starEach es X.env := by rfl) (hpl : (backTo pos (starEach es X.env)).any (·.1) = false := by rfl) :
    PE X (.Call (.Name x p) (e :: es) [] pos) (tCall sp [] E0 t) :=
  pe_call (F.mono hjk) hr hg d.mg d.fn.kp (.all d.ba) .nil pass0 ha hdb he hpl
end
theorem bt_len : bootBuiltins "len" = some (.builtin "len") := PySem.boot_len
theorem bt_isinstance : bootBuiltins "isinstance" = some (.builtin "isinstance") := by decide +kernel
theorem bt_all : bootBuiltins "all" = some (.builtin "all") := by decide +kernel
theorem bt_int : bootBuiltins "int" = some (.type "int") := by decide +kernel
theorem bt_str : bootBuiltins "str" = some (.type "str") := by decide +kernel
theorem bt_ValueError : bootBuiltins "ValueError" = some (.type "ValueError") := by decide +kernel
section
variable {X : Cx}
end
end L2
namespace L2
open PySem PySem.Spec PyProof.Rows
theorem same_new {H : Hp} {p : Addr} (h : H p = none) (o : HO) : Same H (upd H p o) := fun b u q => by rw [upd_ne (ne_of_none q h)]; exact q
theorem same_upd {H H1 : Hp} {p : Addr} {o : HO} (s : Same H H1) (h : H p = none) : Same H (upd H1 p o) := fun b u q => by rw [upd_ne (ne_of_none q h)]; exact s b u q
theorem same_add {H H1 : Hp} {p : Addr} {o : HO} (s : Same H H1) (h : H1 p = none) : Same H (upd H1 p o) := same_upd s (s.free h)
theorem ints_at {B : Int} {zs : List Int} (h : ∀ z ∈ zs, 0 ≤ z ∧ z < B) {i : Int} (h0 : 0 ≤ i) (h1 : i < (zs.length : Int)) : ∃ z, atI (zs.map V.int) i = some (.int z) ∧ 0 ≤ z ∧ z < B := by
  have hk : i.toNat < zs.length := by omega
  have ek : i = ((i.toNat : Nat) : Int) := by omega
  refine ⟨zs[i.toNat], ?_, h _ (List.getElem_mem hk)⟩
  have q : atI (zs.map V.int) ((i.toNat : Nat) : Int) = some (.int zs[i.toNat]) := atI_nat (by rw [List.getElem?_map, List.getElem?_eq_getElem hk] <;> rfl)
  rw [← ek] at q
  exact q
theorem ints_mem {zs : List Int} {i : Int} (h0 : 0 ≤ i) (h1 : i < (zs.length : Int)) : ∃ z, z ∈ zs ∧ atI (zs.map V.int) i = some (.int z) := by
  have hk : i.toNat < zs.length := by omega
  have ek : i = ((i.toNat : Nat) : Int) := by omega
  refine ⟨zs[i.toNat], List.getElem_mem hk, ?_⟩
  have q : atI (zs.map V.int) ((i.toNat : Nat) : Int) = some (.int zs[i.toNat]) := atI_nat (by rw [List.getElem?_map, List.getElem?_eq_getElem hk] <;> rfl)
  rw [← ek] at q
  exact q
theorem map_int_get {zs : List Int} {i : Nat} {y : V} (h : (zs.map V.int)[i]? = some y) : ∃ z, y = .int z ∧ zs[i]? = some z := by
  rw [List.getElem?_map] at h
  cases e : zs[i]? with
  | none => rw [e] at h; cases h
  | some z => rw [e] at h; exact ⟨z, (Option.some.inj h).symm, rfl⟩
theorem smallL {n : Nat} (h : n ≤ 100000) : n ≤ sizeLine := Nat.le_trans h (by decide)
theorem smallLt {n : Nat} (h : n ≤ 100000) : n < sizeLine := Nat.lt_of_le_of_lt h (by decide)
end L2
namespace L2
open PySem PySem.Spec PyProof.Rows
def tCut (t : TS) : TS := fun D σ H => ∃ M : St → Hp → Prop, t { D with nx := M } σ H ∧ ∀ σ' H', M σ' H' → D.nx σ' H'
theorem ps_cut {X : Cx} {st : Stmt} {t : TS} (h : PS X st t) : PS X st (tCut t) := by
  intro pins s σ H D I hw
  obtain ⟨M, h1, h2⟩ := hw
  refine thn (h pins s σ H _ I h1) fun f s1 q => ?_
  cases f with
  | next => obtain ⟨σ', H', I', m⟩ := q; exact ⟨σ', H', I', h2 σ' H' m⟩
  | ret v => exact q
  | brk => exact q
  | cont => exact q
end L2
namespace L2
open PySem PySem.Spec PyProof.Rows
section
variable {X : Cx} {pins : List (Addr × Obj)} {σ : St} {H : Hp} {s : Shared} {h' : Heap}
end
section
variable {X : Cx} {es : List Expr} {k1 : Nat} {tp : Pos}
end
end L2
namespace L2
open PySem PySem.Spec PyProof.Rows
mutual
inductive Den (K : PySem.W.Frag) (H : Hp) : V → PyData → Prop
  | non : Den K H .non .none
  | bl (b : Bool) : Den K H (.bl b) (.bool b)
  | int (i : Int) : Den K H (.int i) (.int i)
  | str (x : Str) : PyData.canLay0 (.str x) = true → Den K H (.str x) (.str x)
  | lst {a xs ds} : SqL K H a xs → DenL K H xs ds → Den K H (.ref a) (.list ds)
  | tup {a xs ds} : SqT K H a xs → DenL K H xs ds → Den K H (.ref a) (.tuple ds)
inductive DenL (K : PySem.W.Frag) (H : Hp) : List V → List PyData → Prop
  | nil : DenL K H [] []
  | cons {x xs d ds} : Den K H x d → DenL K H xs ds → DenL K H (x :: xs) (d :: ds)
end
section
variable {X : Cx} {pins : List (Addr × Obj)} {σ : St} {H : Hp} {s : Shared}
mutual
theorem den_reads (I : Inv X pins σ H s) : ∀ (d : PyData) (v : V) (u : Value), Den X.K H v d → RelV v u → ∃ as, Reads s.heap u d as
  | .none, v, u, h, r => by cases h; cases r; exact ⟨_, .none⟩
  | .bool b, v, u, h, r => by cases h; cases r; exact ⟨_, .bool b⟩
  | .int i, v, u, h, r => by cases h; obtain ⟨t, rfl⟩ := r; exact ⟨_, .int i t⟩
  | .str x, v, u, h, r => by cases h; obtain ⟨t, rfl⟩ := r; exact ⟨_, .str x t⟩
  | .list ds, v, u, h, r => by
    cases h with
    | lst hq hl =>
      cases r
      obtain ⟨its, rv, ⟨o, n, e, c, _, d⟩, _⟩ := I.list hq
      obtain ⟨as, q⟩ := denL_reads I ds _ _ hl rv
      exact ⟨_, .list e c d (by simpa using q)⟩
  | .tuple ds, v, u, h, r => by
    cases h with
    | tup hq hl =>
      cases r
      obtain ⟨its, rv, ⟨o, e, c, n, d⟩, _⟩ := I.tuple hq
      obtain ⟨as, q⟩ := denL_reads I ds _ _ hl rv
      exact ⟨_, .tuple e c d (by simpa using q)⟩
  | .dict _, v, u, h, r => by cases h
theorem denL_reads (I : Inv X pins σ H s) : ∀ (ds : List PyData) (xs : List V) (us : List Value), DenL X.K H xs ds → Vals xs us → ∃ as, ReadsAll s.heap us ds as
  | [], xs, us, h, r => by cases h; cases r; exact ⟨_, .nil⟩
  | d :: ds, xs, us, h, r => by
    cases h with
    | cons h1 h2 =>
      cases r with
      | cons r1 r2 =>
        obtain ⟨a1, q1⟩ := den_reads I d _ _ h1 r1
        obtain ⟨a2, q2⟩ := denL_reads I ds _ _ h2 r2
        exact ⟨_, .cons q1 q2⟩
end
mutual
theorem den_lay {K : PySem.W.Frag} : ∀ (d : PyData) (v : V), Den K H v d → d.canLay0 = true
  | .none, v, h => rfl
  | .bool b, v, h => rfl
  | .int i, v, h => rfl
  | .str x, v, h => by cases h with | str _ q => exact q
  | .list ds, v, h => by cases h with | lst _ q => exact denL_lay ds _ q
  | .tuple ds, v, h => by cases h with | tup _ q => exact denL_lay ds _ q
  | .dict _, v, h => by cases h
theorem denL_lay {K : PySem.W.Frag} : ∀ (ds : List PyData) (xs : List V), DenL K H xs ds → PyData.canLayAll0 ds = true
  | [], xs, h => rfl
  | d :: ds, xs, h => by
    cases h with
    | cons h1 h2 =>
      show (PyData.canLay0 d && PyData.canLayAll0 ds) = true
      rw [den_lay d _ h1, denL_lay ds _ h2]
      rfl
end
def rEqD (K : PySem.W.Frag) (neg : Bool) : R2 := fun x y H Q => ∃ d e, Den K H x d ∧ Den K H y e ∧ min d.depth e.depth ≤ 64 ∧ Q (.bl (if neg then !PyData.eqv d e else PyData.eqv d e)) H
theorem op_eqD (hu : X.A.units + 64 < cLine) : OpR X (compareOp .Eq) (rEqD X.K false) := by
  intro pins s σ H x y v u Q I rx ry h
  obtain ⟨d, e, hd, he, hz, q⟩ := h
  obtain ⟨as, ra⟩ := den_reads I d _ _ hd rx
  obtain ⟨bs, rb⟩ := den_reads I e _ _ he ry
  exact PySem.SeqAt.eqOverData X.prog X.w X.A X.xe s v u d e as bs _ ra rb (den_lay d _ hd) (den_lay e _ he) (by omega) ⟨.bl _, H, I, rfl, q⟩
theorem op_neD (hu : X.A.units + 64 < cLine) : OpR X (compareOp .NotEq) (rEqD X.K true) := by
  intro pins s σ H x y v u Q I rx ry h
  obtain ⟨d, e, hd, he, hz, q⟩ := h
  obtain ⟨as, ra⟩ := den_reads I d _ _ hd rx
  obtain ⟨bs, rb⟩ := den_reads I e _ _ he ry
  exact PySem.SeqAt.neOverData X.prog X.w X.A X.xe s v u d e as bs _ ra rb (den_lay d _ hd) (den_lay e _ he) (by omega) ⟨.bl _, H, I, rfl, q⟩
end
mutual
def nb : PyData → Bool
  | .none | .int _ | .str _ => true
  | .bool _ | .dict _ => false
  | .list xs | .tuple xs => nbL xs
def nbL : List PyData → Bool
  | [] => true
  | x :: xs => nb x && nbL xs
end
mutual
theorem eqv_iff : ∀ (d e : PyData), nb d = true → nb e = true → (PyData.eqv d e = true ↔ d = e)
  | .none, e, _, h => by cases e <;> first | (simp [PyData.eqv]; done) | cases h
  | .int i, e, _, h => by cases e <;> first | (simp [PyData.eqv]; done) | cases h
  | .str i, e, _, h => by cases e <;> first | (simp [PyData.eqv]; done) | cases h
  | .bool _, _, h, _ => by cases h
  | .dict _, _, h, _ => by cases h
  | .list xs, e, h1, h => by
    cases e with
    | list ys =>
      have q := eqvL_iff xs ys h1 h
      show PyData.eqvAll xs ys = true ↔ _
      rw [q]
      exact ⟨fun z => by rw [z], fun z => PyData.list.inj z⟩
    | none => simp [PyData.eqv]
    | int _ => simp [PyData.eqv]
    | str _ => simp [PyData.eqv]
    | tuple _ => simp [PyData.eqv]
    | bool _ => cases h
    | dict _ => cases h
  | .tuple xs, e, h1, h => by
    cases e with
    | tuple ys =>
      have q := eqvL_iff xs ys h1 h
      show PyData.eqvAll xs ys = true ↔ _
      rw [q]
      exact ⟨fun z => by rw [z], fun z => PyData.tuple.inj z⟩
    | none => simp [PyData.eqv]
    | int _ => simp [PyData.eqv]
    | str _ => simp [PyData.eqv]
    | list _ => simp [PyData.eqv]
    | bool _ => cases h
    | dict _ => cases h
theorem eqvL_iff : ∀ (xs ys : List PyData), nbL xs = true → nbL ys = true → (PyData.eqvAll xs ys = true ↔ xs = ys)
  | [], [], _, _ => by simp [PyData.eqvAll]
  | [], _ :: _, _, _ => by simp [PyData.eqvAll]
  | _ :: _, [], _, _ => by simp [PyData.eqvAll]
  | x :: xs, y :: ys, h1, h2 => by
    have a : nb x = true ∧ nbL xs = true := by
      have : (nb x && nbL xs) = true := h1
      simpa using this
    have b : nb y = true ∧ nbL ys = true := by
      have : (nb y && nbL ys) = true := h2
      simpa using this
    have q1 := eqv_iff x y a.1 b.1
    have q2 := eqvL_iff xs ys a.2 b.2
    show (PyData.eqv x y && PyData.eqvAll xs ys) = true ↔ _
    rw [Bool.and_eq_true, q1, q2]
    simp
end
theorem eqv_refl {d : PyData} (h : nb d = true) : PyData.eqv d d = true := (eqv_iff d d h h).mpr rfl
abbrev dInts (zs : List Int) : PyData := .list (zs.map .int)
theorem nb_ints : ∀ zs : List Int, nbL (zs.map .int) = true
  | [] => rfl
  | z :: zs => by
    show (nb (.int z) && nbL (zs.map .int)) = true
    rw [nb_ints zs]
    rfl
theorem denL_ints {K : PySem.W.Frag} {H : Hp} : ∀ zs : List Int, DenL K H (zs.map V.int) (zs.map .int)
  | [] => .nil
  | z :: zs => .cons (.int z) (denL_ints zs)
theorem den_ints {K : PySem.W.Frag} {H : Hp} {a : Addr} {zs : List Int} (h : SqL K H a (zs.map V.int)) : Den K H (.ref a) (dInts zs) := .lst h (denL_ints zs)
end L2
namespace L2
open PySem PySem.Spec PyProof.Rows
section
variable {prog : Program} {w : World} {A : Around} {R : Result → Shared → Prop} {s : Shared}
theorem compLoop_any {elt target iter : Expr} {ifs : List Expr} {scope : Scope} {pos : Pos} {it acc : Value} {env : Env} (I : Nat → Shared → Prop)
    (turn : ∀ n s, I n s → wpAny (model prog w) A (pyNext it) (fun r s1 => match r with
      | none => R (.ok .next) s1
      | some v => wpAny (model prog w) A (letOwnedTupleGo target it v) (fun _ s1' => wpAny (model prog w) A (assign target env v) (fun _ s2 =>
          wpAny (model prog w) A (forIn ifs true fun c r => if r = true then do let ok ← isTrue c env (eval c env); pure (ForInStep.yield ok) else pure (ForInStep.yield r)) (fun ok s3 =>
            if ok = true then wpAny (model prog w) A (eval elt env) (fun x s4 =>
              wpAny (model prog w) A (call (.builtin "list.append") [acc, x]) (fun _ s5 => ∃ m, m < n ∧ I m s5) (fun _ _ => False) s4) (fun _ _ => False) s3
            else ∃ m, m < n ∧ I m s3) (fun _ _ => False) s2) (fun _ _ => False) s1') (fun _ _ => False) s1) (fun _ _ => False) s)
    (n : Nat) (h : I n s) :
    codeAny (model prog w) A (.compLoop (.ListComp elt [⟨target, iter, ifs, 0⟩] scope pos) 0 it acc env) R s := by
  refine codeAny_loop rfl I (fun n s hI => ?_) n h
  show wpAny _ A ((compTurn (.ListComp elt [⟨target, iter, ifs, 0⟩] scope pos) 0 it acc env).onRaise (fun x => do noteFrame x env; theTreesLotGoes x)) _ _ s
  refine wpAny_noted ?_
  rw [compTurn_list]
  refine wpAny_bind (wpAny_standAt (wpAny_bind (wpAny_mono (turn n s hI) (fun r s1 h1 => ?_) fun _ _ h' => False.elim h')))
  cases r with
  | none => exact wpAny_pure h1
  | some v =>
    refine wpAny_bind (wpAny_mono h1 (fun _ s1' h1' => ?_) fun _ _ h' => False.elim h')
    refine wpAny_bind (wpAny_mono h1' (fun _ s2 h2 => wpAny_bind (wpAny_mono h2 (fun ok s3 h3 => ?_) fun _ _ h' => False.elim h')) fun _ _ h' => False.elim h')
    cases ok with
    | false => exact wpAny_pure ⟨rfl, h3⟩
    | true =>
      exact wpAny_bind (wpAny_bind (wpAny_mono h3 (fun x s4 h4 => wpAny_bind (wpAny_mono h4 (fun _ s5 h5 => wpAny_pure (wpAny_pure ⟨rfl, h5⟩)) fun _ _ h' => False.elim h')) fun _ _ h' => False.elim h'))
end
def closeFrom (env : Env) : List (Str × NameKind) → List (Str × Addr) → List (Str × Addr)
  | [], acc => acc
  | (n, k) :: r, acc => if (k == .free) = true then closeFrom env r ((n, (env.cells.lookup n).getD 0) :: acc) else closeFrom env r acc
theorem closeFrom_mem {env : Env} (P : Str → Addr → Prop) : ∀ (names : List (Str × NameKind)) (acc : List (Str × Addr)), (∀ x ∈ names, x.2 = .free → ∃ c, env.cells.lookup x.1 = some c) → (∀ n c, (n, c) ∈ acc → P n c) →
    (∀ n c, env.cells.lookup n = some c → P n c) → ∀ n c, (n, c) ∈ closeFrom env names acc → P n c
  | [], acc, _, ha, _, n, c, h => ha n c h
  | (m, k) :: r, acc, hf, ha, hp, n, c, h => by
    unfold closeFrom at h
    split at h
    · rename_i hk
      refine closeFrom_mem P r _ (fun x hx => hf x (List.mem_cons_of_mem _ hx)) (fun n' c' h' => ?_) hp n c h
      rcases List.mem_cons.mp h' with e | h'
      · obtain ⟨c0, e0⟩ := hf (m, k) List.mem_cons_self (eq_of_beq hk)
        injection e with e1 e2
        subst e1 e2
        rw [e0]
        exact hp _ _ e0
      · exact ha n' c' h'
    · exact closeFrom_mem P r acc (fun x hx => hf x (List.mem_cons_of_mem _ hx)) ha hp n c h
theorem closeFrom_acc {env : Env} : ∀ (names : List (Str × NameKind)) (acc : List (Str × Addr)) (x : Str × Addr), x ∈ acc → x ∈ closeFrom env names acc
  | [], _, _, h => h
  | (m, k) :: r, acc, x, h => by
    unfold closeFrom
    split
    · exact closeFrom_acc r _ x (List.mem_cons_of_mem _ h)
    · exact closeFrom_acc r _ x h
theorem closeFrom_has {env : Env} : ∀ (names : List (Str × NameKind)) (acc : List (Str × Addr)) (x : Str), (x, NameKind.free) ∈ names → ∃ c, (x, c) ∈ closeFrom env names acc
  | [], _, _, h => nomatch h
  | (m, k) :: r, acc, x, h => by
    unfold closeFrom
    rcases List.mem_cons.mp h with e | h
    · injection e with e1 e2
      subst e1 e2
      rw [if_pos (by decide)]
      exact ⟨_, closeFrom_acc r _ _ List.mem_cons_self⟩
    · split
      · exact closeFrom_has r _ x h
      · exact closeFrom_has r _ x h
theorem closureFor_eq {scope : Scope} {env : Env} (hf : ∀ x ∈ scope.names, x.2 = .free → ∃ c, env.cells.lookup x.1 = some c) : closureFor scope env = pure (closeFrom env scope.names []) := by
  have go : ∀ (names : List (Str × NameKind)) (acc : List (Str × Addr)), (∀ x ∈ names, x.2 = .free → ∃ c, env.cells.lookup x.1 = some c) →
      (forIn names acc fun (x : Str × NameKind) (r : List (Str × Addr)) => (match x with
        | (name, kind) => if (kind == NameKind.free) = true then do
            let a ← cellOf env name
            pure (ForInStep.yield ((name, a) :: r))
          else pure (ForInStep.yield r) : Sem (ForInStep (List (Str × Addr))))) = pure (closeFrom env names acc) := by
    intro names
    induction names with
    | nil => intro acc _; rw [List.forIn_nil]; rfl
    | cons x r ih =>
      intro acc hf
      obtain ⟨n, k⟩ := x
      rw [List.forIn_cons]
      unfold closeFrom
      by_cases hk : (k == NameKind.free) = true
      · obtain ⟨c, e⟩ := hf (n, k) List.mem_cons_self (eq_of_beq hk)
        simp only [hk, if_true]
        have e2 : cellOf env n = pure c := by unfold cellOf; rw [e]
        rw [e2, e]
        simp only [pure_bind, Option.getD_some]
        exact ih _ fun x hx => hf x (List.mem_cons_of_mem _ hx)
      · simp only [hk, if_false]
        exact ih _ fun x hx => hf x (List.mem_cons_of_mem _ hx)
  simp only [closureFor]
  have := go scope.names [] hf
  first
    | exact this
    | (simp only [bind_pure]; exact this)
    | (rw [this]; rfl)
theorem cellsFrom_app : ∀ (names : List (Str × NameKind)) (n : Nat) (acc : List (Str × Addr)), cellsFrom n names acc = cellsFrom n names [] ++ acc
  | [], _, _ => rfl
  | (m, k) :: r, n, acc => by
    unfold cellsFrom
    split
    · rw [cellsFrom_app r (n + 1) ((m, n) :: acc), cellsFrom_app r (n + 1) [(m, n)], List.append_assoc]
      rfl
    · exact cellsFrom_app r n acc
theorem cellsFrom_src : ∀ (names : List (Str × NameKind)) (n : Nat) (acc : List (Str × Addr)) (x : Str × Addr), x ∈ cellsFrom n names acc → (x.1, NameKind.cell) ∈ names ∨ x ∈ acc
  | [], _, _, _, h => .inr h
  | (m, k) :: r, n, acc, x, h => by
    unfold cellsFrom at h
    split at h
    · rename_i hk
      rcases cellsFrom_src r _ _ x h with q | q
      · exact .inl (List.mem_cons_of_mem _ q)
      · rcases List.mem_cons.mp q with e | q
        · rw [e, eq_of_beq hk]
          exact .inl List.mem_cons_self
        · exact .inr q
    · rcases cellsFrom_src r _ _ x h with q | q
      · exact .inl (List.mem_cons_of_mem _ q)
      · exact .inr q
theorem lookup_app {α : Type} (x : Str) : ∀ (l r : List (Str × α)), (l ++ r).lookup x = (l.lookup x).or (r.lookup x)
  | [], r => by simp
  | (k, v) :: l, r => by
    rw [List.cons_append, List.lookup_cons, List.lookup_cons]
    cases hb : x == k with
    | true => rfl
    | false => exact lookup_app x l r
theorem lookup_some_of_mem {α : Type} {x : Str} : ∀ {l : List (Str × α)} {c : α}, (x, c) ∈ l → ∃ c', l.lookup x = some c'
  | (k, v) :: l, c, h => by
    rw [List.lookup_cons]
    cases hb : x == k with
    | true => exact ⟨v, rfl⟩
    | false =>
      rcases List.mem_cons.mp h with e | h
      · injection e with e1 e2
        subst e1
        rw [beq_self_eq_true] at hb
        cases hb
      · exact lookup_some_of_mem h
theorem lookup_relabel {scope : Scope} {env : Env} {x : Str} {k : NameKind} (h : (relabel scope env).names.lookup x = some k) : ∃ k0, scope.names.lookup x = some k0 ∧ (k = k0 ∨ (k = .cell ∧ k0 = .free)) := by
  have go : ∀ names : List (Str × NameKind), (names.map fun (n, k) => if (k == NameKind.free && env.scope.kind == .function && env.kindOf n == some .cell) then (n, NameKind.cell) else (n, k)).lookup x = some k →
      ∃ k0, names.lookup x = some k0 ∧ (k = k0 ∨ (k = .cell ∧ k0 = .free)) := by
    intro names
    induction names with
    | nil => intro h; cases h
    | cons y r ih =>
      obtain ⟨n, k1⟩ := y
      intro h
      replace h : List.lookup x ((if (k1 == NameKind.free && env.scope.kind == .function && env.kindOf n == some .cell) = true then (n, NameKind.cell) else (n, k1)) :: (r.map fun (n, k) => if (k == NameKind.free && env.scope.kind == .function && env.kindOf n == some .cell) then (n, NameKind.cell) else (n, k))) = some k := h
      by_cases hc : (k1 == NameKind.free && env.scope.kind == .function && env.kindOf n == some .cell) = true
      · rw [if_pos hc] at h
        rw [List.lookup_cons] at h ⊢
        cases hb : x == n with
        | true =>
          rw [hb] at h
          have e : NameKind.cell = k := Option.some.inj h
          simp only [Bool.and_eq_true] at hc
          exact ⟨k1, rfl, .inr ⟨e.symm, eq_of_beq hc.1.1⟩⟩
        | false => rw [hb] at h; exact ih h
      · rw [if_neg hc] at h
        rw [List.lookup_cons] at h ⊢
        cases hb : x == n with
        | true =>
          rw [hb] at h
          have e : k1 = k := Option.some.inj h
          exact ⟨k1, rfl, .inl e.symm⟩
        | false => rw [hb] at h; exact ih h
  exact go _ h
def blkEnv (scope : Scope) (env : Env) (C : Addr) (cells : List (Str × Addr)) : Env :=
  { scope := relabel scope env, locals := C, globals := env.globals, cells := cells, qual := env.qual, func := none, code := env.code, frame := env.frame, builtins := env.builtins }
def blkCx (X : Cx) (N' : List Str) (scope : Scope) (C : Addr) (cells : List (Str × Addr)) (s₀ : Shared) (H₀ : Hp) (ex : List Addr) : Cx :=
  { X with N := N', s₀ := s₀, H₀ := H₀, env := blkEnv scope X.env C cells, outer := X.stack, stack := X.stack, ex := ex, fn := fun x => scope.names.lookup x == some .cell, pn := [], xe := fun _ _ => False }
def blkSt (ms : List Nat) (k : Nat) (σ : St) : St := ms.foldl (fun σ i => σ.set i none) σ ++ List.replicate k none
theorem unset_len (ms : List Nat) : ∀ σ : St, (ms.foldl (fun σ i => σ.set i none) σ).length = σ.length := by
  induction ms with
  | nil => intro σ; rfl
  | cons m ms ih => intro σ; rw [List.foldl_cons, ih, List.length_set]
theorem unset_get (ms : List Nat) : ∀ (σ : St) (i : Nat) (v : V), (ms.foldl (fun σ i => σ.set i none) σ)[i]? = some (some v) → σ[i]? = some (some v) ∧ i ∉ ms := by
  induction ms with
  | nil => intro σ i v h; exact ⟨h, by simp⟩
  | cons m ms ih =>
    intro σ i v h
    rw [List.foldl_cons] at h
    obtain ⟨h1, h2⟩ := ih _ i v h
    by_cases e : m = i
    · subst e
      rw [List.getElem?_set] at h1
      split at h1
      · split at h1 <;> cases h1
      · exact absurd rfl ‹_›
    · rw [List.getElem?_set_ne e] at h1
      exact ⟨h1, by simp only [List.mem_cons, not_or]; exact ⟨fun z => e z.symm, h2⟩⟩
structure BlkOk (X : Cx) (N' : List Str) (scope : Scope) (ms : List Nat) (k : Nat) : Prop where
  kind : scope.kind = .function
  uniq : ∀ x ∈ scope.names, scope.names.lookup x.1 = some x.2
  free : ∀ x ∈ scope.names, x.2 = .free → X.env.kindOf x.1 = some .cell ∨ X.env.kindOf x.1 = some .free
  len : N'.length = X.N.length + k
  pre : ∀ i : Nat, i < X.N.length → N'[i]? = X.N[i]?
  vis : ∀ i : Nat, i < X.N.length → i ∉ ms → ∀ x k', N'[i]? = some x → scope.names.lookup x = some k' → k' = .local ∨ k' = .cell ∨ k' = .free → k' = .free
section
variable {X : Cx} {pins : List (Addr × Obj)} {σ : St} {H : Hp} {s : Shared}
theorem wp_blkEnv {M : Model} {A : Around} {E : Value → Shared → Prop} {scope : Scope} {globals : Addr} {cl : List (Str × Addr)} {qual : Str} {env : Env} {Q : Env → Shared → Prop}
    (hQ : Q { scope := scope, locals := s.heap.objs.size, globals := globals, cells := cellsFrom (s.heap.objs.size + 1) scope.names cl, qual := qual, func := none, code := env.code, frame := env.frame, builtins := env.builtins }
      { s with heap := pushCells (s.heap.push { cls := .type "dict", data := .dict #[] }) scope.names }) :
    wpAny M A (newFunctionEnv scope globals cl [] qual none .none (some env)) Q E s := by
  simp only [newFunctionEnv, Option.isSome_some, if_true]
  refine wpAny_bind (wpAny_alloc ?_)
  refine wpAny_bind (wpAny_layCells _ (fun name kind cells => by cases hkc : kind == NameKind.cell <;> simp [hkc]) _ _ _ _ ?_)
  rw [show ({ s with heap := s.heap.push { cls := .type "dict", data := .dict #[] } } : Shared).heap.objs.size = s.heap.objs.size + 1 from Heap.size_push ..]
  rw [List.forIn_nil]
  exact wpAny_bind (wpAny_pure (wpAny_pure hQ))
theorem inv_blk {N' : List Str} {scope : Scope} {ms : List Nat} {k : Nat} {ex : List Addr} (I : Inv X pins σ H s) (B : BlkOk X N' scope ms k) (hex : ∀ b ∈ ex, FpOk X pins H b ∧ b < s.heap.objs.size) :
    Inv (blkCx X N' scope s.heap.objs.size (cellsFrom (s.heap.objs.size + 1) scope.names (closeFrom X.env scope.names [])) s H ex) [] (blkSt ms k σ) H
      { s with heap := pushCells (s.heap.push { cls := .type "dict", data := .dict #[] }) scope.names } := by
  have hfree : ∀ x ∈ scope.names, x.2 = .free → ∃ c, X.env.cells.lookup x.1 = some c := fun x hx hk => I.ok.has x.1 (B.free x hx hk)
  have keep : ∀ b o, s.heap.get? b = some o → (pushCells (s.heap.push { cls := .type "dict", data := .dict #[] }) scope.names).get? b = some o := fun b o e => pushCells_keeps _ _ b o (Heap.get?_push_of_some _ e)
  have own := cellsFrom_ok scope.names (s.heap.push { cls := .type "dict", data := .dict #[] }) (s.heap.objs.size + 1) [] ⟨fun _ _ hm => (nomatch hm), List.Pairwise.nil⟩ (by rw [Heap.size_push]; exact Nat.le_refl _)
  rw [Heap.size_push] at own
  have clm : ∀ n c, (n, c) ∈ closeFrom X.env scope.names [] → X.env.cells.lookup n = some c := closeFrom_mem (fun n c => X.env.cells.lookup n = some c) scope.names [] hfree (fun _ _ h => nomatch h) fun _ _ h => h
  have clt : ∀ n (c : Addr), X.env.cells.lookup n = some c → @LT.lt Nat instLTNat c s.heap.objs.size := fun n c e => by obtain ⟨v, q⟩ := I.cell n c e; exact q.lt
  have look : ∀ x c, (cellsFrom (s.heap.objs.size + 1) scope.names (closeFrom X.env scope.names [])).lookup x = some c →
      ((x, c) ∈ cellsFrom (s.heap.objs.size + 1) scope.names [] ∧ s.heap.objs.size + 1 ≤ c) ∨ (X.env.cells.lookup x = some c ∧ @LT.lt Nat instLTNat c s.heap.objs.size) := fun x c e => by
    rw [cellsFrom_app, lookup_app] at e
    cases q : (cellsFrom (s.heap.objs.size + 1) scope.names []).lookup x with
    | some c' =>
      rw [q] at e
      have e' : c' = c := Option.some.inj e
      subst e'
      exact .inl ⟨mem_of_lookup q, (own.empty x c' (mem_of_lookup q)).2⟩
    | none =>
      rw [q] at e
      have e2 := clm x c (mem_of_lookup e)
      exact .inr ⟨e2, clt x c e2⟩
  have hasL : ∀ x, scope.names.lookup x = some .cell ∨ scope.names.lookup x = some .free → ∃ c, (cellsFrom (s.heap.objs.size + 1) scope.names (closeFrom X.env scope.names [])).lookup x = some c := fun x hx => by
    rw [cellsFrom_app, lookup_app]
    cases q : (cellsFrom (s.heap.objs.size + 1) scope.names []).lookup x with
    | some c' => exact ⟨c', rfl⟩
    | none =>
      rcases hx with hx | hx
      · obtain ⟨c, e⟩ := cell_has (n := s.heap.objs.size + 1) hx
        rw [q] at e; cases e
      · obtain ⟨c, hc⟩ := closeFrom_has (env := X.env) scope.names [] x (PySem.mem_of_lookup hx)
        exact lookup_some_of_mem hc
  have Ir := I.lt
  refine ⟨⟨I.ok.mod, B.kind, I.ok.glob, I.ok.blt, Nat.le_refl _, fun x y c hx hy => ?_, fun x hx => ?_, fun x c hf hx => ?_, I.ok.hd, I.ok.frames, .inl rfl, fun b hb => ?_, I.bs, Nat.le_trans I.ok.bsz I.sz, fun b o e hb => ?_, fun b hb hfs => ?_, I.stack, I.stkFree⟩,
    rfl, I.bare, Un.kept keep, ⟨fun _ => none, ?_, fun i x v h1 h2 h3 => ?_⟩, fun x c hx => ?_, ?_, fun x c hx => ?_, fun p hp => absurd (show p ∈ ([] : List (Addr × Obj)) from hp) (by simp), I.hok.kept keep, ?_⟩
  · rcases look x c hx with ⟨m1, l1⟩ | ⟨m1, l1⟩
    · rcases look y c hy with ⟨m2, l2⟩ | ⟨m2, l2⟩
      · exact name_of_addr own.apart m1 m2
      · omega
    · rcases look y c hy with ⟨m2, l2⟩ | ⟨m2, l2⟩
      · omega
      · exact I.ok.inj x y c m1 m2
  · have hx : (relabel scope X.env).names.lookup x = some .cell ∨ (relabel scope X.env).names.lookup x = some .free := hx
    rcases hx with hx | hx
    · obtain ⟨k0, e, z | ⟨_, z⟩⟩ := lookup_relabel hx
      · exact hasL x (.inl (by rw [e, ← z]))
      · exact hasL x (.inr (by rw [e, z]))
    · obtain ⟨k0, e, z | ⟨z, _⟩⟩ := lookup_relabel hx
      · exact hasL x (.inr (by rw [e, ← z]))
      · cases z
  · show s.heap.objs.size ≤ c
    have hf : (scope.names.lookup x == some .cell) = true := hf
    have hf' : scope.names.lookup x = some .cell := eq_of_beq hf
    have hx : (cellsFrom (s.heap.objs.size + 1) scope.names (closeFrom X.env scope.names [])).lookup x = some c := hx
    rw [cellsFrom_app, lookup_app] at hx
    obtain ⟨c', e⟩ := cell_has (n := s.heap.objs.size + 1) hf'
    rw [e] at hx
    have z : c' = c := Option.some.inj hx
    subst z
    exact Nat.le_of_succ_le (own.empty x c' (mem_of_lookup e)).2
  · obtain ⟨_, hlt⟩ := hex b hb
    refine ⟨Nat.ne_of_lt hlt, fun x c hx z => ?_⟩
    subst z
    have hlt' : @LT.lt Nat instLTNat c s.heap.objs.size := hlt
    rcases look x c hx with ⟨_, l1⟩ | ⟨m1, _⟩
    · omega
    · obtain ⟨⟨_, _, _, _, f4, _⟩, _⟩ := hex c hb
      exact f4 x c m1 rfl
  · obtain ⟨⟨_, _, _, f3, _, _⟩, _⟩ := hex b hb
    rcases f3 with z | z
    · exact I.ok.noex b o e z
    · have h1 : @LT.lt Nat instLTNat b X.base.objs.size := Heap.lt_size e
      have h2 := I.ok.bsz
      have h3 : @LE.le Nat instLENat X.s₀.heap.objs.size b := z
      omega
  · obtain ⟨⟨_, f1, f2, _, _, _⟩, _⟩ := hex b hb
    rcases List.mem_cons.mp (I.stkSub b hfs) with z | z
    · exact f1 z
    · exact f2 z
  · exact (Heap.Ns.new s.heap (.type "dict")).keeps (pushCells_keeps _ _)
  · have hi : i < X.N.length := by
      by_cases hi : i < X.N.length
      · exact hi
      · exfalso
        unfold blkSt at h2
        have hl : (ms.foldl (fun σ i => σ.set i none) σ).length = X.N.length := by rw [unset_len, I.len]
        rw [List.getElem?_append_right (by omega), List.getElem?_replicate] at h2
        split at h2 <;> cases h2
    have h2' : (ms.foldl (fun σ i => σ.set i none) σ)[i]? = some (some v) := by
      unfold blkSt at h2
      have hl : (ms.foldl (fun σ i => σ.set i none) σ).length = X.N.length := by rw [unset_len, I.len]
      rw [List.getElem?_append_left (by omega)] at h2
      exact h2
    obtain ⟨h4, h5⟩ := unset_get ms σ i v h2'
    have h1' : N'[i]? = some x := h1
    have hXN : X.N[i]? = some x := by rw [← B.pre i hi]; exact h1'
    have h3 : (relabel scope X.env).names.lookup x = some .local ∨ (relabel scope X.env).names.lookup x = some .cell ∨ (relabel scope X.env).names.lookup x = some .free := h3
    have fr : scope.names.lookup x = some .free := by
      have go : ∀ k', (relabel scope X.env).names.lookup x = some k' → k' = .local ∨ k' = .cell ∨ k' = .free → scope.names.lookup x = some .free := fun k' e hk => by
        obtain ⟨k0, e0, z | ⟨_, z⟩⟩ := lookup_relabel e
        · have := B.vis i hi h5 x k0 h1' e0 (z ▸ hk)
          rw [e0, this]
        · rw [e0, z]
      rcases h3 with h3 | h3 | h3
      · exact go _ h3 (.inl rfl)
      · exact go _ h3 (.inr (.inl rfl))
      · exact go _ h3 (.inr (.inr rfl))
    have hk := B.free (x, .free) (PySem.mem_of_lookup fr) rfl
    obtain ⟨m, hn, hl⟩ := I.loc
    obtain ⟨u, r, l⟩ := hl i x v hXN h4 (.inr hk)
    refine ⟨u, r, .inr ⟨?_, ?_⟩⟩
    · rcases h3 with h3 | h3
      · exfalso
        obtain ⟨k0, e0, z | ⟨z, _⟩⟩ := lookup_relabel h3
        · rw [fr] at e0; cases e0; cases z
        · cases z
      · exact h3
    · rcases l with ⟨hloc, _⟩ | ⟨_, c, hc, hcell⟩
      · rcases hk with hk | hk
        · rw [hk] at hloc; cases hloc
        · rw [hk] at hloc; cases hloc
      · refine ⟨c, ?_, hcell.keeps keep⟩
        obtain ⟨c2, e2⟩ := hasL x (.inr fr)
        have e2' : (cellsFrom (s.heap.objs.size + 1) scope.names (closeFrom X.env scope.names [])).lookup x = some c2 := e2
        rcases look x c2 e2' with ⟨m1, _⟩ | ⟨m1, _⟩
        · exfalso
          rcases cellsFrom_src scope.names _ _ _ m1 with q | q
          · have := B.uniq _ q
            rw [fr] at this
            cases this
          · cases q
        · rw [hc] at m1
          have z : c = c2 := Option.some.inj m1
          rw [z]
          exact e2
  · rcases look x c hx with ⟨m1, _⟩ | ⟨m1, _⟩
    · exact ⟨none, (own.empty x c m1).1⟩
    · obtain ⟨v, q⟩ := I.cell x c m1
      exact ⟨v, q.keeps keep⟩
  · exact I.hok.fresh (Nat.le_refl _)
  · rcases look x c hx with ⟨_, l1⟩ | ⟨m1, _⟩
    · exact I.hok.fresh (by omega)
    · exact I.freeC x c m1
  · show (blkSt ms k σ).length = N'.length
    unfold blkSt
    rw [List.length_append, unset_len, List.length_replicate, I.len, B.len]
end
end L2
namespace L2
open PySem PySem.Spec PyProof.Rows
def tTrue : TT := fun _ H Q => Q true H
def CompW (J : It) (g : TG) (tc : TT) (te : TE) (D : Addr) (Q : VK) (σ0 : St) (H0 : Hp) : Prop := ∃ W : Nat → Nat → St → Hp → Prop, (∃ m, W 0 m σ0 (upd H0 D (.lst []))) ∧
  ∀ i m σ' H2, W i m σ' H2 → (J.stop i H2 ∧ Q (.ref D) H2) ∨ (J.go i H2 ∧ ∀ x H3, J.yld i H2 x H3 → g x σ' H3 fun σ2 H4 => tc σ2 H4 fun b H5 =>
    if b = true then te σ2 H5 fun v H6 => ∃ ys, H6 D = some (.lst ys) ∧ ys.length < sizeLine ∧ ∃ m', m' < m ∧ W (i + 1) m' σ2 (upd H6 D (.lst (ys ++ [v])))
    else ∃ m', m' < m ∧ W (i + 1) m' σ2 H5)
def tComp (wi : TI) (g : TG) (tc : TT) (te : TE) (ms : List Nat) (k : Nat) : TE := fun σ H Q => wi σ H fun J H1 => ∀ D, H1 D = none → CompW J g tc te D Q (blkSt ms k σ) H1
def PTs (X : Cx) (ifs : List Expr) (t : TT) : Prop :=
  ∀ (pins : List (Addr × Obj)) (s : Shared) (σ : St) (H : Hp) (Q : Bool → Hp → Prop), Inv X pins σ H s → t σ H Q →
    wpAny (model X.prog X.w) X.A (forIn ifs true fun c r => if r = true then do let ok ← isTrue c X.env (eval c X.env); pure (ForInStep.yield ok) else pure (ForInStep.yield r)) (TP X pins σ Q) X.xe s
section
variable {X : Cx}
theorem pts_nil : PTs X [] tTrue := fun pins s σ H Q I h => wpAny_tests_nil ⟨H, I, h⟩
theorem comp_core {elt target iter : Expr} {ifs : List Expr} {scope : Scope} {pos : Pos} {p : Pos} {wi : TI} {g : TG} {tc : TT} {te : TE} {N' : List Str} {ms : List Nat} {k : Nat} {use : Option (Value → Sem Unit)}
    {Q : Value → Shared → Prop} {pins : List (Addr × Obj)} {s : Shared} {σ : St} {H : Hp} {Qv : VK} (hcalm : X.calm = true) (hi : PI X target iter wi)
    (B : BlkOk X N' scope ms k) (hg : ∀ C cells s₀ H₀ ex, PG (blkCx X N' scope C cells s₀ H₀ ex) target g) (hc : ∀ C cells s₀ H₀ ex, PTs (blkCx X N' scope C cells s₀ H₀ ex) ifs tc)
    (he : ∀ C cells s₀ H₀ ex, PE (blkCx X N' scope C cells s₀ H₀ ex) elt te) (hs : ∀ x, foldedSetIterable iter X.env x = pure x) (I : Inv X pins σ H s) (hw : tComp wi g tc te ms k σ H Qv)
    (hpost : ∀ (D : Addr) (H' : Hp) (s' : Shared) (C : Addr) (m : Str → Option Value), Inv X pins σ H' s' → s'.heap.Ns C m → H' C = none → C ≠ X.env.locals → X.s₀.heap.objs.size ≤ C →
      (∀ x c, X.env.cells.lookup x = some c → c ≠ C) → (∀ p ∈ X.pn ++ pins, p.1 ≠ C) → Qv (.ref D) H' → compPost (model X.prog X.w) X.A X.xe use Q (.ref D) C (.ok .next) s') :
    wpAny (model X.prog X.w) X.A (comprehension (.ListComp elt [⟨target, iter, ifs, 0⟩] scope pos) scope X.env p (newList []) false (eval iter X.env) use) Q X.xe s := by
  have hfree : ∀ x ∈ scope.names, x.2 = .free → ∃ c, X.env.cells.lookup x.1 = some c := fun x hx hk => I.ok.has x.1 (B.free x hx hk)
  refine wpAny_comprehension_free (use := use) rfl hs (closureFor_eq hfree) B.kind (fun x hx hl => by rw [B.uniq x hx, hl]) ?_
  refine thn (hi pins s σ H _ I hw) fun v s1 h1 => thn h1 fun itv s2 h2 => ?_
  obtain ⟨it, fp, tn, J, H2, rfl, I2, T, st2, f2, h2⟩ := h2
  refine wpAny_newObj_type ?_
  have I3 : Inv X pins σ (upd H2 s2.heap.objs.size (.lst [])) { s2 with heap := s2.heap.push { cls := .type "list", data := .seq ([] : List Value).toArray } } := I2.lnew (t' := s2.toks) .nil (Nat.zero_le _)
  obtain ⟨W, ⟨m0, w0⟩, turn⟩ := h2 s2.heap.objs.size I2.fresh
  have hfp3 : ∀ b ∈ fp, FpOk X pins (upd H2 s2.heap.objs.size (.lst [])) b ∧ b < (s2.heap.push { cls := .type "list", data := .seq ([] : List Value).toArray }).objs.size := fun b hb => by
    obtain ⟨o, e, _⟩ := T.obj _ _ st2 b hb
    have hlt := Heap.lt_size e
    obtain ⟨f0, fr⟩ := f2 b hb
    refine ⟨⟨by rw [upd_ne (Nat.ne_of_lt hlt)]; exact f0, fr⟩, ?_⟩
    rw [Heap.size_push]
    exact Nat.lt_succ_of_lt hlt
  generalize hs3 : ({ s2 with heap := s2.heap.push { cls := .type "list", data := .seq ([] : List Value).toArray } } : Shared) = s3 at I3
  have hh3 : s2.heap.push { cls := .type "list", data := .seq ([] : List Value).toArray } = s3.heap := by rw [← hs3]
  rw [hh3] at hfp3
  refine wp_blkEnv ?_
  have I4 := inv_blk I3 B hfp3
  have st4 : tn 0 (pushCells (s3.heap.push { cls := .type "dict", data := .dict #[] }) scope.names) := T.keep _ _ _ st2 fun b hb o e => pushCells_keeps _ _ b o (Heap.get?_push_of_some _ (by rw [← hh3]; exact Heap.get?_push_of_some _ e))
  have fr4 : ∀ b ∈ fp, upd H2 s2.heap.objs.size (.lst []) b = none := fun b hb => (hfp3 b hb).1.1
  generalize hs4 : ({ s3 with heap := pushCells (s3.heap.push { cls := .type "dict", data := .dict #[] }) scope.names } : Shared) = s4 at I4
  have hh4 : pushCells (s3.heap.push { cls := .type "dict", data := .dict #[] }) scope.names = s4.heap := by rw [← hs4]
  rw [hh4] at st4
  have stat : ∀ {H' : Hp} {pn' : List (Addr × Obj)}, pn' = [] → (∀ b ∈ fp, H' b = none) → ∀ b ∈ fp, FpOk (blkCx X N' scope s3.heap.objs.size (cellsFrom (s3.heap.objs.size + 1) scope.names (closeFrom X.env scope.names [])) s3 (upd H2 s2.heap.objs.size (.lst [])) fp) pn' H' b := fun hp hn b hb => by
    obtain ⟨x1, x2⟩ := I4.ok.exf b hb
    exact ⟨hn b hb, x1, I4.ok.exfs b hb, .inl hb, x2, fun p hp' => by rw [hp] at hp'; exact absurd (show p ∈ ([] : List (Addr × Obj)) from hp') (by simp)⟩
  have loop : ∀ it' : Value, it' = .ref it → codeAny (model X.prog X.w) X.A (.compLoop (.ListComp elt [⟨target, iter, ifs, 0⟩] scope pos) 0 it' (.ref s2.heap.objs.size) (blkEnv scope X.env s3.heap.objs.size (cellsFrom (s3.heap.objs.size + 1) scope.names (closeFrom X.env scope.names []))))
      (compPost (model X.prog X.w) X.A X.xe use Q (.ref s2.heap.objs.size) s3.heap.objs.size) s4 := by
    rintro it' rfl
    refine compLoop_any (fun n s' => ∃ i σ' H', Inv (blkCx X N' scope s3.heap.objs.size (cellsFrom (s3.heap.objs.size + 1) scope.names (closeFrom X.env scope.names [])) s3 (upd H2 s2.heap.objs.size (.lst [])) fp) [] σ' H' s' ∧ tn i s'.heap ∧ (∀ b ∈ fp, H' b = none) ∧ W i n σ' H') ?_ m0 ⟨0, _, _, I4, st4, fr4, w0⟩
    rintro n s5 ⟨i, σ5, H5, I5, st5, fr5, w5⟩
    rcases turn i n σ5 H5 w5 with ⟨stop, q⟩ | ⟨go, step⟩
    · refine thn (T.done (blkCx X N' scope s3.heap.objs.size (cellsFrom (s3.heap.objs.size + 1) scope.names (closeFrom X.env scope.names [])) s3 (upd H2 s2.heap.objs.size (.lst [])) fp) rfl rfl rfl hcalm i [] s5 σ5 H5 (fun _ _ => False) I5 (stat rfl fr5) st5 stop) fun r s6 ⟨hr, I6⟩ => ?_
      subst hr
      have I7 : Inv X pins σ H5 s6 := I3.call' I6.os I6.base I6.hok I6.bare fun b hb => by
        obtain ⟨⟨_, f1, _, f3, f4, f5⟩, _⟩ := hfp3 b hb
        exact ⟨f3, f1, f4, f5⟩
      obtain ⟨m, hn, _⟩ := I6.loc
      have l3 := I3.lt
      refine hpost _ H5 s6 _ m I7 hn I6.free (Nat.ne_of_gt l3) I3.sz (fun x c e z => ?_) (fun p hp z => ?_) q
      · obtain ⟨v, hv⟩ := I3.cell x c e
        have := hv.lt
        rw [z] at this
        exact Nat.lt_irrefl _ this
      · have := Heap.lt_size (I3.pin p hp).1
        rw [z] at this
        exact Nat.lt_irrefl _ this
    · refine thn (T.item (blkCx X N' scope s3.heap.objs.size (cellsFrom (s3.heap.objs.size + 1) scope.names (closeFrom X.env scope.names [])) s3 (upd H2 s2.heap.objs.size (.lst [])) fp) rfl rfl rfl hcalm i [] s5 σ5 H5 (fun _ _ => False) I5 (stat rfl fr5) st5 go) fun r s6 ⟨u, hr, h6⟩ => ?_
      subst hr
      refine thn h6 fun _ s7 ⟨x, H7, I7, r7, y7, st7, fr7⟩ => ?_
      have I7' := I7.pinned (stat rfl fr7) (T.obj _ _ st7)
      refine thn (hg _ _ _ _ _ _ s7 σ5 H7 x u _ I7' r7 (step x H7 y7)) fun _ s8 ⟨σ8, H8, I8, q8⟩ => ?_
      refine thn (hc _ _ _ _ _ _ s8 σ8 H8 _ I8 q8) fun b s9 ⟨H9, I9, q9⟩ => ?_
      have again : ∀ {σ' : St} {H' : Hp} {s' : Shared}, Inv (blkCx X N' scope s3.heap.objs.size (cellsFrom (s3.heap.objs.size + 1) scope.names (closeFrom X.env scope.names [])) s3 (upd H2 s2.heap.objs.size (.lst [])) fp) ([] ++ pinsAt fp s7.heap) σ' H' s' →
          (∃ m', m' < n ∧ W (i + 1) m' σ' H') → ∃ m, m < n ∧ ∃ i σ'' H'', Inv (blkCx X N' scope s3.heap.objs.size (cellsFrom (s3.heap.objs.size + 1) scope.names (closeFrom X.env scope.names [])) s3 (upd H2 s2.heap.objs.size (.lst [])) fp) [] σ'' H'' s' ∧ tn i s'.heap ∧ (∀ b ∈ fp, H'' b = none) ∧ W i m σ'' H'' := fun {σ' H' s'} I' ⟨m', hm, w'⟩ => by
        refine ⟨m', hm, i + 1, σ', H', I'.unpinned, T.keep _ _ _ st7 fun b hb o e => (I'.pin (b, o) (List.mem_append_right _ (List.mem_append_right _ (mem_pinsAt hb e)))).1, fun b hb => ?_, w'⟩
        obtain ⟨o, e, d⟩ := T.obj _ _ st7 b hb
        exact (I'.pin (b, o) (List.mem_append_right _ (List.mem_append_right _ (mem_pinsAt hb e)))).2.1
      cases b with
      | false =>
        rw [if_neg Bool.false_ne_true] at q9 ⊢
        exact again I9 q9
      | true =>
        rw [if_pos rfl] at q9 ⊢
        refine thn (he _ _ _ _ _ _ s9 σ8 H9 _ I9 q9) fun y s10 ⟨vy, H10, I10, r10, ys, hys, hz, q10⟩ => ?_
        refine thn (mt_append _ s10 σ8 H10 (.ref s2.heap.objs.size) [vy] (.ref s2.heap.objs.size) [y] (fun _ H' => H' = upd H10 s2.heap.objs.size (.lst (ys ++ [vy]))) I10 rfl (.cons r10 .nil) ⟨_, ys, vy, rfl, rfl, hys, hz, rfl⟩) fun _ s11 ⟨_, H11, I11, _, e11⟩ => ?_
        subst e11
        exact again I11 q10
  have fin := codeAny_compStart_list (loop _ rfl) (T.self _ 0 s4 _ _ st4 (loop _ rfl))
  exact fin
theorem pe_compG {elt target iter : Expr} {ifs : List Expr} {scope : Scope} {pos : Pos} {wi : TI} {g : TG} {tc : TT} {te : TE} {N' : List Str} {ms : List Nat} {k : Nat} (hcalm : X.calm = true) (hi : PI X target iter wi)
    (B : BlkOk X N' scope ms k) (hg : ∀ C cells s₀ H₀ ex, PG (blkCx X N' scope C cells s₀ H₀ ex) target g) (hc : ∀ C cells s₀ H₀ ex, PTs (blkCx X N' scope C cells s₀ H₀ ex) ifs tc)
    (he : ∀ C cells s₀ H₀ ex, PE (blkCx X N' scope C cells s₀ H₀ ex) elt te) (hs : ∀ x, foldedSetIterable iter X.env x = pure x := by intro _; rfl) :
    PE X (.ListComp elt [⟨target, iter, ifs, 0⟩] scope pos) (tComp wi g tc te ms k) := by
  intro pins s σ H Q I h
  rw [eval_ListComp]
  refine comp_core (use := none) (Qv := Q) hcalm hi B hg hc he hs I h fun D H' s' C m I' hn f0 f1 f3 f4 f5 q => ?_
  exact ⟨m, hn, fun h' sb => ⟨.ref D, H', I'.turned (t' := s'.toks) (fun b o hb e => (sb.2 b hb).trans e) f0 f1 (.inr f3) f4 f5, rfl, q⟩⟩
end
end L2
namespace L2
open PySem PySem.Spec PyProof.Rows
def blkB (N : List Str) (lk : Str → Option NameKind) (N' : List Str) (scope : Scope) (ms : List Nat) (k : Nat) : Bool :=
  scope.kind == .function && (scope.names.all fun x => scope.names.lookup x.1 == some x.2) && (scope.names.all fun x => !(x.2 == .free) || lk x.1 == some .cell || lk x.1 == some .free) &&
  N'.length == N.length + k && (N'.take N.length == N) &&
  (List.range N.length).all fun i => ms.contains i || (match N'[i]? with | none => true | some x => match scope.names.lookup x with | some .local => false | some .cell => false | _ => true)
theorem BlkOk.of {X : Cx} {N' : List Str} {scope : Scope} {ms : List Nat} {k : Nat} (h : blkB X.N X.env.kindOf N' scope ms k = true) : BlkOk X N' scope ms k := by
  unfold blkB at h
  simp only [Bool.and_eq_true] at h
  obtain ⟨⟨⟨⟨⟨h1, h2⟩, h3⟩, h4⟩, h5⟩, h6⟩ := h
  have e5 : N'.take X.N.length = X.N := eq_of_beq h5
  refine ⟨eq_of_beq h1, fun x hx => eq_of_beq (List.all_eq_true.mp h2 x hx), fun x hx hk => ?_, eq_of_beq h4, fun i hi => ?_, fun i hi hm x k' e1 e2 hk => ?_⟩
  · have q := List.all_eq_true.mp h3 x hx
    simp only [Bool.or_eq_true] at q
    rcases q with (q | q) | q
    · rw [hk] at q; cases q
    · exact .inl (eq_of_beq q)
    · exact .inr (eq_of_beq q)
  · have q : (N'.take X.N.length)[i]? = N'[i]? := List.getElem?_take_of_lt hi
    rw [e5] at q
    exact q.symm
  · have q := List.all_eq_true.mp h6 i (List.mem_range.mpr hi)
    rw [Bool.or_eq_true] at q
    rcases q with q | q
    · exact absurd (by simpa using q) hm
    · rw [e1] at q
      rcases hk with rfl | rfl | rfl
      · simp only [e2] at q; cases q
      · simp only [e2] at q; cases q
      · rfl
section
variable {K : PySem.W.Frag} {a : Addr} {xs : List V} {g : TG} {tc : TT} {te : TE} {D : Addr} {σ : St} {H : Hp} {Q : VK}
def CNext (D : Addr) (n i : Nat) (Pv : Nat → List V → St → Hp → Prop) (σ2 : St) : VK := fun v H6 => ∃ ys, H6 D = some (.lst ys) ∧ ys.length < sizeLine ∧ ∃ m', m' < n - i ∧ (m' = n - (i + 1) ∧ i + 1 ≤ n ∧ ∃ ys', Pv (i + 1) ys' σ2 (upd H6 D (.lst (ys ++ [v]))))
def CSkip (n i : Nat) (Pv : Nat → List V → St → Hp → Prop) (σ2 : St) (H5 : Hp) : Prop := ∃ m', m' < n - i ∧ (m' = n - (i + 1) ∧ i + 1 ≤ n ∧ ∃ ys', Pv (i + 1) ys' σ2 H5)
theorem cnext {n i : Nat} {Pv : Nat → List V → St → Hp → Prop} {σ2 : St} {v : V} {H6 : Hp} {ys : List V} (hi : i < n) (h : H6 D = some (.lst ys)) (hz : ys.length ≤ 100000) (p : Pv (i + 1) (ys ++ [v]) σ2 (upd H6 D (.lst (ys ++ [v])))) : CNext D n i Pv σ2 v H6 :=
  ⟨ys, h, smallLt hz, n - (i + 1), by omega, rfl, hi, _, p⟩
theorem comp_list (Pv : Nat → List V → St → Hp → Prop) (h0 : Pv 0 [] σ (upd H D (.lst []))) (hl : ∀ i ys σ H, i ≤ xs.length → Pv i ys σ H → SqL K H a xs)
    (hs : ∀ i x ys σ H, xs[i]? = some x → i < xs.length → Pv i ys σ H → g x σ H fun σ2 H4 => tc σ2 H4 fun b H5 => if b = true then te σ2 H5 (CNext D xs.length i Pv σ2) else CSkip xs.length i Pv σ2 H5)
    (hd : ∀ ys σ H, Pv xs.length ys σ H → Q (.ref D) H) :
    CompW (Itl K a) g tc te D Q σ H := by
  refine ⟨fun i m σ H => m = xs.length - i ∧ i ≤ xs.length ∧ ∃ ys, Pv i ys σ H, ⟨xs.length, by simp, Nat.zero_le _, [], h0⟩, ?_⟩
  rintro i m σ H ⟨rfl, hi, ys, p⟩
  have q := hl i ys σ H hi p
  by_cases hlt : i < xs.length
  · refine .inr ⟨⟨xs, xs[i], q, by simp [hlt]⟩, fun x H' y => ?_⟩
    obtain ⟨e, y⟩ := y
    subst e
    exact hs i x ys σ _ (y xs q) hlt p
  · have e : i = xs.length := by omega
    subst e
    exact .inl ⟨⟨xs, q, Nat.le_refl _⟩, hd ys σ H p⟩
theorem comp_tup (Pv : Nat → List V → St → Hp → Prop) (h0 : Pv 0 [] σ (upd H D (.lst []))) (hl : ∀ i ys σ H, i ≤ xs.length → Pv i ys σ H → SqT K H a xs)
    (hs : ∀ i x ys σ H, xs[i]? = some x → i < xs.length → Pv i ys σ H → g x σ H fun σ2 H4 => tc σ2 H4 fun b H5 => if b = true then te σ2 H5 (CNext D xs.length i Pv σ2) else CSkip xs.length i Pv σ2 H5)
    (hd : ∀ ys σ H, Pv xs.length ys σ H → Q (.ref D) H) :
    CompW (Itt K a) g tc te D Q σ H := by
  refine ⟨fun i m σ H => m = xs.length - i ∧ i ≤ xs.length ∧ ∃ ys, Pv i ys σ H, ⟨xs.length, by simp, Nat.zero_le _, [], h0⟩, ?_⟩
  rintro i m σ H ⟨rfl, hi, ys, p⟩
  have q := hl i ys σ H hi p
  by_cases hlt : i < xs.length
  · refine .inr ⟨⟨xs, xs[i], q, by simp [hlt]⟩, fun x H' y => ?_⟩
    obtain ⟨e, y⟩ := y
    subst e
    exact hs i x ys σ _ (y xs q) hlt p
  · have e : i = xs.length := by omega
    subst e
    exact .inl ⟨⟨xs, q, Nat.le_refl _⟩, hd ys σ H p⟩
theorem comp_range {lo : Int} {n : Nat} (Pv : Nat → List V → St → Hp → Prop) (h0 : Pv 0 [] σ (upd H D (.lst [])))
    (hs : ∀ i ys σ H, i < n → Pv i ys σ H → g (.int (lo + i)) σ H fun σ2 H4 => tc σ2 H4 fun b H5 => if b = true then te σ2 H5 (CNext D n i Pv σ2) else CSkip n i Pv σ2 H5)
    (hd : ∀ ys σ H, Pv n ys σ H → Q (.ref D) H) :
    CompW (Itr lo n) g tc te D Q σ H := by
  refine ⟨fun i m σ H => m = n - i ∧ i ≤ n ∧ ∃ ys, Pv i ys σ H, ⟨n, by simp, Nat.zero_le _, [], h0⟩, ?_⟩
  rintro i m σ H ⟨rfl, hi, ys, p⟩
  by_cases hlt : i < n
  · refine .inr ⟨hlt, fun x H' y => ?_⟩
    obtain ⟨e, y⟩ := y
    subst e y
    exact hs i ys σ _ hlt p
  · have e : i = n := by omega
    subst e
    exact .inl ⟨Nat.le_refl _, hd ys σ H p⟩
end
end L2
namespace Sr
open PySem PyProof.Rows
def Tells (prog : Program) (w : World) (A : Around) (s : Shared) (κ : KeyKind) (kd : SortKind) : Prop :=
  ∀ (E : Value → Shared → Prop) (x y : Value) (a b : κ.α) (Q : Bool → Shared → Prop), κ.keyOf x = some a → κ.keyOf y = some b → Q (κ.blt a b) s → wpAny (model prog w) A (keyLt' kd x y) Q E s
structure Stays (kd : SortKind) (o : Array Keyed) (st : SortSt) : Prop where
  pm : (arrOf st).Perm o
  kn : kindOf st = kd
  fl : failedOf st = none
  pn : pendingOf st = #[]
section
variable {prog : Program} {w : World} {A : Around} {E : Value → Shared → Prop} {s : Shared} {o : Array Keyed} {κ : KeyKind} {kd : SortKind} {st : SortSt}
theorem Stays.sz (h : Stays kd o st) : (arrOf st).size = o.size := h.pm.size_eq
theorem Stays.put (h : Stays kd o st) {xs : Array Keyed} (p : xs.Perm (arrOf st)) : Stays kd o (setArr st xs) := ⟨p.trans h.pm, h.kn, h.fl, h.pn⟩
theorem less_at (T : Tells prog w A s κ kd) (h0 : KeysOf κ o) (S : Stays kd o st) {i j : Nat} {Q : Option Bool → SortSt → Prop} (hi : i < o.size) (hj : j < o.size)
    (q : Q (some (κ.blt (KK κ (arrOf st) i) (KK κ (arrOf st) j))) st) : wpS (model prog w) A E s (ltAt' i j) Q st := by
  have key : ∀ {k : Nat}, k < o.size → ∃ v p a, (arrOf st)[k]? = some (v, p) ∧ κ.keyOf v = some a ∧ KK κ (arrOf st) k = a := fun {k} hk => by
    have hk' : k < (arrOf st).size := S.sz ▸ hk
    have hin : (arrOf st)[k] ∈ o.toList := (Array.perm_iff_toList_perm.mp S.pm).mem_iff.mp (by simp)
    obtain ⟨a, ea⟩ := h0 _ hin
    have e := getElem?_pos (arrOf st) k hk'
    exact ⟨_, _, a, e, ea, by simp only [KK, e, ea, Option.getD_some]⟩
  obtain ⟨x, p, a, e1, k1, r1⟩ := key hi
  obtain ⟨y, p', b, e2, k2, r2⟩ := key hj
  rw [r1, r2] at q
  rw [ltAt'_eq]
  refine wpS_bind (wpS_get ?_)
  show wpS _ _ _ _ (elem' (arrOf st) i >>= fun u => elem' (arrOf st) j >>= fun v => lt' u v) Q st
  rw [elem'_eq, elem'_eq, e1, e2]
  refine wpS_bind (wpS_pure (wpS_bind (wpS_pure ?_)))
  rw [lt'_eq]
  refine wpS_bind (wpS_get ?_)
  rw [S.kn]
  exact wpS_bind (wpS_lift (wpAny_attempt (T _ x y a b _ k1 k2 ⟨rfl, wpS_pure q⟩)))
theorem up_one {xs : Array Keyed} {x : Nat} (h : SortedToK κ xs x) (hx : x = 0 ∨ κ.kle (KK κ xs (x - 1)) (KK κ xs x)) : SortedToK κ xs (x + 1) := fun i j hij hj => by
  rcases Nat.lt_or_ge j x with hjx | hjx
  · exact h i j hij hjx
  obtain rfl : j = x := by omega
  rcases Nat.lt_or_ge i j with hi | hi
  · rcases hx with z | z
    · omega
    · exact KeyOrd.kle_trans (h i (j - 1) (by omega) (by omega)) z
  · obtain rfl : i = j := by omega
    exact KeyOrd.kle_refl _
theorem down_one {xs : Array Keyed} {x : Nat} (h : NonIncK κ xs x) (hx : x = 0 ∨ κ.kle (KK κ xs x) (KK κ xs (x - 1))) : NonIncK κ xs (x + 1) := fun i j hij hj => by
  rcases Nat.lt_or_ge j x with hjx | hjx
  · exact h i j hij hjx
  obtain rfl : j = x := by omega
  rcases Nat.lt_or_ge i j with hi | hi
  · rcases hx with z | z
    · omega
    · exact KeyOrd.kle_trans z (h i (j - 1) (by omega) (by omega))
  · obtain rfl : i = j := by omega
    exact KeyOrd.kle_refl _
theorem up_1 {xs : Array Keyed} : SortedToK κ xs 1 := up_one (fun _ _ _ hj => absurd hj (Nat.not_lt_zero _)) (.inl rfl)
theorem rise (T : Tells prog w A s κ kd) (h0 : KeysOf κ o) (S : Stays kd o st) {b n : Nat} {Q : AscSt → SortSt → Prop} (hn : n ≤ o.size) (hb : 1 ≤ b) (hbn : b ≤ n) (hs : SortedToK κ (arrOf st) b)
    (q : ∀ m, b ≤ m → m ≤ n → SortedToK κ (arrOf st) m → (m = n ∨ κ.klt (KK κ (arrOf st) m) (KK κ (arrOf st) (m - 1))) → Q (none, m) st) : wpS (model prog w) A E s (ascLoop b n) Q st := by
  unfold ascLoop
  refine wpS_forRange (I := fun m c u => u = st ∧ c = (none, m) ∧ SortedToK κ (arrOf st) m) (fun m c u hbm hmn hI => ?_) (fun c u hI => ?_) ⟨rfl, rfl, hs⟩
  · obtain ⟨rfl, rfl, up⟩ := hI
    refine wpS_bind (less_at T h0 S (i := m) (j := m - 1) (by omega) (by omega) ?_)
    cases lt : κ.blt (KK κ (arrOf u) m) (KK κ (arrOf u) (m - 1)) with
    | true => exact wpS_pure (q m hbm (by omega) up (.inr lt))
    | false => exact wpS_pure ⟨rfl, rfl, up_one up (.inr lt)⟩
  · obtain ⟨rfl, rfl, up⟩ := hI
    have e : max b n = n := by omega
    rw [e] at up ⊢
    exact q n hbn (Nat.le_refl _) up (.inl rfl)
theorem last3 (T : Tells prog w A s κ kd) (h0 : KeysOf κ o) (S : Stays kd o st) {b n : Nat} {Q : Option Nat → SortSt → Prop} (hn : n ≤ o.size) (hb : 1 ≤ b) (hbn : b ≤ n) (hs : NonIncK κ (arrOf st) b)
    (q : ∀ m u, Stays kd o u → 1 ≤ m → m ≤ n → SortedToK κ (arrOf u) m → Q (some m) u) : wpS (model prog w) A E s (tail3 b n) Q st := by
  have z : b ≤ (arrOf st).size := by rw [S.sz]; omega
  have S' : Stays kd o (setArr st (mirror (arrOf st) 0 b ((b - 0) / 2))) := S.put (mirror_perm ..)
  unfold tail3
  refine wpS_bind (wpS_reverse (wpS_bind (rise T h0 S' hn hb hbn (fun i j hij hj => ?_) fun m h1 h2 up _ => wpS_pure (q m _ S' (by omega) h2 up))))
  show κ.kle (KK κ (mirror (arrOf st) 0 b ((b - 0) / 2)) i) (KK κ (mirror (arrOf st) 0 b _) j)
  rw [KK_mirror z i, KK_mirror z j, if_pos ⟨Nat.zero_le _, by omega⟩, if_pos ⟨Nat.zero_le _, by omega⟩]
  exact hs _ _ (by omega) (by omega)
theorem fall (T : Tells prog w A s κ kd) (h0 : KeysOf κ o) (S : Stays kd o st) {b n : Nat} {Q : DescSt → SortSt → Prop} (hn : n ≤ o.size) (hb : 1 ≤ b) (hbn : b ≤ n) (hs : NonIncK κ (arrOf st) b)
    (q : ∀ m e u, Stays kd o u → b ≤ m → m ≤ n → NonIncK κ (arrOf u) m → e + 1 ≤ m → (∀ i, m - (e + 1) ≤ i → i < m → KK κ (arrOf u) i = KK κ (arrOf u) (m - 1)) → Q (none, m, e) u) :
    wpS (model prog w) A E s (descLoop b n) Q st := by
  unfold descLoop
  refine wpS_forRange (I := fun m c u => ∃ e, c = (none, m, e) ∧ Stays kd o u ∧ NonIncK κ (arrOf u) m ∧ e + 1 ≤ m ∧ ∀ i, m - (e + 1) ≤ i → i < m → KK κ (arrOf u) i = KK κ (arrOf u) (m - 1))
    (fun m c u hbm hmn hI => ?_) (fun c u hI => ?_) ⟨0, rfl, S, hs, hb, fun i h1 h2 => congrArg _ (by omega)⟩
  · obtain ⟨e, rfl, S', dn, he, al⟩ := hI
    have z : m ≤ (arrOf u).size := by rw [S'.sz]; omega
    refine wpS_bind (less_at T h0 S' (i := m) (j := m - 1) (by omega) (by omega) ?_)
    cases lt : κ.blt (KK κ (arrOf u) m) (KK κ (arrOf u) (m - 1)) with
    | true =>
      have dn' := down_one dn (.inr (KeyOrd.kle_of_klt lt))
      show wpS _ _ _ _ (if e > 0 then _ else _) _ u
      by_cases h : e > 0
      · rw [if_pos h]
        refine wpS_bind (wpS_reverse (wpS_pure ⟨0, rfl, S'.put (mirror_perm ..), fun i j hij hj => ?_, Nat.succ_le_succ (Nat.zero_le _), fun i h1 h2 => congrArg _ (by omega)⟩))
        show κ.kle (KK κ (mirror _ _ _ _) j) (KK κ (mirror _ _ _ _) i)
        rw [KK_mirror_equal z al i, KK_mirror_equal z al j]
        exact dn' i j hij hj
      · rw [if_neg h]
        exact wpS_pure ⟨0, rfl, S', dn', Nat.succ_le_succ (Nat.zero_le _), fun i h1 h2 => congrArg _ (by omega)⟩
    | false =>
      refine wpS_bind (less_at T h0 S' (i := m - 1) (j := m) (by omega) (by omega) ?_)
      cases gt : κ.blt (KK κ (arrOf u) (m - 1)) (KK κ (arrOf u) m) with
      | true => exact wpS_pure (q m e u S' hbm (by omega) dn he al)
      | false =>
        have same : KK κ (arrOf u) m = KK κ (arrOf u) (m - 1) := KeyOrd.kle_antisymm gt lt
        refine wpS_pure ⟨e + 1, rfl, S', down_one dn (.inr (same ▸ KeyOrd.kle_refl _)), by omega, fun i h1 h2 => ?_⟩
        show KK κ (arrOf u) i = KK κ (arrOf u) m
        rcases Nat.lt_or_ge i m with h | h
        · rw [same]
          exact al i (by omega) h
        · rw [show i = m by omega]
  · obtain ⟨e, rfl, S', dn, he, al⟩ := hI
    have ez : max b n = n := by omega
    rw [ez] at dn he al ⊢
    exact q n e u S' hbn (Nat.le_refl _) dn he al
theorem fallen (T : Tells prog w A s κ kd) (h0 : KeysOf κ o) (S : Stays kd o st) {b n : Nat} {Q : Option Nat → SortSt → Prop} (hn : n ≤ o.size) (hbn : b + 1 ≤ n) (hs : NonIncK κ (arrOf st) (b + 1))
    (q : ∀ m u, Stays kd o u → 1 ≤ m → m ≤ n → SortedToK κ (arrOf u) m → Q (some m) u) : wpS (model prog w) A E s (descPart b n) Q st := by
  unfold descPart
  refine wpS_bind (wpS_lift (wpAny_rule ⟨rfl, wpS_bind (fall T h0 S hn (Nat.succ_le_succ (Nat.zero_le _)) hbn hs fun m e u S' h1 h2 dn he al => ?_)⟩))
  have z : m ≤ (arrOf u).size := by rw [S'.sz]; omega
  show wpS _ _ _ _ (if e > 0 then _ else _) _ u
  by_cases h : e > 0
  · rw [if_pos h]
    refine wpS_bind (wpS_reverse (last3 (b := m) T h0 (S'.put (mirror_perm ..)) hn (by omega) h2 (fun i j hij hj => ?_) q))
    show κ.kle (KK κ (mirror _ _ _ _) j) (KK κ (mirror _ _ _ _) i)
    rw [KK_mirror_equal z al i, KK_mirror_equal z al j]
    exact dn i j hij hj
  · rw [if_neg h]
    exact last3 (b := m) T h0 S' hn (by omega) h2 dn q
theorem run_of (T : Tells prog w A s κ kd) (h0 : KeysOf κ o) (S : Stays kd o st) {n : Nat} {Q : Option Nat → SortSt → Prop} (hn : n ≤ o.size) (h1 : 1 ≤ n)
    (q : ∀ m u, Stays kd o u → 1 ≤ m → m ≤ n → SortedToK κ (arrOf u) m → Q (some m) u) : wpS (model prog w) A E s (countRun' 0 n) Q st := by
  rw [countRun0_eq]
  refine wpS_bind (rise T h0 S hn (Nat.le_refl 1) h1 up_1 fun m hm1 hm2 up hor => ?_)
  show wpS _ _ _ _ (if (m == n) = true then _ else _) _ st
  by_cases e : m = n
  · rw [if_pos (beq_iff_eq.mpr e)]
    exact wpS_pure (q m st S hm1 hm2 up)
  rw [if_neg fun z => e (beq_iff_eq.mp z)]
  have dip := hor.resolve_left e
  by_cases h : m > 1
  · rw [if_pos h]
    refine wpS_bind (less_at T h0 S (i := 0) (j := m - 1) (by omega) (by omega) ?_)
    cases rose : κ.blt (KK κ (arrOf st) 0) (KK κ (arrOf st) (m - 1)) with
    | true => exact wpS_pure (q m st S hm1 hm2 up)
    | false =>
      have z : m ≤ (arrOf st).size := by rw [S.sz]; omega
      have al : ∀ k, 0 ≤ k → k < m → KK κ (arrOf st) k = KK κ (arrOf st) (m - 1) := fun k _ hk =>
        KeyOrd.kle_antisymm (up k (m - 1) (by omega) (by omega)) (KeyOrd.kle_trans rose (up 0 k (Nat.zero_le _) hk))
      have dn : NonIncK κ (arrOf st) (m + 1) := down_one (fun i j hij hj => by rw [al i (Nat.zero_le _) (by omega), al j (Nat.zero_le _) hj]; exact KeyOrd.kle_refl _) (.inr (KeyOrd.kle_of_klt dip))
      refine wpS_bind (wpS_reverse (fallen T h0 (S.put (mirror_perm ..)) hn (by omega) (fun i j hij hj => ?_) q))
      show κ.kle (KK κ (mirror _ _ _ _) j) (KK κ (mirror _ _ _ _) i)
      rw [KK_mirror_equal z al i, KK_mirror_equal z al j]
      exact dn i j hij hj
  · rw [if_neg h]
    obtain rfl : m = 1 := by omega
    exact fallen T h0 S hn (by omega) (down_one (fun i j hij hj => by rw [show i = j by omega]; exact KeyOrd.kle_refl _) (.inr (KeyOrd.kle_of_klt dip))) q
end
end Sr
namespace Sr
open PySem PyProof.Rows
section
variable {prog : Program} {w : World} {A : Around} {E : Value → Shared → Prop} {s : Shared}
end
end Sr
namespace Sr
open PySem PyProof.Rows
section
variable {prog : Program} {w : World} {A : Around} {E : Value → Shared → Prop} {s : Shared}
end
end Sr
namespace L2
open PySem PySem.Spec PyProof.Rows
section
variable {X : Cx}
end
end L2
namespace L2
open PySem PySem.Spec PyProof.Rows
section
variable {X : Cx}
end
end L2
namespace L2
open PySem PySem.Spec PyProof.Rows
section
variable {X : Cx} {e st : Expr} {te tst : TE} {pos p2 : Pos}
end
end L2
namespace L2
open PySem PySem.Spec PyProof.Rows
section
variable {X : Cx} (K : PySem.W.Frag) (hK : X.K = K)
include hK
theorem kix_list : IxR X (rIxL K) := by subst hK; exact ix_list
theorem kix_tup : IxR X (rIxT K) := by subst hK; exact ix_tup
theorem ksl_list : SlR X (rSlL K) := by subst hK; exact sl_list
theorem ksl_tup : SlR X (rSlT K) := by subst hK; exact sl_tup
theorem knotIn_seq : OpR X (compareOp .NotIn) (rIn K true) := by subst hK; exact op_notIn_seq
theorem keqD (hu : X.A.units + 64 < cLine) : OpR X (compareOp .Eq) (rEqD K false) := by subst hK; exact op_eqD hu
theorem kneD (hu : X.A.units + 64 < cLine) : OpR X (compareOp .NotEq) (rEqD K true) := by subst hK; exact op_neD hu
def rLen (K : PySem.W.Frag) : List V → Hp → VK → Prop := fun xs H Q => ∃ p ys, xs = [.ref p] ∧ (SqL K H p ys ∨ SqT K H p ys) ∧ Q (.int ys.length) H
theorem klen_seq : CallR X (.builtin "len") (rLen K) := by subst hK; exact call_len_seq
theorem kpi_list {tg l : Expr} {tl : TE} (hl : PE X l tl) : PI X tg l (iList K tl) := by subst hK; exact pi_list hl
theorem kpi_tup {tg l : Expr} {tl : TE} (hl : PE X l tl) : PI X tg l (iTup K tl) := by subst hK; exact pi_tup hl
theorem kpg_tup {es : List Expr} {k : Nat} {t : TGs} {n : Nat} {pos : Pos} (hc : X.calm = true) (h : PGs X es t) (hn : (assignEach es X.env).length = n := by rfl) (hst : (assignEach es X.env).findIdx? (·.1) = none := by rfl) :
    PG X (.Tuple es k pos) (gTup K n t) := by subst hK; exact pg_tup hc h hn hst
theorem kpe_bm {o e : Expr} {es : List Expr} {to : TE} {t : TA} {name : Str} {apos cpos : Pos} {T id : String} {r : V → List V → Hp → VK → Prop} (pa : PlainAttrs T) (slot : Slot T name id) (hty : typeOf (.builtin id) = pure (.type "method_descriptor")) (hm : MtR X id r) (ho : PE X o to) (ha : PA X (e :: es) t)
    (hbase : attributeBase o name X.env (eval o X.env) = eval o X.env := by rfl)
    (hfew : ((backTo cpos (starEach (e :: es) X.env)).all (fun x => !x.1) && (backToKw cpos (keywordEach [] X.env)).all (fun x => x.1.isSome)
      && decide ((e :: es).length + ([] : List Keyword).length + (if ([] : List Keyword).isEmpty then 0 else 1) < 30)) = true := by rfl)
    (hline : (apos.endLine == cpos.line) = true := by rfl) (hs : starEach (e :: es) X.env = (false, eval e X.env) :: starEach es X.env := by rfl) (hplain : (backTo cpos (starEach es X.env)).any (·.1) = false := by rfl) :
    PE X (.Call (.Attribute o name apos) (e :: es) [] cpos) (tBM K T r to t) := by subst hK; exact pe_bm pa slot hty hm ho ha hbase hfew hline hs hplain
theorem kpe_bm0 {o : Expr} {to : TE} {name : Str} {apos cpos : Pos} {T id : String} {r : V → List V → Hp → VK → Prop} (pa : PlainAttrs T) (slot : Slot T name id) (hty : typeOf (.builtin id) = pure (.type "method_descriptor")) (hm : MtR X id r) (ho : PE X o to)
    (hbase : attributeBase o name X.env (eval o X.env) = eval o X.env := by rfl) (hline : (apos.endLine == cpos.line) = true := by rfl) : PE X (.Call (.Attribute o name apos) [] [] cpos) (tBM0 K T r to) := by
  subst hK; exact pe_bm0 pa slot hty hm ho hbase hline
end
section
variable {X : Cx}
end
end L2
namespace Mt
open PySem
def has (t o : Int) : Bool := decide (∀ k : Nat, k < 7 → o / 2 ^ k % 2 ≤ t / 2 ^ k % 2)
end Mt
namespace Mt
open PySem L2
def optV : Option Nat → V
  | none => .non
  | some i => .int i
end Mt
namespace Mt
open PySem L2
def TupAt (H : Hp) (x : V) (p : Nat × Option Nat) : Prop := ∃ t, x = .ref t ∧ H t = some (.tup [.int p.1, optV p.2])
theorem TupAt.same {H H' : Hp} {x : V} {p : Nat × Option Nat} (h : TupAt H x p) (s : Same H H') : TupAt H' x p := let ⟨t, e, h⟩ := h; ⟨t, e, s _ _ h⟩
end Mt
namespace Mt
open PySem L2
end Mt
namespace Mt
open PySem L2
end Mt
namespace L2
open PySem PySem.Spec PyProof.Rows
section
variable {X : Cx} {pins : List (Addr × Obj)} {σ : St} {H : Hp} {s : Shared} {h' : Heap}
end
section
variable {X : Cx} {k : Nat} {f : Addr} {fd : FuncData} {ps : List Str} {sp : Sp}
theorem vals_back : ∀ {xs : List V} {us : List Value} {j : Nat} {u : Value}, Vals xs us → us[j]? = some u → ∃ v, xs[j]? = some v ∧ RelV v u
  | _, _, _, _, .nil, e => by simp at e
  | _, _, 0, _, .cons r _, e => by simp at e; subst e; exact ⟨_, rfl, r⟩
  | _, _, j + 1, u, .cons _ t, e => by
    obtain ⟨v, h1, h2⟩ := vals_back (j := j) (u := u) t (by simpa using e)
    exact ⟨v, by simpa using h1, h2⟩
end
end L2
namespace L2
open PySem PySem.Spec PyProof.Rows
section
variable {X : Cx} (K : PySem.W.Frag) (hK : X.K = K)
include hK
end
end L2
namespace L2
open PySem PySem.Spec PyProof.Rows
theorem cut_from (zs : List Int) (n : Nat) (h : n ≤ zs.length) : cutV (zs.map V.int) (some (n : Int)) none = (zs.drop n).map V.int := by
  unfold cutV
  rw [HT.sIx_none, HT.sIx_nat, List.length_map, Nat.min_eq_left h, ← List.map_drop, List.take_of_length_le]
  rw [List.length_map, List.length_drop]
  exact Nat.le_refl _
end L2
namespace L2
open PySem PySem.Spec PyProof.Rows
section
variable {X : Cx}
def once (ns : List Int) : List Int := PyProof.Rows.firstMet (fun i => ns.getD i 0) ns.length
end
section
variable {X : Cx} (K : PySem.W.Frag) (hK : X.K = K)
include hK
end
end L2
namespace L2
open PySem PySem.Spec PyProof.Rows
theorem cut_from1 (zs : List Int) (n : Nat) (h : n < zs.length) : cutV (zs.map V.int) (some ((n : Int) + 1)) none = (zs.drop (n + 1)).map V.int := cut_from zs (n + 1) h
end L2
namespace Mt
open PySem L2
end Mt
namespace L2
open PySem PySem.Spec PyProof.Rows
def sg (c : Nat) : Str := ⟨#[c]⟩
def Its (x : Str) : It := ⟨fun i _ => i < x.cps.size, fun i H v H' => H' = H ∧ ∃ c, x.cps[i]? = some c ∧ v = .str (sg c), fun i _ => x.cps.size ≤ i⟩
theorem turn_str {P : Program} {w : World} {K : PySem.W.Frag} {tg : Expr} {ty : String} (it : Addr) (x : Str) (t : Tok) (hty : ty = "str_ascii_iterator" ∨ ty = "str_iterator") :
    Turn P w K tg (Its x) [it] it (fun i h => h.IsStrIter it ty x t i) where
  mem := by simp
  obj := fun i h st b hb => by
    obtain rfl : b = it := by simpa using hb
    obtain ⟨o, e, c, d⟩ := st
    exact ⟨o, e, fun v z => by rw [d] at z; cases z⟩
  keep := fun i h h' st k => by
    obtain ⟨o, e, r⟩ := st
    exact ⟨o, k it (by simp) o e, r⟩
  item := by
    intro X hP hw hK hc i pins s σ H E I hf st hg
    subst hP hw hK
    obtain ⟨f0, f1, f2, f3, f4, f5⟩ := hf it (by simp)
    have W : ∀ (Q : Option Value → Shared → Prop), (∀ v h' tk, SignAt x i v → h'.IsStrIter it ty x t (i + 1) → (∀ b o, b ∉ [it] → s.heap.get? b = some o → h'.get? b = some o) → Q (some v) { s with heap := h', toks := tk }) →
        wpAny (model X.prog X.w) X.A (pyNext (.ref it)) Q E s := by
      intro Q hQ
      rcases hty with rfl | rfl
      · exact (Walks.strAscii (prog := X.prog) (w := X.w) (I.ok.hd hc) it x t).item i s Q E hg st hQ
      · exact (Walks.strWide (prog := X.prog) (w := X.w) (I.ok.hd hc) it x t).item i s Q E hg st hQ
    refine W _ fun v h' tk hv st' kk => ?_
    obtain ⟨c, u, hcx, rfl⟩ := hv
    have I1 : Inv X pins σ H { s with heap := h', toks := tk } := I.turned (fun b o hb e => kk b o (by simpa using hb) e) f0 f1 f3 f4 f5
    obtain ⟨o, e, c', d⟩ := id st'
    exact ⟨_, rfl, go_of (s := { s with heap := h', toks := tk }) e c' d (by rcases hty with rfl | rfl <;> decide) ⟨.str (sg c), H, I1, ⟨u, rfl⟩, ⟨rfl, c, hcx, rfl⟩, st', fun b hb => (hf b hb).1⟩⟩
  done := by
    intro X hP hw hK hc i pins s σ H E I hf st hg
    subst hP hw hK
    obtain ⟨f0, f1, f2, f3, f4, f5⟩ := hf it (by simp)
    have hi : x.cps.size ≤ i := hg
    rcases hty with rfl | rfl
    · exact wpAny_pyNext_ascii_end (I.ok.hd hc) st (by simpa using hi) fun h' eb => ⟨rfl, I.turned (t' := s.toks) (fun b o hb e => eb b o hb e) f0 f1 f3 f4 f5⟩
    · exact wpAny_pyNext_wide_end (I.ok.hd hc) st (by simpa using hi) fun h' eb => ⟨rfl, I.turned (t' := s.toks) (fun b o hb e => eb b o hb e) f0 f1 f3 f4 f5⟩
  self := fun A i s Q E st h => by
    rcases hty with rfl | rfl
    · exact wpAny_pyIter_striter_ascii st h
    · exact wpAny_pyIter_striter_wide st h
section
variable {X : Cx} {tg : Expr}
def iStr (tl : TE) : TI := fun σ H R => tl σ H fun v H1 => ∃ x, v = .str x ∧ R (Its x) H1
theorem pi_str {l : Expr} {tl : TE} (hl : PE X l tl) : PI X tg l (iStr tl) := by
  intro pins s σ H R I h
  refine thn (hl pins s σ H _ I h) fun v s1 ⟨y, H1, I1, r1, q1⟩ => ?_
  obtain ⟨x, rfl, q⟩ := q1
  obtain ⟨t, rfl⟩ := r1
  have fin : ∀ (ty : String) (hty : ty = "str_ascii_iterator" ∨ ty = "str_iterator"), PIE X pins σ tg R (.ref s1.heap.objs.size) { s1 with heap := s1.heap.push { cls := .type ty, data := .fields #[.str x t, .int 0 0] } } := by
    intro ty hty
    refine ⟨s1.heap.objs.size, [s1.heap.objs.size], _, _, H1, rfl, I1.kept (t' := s1.toks) fun b o e => Heap.get?_push_of_some _ e, turn_str _ x t hty, ⟨_, Heap.get?_push_size _ rfl, rfl, rfl⟩, fun b hb => ?_, q⟩
    obtain rfl : b = s1.heap.objs.size := by simpa using hb
    exact I1.fpOk (Nat.le_refl _) (I1.hok.fresh (Nat.le_refl _))
  refine wpAny_pyIter_strU ?_
  unfold strIterType
  split
  · exact fin _ (.inl rfl)
  · exact fin _ (.inr rfl)
end
theorem for_str {x : Str} {g : TG} {tb : TS} {D : Ends} {σ : St} {H : Hp} (Pv : Nat → St → Hp → Prop) (h0 : Pv 0 σ H)
    (hs : ∀ i c σ H, x.cps[i]? = some c → i < x.cps.size → Pv i σ H → g (.str (sg c)) σ H fun σ2 H2 => tb { D with nx := Pv (i + 1), ct := Pv (i + 1), bk := D.nx } σ2 H2) (hd : ∀ σ H, Pv x.cps.size σ H → D.nx σ H) :
    ∃ W : Nat → Nat → St → Hp → Prop, (∃ m, W 0 m σ H) ∧ ∀ i m σ H, W i m σ H →
      ((Its x).stop i H ∧ D.nx σ H) ∨ ((Its x).go i H ∧ ∃ N : St → Hp → Prop, (∀ σ' H', N σ' H' → ∃ m', m' < m ∧ W (i + 1) m' σ' H') ∧ ∀ v H', (Its x).yld i H v H' → g v σ H' fun σ2 H2 => tb { D with nx := N, ct := N, bk := D.nx } σ2 H2) := by
  refine ⟨fun i m σ H => m = x.cps.size - i ∧ i ≤ x.cps.size ∧ Pv i σ H, ⟨x.cps.size, by simp, Nat.zero_le _, h0⟩, ?_⟩
  rintro i m σ H ⟨rfl, hi, p⟩
  by_cases hlt : i < x.cps.size
  · refine .inr ⟨hlt, Pv (i + 1), fun σ' H' p' => ⟨x.cps.size - (i + 1), by omega, rfl, hlt, p'⟩, fun v H' y => ?_⟩
    obtain ⟨rfl, c, hc, rfl⟩ := y
    exact hs i c σ _ hc hlt p
  · have e : i = x.cps.size := by omega
    subst e
    exact .inl ⟨Nat.le_refl _, hd σ H p⟩
theorem comp_str {x : Str} {g : TG} {tc : TT} {te : TE} {D : Addr} {σ : St} {H : Hp} {Q : VK} (Pv : Nat → List V → St → Hp → Prop) (h0 : Pv 0 [] σ (upd H D (.lst [])))
    (hs : ∀ i c ys σ H, x.cps[i]? = some c → i < x.cps.size → Pv i ys σ H → g (.str (sg c)) σ H fun σ2 H4 => tc σ2 H4 fun b H5 => if b = true then te σ2 H5 (CNext D x.cps.size i Pv σ2) else CSkip x.cps.size i Pv σ2 H5)
    (hd : ∀ ys σ H, Pv x.cps.size ys σ H → Q (.ref D) H) : CompW (Its x) g tc te D Q σ H := by
  refine ⟨fun i m σ H => m = x.cps.size - i ∧ i ≤ x.cps.size ∧ ∃ ys, Pv i ys σ H, ⟨x.cps.size, by simp, Nat.zero_le _, [], h0⟩, ?_⟩
  rintro i m σ H ⟨rfl, hi, ys, p⟩
  by_cases hlt : i < x.cps.size
  · refine .inr ⟨hlt, fun v H' y => ?_⟩
    obtain ⟨rfl, c, hc, rfl⟩ := y
    exact hs i c ys σ _ hc hlt p
  · have e : i = x.cps.size := by omega
    subst e
    exact .inl ⟨Nat.le_refl _, hd ys σ H p⟩
section
variable {X : Cx}
theorem strsAre_of : ∀ {ys : List Str} {us : List Value}, Vals (ys.map V.str) us → StrsAre us ys
  | [], _, r => by cases r; exact .nil
  | y :: ys, _, r => by
    cases r with
    | cons r1 r2 =>
      obtain ⟨t, rfl⟩ := r1
      exact .cons y t (strsAre_of r2)
def rJoin (K : PySem.W.Frag) : V → List V → Hp → VK → Prop := fun x xs H Q => ∃ (z : Str) (p : Addr) (ys : List Str), x = .str z ∧ xs = [.ref p] ∧ SqL K H p (ys.map V.str) ∧ (ys.map (·.length)).sum + ys.length * z.length ≤ 16777216 ∧ Q (.str (Txt.join z ys)) H
theorem mt_join : MtR X "str.join" (rJoin X.K) := by
  intro pins s σ H x xs v us Q I rx rs h
  obtain ⟨z, p, ys, rfl, rfl, hq, hb, q⟩ := h
  obtain ⟨t, rfl⟩ := rx
  obtain ⟨u, rfl, ru⟩ := vals1 rs
  cases ru
  obtain ⟨its, rv, pl, hz⟩ := I.list hq
  exact join_list pl.isList (by simpa using strsAre_of rv) hb fun t' k => ⟨.str _, H, I.tok _, ⟨_, rfl⟩, q⟩
def rAll (K : PySem.W.Frag) : List V → Hp → VK → Prop := fun xs H Q => ∃ (p : Addr) (bs : List Bool), xs = [.ref p] ∧ SqL K H p (bs.map V.bl) ∧ Q (.bl (bs.all id)) H
theorem call_all (hc : X.calm = true) : CallR X (.builtin "all") (rAll X.K) := by
  intro pins s σ H xs us Q I r h
  obtain ⟨p, bs, rfl, hq, q⟩ := h
  obtain ⟨u, rfl, ru⟩ := vals1 r
  cases ru
  obtain ⟨its, rv, pl, hz⟩ := I.list hq
  have hl : its.length = bs.length := by rw [← rv.length, List.length_map]
  obtain ⟨ol, hol, hoc⟩ := id pl.isList
  have hlt : p < s.heap.objs.size := Heap.lt_size hol
  refine call_all_walk (wpAny_pyIter_list pl.isList ?_)
  refine ⟨s.heap.objs.size, _, _, _, _, _, fun i => bs.getD i false, rfl, Walks.list (A := X.A.in1) (I.ok.hd hc) s.heap.objs.size p (Nat.ne_of_lt hlt) its.toArray, ⟨⟨_, Heap.get?_push_size _ rfl, rfl, rfl⟩, ol, Heap.get?_push_of_some _ hol, hoc⟩, fun i v s' Q' E' hv hQ => ?_, fun h' tk hk => ?_⟩
  · have hv' : its[i]? = some v := by simpa using hv
    obtain ⟨y, hy, ry⟩ := vals_back rv hv'
    rw [List.getElem?_map] at hy
    cases e : bs[i]? with
    | none => rw [e] at hy; cases hy
    | some b =>
      rw [e] at hy
      have hy' : V.bl b = y := Option.some.inj hy
      subst hy'
      cases ry
      have hQ : Q' (bs.getD i false) s' := hQ
      rw [List.getD_eq_getElem?_getD, e] at hQ
      exact wpAny_truthy_bool hQ
  · have e : (List.range its.toArray.size).all (fun i => bs.getD i false) = bs.all id := by
      rw [List.size_toArray, hl, Bool.eq_iff_iff, List.all_eq_true, List.all_eq_true]
      constructor
      · intro h b hb
        obtain ⟨i, hi, e⟩ := List.getElem_of_mem hb
        have := h i (List.mem_range.mpr hi)
        rw [List.getD_eq_getElem?_getD, List.getElem?_eq_getElem hi, e] at this
        exact this
      · intro h i hi
        have hi := List.mem_range.mp hi
        rw [List.getD_eq_getElem?_getD, List.getElem?_eq_getElem hi]
        exact h _ (List.getElem_mem hi)
    rw [e]
    exact ⟨.bl _, H, I.kept (fun b o e => hk b o (by simp; exact Nat.ne_of_lt (Heap.lt_size e)) (Heap.get?_push_of_some _ e)), rfl, q⟩
end
section
variable {X : Cx} (K : PySem.W.Frag) (hK : X.K = K)
include hK
theorem kall (hc : X.calm = true) : CallR X (.builtin "all") (rAll K) := by subst hK; exact call_all hc
theorem kmt_join : MtR X "str.join" (rJoin K) := by subst hK; exact mt_join
end
end L2
namespace Cs
open PySem L2
structure Row where
  s : Str
  w : Int
  t : Int
  n : Int
abbrev rowV (r : Row) : List V := [.str r.s, .int r.w, .int r.t, .int r.n]
def RowAt (H : Hp) (v : V) (r : Row) : Prop := ∃ a, v = .ref a ∧ H a = some (.tup (rowV r))
theorem RowAt.same {H H' : Hp} {v : V} {r : Row} (h : RowAt H v r) (s : Same H H') : RowAt H' v r := let ⟨a, e, h⟩ := h; ⟨a, e, s _ _ h⟩
theorem rows_same {H H' : Hp} {xs : List V} {rs : List Row} (h : Paired (RowAt H) xs rs) (s : Same H H') : Paired (RowAt H') xs rs := Paired.mapP h fun _ _ z => z.same s
theorem pd_get {α β : Type} {F : α → β → Prop} : ∀ {xs : List α} {ys : List β} {i : Nat} {x : α}, Paired F xs ys → xs[i]? = some x → ∃ y, ys[i]? = some y ∧ F x y
  | _, _, _, _, .nil, e => by simp at e
  | _, _, 0, _, .cons r _, e => by simp at e; subst e; exact ⟨_, rfl, r⟩
  | _, _, i + 1, x, .cons _ t, e => by
    obtain ⟨p, h1, h2⟩ := pd_get (i := i) (x := x) t (by simpa using e)
    exact ⟨p, by simpa using h1, h2⟩
def CaseAt (K : PySem.W.Frag) (H : Hp) (l : Addr) (rs : List Row) : Prop := ∃ xs, SqL K H l xs ∧ Paired (RowAt H) xs rs
theorem CaseAt.same {K : PySem.W.Frag} {H H' : Hp} {l : Addr} {rs : List Row} (h : CaseAt K H l rs) (s : Same H H') : CaseAt K H' l rs := let ⟨xs, h1, h2⟩ := h; ⟨xs, s.seq h1, rows_same h2 s⟩
def place (rs : List Row) (x : Str) : Option Nat := rs.findIdx? fun r => decide (r.s = x)
theorem strV {x y : Str} : decide (V.str x = V.str y) = decide (x = y) := by
  rw [decide_eq_decide]
  exact ⟨fun h => V.str.inj h, fun h => by rw [h]⟩
def signs : List Nat := "abcdefghijklmnopqrstuvwxyz.,-'".toList.map Char.toNat
theorem signs_cps : (Str.ofString "abcdefghijklmnopqrstuvwxyz.,-'").cps.toList = signs := by decide +kernel
theorem signs_at {i : Int} (h0 : 0 ≤ i) (h1 : i < 30) : ∃ c, c ∈ signs ∧ atI (Str.ofString "abcdefghijklmnopqrstuvwxyz.,-'").cps.toList i = some c := by
  rw [signs_cps]
  have hl : signs.length = 30 := by decide +kernel
  have hk : i.toNat < signs.length := by omega
  have ek : i = ((i.toNat : Nat) : Int) := by omega
  have q : atI signs ((i.toNat : Nat) : Int) = some signs[i.toNat] := atI_nat (List.getElem?_eq_getElem hk)
  rw [← ek] at q
  exact ⟨signs[i.toNat], List.getElem_mem hk, q⟩
end Cs
namespace L2
open PySem PySem.Spec PyProof.Rows
section
variable {X : Cx}
end
end L2
namespace Mt
open PySem L2
end Mt
namespace Mt
open PySem L2
end Mt
namespace Mt
open PySem L2
end Mt
namespace Mt
open PySem L2
theorem two (x : Int) : 0 ≤ x % 2 ∧ x % 2 ≤ 1 := by omega
def sb (p : Bool) : Int := if p then 1 else 0
end Mt
namespace L2
open PySem PySem.Spec PyProof.Rows
section
variable {κ : Type} [DecidableEq κ]
def valV (kvs : List (κ × V)) (k : κ) : Option V := (kvs.find? fun kv => decide (kv.1 = k)).map (·.2)
def putK (kvs : List (κ × V)) (k : κ) (v : V) : List (κ × V) :=
  if (kvs.any fun kv => decide (kv.1 = k)) = true then kvs.map (fun kv => if kv.1 = k then (kv.1, v) else kv) else kvs ++ [(k, v)]
def dropK (kvs : List (κ × V)) (k : κ) : List (κ × V) := kvs.filter fun kv => decide (kv.1 ≠ k)
theorem valV_pos {p : κ × V} {r : List (κ × V)} {k : κ} (e : p.1 = k) : valV (p :: r) k = some p.2 := by simp [valV, List.find?_cons, e]
theorem valV_neg {p : κ × V} {r : List (κ × V)} {k : κ} (e : ¬ p.1 = k) : valV (p :: r) k = valV r k := by simp [valV, List.find?_cons, e]
theorem valV_any (k : κ) : ∀ kvs : List (κ × V), (kvs.any fun kv => decide (kv.1 = k)) = (valV kvs k).isSome
  | [] => rfl
  | p :: r => by
    rw [List.any_cons]
    by_cases e : p.1 = k
    · simp only [valV_pos e, decide_eq_true e, Bool.true_or, Option.isSome_some]
    · rw [valV_neg e, decide_eq_false e, Bool.false_or]; exact valV_any k r
theorem RelO.isSome_eq {o : Option V} {u : Option Value} (r : RelO o u) : o.isSome = u.isSome := by
  cases o with
  | none => cases u with
    | none => rfl
    | some _ => exact (show False from r).elim
  | some _ => cases u with
    | none => exact (show False from r).elim
    | some _ => rfl
theorem RelO.getD {o : Option V} {u : Option Value} {d : V} {d' : Value} (r : RelO o u) (rd : RelV d d') : RelV (o.getD d) (u.getD d') := by
  cases o with
  | none => cases u with
    | none => exact rd
    | some _ => exact (show False from r).elim
  | some _ => cases u with
    | none => exact (show False from r).elim
    | some _ => exact r
theorem KV.val {kvs : List (κ × V)} {vs : List (κ × Value)} (r : KV kvs vs) (k : κ) : RelO (valV kvs k) (valueAt vs k) := by
  unfold KV at r
  induction r with
  | nil => exact True.intro
  | @cons p q ps qs h t ih =>
    obtain ⟨h1, h2⟩ := h
    by_cases e : p.1 = k
    · have e' : q.1 = k := h1.symm.trans e
      have b : valueAt (q :: qs) k = some q.2 := by simp [valueAt, List.find?_cons, e']
      rw [valV_pos e, b]; exact h2
    · have e' : ¬ q.1 = k := fun z => e (h1.trans z)
      have b : valueAt (q :: qs) k = valueAt qs k := by simp [valueAt, List.find?_cons, e']
      rw [valV_neg e, b]; exact ih
theorem KV.any {kvs : List (κ × V)} {vs : List (κ × Value)} (r : KV kvs vs) (k : κ) : (kvs.any fun kv => decide (kv.1 = k)) = vs.any fun kv => decide (kv.1 = k) := by
  unfold KV at r
  induction r with
  | nil => rfl
  | cons h t ih => rw [List.any_cons, List.any_cons, ih, h.1]
theorem KV.repl {kvs : List (κ × V)} {vs : List (κ × Value)} (r : KV kvs vs) (k : κ) {y : V} {u : Value} (ry : RelV y u) :
    KV (kvs.map fun kv => if kv.1 = k then (kv.1, y) else kv) (vs.map fun kv => if kv.1 = k then (kv.1, u) else kv) := by
  unfold KV at r ⊢
  induction r with
  | nil => exact .nil
  | @cons p q ps qs h t ih =>
    rw [List.map_cons, List.map_cons]
    refine .cons ?_ ih
    obtain ⟨h1, h2⟩ := h
    by_cases e : p.1 = k
    · rw [if_pos e, if_pos (h1.symm.trans e)]; exact ⟨h1, ry⟩
    · rw [if_neg e, if_neg (fun z => e (h1.trans z))]; exact ⟨h1, h2⟩
theorem KV.put {kvs : List (κ × V)} {vs : List (κ × Value)} (r : KV kvs vs) (k : κ) {y : V} {u : Value} (ry : RelV y u) : KV (putK kvs k y) (stored vs k u) := by
  unfold putK stored
  rw [r.any k]
  by_cases e : (vs.any fun kv => decide (kv.1 = k)) = true
  · rw [if_pos e, if_pos e]; exact r.repl k ry
  · rw [if_neg e, if_neg e]; exact Paired.snoc r ⟨rfl, ry⟩
theorem KV.drop {kvs : List (κ × V)} {vs : List (κ × Value)} (r : KV kvs vs) (k : κ) : KV (dropK kvs k) (without vs k) := by
  unfold KV at r ⊢
  unfold dropK without
  induction r with
  | nil => exact .nil
  | @cons p q ps qs h t ih =>
    obtain ⟨h1, h2⟩ := h
    rw [List.filter_cons, List.filter_cons]
    by_cases e : p.1 = k
    · have a : ¬ decide (p.1 ≠ k) = true := by simp [e]
      have b : ¬ decide (q.1 ≠ k) = true := by simp [h1.symm.trans e]
      rw [if_neg a, if_neg b]; exact ih
    · have e' : ¬ q.1 = k := fun z => e (h1.trans z)
      have a : decide (p.1 ≠ k) = true := by simp [e]
      have b : decide (q.1 ≠ k) = true := by simp [e']
      rw [if_pos a, if_pos b]; exact .cons ⟨h1, h2⟩ ih
theorem KV.length {kvs : List (κ × V)} {vs : List (κ × Value)} (r : KV kvs vs) : kvs.length = vs.length := Paired.length r
end
abbrev KT (H : Hp) : List (List Key × V) → List (List Key × Addr × Value) → Prop := Paired fun p q => p.1 = q.1 ∧ H q.2.1 = some (.tup (p.1.map kV)) ∧ RelV p.2 q.2.2
theorem KT.val {H : Hp} {kvs : List (List Key × V)} {xs : List (List Key × Addr × Value)} (r : KT H kvs xs) (k : List Key) : RelO (valV kvs k) ((atKey xs k).map (·.2)) := by
  induction r with
  | nil => exact True.intro
  | @cons p q ps qs h t ih =>
    obtain ⟨h1, _, h2⟩ := h
    by_cases e : p.1 = k
    · have e' : q.1 = k := h1.symm.trans e
      have b : atKey (q :: qs) k = some q.2 := by simp [atKey, List.find?_cons, e']
      rw [valV_pos e, b]; exact h2
    · have e' : ¬ q.1 = k := fun z => e (h1.trans z)
      have b : atKey (q :: qs) k = atKey qs k := by simp [atKey, List.find?_cons, e']
      rw [valV_neg e, b]; exact ih
theorem KT.repl {H : Hp} {kvs : List (List Key × V)} {xs : List (List Key × Addr × Value)} (r : KT H kvs xs) (k : List Key) {y : V} {u : Value} (ry : RelV y u) :
    KT H (kvs.map fun kv => if kv.1 = k then (kv.1, y) else kv) (xs.map (putAt k u)) := by
  induction r with
  | nil => exact .nil
  | @cons p q ps qs h t ih =>
    rw [List.map_cons, List.map_cons]
    refine .cons ?_ ih
    obtain ⟨h1, h2, h3⟩ := h
    unfold putAt
    by_cases e : p.1 = k
    · rw [if_pos e, if_pos (h1.symm.trans e)]; exact ⟨h1, h2, ry⟩
    · rw [if_neg e, if_neg (fun z => e (h1.trans z))]; exact ⟨h1, h2, h3⟩
theorem KT.put {H : Hp} {kvs : List (List Key × V)} {xs : List (List Key × Addr × Value)} (r : KT H kvs xs) (k : List Key) {b : Addr} {y : V} {u : Value} (hb : H b = some (.tup (k.map kV))) (ry : RelV y u) :
    KT H (putK kvs k y) (storedH xs k b u) := by
  have e : (kvs.any fun kv => decide (kv.1 = k)) = (atKey xs k).isSome := by
    rw [valV_any, (r.val k).isSome_eq, Option.isSome_map]
  unfold putK storedH
  rw [e]
  by_cases q : (atKey xs k).isSome = true
  · rw [if_pos q, if_pos q]; exact r.repl k ry
  · rw [if_neg q, if_neg q]; exact Paired.snoc r ⟨rfl, hb, ry⟩
theorem KT.keeps {H H' : Hp} {kvs : List (List Key × V)} {xs : List (List Key × Addr × Value)} (r : KT H kvs xs) (ht : ∀ b ys, H b = some (.tup ys) → H' b = some (.tup ys)) : KT H' kvs xs :=
  Paired.mapP r fun _ _ z => ⟨z.1, ht _ _ z.2.1, z.2.2⟩
section
variable {P : Program} {w : World} {H : Hp} {h : Heap} {a : Addr}
end
def DGet (H : Hp) (a : Addr) (y : V) (r : Option V) : Prop :=
  (∃ kvs k, Rd H a (.dK kvs) ∧ y = kV k ∧ r = valV kvs k) ∨ ∃ kvs k b, Rd H a (.dT kvs) ∧ y = .ref b ∧ H b = some (.tup (k.map kV)) ∧ r = valV kvs k
def DPut (H : Hp) (a : Addr) (y v : V) (H' : Hp) : Prop :=
  (∃ kvs k, H a = some (.dK kvs) ∧ y = kV k ∧ kvs.length < sizeLine ∧ H' = upd H a (.dK (putK kvs k v))) ∨
  ∃ kvs k b, H a = some (.dT kvs) ∧ y = .ref b ∧ H b = some (.tup (k.map kV)) ∧ kvs.length < sizeLine ∧ H' = upd H a (.dT (putK kvs k v))
theorem DGet.k {H : Hp} {a : Addr} {kvs : List (Key × V)} {k : Key} (e : H a = some (.dK kvs)) : DGet H a (kV k) (valV kvs k) := .inl ⟨kvs, k, .inl e, rfl, rfl⟩
theorem DGet.t {H : Hp} {a b : Addr} {kvs : List (List Key × V)} {k : List Key} (e : H a = some (.dT kvs)) (eb : H b = some (.tup (k.map kV))) : DGet H a (.ref b) (valV kvs k) := .inr ⟨kvs, k, b, .inl e, rfl, eb, rfl⟩
theorem DPut.k {H : Hp} {a : Addr} {kvs : List (Key × V)} {k : Key} {v : V} (e : H a = some (.dK kvs)) (hl : kvs.length < sizeLine) : DPut H a (kV k) v (upd H a (.dK (putK kvs k v))) := .inl ⟨kvs, k, e, rfl, hl, rfl⟩
theorem DPut.t {H : Hp} {a b : Addr} {kvs : List (List Key × V)} {k : List Key} {v : V} (e : H a = some (.dT kvs)) (eb : H b = some (.tup (k.map kV))) (hl : kvs.length < sizeLine) :
    DPut H a (.ref b) v (upd H a (.dT (putK kvs k v))) := .inr ⟨kvs, k, b, e, rfl, eb, hl, rfl⟩
section
variable {X : Cx} {pins : List (Addr × Obj)} {σ : St} {H : Hp} {s : Shared} {a : Addr} {y v : V} {u r : Value} {o : Option V} {A : Around} {E : Value → Shared → Prop}
end
section
variable {X : Cx} {pins : List (Addr × Obj)} {σ : St} {H : Hp} {s : Shared} {a : Addr} {kvs : List (Key × V)} {k : Key} {u : Value} {A : Around} {E : Value → Shared → Prop}
end
section
variable {X : Cx} {o i e value : Expr} {pos pos' tpos : Pos} {td ty tv : TE}
end
section
variable {X : Cx} {pos : Pos}
end
section
variable {X : Cx} {pins : List (Addr × Obj)} {σ : St} {H : Hp} {s : Shared} {a : Addr} {y d : V} {u r : Value} {o : Option V} {A : Around} {E : Value → Shared → Prop}
end
section
variable {X : Cx} {o e f : Expr} {apos cpos : Pos} {td ty tx : TE}
end
section
variable {X : Cx} {pins : List (Addr × Obj)} {σ : St} {H : Hp} {s : Shared} {a : Addr} {kvs : List (Key × V)} {A : Around} {E : Value → Shared → Prop}
end
section
variable {X : Cx} {pins : List (Addr × Obj)} {σ : St} {H : Hp} {s : Shared} {a : Addr} {y : V} {u : Value} {A : Around} {E : Value → Shared → Prop}
end
end L2
namespace L2
open PySem PySem.Spec PyProof.Rows
section
variable {X : Cx}
end
section
variable {κ : Type} [DecidableEq κ]
end
end L2
namespace Cs
open PySem L2
end Cs
namespace L2
open PySem
theorem bt_min : bootBuiltins "min" = some (.builtin "min") := by decide +kernel
end L2
namespace L2
open PySem PySem.Spec PyProof.Rows
def Least (g : Nat → Int) (n : Nat) (m : Int) : Prop := (∃ i, i < n ∧ g i = m) ∧ ∀ i, i < n → m ≤ g i
theorem Least.one {g : Nat → Int} : Least g 1 (g 0) := ⟨⟨0, by omega, rfl⟩, fun i hi => by
  have e : i = 0 := by omega
  subst e
  exact Int.le_refl _⟩
theorem Least.no {g : Nat → Int} {n : Nat} {m : Int} (h : Least g n m) (hl : ¬ g n < m) : Least g (n + 1) m := ⟨by obtain ⟨i, hi, e⟩ := h.1; exact ⟨i, by omega, e⟩, fun i hi => by
  by_cases e : i = n
  · subst e; omega
  · exact h.2 i (by omega)⟩
section
variable {P : Program} {w : World} {A : Around} {R : Result → Shared → Prop} {it : Addr} {fp wr : List Addr} {n : Nat} {Pr : Nat → Value → Prop} {St : Nat → Heap → Prop}
end
section
variable {P : Program} {w : World} {A : Around} {E : Value → Shared → Prop} {s : Shared}
end
section
variable {X : Cx}
end
section
variable {X : Cx} (K : PySem.W.Frag) (hK : X.K = K)
include hK
end
end L2
namespace L2
open PySem PySem.Spec PyProof.Rows
section
variable {X : Cx} {a b : Expr} {rest : List Expr} {pos : Pos} {ta tb : TE}
end
section
variable {X : Cx} {a b : Expr} {rest : List Expr} {pos : Pos} {ta tb : TE} (K : PySem.W.Frag) (hK : X.K = K)
include hK
end
theorem cut_map {α : Type} (f : α → V) (xs : List α) (a b : Nat) (h : b ≤ xs.length) : cutV (xs.map f) (some (a : Int)) (some (b : Int)) = ((xs.take b).drop a).map f := by
  unfold cutV
  rw [HT.sIx_nat, HT.sIx_nat, List.length_map, Nat.min_eq_left h, ← List.map_drop, ← List.map_take, List.drop_take]
  by_cases ha : a ≤ xs.length
  · rw [Nat.min_eq_left ha]
  · rw [Nat.min_eq_right (by omega), List.drop_of_length_le (Nat.le_refl _), List.drop_of_length_le (show xs.length ≤ a by omega)]
    simp
end L2
namespace Ln
open PySem L2
def abc : List Nat := [97, 98, 99, 100, 101, 102]
theorem abc_nd : (abc.map sg).Nodup := by decide +kernel
structure AbcCase (rs : List Cs.Row) : Prop where
  sg : (rs.map fun r => r.s) = abc.map sg
  wd : ∀ r ∈ rs, 1 ≤ r.w ∧ r.w ≤ 100
theorem AbcCase.len {rs : List Cs.Row} (h : AbcCase rs) : rs.length = 6 := by
  have := congrArg List.length h.sg
  rwa [List.length_map, List.length_map] at this
theorem AbcCase.nd {rs : List Cs.Row} (h : AbcCase rs) : (rs.map fun r => r.s).Nodup := by rw [h.sg]; exact abc_nd
theorem AbcCase.place {rs : List Cs.Row} (h : AbcCase rs) {c : Nat} (hc : c ∈ abc) : (Cs.place rs (L2.sg c)).isSome = true := by
  have h1 : L2.sg c ∈ rs.map fun r => r.s := by rw [h.sg]; exact List.mem_map_of_mem hc
  obtain ⟨r, hr, e⟩ := List.mem_map.mp h1
  unfold Cs.place
  rw [List.findIdx?_isSome, List.any_eq_true]
  exact ⟨r, hr, decide_eq_true e⟩
theorem denL_texts {K : PySem.W.Frag} {H : Hp} : ∀ {ws : List Str}, (∀ x ∈ ws, PyData.canLay0 (.str x) = true) → DenL K H (ws.map V.str) (ws.map PyData.str)
  | [], _ => .nil
  | x :: ws, h => .cons (.str _ (h x List.mem_cons_self)) (denL_texts fun y hy => h y (List.mem_cons_of_mem _ hy))
theorem nb_words : ∀ ws : List Str, nbL (ws.map PyData.str) = true
  | [] => rfl
  | x :: ws => by
    show (nb (PyData.str x) && nbL (ws.map PyData.str)) = true
    rw [nb_words ws]
    rfl
theorem depth_words : ∀ ws : List Str, PyData.depthAll (ws.map PyData.str) = 0
  | [] => rfl
  | x :: ws => by
    show max (PyData.str x).depth (PyData.depthAll (ws.map PyData.str)) = 0
    rw [depth_words ws]
    rfl
end Ln
namespace L2
open PySem PySem.Spec PyProof.Rows
section
variable {X : Cx} {tg : Expr}
end
end L2
namespace L2
open PySem PySem.Spec PyProof.Rows
section
variable {X : Cx} {pins : List (Addr × Obj)} {σ : St} {H : Hp} {s : Shared} {h' : Heap}
end
section
variable {X : Cx} {es : List Expr} {k1 : Nat} {tp : Pos}
end
end L2
namespace L2
open PySem PySem.Spec PyProof.Rows
section
variable {X : Cx} (K : PySem.W.Frag) (hK : X.K = K)
include hK
end
end L2
namespace Lns
open PySem L2
def LineN (no : Addr) (H : Hp) (v : V) (ws : List Str) : Prop := ∃ p, v = .ref p ∧ p ≠ no ∧ H p = some (.lst (ws.map V.str))
theorem LineN.same {no : Addr} {H H' : Hp} {v : V} {ws : List Str} (h : LineN no H v ws) (s : Same H H') : LineN no H' v ws := let ⟨p, e, n, h⟩ := h; ⟨p, e, n, s _ _ h⟩
def lineT (ws : List Str) : Str := Txt.join " " ws
theorem sum_le {α : Type} (f : α → Nat) (B : Nat) : ∀ l : List α, (∀ x ∈ l, f x ≤ B) → (l.map f).sum ≤ l.length * B
  | [], _ => by simp
  | x :: l, h => by
    have h1 := h x List.mem_cons_self
    have h2 := sum_le f B l fun y hy => h y (List.mem_cons_of_mem _ hy)
    rw [List.map_cons, List.sum_cons, List.length_cons, Nat.succ_mul]
    omega
theorem sum_le' {α : Type} (f : α → Nat) (B N : Nat) (l : List α) (h : ∀ x ∈ l, f x ≤ B) (hn : l.length ≤ N) : (l.map f).sum ≤ N * B :=
  Nat.le_trans (sum_le f B l h) (Nat.mul_le_mul_right _ hn)
theorem line_small {l : List Str} (h1 : l.length ≤ 100) (h2 : ∀ x ∈ l, x.length ≤ 100) : (l.map (·.length)).sum + l.length * (Str.ofString " ").length ≤ 16777216 := by
  have a := sum_le' (fun x : Str => x.length) 100 100 l h2 h1
  have e : (Str.ofString " ").length = 1 := by decide
  rw [e]
  have a : (l.map (·.length)).sum ≤ 100 * 100 := a
  omega
end Lns
namespace L2
open PySem PySem.Spec PyProof.Rows PySem.Builtin PySem.Builtin.Str
section
variable {X : Cx}
theorem vals_strs : ∀ (tk : Nat) (xs : List Str), Vals (xs.map V.str) (strsFrom tk xs)
  | _, [] => .nil
  | tk, x :: r => .cons ⟨tk, rfl⟩ (vals_strs (tk + 1) r)
theorem parts_len (x y : Str) : (partsBetween x (occurrences x y 0 x.length (x.length + 1)) y.length).length ≤ x.length + 2 := by
  unfold partsBetween
  have := StrLaws.occ_length_le x y 0 x.length (x.length + 1)
  simp only [List.length_map, List.length_zip, List.length_cons, List.length_append]
  omega
theorem split_len (x y : Str) : (Txt.split x y).length ≤ x.length + 2 := by
  have := parts_len x y
  unfold Txt.split
  split
  · show 1 ≤ _
    omega
  · split
    · show 1 ≤ _
      omega
    · exact this
def rSplit : V → List V → Hp → VK → Prop := fun x xs H Q => ∃ z y, x = .str z ∧ xs = [.str y] ∧ 1 ≤ y.length ∧ z.length ≤ 90000 ∧ ∀ D, H D = none → Q (.ref D) (upd H D (.lst ((Txt.split z y).map V.str)))
theorem mt_split : MtR X "str.split" rSplit := by
  intro pins s σ H v0 xs v us Q I rx rs h
  obtain ⟨x, y, rfl, rfl, hy1, hx, q⟩ := h
  obtain ⟨t, rfl⟩ := rx
  obtain ⟨u0, rfl, ru⟩ := vals1 rs
  obtain ⟨u, rfl⟩ := ru
  have hy : (y.length == 0) = false := by
    rw [beq_eq_false_iff_ne]
    omega
  have hl := parts_len x y
  have hq := q s.heap.objs.size I.fresh
  have hz : (Txt.split x y).length ≤ sizeLine := Nat.le_trans (split_len x y) (smallL (by omega))
  cases h1 : (decide (x.length < y.length) || decide (strKind x < strKind y))
  · cases hf : (occurrences x y 0 x.length (x.length + 1)).isEmpty
    · have e : Txt.split x y = partsBetween x (occurrences x y 0 x.length (x.length + 1)) y.length := by
        unfold Txt.split
        rw [if_neg (ne_true_of_eq_false h1), if_neg (ne_true_of_eq_false hf)]
      rw [e] at hq hz
      refine call_meets F.slot_str_split (typeIs_str _ _ _) F.entry_str_split (F.args_str_split_2 _ _) (meets_str_split_sep x y t u h1 hy hf (smallL (by omega)) hz) ?_
      exact ⟨.ref _, _, I.lnew (vals_strs _ _) (by rw [List.length_map]; exact hz), rfl, hq⟩
    · have e : Txt.split x y = [x] := by
        unfold Txt.split
        rw [if_neg (ne_true_of_eq_false h1), if_pos hf]
      rw [e] at hq
      exact call_meets F.slot_str_split (typeIs_str _ _ _) F.entry_str_split (F.args_str_split_2 _ _) (meets_str_split_not_found x y t u h1 hy hf)
        ⟨.ref _, _, I.lnew (t' := s.toks) (its := [.str x t]) (ys := [.str x]) (.cons ⟨t, rfl⟩ .nil) (by show 1 ≤ sizeLine; exact smallL (by omega)), rfl, hq⟩
  · have e : Txt.split x y = [x] := by
      unfold Txt.split
      rw [if_pos h1]
    rw [e] at hq
    exact call_meets F.slot_str_split (typeIs_str _ _ _) F.entry_str_split (F.args_str_split_2 _ _) (meets_str_split_cannot_occur x y t u h1)
      ⟨.ref _, _, I.lnew (t' := s.toks) (its := [.str x t]) (ys := [.str x]) (.cons ⟨t, rfl⟩ .nil) (by show 1 ≤ sizeLine; exact smallL (by omega)), rfl, hq⟩
end
end L2
namespace Lns
open PySem L2
theorem str_ext {x y : Str} (h : x.cps.toList = y.cps.toList) : x = y := Str.ext' (Array.toList_inj.mp h)
theorem app_list (x y : Str) : (x ++ y).cps.toList = x.cps.toList ++ y.cps.toList := by rw [Str.cps_append, Array.toList_append]
theorem free_eq {c : Nat} : ∀ {a b r s : List Nat}, c ∉ a → c ∉ b → a ++ c :: r = b ++ c :: s → a = b ∧ r = s
  | [], [], _, _, _, _, h => ⟨rfl, (List.cons.inj h).2⟩
  | [], y :: b, _, _, _, hb, h => absurd ((List.cons.inj h).1 ▸ List.mem_cons_self) hb
  | x :: a, [], _, _, ha, _, h => absurd ((List.cons.inj h).1 ▸ List.mem_cons_self) ha
  | x :: a, y :: b, _, _, ha, hb, h => by
    obtain ⟨h1, h2⟩ := List.cons.inj h
    obtain ⟨h3, h4⟩ := free_eq (fun z => ha (List.mem_cons_of_mem _ z)) (fun z => hb (List.mem_cons_of_mem _ z)) h2
    exact ⟨by rw [h1, h3], h4⟩
theorem free_ne {c : Nat} {a b r : List Nat} (ha : c ∉ a) (h : a = b ++ c :: r) : False := ha (h ▸ List.mem_append_right _ List.mem_cons_self)
theorem join_uniq (c : Nat) : ∀ (ps qs : List Str), ps ≠ [] → qs ≠ [] → (∀ p ∈ ps, c ∉ p.cps.toList) → (∀ p ∈ qs, c ∉ p.cps.toList) → Str.join ⟨#[c]⟩ ps = Str.join ⟨#[c]⟩ qs → ps = qs
  | [], _, h, _, _, _, _ => absurd rfl h
  | _, [], _, h, _, _, _ => absurd rfl h
  | [p], [q], _, _, _, _, h => by
    have h : p = q := h
    rw [h]
  | [p], q :: q2 :: qs, _, _, hp, _, h => by
    have h : p = q ++ ⟨#[c]⟩ ++ Str.join ⟨#[c]⟩ (q2 :: qs) := h
    have h := congrArg (fun z : Str => z.cps.toList) h
    simp only [app_list, List.append_assoc] at h
    exact (free_ne (hp p List.mem_cons_self) h).elim
  | p :: p2 :: ps, [q], _, _, _, hq, h => by
    have h : p ++ ⟨#[c]⟩ ++ Str.join ⟨#[c]⟩ (p2 :: ps) = q := h
    have h := congrArg (fun z : Str => z.cps.toList) h
    simp only [app_list, List.append_assoc] at h
    exact (free_ne (hq q List.mem_cons_self) h.symm).elim
  | p :: p2 :: ps, q :: q2 :: qs, _, _, hp, hq, h => by
    have h : p ++ ⟨#[c]⟩ ++ Str.join ⟨#[c]⟩ (p2 :: ps) = q ++ ⟨#[c]⟩ ++ Str.join ⟨#[c]⟩ (q2 :: qs) := h
    have h := congrArg (fun z : Str => z.cps.toList) h
    simp only [app_list, List.append_assoc] at h
    obtain ⟨h1, h2⟩ := free_eq (hp p List.mem_cons_self) (hq q List.mem_cons_self) h
    have ih := join_uniq c (p2 :: ps) (q2 :: qs) (by simp) (by simp) (fun x hx => hp x (List.mem_cons_of_mem _ hx)) (fun x hx => hq x (List.mem_cons_of_mem _ hx)) (str_ext h2)
    rw [str_ext h1, ih]
theorem split_ne (x y : Str) : Txt.split x y ≠ [] := by
  unfold Txt.split
  split
  · simp
  · split
    · simp
    · rw [StrLaws.partsBetween_eq]
      obtain ⟨p, r, e⟩ := StrLaws.partsFrom_ne x y.length 0 (Builtin.Str.occurrences x y 0 x.length (x.length + 1))
      rw [e]
      simp
theorem split_join (c : Nat) {ps : List Str} (hne : ps ≠ []) (hf : ∀ p ∈ ps, c ∉ p.cps.toList) : Txt.split (Str.join ⟨#[c]⟩ ps) ⟨#[c]⟩ = ps :=
  join_uniq c _ _ (split_ne _ _) hne (StrLaws.split_free _ c) hf (StrLaws.join_split _ _)
def Plain (x : Str) : Prop := 32 ∉ x.cps.toList ∧ 47 ∉ x.cps.toList
theorem lineT_join (ws : List Str) : lineT ws = Str.join ⟨#[32]⟩ ws := by
  unfold lineT Txt.join
  rw [StrLaws.glued_eq_join]
  rfl
def LineF (H0 : Hp) (no : Addr) (H : Hp) (v : V) (ws : List Str) : Prop := ∃ p, v = .ref p ∧ p ≠ no ∧ H0 p = none ∧ H p = some (.lst (ws.map V.str))
theorem LineF.n {H0 : Hp} {no : Addr} {H : Hp} {xs : List V} {ls : List (List Str)} (h : Paired (LineF H0 no H) xs ls) : Paired (LineN no H) xs ls := Paired.mapP h fun _ _ ⟨p, e, n, _, z⟩ => ⟨p, e, n, z⟩
def ListF (H0 : Hp) (no : Addr) (B : Nat) (H : Hp) (v : V) : Prop := ∃ p ws, v = .ref p ∧ p ≠ no ∧ H0 p = none ∧ H p = some (.lst ws) ∧ ws.length ≤ B
theorem ListF.same {H0 : Hp} {no : Addr} {B : Nat} {H H' : Hp} {v : V} (h : ListF H0 no B H v) (s : Same H H') : ListF H0 no B H' v := let ⟨p, ws, e, n, f, z, b⟩ := h; ⟨p, ws, e, n, f, s _ _ z, b⟩
def isS (c : Nat) : Bool := !decide (c = 32) && !decide (c = 47)
def Settable (rs : List Cs.Row) (x : Str) : Prop := 1 ≤ x.length ∧ ∀ c ∈ x.cps.toList, isS c = true ∧ (Cs.place rs (sg c)).isSome = true
theorem Settable.ne {rs : List Cs.Row} {x : Str} (h : Settable rs x) : (!x.cps.toList.isEmpty) = true := by
  have h1 := h.1
  unfold Str.length at h1
  cases e : x.cps.toList with
  | nil =>
    have : x.cps.toList.length = 0 := by rw [e]; rfl
    rw [Array.length_toList] at this
    omega
  | cons a b => rfl
theorem Settable.plain {rs : List Cs.Row} {x : Str} (h : Settable rs x) : Plain x := by
  constructor
  · intro z
    have := (h.2 _ z).1
    revert this
    decide
  · intro z
    have := (h.2 _ z).1
    revert this
    decide
end Lns
namespace L2
open PySem PySem.Spec PyProof.Rows
section
variable {M : Model} {A : Around} {E : Value → Shared → Prop} {s : Shared}
def Stays (S : List Addr) (ch : List Addr) (h h' : Heap) : Prop := ∀ b o, h.get? b = some o → b ∉ ch → (b ∉ S → h'.get? b = some o) ∧ ∃ sl, h'.get? b = some { o with slots := sl }
theorem Stays.trans {S ch : List Addr} {h h1 h2 : Heap} (x : Stays S ch h h1) (y : Stays S ch h1 h2) : Stays S ch h h2 := fun b o e n => by
  obtain ⟨x1, sl, x2⟩ := x b o e n
  refine ⟨fun hb => ?_, ?_⟩
  · exact (y b o (x1 hb) n).1 hb
  · obtain ⟨_, sl2, y2⟩ := y b _ x2 n
    exact ⟨sl2, y2⟩
theorem Stays.mono {S ch ch' : List Addr} {h h' : Heap} (x : Stays S ch h h') (hs : ∀ b, b ∈ ch → b ∈ ch') : Stays S ch' h h' := fun b o e n => x b o e fun q => n (hs b q)
theorem dict_mapFields (o : Obj) (f) : (o.mapFields f).dict = o.dict := by
  obtain ⟨c, d, dt, sl⟩ := o
  cases dt <;> rfl
def ExcAt (P : Heap → Value → Prop) (h : Heap) (e : Addr) (cls : Value) (dx : Option Addr) : Prop :=
  ∃ oe vs hd, h.get? e = some oe ∧ oe.cls = cls ∧ oe.dict = dx ∧ oe.data = .fields vs ∧ vs[1]? = some hd ∧ P h hd
def TbAt (F : Addr → Prop) (e : Addr) (x : Value) (h : Heap) (hd : Value) : Prop := ∃ T oT ts, hd = .ref T ∧ F T ∧ T ≠ e ∧ h.get? T = some oT ∧ oT.data = .fields ts ∧ ts[3]? = some x
theorem note_new {base : Heap} {env : Env} {outer : List Env} {L e : Addr} {oe : Obj} {vs : Array Value} {head : Value} {hadNext : Bool} {Q : Unit → Shared → Prop}
    (hfr : A.frames = some (env :: outer)) (hl : s.heap.FunFrames base (env :: outer)) (hf : env.frame = some L)
    (he : s.heap.get? e = some oe) (hd : oe.data = .fields vs) (hsz : 1 < vs.size)
    (h : ∀ h', s.heap.objs.size ≤ h'.objs.size → Stays ((env :: outer).filterMap (·.frame)) [e] s.heap h' → ExcAt (TbAt (fun b => s.heap.objs.size ≤ b) e (rawInt L)) h' e oe.cls oe.dict → Q () { s with heap := h' }) :
    wpAny M A (do let a ← frameOf env; let pl ← entryPlaceOf L hadNext; let b ← EntryCells.newEntry head a .none (rawInt L) .none pl; setField (.ref e) 1 b) Q E s := by
  have hene : e ∉ (env :: outer).filterMap (·.frame) := fun hm => by
    obtain ⟨_, o, ho, hnf⟩ := hl.mem hm
    rw [he] at ho; injection ho with ho; subst ho; exact hnf vs hd
  refine wpAny_bind (wpAny_frameOf_fun hfr hl hf fun h₁ hs₁ => ?_)
  refine wpAny_bind (wpAny_entryPlaceOf fun pl hpl => ?_)
  unfold EntryCells.newEntry newFields
  refine wpAny_bind (wpAny_newObj_type ?_ (hpl.sizeOk5 _ _ _ _ _))
  have he₁ : h₁.get? e = some oe := (hs₁.2.1 e hene).trans he
  have he₂ := Heap.get?_push_of_some (h := h₁) { cls := .type "traceback", dict := none, data := .fields ([head, .ref L, .none, rawInt L, .none] ++ (if pl.isEmpty then List.replicate 6 Value.none else pl)).toArray } he₁
  refine wpAny_setField he₂ hd hsz ?_
  have hTe : h₁.objs.size ≠ e := Nat.ne_of_gt (Heap.lt_size he₁)
  have hd₃ := Obj.data_mapFields hd (·.setIfInBounds 1 (Value.ref h₁.objs.size))
  have he₃ := Heap.get?_update_self (Obj.mapFields (·.setIfInBounds 1 (Value.ref h₁.objs.size))) he₂ (Obj.isFreed_of_fields hd₃)
  have hT₃ := (Heap.get?_update_other (h₁.push { cls := .type "traceback", dict := none, data := .fields ([head, .ref L, .none, rawInt L, .none] ++ (if pl.isEmpty then List.replicate 6 Value.none else pl)).toArray })
    (Obj.mapFields (·.setIfInBounds 1 (Value.ref h₁.objs.size))) (Ne.symm hTe)).trans (Heap.get?_push_size h₁ rfl)
  have hsz1 : h₁.objs.size = s.heap.objs.size := hs₁.1
  refine h _ ?_ ?_ ?_
  · rw [Heap.size_after_update, Heap.size_push, hsz1]
    exact Nat.le_succ _
  · intro b o hb hn
    have hbe : b ≠ e := fun q => hn (List.mem_singleton.mpr q)
    have keep : ∀ o, h₁.get? b = some o → ((h₁.push { cls := .type "traceback", dict := none, data := .fields ([head, .ref L, .none, rawInt L, .none] ++ (if pl.isEmpty then List.replicate 6 Value.none else pl)).toArray }).update e (Obj.mapFields (·.setIfInBounds 1 (Value.ref h₁.objs.size)))).get? b = some o := fun o hb => by
      rw [Heap.get?_update_other _ _ (Ne.symm hbe)]
      exact Heap.get?_push_of_some _ hb
    refine ⟨fun hS => keep o ((hs₁.2.1 b hS).trans hb), ?_⟩
    obtain ⟨sl, hs⟩ := hs₁.2.2 b o hb
    exact ⟨sl, keep _ hs⟩
  · exact ⟨_, _, .ref h₁.objs.size, he₃, Obj.cls_mapFields _ _, dict_mapFields _ _, hd₃, by simp [hsz], h₁.objs.size, _, _, rfl, Nat.le_of_eq hsz1.symm, hTe, hT₃, rfl, by simp⟩
theorem ExcAt.mono {P P' : Heap → Value → Prop} {h : Heap} {e : Addr} {cls : Value} {dx : Option Addr} (x : ExcAt P h e cls dx) (f : ∀ hd, P h hd → P' h hd) : ExcAt P' h e cls dx :=
  let ⟨oe, vs, hd, a, b, c, d, g, p⟩ := x
  ⟨oe, vs, hd, a, b, c, d, g, f hd p⟩
theorem TbAt.mono {F F' : Addr → Prop} {e : Addr} {x : Value} {h : Heap} {hd : Value} (t : TbAt F e x h hd) (f : ∀ b, F b → F' b) : TbAt F' e x h hd :=
  let ⟨T, oT, ts, a, b, c⟩ := t
  ⟨T, oT, ts, a, f T b, c⟩
def HdOk (F : Addr → Prop) (e L : Addr) (h : Heap) (hd : Value) : Prop := hd = .none ∨ ∃ x, TbAt F e x h hd
def Recs (F : Addr → Prop) (h : Heap) (ch : List Addr) : Prop := ∀ b ∈ ch, F b ∧ ∃ o vs, h.get? b = some o ∧ o.data = .fields vs
theorem stays_refl (S ch : List Addr) (h : Heap) : Stays S ch h h := fun _ o e _ => ⟨fun _ => e, o.slots, e⟩
theorem note_any {F : Addr → Prop} {base : Heap} {env : Env} {outer : List Env} {L e : Addr} {cls : Value} {dx : Option Addr} {Q : Unit → Shared → Prop}
    (hfr : A.frames = some (env :: outer)) (hl : s.heap.FunFrames base (env :: outer)) (hf : env.frame = some L) (hF : ∀ b, s.heap.objs.size ≤ b → F b) (hFe : F e)
    (hx : ExcAt (HdOk F e L) s.heap e cls dx)
    (h : ∀ h' ch, Recs F s.heap ch → s.heap.objs.size ≤ h'.objs.size → Stays ((env :: outer).filterMap (·.frame)) ch s.heap h' → ExcAt (TbAt F e (rawInt L)) h' e cls dx → Q () { s with heap := h' }) :
    wpAny M A (noteFrame (.ref e) env) Q E s := by
  obtain ⟨oe, vs, hd, he, rfl, rfl, hdt, h1, hp⟩ := hx
  have hsz : 1 < vs.size := (Array.getElem?_eq_some_iff.mp h1).1
  unfold noteFrame
  simp only [hf]
  refine wpAny_bind (wpAny_field he hdt h1 ?_)
  rcases hp with rfl | ⟨x, T, oT, ts, rfl, hFT, hTe, hT, hdT, h3⟩
  · rw [if_neg (by decide)]
    exact note_new hfr hl hf he hdt hsz fun h' hs hst hx => h h' [e] (fun b hb => by rw [List.mem_singleton.mp hb]; exact ⟨hFe, _, _, he, hdt⟩) hs hst (hx.mono fun hd t => t.mono hF)
  by_cases hxL : (x == rawInt L) = true
  · rw [if_pos (show (Value.ref T != Value.none) = true from by simp)]
    refine wpAny_bind (wpAny_field hT hdT h3 ?_)
    rw [if_pos hxL]
    have h3 : ts[3]? = some (rawInt L) := by rw [h3, eq_of_beq hxL]
    exact wpAny_pure (h s.heap [] (fun b hb => nomatch hb) (Nat.le_refl _) (stays_refl _ _ _) ⟨oe, vs, _, he, rfl, rfl, hdt, h1, T, oT, ts, rfl, hFT, hTe, hT, hdT, h3⟩)
  · rw [if_pos (show (Value.ref T != Value.none) = true from by simp)]
    refine wpAny_bind (wpAny_field hT hdT h3 ?_)
    rw [if_neg hxL]
    refine wpAny_bind (wpAny_setField hT hdT (Array.getElem?_eq_some_iff.mp h3).1 ?_)
    have other : ∀ b, b ≠ T → (s.heap.update T (Obj.mapFields (·.setIfInBounds 3 Value.none))).get? b = s.heap.get? b := fun b hb => Heap.get?_update_other _ _ (Ne.symm hb)
    have noRecord : ∀ b o, s.heap.get? b = some o → (∀ vs, o.data ≠ .fields vs) → b ≠ T := fun b o hb hnf q => by
      rw [q, hT] at hb; injection hb with hb; subst hb; exact hnf ts hdT
    have hsz0 : (s.heap.update T (Obj.mapFields (·.setIfInBounds 3 Value.none))).objs.size = s.heap.objs.size := Heap.size_after_update ..
    refine note_new (s := { s with heap := s.heap.update T (Obj.mapFields (·.setIfInBounds 3 Value.none)) }) hfr (hl.of_keeps fun b o hb hnf => ⟨o, (other b (noRecord b o hb hnf)).trans hb, rfl⟩) hf ((other e (Ne.symm hTe)).trans he) hdt hsz fun h' hs hst hx => ?_
    refine h h' [e, T] (fun b hb => ?_) (Nat.le_trans (Nat.le_of_eq hsz0.symm) hs) (fun b o hb hn => ?_) (hx.mono fun hd t => t.mono fun b hb => hF b (Nat.le_trans (Nat.le_of_eq hsz0.symm) hb))
    · rcases List.mem_cons.mp hb with rfl | hb
      · exact ⟨hFe, _, _, he, hdt⟩
      · rw [List.mem_singleton.mp hb]
        exact ⟨hFT, _, _, hT, hdT⟩
    · have hbT : b ≠ T := fun q => hn (by rw [q]; exact List.mem_cons_of_mem _ List.mem_cons_self)
      exact hst b o ((other b hbT).trans hb) fun q => hn (by rw [List.mem_singleton.mp q]; exact List.mem_cons_self)
theorem flight_any {F : Addr → Prop} {S : List Addr} {e : Addr} {cls x : Value} {dx : Option Addr} {fr : Option Addr} {Q : Unit → Shared → Prop} (hFe : F e) (hx : ExcAt (TbAt F e x) s.heap e cls dx)
    (h : ∀ h' ch, Recs F s.heap ch → s.heap.objs.size ≤ h'.objs.size → Stays S ch s.heap h' → ExcAt (TbAt F e (fr.elim .none fun f => rawInt f)) h' e cls dx → Q () { s with heap := h' }) :
    wpAny M A (setFlight (.ref e) fr) Q E s := by
  obtain ⟨oe, vs, hd, he, rfl, rfl, hdt, h1, T, oT, ts, rfl, hFT, hTe, hT, hdT, h3⟩ := hx
  unfold setFlight
  refine wpAny_bind (wpAny_field he hdt h1 ?_)
  rw [if_pos (show (Value.ref T != Value.none) = true from by simp)]
  have h3s := (Array.getElem?_eq_some_iff.mp h3).1
  refine wpAny_setField hT hdT h3s (h _ [T] (fun b hb => by rw [List.mem_singleton.mp hb]; exact ⟨hFT, _, _, hT, hdT⟩) (Nat.le_of_eq (Heap.size_after_update ..).symm) (fun b o hb hn => ?_) ?_)
  · have hbT : T ≠ b := fun q => hn (by rw [q]; exact List.mem_cons_self)
    have k := (Heap.get?_update_other s.heap (Obj.mapFields (·.setIfInBounds 3 (fr.elim Value.none fun f => rawInt f))) hbT).trans hb
    exact ⟨fun _ => k, o.slots, k⟩
  · have hdT3 := Obj.data_mapFields hdT (·.setIfInBounds 3 (fr.elim Value.none fun f => rawInt f))
    exact ⟨oe, vs, _, (Heap.get?_update_other _ _ hTe).trans he, rfl, rfl, hdt, h1, T, _, _, rfl, hFT, hTe, Heap.get?_update_self _ hT (Obj.isFreed_of_fields hdT3), hdT3, by simp [h3s]⟩
end
def Fr0 (X : Cx) (H : Hp) (b : Addr) : Prop := X.s₀.heap.objs.size ≤ b ∧ H b = none ∧ ∀ p ∈ X.pn, p.1 ≠ b
section
variable {X : Cx} {pins : List (Addr × Obj)} {σ : St} {H : Hp} {s : Shared}
theorem hok_ex {P : Program} {w : World} {H : Hp} {h h' : Heap} (hok : HOk P w H h) (k : ∀ b o, h.get? b = some o → H b ≠ none → h'.get? b = some o) : HOk P w H h' := fun a o e =>
  (hok a o e).stay (fun b u hb q => k b u q (by
    rcases hb with rfl | hb
    · rw [e]; exact fun z => nomatch z
    · rw [hb]; exact fun z => nomatch z)) (fun _ q => q) fun _ _ q => q
theorem Inv.exc {h' : Heap} {ch : List Addr} (I : Inv X [] σ H s) (hr : Recs (Fr0 X H) s.heap ch) (st : Stays (frs X.stack) ch s.heap h') : Inv X [] σ H { s with heap := h' } := by
  have nch : ∀ b, H b ≠ none → b ∉ ch := fun b hb q => hb (hr b q).1.2.1
  have nfr : ∀ b, H b ≠ none → b ∉ frs X.stack := fun b hb q => hb (I.stkFree b q)
  refine Inv.call' (ch := ch) I rfl ⟨fun b o q _ hb hx => (st b o q hx).1 hb, fun b o q _ _ hx => (st b o q hx).2, fun _ _ _ q _ => q, fun b o q hx => ?_, fun _ _ q => q, fun _ _ _ q => q, fun b ps q => ⟨#[], by rw [Array.append_empty]; exact q⟩⟩
    (hok_ex I.hok fun b o q hb => (st b o q (nch b hb)).1 (nfr b hb)) I.bare fun b hb => ?_
  · obtain ⟨sl, z⟩ := (st b o q hx).2
    exact ⟨_, z⟩
  · obtain ⟨⟨h1, h2, h3⟩, o, vs, ho, hd⟩ := hr b hb
    refine ⟨.inr h1, fun q => ?_, fun x c hc q => ?_, fun p hp => ?_⟩
    · obtain ⟨m, ⟨o2, es, ep, ho2, hd2, _⟩, _⟩ := I.loc
      rw [← q, ho] at ho2
      cases ho2
      rw [hd] at hd2
      cases hd2
    · obtain ⟨v, o2, ho2, hd2⟩ := I.cell x c hc
      rw [q, ho] at ho2
      cases ho2
      rw [hd] at hd2
      cases hd2
    · rw [List.append_nil] at hp
      exact h3 p hp
end
def Fly (X : Cx) (E : St → XK) (ev : Value) (s : Shared) : Prop := ∃ e cls dx σ H L, ev = .ref e ∧ X.env.frame = some L ∧ Inv X [] σ H s ∧ Fr0 X H e ∧ ExcAt (HdOk (Fr0 X H) e L) s.heap e cls dx ∧ E σ cls dx H
abbrev CX1 (P : Program) (w : World) : CXT := fun outer H s E ev s' => ∃ e cls dx H', ev = .ref e ∧ s'.os = s.os ∧ AllBare s'.gens ∧ Un (frs outer) [] H H' s.heap s'.heap ∧ HOk P w H' s'.heap ∧
  (s.heap.objs.size ≤ e ∧ H' e = none) ∧ ExcAt (TbAt (fun b => s.heap.objs.size ≤ b ∧ H' b = none) e .none) s'.heap e cls dx ∧ E cls dx H'
section
variable {X : Cx} {pins : List (Addr × Obj)} {σ : St} {H : Hp} {s : Shared}
theorem Inv.nopins (I : Inv X pins σ H s) : Inv X [] σ H s := ⟨I.ok, I.os, I.bare, I.base, I.loc, I.cell, I.free, I.freeC, fun p hp => I.pin p (List.mem_append_left _ (by rwa [List.append_nil] at hp)), I.hok, I.len⟩
theorem Inv.pnlt (I : Inv X pins σ H s) {b : Addr} (h : s.heap.objs.size ≤ b) : ∀ p ∈ X.pn, p.1 ≠ b := fun p hp q => by
  have := Heap.lt_size (I.pin p (List.mem_append_left _ hp)).1
  exact absurd (Nat.lt_of_lt_of_le this h) (by rw [q]; exact Nat.lt_irrefl _)
theorem Inv.fr0 (I : Inv X pins σ H s) {b : Addr} (h : s.heap.objs.size ≤ b) : Fr0 X H b := ⟨Nat.le_trans I.sz h, I.hok.fresh h, I.pnlt h⟩
theorem fly_note {E : St → XK} {A : Around} {M : Model} {ev : Value} {N : Value → Shared → Prop} {Q : Unit → Shared → Prop} (hA : A.frames = some X.stack) (hst : X.stack = X.env :: X.outer) (h : Fly X E ev s)
    (q : ∀ h' e cls dx σ H L, ev = .ref e → X.env.frame = some L → Inv X [] σ H { s with heap := h' } → Fr0 X H e → ExcAt (TbAt (Fr0 X H) e (rawInt L)) h' e cls dx → E σ cls dx H → Q () { s with heap := h' }) :
    wpAny M A (noteFrame ev X.env) Q N s := by
  obtain ⟨e, cls, dx, σ, H, L, rfl, hL, I, he, hx, hE⟩ := h
  have hl := I.stack
  rw [hst] at hA hl
  refine note_any hA hl hL (fun b hb => I.fr0 hb) he hx fun h' ch hr hs st hx' => ?_
  exact q h' e cls dx σ H L rfl hL (I.exc hr (by rw [hst]; exact st)) he hx' hE
theorem fly_mark {A : Around} {M : Model} {N : Value → Shared → Prop} {Q : Unit → Shared → Prop} {e : Addr} {cls x : Value} {dx fr : Option Addr} (I : Inv X [] σ H s) (he : Fr0 X H e)
    (hx : ExcAt (TbAt (Fr0 X H) e x) s.heap e cls dx) (q : ∀ h', Inv X [] σ H { s with heap := h' } → ExcAt (TbAt (Fr0 X H) e (fr.elim .none fun f => rawInt f)) h' e cls dx → Q () { s with heap := h' }) :
    wpAny M A (setFlight (.ref e) fr) Q N s :=
  flight_any (S := frs X.stack) he hx fun h' _ hr _ st hx' => q h' (I.exc hr st) hx'
theorem fly_own {E : St → XK} {M : Model} (hst : X.stack = X.env :: X.outer) : PassesOwn M X.A X.env (Fly X E) := by
  intro ev s h
  have hA : X.A.frames = some X.stack := let ⟨_, _, _, _, _, _, _, _, I, _⟩ := h; I.ok.frames
  refine fly_note hA hst h fun h' e cls dx σ H L hev hL I he hx hE => ?_
  subst hev
  obtain ⟨oe, vs, hd, ho, hc, hdi, hdt, h1, T, oT, ts, rfl, r⟩ := id hx
  unfold cameBackBy
  refine wpAny_bind (wpAny_field (s := { s with heap := h' }) ho hdt h1 ?_)
  rw [if_neg (show ¬ ((Value.ref T == Value.none) = true) from by simp)]
  rw [hL]
  exact fly_mark (s := { s with heap := h' }) (fr := some L) I he hx fun h2 I2 hx2 => ⟨e, cls, dx, σ, H, L, rfl, hL, I2, he, hx2.mono fun hd t => .inr ⟨_, t⟩, hE⟩
theorem PSs.wishTo {E' : Value → Shared → Prop} {st : List Stmt} {t : TS} (h : PSs (X.wish E') st t) (hE : ∀ e s, E' e s → X.xe e s) : PSs X st t := fun pins s σ H D I hw =>
  wpAny_mono (h pins s σ H D (I.wish _) hw) (fun _ _ q => q.unwish) hE
end
def tCallS (sp : Sp) (E : St → XK) (t : TA) : TE := fun σ H Q => t σ H fun vs H1 => sp vs H1 Q (E σ)
section
variable {X : Cx} {k : Nat} {f L : Addr} {fd : FuncData} {ps : List Str} {sp : Sp} {E : St → XK} {x : Str} {p pos : Pos} {e : Expr} {es : List Expr} {t : TA}
theorem run_fnX {pins : List (Addr × Obj)} {σ : St} {H : Hp} {s : Shared} {Q : VK} {us : List Value} {vs : List V} (hL : X.env.frame = some L) (F : FnOk X.prog X.w X.K X.mg X.base (CX1 X.prog X.w) k f fd ps sp) (hr : Room k X.A) (hb : Binds X.K fd ps [])
    (I : Inv (X.wish (Fly X E)) pins σ H s) (r : Vals vs us) (h : sp vs H Q (E σ)) : wpAny (model X.prog X.w) X.A (call (.ref f) us) (EP (X.wish (Fly X E)) pins σ Q) (Fly X E) s := by
  have hl : (us ++ []).length = ps.length := by rw [List.append_nil, ← r.length]; exact F.len _ _ _ _ h
  have hb0 := hb s us I.kIn hl
  rw [List.append_nil] at hb0
  refine wpAny_call (codeAny_mono (F.run X.A X.stack s H ⟨us, []⟩ us vs Q (E σ) hr I.env0 hb0 r h) fun r s' hq => ?_)
  cases r with
  | error ev =>
    have hq : CX1 X.prog X.w X.stack H s (E σ) ev s' := hq
    obtain ⟨e, cls, dx, H', rfl, os, bare, un, hok, ⟨h1, h2⟩, hx, hE⟩ := hq
    have I0 := I.unwish
    have I1 : Inv X pins σ H' s' := I0.call' (ch := []) os un hok bare fun b z => absurd z (by simp)
    exact ⟨e, cls, dx, σ, H', L, rfl, hL, I1.nopins, ⟨Nat.le_trans I0.sz h1, h2, I0.pnlt h1⟩, hx.mono fun hd t => .inr ⟨_, t.mono fun b hb => ⟨Nat.le_trans I0.sz hb.1, hb.2, I0.pnlt hb.1⟩⟩, hE⟩
  | ok fl =>
    cases fl with
    | ret u => exact I.after hq
    | next => exact False.elim hq
    | brk => exact False.elim hq
    | cont => exact False.elim hq
theorem pe_callX (hL : X.env.frame = some L) (F : FnOk X.prog X.w X.K X.mg X.base (CX1 X.prog X.w) k f fd ps sp) (hr : Room k X.A) (hg : Gl X x) (hm : X.mg x = some (.ref f)) (hk : PySem.W.keepIn X.K (.ref f) = true) (hb : Binds X.K fd ps [])
    (ha : PA (X.wish (Fly X E)) (e :: es) t) (hdb : (x == ("__debug__" : Str)) = false := by decide) (he : starEach (e :: es) X.env = (false, eval e X.env) :: starEach es X.env := by rfl) (hpl : (backTo pos (starEach es X.env)).any (·.1) = false := by rfl) :
    PE (X.wish (Fly X E)) (.Call (.Name x p) (e :: es) [] pos) (tCallS sp E t) := by
  intro pins s σ H Q I h
  refine wpAny_Call_Name_kw (ld_glob I hg hm ?_ hdb)
  refine PySem.W.callWith_K (h₀ := X.base) I.ok.mod.kin hk (thn (ha pos pins s σ H _ I h) fun us s1 ⟨vs, H1, I1, r, q⟩ => ⟨I1.kIn, ?_⟩) he hpl
  exact run_fnX hL F hr hb I1 r q
end
section
variable {P : Program} {w : World} {K : PySem.W.Frag} {mg : Str → Option Value} {base : Heap}
abbrev cxF (P : Program) (w : World) (K : PySem.W.Frag) (mg : Str → Option Value) (base : Heap) (N : List Str) (qual : Str) (scope : Scope) (f : Addr) (cd : Value) (A : Around) (outer : List Env) (s : Shared) (H : Hp) (E : XK) : Cx :=
  (cxOf (CX1 P w) P w K mg base N qual scope f cd A outer s H E).wish (Fly (cxOf (CX1 P w) P w K mg base N qual scope f cd A outer s H E) fun _ => E)
theorem fly_leaves {N : List Str} {qual : Str} {scope : Scope} {f : Addr} {cd : Value} {A : Around} {outer : List Env} {s : Shared} {H : Hp} {E : XK} :
    ∀ ev s', Fly (cxOf (CX1 P w) P w K mg base N qual scope f cd A outer s H E) (fun _ => E) ev s' → (cxOf (CX1 P w) P w K mg base N qual scope f cd A outer s H E).xe ev s' := by
  intro ev s' h
  show wpAny (model P w) (A.deeper (envOfC qual scope s.heap.objs.size f cd)) (leaving (envOfC qual scope s.heap.objs.size f cd) ev) _ _ s'
  unfold leaving
  refine wpAny_bind (fly_note (X := cxOf (CX1 P w) P w K mg base N qual scope f cd A outer s H E) (let ⟨_, _, _, _, _, _, _, _, I, _⟩ := h; I.ok.frames) rfl h fun h' e cls dx σ H1 L hev hL I he hx hE => ?_)
  subst hev
  refine fly_mark (s := { s' with heap := h' }) (fr := none) I he hx fun h2 I2 hx2 => ?_
  exact ⟨e, cls, dx, H1, rfl, I2.os, I2.bare, I2.base, I2.hok, ⟨he.1, he.2.1⟩, hx2.mono fun hd t => t.mono fun b hb => ⟨hb.1, hb.2.1⟩, hE⟩
theorem Fun.okX {x qual : Str} {st : Stmt} {f : Addr} {fd : FuncData} {N ps : List Str} {k : Nat} {sp : Sp} (F : Fun K x qual st f fd) (S : FnScope N ps (defScope st)) (len : ∀ vs H Q E, sp vs H Q E → vs.length = ps.length)
    (hbody : ∀ (cdv : Value) (A : Around) (outer : List Env) (s : Shared) (H : Hp) (vs : List V) (Q : VK) (E : XK), Room k (A.deeper (envOfC qual (defScope st) s.heap.objs.size f cdv)) → sp vs H Q E →
      ∃ t, PSs (cxF P w K mg base N qual (defScope st) f cdv A outer s H E) (defBody st) t ∧ t { nx := fun _ H' => Q .non H', rt := Q } (start N vs) H) : FnOk P w K mg base (CX1 P w) (k + 1) f fd ps sp := by
  obtain ⟨oc, od, kV, doc, pm, an, cdv, ct, osl, rfl, lk, hcd⟩ := F.ex
  refine fn_of lk hcd S len fun A outer s H vs Q E hr hsp => ?_
  obtain ⟨t, h, q⟩ := hbody cdv A outer s H vs Q E hr hsp
  exact ⟨t, h.wishTo fly_leaves, q⟩
end
end L2
namespace L2
open PySem PySem.Spec PyProof.Rows PySem.W PySem.Calls
abbrev bmV : List Value := [.type "ValueError", .type "Exception", .type "BaseException", .type "object"]
section
variable {prog : Program} {w : World} {A : Around} {R : Result → Shared → Prop} {h : Heap} {g : Array GenState} {d : Drawn} {t : Nat} {os : OsState}
variable {nm q : Str} {C N : Addr} {bs bm : List Value} {hdct : Bool} {sn : List Str} {sub : List Value} {ab : Bool} {col : Option Bool} {dd : Option Addr} {k0 k1 k2 k3 k5 : Option Value}
abbrev excObj (C : Addr) (t : Addr) (dx : Option Addr) : Obj := { cls := .ref C, dict := dx, data := .fields #[.ref t, .none, .none, .none, .bool false, .none] }
end
theorem ns_some_of {K : PySem.W.Frag} {h : Heap} {N : Addr} {mg : Str → Option Value} {n : Str} {v : Value} (X : K.In h) (G : h.Ns N mg) (e : nsIn K N n = some (some v)) : mg n = some v := by
  obtain ⟨o, es, ep, ho, hd, _, hf⟩ := G
  unfold nsIn at e
  split at e
  · rename_i c d es' n' sl q
    have := X _ _ q
    rw [ho] at this
    cases this
    cases hd
    split at e
    · rename_i en he
      cases e
      rw [← hf]
      unfold nsFind findBy
      rw [← Array.find?_toList, he]
      rfl
    · split at e <;> cases e
  · cases e
def xclsIn (K : PySem.W.Frag) (C : Addr) (init : Option Addr) : Bool := match K.lookup C with
  | some ⟨.type "type", _, .cls cd, sl⟩ => (match cd.mro, sl.toList with
    | .ref C' :: bm, [_, _, _, _, some (.builtin n), _] => C' == C && n == "ValueError.__new__" && !cd.hasDel && tailIn K bmV bm && nsOkIn K cd.ns && nsIn K cd.ns "__init__" == some (init.map Value.ref)
    | _, _ => false)
  | _ => false
theorem xcls_of {K : PySem.W.Frag} {h : Heap} {C : Addr} {init : Option Addr} (X : K.In h) (q : xclsIn K C init = true) :
    ∃ bm N nm qn bs hd sn sub ab col dd k0 k1 k2 k3 k5 mN, h.get? C = some (excClassObj nm qn C N bs bm hd sn sub ab col dd k0 k1 k2 k3 k5 "ValueError.__new__") ∧ h.Ns N mN ∧ mN "__init__" = init.map Value.ref ∧ OwnTail h bmV bm := by
  unfold xclsIn at q
  split at q
  · rename_i dd cd sl ho
    split at q
    · rename_i C' bm k0 k1 k2 k3 n k5 hm hs
      simp only [Bool.and_eq_true, beq_iff_eq, Bool.not_eq_true'] at q
      obtain ⟨⟨⟨⟨⟨rfl, rfl⟩, hdel⟩, ht⟩, hok⟩, hni⟩ := q
      obtain ⟨nm, bs, mro, ns, qn, hd, sn, sub, ab, col, del⟩ := cd
      dsimp only at hm hdel hok hni
      subst hm hdel
      have hsl : sl = #[k0, k1, k2, k3, some (.builtin "ValueError.__new__"), k5] := by
        obtain ⟨l⟩ := sl
        simp only at hs
        rw [hs]
      subst hsl
      have G : h.Ns ns (h.nsMap ns) := .of_isNs (isNs_of_in X hok)
      refine ⟨bm, ns, nm, qn, bs, hd, sn, sub, ab, col, dd, k0, k1, k2, k3, k5, _, X _ _ ho, G, ?_, tail_of_in X ht⟩
      cases init with
      | none => exact ns_none_of X G hni
      | some f => exact ns_some_of X G hni
    · cases q
  · cases q
theorem xcls_same {K : PySem.W.Frag} {h h' : Heap} {C : Addr} {init : Option Addr} (X : K.In h) (X' : K.In h') (q : xclsIn K C init = true) : h'.get? C = h.get? C := by
  unfold xclsIn at q
  split at q
  · rename_i ho
    rw [X _ _ ho, X' _ _ ho]
  · cases q
section
variable {X : Cx} {CX : CXT} {k : Nat} {f C : Addr} {fd : FuncData} {ps : List Str} {sp : Sp} {x m : Str} {p pos apos : Pos} {e o : Expr} {es : List Expr} {ta : TE} {t : TA} {pins : List (Addr × Obj)} {σ : St} {H : Hp} {s : Shared}
end
end L2
namespace L2
open PySem PySem.Spec PyProof.Rows PySem.W PySem.Calls Builtin Builtin.ObjectAttr
def xTail : List Value → Bool
  | [] => false
  | .ref c :: r => xTail r
  | v :: r => (v :: r) == bmV
section
variable {prog : Program} {w : World} {A : Around} {K : PySem.W.Frag} {C x : Addr} {s : Shared} {R : Result → Shared → Prop}
structure XF (K : PySem.W.Frag) (C : Addr) (f : Str) : Prop where
  cd : ∃ cd, clsIn K C = some cd ∧ xTail cd.mro = true ∧ cd.hasDict = true
  sa : findIn K (.ref C) "__setattr__" = some (some (.builtin "object.__setattr__"))
  no : findIn K (.ref C) f = some none
end
section
variable {X : Cx} {pins : List (Addr × Obj)} {σ : St} {H : Hp} {s : Shared}
end
end L2
namespace L2
open PySem PySem.Spec PyProof.Rows PySem.W PySem.Calls
structure BI (K : PySem.W.Frag) (CB : Addr) : Prop where
  reads : readsIn K CB (.type "type") = true
  find : findCls K (.ref CB) (.type "type") "__init__" = some (.val (.builtin "ValueError.__init__"))
  ga : specialIn K (.ref CB) "__getattribute__" = some (some (.builtin "type.__getattribute__"))
section
variable {X : Cx} {pins : List (Addr × Obj)} {σ : St} {H : Hp} {s : Shared}
def tFmt (tv : TE) : TE := fun σ H Q => tv σ H fun v H1 => ∃ i : Int, v = .int i ∧ i.natAbs ≤ 1000000000 ∧ ∀ x : Str, x.length ≤ 2000 → Q (.str x) H1
theorem log_small {n : Nat} (h : n ≤ 1000000000) : n.log2 < 1920 := by
  by_cases h0 : n = 0
  · subst h0
    decide
  · have h1 : n < 2 ^ 30 := Nat.lt_of_le_of_lt h (by decide)
    exact Nat.lt_trans ((Nat.log2_lt h0).mpr h1) (by decide)
theorem pe_fmt {value : Expr} {pos : Pos} {tv : TE} (hv : PE X value tv) : PE X (.FormattedValue value (-1) none pos) (tFmt tv) := by
  intro pins s σ H Q I h
  refine wpAny_FormattedValue_plain (thn (hv pins s σ H _ I h) fun v s1 ⟨y, H1, I1, ry, i, ey, hi, q⟩ => ?_)
  subst ey
  obtain ⟨t, rfl⟩ := ry
  have hl : (Str.ofString (toString i)).length ≤ 2000 := by
    have e := int_text_length_le (k := 1920) (by decide) (log_small hi)
    rw [PySem.ofString_length]
    omega
  exact wpAny_formatField_int (log_small hi) ⟨.str _, H1, I1.tok _, ⟨_, rfl⟩, q _ hl⟩
def tJ2 (t1 t2 : TE) : TE := fun σ H Q => t1 σ H fun a H1 => ∃ x1 : Str, a = .str x1 ∧ x1.length ≤ 2000 ∧ t2 σ H1 fun b H2 => ∃ x2 : Str, b = .str x2 ∧ x2.length ≤ 2000 ∧ ∀ x, Q (.str x) H2
def tJ3 (t1 t2 t3 : TE) : TE := fun σ H Q => t1 σ H fun a H1 => ∃ x1 : Str, a = .str x1 ∧ x1.length ≤ 2000 ∧ t2 σ H1 fun b H2 => ∃ x2 : Str, b = .str x2 ∧ x2.length ≤ 2000 ∧ t3 σ H2 fun c H3 => ∃ x3 : Str, c = .str x3 ∧ x3.length ≤ 2000 ∧ ∀ x, Q (.str x) H3
end
end L2
namespace L2
open PySem PySem.Spec PyProof.Rows PySem.W PySem.Calls
section
variable {M : Model} {A : Around} {E : Value → Shared → Prop} {env : Env}
variable {nm q : Str} {C N : Addr} {bs bm : List Value} {hdct : Bool} {sn : List Str} {sub : List Value} {ab : Bool} {col : Option Bool} {dd : Option Addr} {k0 k1 k2 k3 k5 : Option Value} {newId : String}
theorem raise_made {s : Shared} {x : Sem Value} {Q : Flow → Shared → Prop} (hbase : bm.contains (.type "BaseException") = true) (hh : A.handled = none)
    (h : wpAny M A x (fun v s₁ => ∃ e t dx, v = .ref e ∧ s₁.heap.get? C = some (excClassObj nm q C N bs bm hdct sn sub ab col dd k0 k1 k2 k3 k5 newId) ∧ s₁.heap.get? e = some (excObj C t dx) ∧ E (.ref e) s₁) E s) :
    wpAny M A (raiseStmt env (some x) none) Q E s := by
  have hcB : (Value.ref C :: bm).contains (.type "BaseException") = true := by rw [List.contains_cons, hbase, Bool.or_true]
  unfold raiseStmt
  refine wpAny_bind (wpAny_mono h (fun v s₁ h₁ => ?_) fun _ _ x => x)
  obtain ⟨e, t, dx, rfl, hC, he, hE⟩ := h₁
  obtain ⟨hp, g, d, tk, os⟩ := s₁
  have he : hp.get? e = some { cls := .ref C, dict := dx, data := .fields #[.ref t, .none, .none, .none, .bool false, .none] } := he
  repeat (first | with_reducible refine wpAny_loadPart_at he ?_ | with_reducible refine wpAny_loadPart_at hC ?_ | (with_reducible refine wpAny_isSubtype_exc hC ?_; rw [hcB]) | wp_step)
  exact wpAny_raiseNew_none hh hE
end
section
variable {prog : Program} {w : World} {A : Around} {E : Value → Shared → Prop} {h : Heap} {g : Array GenState} {d : Drawn} {t : Nat} {os : OsState}
variable {nm q : Str} {C N : Addr} {bs bm : List Value} {hdct : Bool} {sn : List Str} {sub : List Value} {ab : Bool} {col : Option Bool} {dd : Option Addr} {k0 k1 k2 k3 k5 : Option Value}
theorem exc_type_call0 (T : OwnTail h bmV bm) {mN : Str → Option Value} {rest : List Value} {Q : PySem.Fin → Shared → Prop}
    (hC : h.get? C = some (excClassObj nm q C N bs bm hdct sn sub ab col dd k0 k1 k2 k3 k5 "ValueError.__new__")) (hn : h.Ns N mN) (hni : mN "__init__" = none) (hrest : rest.length ≤ sizeLine)
    (hq : ∀ h' t2, (∀ b o, h.get? b = some o → h'.get? b = some o) → h'.get? (h.objs.size + 1) = some (excObj C t2 none) → Q (.done (.ret (.ref (h.objs.size + 1)))) ⟨h', g, d, t, os⟩) :
    wpAny (model prog w) A (Builtin.«type.__call__» ⟨.ref C :: rest, []⟩) Q E ⟨h, g, d, t, os⟩ := by
  have F := PySem.F.excBase_ValueError
  have hBn : bmV.contains (.type "ValueError") = true := by decide
  repeat (first | with_reducible refine wpAny_loadPart_at hC ?_ | with_reducible refine wpAny_madeBy_exc hC ?_ | wp_step)
  refine codeAny_call_builtin_code (Code.quiet_builtin _ F.quiet) (wpAny_check_new_subU F hBn T hC ?_)
  refine codeAny_exc_new_subU F hBn F T hC ?_ hrest
  show wpAny _ _ _ _ _ _
  have hC₁ := Heap.get?_push_of_some { cls := .ref C, data := .fields #[.ref h.objs.size, .none, .none, .none, .bool false, .none] }
    (Heap.get?_push_of_some { cls := .type "tuple", data := .seq rest.toArray } hC)
  have hn₁ : ((h.push { cls := .type "tuple", data := .seq rest.toArray }).push { cls := .ref C, data := .fields #[.ref h.objs.size, .none, .none, .none, .bool false, .none] }).Ns N mN :=
    let ⟨o, es, ep, e, r⟩ := hn; ⟨o, es, ep, Heap.get?_push_of_some _ (Heap.get?_push_of_some _ e), r⟩
  have hget : ((h.push { cls := .type "tuple", data := .seq rest.toArray }).push
      { cls := .ref C, data := .fields #[.ref h.objs.size, .none, .none, .none, .bool false, .none] }).get? (h.objs.size + 1) = some
      { cls := .ref C, data := .fields #[.ref h.objs.size, .none, .none, .none, .bool false, .none] } := by heap_get
  have hcC : (Value.ref C :: bm).contains (.ref C) = true := by simp
  have T₁ := T.keeps (h' := (h.push { cls := .type "tuple", data := .seq rest.toArray }).push { cls := .ref C, data := .fields #[.ref h.objs.size, .none, .none, .none, .bool false, .none] })
    fun b o e => Heap.get?_push_of_some _ (Heap.get?_push_of_some _ e)
  unfold isInstance
  repeat (first | with_reducible refine wpAny_loadPart_at hget ?_ | (with_reducible refine wpAny_isSubtype_exc hC₁ ?_; rw [hcC]) | wp_step)
  show wpAny _ _ (typeLookup (.ref C) _) _ _ _
  refine wpAny_typeLookup_tail hC₁ hn₁ T₁ F.mroIs F.init.lookup ?_
  rw [hni]
  refine wpAny_holding (wpAny_bind (wpAny_of_eq (F.init.bind _) ?_))
  refine wpAny_bind (wpAny_call (codeAny_call_builtin F.init.plain F.initEntry (wpAny_check_init_subU F T₁ hC₁ hget rfl ?_)))
  wp_walk
  refine hq _ (h.objs.size + 2) (fun b o hb => ?_) ?_
  · rw [Heap.get?_update_other _ _ (Nat.ne_of_gt (Nat.lt_succ_of_lt (Heap.lt_size hb)))]
    exact Heap.get?_push_of_some _ (Heap.get?_push_of_some _ (Heap.get?_push_of_some _ hb))
  · rw [Heap.get?_update_self _ (Heap.get?_push_of_some _ hget) rfl]
    simp only [Heap.size_push]
    rfl
theorem call_exc0 (T : OwnTail h bmV bm) {mN : Str → Option Value} {rest : List Value} {Q : Value → Shared → Prop}
    (hC : h.get? C = some (excClassObj nm q C N bs bm hdct sn sub ab col dd k0 k1 k2 k3 k5 "ValueError.__new__")) (hn : h.Ns N mN) (hni : mN "__init__" = none) (hrest : rest.length ≤ sizeLine)
    (hq : ∀ h' t2, (∀ b o, h.get? b = some o → h'.get? b = some o) → h'.get? (h.objs.size + 1) = some (excObj C t2 none) → Q (.ref (h.objs.size + 1)) ⟨h', g, d, t, os⟩) :
    wpAny (model prog w) A (call (.ref C) rest) Q E ⟨h, g, d, t, os⟩ := by
  have f1 := tc_lookup
  have f2 := PySem.tc_bind (.ref C)
  have hT : (⟨h, g, d, t, os⟩ : Shared).TypeIs (.ref C) "type" := ⟨_, hC, rfl⟩
  refine wpAny_call (codeAny_of_tree ?_)
  show wpAny _ _ (callAny (.ref C) _) _ _ _
  repeat (any_goals (first | assumption | with_reducible refine wpAny_loadPart_at hC ?_ | wp_step))
  refine ⟨rfl, ?_⟩
  refine codeAny_call_builtin_at (Code.quiet_builtin _ (by decide +kernel)) entry_typeCall (wpAny_check_type_call_sub hC (exc_type_call0 T hC hn hni hrest fun h' t2 hk hg => ?_))
  exact hq h' t2 hk hg
end
section
variable {X : Cx} {pins : List (Addr × Obj)} {σ : St} {H : Hp} {s : Shared}
def tRaise0 (C : Addr) (E : St → XK) (t : TA) : TS := fun _ σ H => t σ H fun vs H1 => vs.length ≤ 10 ∧ E σ (.ref C) none H1
structure MkX0 (K : PySem.W.Frag) (C : Addr) : Prop where
  cls : xclsIn K C none = true
  kp : PySem.W.keepIn K (.ref C) = true
theorem ps_raise0 {E : St → XK} {C L : Addr} {x : Str} {np cpos pos : Pos} {e : Expr} {es : List Expr} {t : TA} (hL : X.env.frame = some L) (hcm : X.calm = true)
    (M : MkX0 X.K C) (hg : Gl X x) (hm : X.mg x = some (.ref C))
    (ha : PA (X.wish (Fly X E)) (e :: es) t) (hdb : (x == ("__debug__" : Str)) = false := by decide) (he : starEach (e :: es) X.env = (false, eval e X.env) :: starEach es X.env := by rfl) (hpl : (backTo cpos (starEach es X.env)).any (·.1) = false := by rfl) :
    PS (X.wish (Fly X E)) (.Raise (some (.Call (.Name x np) (e :: es) [] cpos)) none pos) (tRaise0 C E t) := by
  intro pins s σ H D I h
  obtain ⟨bm, N, nm, qn, bs, hd, sn, sub, ab, col, dd, k0, k1, k2, k3, k5, mN, hC, hn, hni, T⟩ := xcls_of I.kIn M.cls
  have hbase : bm.contains (.type "BaseException") = true := T.hasType (by decide)
  rw [arm_exec_Raise]
  refine wpAny_bind (wpAny_standAt (raise_made (C := C) (nm := nm) (q := qn) (N := N) (bs := bs) (bm := bm) (hdct := hd) (sn := sn) (sub := sub) (ab := ab) (col := col) (dd := dd) (k0 := k0) (k1 := k1) (k2 := k2) (k3 := k3) (k5 := k5) (newId := "ValueError.__new__") hbase (I.ok.hd hcm) ?_))
  show wpAny _ _ (do let v ← eval (.Call (.Name x np) (e :: es) [] cpos) X.env; standAt pos; pure v) _ _ _
  refine wpAny_bind (wpAny_mono (wpAny_Call_Name_kw (ld_glob I hg hm ?_ hdb)) (fun v s₃ h₃ => wpAny_bind (wpAny_standAt (wpAny_pure h₃))) fun _ _ z => z)
  refine PySem.W.callWith_K (h₀ := X.base) I.ok.mod.kin M.kp (thn (ha cpos pins s σ H _ I h) fun us s1 ⟨vs, H1, I1, r, hl, q⟩ => ⟨I1.kIn, ?_⟩) he hpl
  obtain ⟨bm2, N2, nm2, qn2, bs2, hd2, sn2, sub2, ab2, col2, dd2, j0, j1, j2, j3, j5, mN2, hC2, hn2, hni2, T2⟩ := xcls_of I1.kIn M.cls
  have hus : us.length ≤ sizeLine := smallL (by have := r.length; omega)
  obtain ⟨hp, g, d, tk, os⟩ := s1
  refine call_exc0 T2 hC2 hn2 hni2 hus fun h' t2 hk ho2 => ?_
  have I2 : Inv (X.wish (Fly X E)) pins σ H1 ⟨h', g, d, tk, os⟩ := I1.kept (t' := tk) hk
  refine ⟨_, t2, none, rfl, (xcls_same I.kIn I2.kIn M.cls).trans hC, ho2, ?_⟩
  exact ⟨_, .ref C, none, σ, H1, L, rfl, hL, I2.unwish.nopins, I1.unwish.fr0 (Nat.le_succ _), ⟨_, _, .none, ho2, rfl, rfl, rfl, rfl, .inl rfl⟩, q⟩
end
end L2
namespace L2
open PySem PySem.Spec PyProof.Rows PySem.W PySem.Calls
section
variable {M : Model} {A : Around} {E : Value → Shared → Prop} {s : Shared}
theorem find_erase {α : Type} {p : α → Bool} : ∀ {l : List α} {i : Nat}, (∀ x, l[i]? = some x → p x = false) → (l.eraseIdx i).find? p = l.find? p
  | [], _, _ => rfl
  | x :: l, 0, h => by
    have hx := h x rfl
    show l.find? p = (x :: l).find? p
    rw [List.find?_cons, hx]
  | x :: l, i + 1, h => by
    have ih := find_erase (l := l) (i := i) fun y hy => h y (by simpa using hy)
    show (x :: l.eraseIdx i).find? p = (x :: l).find? p
    rw [List.find?_cons, List.find?_cons, ih]
theorem nsDelX {a : Addr} {m} {name : Str} {Q : Bool → Shared → Prop} (hn : s.heap.Ns a m)
    (hQ : ∀ h' m', h'.Ns a m' → (∀ y, y ≠ name → m' y = m y) → Heap.SameBut a s.heap h' → Q (m name).isSome { s with heap := h' }) : wpAny M A (nsDel a name) Q E s := by
  obtain ⟨o, es, ep, ho, hd, hk, hm⟩ := id hn
  have hany : es.any (·.refKey) = false := by
    rw [Array.any_eq_false']; intro e he; obtain ⟨n, t, h⟩ := hk e he; simp [DictEntry.refKey, h]
  have hsome : (m name).isSome = es.any (·.key.isStr name) := by
    rw [← hm name]; simp only [nsFind, findBy, Option.isSome_map]
    rw [Bool.eq_iff_iff]; simp only [Array.find?_isSome, Array.any_eq_true]
    constructor
    · rintro ⟨x, hx, hp⟩; obtain ⟨i, hi, rfl⟩ := Array.mem_iff_getElem.mp hx; exact ⟨i, hi, hp⟩
    · rintro ⟨i, hi, hp⟩; exact ⟨_, Array.getElem_mem hi, hp⟩
  have hhas : nsHas name o = pure (es.any (·.key.isStr name)) := by
    rw [nsHas_eq]; unfold nsHasByArray; rw [hd]
    show (if (es.any fun x => x.key.isStr name) = true then _ else _) = _
    generalize (es.any fun x => x.key.isStr name) = b
    cases b <;> simp [hany]
  unfold nsDel
  refine wpAny_bind (wpAny_loadPart ho ?_)
  rw [hhas]
  refine wpAny_bind (wpAny_pure ?_)
  rw [← hsome]
  cases hmn : (m name).isSome
  · have := hQ s.heap m hn (fun _ _ => rfl) (.refl ..)
    rw [hmn] at this
    exact wpAny_pure this
  · refine wpAny_bind (wpAny_updatePart ho (wpAny_pure ?_))
    have key : ∃ m', (s.heap.update a (Obj.dropName name)).Ns a m' ∧ ∀ y, y ≠ name → m' y = m y := by
      obtain ⟨cl, d, dt, sl⟩ := o
      subst hd
      cases hi : es.findIdx? (·.key.isStr name) with
      | some i =>
        refine ⟨_, ⟨_, _, ep + 1, Heap.get?_update_self _ ho (by simp only [Obj.dropName_eq, Obj.dropNameByArray, hi] <;> rfl), (by simp only [Obj.dropName_eq, Obj.dropNameByArray, hi] <;> rfl), hk.erase i, fun _ => rfl⟩, fun y hy => ?_⟩
        rw [← hm y]
        show nsFind (es.eraseIdxIfInBounds i) y = nsFind es y
        obtain ⟨l⟩ := es
        simp only [nsFind, findBy, List.eraseIdxIfInBounds_toArray, List.find?_toArray, List.findIdx?_toArray] at hi ⊢
        rw [L2.find_erase fun x hx => ?_]
        obtain ⟨hil, hp, _⟩ := List.findIdx?_eq_some_iff_getElem.mp hi
        have ex : l[i] = x := by
          rw [List.getElem?_eq_getElem hil] at hx
          exact Option.some.inj hx
        rw [ex] at hp
        cases hk2 : x.key with
        | str z t =>
          rw [hk2] at hp
          have hz : z = name := by simpa [Value.isStr] using hp
          show (z == y) = false
          rw [hz, beq_eq_false_iff_ne]
          exact fun e => hy e.symm
        | _ => rfl
      | none => exact ⟨_, ⟨_, _, ep, Heap.get?_update_self _ ho (by simp only [Obj.dropName_eq, Obj.dropNameByArray, hi] <;> rfl), (by simp only [Obj.dropName_eq, Obj.dropNameByArray, hi] <;> rfl), hk, fun _ => rfl⟩, fun y _ => hm y⟩
    obtain ⟨m', hm', hy⟩ := key
    have := hQ _ m' hm' hy (Heap.SameBut.update ..)
    rw [hmn] at this
    exact this
theorem nameGoesX {env : Env} {n : Str} {pos : Pos} {m : Str → Option Value} {Q : Unit → Shared → Prop} (hl : env.kindOf n = some .local) (hn : s.heap.Ns env.locals m)
    (hp : (env.scope.kind == .class || (env.scope.kind == .module && env.locals != env.globals)) = false)
    (h : ∀ h' m', h'.Ns env.locals m' → (∀ y, y ≠ n → m' y = m y) → Heap.SameBut env.locals s.heap h' → Q () { s with heap := h', toks := s.toks + 1 }) :
    wpAny M A (do bindName env n .none; unbindBehindTheSuite env n pos) Q E s := by
  refine wpAny_bind (wpAny_bindName (wpAny_storeName_local hl hn (fun h₁ hn₁ hs₁ => ?_) hp))
  unfold unbindBehindTheSuite
  refine wpAny_onRaise ?_
  unfold unbindName
  refine wpAny_bind (wpAny_point (wpAny_bind ?_))
  unfold deleteName
  simp only [hl, hp]
  rw [if_neg (by decide)]
  refine wpAny_bind (nsDelX hn₁ fun h₂ m₂ hn₂ hy hs₂ => ?_)
  simp only [if_true, Option.isSome_some, Bool.not_true, Bool.false_eq_true, if_false]
  exact wpAny_pure (wpAny_point (h h₂ m₂ hn₂ (fun y hyn => by rw [hy y hyn, if_neg hyn]) (hs₁.trans hs₂)))
end
section
variable {X : Cx} {pins : List (Addr × Obj)} {σ : St} {H : Hp} {s : Shared}
theorem gone_ok {M : Model} {A : Around} {E : Value → Shared → Prop} {i : Nat} {x : Str} {pos : Pos} {Q : Unit → Shared → Prop} (I : Inv X pins σ H s) (hN : X.N.Nodup) (hi : X.N[i]? = some x) (hk : X.env.scope.names.lookup x = some .local)
    (h : ∀ s', Inv X pins (σ.set i none) H s' → Q () s') : wpAny M A (do bindName X.env x .none; unbindBehindTheSuite X.env x pos) Q E s := by
  obtain ⟨m, hn, hl⟩ := id I.loc
  have hcls : (X.env.scope.kind == .class || (X.env.scope.kind == .module && X.env.locals != X.env.globals)) = false := by rw [I.ok.kind]; rfl
  have hiσ : i < σ.length := by rw [I.len]; exact (List.getElem?_eq_some_iff.mp hi).1
  have cne := I.cne
  refine nameGoesX hk hn hcls fun h' m' hn' hy hs => ?_
  obtain ⟨oL, _, _, hoL, _⟩ := id hn
  refine h _ ⟨I.ok, I.os, I.bare, ⟨fun b o e n hb hx => ?_, fun b o e n hb hx => ?_, I.base.free, fun b o e hx => ?_, I.base.tups, I.base.frzs, I.base.tbls⟩, ⟨_, hn', fun j y v' e1 e2 e3 => ?_⟩, fun y c e => ?_, I.free, I.freeC, fun p hp => ?_, fun b ob e => ?_, by simpa using I.len⟩
  · exact (hs.2 b (Nat.ne_of_lt (Nat.lt_of_lt_of_le (Heap.lt_size e) I.ok.above))).trans (I.base.keep b o e n hb hx)
  · obtain ⟨sl, e1⟩ := I.base.slot b o e n hb hx
    exact ⟨sl, (hs.2 b (Nat.ne_of_lt (Nat.lt_of_lt_of_le (Heap.lt_size e) I.ok.above))).trans e1⟩
  · obtain ⟨o', e1⟩ := I.base.there b o e hx
    exact ⟨o', (hs.2 b (Nat.ne_of_lt (Nat.lt_of_lt_of_le (Heap.lt_size e) I.ok.above))).trans e1⟩
  · by_cases hj : j = i
    · subst hj
      rw [List.getElem?_set_self hiσ] at e2
      cases e2
    · rw [List.getElem?_set_ne (Ne.symm hj)] at e2
      obtain ⟨u', r', q⟩ := hl j y v' e1 e2 e3
      refine ⟨u', r', ?_⟩
      rcases q with ⟨k, e⟩ | ⟨k, c, e, z⟩
      · refine .inl ⟨k, ?_⟩
        have : y ≠ x := fun e => hj (nodup_ix hN e1 (e ▸ hi))
        rw [hy y this, e]
      · exact .inr ⟨k, c, e, z.sameBut hs (cne y c e)⟩
  · obtain ⟨w', z⟩ := I.cell y c e
    exact ⟨w', z.sameBut hs (cne y c e)⟩
  · obtain ⟨e, n, ne, nf, d⟩ := I.pin p hp
    exact ⟨(hs.2 p.1 ne).trans e, n, ne, nf, d⟩
  · refine (I.hok b ob e).stay (fun c w' hc q => (hs.2 c ?_).trans q) (fun _ q => q) fun _ _ q => q
    rintro rfl
    rcases hc with rfl | hc
    · rw [I.free] at e; cases e
    · rw [I.free] at hc; cases hc
abbrev Cx.suite (X : Cx) (e : Addr) : Cx := { X with A := X.A.mark (some (.ref e)), calm := false, xe := fun _ _ => False }
theorem Inv.suite (I : Inv X pins σ H s) (e : Addr) : Inv (X.suite e) pins σ H s :=
  ⟨⟨I.ok.mod, I.ok.kind, I.ok.glob, I.ok.blt, I.ok.above, I.ok.inj, I.ok.has, I.ok.cab, (fun z => nomatch z), I.ok.frames, I.ok.stk, I.ok.exf, I.ok.bs, I.ok.bsz, I.ok.noex, I.ok.exfs, I.ok.funs, I.ok.frf⟩, I.os, I.bare, I.base, I.loc, I.cell, I.free, I.freeC, I.pin, I.hok, I.len⟩
theorem Inv.unsuite {e : Addr} {A : Around} {c : Bool} {xe : Value → Shared → Prop} (hA : A.frames = some X.stack) (hd : c = true → A.handled = none) (I : Inv (X.suite e) pins σ H s) : Inv { X with A := A, calm := c, xe := xe } pins σ H s :=
  ⟨⟨I.ok.mod, I.ok.kind, I.ok.glob, I.ok.blt, I.ok.above, I.ok.inj, I.ok.has, I.ok.cab, hd, hA, I.ok.stk, I.ok.exf, I.ok.bs, I.ok.bsz, I.ok.noex, I.ok.exfs, I.ok.funs, I.ok.frf⟩, I.os, I.bare, I.base, I.loc, I.cell, I.free, I.freeC, I.pin, I.hok, I.len⟩
end
end L2
namespace L2
open PySem PySem.Spec PyProof.Rows PySem.W PySem.Calls
theorem xcls_mro {K : PySem.W.Frag} {h : Heap} {C : Addr} {init : Option Addr} {nm q : Str} {N : Addr} {bs bm : List Value} {hdct : Bool} {sn : List Str} {sub : List Value} {ab : Bool} {col : Option Bool} {dd : Option Addr} {k0 k1 k2 k3 k5 : Option Value} {newId : String}
    (X : K.In h) (hq : xclsIn K C init = true) (hC : h.get? C = some (excClassObj nm q C N bs bm hdct sn sub ab col dd k0 k1 k2 k3 k5 newId)) (v : Value) : mroIn K C v = some ((Value.ref C :: bm).contains v) := by
  unfold xclsIn at hq
  split at hq
  · rename_i ho
    have e := X _ _ ho
    rw [hC] at e
    cases e
    unfold mroIn clsIn
    rw [ho]
    rfl
  · cases hq
section
variable {M : Model} {A : Around} {E : Value → Shared → Prop} {h : Heap} {g : Array GenState} {d : Drawn} {t : Nat} {os : OsState}
theorem match_x {K : PySem.W.Frag} {e C B : Addr} {oe : Obj} {init initB : Option Addr} {b : Bool} {Q : Bool → Shared → Prop} (X : K.In h) (hC : xclsIn K C init = true) (hB : xclsIn K B initB = true) (he : h.get? e = some oe) (hcls : oe.cls = .ref C)
    (hm : mroIn K C (.ref B) = some b) (hq : Q b ⟨h, g, d, t, os⟩) : wpAny M A (excMatches (.ref e) (.ref B)) Q E ⟨h, g, d, t, os⟩ := by
  obtain ⟨bm, N, nm, qn, bs, hd, sn, sub, ab, col, dd, k0, k1, k2, k3, k5, mN, oC, _, _, T⟩ := xcls_of X hC
  obtain ⟨bm2, N2, nm2, qn2, bs2, hd2, sn2, sub2, ab2, col2, dd2, j0, j1, j2, j3, j5, mN2, oB, _, _, T2⟩ := xcls_of X hB
  have hcm : (Value.ref C :: bm).contains (.ref B) = b := by
    have := xcls_mro X hC oC (.ref B)
    rw [hm] at this
    exact (Option.some.inj this).symm
  have hbB : (Value.ref B :: bm2).contains (.type "BaseException") = true := by rw [List.contains_cons, T2.hasType (show bmV.contains (.type "BaseException") = true by decide), Bool.or_true]
  have f := tc_notTuple
  unfold excMatches
  repeat (first | (with_reducible refine wpAny_loadPart_at he ?_; rw [hcls]) | with_reducible refine wpAny_loadPart_at oB ?_ | with_reducible refine wpAny_loadPart_at oC ?_ | (with_reducible refine wpAny_isSubtype_exc oB ?_; rw [hbB]) | (with_reducible refine wpAny_isSubtype_exc oC ?_; rw [hcm]) | wp_step)
  cases b <;> (wp_walk; exact hq)
end
abbrev XE (e C : Addr) (dx : Option Addr) : HO := .ext fun h => ∃ o vs, h.get? e = some o ∧ o.cls = .ref C ∧ o.dict = dx ∧ o.data = .fields vs
abbrev THd := Ends → St → Value → Option Addr → Hp → Prop
def PHs (X : Cx) (hs : List ExceptHandler) (th : THd) : Prop := ∀ (e : Addr) (cls : Value) (dx : Option Addr) (σ : St) (H : Hp) (s : Shared) (D : Ends), Inv X [] σ H s → Fr0 X H e → ExcAt (TbAt (Fr0 X H) e .none) s.heap e cls dx → th D σ cls dx H →
  wpAny (model X.prog X.w) X.A (handleBy (.ref e) X.env hs) (SP X [] D) X.xe s
def tNoHd : THd := fun _ _ _ _ _ => False
theorem ph_nil {X : Cx} : PHs X [] tNoHd := fun _ _ _ _ _ _ _ _ _ _ h => h.elim
def Dg (i : Nat) (D : Ends) : Ends := { nx := fun σ H => D.nx (σ.set i none) H, rt := D.rt, bk := fun σ H => D.bk (σ.set i none) H, ct := fun σ H => D.ct (σ.set i none) H }
def tHd (K : PySem.W.Frag) (B : Addr) (i : Nat) (ts : TS) (tr : THd) : THd := fun D σ cls dx H => ∃ C init b, cls = .ref C ∧ xclsIn K C init = true ∧ mroIn K C (.ref B) = some b ∧
  (if b = true then ∀ e, H e = none → ts (Dg i D) (σ.set i (some (.ref e))) (upd H e (XE e C dx)) else tr D σ cls dx H)
section
variable {X : Cx} {σ : St} {H : Hp} {s : Shared}
theorem Inv.track {e C : Addr} {dx : Option Addr} {o : Obj} {vs : Array Value} (I : Inv X [] σ H s) (he : Fr0 X H e) (ho : s.heap.get? e = some o) (hc : o.cls = .ref C) (hdx : o.dict = dx) (hd : o.data = .fields vs) : Inv X [] σ (upd H e (XE e C dx)) s := by
  obtain ⟨h1, h2, h3⟩ := he
  have hk : ∀ b u, H b = some u → upd H e (XE e C dx) b = some u := fun b u q => by rw [upd_ne (ne_of_none q h2)]; exact q
  have hne : ∀ b, b ≠ e → H b = none → upd H e (XE e C dx) b = none := fun b hb q => by rw [upd_ne hb]; exact q
  have hl : X.env.locals ≠ e := fun q => by
    obtain ⟨m, ⟨o2, es, ep, ho2, hd2, _⟩, _⟩ := I.loc
    rw [q, ho] at ho2
    cases ho2
    rw [hd] at hd2
    cases hd2
  refine ⟨I.ok, I.os, I.bare, ⟨I.base.keep, I.base.slot, fun b u q n hx => hne b (fun z => ?_) (I.base.free b u q n hx), I.base.there, fun b xs q => hk b _ (I.base.tups b xs q), fun b u v q => hk b _ (I.base.frzs b u v q), fun b ps q => ?_⟩, I.loc, I.cell, hne _ hl I.free, fun x c h => hne _ (fun z => ?_) (I.freeC x c h), fun p hp => ?_, fun b u q => ?_, I.len⟩
  · rw [z] at q
    exact absurd (Heap.lt_size q) (Nat.not_lt.mpr h1)
  · obtain ⟨more, z⟩ := I.base.tbls b ps q
    exact ⟨more, hk b _ z⟩
  · obtain ⟨v, o2, ho2, hd2⟩ := I.cell x c h
    rw [z, ho] at ho2
    cases ho2
    rw [hd] at hd2
    cases hd2
  · obtain ⟨p1, p2, p3⟩ := I.pin p hp
    rw [List.append_nil] at hp
    exact ⟨p1, hne _ (h3 p hp) p2, p3⟩
  · by_cases hb : b = e
    · subst hb
      rw [upd_same] at q
      cases q
      refine ⟨⟨o, vs, ho, hc, hdx, hd⟩, ⟨o, ho⟩, ?_⟩
      rintro g1 g2 ⟨o', vs', a1, a2⟩ kk
      exact ⟨o', vs', kk _ a1, a2⟩
    · rw [upd_ne hb] at q
      exact (I.hok b u q).stay (fun _ _ _ z => z) (fun c z => hk c _ z) fun c xs z => hk c _ z
theorem ph_cons {B : Addr} {initB : Option Addr} {x n : Str} {i : Nat} {np hpos : Pos} {b₀ : Stmt} {suite : List Stmt} {rest : List ExceptHandler} {ts : TS} {tr : THd} (hg : Gl X x) (hm : X.mg x = some (.ref B)) (hB : xclsIn X.K B initB = true)
    (hN : X.N.Nodup) (hi : X.N[i]? = some n) (hk : X.env.scope.names.lookup n = some .local) (hsuite : ∀ e, PSs (X.suite e) (b₀ :: suite) ts) (hrest : PHs X rest tr) (hdb : (x == ("__debug__" : Str)) = false := by decide) :
    PHs X (.ExceptHandler (some (.Name x np)) (some n) (b₀ :: suite) hpos :: rest) (tHd X.K B i ts tr) := by
  rintro e cls dx σ H s D I he hx ⟨C, init, b, rfl, hC, hmr, hb⟩
  obtain ⟨oe, vs, hd, ho, hc, hdi, hdt, h1, hT⟩ := id hx
  refine wpAny_handleBy_cons (codeAny_handlers_test (ld_glob (X := X.suite e) (I.suite e) hg hm ?_ hdb)) (by intro q; cases q)
  obtain ⟨hp, g, d, tk, os⟩ := s
  refine match_x I.kIn hC hB ho hc hmr ?_
  cases b with
  | false => exact hrest e (.ref C) dx σ H _ D I he hx hb
  | true =>
    refine codeAny_handlers_suite_as ?_
    refine fly_mark (s := ⟨hp, g, d, tk, os⟩) (fr := none) I he hx fun h2 I2 hx2 => ?_
    obtain ⟨oe2, vs2, hd2, ho2, hc2, hdi2, hdt2, h12, hT2⟩ := id hx2
    have I3 := I2.track he ho2 hc2 hdi2 hdt2
    refine store_ok (v := .ref e) I3 hN hi (.inl hk) rfl (fun s' I4 => ?_) (.inr hk)
    have hb2 := hb e he.2.1
    refine wpAny_mono (hsuite e [] s' (σ.set i (some (.ref e))) _ (Dg i D) (I4.suite e) hb2) (fun f s3 q => ?_) fun _ _ z => z.elim
    cases f with
    | next =>
      obtain ⟨σ', H', I5, q⟩ := q
      exact gone_ok (X := X) (I5.unsuite (X := X) (A := X.A) (c := X.calm) (xe := X.xe) I.ok.frames I.ok.hd) hN hi hk fun s5 I6 => ⟨_, H', I6, q⟩
    | brk =>
      obtain ⟨σ', H', I5, q⟩ := q
      exact gone_ok (X := X) (I5.unsuite (X := X) (A := X.A) (c := X.calm) (xe := X.xe) I.ok.frames I.ok.hd) hN hi hk fun s5 I6 => ⟨_, H', I6, q⟩
    | cont =>
      obtain ⟨σ', H', I5, q⟩ := q
      exact gone_ok (X := X) (I5.unsuite (X := X) (A := X.A) (c := X.calm) (xe := X.xe) I.ok.frames I.ok.hd) hN hi hk fun s5 I6 => ⟨_, H', I6, q⟩
    | ret u =>
      obtain ⟨v, σ', H', I5, r5, q⟩ := q
      exact gone_ok (X := X) (I5.unsuite (X := X) (A := X.A) (c := X.calm) (xe := X.xe) I.ok.frames I.ok.hd) hN hi hk fun s5 I6 => ⟨v, _, H', I6, r5, q⟩
abbrev Cx.pinned (X : Cx) (pn : List (Addr × Obj)) : Cx := { X with pn := pn }
theorem Inv.heldP {pins : List (Addr × Obj)} (I : Inv X pins σ H s) : Inv (X.pinned (X.pn ++ pins)) [] σ H s :=
  ⟨⟨I.ok.mod, I.ok.kind, I.ok.glob, I.ok.blt, I.ok.above, I.ok.inj, I.ok.has, I.ok.cab, I.ok.hd, I.ok.frames, I.ok.stk, I.ok.exf, I.ok.bs, I.ok.bsz, I.ok.noex, I.ok.exfs, I.ok.funs, I.ok.frf⟩, I.os, I.bare, I.base, I.loc, I.cell, I.free, I.freeC, fun p hp => I.pin p (by rwa [List.append_nil] at hp), I.hok, I.len⟩
theorem Inv.unheldP {pins : List (Addr × Obj)} (I : Inv (X.pinned (X.pn ++ pins)) [] σ H s) : Inv X pins σ H s :=
  ⟨⟨I.ok.mod, I.ok.kind, I.ok.glob, I.ok.blt, I.ok.above, I.ok.inj, I.ok.has, I.ok.cab, I.ok.hd, I.ok.frames, I.ok.stk, I.ok.exf, I.ok.bs, I.ok.bsz, I.ok.noex, I.ok.exfs, I.ok.funs, I.ok.frf⟩, I.os, I.bare, I.base, I.loc, I.cell, I.free, I.freeC, fun p hp => I.pin p (by rw [List.append_nil]; exact hp), I.hok, I.len⟩
theorem SP.unheldP {pins : List (Addr × Obj)} {D : Ends} {f : Flow} {s' : Shared} (h : SP (X.pinned (X.pn ++ pins)) [] D f s') : SP X pins D f s' := by
  cases f with
  | next => obtain ⟨σ', H', I, q⟩ := h; exact ⟨σ', H', I.unheldP, q⟩
  | brk => obtain ⟨σ', H', I, q⟩ := h; exact ⟨σ', H', I.unheldP, q⟩
  | cont => obtain ⟨σ', H', I, q⟩ := h; exact ⟨σ', H', I.unheldP, q⟩
  | ret u => obtain ⟨v, σ', H', I, r, q⟩ := h; exact ⟨v, σ', H', I.unheldP, r, q⟩
theorem ps_try {body : List Stmt} {h₀ : ExceptHandler} {hs : List ExceptHandler} {pos : Pos} {tb : Ends → TS} {th : THd} (hst : X.stack = X.env :: X.outer) (hb : ∀ D pn, PSs ((X.pinned pn).wish (Fly (X.pinned pn) (th D))) body (tb D)) (hh : ∀ pn, PHs (X.pinned pn) (h₀ :: hs) th) :
    PS X (.Try body (h₀ :: hs) [] [] pos) (fun D σ H => tb D D σ H) := by
  intro pins s σ H D I h
  have I0 := I.heldP
  refine wpAny_Try_except (wpAny_mono (hb D (X.pn ++ pins) [] s σ H D (I0.wish _) h) (fun f s1 q => ?_) fun ev s1 q => ?_)
  · cases f with
    | next =>
      obtain ⟨σ', H', I', q⟩ := q
      exact wpAny_execs_nil ⟨σ', H', I'.unwish.unheldP, q⟩
    | ret v => exact SP.unheldP (SP.unwish q)
    | brk => exact SP.unheldP (SP.unwish q)
    | cont => exact SP.unheldP (SP.unwish q)
  · refine fly_note (X := X.pinned (X.pn ++ pins)) I0.ok.frames hst q fun h' e cls dx σ1 H1 L hev hL I1 he hx hE => ?_
    subst hev
    exact fly_mark (s := { s1 with heap := h' }) (fr := none) I1 he hx fun h2 I2 hx2 => thn (hh (X.pn ++ pins) e cls dx σ1 H1 _ D I2 he hx2 hE) fun f s3 q => SP.unheldP q
end
end L2
namespace L2
open PySem PySem.Spec PyProof.Rows PySem.W PySem.Calls Builtin Builtin.ObjectAttr
structure XG (K : PySem.W.Frag) (C : Addr) : Prop where
  ga : findIn K (.ref C) "__getattribute__" = some (some (.builtin "BaseException.__getattribute__"))
  gt : findIn K (.ref C) "__getattr__" = some none
  be : mroIn K C (.type "BaseException") = some true
  ob : mroIn K C (.type "object") = some true
  cc : findIn K (.ref C) "__class__" = some (some (.builtin "object.__class__"))
  hd : ∃ cd, clsIn K C = some cd ∧ cd.hasDict = true
section
variable {prog : Program} {w : World} {A : Around} {E : Value → Shared → Prop} {s : Shared} {K : PySem.W.Frag} {x C : Addr} {ox : Obj} {od : Option Obj} {name : Str}
theorem slot_bga : Slot "ValueError" "__getattribute__" "BaseException.__getattribute__" := PySem.F.excAttr_ValueError.ga
theorem getx_open {expr fill : Bool} {tk : Tok} {Q : Value → Shared → Prop} (X : K.In s.heap) (I : PySem.W.InstAt s.heap x ox C od) (G : XG K C)
    (h : wpAny (model prog w) A.in1 (Builtin.«object.__getattribute__» ⟨[.ref x, .str name tk], []⟩) (fun fin s' => match fin with | .done (.ret v) => wpAny (model prog w) A (handedOut v) Q E s' | _ => False) (fun _ _ => False) s) :
    wpAny (model prog w) A (getAttrBy (.ref x) (.str name tk) fill expr) Q E s := by
  have hf : (Value.builtin "BaseException.__getattribute__" == Value.builtin "object.__getattribute__") = false := by decide +kernel
  unfold getAttrBy
  refine wpAny_holding (wpAny_bind (I.type.here (wpAny_bind ((looks_findIn X G.ga).here ?_))))
  dsimp only
  rw [hf, Bool.and_false, if_neg (by decide)]
  unfold getAttrByItsOwn
  have hk : Looks (model prog w) s.heap (hookBefore (.ref C)) none := looks_hook X (by rw [if_pos (show onTheHeap (Value.ref C) = true from rfl)]; exact G.gt)
  refine wpAny_bind (hk.here (wpAny_bind (wpAny_attempt (wpAny_holding ?_))))
  unfold callGetattribute
  rw [show (expr && onTheHeap (Value.builtin "BaseException.__getattribute__")) = false from Bool.and_false _, if_neg (by decide)]
  unfold boundAndCalled
  rw [slot_bga.bind]
  refine wpAny_bind (wpAny_pure ?_)
  show wpAny _ _ (call (.builtin "BaseException.__getattribute__") [.ref x, .str name tk]) _ _ _
  refine wpAny_call (codeAny_call_builtin slot_bga.plain PySem.F.entry_bexc_ga ?_)
  refine @check_slot (model prog w) _ _ s "BaseException.__getattribute__" "BaseException" "__getattribute__" (.ref x) [.str name tk] [] _ (by decide +kernel) (by decide +kernel) (I.type.andThen (looks_mroIn X G.be)) (PySem.F.args_bexc_ga _ _) ?_
  refine wpAny_mono h (fun fin s' z => ?_) fun _ _ z => z.elim
  rcases fin with (_ | _ | _ | _) | _ <;> first | exact z | exact z.elim
theorem getx_class {Q : Option Value → Shared → Prop} (X : K.In s.heap) (I : PySem.W.InstAt s.heap x ox C od) (G : XG K C) (hn : specialIn K (.builtin "object.__class__") "__get__" = some (some (.builtin "getset_descriptor.__get__"))) (htk : takesIn K (.builtin "object.__class__") = some true)
    (h : Q (some (.ref C)) { s with toks := s.toks + 1 }) : wpAny (model prog w) A (getAttr? (.ref x) "__class__") Q E s := by
  have hf : findObj K C od "__class__" = some (.bind (.builtin "getset_descriptor.__get__") (.builtin "object.__class__")) := by
    obtain ⟨cd, hc, _⟩ := G.hd
    unfold findObj
    rw [hc, Option.bind_some, G.cc, Option.bind_some]
    simp [hn, htk]
  unfold getAttr? getAttrBy?
  refine wpAny_bind (wpAny_mkText (wpAny_bind (wpAny_attempt (getx_open (s := { s with toks := s.toks + 1 }) X I G ?_))))
  unfold Builtin.«object.__getattribute__»
  refine wpAny_bind (wpAny_pure (wpAny_bind (wpAny_pure (wpAny_bind (PySem.W.Looks.here (s := { s with toks := s.toks + 1 }) I.type (wpAny_bind (PySem.W.Looks.here (s := { s with toks := s.toks + 1 }) (looks_find X I hf) ?_)))))))
  show wpAny _ _ (bindTo (.builtin "getset_descriptor.__get__") (.builtin "object.__class__") (.ref x) (.ref C)) _ _ _
  unfold bindTo
  refine wpAny_bind (wpAny_holding (wpAny_call (class_get (s := { s with toks := s.toks + 1 }) (ox := ox) (od := od) X I G.ob ?_)))
  refine wpAny_pure ?_
  show wpAny _ _ (handedOut (.ref C)) _ _ _
  exact handed_on rfl (wpAny_pure h)
theorem kitx_exc (G : XG K C) (hn : specialIn K (.builtin "object.__class__") "__get__" = some (some (.builtin "getset_descriptor.__get__"))) (htk : takesIn K (.builtin "object.__class__") = some true) :
    KitX K (.ref x) (.ref C) (fun h => ∃ ox od, PySem.W.InstAt h x ox C od) where
  ty := fun _ _ _ ⟨_, _, I⟩ => I.type
  it := fun _ _ X _ => by
    obtain ⟨cd, hc, _⟩ := G.hd
    unfold clsIn at hc
    split at hc
    · rename_i ho
      intro A' Q' E' s' k q
      unfold isType loadHead
      exact wpAny_bind (wpAny_loadPart (k _ _ (X _ _ ho)) (wpAny_pure q))
    · cases hc
  ne := fun h tp dd its n sl X htp => by
    obtain ⟨cd, hc, _⟩ := G.hd
    refine Bool.eq_false_iff.mpr fun q => ?_
    have e : C = tp := Value.ref.inj (beq_iff_eq.mp q)
    subst e
    unfold clsIn at hc
    split at hc
    · rename_i ho
      have z := (X _ _ ho).symm.trans htp
      cases z
    · cases hc
  ca := fun X ⟨_, _, I⟩ k => getx_class X I G hn htk k
end
theorem cls_get {K : PySem.W.Frag} : specialIn K (.builtin "object.__class__") "__get__" = some (some (.builtin "getset_descriptor.__get__")) := by rfl
theorem cls_takes {K : PySem.W.Frag} : takesIn K (.builtin "object.__class__") = some true := by rfl
end L2
namespace L2
open PySem PySem.Spec PyProof.Rows PySem.W PySem.Calls
section
variable {X : Cx} {pins : List (Addr × Obj)} {σ : St} {H : Hp} {s : Shared}
theorem xe_inst {e C : Addr} {dx : Option Addr} (I : Inv X pins σ H s) (he : H e = some (XE e C dx)) (hd : ∀ a, dx = some a → ∃ o, s.heap.get? a = some o) : ∃ ox od, PySem.W.InstAt s.heap e ox C od := by
  obtain ⟨⟨o, vs, ho, hc, hdx, hdt⟩, _⟩ := I.hok e _ he
  have hno : notCls o = true := by unfold notCls; rw [hdt]
  cases hq : dx with
  | none => exact ⟨o, none, ho, hc, hno, by rw [hdx, hq]; exact True.intro⟩
  | some a =>
    obtain ⟨oa, ha⟩ := hd a hq
    exact ⟨o, some oa, ho, hc, hno, by rw [hdx, hq]; exact ha⟩
def clsV : V → Option Value
  | .ref B => some (.ref B)
  | .ty n => some (.type n)
  | _ => none
theorem clsV_rel {c : V} {u v : Value} (h : clsV c = some v) (r : RelV c u) : u = v := by
  cases c <;> cases h <;> exact r
def rIsX (K : PySem.W.Frag) : List V → Hp → VK → Prop := fun xs H Q => ∃ e C dx c v b, xs = [.ref e, c] ∧ H e = some (XE e C dx) ∧ (∀ a, dx = some a → ∃ fs, H a = some (.xd fs)) ∧ XG K C ∧ clsV c = some v ∧ kitOne K (.ref C) v = some b ∧ Q (.bl b) H
theorem call_isX : CallR X (.builtin "isinstance") (rIsX X.K) := by
  intro pins s σ H xs us Q I r h
  obtain ⟨e, C, dx, c, v, b, rfl, he, hd, G, hc, hk, q⟩ := h
  obtain ⟨u, w', rfl, rx, rt⟩ := vals2 r
  obtain rfl : u = Value.ref e := rx
  obtain rfl := clsV_rel hc rt
  exact kia_one (kitx_exc G cls_get cls_takes) I.kIn (xe_inst I he fun a ha => let ⟨fs, z⟩ := hd a ha; let ⟨_, ⟨o, _, _, z2, _⟩, _⟩ := (show ObjOk X.prog X.w H s.heap a (.xd fs) from I.hok a _ z); ⟨o, z2⟩) hk (fun z => nomatch z) fun tk => ⟨.bl b, H, I.tok _, rfl, q⟩
variable {K : PySem.W.Frag} (hK : X.K = K)
include hK
theorem kcall_isX : CallR X (.builtin "isinstance") (rIsX K) := by subst hK; exact call_isX
end
end L2
namespace L2
open PySem PySem.Spec PyProof.Rows
structure RoomH (k : Nat) (A : Around) : Prop where
  dp : A.depth + 3 * k + 5 < recursionLimit
  un : A.units + 16 * k + 200 < cLine
theorem Room.h {k : Nat} {A : Around} (r : Room k A) (e : Option Value) : RoomH k (A.mark e) := ⟨r.dp, r.un⟩
theorem RoomH.deeper {k : Nat} {A : Around} (r : RoomH (k + 1) A) (env : Env) : RoomH k (A.deeper env) :=
  ⟨by have := r.dp; show A.depth + 1 + 3 * k + 5 < _; omega, by have := r.un; show A.units + 3 + 16 * k + 200 < _; omega⟩
structure FnOkH (P : Program) (w : World) (K : PySem.W.Frag) (mg : Str → Option Value) (base : Heap) (k : Nat) (f : Addr) (fd : FuncData) (ps : List Str) (sp : Sp) : Prop where
  len : ∀ vs H Q E, sp vs H Q E → vs.length = ps.length
  run : ∀ (A : Around) (outer : List Env) (s : Shared) (H : Hp) (args : Args) (us : List Value) (vs : List V) (Q : VK), RoomH k A → Env0 P w K mg base A outer s H → BindsTo s fd args (ps.zip us) → Vals vs us → sp vs H Q E0 →
    codeAny (model P w) A (.call (.ref f) args) (CR CX0 outer P w H s Q E0) s
abbrev cxH (P : Program) (w : World) (K : PySem.W.Frag) (mg : Str → Option Value) (base : Heap) (N : List Str) (qual : Str) (scope : Scope) (f : Addr) (cd : Value) (A : Around) (outer : List Env) (s : Shared) (H : Hp) : Cx :=
  { cxOf CX0 P w K mg base N qual scope f cd A outer s H E0 with calm := false, xe := fun _ _ => False }
section
variable {P : Program} {w : World} {K : PySem.W.Frag} {mg : Str → Option Value} {base : Heap}
theorem inv_startH {N ps : List Str} {qual : Str} {scope : Scope} {f : Addr} {cd : Value} {A : Around} {outer : List Env} {s s1 : Shared} {H : Hp} {us : List Value} {vs : List V}
    (S : FnScope N ps scope) (e0 : Env0 P w K mg base A outer s H) (hl : vs.length = ps.length) (r : Vals vs us)
    (x : InCallC s s.heap.objs.size (bindL (envOfC qual scope s.heap.objs.size f cd).kindOf (ps.zip us) fun _ => none) (cellsFrom (s.heap.objs.size + 1) scope.names []) (bindC (envOfC qual scope s.heap.objs.size f cd).kindOf (ps.zip us) fun _ => none) s1) :
    Inv (cxH P w K mg base N qual scope f cd A outer s H) [] (start N vs) H s1 := by
  have e1 : Env0 P w K mg base { A with handled := none } outer s H := ⟨e0.frames, e0.mod, e0.bs, e0.bsz, e0.funs, e0.frf, e0.hok, e0.bare⟩
  have I := inv_start (CX := CX0) (E := E0) (A := { A with handled := none }) (qual := qual) (f := f) (cd := cd) S rfl e1 hl r x
  exact ⟨⟨I.ok.mod, I.ok.kind, I.ok.glob, I.ok.blt, I.ok.above, I.ok.inj, I.ok.has, I.ok.cab, (fun z => nomatch z), Around.frames_deeper e0.frames, I.ok.stk, I.ok.exf, I.ok.bs, I.ok.bsz, I.ok.noex, I.ok.exfs, I.ok.funs, I.ok.frf⟩, I.os, I.bare, I.base, I.loc, I.cell, I.free, I.freeC, I.pin, I.hok, I.len⟩
theorem Fun.okH {x qual : Str} {st : Stmt} {f : Addr} {fd : FuncData} {N ps : List Str} {k : Nat} {sp : Sp} (F : Fun K x qual st f fd) (S : FnScope N ps (defScope st)) (len : ∀ vs H Q E, sp vs H Q E → vs.length = ps.length)
    (hbody : ∀ (cdv : Value) (A : Around) (outer : List Env) (s : Shared) (H : Hp) (vs : List V) (Q : VK), RoomH k (A.deeper (envOfC qual (defScope st) s.heap.objs.size f cdv)) → sp vs H Q E0 →
      ∃ t, PSs (cxH P w K mg base N qual (defScope st) f cdv A outer s H) (defBody st) t ∧ t { nx := fun _ H' => Q .non H', rt := Q } (start N vs) H) : FnOkH P w K mg base (k + 1) f fd ps sp := by
  obtain ⟨oc, od, kV, doc, pm, an, cdv, ct, osl, rfl, lk, hcd⟩ := F.ex
  refine ⟨len, fun A outer s H args us vs Q hr e0 hb r hsp => ?_⟩
  have KX : K.In s.heap := e0.mod.kin.keeps fun b o e => (e0.bs b o e).1
  have lim : s.heap.NoLimit := e0.mod.nolimit.keeps fun b o e => (e0.bs b o e).1
  have hkind : ∀ y ∈ ps.zip us, (defScope st).names.lookup y.1 = some .local ∨ ((defScope st).names.lookup y.1 = some .cell ∧ ((cellsFrom (s.heap.objs.size + 1) (defScope st).names []).lookup y.1).isSome = true) := fun ⟨n, v⟩ hy =>
    (S.par n (List.of_mem_zip hy).1).elim .inl fun q => .inr ⟨q, PySem.W.cellsFrom_some _ _ _ (.inl q)⟩
  have hdep : A.depth < recursionLimit := by have := hr.dp; omega
  refine codeAny_call_function hdep (KX _ _ lk) rfl S.co S.gen rfl (PySem.W.codeRec_of KX hcd) (hb _ _ _ _ ?_)
  refine wpAny_newFunctionEnv_cells S.kind hkind fun env he s1 x => ?_
  subst he
  refine ⟨lim.keeps x.toInCall.keep, codeAny_func ?_⟩
  obtain ⟨t, ht, hq⟩ := hbody cdv A outer s H vs Q (hr.deeper _) hsp
  have I := inv_startH (qual := qual) (f := f) (cd := cdv) S e0 (len _ _ _ _ hsp) r x
  refine wpAny_mono (ht [] s1 (start N vs) H _ I hq) (fun fl s' hs => ?_) fun e s' hs => False.elim hs
  cases fl with
  | ret u =>
    obtain ⟨v, σ', H', J, rv, q⟩ := hs
    exact ⟨v, H', J.os, J.bare, J.base, J.hok, rv, q⟩
  | next =>
    obtain ⟨σ', H', J, q⟩ := hs
    exact ⟨V.non, H', J.os, J.bare, J.base, J.hok, rfl, q⟩
  | brk => exact let ⟨_, _, _, q⟩ := hs; False.elim q
  | cont => exact let ⟨_, _, _, q⟩ := hs; False.elim q
end
section
variable {X : Cx} {k : Nat} {f : Addr} {fd : FuncData} {ps : List Str} {sp : Sp} {x : Str} {p pos : Pos} {e : Expr} {es : List Expr} {t : TA}
theorem pe_callH (F : FnOkH X.prog X.w X.K X.mg X.base k f fd ps sp) (hr : RoomH k X.A) (hg : Gl X x) (hm : X.mg x = some (.ref f)) (hk : PySem.W.keepIn X.K (.ref f) = true) (hb : Binds X.K fd ps [])
    (ha : PA X (e :: es) t) (hdb : (x == ("__debug__" : Str)) = false := by decide) (he : starEach (e :: es) X.env = (false, eval e X.env) :: starEach es X.env := by rfl) (hpl : (backTo pos (starEach es X.env)).any (·.1) = false := by rfl) :
    PE X (.Call (.Name x p) (e :: es) [] pos) (tCall sp [] E0 t) := by
  intro pins s σ H Q I h
  refine wpAny_Call_Name_kw (ld_glob I hg hm ?_ hdb)
  refine PySem.W.callWith_K (h₀ := X.base) I.ok.mod.kin hk (thn (ha pos pins s σ H _ I h) fun us s1 ⟨vs, H1, I1, r, q⟩ => ⟨I1.kIn, ?_⟩) he hpl
  have q : sp (vs ++ []) H1 Q E0 := q
  rw [List.append_nil] at q
  have hl : (us ++ []).length = ps.length := by rw [List.append_nil, ← r.length]; exact F.len _ _ _ _ q
  have hb0 := hb s1 us I1.kIn hl
  rw [List.append_nil] at hb0
  refine wpAny_call (codeAny_mono (F.run X.A X.stack s1 H1 ⟨us, []⟩ us vs Q hr I1.env0 hb0 r q) fun r s' hq => ?_)
  cases r with
  | error ev => exact False.elim hq
  | ok fl =>
    cases fl with
    | ret u => exact I1.after hq
    | next => exact False.elim hq
    | brk => exact False.elim hq
    | cont => exact False.elim hq
end
end L2
namespace L2
open PySem PySem.Spec PyProof.Rows PySem.W PySem.Calls
structure NsF (K : PySem.W.Frag) (N : Addr) (init : Option Addr) : Prop where
  lk : ∃ oc od es n sl, K.lookup N = some ⟨oc, od, .dict es n, sl⟩ ∧ (es.all fun e => match e.key with | .str _ _ => true | _ => false) = true
  ni : nsIn K N "__init__" = some (init.map Value.ref)
theorem NsF.ok {K : PySem.W.Frag} {N : Addr} {init : Option Addr} (h : NsF K N init) : nsOkIn K N = true := by
  obtain ⟨oc, od, es, n, sl, e, q⟩ := h.lk
  unfold nsOkIn
  rw [e]
  exact q
theorem tail_mk {K : PySem.W.Frag} {R : Addr} {oc : Value} {od : Option Addr} {cd : ClassData} {sl : Array (Option Value)} (lk : K.lookup R = some ⟨oc, od, .cls cd, sl⟩) (n : NsF K cd.ns none) : tailIn K bmV (.ref R :: bmV) = true := by
  have hb : tailIn K bmV bmV = true := by
    unfold tailIn
    rw [Bool.or_eq_true]
    exact .inl (beq_self_eq_true _)
  unfold tailIn
  rw [Bool.or_eq_true]
  refine .inr ?_
  dsimp only
  rw [lk]
  dsimp only
  rw [n.ok, hb, n.ni]
  rfl
theorem xcls_mk {K : PySem.W.Frag} {C : Addr} {init od : Option Addr} {cd : ClassData} {sl : Array (Option Value)} {bm : List Value} {k0 k1 k2 k3 k5 : Option Value} (lk : K.lookup C = some ⟨.type "type", od, .cls cd, sl⟩) (cm : cd.mro = .ref C :: bm)
    (hs : sl.toList = [k0, k1, k2, k3, some (.builtin "ValueError.__new__"), k5]) (hdel : cd.hasDel = false) (ht : tailIn K bmV bm = true) (n : NsF K cd.ns init) : xclsIn K C init = true := by
  unfold xclsIn
  rw [lk]
  show (match cd.mro, sl.toList with
    | .ref C' :: bm, [_, _, _, _, some (.builtin n), _] => C' == C && n == "ValueError.__new__" && !cd.hasDel && tailIn K bmV bm && nsOkIn K cd.ns && nsIn K cd.ns "__init__" == some (init.map Value.ref)
    | _, _ => false) = true
  rw [cm, hs]
  show (C == C && "ValueError.__new__" == "ValueError.__new__" && !cd.hasDel && tailIn K bmV bm && nsOkIn K cd.ns && nsIn K cd.ns "__init__" == some (init.map Value.ref)) = true
  rw [hdel, ht, n.ok, n.ni]
  simp
structure CL (K : PySem.W.Frag) (mg : Str → Option Value) (x : Str) (C : Addr) : Prop where
  mg : mg x = some (.ref C)
  is : isClsIn K C = true
  ty : typeIn K (.ref C) = some (.type "type")
theorem CL.kit {K : PySem.W.Frag} {mg : Str → Option Value} {x : Str} {C B : Addr} {b : Bool} (d : CL K mg x B) (h : mroIn K C (.ref B) = some b) (hs : C = B → b = true) : kitOne K (.ref C) (.ref B) = some b := by
  have hc : (clsIn K B).isSome = true := d.is
  unfold kitOne
  by_cases e : C = B
  · subst e
    rw [if_pos (by simp), hs rfl]
  · rw [if_neg (fun z => e (Value.ref.inj (beq_iff_eq.mp z)))]
    unfold kitCls
    show (if ((clsIn K B).isSome && typeIn K (.ref B) == some (.type "type")) = true then subIn K (.ref C) (.ref B) else none) = some b
    rw [hc, d.ty, if_pos (by simp)]
    exact h
def xAsk (K : PySem.W.Frag) (C : Addr) : Bool :=
  findIn K (.ref C) "__getattribute__" == some (some (.builtin "BaseException.__getattribute__")) && findIn K (.ref C) "__getattr__" == some none && mroIn K C (.type "BaseException") == some true && mroIn K C (.type "object") == some true &&
  findIn K (.ref C) "__class__" == some (some (.builtin "object.__class__")) && (clsIn K C).any (·.hasDict) && PySem.W.keepIn K (.ref C) && typeIn K (.ref C) == some (.type "type") && mroIn K C (.type "ValueError") == some true
structure XQ (K : PySem.W.Frag) (C : Addr) : Prop where
  g : XG K C
  kp : PySem.W.keepIn K (.ref C) = true
  ty : typeIn K (.ref C) = some (.type "type")
  ve : mroIn K C (.type "ValueError") = some true
theorem xq_of {K : PySem.W.Frag} {C : Addr} (h : xAsk K C = true) : XQ K C := by
  simp only [xAsk, Bool.and_eq_true, beq_iff_eq] at h
  obtain ⟨⟨⟨⟨⟨⟨⟨⟨h1, h2⟩, h3⟩, h4⟩, h5⟩, h6⟩, h7⟩, h8⟩, h9⟩ := h
  obtain ⟨cd, hc, hd⟩ := any_some h6
  exact ⟨⟨h1, h2, h3, h4, h5, cd, hc, hd⟩, h7, h8, h9⟩
theorem xq_mk {K : PySem.W.Frag} {C : Addr} (h1 : findIn K (.ref C) "__getattribute__" = some (some (.builtin "BaseException.__getattribute__"))) (h2 : findIn K (.ref C) "__getattr__" = some none) (h3 : mroIn K C (.type "BaseException") = some true) (h4 : mroIn K C (.type "object") = some true)
    (h5 : findIn K (.ref C) "__class__" = some (some (.builtin "object.__class__"))) (h6 : hasDictIn K C = true) (h7 : PySem.W.keepIn K (.ref C) = true) (h8 : typeIn K (.ref C) = some (.type "type")) (h9 : mroIn K C (.type "ValueError") = some true) : xAsk K C = true := by
  unfold xAsk
  have h6 : (clsIn K C).any (·.hasDict) = true := h6
  rw [h1, h2, h3, h4, h5, h6, h7, h8, h9]
  simp
theorem kit_own {K : PySem.W.Frag} {C B : Addr} {initB : Option Addr} {b : Bool} (hB : xclsIn K B initB = true) (q : XQ K B) (h : mroIn K C (.ref B) = some b) (hs : C = B → b = true) : kitOne K (.ref C) (.ref B) = some b := by
  unfold kitOne
  by_cases e : C = B
  · subst e
    rw [if_pos (by simp), hs rfl]
  · rw [if_neg (fun z => e (Value.ref.inj (beq_iff_eq.mp z)))]
    unfold kitCls
    have hc : (clsIn K B).isSome = true := by
      unfold xclsIn at hB
      split at hB
      · rename_i ho
        unfold clsIn
        rw [ho]
        rfl
      · cases hB
    show (if ((clsIn K B).isSome && typeIn K (.ref B) == some (.type "type")) = true then subIn K (.ref C) (.ref B) else none) = some b
    rw [hc, q.ty, if_pos (by simp)]
    exact h
theorem kit_value {K : PySem.W.Frag} {C : Addr} (q : XQ K C) : kitOne K (.ref C) (.type "ValueError") = some true := by
  unfold kitOne
  rw [if_neg (fun z => by cases beq_iff_eq.mp z)]
  exact q.ve
structure CI (K : PySem.W.Frag) (mg : Str → Option Value) (x qual : Str) (st : Stmt) (ps : List Str) (C f : Addr) (fd : FuncData) (fld : Str) : Prop where
  mg : mg x = some (.ref C)
  cls : xclsIn K C (some f) = true
  q : XQ K C
  xf : XF K C fld
  fn : PySem.W.isFn K (.ref f) = true
  fi : Fun K "__init__" qual st f fd
  ba : ∀ us : List Value, us.length = ps.length → bindArgs fd ⟨us, []⟩ = pure (ps.zip us)
structure CN (K : PySem.W.Frag) (mg : Str → Option Value) (x : Str) (C : Addr) : Prop where
  mg : mg x = some (.ref C)
  cls : xclsIn K C none = true
  q : XQ K C
section
variable {X : Cx} {k j : Nat} {f C : Addr} {fd : FuncData} {ps : List Str} {sp : Sp} {x qual fld : Str} {st : Stmt} {p np cpos pos : Pos} {e : Expr} {es : List Expr} {t : TA} {E : St → XK} {L : Addr}
theorem praise0 (d : CN X.K X.mg x C) (hg : Gl X x) (hL : X.env.frame = some L) (hcm : X.calm = true) (ha : PA (X.wish (Fly X E)) (e :: es) t) (hdb : (x == ("__debug__" : Str)) = false := by decide)
    (he : starEach (e :: es) X.env = (false, eval e X.env) :: starEach es X.env := by rfl) (hpl : (backTo cpos (starEach es X.env)).any (·.1) = false := by rfl) :
    PS (X.wish (Fly X E)) (.Raise (some (.Call (.Name x np) (e :: es) [] cpos)) none pos) (tRaise0 C E t) := ps_raise0 hL hcm ⟨d.cls, d.q.kp⟩ hg d.mg ha hdb he hpl
theorem pcallX (d : D X.K X.mg x st ps f fd) (F : FnOk X.prog X.w X.K X.mg X.base (CX1 X.prog X.w) j f fd ps sp) (hr : Room k X.A) (hg : Gl X x) (hL : X.env.frame = some L) (ha : PA (X.wish (Fly X E)) (e :: es) t) (hjk : j ≤ k := by decide) (hdb : (x == ("__debug__" : Str)) = false := by decide)
    (he : starEach (e :: es) X.env = (false, eval e X.env) :: starEach es X.env := by rfl) (hpl : (backTo pos (starEach es X.env)).any (·.1) = false := by rfl) :
    PE (X.wish (Fly X E)) (.Call (.Name x p) (e :: es) [] pos) (tCallS sp E t) := pe_callX hL (F.mono hjk) hr hg d.mg d.fn.kp (.all d.ba) ha hdb he hpl
theorem RoomH.mono {A : Around} (r : RoomH k A) (h : j ≤ k) : RoomH j A := ⟨by have := r.dp; omega, by have := r.un; omega⟩
theorem pcallH (d : D X.K X.mg x st ps f fd) (F : FnOkH X.prog X.w X.K X.mg X.base j f fd ps sp) (hr : RoomH k X.A) (hg : Gl X x) (ha : PA X (e :: es) t) (hjk : j ≤ k := by decide) (hdb : (x == ("__debug__" : Str)) = false := by decide)
    (he : starEach (e :: es) X.env = (false, eval e X.env) :: starEach es X.env := by rfl) (hpl : (backTo pos (starEach es X.env)).any (·.1) = false := by rfl) :
    PE X (.Call (.Name x p) (e :: es) [] pos) (tCall sp [] E0 t) := pe_callH F (hr.mono hjk) hg d.mg d.fn.kp (.all d.ba) ha hdb he hpl
end
theorem kph_cons {X : Cx} (K : PySem.W.Frag) (hK : X.K = K) {B : Addr} {initB : Option Addr} {x n : Str} {i : Nat} {np hpos : Pos} {b₀ : Stmt} {suite : List Stmt} {rest : List ExceptHandler} {ts : TS} {tr : THd} (hg : Gl X x) (hm : X.mg x = some (.ref B)) (hB : xclsIn K B initB = true)
    (hN : X.N.Nodup) (hi : X.N[i]? = some n) (hk : X.env.scope.names.lookup n = some .local) (hsuite : ∀ e, PSs (X.suite e) (b₀ :: suite) ts) (hrest : PHs X rest tr) (hdb : (x == ("__debug__" : Str)) = false := by decide) :
    PHs X (.ExceptHandler (some (.Name x np)) (some n) (b₀ :: suite) hpos :: rest) (tHd K B i ts tr) := by subst hK; exact ph_cons hg hm hB hN hi hk hsuite hrest hdb
end L2
namespace L2
open PySem PySem.Spec PyProof.Rows
section
variable {X : Cx}
end
end L2
namespace Cs
open PySem L2
theorem sign_in : ∀ c, c < 128 → (!(Builtin.Str.occurrences (Str.ofString "abcdefghijklmnopqrstuvwxyz.,-'") (sg c) 0 (Str.ofString "abcdefghijklmnopqrstuvwxyz.,-'").length 1).isEmpty) = decide (c ∈ signs) := by decide +kernel
def SgOk (n : Nat) (x : Str) : Prop := x.length ≤ n ∧ ∀ c ∈ x.cps.toList, c < 128
end Cs
namespace Cs
open PySem L2
theorem SgOk.mono {n m : Nat} {x : Str} (h : SgOk n x) (hm : n ≤ m) : SgOk m x := ⟨Nat.le_trans h.1 hm, h.2⟩
def isSign (x : Str) : Bool := match x.cps.toList with
  | [c] => decide (c ∈ signs)
  | _ => false
def isChan (r : Row) : Bool := isSign r.s && decide (1 ≤ r.w ∧ r.w ≤ 99) && decide (0 ≤ r.t ∧ r.t ≤ 127) && decide (0 ≤ r.n ∧ r.n ≤ 40)
def stand (ah : List Row) (r : Row) : Bool := isChan r && (place ah r.s).isNone && !decide (r.t ∈ ah.map fun x => x.t)
def AllStand (rs : List Row) (k : Nat) : Prop := ∀ i r, i < k → rs[i]? = some r → stand (rs.take i) r = true
inductive Looks (rs : List Row) : Option Nat → Prop
  | none0 : rs = [] → Looks rs (some 0)
  | bad {k : Nat} {r : Row} : AllStand rs k → rs[k]? = some r → stand (rs.take k) r = false → Looks rs (some k)
  | good : rs ≠ [] → AllStand rs rs.length → Looks rs none
theorem Looks.uniq {rs : List Row} {a b : Option Nat} (ha : Looks rs a) (hb : Looks rs b) : a = b := by
  have lt : ∀ {k : Nat} {r : Row}, rs[k]? = some r → k < rs.length := fun h => (List.getElem?_eq_some_iff.mp h).1
  cases ha with
  | none0 e =>
    cases hb with
    | none0 _ => rfl
    | bad _ h _ => rw [e] at h; simp at h
    | good n _ => exact absurd e n
  | bad a1 h1 s1 =>
    cases hb with
    | none0 e => rw [e] at h1; simp at h1
    | bad a2 h2 s2 =>
      rename_i k r k' r'
      rcases Nat.lt_trichotomy k k' with z | z | z
      · have := a2 k r z h1
        rw [s1] at this
        cases this
      · rw [z]
      · have := a1 k' r' z h2
        rw [s2] at this
        cases this
    | good _ a2 =>
      have := a2 _ _ (lt h1) h1
      rw [s1] at this
      cases this
  | good n a1 =>
    cases hb with
    | none0 e => exact absurd e n
    | bad a2 h2 s2 =>
      have := a1 _ _ (lt h2) h2
      rw [s2] at this
      cases this
    | good _ _ => rfl
theorem fits_in {α : Type} [DecidableEq α] : ∀ {xs ys : List α}, xs.Nodup → (∀ x ∈ xs, x ∈ ys) → xs.length ≤ ys.length
  | [], _, _, _ => Nat.zero_le _
  | x :: xs, ys, h, hs => by
    obtain ⟨h1, h2⟩ := List.nodup_cons.mp h
    have hx := hs x List.mem_cons_self
    have ih := fits_in (xs := xs) (ys := ys.erase x) h2 fun y hy => by
      have hne : y ≠ x := fun e => h1 (by rw [← e]; exact hy)
      exact (List.mem_erase_of_ne hne).mpr (hs y (List.mem_cons_of_mem _ hy))
    rw [List.length_erase_of_mem hx] at ih
    have := List.length_pos_of_mem hx
    rw [List.length_cons]
    omega
theorem isSign_mem {x : Str} (h : isSign x = true) : x ∈ signs.map sg := by
  unfold isSign at h
  split at h
  · rename_i c e
    refine List.mem_map.mpr ⟨c, of_decide_eq_true h, ?_⟩
    exact (Lns.str_ext e).symm
  · cases h
theorem stand_sign {ah : List Row} {r : Row} (h : stand ah r = true) : isSign r.s = true ∧ place ah r.s = none := by
  unfold stand isChan at h
  simp only [Bool.and_eq_true] at h
  exact ⟨h.1.1.1.1.1, Option.isNone_iff_eq_none.mp h.1.2⟩
theorem place_mem_none {rs : List Row} {x : Str} (h : place rs x = none) : x ∉ rs.map fun r => r.s := by
  unfold place at h
  rw [List.findIdx?_eq_none_iff] at h
  intro hm
  obtain ⟨r, hr, e⟩ := List.mem_map.mp hm
  have := h r hr
  rw [decide_eq_true e] at this
  cases this
theorem AllStand.signs {rs : List Row} {k : Nat} (h : AllStand rs k) (hk : k ≤ rs.length) : ((rs.take k).map fun r => r.s).Nodup ∧ ∀ x ∈ (rs.take k).map fun r => r.s, x ∈ signs.map sg := by
  induction k with
  | zero => exact ⟨by simp, fun x hx => by simp at hx⟩
  | succ k ih =>
    obtain ⟨i1, i2⟩ := ih (fun i r hi hr => h i r (by omega) hr) (by omega)
    have hr : rs[k]? = some rs[k] := List.getElem?_eq_getElem (by omega)
    obtain ⟨s1, s2⟩ := stand_sign (h k _ (Nat.lt_succ_self k) hr)
    have e : rs.take (k + 1) = rs.take k ++ [rs[k]] := by rw [List.take_add_one, hr]; rfl
    rw [e, List.map_append]
    constructor
    · rw [List.nodup_append]
      refine ⟨i1, by simp, fun a ha b hb => ?_⟩
      have hb : b = rs[k].s := List.mem_singleton.mp hb
      intro z
      rw [z, hb] at ha
      exact place_mem_none s2 ha
    · intro x hx
      rcases List.mem_append.mp hx with z | z
      · exact i2 x z
      · rw [List.mem_singleton.mp z]
        exact isSign_mem s1
theorem AllStand.few {rs : List Row} {k : Nat} (h : AllStand rs k) (hk : k ≤ rs.length) : k ≤ 30 := by
  obtain ⟨h1, h2⟩ := h.signs hk
  have := fits_in h1 h2
  rw [List.length_map, List.length_take, Nat.min_eq_left hk, List.length_map] at this
  exact this
theorem AllStand.succ {rs : List Row} {k : Nat} {r : Row} (h : AllStand rs k) (hr : rs[k]? = some r) (hs : stand (rs.take k) r = true) : AllStand rs (k + 1) := fun i r' hi hr' => by
  by_cases e : i = k
  · subst e
    rw [hr] at hr'
    cases hr'
    exact hs
  · exact h i r' (by omega) hr'
end Cs
namespace L2
open PySem PySem.Spec PyProof.Rows
section
variable {prog : Program} {w : World} {A : Around} {E : Value → Shared → Prop} {s : Shared}
end
end L2
namespace L2
open PySem PySem.Spec PyProof.Rows
open AutoSeq1 (wpAny_loadPart')
section
variable {prog : Program} {w : World} {A : Around} {E : Value → Shared → Prop} {s : Shared}
end
section
variable {X : Cx} {es : List Expr} {k1 : Nat} {tp : Pos}
end
end L2
namespace L2
open PySem PySem.Spec PyProof.Rows
section
variable {X : Cx} (K : PySem.W.Frag) (hK : X.K = K)
include hK
end
end L2
namespace Unl
open PySem L2 PySem.Builtin.Str
def TextOk (m : Nat) (x : Str) : Prop := x.cps.toList.length ≤ m ∧ ∀ c ∈ x.cps.toList, c < 0x110000
theorem TextOk.len {m : Nat} {x : Str} (h : TextOk m x) : x.length ≤ m := by
  have hl : x.cps.toList.length = x.length := Array.length_toList
  rw [← hl]
  exact h.1
theorem TextOk.mono {m n : Nat} {x : Str} (h : TextOk m x) (hn : m ≤ n) : TextOk n x := ⟨Nat.le_trans h.1 hn, h.2⟩
theorem TextOk.take {m : Nat} {x y : Str} {n : Nat} (h : TextOk m x) (e : y.cps.toList = x.cps.toList.take n) : TextOk m y :=
  ⟨by rw [e]; exact Nat.le_trans (List.length_take_le' ..) h.1, fun c hc => h.2 c (by rw [e] at hc; exact List.mem_of_mem_take hc)⟩
theorem TextOk.drop {m : Nat} {x y : Str} {n : Nat} (h : TextOk m x) (e : y.cps.toList = x.cps.toList.drop n) : TextOk m y :=
  ⟨by rw [e, List.length_drop]; exact Nat.le_trans (Nat.sub_le ..) h.1, fun c hc => h.2 c (by rw [e] at hc; exact List.mem_of_mem_drop hc)⟩
def cp : List Nat → List Nat → Nat
  | a :: x, b :: y => if a = b then cp x y + 1 else 0
  | _, _ => 0
def un : Nat → List Str → List Str → Option (Nat × Nat)
  | k, t :: ts, s :: ss => if t = s then un (k + 1) ts ss else some (k, cp t.cps.toList s.cps.toList)
  | _, [], [] => none
  | k, _, _ => some (k, 0)
def UnAt (H : Hp) (v : V) : Option (Nat × Nat) → Prop
  | none => v = .non
  | some (i, p) => ∃ t, v = .ref t ∧ H t = some (.tup [.int i, .int p])
theorem UnAt.same {H H' : Hp} {v : V} {o : Option (Nat × Nat)} (h : UnAt H v o) (hs : Same H H') : UnAt H' v o := by
  cases o with
  | none => exact h
  | some ip =>
    obtain ⟨t, e, ht⟩ := h
    exact ⟨t, e, hs _ _ ht⟩
end Unl
namespace PySem
open Sem (wp)
end PySem
namespace L2
open PySem PySem.Spec PyProof.Rows
section
variable {prog : Program} {w : World} {A : Around} {E : Value → Shared → Prop} {s : Shared}
end
section
variable {X : Cx}
end
end L2
namespace L2
open PySem PySem.Spec PyProof.Rows
section
variable {X : Cx}
def tJ5 (t1 t2 t3 t4 t5 : TE) : TE := fun σ H Q => t1 σ H fun a H1 => ∃ x1 : Str, a = .str x1 ∧ x1.length ≤ 2000 ∧ t2 σ H1 fun b H2 => ∃ x2 : Str, b = .str x2 ∧ x2.length ≤ 2000 ∧ t3 σ H2 fun c H3 => ∃ x3 : Str, c = .str x3 ∧ x3.length ≤ 2000 ∧ t4 σ H3 fun d H4 => ∃ x4 : Str, d = .str x4 ∧ x4.length ≤ 2000 ∧ t5 σ H4 fun e H5 => ∃ x5 : Str, e = .str x5 ∧ x5.length ≤ 2000 ∧ ∀ x, Q (.str x) H5
end
end L2
namespace L2
open PySem PySem.Spec PyProof.Rows PySem.W PySem.Calls
section
variable {X : Cx} {pins : List (Addr × Obj)} {σ : St} {H : Hp} {s : Shared}
end
section
variable {X : Cx} {k j : Nat} {f C : Addr} {fd : FuncData} {ps : List Str} {x qual fld : Str} {st : Stmt} {p pos : Pos} {e : Expr} {es : List Expr} {t : TA}
end
end L2
namespace Jb
open PySem L2
inductive Bas where
  | ms (n : Int)
  | gp (a b c : Int)
  | st (ws : List Str)
def Job : Nat → Type
  | 0 => Bas
  | d + 1 => Bas ⊕ (Nat × List (Job d))
abbrev St := Int × List Int
abbrev Para := Int × List Int × List Str
abbrev Out := List Para × St
def bas : Bas → St → Out
  | .ms n, s => ([], (n, s.2))
  | .gp a b c, s => ([], (s.1, [a, b, c]))
  | .st ws, s => ([(s.1, s.2, ws)], s)
def runL {α : Type} (f : α → St → Out) : List α → St → Out
  | [], s => ([], s)
  | j :: js, s => ((f j s).1 ++ (runL f js (f j s).2).1, (runL f js (f j s).2).2)
def tms (f : St → Out) : Nat → St → Out
  | 0, s => ([], s)
  | n + 1, s => if (f s).1 = [] then f s else ((f s).1 ++ (tms f n (f s).2).1, (tms f n (f s).2).2)
def job : (d : Nat) → Job d → St → Out
  | 0, b, s => bas b s
  | _ + 1, .inl b, s => bas b s
  | d + 1, .inr (n, js), s => tms (runL (job d) js) n s
def words (ps : List Para) : Nat := (ps.map fun p => p.2.2.length).sum
def fits (ps : List Para) : Prop := ps.length ≤ 60 ∧ words ps ≤ 400
theorem words_app (a b : List Para) : words (a ++ b) = words a + words b := by
  unfold words
  rw [List.map_append, List.sum_append]
theorem fits.left {a b : List Para} (h : fits (a ++ b)) : fits a := by
  unfold fits at h ⊢
  rw [List.length_append, words_app] at h
  omega
noncomputable instance (ps : List Para) : Decidable (fits ps) := by unfold fits; infer_instance
def SameN (no : Addr) (H H' : Hp) : Prop := ∀ a o, a ≠ no → H a = some o → H' a = some o
theorem SameN.refl (no : Addr) (H : Hp) : SameN no H H := fun _ _ _ h => h
theorem SameN.trans {no : Addr} {H1 H2 H3 : Hp} (h : SameN no H1 H2) (h' : SameN no H2 H3) : SameN no H1 H3 := fun a o n e => h' a o n (h a o n e)
theorem SameN.of {no : Addr} {H H' : Hp} (h : Same H H') : SameN no H H' := fun a o _ e => h a o e
theorem SameN.upd {no : Addr} {H H' : Hp} {o : HO} (h : SameN no H H') : SameN no H (upd H' no o) := fun a o' n e => by
  rw [upd_ne n]
  exact h a o' n e
theorem SameN.tup {no : Addr} {H H' : Hp} {vs xs : List V} {t : Addr} (h : SameN no H H') (hno : H no = some (.lst vs)) (ht : H t = some (.tup xs)) : H' t = some (.tup xs) := h t _ (fun e => by rw [e, hno] at ht; cases ht) ht
theorem SameN.sqt {K : PySem.W.Frag} {no : Addr} {H H' : Hp} {vs xs : List V} {t : Addr} (h : SameN no H H') (hno : H no = some (.lst vs)) (ht : SqT K H t xs) : SqT K H' t xs := by
  rcases ht with ht | ht
  · rcases ht with ht | ht
    · exact .inl (.inl (h.tup hno ht))
    · obtain ⟨o, ht⟩ := ht
      exact .inl (.inr ⟨o, h t _ (fun e => by rw [e, hno] at ht; cases ht) ht⟩)
  · exact .inr ht
def BasAt (no : Addr) (H : Hp) (v : V) : Bas → Prop
  | .ms n => ∃ t, v = .ref t ∧ H t = some (.tup [.str "measure", .int n])
  | .gp a b c => ∃ t, v = .ref t ∧ H t = some (.tup [.str "gaps", .int a, .int b, .int c])
  | .st ws => ∃ t p, v = .ref t ∧ H t = some (.tup [.str "set", .ref p]) ∧ p ≠ no ∧ H p = some (.lst (ws.map V.str))
def JobAt (no : Addr) (H : Hp) : (d : Nat) → V → Job d → Prop
  | 0, v, b => BasAt no H v b
  | _ + 1, v, .inl b => BasAt no H v b
  | d + 1, v, .inr (n, js) => n ≤ 1000 ∧ js.length ≤ 1000 ∧ ∃ t p xs, v = .ref t ∧ H t = some (.tup [.str "times", .int (n : Int), .ref p]) ∧ p ≠ no ∧ H p = some (.lst xs) ∧ Paired (JobAt no H d) xs js
theorem BasAt.same {no : Addr} {H H' : Hp} {vs : List V} {v : V} {b : Bas} (h : BasAt no H v b) (s : SameN no H H') (hno : H no = some (.lst vs)) : BasAt no H' v b := by
  cases b with
  | ms n => obtain ⟨t, e, z⟩ := h; exact ⟨t, e, s.tup hno z⟩
  | gp a b c => obtain ⟨t, e, z⟩ := h; exact ⟨t, e, s.tup hno z⟩
  | st ws => obtain ⟨t, p, e, z, n, y⟩ := h; exact ⟨t, p, e, s.tup hno z, n, s _ _ n y⟩
theorem JobAt.same {no : Addr} {H H' : Hp} {vs : List V} (s : SameN no H H') (hno : H no = some (.lst vs)) : ∀ (d : Nat) {v : V} {j : Job d}, JobAt no H d v j → JobAt no H' d v j
  | 0, _, _, h => BasAt.same h s hno
  | _ + 1, _, .inl _, h => BasAt.same h s hno
  | d + 1, _, .inr (_, _), h => by
    obtain ⟨b1, b2, t, p, xs, e, z, n, y, w⟩ := h
    exact ⟨b1, b2, t, p, xs, e, s.tup hno z, n, s _ _ n y, Paired.mapP w fun _ _ q => JobAt.same s hno d q⟩
def ParaAt (K : PySem.W.Frag) (no : Addr) (H : Hp) (v : V) (p : Para) : Prop := ∃ t g w, v = .ref t ∧ H t = some (.tup [.int p.1, .ref g, .ref w]) ∧ SqT K H g (p.2.1.map V.int) ∧ w ≠ no ∧ H w = some (.lst (p.2.2.map V.str))
theorem ParaAt.same {K : PySem.W.Frag} {no : Addr} {H H' : Hp} {vs : List V} {v : V} {p : Para} (h : ParaAt K no H v p) (s : SameN no H H') (hno : H no = some (.lst vs)) : ParaAt K no H' v p := by
  obtain ⟨t, g, w, e, z, y, n, x⟩ := h
  exact ⟨t, g, w, e, s.tup hno z, s.sqt hno y, n, s _ _ n x⟩
end Jb
namespace L2
open PySem PySem.Spec PyProof.Rows
section
variable {X : Cx}
end
end L2
namespace Jb
open PySem L2
structure WordOk (x : Str) : Prop where
  l1 : 1 ≤ x.cps.toList.length
  l2 : x.cps.toList.length ≤ 12
  sn : ∀ c ∈ x.cps.toList, c ∈ Cs.signs
  ne : x ≠ "end"
theorem signs_small : ∀ c ∈ Cs.signs, c < 128 := by decide +kernel
theorem WordOk.lay {x : Str} (h : WordOk x) : PyData.canLay0 (.str x) = true := by
  show (x.cps.all fun c => decide (c < 0x110000)) = true
  rw [← Array.all_toList, List.all_eq_true]
  intro c hc
  have := signs_small c (h.sn c hc)
  exact decide_eq_true (by omega)
def GoodB : Bas → Prop
  | .ms n => 1 ≤ n ∧ n ≤ 2000
  | .gp a b c => 0 ≤ a ∧ a ≤ b ∧ b ≤ c ∧ c ≤ 99
  | .st ws => 1 ≤ ws.length ∧ ws.length ≤ 200 ∧ ∀ x ∈ ws, WordOk x
def GoodJ : (d : Nat) → Job d → Prop
  | 0, b => GoodB b
  | _ + 1, .inl b => GoodB b
  | d + 1, .inr (n, js) => 1 ≤ n ∧ n ≤ 9 ∧ js ≠ [] ∧ js.length ≤ 100 ∧ ∀ j ∈ js, GoodJ d j
def BasN (N : Addr → Prop) (H : Hp) (v : V) : Bas → Prop
  | .ms n => ∃ t, v = .ref t ∧ H t = some (.tup [.str "measure", .int n])
  | .gp a b c => ∃ t, v = .ref t ∧ H t = some (.tup [.str "gaps", .int a, .int b, .int c])
  | .st ws => ∃ t p, v = .ref t ∧ H t = some (.tup [.str "set", .ref p]) ∧ ¬ N p ∧ H p = some (.lst (ws.map V.str))
def JobN (N : Addr → Prop) (H : Hp) : (d : Nat) → V → Job d → Prop
  | 0, v, b => BasN N H v b
  | _ + 1, v, .inl b => BasN N H v b
  | d + 1, v, .inr (n, js) => n ≤ 1000 ∧ js.length ≤ 1000 ∧ ∃ t p xs, v = .ref t ∧ H t = some (.tup [.str "times", .int (n : Int), .ref p]) ∧ ¬ N p ∧ H p = some (.lst xs) ∧ Paired (JobN N H d) xs js
structure SameS (N : Addr → Prop) (H H' : Hp) : Prop where
  tup : ∀ a xs, H a = some (.tup xs) → H' a = some (.tup xs)
  lst : ∀ a xs, ¬ N a → H a = some (.lst xs) → H' a = some (.lst xs)
theorem SameS.of {N : Addr → Prop} {H H' : Hp} (s : Same H H') : SameS N H H' := ⟨fun a xs h => s _ _ h, fun a xs _ h => s _ _ h⟩
theorem SameS.upd {N : Addr → Prop} {H : Hp} {q : Addr} {ys : List V} {o : HO} (hq : H q = some (.lst ys)) (hN : N q) : SameS N H (upd H q o) := by
  refine ⟨fun a xs h => ?_, fun a xs n h => ?_⟩
  · rw [upd_ne (ne_of h hq (fun z => by cases z))]
    exact h
  · rw [upd_ne (fun z => n (by rw [z]; exact hN))]
    exact h
theorem SameS.trans {N : Addr → Prop} {H1 H2 H3 : Hp} (h : SameS N H1 H2) (h' : SameS N H2 H3) : SameS N H1 H3 := ⟨fun a xs e => h'.tup a xs (h.tup a xs e), fun a xs n e => h'.lst a xs n (h.lst a xs n e)⟩
theorem SameS.weak {N M : Addr → Prop} {H H' : Hp} (h : SameS N H H') (w : ∀ a, N a → M a) : SameS M H H' := ⟨h.tup, fun a xs n e => h.lst a xs (fun z => n (w a z)) e⟩
section
variable {N M : Addr → Prop} {H H' : Hp}
theorem BasN.to (s : SameS N H H') (hm : ∀ p xs, H p = some (.lst xs) → ¬ N p → ¬ M p) {v : V} {b : Bas} (h : BasN N H v b) : BasN M H' v b := by
  cases b with
  | ms n => obtain ⟨t, e, z⟩ := h; exact ⟨t, e, s.tup _ _ z⟩
  | gp a b c => obtain ⟨t, e, z⟩ := h; exact ⟨t, e, s.tup _ _ z⟩
  | st ws => obtain ⟨t, p, e, z, n, y⟩ := h; exact ⟨t, p, e, s.tup _ _ z, hm _ _ y n, s.lst _ _ n y⟩
theorem JobN.to (s : SameS N H H') (hm : ∀ p xs, H p = some (.lst xs) → ¬ N p → ¬ M p) : ∀ (d : Nat) {v : V} {j : Job d}, JobN N H d v j → JobN M H' d v j
  | 0, _, _, h => BasN.to s hm h
  | _ + 1, _, .inl _, h => BasN.to s hm h
  | d + 1, _, .inr (_, _), h => by
    obtain ⟨b1, b2, t, p, xs, e, z, n, y, w⟩ := h
    exact ⟨b1, b2, t, p, xs, e, s.tup _ _ z, hm _ _ y n, s.lst _ _ n y, Paired.mapP w fun _ _ q => JobN.to s hm d q⟩
theorem JobN.same (s : SameS N H H') (d : Nat) {v : V} {j : Job d} (h : JobN N H d v j) : JobN N H' d v j := JobN.to s (fun _ _ _ n => n) d h
theorem JobN.weak (w : ∀ a, M a → N a) (d : Nat) {v : V} {j : Job d} (h : JobN N H d v j) : JobN M H d v j := JobN.to (SameS.of (Same.refl _)) (fun _ _ _ n z => n (w _ z)) d h
theorem JobN.fresh (w : ∀ a, M a → N a ∨ H a = none) (d : Nat) {v : V} {j : Job d} (h : JobN N H d v j) : JobN M H d v j := JobN.to (SameS.of (Same.refl _)) (fun p xs e n z => by
  rcases w p z with h | h
  · exact n h
  · rw [e] at h; cases h) d h
theorem BasN.at {q : Addr} {v : V} {b : Bas} (h : BasN (fun a => a = q) H v b) : BasAt q H v b := by
  cases b with
  | ms n => exact h
  | gp a b c => exact h
  | st ws => exact h
theorem JobN.at {q : Addr} : ∀ (d : Nat) {v : V} {j : Job d}, JobN (fun a => a = q) H d v j → JobAt q H d v j
  | 0, _, _, h => BasN.at h
  | _ + 1, _, .inl _, h => BasN.at h
  | d + 1, _, .inr (_, _), h => by
    obtain ⟨b1, b2, t, p, xs, e, z, n, y, w⟩ := h
    exact ⟨b1, b2, t, p, xs, e, z, n, y, Paired.mapP w fun _ _ q => JobN.at d q⟩
end
def dBas : Bas → PyData
  | .ms n => .tuple [.str "measure", .int n]
  | .gp a b c => .tuple [.str "gaps", .int a, .int b, .int c]
  | .st ws => .tuple [.str "set", .list (ws.map .str)]
def dJob : (d : Nat) → Job d → PyData
  | 0, b => dBas b
  | _ + 1, .inl b => dBas b
  | d + 1, .inr (n, js) => .tuple [.str "times", .int (n : Int), .list (js.map (dJob d))]
theorem den_bas {K : PySem.W.Frag} {N : Addr → Prop} {H : Hp} {v : V} {b : Bas} (h : BasN N H v b) (g : GoodB b) : Den K H v (dBas b) := by
  cases b with
  | ms n => obtain ⟨t, rfl, z⟩ := h; exact .tup (SqT.of z) (.cons (.str _ (by decide +kernel)) (.cons (.int _) .nil))
  | gp a b c => obtain ⟨t, rfl, z⟩ := h; exact .tup (SqT.of z) (.cons (.str _ (by decide +kernel)) (.cons (.int _) (.cons (.int _) (.cons (.int _) .nil))))
  | st ws =>
    obtain ⟨t, p, rfl, z, n, y⟩ := h
    exact .tup (SqT.of z) (.cons (.str _ (by decide +kernel)) (.cons (.lst (SqL.of y) (Ln.denL_texts fun x hx => (g.2.2 x hx).lay)) .nil))
theorem denL_of {K : PySem.W.Frag} {H : Hp} {α : Type} {F : V → α → Prop} {f : α → PyData} : ∀ {vs : List V} {js : List α}, Paired F vs js → (∀ v j, j ∈ js → F v j → Den K H v (f j)) → DenL K H vs (js.map f)
  | _, _, .nil, _ => .nil
  | _, _, .cons r t, h => .cons (h _ _ List.mem_cons_self r) (denL_of t fun v j hj => h v j (List.mem_cons_of_mem _ hj))
theorem den_job {K : PySem.W.Frag} {N : Addr → Prop} {H : Hp} : ∀ (d : Nat) {v : V} {j : Job d}, JobN N H d v j → GoodJ d j → Den K H v (dJob d j)
  | 0, _, _, h, g => den_bas h g
  | _ + 1, _, .inl _, h, g => den_bas h g
  | d + 1, _, .inr (_, _), h, g => by
    obtain ⟨b1, b2, t, p, xs, rfl, z, n, y, w⟩ := h
    obtain ⟨_, _, _, _, gj⟩ := g
    exact .tup (SqT.of z) (.cons (.str _ (by decide +kernel)) (.cons (.int _) (.cons (.lst (SqL.of y) (denL_of w fun v j hj q => den_job d q (gj j hj))) .nil)))
theorem nbL_of {α : Type} {f : α → PyData} : ∀ {js : List α}, (∀ j, nb (f j) = true) → nbL (js.map f) = true
  | [], _ => rfl
  | j :: js, h => by
    show (nb (f j) && nbL (js.map f)) = true
    rw [h j, nbL_of h]
    rfl
theorem nb_bas (b : Bas) : nb (dBas b) = true := by
  cases b with
  | ms n => rfl
  | gp a b c => rfl
  | st ws =>
    show (nb (.str "set") && (nb (.list (ws.map .str)) && true)) = true
    have : nb (.list (ws.map .str)) = true := Ln.nb_words ws
    rw [this]
    rfl
theorem nb_job : ∀ (d : Nat) (j : Job d), nb (dJob d j) = true
  | 0, b => nb_bas b
  | _ + 1, .inl b => nb_bas b
  | d + 1, .inr (n, js) => by
    show (nb (.str "times") && (nb (.int (n : Int)) && (nb (.list (js.map (dJob d))) && true))) = true
    have : nb (.list (js.map (dJob d))) = true := nbL_of (nb_job d)
    rw [this]
    rfl
theorem depth_of {α : Type} {f : α → PyData} {k : Nat} : ∀ {js : List α}, (∀ j, (f j).depth ≤ k) → PyData.depthAll (js.map f) ≤ k
  | [], _ => Nat.zero_le _
  | j :: js, h => by
    show max (f j).depth (PyData.depthAll (js.map f)) ≤ k
    have := h j
    have := depth_of (js := js) h
    omega
theorem depth_bas (b : Bas) : (dBas b).depth ≤ 2 := by
  cases b with
  | ms n => show max 0 (max 0 0) + 1 ≤ 2; omega
  | gp a b c => show max 0 (max 0 (max 0 (max 0 0))) + 1 ≤ 2; omega
  | st ws =>
    show max 0 (max (PyData.depthAll (ws.map .str) + 1) 0) + 1 ≤ 2
    have := Ln.depth_words ws
    omega
theorem depth_job : ∀ (d : Nat) (j : Job d), (dJob d j).depth ≤ 2 * d + 2
  | 0, b => depth_bas b
  | _ + 1, .inl b => by
    have := depth_bas b
    show (dBas b).depth ≤ _
    omega
  | d + 1, .inr (n, js) => by
    have h : PyData.depthAll (js.map (dJob d)) ≤ 2 * d + 2 := depth_of (depth_job d)
    show max 0 (max 0 (max (PyData.depthAll (js.map (dJob d)) + 1) 0)) + 1 ≤ _
    omega
abbrev dJobs (d : Nat) (js : List (Job d)) : PyData := .list (js.map (dJob d))
theorem nb_jobs (d : Nat) (js : List (Job d)) : nb (dJobs d js) = true := nbL_of (nb_job d)
theorem depth_jobs (d : Nat) (js : List (Job d)) : (dJobs d js).depth ≤ 2 * d + 3 := by
  have h : PyData.depthAll (js.map (dJob d)) ≤ 2 * d + 2 := depth_of (depth_job d)
  show PyData.depthAll (js.map (dJob d)) + 1 ≤ _
  omega
theorem eqv_jobs_nil (d : Nat) : ∀ js : List (Job d), PyData.eqv (dJobs d js) (dInts []) = decide (js.length = 0)
  | [] => rfl
  | _ :: _ => rfl
theorem depth_nil (d : PyData) : min d.depth (dInts []).depth ≤ 64 := by
  have : (dInts []).depth = 1 := rfl
  omega
def ListOk (N : Addr → Prop) (H : Hp) (b d : Nat) (L : Addr) : Prop := ∃ (xs : List V) (js : List (Job d)), H L = some (.lst xs) ∧ Paired (JobN N H d) xs js ∧ (∀ j ∈ js, GoodJ d j) ∧ js.length ≤ b
structure Stk (H0 H : Hp) (S M : Addr) (ls : List Addr) (ms : List Int) (b : Nat) : Prop where
  sm : Same H0 H
  hS : H S = some (.lst (ls.map V.ref))
  hM : H M = some (.lst (ms.map V.int))
  l5 : ls.length ≤ 5
  mb : ∀ m ∈ ms, 1 ≤ m ∧ m ≤ 9
  nd : (S :: M :: ls).Nodup
  fr : ∀ a ∈ S :: M :: ls, H0 a = none
  ok : ∀ i L, ls[i]? = some L → ListOk (fun a => a ∈ S :: M :: ls) H b (4 - i) L
section
variable {H0 H H' : Hp} {S M : Addr} {ls : List Addr} {ms : List Int} {b : Nat}
theorem ListOk.same {N : Addr → Prop} {d : Nat} {L : Addr} (h : ListOk N H b d L) (s : SameS N H H') (e : ∀ xs, H L = some (.lst xs) → H' L = some (.lst xs)) {c : Nat} (hc : b ≤ c) : ListOk N H' c d L := by
  obtain ⟨xs, js, h1, h2, h3, h4⟩ := h
  exact ⟨xs, js, e _ h1, Paired.mapP h2 fun _ _ z => JobN.same s d z, h3, by omega⟩
theorem Stk.same (h : Stk H0 H S M ls ms b) (s : Same H H') : Stk H0 H' S M ls ms b :=
  ⟨h.sm.trans s, s _ _ h.hS, s _ _ h.hM, h.l5, h.mb, h.nd, h.fr, fun i L e => (h.ok i L e).same (SameS.of s) (fun _ z => s _ _ z) (Nat.le_refl _)⟩
theorem Stk.mem {i : Nat} {L : Addr} (e : ls[i]? = some L) : L ∈ S :: M :: ls := List.mem_cons_of_mem _ (List.mem_cons_of_mem _ (List.mem_of_getElem? e))
theorem Stk.ne (h : Stk H0 H S M ls ms b) : S ≠ M ∧ S ∉ ls ∧ M ∉ ls ∧ ls.Nodup := by
  have h1 := List.nodup_cons.mp h.nd
  have h2 := List.nodup_cons.mp h1.2
  exact ⟨fun z => h1.1 (by rw [z]; exact List.mem_cons_self), fun z => h1.1 (List.mem_cons_of_mem _ z), h2.1, h2.2⟩
theorem Stk.many (h : Stk H0 H S M ls ms b) {ns : List Int} (hn : ∀ m ∈ ns, 1 ≤ m ∧ m ≤ 9) : Stk H0 (upd H M (.lst (ns.map V.int))) S M ls ns b := by
  obtain ⟨n1, n2, n3, n4⟩ := h.ne
  have hs : SameS (fun a => a ∈ S :: M :: ls) H (upd H M (.lst (ns.map V.int))) := SameS.upd h.hM (List.mem_cons_of_mem _ List.mem_cons_self)
  exact ⟨same_upd h.sm (h.fr M (List.mem_cons_of_mem _ List.mem_cons_self)), by rw [upd_ne n1]; exact h.hS, upd_same, h.l5, hn, h.nd, h.fr, fun k L e => (h.ok k L e).same hs (fun _ y => by rw [upd_ne (fun z => n3 (by rw [← z]; exact List.mem_of_getElem? e))]; exact y) (Nat.le_refl _)⟩
end
end Jb
namespace L2
open PySem PySem.Spec PyProof.Rows
section
variable {X : Cx}
theorem call_intT : CallR X (.type "int") (fun xs H Q => ∃ (x : Str) (n : Int), xs = [.str x] ∧ PySem.intText? x = some n ∧ x.length ≤ 640 ∧ Q (.int n) H) := by
  intro pins s σ H xs us Q I r h
  obtain ⟨x, n, rfl, hn, hl, q⟩ := h
  obtain ⟨u, rfl, t, rfl⟩ := vals1 r
  exact PySem.W.KIN.call_text hn hl ⟨.int _, H, I.tok _, ⟨_, rfl⟩, q⟩
theorem call_strB : CallR X (.type "str") (fun xs H Q => ∃ i : Int, xs = [.int i] ∧ i.natAbs < 100000 ∧ Q (.str (Str.ofString (toString i))) H) := by
  intro pins s σ H xs us Q I r h
  obtain ⟨i, rfl, hi, q⟩ := h
  obtain ⟨u, rfl, t, rfl⟩ := vals1 r
  refine P.str_of_int ?_ ⟨.str _, H, I.tok _, ⟨_, rfl⟩, q⟩
  have : i.natAbs.log2 < 17 := by
    rcases Nat.eq_zero_or_pos i.natAbs with e | e
    · rw [e]; decide
    · exact (Nat.log2_lt (by omega)).mpr (by omega)
  omega
end
end L2
namespace Cp
open PySem L2 Jb
def isFig (c : Nat) : Bool := decide (48 ≤ c) && decide (c ≤ 57)
def isNum (x : Str) : Bool := !(decide (1 < x.cps.toList.length) && decide (x.cps.toList[0]? = some 48)) && (decide (1 ≤ x.cps.toList.length) && decide (x.cps.toList.length ≤ 4)) && x.cps.toList.all isFig
def numV (x : Str) : Int := (PySem.intText? x).getD 0
theorem num_len {x : Str} (h : isNum x = true) : 1 ≤ x.cps.toList.length ∧ x.cps.toList.length ≤ 4 := by
  unfold isNum at h
  simp only [Bool.and_eq_true, decide_eq_true_iff] at h
  exact h.1.2
theorem num_text {x : Str} (h : isNum x = true) : PySem.intText? x = some (numV x) := by
  have hl := num_len h
  unfold isNum at h
  simp only [Bool.and_eq_true] at h
  have hd : PySem.NumText.AllDigits x.cps.toList := fun c hc => by
    have := List.all_eq_true.mp h.2 c hc
    unfold isFig at this
    simp only [Bool.and_eq_true, decide_eq_true_iff] at this
    exact this
  have e : x.cps.toList.length = x.length := Array.length_toList
  have := PySem.intText_digits hd (fun z => by rw [z] at hl; exact absurd hl.1 (by decide)) (by omega)
  unfold numV
  rw [this]
  rfl
def isSet (x : Str) : Bool := decide (x ≠ "") && decide (x ≠ "end") && x.cps.toList.all fun c => decide (c ∈ Cs.signs)
def hd (r : List Str) (k : Nat) : Str := (r[k]?).getD ""
def rdN (x : Str) (lo hi : Int) : Option Int := if isNum x = true ∧ lo ≤ numV x ∧ numV x ≤ hi then some (numV x) else none
abbrev Rd (α : Type) := Option (α × Nat)
def rdM (r : List Str) : Rd Bas := (rdN (hd r 1) 1 2000).map fun n => (.ms n, 2)
def rdG (r : List Str) : Rd Bas := match rdN (hd r 1) 0 99 with
  | none => none
  | some lo => match rdN (hd r 2) lo 99 with
    | none => none
    | some ideal => (rdN (hd r 3) ideal 99).map fun hi => (.gp lo ideal hi, 4)
def setW (r : List Str) : List Str := (r.drop 1).takeWhile isSet
def rdS (r : List Str) : Rd Bas := if setW r = [] then none else if hd r ((setW r).length + 1) = "end" then some (.st (setW r), (setW r).length + 2) else none
def isB (r : List Str) : Bool := decide (hd r 0 = "measure") || decide (hd r 0 = "gaps") || decide (hd r 0 = "set")
def rdB (r : List Str) : Rd Bas := if hd r 0 = "measure" then rdM r else if hd r 0 = "gaps" then rdG r else if hd r 0 = "set" then rdS r else none
def stops (r : List Str) : Bool := decide (r = []) || decide (hd r 0 = ")")
def rdL {α : Type} (f : List Str → Rd α) : Nat → List Str → Rd (List α)
  | 0, _ => none
  | n + 1, r => if stops r = true then some ([], 0) else match f r with
    | none => none
    | some (x, k) => (rdL f n (r.drop k)).map fun z => (x :: z.1, k + z.2)
def rdT {α : Type} (g : List Str → Rd (List α)) (r : List Str) : Rd (Nat × List α) := match rdN (hd r 0) 1 9 with
  | none => none
  | some n => if hd r 1 = "times" ∧ hd r 2 = "(" then (match g (r.drop 3) with
      | none => none
      | some (js, k) => if js = [] then none else if hd r (3 + k) = ")" then some ((n.toNat, js), 4 + k) else none)
    else none
def rdJ : (d : Nat) → List Str → Rd (Job d)
  | 0, r => rdB r
  | d + 1, r => if isB r = true then (rdB r).map fun z => (Sum.inl z.1, z.2) else (rdT (fun r => rdL (rdJ d) (r.length + 1) r) r).map fun z => (Sum.inr z.1, z.2)
def rdJs (d : Nat) (r : List Str) : Rd (List (Job d)) := rdL (rdJ d) (r.length + 1) r
theorem hd_some {r : List Str} {k : Nat} (h : hd r k ≠ "") : k < r.length := by
  cases e : r[k]? with
  | none =>
    unfold hd at h
    rw [e] at h
    exact absurd rfl h
  | some x => exact (List.getElem?_eq_some_iff.mp e).1
theorem hd_drop (r : List Str) (a k : Nat) : hd (r.drop a) k = hd r (a + k) := by
  unfold hd
  rw [List.getElem?_drop]
theorem num_empty : isNum "" = false := by decide +kernel
theorem rdN_some {x : Str} {lo hi n : Int} (h : rdN x lo hi = some n) : isNum x = true ∧ lo ≤ n ∧ n ≤ hi ∧ n = numV x := by
  unfold rdN at h
  split at h
  · rename_i c
    have h := Option.some.inj h
    rw [← h]
    exact ⟨c.1, c.2.1, c.2.2, rfl⟩
  · cases h
theorem rdN_ne {x : Str} {lo hi n : Int} (h : rdN x lo hi = some n) : x ≠ "" := fun z => by
  have := (rdN_some h).1
  rw [z, num_empty] at this
  cases this
theorem rdM_len {r : List Str} {b : Bas} {k : Nat} (h : rdM r = some (b, k)) : 1 ≤ k ∧ k ≤ r.length := by
  unfold rdM at h
  obtain ⟨n, hn, e⟩ := Option.map_eq_some_iff.mp h
  have := hd_some (rdN_ne hn)
  cases e
  omega
theorem rdG_len {r : List Str} {b : Bas} {k : Nat} (h : rdG r = some (b, k)) : 1 ≤ k ∧ k ≤ r.length := by
  unfold rdG at h
  split at h
  · cases h
  · split at h
    · cases h
    · obtain ⟨n, hn, e⟩ := Option.map_eq_some_iff.mp h
      have := hd_some (rdN_ne hn)
      cases e
      omega
theorem rdS_len {r : List Str} {b : Bas} {k : Nat} (h : rdS r = some (b, k)) : 1 ≤ k ∧ k ≤ r.length := by
  unfold rdS at h
  split at h
  · cases h
  · split at h
    · rename_i e
      have hx : hd r ((setW r).length + 1) ≠ "" := by rw [e]; decide +kernel
      have := hd_some hx
      cases h
      omega
    · cases h
theorem rdB_len {r : List Str} {b : Bas} {k : Nat} (h : rdB r = some (b, k)) : 1 ≤ k ∧ k ≤ r.length := by
  unfold rdB at h
  split at h
  · exact rdM_len h
  · split at h
    · exact rdG_len h
    · split at h
      · exact rdS_len h
      · cases h
theorem rdT_len {α : Type} {g : List Str → Rd (List α)} {r : List Str} {x : Nat × List α} {k : Nat} (h : rdT g r = some (x, k)) : 1 ≤ k ∧ k ≤ r.length := by
  unfold rdT at h
  split at h
  · cases h
  · split at h
    · split at h
      · cases h
      · split at h
        · cases h
        · split at h
          · rename_i e
            have := hd_some (r := r) (fun z => absurd (e.symm.trans z) (by decide +kernel))
            cases h
            omega
          · cases h
    · cases h
theorem rdJ_len : ∀ (d : Nat) {r : List Str} {j : Job d} {k : Nat}, rdJ d r = some (j, k) → 1 ≤ k ∧ k ≤ r.length
  | 0, r, j, k, h => rdB_len (b := j) h
  | d + 1, r, j, k, h => by
    unfold rdJ at h
    split at h
    · obtain ⟨z, hz, e⟩ := Option.map_eq_some_iff.mp h
      cases e
      exact rdB_len hz
    · obtain ⟨z, hz, e⟩ := Option.map_eq_some_iff.mp h
      cases e
      exact rdT_len hz
theorem rdL_len {α : Type} {f : List Str → Rd α} (hf : ∀ r x k, f r = some (x, k) → 1 ≤ k ∧ k ≤ r.length) : ∀ (n : Nat) {r : List Str} {xs : List α} {k : Nat}, rdL f n r = some (xs, k) → k ≤ r.length
  | 0, r, xs, k, h => by cases h
  | n + 1, r, xs, k, h => by
    unfold rdL at h
    split at h
    · cases h
      exact Nat.zero_le _
    · split at h
      · cases h
      · rename_i x k' e
        obtain ⟨z, hz, e2⟩ := Option.map_eq_some_iff.mp h
        have h1 := hf _ _ _ e
        have h2 := rdL_len hf n hz
        cases e2
        rw [List.length_drop] at h2
        omega
theorem rdL_fuel {α : Type} {f : List Str → Rd α} (hf : ∀ r x k, f r = some (x, k) → 1 ≤ k ∧ k ≤ r.length) : ∀ (n m : Nat) (r : List Str), r.length < n → r.length < m → rdL f n r = rdL f m r
  | 0, _, r, h, _ => absurd h (Nat.not_lt_zero _)
  | _ + 1, 0, r, _, h => absurd h (Nat.not_lt_zero _)
  | n + 1, m + 1, r, hn, hm => by
    unfold rdL
    split
    · rfl
    · split
      · rfl
      · rename_i x k e
        have h1 := hf _ _ _ e
        rw [rdL_fuel hf n m (r.drop k) (by rw [List.length_drop]; omega) (by rw [List.length_drop]; omega)]
theorem rdJs_step {d : Nat} {r : List Str} : rdJs d r = if stops r = true then some ([], 0) else match rdJ d r with
    | none => none
    | some (x, k) => (rdJs d (r.drop k)).map fun z => (x :: z.1, k + z.2) := by
  have e0 : rdJs d r = rdL (rdJ d) (r.length + 1) r := rfl
  rw [e0]
  unfold rdL
  by_cases hs : stops r = true
  · rw [if_pos hs, if_pos hs]
  · rw [if_neg hs, if_neg hs]
    cases e : rdJ d r with
    | none => rfl
    | some z =>
      obtain ⟨x, k⟩ := z
      have h1 := rdJ_len d e
      have h2 : rdL (rdJ d) r.length (r.drop k) = rdJs d (r.drop k) := rdL_fuel (fun r x k => rdJ_len d) r.length ((r.drop k).length + 1) (r.drop k) (by rw [List.length_drop]; omega) (Nat.lt_succ_self _)
      show (rdL (rdJ d) r.length (r.drop k)).map _ = (rdJs d (r.drop k)).map _
      rw [h2]
def rdC (ws : List Str) : Option (List (Job 4)) := match rdJs 4 ws with
  | none => none
  | some (js, k) => if k < ws.length then none else some js
end Cp
namespace Cp
open PySem L2 Jb
abbrev numT (n : Int) : Str := Str.ofString (toString n)
def tellB : Bas → List Str
  | .ms n => ["measure", numT n]
  | .gp a b c => ["gaps", numT a, numT b, numT c]
  | .st ws => Str.ofString "set" :: ws ++ [Str.ofString "end"]
def tellJ : (d : Nat) → Job d → List Str
  | 0, b => tellB b
  | _ + 1, .inl b => tellB b
  | d + 1, .inr (n, js) => [numT (n : Int), Str.ofString "times", Str.ofString "("] ++ js.flatMap (tellJ d) ++ [Str.ofString ")"]
abbrev tells (d : Nat) (js : List (Job d)) : List Str := js.flatMap (tellJ d)
theorem num_is' : ∀ n : Fin 2001, isNum (numT (n.val : Int)) = true := by decide +kernel
theorem num_is {n : Int} (h0 : 0 ≤ n) (h1 : n ≤ 2000) : isNum (numT n) = true := by
  have := num_is' ⟨n.toNat, by omega⟩
  rw [show ((n.toNat : Nat) : Int) = n by omega] at this
  exact this
theorem num_val {n : Int} (h0 : 0 ≤ n) (h1 : n ≤ 2000) : numV (numT n) = n := by
  unfold numV numT
  rw [PySem.W.KIN.num_reads h0 (by omega)]
  rfl
theorem rdN_num {n lo hi : Int} (h0 : 0 ≤ n) (h1 : n ≤ 2000) (h2 : lo ≤ n) (h3 : n ≤ hi) : rdN (numT n) lo hi = some n := by
  unfold rdN
  rw [num_val h0 h1, if_pos ⟨num_is h0 h1, h2, h3⟩]
theorem set_ok {x : Str} (h : WordOk x) : isSet x = true := by
  unfold isSet
  have h1 : x ≠ "" := fun z => by
    have := h.l1
    rw [z] at this
    exact absurd this (by decide +kernel)
  rw [decide_eq_true h1, decide_eq_true (p := x ≠ Str.ofString "end") h.ne]
  show (true && true && _) = true
  rw [List.all_eq_true.mpr fun c hc => decide_eq_true (h.sn c hc)]
  rfl
theorem set_end' : isSet "end" = false := by decide +kernel
theorem tw_app {p : Str → Bool} : ∀ {us : List Str} {y : Str} {r : List Str}, (∀ x ∈ us, p x = true) → p y = false → (us ++ y :: r).takeWhile p = us
  | [], y, r, _, hy => by
    show (y :: r).takeWhile p = []
    rw [List.takeWhile_cons, hy]
    rfl
  | x :: us, y, r, h, hy => by
    show (x :: (us ++ y :: r)).takeWhile p = x :: us
    rw [List.takeWhile_cons, h x List.mem_cons_self]
    show x :: (us ++ y :: r).takeWhile p = _
    rw [tw_app (fun z hz => h z (List.mem_cons_of_mem _ hz)) hy]
theorem rdB_tell {b : Bas} (g : GoodB b) (rest : List Str) : rdB (tellB b ++ rest) = some (b, (tellB b).length) ∧ isB (tellB b ++ rest) = true := by
  cases b with
  | ms n =>
    have h : rdN (numT n) 1 2000 = some n := rdN_num (by have := g.1; omega) g.2 g.1 g.2
    refine ⟨?_, ?_⟩
    · show (rdN (numT n) 1 2000).map _ = _
      rw [h]
      rfl
    · show (decide (Str.ofString "measure" = Str.ofString "measure") || _ || _) = true
      rw [decide_eq_true rfl]
      rfl
  | gp a b c =>
    obtain ⟨g1, g2, g3, g4⟩ := g
    have h1 : rdN (numT a) 0 99 = some a := rdN_num (by omega) (by omega) (by omega) (by omega)
    have h2 : rdN (numT b) a 99 = some b := rdN_num (by omega) (by omega) (by omega) (by omega)
    have h3 : rdN (numT c) b 99 = some c := rdN_num (by omega) (by omega) (by omega) (by omega)
    have m1 : ¬ (Str.ofString "gaps" = Str.ofString "measure") := by decide +kernel
    refine ⟨?_, ?_⟩
    · unfold rdB
      show (if Str.ofString "gaps" = Str.ofString "measure" then _ else if Str.ofString "gaps" = Str.ofString "gaps" then rdG _ else _) = _
      rw [if_neg m1, if_pos rfl]
      unfold rdG
      show (match rdN (numT a) 0 99 with | none => none | some lo => match rdN (numT b) lo 99 with | none => none | some ideal => (rdN (numT c) ideal 99).map fun hi => (Bas.gp lo ideal hi, 4)) = _
      rw [h1]
      show (match rdN (numT b) a 99 with | none => none | some ideal => (rdN (numT c) ideal 99).map fun hi => (Bas.gp a ideal hi, 4)) = _
      rw [h2]
      show (rdN (numT c) b 99).map _ = _
      rw [h3]
      rfl
    · show (_ || decide (Str.ofString "gaps" = Str.ofString "gaps") || _) = true
      rw [decide_eq_true (rfl : Str.ofString "gaps" = Str.ofString "gaps"), Bool.or_true]
      rfl
  | st ws =>
    have m1 : ¬ (Str.ofString "set" = Str.ofString "measure") := by decide +kernel
    have m2 : ¬ (Str.ofString "set" = Str.ofString "gaps") := by decide +kernel
    have hr : tellB (.st ws) ++ rest = Str.ofString "set" :: (ws ++ Str.ofString "end" :: rest) := by
      show (Str.ofString "set" :: ws ++ [Str.ofString "end"]) ++ rest = _
      rw [List.cons_append, List.cons_append, List.append_assoc]
      rfl
    have hw : setW (tellB (.st ws) ++ rest) = ws := by
      unfold setW
      rw [hr]
      exact tw_app (fun x hx => set_ok (g.2.2 x hx)) set_end'
    have hh : hd (tellB (.st ws) ++ rest) (ws.length + 1) = "end" := by
      rw [hr]
      show ((ws ++ Str.ofString "end" :: rest)[ws.length]?).getD "" = _
      rw [List.getElem?_append_right (Nat.le_refl _), Nat.sub_self]
      rfl
    refine ⟨?_, ?_⟩
    · unfold rdB
      have h0 : hd (tellB (.st ws) ++ rest) 0 = "set" := rfl
      rw [h0, if_neg m1, if_neg m2, if_pos rfl]
      unfold rdS
      rw [hw, if_neg (fun z => by have := g.1; rw [z] at this; exact absurd this (by decide)), hh, if_pos rfl]
      show _ = some (_, (Str.ofString "set" :: ws ++ [Str.ofString "end"]).length)
      rw [List.length_append]
      rfl
    · show (_ || _ || decide (Str.ofString "set" = Str.ofString "set")) = true
      rw [decide_eq_true (rfl : Str.ofString "set" = Str.ofString "set"), Bool.or_true]
theorem num_not {x : Str} (h : isNum x = true) : x ≠ "measure" ∧ x ≠ "gaps" ∧ x ≠ "set" ∧ x ≠ ")" := by
  refine ⟨?_, ?_, ?_, ?_⟩ <;> intro z <;> rw [z] at h <;> revert h <;> decide +kernel
theorem tell_head : ∀ (d : Nat) (j : Job d) (rest : List Str), GoodJ d j → stops (tellJ d j ++ rest) = false
  | 0, b, rest, g => by cases b <;> (show (decide (_ :: _ = []) || decide (Str.ofString _ = Str.ofString ")")) = false; rw [decide_eq_false (fun z => nomatch z)]; decide +kernel)
  | _ + 1, .inl b, rest, g => by cases b <;> (show (decide (_ :: _ = []) || decide (Str.ofString _ = Str.ofString ")")) = false; rw [decide_eq_false (fun z => nomatch z)]; decide +kernel)
  | d + 1, .inr (n, js), rest, g => by
    have h := num_is (n := (n : Int)) (by omega) (by have := g.2.1; omega)
    show (decide (_ :: _ = []) || decide (numT (n : Int) = Str.ofString ")")) = false
    rw [decide_eq_false (fun z => nomatch z), decide_eq_false (num_not h).2.2.2]
    rfl
mutual
theorem rdJ_tell : ∀ (d : Nat) (j : Job d) (rest : List Str), GoodJ d j → rdJ d (tellJ d j ++ rest) = some (j, (tellJ d j).length)
  | 0, b, rest, g => (rdB_tell (b := b) g rest).1
  | _ + 1, .inl b, rest, g => by
    obtain ⟨h1, h2⟩ := rdB_tell (b := b) g rest
    unfold rdJ
    show (if isB (tellB b ++ rest) = true then _ else _) = _
    rw [if_pos h2]
    show (rdB (tellB b ++ rest)).map _ = _
    rw [h1]
    rfl
  | d + 1, .inr (n, js), rest, g => by
    obtain ⟨g1, g2, g3, g4, g5⟩ := g
    have hn := num_is (n := (n : Int)) (by omega) (by omega)
    have hne := num_not hn
    have hr : tellJ (d + 1) (.inr (n, js)) ++ rest = numT (n : Int) :: Str.ofString "times" :: Str.ofString "(" :: (tells d js ++ Str.ofString ")" :: rest) := by
      show ([numT (n : Int), Str.ofString "times", Str.ofString "("] ++ js.flatMap (tellJ d) ++ [Str.ofString ")"]) ++ rest = _
      rw [List.append_assoc, List.append_assoc]
      rfl
    have hB : ¬ isB (tellJ (d + 1) (.inr (n, js)) ++ rest) = true := by
      rw [hr]
      show ¬ ((decide (numT (n : Int) = Str.ofString "measure") || decide (numT (n : Int) = Str.ofString "gaps") || decide (numT (n : Int) = Str.ofString "set")) = true)
      rw [decide_eq_false hne.1, decide_eq_false hne.2.1, decide_eq_false hne.2.2.1]
      decide
    have hL : (tellJ (d + 1) (.inr (n, js))).length = 4 + (tells d js).length := by
      show ([numT (n : Int), Str.ofString "times", Str.ofString "("] ++ js.flatMap (tellJ d) ++ [Str.ofString ")"]).length = _
      rw [List.length_append, List.length_append]
      show 3 + (tells d js).length + 1 = _
      omega
    have hin := rdJs_tell d js (Str.ofString ")" :: rest) g5 (by
      show (_ || decide (Str.ofString ")" = Str.ofString ")")) = true
      rw [decide_eq_true (rfl : Str.ofString ")" = Str.ofString ")"), Bool.or_true])
    unfold rdJ
    rw [if_neg hB]
    unfold rdT
    have h0 : rdN (numT (n : Int)) 1 9 = some (n : Int) := rdN_num (by omega) (by omega) (by omega) (by omega)
    have hd3 : hd (numT (n : Int) :: Str.ofString "times" :: Str.ofString "(" :: (tells d js ++ Str.ofString ")" :: rest)) (3 + (tells d js).length) = ")" := by
      rw [Nat.add_comm]
      show ((tells d js ++ Str.ofString ")" :: rest)[(tells d js).length]?).getD "" = _
      rw [List.getElem?_append_right (Nat.le_refl _), Nat.sub_self]
      rfl
    rw [hr]
    have q0 : hd (numT (n : Int) :: Str.ofString "times" :: Str.ofString "(" :: (tells d js ++ Str.ofString ")" :: rest)) 0 = numT (n : Int) := rfl
    have q1 : hd (numT (n : Int) :: Str.ofString "times" :: Str.ofString "(" :: (tells d js ++ Str.ofString ")" :: rest)) 1 = Str.ofString "times" := rfl
    have q2 : hd (numT (n : Int) :: Str.ofString "times" :: Str.ofString "(" :: (tells d js ++ Str.ofString ")" :: rest)) 2 = Str.ofString "(" := rfl
    have q3 : (fun r => rdL (rdJ d) (r.length + 1) r) ((numT (n : Int) :: Str.ofString "times" :: Str.ofString "(" :: (tells d js ++ Str.ofString ")" :: rest)).drop 3) = some (js, (tells d js).length) := hin
    rw [q0, h0]
    dsimp only
    rw [if_pos ⟨q1, q2⟩]
    have q3 : rdL (rdJ d) (((numT (n : Int) :: Str.ofString "times" :: Str.ofString "(" :: (tells d js ++ Str.ofString ")" :: rest)).drop 3).length + 1) ((numT (n : Int) :: Str.ofString "times" :: Str.ofString "(" :: (tells d js ++ Str.ofString ")" :: rest)).drop 3) = some (js, (tells d js).length) := hin
    rw [q3]
    dsimp only
    rw [if_neg g3, if_pos hd3, hL]
    rfl
theorem rdJs_tell : ∀ (d : Nat) (js : List (Job d)) (rest : List Str), (∀ j ∈ js, GoodJ d j) → stops rest = true → rdJs d (tells d js ++ rest) = some (js, (tells d js).length)
  | d, [], rest, _, hs => by
    rw [rdJs_step]
    show (if stops rest = true then _ else _) = _
    rw [if_pos hs]
    rfl
  | d, j :: js, rest, g, hs => by
    have e : tells d (j :: js) ++ rest = tellJ d j ++ (tells d js ++ rest) := by
      show (j :: js).flatMap (tellJ d) ++ rest = _
      rw [List.flatMap_cons, List.append_assoc]
    have h1 := rdJ_tell d j (tells d js ++ rest) (g j List.mem_cons_self)
    have h2 := rdJs_tell d js rest (fun x hx => g x (List.mem_cons_of_mem _ hx)) hs
    have hd' := tell_head d j (tells d js ++ rest) (g j List.mem_cons_self)
    rw [rdJs_step, e, hd', h1]
    show (rdJs d ((tellJ d j ++ (tells d js ++ rest)).drop (tellJ d j).length)).map _ = _
    rw [List.drop_left, h2]
    show some (j :: js, (tellJ d j).length + (tells d js).length) = some (j :: js, ((j :: js).flatMap (tellJ d)).length)
    rw [List.flatMap_cons, List.length_append]
end
theorem rdC_tell {js : List (Job 4)} (g : ∀ j ∈ js, GoodJ 4 j) : rdC (tells 4 js) = some js := by
  have h := rdJs_tell 4 js [] g rfl
  rw [List.append_nil] at h
  unfold rdC
  rw [h]
  show (if (tells 4 js).length < (tells 4 js).length then none else some js) = _
  rw [if_neg (Nat.lt_irrefl _)]
end Cp
namespace Jb
open PySem L2
def ListZ (N : Addr → Prop) (H : Hp) (b d : Nat) (L : Addr) (z : Nat) : Prop := ∃ (xs : List V) (js : List (Job d)), H L = some (.lst xs) ∧ Paired (JobN N H d) xs js ∧ (∀ j ∈ js, GoodJ d j) ∧ js.length ≤ b ∧ (Cp.tells d js).length ≤ z
structure Skz (H0 H : Hp) (S M : Addr) (ls : List Addr) (ms : List Int) (b : Nat) (zs : List Nat) : Prop where
  sm : Same H0 H
  hS : H S = some (.lst (ls.map V.ref))
  hM : H M = some (.lst (ms.map V.int))
  l5 : ls.length ≤ 5
  mb : ∀ m ∈ ms, 1 ≤ m ∧ m ≤ 9
  nd : (S :: M :: ls).Nodup
  fr : ∀ a ∈ S :: M :: ls, H0 a = none
  zl : zs.length = ls.length
  ok : ∀ i L z, ls[i]? = some L → zs[i]? = some z → ListZ (fun a => a ∈ S :: M :: ls) H b (4 - i) L z
section
variable {H0 H H' : Hp} {S M : Addr} {ls : List Addr} {ms : List Int} {b : Nat} {zs : List Nat}
theorem ListZ.same {N : Addr → Prop} {d z : Nat} {L : Addr} (h : ListZ N H b d L z) (s : SameS N H H') (e : ∀ xs, H L = some (.lst xs) → H' L = some (.lst xs)) {c : Nat} (hc : b ≤ c) : ListZ N H' c d L z := by
  obtain ⟨xs, js, h1, h2, h3, h4, h5⟩ := h
  exact ⟨xs, js, e _ h1, Paired.mapP h2 fun _ _ z => JobN.same s d z, h3, by omega, h5⟩
theorem Skz.same (h : Skz H0 H S M ls ms b zs) (s : Same H H') : Skz H0 H' S M ls ms b zs :=
  ⟨h.sm.trans s, s _ _ h.hS, s _ _ h.hM, h.l5, h.mb, h.nd, h.fr, h.zl, fun i L z e ez => (h.ok i L z e ez).same (SameS.of s) (fun _ z => s _ _ z) (Nat.le_refl _)⟩
theorem Skz.le (h : Skz H0 H S M ls ms b zs) {c : Nat} (hc : b ≤ c) : Skz H0 H S M ls ms c zs :=
  ⟨h.sm, h.hS, h.hM, h.l5, h.mb, h.nd, h.fr, h.zl, fun i L z e ez => (h.ok i L z e ez).same (SameS.of (Same.refl _)) (fun _ z => z) hc⟩
theorem Skz.get (h : Skz H0 H S M ls ms b zs) {i : Nat} {L : Addr} (e : ls[i]? = some L) : ∃ z, zs[i]? = some z ∧ ListZ (fun a => a ∈ S :: M :: ls) H b (4 - i) L z := by
  have hi := (List.getElem?_eq_some_iff.mp e).1
  have hz : i < zs.length := by rw [h.zl]; exact hi
  exact ⟨zs[i], List.getElem?_eq_getElem hz, h.ok i L _ e (List.getElem?_eq_getElem hz)⟩
theorem Skz.ne (h : Skz H0 H S M ls ms b zs) : S ≠ M ∧ S ∉ ls ∧ M ∉ ls ∧ ls.Nodup := by
  have h1 := List.nodup_cons.mp h.nd
  have h2 := List.nodup_cons.mp h1.2
  exact ⟨fun z => h1.1 (by rw [z]; exact List.mem_cons_self), fun z => h1.1 (List.mem_cons_of_mem _ z), h2.1, h2.2⟩
theorem Skz.here (h : Skz H0 H S M ls ms b zs) {a : Addr} (ha : a ∈ S :: M :: ls) : H a ≠ none := fun z => by
  rcases List.mem_cons.mp ha with e | ha
  · have := h.hS; rw [← e, z] at this; cases this
  · rcases List.mem_cons.mp ha with e | ha
    · have := h.hM; rw [← e, z] at this; cases this
    · obtain ⟨i, hi, ei⟩ := List.mem_iff_getElem.mp ha
      obtain ⟨_, _, xs, _, h1, _⟩ := h.get (i := i) (L := a) (by rw [List.getElem?_eq_getElem hi, ei])
      rw [z] at h1; cases h1
theorem Skz.add (h : Skz H0 H S M ls ms b zs) {i : Nat} {L : Addr} (e : ls[i]? = some L) {xs : List V} (hL : H L = some (.lst xs)) {v : V} {j : Job (4 - i)} (hj : JobN (fun a => a ∈ S :: M :: ls) H (4 - i) v j) (g : GoodJ (4 - i) j) {k : Nat} (hk : (Cp.tellJ (4 - i) j).length ≤ k) :
    Skz H0 (upd H L (.lst (xs ++ [v]))) S M ls ms (b + 1) (zs.set i (zs.getD i 0 + k)) := by
  obtain ⟨n1, n2, n3, n4⟩ := h.ne
  have hm := List.mem_of_getElem? e
  have hs : SameS (fun a => a ∈ S :: M :: ls) H (upd H L (.lst (xs ++ [v]))) := SameS.upd hL (Stk.mem e)
  have hil := (List.getElem?_eq_some_iff.mp e).1
  refine ⟨same_upd h.sm (h.fr L (Stk.mem e)), by rw [upd_ne (fun z => n2 (by rw [z]; exact hm))]; exact h.hS, by rw [upd_ne (fun z => n3 (by rw [z]; exact hm))]; exact h.hM, h.l5, h.mb, h.nd, h.fr, by rw [List.length_set]; exact h.zl, fun k' L' z' e' ez' => ?_⟩
  by_cases z : L' = L
  · subst z
    have ki : k' = i := by
      obtain ⟨k1, k2⟩ := List.getElem?_eq_some_iff.mp e'
      obtain ⟨i1, i2⟩ := List.getElem?_eq_some_iff.mp e
      have pw := List.pairwise_iff_getElem.mp n4
      rcases Nat.lt_trichotomy k' i with q | q | q
      · exact absurd (k2.trans i2.symm) (pw k' i k1 i1 q)
      · exact q
      · exact absurd (i2.trans k2.symm) (pw i k' i1 k1 q)
    subst ki
    obtain ⟨z0, ez0, xs', js, h1, h2, h3, h4, h5⟩ := h.get e'
    rw [hL] at h1
    cases h1
    rw [List.getElem?_set_self (by rw [h.zl]; exact hil)] at ez'
    have ez' := Option.some.inj ez'
    rw [List.getD_eq_getElem?_getD, ez0] at ez'
    have ez' : z0 + k = z' := ez'
    refine ⟨_, js ++ [j], upd_same, Paired.snoc (Paired.mapP h2 fun _ _ z => JobN.same hs _ z) (JobN.same hs _ hj), fun j' hj' => ?_, by rw [List.length_append]; exact Nat.succ_le_succ h4, ?_⟩
    · rcases List.mem_append.mp hj' with y | y
      · exact h3 j' y
      · rw [List.mem_singleton.mp y]; exact g
    · show ((js ++ [j]).flatMap _).length ≤ _
      rw [List.flatMap_append, List.length_append]
      show (Cp.tells _ js).length + ([j].flatMap (Cp.tellJ _)).length ≤ _
      rw [List.flatMap_cons, List.flatMap_nil, List.append_nil]
      omega
  · have ne : i ≠ k' := fun y => by subst y; rw [e] at e'; exact z (Option.some.inj e').symm
    rw [List.getElem?_set_ne ne] at ez'
    exact (h.ok k' L' z' e' ez').same hs (fun _ y => by rw [upd_ne z]; exact y) (Nat.le_succ _)
theorem Skz.many (h : Skz H0 H S M ls ms b zs) {ns : List Int} (hn : ∀ m ∈ ns, 1 ≤ m ∧ m ≤ 9) : Skz H0 (upd H M (.lst (ns.map V.int))) S M ls ns b zs := by
  obtain ⟨n1, n2, n3, n4⟩ := h.ne
  have hs : SameS (fun a => a ∈ S :: M :: ls) H (upd H M (.lst (ns.map V.int))) := SameS.upd h.hM (List.mem_cons_of_mem _ List.mem_cons_self)
  exact ⟨same_upd h.sm (h.fr M (List.mem_cons_of_mem _ List.mem_cons_self)), by rw [upd_ne n1]; exact h.hS, upd_same, h.l5, hn, h.nd, h.fr, h.zl, fun k L z e ez => (h.ok k L z e ez).same hs (fun _ y => by rw [upd_ne (fun z => n3 (by rw [← z]; exact List.mem_of_getElem? e))]; exact y) (Nat.le_refl _)⟩
theorem Skz.push (h : Skz H0 H S M ls ms b zs) (hl : ls.length < 5) {L : Addr} (hL : H L = none) : Skz H0 (upd (upd H L (.lst [])) S (.lst ((ls ++ [L]).map V.ref))) S M (ls ++ [L]) ms b (zs ++ [0]) := by
  have hSL : S ≠ L := fun z => by have := h.hS; rw [z, hL] at this; cases this
  have hML : M ≠ L := fun z => by have := h.hM; rw [z, hL] at this; cases this
  have hlL : ∀ {i : Nat} {L' : Addr}, ls[i]? = some L' → L' ≠ L := fun {i L'} e z => by
    obtain ⟨_, _, xs, _, h1, _⟩ := h.get e
    rw [z, hL] at h1
    cases h1
  obtain ⟨n1, n2, n3, n4⟩ := h.ne
  have hmem : ∀ a, a ∈ S :: M :: (ls ++ [L]) → a ∈ S :: M :: ls ∨ a = L := fun a ha => by
    rw [← List.cons_append, ← List.cons_append] at ha
    rcases List.mem_append.mp ha with y | y
    · exact .inl y
    · exact .inr (List.mem_singleton.mp y)
  have hs1 : Same H (upd H L (.lst [])) := same_new hL _
  have hS1 : (upd H L (.lst [])) S = some (.lst (ls.map V.ref)) := hs1 _ _ h.hS
  have hs : SameS (fun a => a ∈ S :: M :: (ls ++ [L])) H (upd (upd H L (.lst [])) S (.lst ((ls ++ [L]).map V.ref))) := (SameS.of hs1).trans (SameS.upd hS1 List.mem_cons_self)
  refine ⟨same_upd (h.sm.trans hs1) (h.fr S List.mem_cons_self), upd_same, by rw [upd_ne (Ne.symm n1)]; exact hs1 _ _ h.hM, by rw [List.length_append]; exact hl, h.mb, ?_, fun a ha => ?_, by rw [List.length_append, List.length_append, h.zl]; rfl, fun k L' z e ez => ?_⟩
  · rw [← List.cons_append, ← List.cons_append]
    refine List.nodup_append.mpr ⟨h.nd, List.nodup_cons.mpr ⟨List.not_mem_nil, List.nodup_nil⟩, fun x hx y hy => ?_⟩
    rw [List.mem_singleton.mp hy]
    intro z
    rw [z] at hx
    rcases List.mem_cons.mp hx with y | hx
    · exact hSL y.symm
    · rcases List.mem_cons.mp hx with y | hx
      · exact hML y.symm
      · obtain ⟨i, hi, ei⟩ := List.mem_iff_getElem.mp hx
        exact hlL (by rw [List.getElem?_eq_getElem hi, ei]) rfl
  · rcases hmem a ha with y | y
    · exact h.fr a y
    · rw [y]
      exact h.sm.free hL
  · by_cases hk : k < ls.length
    · rw [List.getElem?_append_left hk] at e
      rw [List.getElem?_append_left (by rw [h.zl]; exact hk)] at ez
      obtain ⟨xs, js, h1, h2, h3, h4, h5⟩ := h.ok k L' z e ez
      refine ⟨xs, js, ?_, Paired.mapP h2 fun _ _ z => JobN.same hs _ (JobN.fresh (fun a ha => ?_) _ z), h3, h4, h5⟩
      · rw [upd_ne (fun z => n2 (by rw [← z]; exact List.mem_of_getElem? e)), upd_ne (hlL e)]
        exact h1
      · rcases hmem a ha with y | y
        · exact .inl y
        · exact .inr (by rw [y]; exact hL)
    · rw [List.getElem?_append_right (by omega)] at e
      have ek : k - ls.length = 0 := by
        cases q : k - ls.length with
        | zero => rfl
        | succ n => rw [q] at e; cases e
      rw [ek] at e
      cases e
      exact ⟨[], [], by rw [upd_ne (Ne.symm hSL), upd_same], .nil, fun j hj => (nomatch hj), Nat.zero_le _, Nat.zero_le _⟩
theorem Skz.pop {pre : List Addr} {L : Addr} (h : Skz H0 H S M (pre ++ [L]) ms b zs) : ∃ ys z, zs = ys ++ [z] ∧ Skz H0 (upd H S (.lst (pre.map V.ref))) S M pre ms b ys ∧ L ∉ S :: M :: pre ∧ ListZ (fun a => a ∈ S :: M :: pre) (upd H S (.lst (pre.map V.ref))) b (4 - pre.length) L z := by
  obtain ⟨n1, n2, n3, n4⟩ := h.ne
  have nd := h.nd
  rw [← List.cons_append, ← List.cons_append] at nd
  obtain ⟨d1, _, d3⟩ := List.nodup_append.mp nd
  have hzl := h.zl
  rw [List.length_append] at hzl
  rcases List.eq_nil_or_concat zs with e0 | ⟨ys, z, e0⟩
  · rw [e0] at hzl
    exact absurd hzl (by show ¬ 0 = _ + 1; omega)
  rw [List.concat_eq_append] at e0
  subst e0
  rw [List.length_append] at hzl
  have hyl : ys.length = pre.length := Nat.succ.inj hzl
  have hsub : ∀ a, a ∈ S :: M :: pre → a ∈ S :: M :: (pre ++ [L]) := fun a ha => by
    rw [← List.cons_append, ← List.cons_append]
    exact List.mem_append_left _ ha
  have hs : SameS (fun a => a ∈ S :: M :: pre) H (upd H S (.lst (pre.map V.ref))) := SameS.upd h.hS List.mem_cons_self
  have tr : ∀ {d z : Nat} {L' : Addr}, L' ≠ S → ListZ (fun a => a ∈ S :: M :: (pre ++ [L])) H b d L' z → ListZ (fun a => a ∈ S :: M :: pre) (upd H S (.lst (pre.map V.ref))) b d L' z := fun {d z L'} hne ⟨xs, js, h1, h2, h3, h4, h5⟩ =>
    ⟨xs, js, by rw [upd_ne hne]; exact h1, Paired.mapP h2 fun _ _ z => JobN.same hs _ (JobN.weak hsub _ z), h3, h4, h5⟩
  refine ⟨ys, z, rfl, ⟨same_upd h.sm (h.fr S List.mem_cons_self), upd_same, by rw [upd_ne (Ne.symm n1)]; exact h.hM, ?_, h.mb, d1, fun a ha => h.fr a (hsub a ha), hyl, fun k L' z' e ez => ?_⟩, fun z => d3 L z L (List.mem_singleton.mpr rfl) rfl, ?_⟩
  · have := h.l5
    rw [List.length_append] at this
    exact Nat.le_trans (Nat.le_add_right _ _) this
  · have hk := (List.getElem?_eq_some_iff.mp e).1
    refine tr (fun z => n2 (by rw [← z]; exact List.mem_append_left _ (List.mem_of_getElem? e))) (h.ok k L' z' ?_ ?_)
    · rw [List.getElem?_append_left hk]
      exact e
    · rw [List.getElem?_append_left (by omega)]
      exact ez
  · refine tr (fun z => n2 (by rw [← z]; exact List.mem_append_right _ (List.mem_singleton.mpr rfl))) (h.ok pre.length L z ?_ ?_)
    · rw [List.getElem?_append_right (Nat.le_refl _), Nat.sub_self]
      rfl
    · rw [← hyl, List.getElem?_append_right (Nat.le_refl _), Nat.sub_self]
      rfl
theorem sum_set {zs : List Nat} {i k : Nat} (h : i < zs.length) : (zs.set i (zs.getD i 0 + k)).sum = zs.sum + k := by
  induction zs generalizing i with
  | nil => exact absurd h (Nat.not_lt_zero _)
  | cons z zs ih =>
    cases i with
    | zero =>
      show ((z + k) :: zs).sum = _
      rw [List.sum_cons, List.sum_cons]
      omega
    | succ i =>
      show (z :: zs.set i (zs.getD i 0 + k)).sum = _
      rw [List.sum_cons, List.sum_cons, ih (Nat.lt_of_succ_lt_succ h)]
      omega
end
end Jb
namespace L2
open PySem PySem.Spec PyProof.Rows
section
variable {X : Cx}
end
end L2
namespace Cp
open PySem L2 Jb Lns
theorem line_one (x : Str) : lineT [x] = x := by rw [lineT_join]; rfl
theorem line_cons (y : Str) {ys : List Str} (h : ys ≠ []) : lineT (y :: ys) = y ++ " " ++ lineT ys := by
  cases ys with
  | nil => exact absurd rfl h
  | cons z zs =>
    unfold lineT Txt.join
    rw [StrLaws.glued_eq_join, StrLaws.glued_eq_join]
    rfl
theorem line_app : ∀ {a b : List Str}, a ≠ [] → b ≠ [] → lineT (a ++ b) = lineT a ++ " " ++ lineT b
  | [], b, h, _ => absurd rfl h
  | [x], b, _, hb => by
    show lineT (x :: b) = _
    rw [line_cons x hb, line_one]
  | x :: y :: a, b, _, hb => by
    show lineT (x :: ((y :: a) ++ b)) = _
    rw [line_cons x (by exact fun z => nomatch z), line_app (a := y :: a) (fun z => nomatch z) hb, line_cons x (ys := y :: a) (fun z => nomatch z)]
    simp only [Str.append_assoc]
structure TW (x : Str) : Prop where
  l1 : 1 ≤ x.cps.toList.length
  l2 : x.cps.toList.length ≤ 12
  as : ∀ c ∈ x.cps.toList, c < 128 ∧ c ≠ 32
theorem tw_lit {x : Str} (h : (decide (1 ≤ x.cps.toList.length) && decide (x.cps.toList.length ≤ 12) && x.cps.toList.all fun c => decide (c < 128) && decide (c ≠ 32)) = true) : TW x := by
  simp only [Bool.and_eq_true, decide_eq_true_iff, List.all_eq_true] at h
  exact ⟨h.1.1, h.1.2, h.2⟩
theorem tw_num {n : Int} (h0 : 0 ≤ n) (h1 : n ≤ 2000) : TW (numT n) := by
  have h := num_is h0 h1
  have hl := num_len h
  refine ⟨hl.1, by omega, fun c hc => ?_⟩
  unfold isNum at h
  simp only [Bool.and_eq_true] at h
  have := List.all_eq_true.mp h.2 c hc
  unfold isFig at this
  simp only [Bool.and_eq_true, decide_eq_true_iff] at this
  omega
theorem signs_no : ∀ c ∈ Cs.signs, c < 128 ∧ c ≠ 32 := by decide +kernel
theorem tw_word {x : Str} (h : WordOk x) : TW x := ⟨h.l1, h.l2, fun c hc => signs_no c (h.sn c hc)⟩
theorem tw_bas {b : Bas} (g : GoodB b) : ∀ x ∈ tellB b, TW x := fun x hx => by
  cases b with
  | ms n =>
    have g1 := g.1
    have g2 := g.2
    rcases List.mem_cons.mp hx with e | hx
    · rw [e]; exact tw_lit (by decide +kernel)
    · rw [List.mem_singleton.mp hx]; exact tw_num (by omega) g2
  | gp a b c =>
    obtain ⟨g1, g2, g3, g4⟩ := g
    rcases List.mem_cons.mp hx with e | hx
    · rw [e]; exact tw_lit (by decide +kernel)
    rcases List.mem_cons.mp hx with e | hx
    · rw [e]; exact tw_num (by omega) (by omega)
    rcases List.mem_cons.mp hx with e | hx
    · rw [e]; exact tw_num (by omega) (by omega)
    · rw [List.mem_singleton.mp hx]; exact tw_num (by omega) (by omega)
  | st ws =>
    rcases List.mem_append.mp hx with hx | hx
    · rcases List.mem_cons.mp hx with e | hx
      · rw [e]; exact tw_lit (by decide +kernel)
      · exact tw_word (g.2.2 x hx)
    · rw [List.mem_singleton.mp hx]; exact tw_lit (by decide +kernel)
theorem tw_job : ∀ (d : Nat) (j : Job d), GoodJ d j → ∀ x ∈ tellJ d j, TW x
  | 0, b, g, x, hx => tw_bas (b := b) g x hx
  | _ + 1, .inl b, g, x, hx => tw_bas (b := b) g x hx
  | d + 1, .inr (n, js), g, x, hx => by
    have hx : x ∈ [numT (n : Int), Str.ofString "times", Str.ofString "("] ++ js.flatMap (tellJ d) ++ [Str.ofString ")"] := hx
    obtain ⟨g1, g2, g3, g4, g5⟩ := g
    rcases List.mem_append.mp hx with hx | hx
    · rcases List.mem_append.mp hx with hx | hx
      · rcases List.mem_cons.mp hx with e | hx
        · rw [e]; exact tw_num (by omega) (by omega)
        rcases List.mem_cons.mp hx with e | hx
        · rw [e]; exact tw_lit (by decide +kernel)
        · rw [List.mem_singleton.mp hx]; exact tw_lit (by decide +kernel)
      · obtain ⟨j, hj, hx⟩ := List.mem_flatMap.mp hx
        exact tw_job d j (g5 j hj) x hx
    · rw [List.mem_singleton.mp hx]; exact tw_lit (by decide +kernel)
theorem tw_jobs {d : Nat} {js : List (Job d)} (g : ∀ j ∈ js, GoodJ d j) : ∀ x ∈ tells d js, TW x := fun x hx => by
  obtain ⟨j, hj, hx⟩ := List.mem_flatMap.mp hx
  exact tw_job d j (g j hj) x hx
theorem tell_ne : ∀ (d : Nat) (j : Job d), tellJ d j ≠ []
  | 0, b => by cases b <;> exact fun z => nomatch z
  | _ + 1, .inl b => by cases b <;> exact fun z => nomatch z
  | _ + 1, .inr (n, js) => fun z => nomatch z
theorem tells_nil {d : Nat} {js : List (Job d)} (h : tells d js = []) : js = [] := by
  cases js with
  | nil => rfl
  | cons j js =>
    have h : (j :: js).flatMap (tellJ d) = [] := h
    rw [List.flatMap_cons] at h
    exact absurd (List.append_eq_nil_iff.mp h).1 (tell_ne d j)
def textOf (d : Nat) (js : List (Job d)) : Str := lineT (tells d js)
theorem line_len : ∀ {ws : List Str}, (∀ x ∈ ws, TW x) → (lineT ws).cps.toList.length ≤ 13 * ws.length
  | [], _ => by
    show (lineT []).cps.toList.length ≤ 0
    decide +kernel
  | [x], h => by
    rw [line_one]
    have := (h x List.mem_cons_self).l2
    show _ ≤ 13 * 1
    omega
  | x :: y :: r, h => by
    have h1 := (h x List.mem_cons_self).l2
    have ih := line_len (ws := y :: r) fun z hz => h z (List.mem_cons_of_mem _ hz)
    rw [line_cons x (ys := y :: r) (fun z => nomatch z), app_list, app_list, List.length_append, List.length_append]
    have h2 : (Str.ofString " ").cps.toList.length = 1 := by decide +kernel
    rw [List.length_cons]
    omega
theorem split_tells {ws : List Str} (hne : ws ≠ []) (h : ∀ x ∈ ws, TW x) : Txt.split (lineT ws) " " = ws := by
  rw [lineT_join]
  exact split_join 32 hne fun p hp z => ((h p hp).as 32 z).2 rfl
theorem line_ne {ws : List Str} (hne : ws ≠ []) (h : ∀ x ∈ ws, TW x) : lineT ws ≠ "" := fun z => by
  have h1 : (lineT ws).cps.toList = [] := by rw [z]; decide +kernel
  cases ws with
  | nil => exact hne rfl
  | cons x r =>
    have hx := (h x List.mem_cons_self).l1
    cases r with
    | nil => rw [line_one] at h1; rw [h1] at hx; exact absurd hx (by decide)
    | cons y r =>
      rw [line_cons x (ys := y :: r) (fun z => nomatch z), app_list, app_list] at h1
      have := (List.append_eq_nil_iff.mp (List.append_eq_nil_iff.mp h1).1).1
      rw [this] at hx
      exact absurd hx (by decide)
end Cp
namespace L2
open PySem PySem.Spec PyProof.Rows
section
variable {X : Cx}
end
end L2
namespace L2
open PySem PySem.Spec PyProof.Rows
end L2
namespace Jb
open PySem L2
inductive Row {α : Type} (F : (Addr → Prop) → (Addr → Prop) → V → α → Prop) : (Addr → Prop) → (Addr → Prop) → List V → List α → Prop
  | nil {N M} : (∀ a, N a → M a) → Row F N M [] []
  | cons {N N' M v j vs js} : (∀ a, N a → N' a) → F N N' v j → Row F N' M vs js → Row F N M (v :: vs) (j :: js)
def OJob (H : Hp) : (d : Nat) → (Addr → Prop) → (Addr → Prop) → V → Job d → Prop
  | 0, N, M, v, b => BasN (fun a => N a ∨ ¬ M a) H v b
  | _ + 1, N, M, v, .inl b => BasN (fun a => N a ∨ ¬ M a) H v b
  | d + 1, N, M, v, .inr (n, js) => n ≤ 1000 ∧ js.length ≤ 1000 ∧ ∃ t p xs, v = .ref t ∧ H t = some (.tup [.str "times", .int (n : Int), .ref p]) ∧ ¬ N p ∧ M p ∧ H p = some (.lst xs) ∧ Row (OJob H d) (fun a => N a ∨ a = p) M xs js
section
variable {α : Type} {F G : (Addr → Prop) → (Addr → Prop) → V → α → Prop} {N M M' : Addr → Prop}
theorem Row.sub {xs : List V} {js : List α} (h : Row F N M xs js) : ∀ a, N a → M a := by
  induction h with
  | nil h => exact h
  | cons h _ _ ih => exact fun a z => ih a (h a z)
theorem Row.snoc {xs : List V} {js : List α} {v : V} {j : α} (h : Row F N M xs js) : (∀ a, M a → M' a) → F M M' v j → (∀ N1 N2 : Addr → Prop, (∀ a, N1 a → N2 a) → F N2 M' v j → F N1 M' v j) → Row F N M' (xs ++ [v]) (js ++ [j]) := by
  induction h with
  | nil h => exact fun w f k => .cons (fun a z => w a (h a z)) (k _ _ h f) (.nil fun _ z => z)
  | cons h f _ ih => exact fun w g k => .cons h f (ih w g k)
theorem Row.mono {xs : List V} {js : List α} (h : Row F N M xs js) : (∀ N1 N2 v j, (∀ a, N a → N1 a) → F N1 N2 v j → G N1 N2 v j) → Row G N M xs js := by
  induction h with
  | nil h => exact fun _ => .nil h
  | cons h f _ ih => exact fun w => .cons h (w _ _ _ _ (fun _ z => z) f) (ih fun N1 N2 v j z => w N1 N2 v j fun a y => z a (h a y))
theorem Row.low {N0 : Addr → Prop} {xs : List V} {js : List α} (h : Row F N M xs js) (w : ∀ a, N0 a → N a) (k : ∀ N2 v j, F N N2 v j → F N0 N2 v j) : Row F N0 M xs js := by
  cases h with
  | nil h => exact .nil fun a z => h a (w a z)
  | cons h f t => exact .cons (fun a z => h a (w a z)) (k _ _ _ f) t
theorem Row.pd {f : V → α → Prop} {xs : List V} {js : List α} (h : Row F N M xs js) : (∀ N1 N2 v j, (∀ a, N a → N1 a) → F N1 N2 v j → f v j) → Paired f xs js := by
  induction h with
  | nil _ => exact fun _ => .nil
  | cons h g _ ih => exact fun w => .cons (w _ _ _ _ (fun _ z => z) g) (ih fun N1 N2 v j z => w N1 N2 v j fun a y => z a (h a y))
end
theorem OJob.low {H : Hp} {N N0 M : Addr → Prop} (w : ∀ a, N0 a → N a) : ∀ (d : Nat) {v : V} {j : Job d}, OJob H d N M v j → OJob H d N0 M v j
  | 0, _, _, h => BasN.to (SameS.of (Same.refl _)) (fun p _ _ n z => n (z.elim (fun y => .inl (w p y)) .inr)) h
  | _ + 1, _, .inl _, h => BasN.to (SameS.of (Same.refl _)) (fun p _ _ n z => n (z.elim (fun y => .inl (w p y)) .inr)) h
  | d + 1, _, .inr (_, _), h => by
    obtain ⟨b1, b2, t, p, xs, e, z, n, m, y, r⟩ := h
    exact ⟨b1, b2, t, p, xs, e, z, fun q => n (w p q), m, y, r.low (fun a q => q.elim (fun y => .inl (w a y)) .inr) fun N2 v j f => OJob.low (fun a q => q.elim (fun y => .inl (w a y)) .inr) d f⟩
theorem OJob.same {H H' : Hp} {S : Addr → Prop} (s : SameS S H H') : ∀ (d : Nat) {N M : Addr → Prop} {v : V} {j : Job d}, (∀ a, S a → N a) → OJob H d N M v j → OJob H' d N M v j
  | 0, _, _, _, _, w, h => BasN.to (s.weak fun a z => .inl (w a z)) (fun _ _ _ n => n) h
  | _ + 1, _, _, _, .inl _, w, h => BasN.to (s.weak fun a z => .inl (w a z)) (fun _ _ _ n => n) h
  | d + 1, _, _, _, .inr (_, _), w, h => by
    obtain ⟨b1, b2, t, p, xs, e, z, n, m, y, r⟩ := h
    exact ⟨b1, b2, t, p, xs, e, s.tup _ _ z, n, m, s.lst _ _ (fun q => n (w p q)) y, r.mono fun N1 N2 v j q f => OJob.same s d (fun a y => q a (.inl (w a y))) f⟩
theorem OJob.job {H : Hp} : ∀ (d : Nat) {N M : Addr → Prop} {v : V} {j : Job d}, OJob H d N M v j → JobN N H d v j
  | 0, _, _, _, _, h => BasN.to (SameS.of (Same.refl _)) (fun _ _ _ n z => n (.inl z)) h
  | _ + 1, _, _, _, .inl _, h => BasN.to (SameS.of (Same.refl _)) (fun _ _ _ n z => n (.inl z)) h
  | d + 1, _, _, _, .inr (_, _), h => by
    obtain ⟨b1, b2, t, p, xs, e, z, n, m, y, r⟩ := h
    exact ⟨b1, b2, t, p, xs, e, z, n, y, r.pd fun N1 N2 v j q f => JobN.weak (fun a y => q a (.inl y)) d (OJob.job d f)⟩
abbrev Rw (H : Hp) (d : Nat) (N M : Addr → Prop) (xs : List V) (js : List (Job d)) : Prop := Row (OJob H d) N M xs js
theorem Rw.same {H H' : Hp} {S : Addr → Prop} {d : Nat} {N M : Addr → Prop} {xs : List V} {js : List (Job d)} (h : Rw H d N M xs js) (s : SameS S H H') (w : ∀ a, S a → N a) : Rw H' d N M xs js :=
  Row.mono h fun _ _ _ _ q f => OJob.same s d (fun a y => q a (w a y)) f
theorem Rw.low {H : Hp} {d : Nat} {N N0 M : Addr → Prop} {xs : List V} {js : List (Job d)} (h : Rw H d N M xs js) (w : ∀ a, N0 a → N a) : Rw H d N0 M xs js :=
  Row.low h w fun _ _ _ f => OJob.low w d f
theorem Rw.snoc {H : Hp} {d : Nat} {N M M' : Addr → Prop} {xs : List V} {js : List (Job d)} {v : V} {j : Job d} (h : Rw H d N M xs js) (w : ∀ a, M a → M' a) (f : OJob H d M M' v j) : Rw H d N M' (xs ++ [v]) (js ++ [j]) :=
  Row.snoc h w f fun _ _ z g => OJob.low z d g
theorem Rw.hd {H : Hp} {d : Nat} {N M : Addr → Prop} {xs : List V} {js : List (Job d)} (h : Rw H d N M xs js) {v : V} {k : Nat} (e : xs[k]? = some v) : ∃ j N1 N2, js[k]? = some j ∧ (∀ a, N a → N1 a) ∧ (∀ a, N1 a → N2 a) ∧ (∀ a, N2 a → M a) ∧ OJob H d N1 N2 v j := by
  induction h generalizing k with
  | nil _ => cases e
  | @cons N N' M v0 j0 vs js h1 f t ih =>
    cases k with
    | zero => cases e; exact ⟨j0, N, N', rfl, fun _ z => z, h1, t.sub, f⟩
    | succ k => obtain ⟨j, N1, N2, q1, q2, q3, q4, q5⟩ := ih e; exact ⟨j, N1, N2, q1, fun a z => q2 a (h1 a z), q3, q4, q5⟩
end Jb
namespace L2
open PySem PySem.Spec PyProof.Rows
section
variable {X : Cx}
def tJ4 (t1 t2 t3 t4 : TE) : TE := fun σ H Q => t1 σ H fun a1 H1 => ∃ x1 : Str, a1 = .str x1 ∧ x1.length ≤ 2000 ∧ t2 σ H1 fun a2 H2 => ∃ x2 : Str, a2 = .str x2 ∧ x2.length ≤ 2000 ∧ t3 σ H2 fun a3 H3 => ∃ x3 : Str, a3 = .str x3 ∧ x3.length ≤ 2000 ∧ t4 σ H3 fun a4 H4 => ∃ x4 : Str, a4 = .str x4 ∧ x4.length ≤ 2000 ∧ ∀ x, Q (.str x) H4
def tJ6 (t1 t2 t3 t4 t5 t6 : TE) : TE := fun σ H Q => t1 σ H fun a1 H1 => ∃ x1 : Str, a1 = .str x1 ∧ x1.length ≤ 2000 ∧ t2 σ H1 fun a2 H2 => ∃ x2 : Str, a2 = .str x2 ∧ x2.length ≤ 2000 ∧ t3 σ H2 fun a3 H3 => ∃ x3 : Str, a3 = .str x3 ∧ x3.length ≤ 2000 ∧ t4 σ H3 fun a4 H4 => ∃ x4 : Str, a4 = .str x4 ∧ x4.length ≤ 2000 ∧ t5 σ H4 fun a5 H5 => ∃ x5 : Str, a5 = .str x5 ∧ x5.length ≤ 2000 ∧ t6 σ H5 fun a6 H6 => ∃ x6 : Str, a6 = .str x6 ∧ x6.length ≤ 2000 ∧ ∀ x, Q (.str x) H6
def tFmtR (tv : TE) : TE := fun σ H Q => tv σ H fun v H1 => ∃ y : Str, v = .str y ∧ (reprText y).length ≤ 2000 ∧ ∀ x : Str, x.length ≤ 2000 → Q (.str x) H1
theorem pe_fmtR {value : Expr} {pos : Pos} {tv : TE} (hv : PE X value tv) : PE X (.FormattedValue value 114 none pos) (tFmtR tv) := by
  intro pins s σ H Q I h
  refine wpAny_FormattedValue_repr (thn (hv pins s σ H _ I h) fun v s1 ⟨y, H1, I1, ry, z, ey, hl, q⟩ => ?_)
  subst ey
  obtain ⟨t, rfl⟩ := ry
  refine wpAny_pyReprObj_str ?_ (smallL (by omega))
  exact wpAny_formatField_str ⟨.str _, H1, I1.tok _, ⟨_, rfl⟩, q _ hl⟩ ⟨.str _, H1, (I1.tok _).tok _, ⟨_, rfl⟩, q _ hl⟩ (smallL (by omega))
end
end L2
namespace Cp
open PySem L2 Jb Lns
theorem line_sum : ∀ {ws : List Str}, ws ≠ [] → (ws.map (·.length)).sum + ws.length = (lineT ws).length + 1
  | [], h => absurd rfl h
  | [x], _ => by
    rw [line_one]
    show x.length + 0 + 1 = _
    omega
  | x :: y :: r, _ => by
    have ih := line_sum (ws := y :: r) (fun z => nomatch z)
    have e : (lineT (x :: y :: r)).length = x.length + 1 + (lineT (y :: r)).length := by
      rw [line_cons x (ys := y :: r) (fun z => nomatch z), ← show (x ++ " " ++ lineT (y :: r)).cps.toList.length = (x ++ " " ++ lineT (y :: r)).length from Array.length_toList, app_list, app_list, List.length_append, List.length_append]
      show x.cps.toList.length + 1 + (lineT (y :: r)).cps.toList.length = _
      rw [show x.cps.toList.length = x.length from Array.length_toList, show (lineT (y :: r)).cps.toList.length = (lineT (y :: r)).length from Array.length_toList]
    rw [e, List.map_cons, List.sum_cons, List.length_cons]
    omega
theorem mem_sum {x : Str} : ∀ {ws : List Str}, x ∈ ws → x.length ≤ (ws.map (·.length)).sum
  | y :: r, h => by
    rw [List.map_cons, List.sum_cons]
    rcases List.mem_cons.mp h with e | e
    · rw [e]; omega
    · have := mem_sum e; omega
theorem line_mem {x : Str} {ws : List Str} (h : x ∈ ws) : x.length ≤ (lineT ws).length := by
  have hne : ws ≠ [] := fun z => by rw [z] at h; cases h
  have h1 := line_sum hne
  have h2 := mem_sum h
  have h3 := List.length_pos_iff.mpr hne
  omega
theorem line_small {ws : List Str} (h : (lineT ws).length ≤ 90000) : (ws.map (·.length)).sum + ws.length * (Str.ofString " ").length ≤ 16777216 := by
  have h3 : (Str.ofString " ").length = 1 := by decide +kernel
  rw [h3, Nat.mul_one]
  by_cases hne : ws = []
  · subst hne
    show 0 + 0 ≤ _
    omega
  · have := line_sum hne
    omega
theorem line_split (x : Str) : lineT (Txt.split x " ") = x := by
  rw [lineT_join]
  exact StrLaws.join_split _ _
theorem split_signs {x : Str} {p : Nat → Prop} (h : ∀ c ∈ x.cps.toList, p c) : ∀ y ∈ Txt.split x " ", ∀ c ∈ y.cps.toList, p c := by
  have hj : ∀ {ws : List Str} {y : Str}, y ∈ ws → ∀ c ∈ y.cps.toList, c ∈ (Str.join ⟨#[32]⟩ ws).cps.toList := by
    intro ws
    induction ws with
    | nil => intro y hy; cases hy
    | cons a r ih =>
      intro y hy c hc
      cases r with
      | nil => rw [List.mem_singleton.mp hy] at hc; exact hc
      | cons b r =>
        show c ∈ (a ++ ⟨#[32]⟩ ++ Str.join ⟨#[32]⟩ (b :: r)).cps.toList
        rw [app_list, app_list]
        rcases List.mem_cons.mp hy with e | e
        · rw [e] at hc; exact List.mem_append_left _ (List.mem_append_left _ hc)
        · exact List.mem_append_right _ (ih e c hc)
  intro y hy c hc
  have e : Str.join ⟨#[32]⟩ (Txt.split x " ") = x := StrLaws.join_split _ _
  have := hj hy c hc
  rw [e] at this
  exact h c this
end Cp
namespace Cp
open PySem L2 Jb Lns
theorem rdJs_app : ∀ {d : Nat} {js : List (Job d)}, (∀ j ∈ js, GoodJ d j) → ∀ rest : List Str, rdJs d (tells d js ++ rest) = (rdJs d rest).map fun z => (js ++ z.1, (tells d js).length + z.2)
  | d, [], _, rest => by
    show rdJs d rest = (rdJs d rest).map fun z => ([] ++ z.1, 0 + z.2)
    cases rdJs d rest with
    | none => rfl
    | some z => show some z = some ([] ++ z.1, 0 + z.2); rw [Nat.zero_add]; rfl
  | d, j :: js, g, rest => by
    have e : tells d (j :: js) ++ rest = tellJ d j ++ (tells d js ++ rest) := by
      show (j :: js).flatMap (tellJ d) ++ rest = _
      rw [List.flatMap_cons, List.append_assoc]
    have h1 := rdJ_tell d j (tells d js ++ rest) (g j List.mem_cons_self)
    have h2 := rdJs_app (js := js) (fun x hx => g x (List.mem_cons_of_mem _ hx)) rest
    have hd' := tell_head d j (tells d js ++ rest) (g j List.mem_cons_self)
    have el : (tells d (j :: js)).length = (tellJ d j).length + (tells d js).length := by
      show ((j :: js).flatMap (tellJ d)).length = _
      rw [List.flatMap_cons, List.length_append]
    rw [rdJs_step, e, hd', h1]
    show (rdJs d ((tellJ d j ++ (tells d js ++ rest)).drop (tellJ d j).length)).map _ = _
    rw [List.drop_left, h2, el]
    cases rdJs d rest with
    | none => rfl
    | some z =>
      show some (j :: (js ++ z.1), (tellJ d j).length + ((tells d js).length + z.2)) = some (j :: js ++ z.1, (tellJ d j).length + (tells d js).length + z.2)
      rw [Nat.add_assoc]
      rfl
theorem rdC_app {js : List (Job 4)} (g : ∀ j ∈ js, GoodJ 4 j) {rest : List Str} (h : rdC rest = none) : rdC (tells 4 js ++ rest) = none := by
  unfold rdC at h ⊢
  rw [rdJs_app g]
  cases e : rdJs 4 rest with
  | none => rfl
  | some z =>
    obtain ⟨js2, k⟩ := z
    rw [e] at h
    dsimp only at h
    show (if (tells 4 js).length + k < (tells 4 js ++ rest).length then none else some (js ++ js2)) = none
    by_cases hk : k < rest.length
    · rw [if_pos (by rw [List.length_append]; omega)]
    · rw [if_neg hk] at h; cases h
theorem rdB_isB {r : List Str} {z : Bas × Nat} (h : rdB r = some z) : isB r = true := by
  unfold rdB at h
  unfold isB
  by_cases h1 : hd r 0 = "measure"
  · rw [decide_eq_true h1]; rfl
  rw [if_neg h1] at h
  by_cases h2 : hd r 0 = "gaps"
  · rw [decide_eq_true h2, Bool.or_true]; rfl
  rw [if_neg h2] at h
  by_cases h3 : hd r 0 = "set"
  · rw [decide_eq_true h3, Bool.or_true]
  rw [if_neg h3] at h
  cases h
theorem rdJs_up' {d : Nat} (hj : ∀ {r : List Str} {j : Job d} {k : Nat}, rdJ d r = some (j, k) → ∃ j', rdJ (d + 1) r = some (j', k)) : ∀ (n : Nat) {r : List Str} {js : List (Job d)} {k : Nat}, r.length ≤ n → rdJs d r = some (js, k) → ∃ js', rdJs (d + 1) r = some (js', k) ∧ js'.length = js.length := by
  intro n
  induction n with
  | zero =>
    intro r js k hn h
    have e : r = [] := List.length_eq_zero_iff.mp (by omega)
    subst e
    rw [rdJs_step, if_pos (show stops [] = true by rfl)] at h
    cases h
    exact ⟨[], by rw [rdJs_step, if_pos (show stops [] = true by rfl)], rfl⟩
  | succ n ih =>
    intro r js k hn h
    rw [rdJs_step] at h
    by_cases hs : stops r = true
    · rw [if_pos hs] at h
      cases h
      exact ⟨[], by rw [rdJs_step, if_pos hs], rfl⟩
    · rw [if_neg hs] at h
      cases e : rdJ d r with
      | none => rw [e] at h; cases h
      | some z =>
        obtain ⟨x, k1⟩ := z
        rw [e] at h
        dsimp only at h
        obtain ⟨⟨js2, k2⟩, h2, e2⟩ := Option.map_eq_some_iff.mp h
        cases e2
        have hl := rdJ_len d e
        obtain ⟨js3, h3, h4⟩ := ih (r := r.drop k1) (by rw [List.length_drop]; omega) h2
        obtain ⟨j', hj'⟩ := hj e
        refine ⟨j' :: js3, ?_, by rw [List.length_cons, List.length_cons, h4]⟩
        rw [rdJs_step, if_neg hs, hj']
        dsimp only
        rw [h3]
        rfl
theorem rdT_up {d : Nat} {r : List Str} {m : Nat} {js : List (Job d)} {k : Nat} (hg : ∀ {r : List Str} {js : List (Job d)} {k : Nat}, rdJs d r = some (js, k) → ∃ js', rdJs (d + 1) r = some (js', k) ∧ js'.length = js.length) (h : rdT (fun r => rdJs d r) r = some ((m, js), k)) : ∃ js', rdT (fun r => rdJs (d + 1) r) r = some ((m, js'), k) := by
  unfold rdT at h ⊢
  cases e1 : rdN (hd r 0) 1 9 with
  | none => rw [e1] at h; cases h
  | some mm =>
  rw [e1] at h
  dsimp only at h ⊢
  by_cases e2 : hd r 1 = "times" ∧ hd r 2 = "("
  · rw [if_pos e2] at h ⊢
    cases e3 : rdJs d (r.drop 3) with
    | none => rw [e3] at h; cases h
    | some z =>
    obtain ⟨js', k'⟩ := z
    rw [e3] at h
    dsimp only at h
    by_cases e4 : js' = []
    · rw [if_pos e4] at h; cases h
    rw [if_neg e4] at h
    by_cases e5 : hd r (3 + k') = ")"
    · rw [if_pos e5] at h
      cases h
      obtain ⟨js2, h2, h3⟩ := hg e3
      refine ⟨js2, ?_⟩
      rw [h2]
      dsimp only
      rw [if_neg (fun z => e4 (List.length_eq_zero_iff.mp (by rw [← h3, z]; rfl))), if_pos e5]
    · rw [if_neg e5] at h; cases h
  · rw [if_neg e2] at h; cases h
theorem rdJ_up : ∀ (d : Nat) {r : List Str} {j : Job d} {k : Nat}, rdJ d r = some (j, k) → ∃ j', rdJ (d + 1) r = some (j', k)
  | 0, r, j, k, h => by
    have h : rdB r = some (j, k) := h
    refine ⟨.inl j, ?_⟩
    unfold rdJ
    rw [if_pos (rdB_isB h), h]
    rfl
  | d + 1, r, j, k, h => by
    unfold rdJ at h
    by_cases hb : isB r = true
    · rw [if_pos hb] at h
      obtain ⟨z, hz, e⟩ := Option.map_eq_some_iff.mp h
      cases e
      refine ⟨.inl z.1, ?_⟩
      unfold rdJ
      rw [if_pos hb, hz]
      rfl
    · rw [if_neg hb] at h
      obtain ⟨⟨⟨m, js⟩, k'⟩, hz, e⟩ := Option.map_eq_some_iff.mp h
      cases e
      obtain ⟨js', h'⟩ := rdT_up (fun {r js k} h => rdJs_up' (rdJ_up d) r.length (Nat.le_refl _) h) hz
      refine ⟨.inr (m, js'), ?_⟩
      rw [rdJ, if_neg hb]
      show (rdT (fun r => rdJs (d + 1) r) r).map _ = _
      rw [h']
      rfl
theorem rdJs_up {d : Nat} {r : List Str} {js : List (Job d)} {k : Nat} (h : rdJs d r = some (js, k)) : ∃ js', rdJs (d + 1) r = some (js', k) := by
  obtain ⟨js', h', _⟩ := rdJs_up' (rdJ_up d) r.length (Nat.le_refl _) h
  exact ⟨js', h'⟩
theorem rdJ_bad : ∀ (d : Nat) {r : List Str}, isB r = false → isNum (hd r 0) = false → rdJ d r = none
  | 0, r, h, _ => by
    show rdB r = none
    cases e : rdB r with
    | none => rfl
    | some z => rw [rdB_isB e] at h; cases h
  | d + 1, r, h, h2 => by
    rw [rdJ, if_neg (by rw [h]; decide)]
    unfold rdT rdN
    rw [if_neg fun z => by rw [h2] at z; exact absurd z.1 (by decide)]
    rfl
theorem rdJs_bad {d : Nat} {r : List Str} (hs : stops r = false) (h : isB r = false) (h2 : isNum (hd r 0) = false) : rdJs d r = none := by
  rw [rdJs_step, if_neg (by rw [hs]; decide), rdJ_bad d h h2]
theorem rdC_none {r : List Str} (h : rdJs 4 r = none) : rdC r = none := by
  unfold rdC
  rw [h]
theorem rdC_in {n : Str} {r : List Str} (hn : isNum n = true) (hb : ∀ {js k}, rdJs 4 r = some (js, k) → hd r k ≠ ")" ∨ ((rdC (r.drop (k + 1))).isNone = true)) : rdC ([n, Str.ofString "times", Str.ofString "("] ++ r) = none := by
  have hnn := num_not hn
  have hs : stops ([n, Str.ofString "times", Str.ofString "("] ++ r) = false := by
    show (decide (_ :: _ = []) || decide (n = Str.ofString ")")) = false
    rw [decide_eq_false (fun z => nomatch z), decide_eq_false hnn.2.2.2]
    rfl
  have hB : isB ([n, Str.ofString "times", Str.ofString "("] ++ r) = false := by
    show (decide (n = Str.ofString "measure") || decide (n = Str.ofString "gaps") || decide (n = Str.ofString "set")) = false
    rw [decide_eq_false hnn.1, decide_eq_false hnn.2.1, decide_eq_false hnn.2.2.1]
    rfl
  have hrest : ∀ k, ([n, Str.ofString "times", Str.ofString "("] ++ r).drop (4 + k) = r.drop (k + 1) := fun k => by
    show (n :: Str.ofString "times" :: Str.ofString "(" :: r).drop (4 + k) = _
    rw [show 4 + k = (k + 1) + 1 + 1 + 1 by omega, List.drop_succ_cons, List.drop_succ_cons, List.drop_succ_cons]
  have hlen : ([n, Str.ofString "times", Str.ofString "("] ++ r).length = r.length + 3 := by rw [List.length_append]; show 3 + _ = _; omega
  unfold rdC
  rw [rdJs_step, if_neg (by rw [hs]; decide)]
  cases e : rdJ 4 ([n, Str.ofString "times", Str.ofString "("] ++ r) with
  | none => rfl
  | some z =>
    obtain ⟨x, k⟩ := z
    dsimp only
    rw [rdJ, if_neg (by rw [hB]; decide)] at e
    obtain ⟨⟨⟨m, js⟩, k'⟩, hz, e2⟩ := Option.map_eq_some_iff.mp e
    cases e2
    have hz : rdT (fun r => rdJs 3 r) ([n, Str.ofString "times", Str.ofString "("] ++ r) = some ((m, js), k') := hz
    unfold rdT at hz
    cases e1 : rdN (hd ([n, Str.ofString "times", Str.ofString "("] ++ r) 0) 1 9 with
    | none => rw [e1] at hz; cases hz
    | some mm =>
    rw [e1] at hz
    dsimp only at hz
    rw [if_pos ⟨rfl, rfl⟩] at hz
    have hdr : ([n, Str.ofString "times", Str.ofString "("] ++ r).drop 3 = r := rfl
    rw [hdr] at hz
    cases e3 : rdJs 3 r with
    | none => rw [e3] at hz; cases hz
    | some y =>
    obtain ⟨js', k''⟩ := y
    rw [e3] at hz
    dsimp only at hz
    by_cases e4 : js' = []
    · rw [if_pos e4] at hz; cases hz
    rw [if_neg e4] at hz
    by_cases e5 : hd ([n, Str.ofString "times", Str.ofString "("] ++ r) (3 + k'') = ")"
    · rw [if_pos e5] at hz
      cases hz
      obtain ⟨js4, h4⟩ := rdJs_up e3
      have e6 : hd r k'' = ")" := by
        rw [← hdr, hd_drop]
        exact e5
      rcases hb h4 with q | q
      · exact absurd e6 q
      · rw [hrest]
        unfold rdC at q
        cases e7 : rdJs 4 (r.drop (k'' + 1)) with
        | none => rfl
        | some y =>
          obtain ⟨js5, k5⟩ := y
          rw [e7] at q
          dsimp only at q
          by_cases e8 : k5 < (r.drop (k'' + 1)).length
          · show (if 4 + k'' + k5 < _ then none else some _) = none
            rw [List.length_drop] at e8
            rw [if_pos (by rw [hlen]; omega)]
          · rw [if_neg e8] at q; cases q
    · rw [if_neg e5] at hz; cases hz
theorem rdC_open {js : List (Job 4)} (g : ∀ j ∈ js, GoodJ 4 j) {n : Str} (hn : isNum n = true) : rdC ([n, Str.ofString "times", Str.ofString "("] ++ tells 4 js) = none := by
  refine rdC_in hn fun {js' k} h => .inl ?_
  have h2 := rdJs_tell 4 js [] g rfl
  rw [List.append_nil, h] at h2
  cases h2
  unfold hd
  rw [List.getElem?_eq_none (Nat.le_refl _)]
  decide +kernel
def odd11 (o : List Str) : Bool := match rdJs 4 (o ++ [Str.ofString ")"]) with
  | none => true
  | some (_, k) => !decide (hd (o ++ [Str.ofString ")"]) k = ")") || (rdC ((o ++ [Str.ofString ")"]).drop (k + 1))).isNone
theorem rdC_odd11 {js : List (Job 4)} (g : ∀ j ∈ js, GoodJ 4 j) {n : Str} (hn : isNum n = true) {o : List Str} (ho : odd11 o = true) : rdC ([n, Str.ofString "times", Str.ofString "("] ++ (tells 4 js ++ (o ++ [Str.ofString ")"]))) = none := by
  refine rdC_in hn fun {js' k} h => ?_
  rw [rdJs_app g] at h
  obtain ⟨⟨js2, k2⟩, h2, e2⟩ := Option.map_eq_some_iff.mp h
  cases e2
  unfold odd11 at ho
  rw [h2] at ho
  dsimp only at ho ⊢
  rcases Bool.or_eq_true_iff.mp ho with q | q
  · refine .inl fun z => ?_
    have e : hd (tells 4 js ++ (o ++ [Str.ofString ")"])) ((tells 4 js).length + k2) = hd (o ++ [Str.ofString ")"]) k2 := by
      unfold hd
      rw [List.getElem?_append_right (Nat.le_add_right _ _), Nat.add_sub_cancel_left]
    rw [e] at z
    rw [decide_eq_true z] at q
    cases q
  · refine .inr ?_
    rw [Nat.add_assoc, List.drop_append]
    rw [List.drop_of_length_le (by omega), List.nil_append, Nat.add_sub_cancel_left]
    exact q
theorem rdB_semi {b : Bas} (g : GoodB b) {us : List Str} {w y : Str} (h : tellB b = us ++ [w]) (hy : isNum y = false) (hy2 : isSet y = false) (hy3 : y ≠ "end") : rdB (us ++ [y]) = none := by
  cases b with
  | ms n =>
    have h : [Str.ofString "measure"] ++ [numT n] = us ++ [w] := h
    obtain ⟨rfl, _⟩ := List.append_inj' h rfl
    show (rdN y 1 2000).map _ = none
    unfold rdN
    rw [if_neg fun z => by rw [hy] at z; exact absurd z.1 (by decide)]
    rfl
  | gp a b c =>
    have h : [Str.ofString "gaps", numT a, numT b] ++ [numT c] = us ++ [w] := h
    obtain ⟨rfl, _⟩ := List.append_inj' h rfl
    have m1 : ¬ (Str.ofString "gaps" = Str.ofString "measure") := by decide +kernel
    unfold rdB
    show (if Str.ofString "gaps" = Str.ofString "measure" then _ else if Str.ofString "gaps" = Str.ofString "gaps" then rdG _ else _) = _
    rw [if_neg m1, if_pos rfl]
    unfold rdG
    show (match rdN (numT a) 0 99 with | none => none | some lo => match rdN (numT b) lo 99 with | none => none | some ideal => (rdN y ideal 99).map fun hi => (Bas.gp lo ideal hi, 4)) = _
    cases rdN (numT a) 0 99 with
    | none => rfl
    | some lo =>
      dsimp only
      cases rdN (numT b) lo 99 with
      | none => rfl
      | some ideal =>
        dsimp only
        unfold rdN
        rw [if_neg fun z => by rw [hy] at z; exact absurd z.1 (by decide)]
        rfl
  | st ws =>
    have h : (Str.ofString "set" :: ws) ++ [Str.ofString "end"] = us ++ [w] := h
    obtain ⟨rfl, _⟩ := List.append_inj' h rfl
    have m1 : ¬ (Str.ofString "set" = Str.ofString "measure") := by decide +kernel
    have m2 : ¬ (Str.ofString "set" = Str.ofString "gaps") := by decide +kernel
    unfold rdB
    have h0 : hd (Str.ofString "set" :: ws ++ [y]) 0 = "set" := rfl
    rw [h0, if_neg m1, if_neg m2, if_pos rfl]
    have hw : setW (Str.ofString "set" :: ws ++ [y]) = ws := tw_app (r := []) (fun x hx => set_ok (g.2.2 x hx)) hy2
    have hh : hd (Str.ofString "set" :: ws ++ [y]) (ws.length + 1) = y := by
      show ((ws ++ [y])[ws.length]?).getD "" = _
      rw [List.getElem?_append_right (Nat.le_refl _), Nat.sub_self]
      rfl
    unfold rdS
    rw [hw, hh, if_neg hy3]
    split <;> rfl
theorem isB_semi {b : Bas} {us : List Str} {w y : Str} (h : tellB b = us ++ [w]) : isB (us ++ [y]) = true := by
  cases b with
  | ms n =>
    have h : [Str.ofString "measure"] ++ [numT n] = us ++ [w] := h
    obtain ⟨rfl, _⟩ := List.append_inj' h rfl
    show (decide (Str.ofString "measure" = Str.ofString "measure") || _ || _) = true
    rw [decide_eq_true rfl]
    rfl
  | gp a b c =>
    have h : [Str.ofString "gaps", numT a, numT b] ++ [numT c] = us ++ [w] := h
    obtain ⟨rfl, _⟩ := List.append_inj' h rfl
    show (_ || decide (Str.ofString "gaps" = Str.ofString "gaps") || _) = true
    rw [decide_eq_true (rfl : Str.ofString "gaps" = Str.ofString "gaps"), Bool.or_true]
    rfl
  | st ws =>
    have h : (Str.ofString "set" :: ws) ++ [Str.ofString "end"] = us ++ [w] := h
    obtain ⟨rfl, _⟩ := List.append_inj' h rfl
    show (_ || _ || decide (Str.ofString "set" = Str.ofString "set")) = true
    rw [decide_eq_true (rfl : Str.ofString "set" = Str.ofString "set"), Bool.or_true]
structure Bad (y : Str) : Prop where
  n : isNum y = false
  s : isSet y = false
  e : y ≠ "end"
  c : y ≠ ")"
  m : y ≠ "measure"
  g : y ≠ "gaps"
  t : y ≠ "set"
theorem bad_semi (w : Str) : Bad (w ++ ";") := by
  have hm : 59 ∈ (w ++ ";").cps.toList := by
    rw [app_list]
    exact List.mem_append_right _ (by decide +kernel)
  have ne : ∀ {z : Str}, 59 ∉ z.cps.toList → w ++ ";" ≠ z := fun h e => h (by rw [← e]; exact hm)
  refine ⟨?_, ?_, ne (by decide +kernel), ne (by decide +kernel), ne (by decide +kernel), ne (by decide +kernel), ne (by decide +kernel)⟩
  · cases h : isNum (w ++ ";") with
    | false => rfl
    | true =>
      unfold isNum at h
      simp only [Bool.and_eq_true] at h
      have := List.all_eq_true.mp h.2 59 hm
      revert this
      decide
  · cases h : isSet (w ++ ";") with
    | false => rfl
    | true =>
      unfold isSet at h
      simp only [Bool.and_eq_true] at h
      have := of_decide_eq_true (List.all_eq_true.mp h.2 59 hm)
      revert this
      decide +kernel
theorem Bad.isB {y : Str} (h : Bad y) (r : List Str) : isB (y :: r) = false := by
  show (decide (y = Str.ofString "measure") || decide (y = Str.ofString "gaps") || decide (y = Str.ofString "set")) = false
  rw [decide_eq_false h.m, decide_eq_false h.g, decide_eq_false h.t]
  rfl
theorem Bad.stops {y : Str} (h : Bad y) (r : List Str) : stops (y :: r) = false := by
  show (decide (_ :: _ = []) || decide (y = Str.ofString ")")) = false
  rw [decide_eq_false (fun z => nomatch z), decide_eq_false h.c]
  rfl
theorem bas_semi {b : Bas} (g : GoodB b) {us : List Str} {w y : Str} (h : tellB b = us ++ [w]) (hy : Bad y) : stops (us ++ [y]) = false ∧ isB (us ++ [y]) = true ∧ rdB (us ++ [y]) = none := by
  refine ⟨?_, isB_semi h, rdB_semi g h hy.n hy.s hy.e⟩
  have hb := isB_semi (y := y) h
  cases hs : stops (us ++ [y]) with
  | false => rfl
  | true =>
    exfalso
    unfold Cp.stops at hs
    rcases Bool.or_eq_true_iff.mp hs with z | z
    · have := of_decide_eq_true z
      exact absurd (List.append_eq_nil_iff.mp this).2 (fun z => nomatch z)
    · have z := of_decide_eq_true z
      unfold Cp.isB at hb
      rw [z] at hb
      revert hb
      decide +kernel
theorem rdJ_semi : ∀ (d : Nat) (j : Job d) {us : List Str} {w y : Str}, GoodJ d j → tellJ d j = us ++ [w] → Bad y → stops (us ++ [y]) = false ∧ rdJ d (us ++ [y]) = none
  | 0, b, us, w, y, g, h, hy => by
    obtain ⟨h1, _, h3⟩ := bas_semi (b := b) g h hy
    exact ⟨h1, h3⟩
  | _ + 1, .inl b, us, w, y, g, h, hy => by
    obtain ⟨h1, h2, h3⟩ := bas_semi (b := b) g h hy
    refine ⟨h1, ?_⟩
    unfold rdJ
    rw [if_pos h2, h3]
    rfl
  | d + 1, .inr (n, js), us, w, y, g, h, hy => by
    obtain ⟨g1, g2, g3, g4, g5⟩ := g
    have h : ([numT (n : Int), Str.ofString "times", Str.ofString "("] ++ tells d js) ++ [Str.ofString ")"] = us ++ [w] := h
    obtain ⟨rfl, _⟩ := List.append_inj' h rfl
    have hn := num_is (n := (n : Int)) (by omega) (by omega)
    have hnn := num_not hn
    refine ⟨?_, ?_⟩
    · show (decide (_ :: _ = []) || decide (numT (n : Int) = Str.ofString ")")) = false
      rw [decide_eq_false (fun z => nomatch z), decide_eq_false hnn.2.2.2]
      rfl
    · have hB : isB (([numT (n : Int), Str.ofString "times", Str.ofString "("] ++ tells d js) ++ [y]) = false := by
        show (decide (numT (n : Int) = Str.ofString "measure") || decide (numT (n : Int) = Str.ofString "gaps") || decide (numT (n : Int) = Str.ofString "set")) = false
        rw [decide_eq_false hnn.1, decide_eq_false hnn.2.1, decide_eq_false hnn.2.2.1]
        rfl
      rw [rdJ, if_neg (by rw [hB]; decide)]
      have h0 : rdJs d (tells d js ++ [y]) = none := by
        rw [rdJs_app g5, rdJs_bad (hy.stops []) (hy.isB []) hy.n]
        rfl
      have e : rdT (fun r => rdJs d r) (([numT (n : Int), Str.ofString "times", Str.ofString "("] ++ tells d js) ++ [y]) = none := by
        have hdr : (([numT (n : Int), Str.ofString "times", Str.ofString "("] ++ tells d js) ++ [y]).drop 3 = tells d js ++ [y] := rfl
        unfold rdT
        rw [hdr]
        dsimp only
        rw [h0]
        cases rdN (hd (([numT (n : Int), Str.ofString "times", Str.ofString "("] ++ tells d js) ++ [y]) 0) 1 9 with
        | none => rfl
        | some m =>
          dsimp only
          split <;> rfl
      show (rdT (fun r => rdJs d r) (([numT (n : Int), Str.ofString "times", Str.ofString "("] ++ tells d js) ++ [y])).map _ = none
      rw [e]
      rfl
theorem rdC_semi {js : List (Job 4)} (g : ∀ j ∈ js, GoodJ 4 j) {us : List Str} {w y : Str} (h : tells 4 js = us ++ [w]) (hy : Bad y) : rdC (us ++ [y]) = none := by
  have hne : js ≠ [] := fun z => by
    rw [z] at h
    have h : [] = us ++ [w] := h
    exact absurd (List.append_eq_nil_iff.mp h.symm).2 (fun z => nomatch z)
  obtain ⟨js0, j, rfl⟩ : ∃ a b, js = a ++ [b] := ⟨js.dropLast, js.getLast hne, (List.dropLast_concat_getLast hne).symm⟩
  have e : tells 4 (js0 ++ [j]) = tells 4 js0 ++ tellJ 4 j := by
    show (js0 ++ [j]).flatMap _ = _
    rw [List.flatMap_append, List.flatMap_cons, List.flatMap_nil, List.append_nil]
  obtain ⟨us', w', hj⟩ : ∃ a b, tellJ 4 j = a ++ [b] := ⟨_, _, (List.dropLast_concat_getLast (tell_ne 4 j)).symm⟩
  rw [e, hj, ← List.append_assoc] at h
  obtain ⟨rfl, _⟩ := List.append_inj' h rfl
  rw [List.append_assoc]
  refine rdC_app (fun x hx => g x (List.mem_append_left _ hx)) (rdC_none ?_)
  obtain ⟨h1, h2⟩ := rdJ_semi 4 j (g j (List.mem_append_right _ List.mem_cons_self)) hj hy
  rw [rdJs_step, h1, h2]
  rfl
theorem rdC_blank2 (w : Str) (r : List Str) : rdC (w :: Str.ofString "" :: r) = none := by
  have hN : ∀ lo hi, rdN (Str.ofString "") lo hi = none := fun lo hi => by
    unfold rdN
    rw [if_neg fun z => by rw [num_empty] at z; exact absurd z.1 (by decide)]
  have hB : rdB (w :: Str.ofString "" :: r) = none := by
    unfold rdB
    show (if w = "measure" then (rdN (Str.ofString "") 1 2000).map _ else if w = "gaps" then rdG _ else if w = "set" then rdS _ else none) = none
    split
    · rw [hN]; rfl
    · split
      · unfold rdG
        have h1 : hd (w :: Str.ofString "" :: r) 1 = Str.ofString "" := rfl
        rw [h1, hN]
      · split
        · unfold rdS
          have : setW (w :: Str.ofString "" :: r) = [] := by
            show (Str.ofString "" :: r).takeWhile isSet = []
            rw [List.takeWhile_cons, show isSet (Str.ofString "") = false by decide +kernel]
            rfl
          rw [if_pos this]
        · rfl
  have hJ : rdJ 4 (w :: Str.ofString "" :: r) = none := by
    rw [rdJ, hB]
    split
    · rfl
    · have e : rdT (fun r => rdL (rdJ 3) (r.length + 1) r) (w :: Str.ofString "" :: r) = none := by
        unfold rdT
        have h1 : ¬ hd (w :: Str.ofString "" :: r) 1 = "times" := by
          show ¬ Str.ofString "" = Str.ofString "times"
          decide +kernel
        cases rdN (hd (w :: Str.ofString "" :: r) 0) 1 9 with
        | none => rfl
        | some m =>
          dsimp only
          rw [if_neg fun z => h1 z.1]
      rw [e]
      rfl
  unfold rdC
  rw [rdJs_step, hJ]
  split
  · rfl
  · rename_i js k h
    split at h
    · cases h
      rw [if_pos (by rw [List.length_cons]; omega)]
    · cases h
def dbl : List Str → List Str
  | [] => []
  | [w] => [w]
  | w :: y :: r => w :: Str.ofString "" :: dbl (y :: r)
theorem dbl_ne (y : Str) (r : List Str) : dbl (y :: r) ≠ [] := by
  cases r with
  | nil => exact fun z => nomatch z
  | cons a r => exact fun z => nomatch z
theorem dbl_len : ∀ ws : List Str, (dbl ws).length ≤ 2 * ws.length
  | [] => Nat.le_refl _
  | [_] => by show 1 ≤ 2; decide
  | w :: y :: r => by
    have := dbl_len (y :: r)
    show (dbl (y :: r)).length + 1 + 1 ≤ 2 * ((y :: r).length + 1)
    omega
theorem dbl_mem {x : Str} : ∀ {ws : List Str}, x ∈ dbl ws → x ∈ ws ∨ x = Str.ofString ""
  | [], h => nomatch h
  | [_], h => .inl h
  | w :: y :: r, h => by
    have h : x ∈ w :: Str.ofString "" :: dbl (y :: r) := h
    rcases List.mem_cons.mp h with e | h
    · exact .inl (by rw [e]; exact List.mem_cons_self)
    · rcases List.mem_cons.mp h with e | h
      · exact .inr e
      · rcases dbl_mem h with q | q
        · exact .inl (List.mem_cons_of_mem _ q)
        · exact .inr q
theorem dbl_line : ∀ ws : List Str, lineT (dbl ws) = Str.join ⟨#[32, 32]⟩ ws
  | [] => rfl
  | [w] => by
    show lineT [w] = w
    exact line_one w
  | w :: y :: r => by
    have ih := dbl_line (y :: r)
    show lineT (w :: Str.ofString "" :: dbl (y :: r)) = w ++ ⟨#[32, 32]⟩ ++ Str.join ⟨#[32, 32]⟩ (y :: r)
    rw [line_cons w (ys := Str.ofString "" :: dbl (y :: r)) (List.cons_ne_nil _ _), line_cons _ (dbl_ne y r), ih]
    apply str_ext
    rw [app_list, app_list, app_list, app_list, app_list, app_list]
    show w.cps.toList ++ [32] ++ ([] ++ [32] ++ _) = w.cps.toList ++ [32, 32] ++ _
    simp
theorem tells_two {js : List (Job 4)} (hne : js ≠ []) : ∃ a b r, tells 4 js = a :: b :: r := by
  cases js with
  | nil => exact absurd rfl hne
  | cons j js =>
    have hb : ∀ b : Bas, ∃ x y r, tellB b = x :: y :: r := fun b => by
      cases b with
      | ms n => exact ⟨_, _, _, rfl⟩
      | gp a b c => exact ⟨_, _, _, rfl⟩
      | st ws => cases ws with
        | nil => exact ⟨_, _, _, rfl⟩
        | cons w ws => exact ⟨_, _, _, rfl⟩
    have hj : ∃ x y r, tellJ 4 j = x :: y :: r := by
      cases j with
      | inl b => exact hb b
      | inr p => exact ⟨_, _, _, rfl⟩
    obtain ⟨x, y, r, e⟩ := hj
    refine ⟨x, y, r ++ tells 4 js, ?_⟩
    show (j :: js).flatMap (tellJ 4) = _
    rw [List.flatMap_cons, e]
    rfl
theorem rdC_dbl {js : List (Job 4)} (hne : js ≠ []) : rdC (dbl (tells 4 js)) = none := by
  obtain ⟨a, b, r, e⟩ := tells_two hne
  rw [e]
  exact rdC_blank2 a _
theorem rdC_head {w : Str} {r : List Str} (hy : isNum w = false) (h1 : isB (w :: r) = false) : rdC (w :: r) = none := by
  unfold rdC
  rw [rdJs_step, rdJ_bad 4 h1 hy]
  split
  · rfl
  · rename_i js k h
    split at h
    · cases h
      rw [if_pos (by rw [List.length_cons]; omega)]
    · cases h
end Cp
namespace L2
open PySem PySem.Spec PyProof.Rows PySem.Builtin
section
variable {X : Cx}
def PE1 (X : Cx) (e : Expr) (t : TE) : Prop :=
  ∀ (pins : List (Addr × Obj)) (s : Shared) (σ : St) (H : Hp) (Q : VK), Inv X pins σ H s → t σ H Q → wpAny (model X.prog X.w) X.A (eval e X.env) (fun u s' => EP X pins σ Q u s' ∧ 1 ≤ s'.toks) X.xe s
def PE2 (X : Cx) (e : Expr) (t : TE) : Prop :=
  ∀ (pins : List (Addr × Obj)) (s : Shared) (σ : St) (H : Hp) (Q : VK), Inv X pins σ H s → 1 ≤ s.toks → t σ H Q → wpAny (model X.prog X.w) X.A (eval e X.env) (EP X pins σ Q) X.xe s
theorem pa_two {e1 e2 : Expr} {es : List Expr} {t1 t2 : TE} {t : TA} (h1 : PE1 X e1 t1) (h2 : PE2 X e2 t2) (hr : PA X es t) (hs1 : starEach (e1 :: e2 :: es) X.env = (false, eval e1 X.env) :: (false, eval e2 X.env) :: starEach es X.env := by rfl) : PA X (e1 :: e2 :: es) (tCons t1 (tCons t2 t)) := by
  intro pos pins s σ H Q I h
  rw [hs1]
  show wpAny _ _ (spliced ((false, eval e1 X.env) :: (false, eval e2 X.env) :: backTo pos (starEach es X.env))) _ _ s
  refine Calls.spliced_cons (thn (h1 pins s σ H _ I h) fun u s1 ⟨⟨x, H1, I1, r1, q1⟩, k1⟩ => ?_)
  refine Calls.spliced_cons (thn (h2 pins s1 σ H1 _ I1 k1 q1) fun u2 s2 ⟨x2, H2, I2, r2, q2⟩ => ?_)
  exact thn (hr pos pins s2 σ H2 _ I2 q2) fun us s3 ⟨xs, H3, I3, r3, q3⟩ => ⟨x :: x2 :: xs, H3, I3, .cons r1 (.cons r2 r3), q3⟩
theorem var_same {i : Nat} {x : Str} {pos : Pos} (hN : X.N[i]? = some x) (hv : Vis X.env.scope x) {pins : List (Addr × Obj)} {s : Shared} {σ : St} {H : Hp} (I : Inv X pins σ H s) {v : V} (e : σ[i]? = some (some v)) {Q : Value → Shared → Prop} (q : ∀ u, RelV v u → Q u s)
    (hd : (x == ("__debug__" : Str)) = false := by decide) (hcd : (x == ("__classdict__" : Str)) = false := by decide) : wpAny (model X.prog X.w) X.A (eval (.Name x pos) X.env) Q X.xe s := by
  obtain ⟨m, hn, hl⟩ := I.loc
  obtain ⟨u, r, l⟩ := hl i x v hN e hv
  have fin : Q u s := q u r
  rcases l with ⟨hk, hm⟩ | ⟨hk, c, hc, hcell⟩
  · exact wpAny_Name (wpAny_loadName_local I.ok.kind hk hn hm fin) hd
  · rcases hk with hk | hk
    · exact wpAny_Name (wpAny_loadName_cell I.ok.kind hk hc hcell fin) hd
    · exact wpAny_Name (wpAny_loadName_free I.ok.kind hk hc hcell fin hcd) hd
def rAddS : R2 := fun x y H Q => ∃ i j, x = .str i ∧ y = .str j ∧ i.length + j.length ≤ sizeLine ∧ Q (.str (i ++ j)) H
theorem str_nil {x : Str} (h : (x.length == 0) = true) : x = "" := by
  have h : x.cps.size = 0 := eq_of_beq h
  exact Str.ext' (Array.eq_empty_of_size_eq_zero h)
theorem pe1_add {y : Str} {j : Nat} {p1 p2 pos : Pos} (i : Nat) {x : Str} (hN : X.N[i]? = some x := by rfl) (hv : Vis X.env.scope x := by first | exact Or.inl rfl | exact Or.inr (Or.inl rfl) | exact Or.inr (Or.inr rfl)) (hd : (x == ("__debug__" : Str)) = false := by decide) (hcd : (x == ("__classdict__" : Str)) = false := by decide) :
    PE1 X (.BinOp (.Constant (.str y) j p1) .Add (.Name x p2) pos) (tOp rAddS (tC (.str y)) (tVar i)) := by
  intro pins s σ H Q I h
  obtain ⟨v, e, a, b, ea, rfl, hz, q⟩ := h
  cases ea
  refine wpAny_BinOp (Calls.Constant_str ?_)
  have I1 : Inv X pins σ H { s with toks := s.toks + 1 } := I.tok _
  refine var_same hN hv I1 e (fun u ru => ?_) hd hcd
  obtain ⟨t, rfl⟩ := ru
  refine PySem.P.add_str ?_
  have hk : (1 : Nat) ≤ s.toks + 1 := Nat.succ_le_succ (Nat.zero_le _)
  split
  · rename_i h0
    have e0 : y ++ b = b := by
      rw [str_nil h0]
      apply Lns.str_ext
      rw [Lns.app_list]
      rfl
    exact ⟨⟨.str (y ++ b), H, I1, ⟨t, by rw [e0]⟩, q⟩, hk⟩
  · split
    · rename_i h0
      have e0 : y ++ b = y := by
        rw [str_nil h0]
        apply Lns.str_ext
        rw [Lns.app_list]
        exact List.append_nil _
      exact ⟨⟨.str (y ++ b), H, I1, ⟨s.toks, by rw [e0]⟩, q⟩, hk⟩
    · refine ⟨?_, ⟨.str (y ++ b), H, I1.tok _, ⟨_, rfl⟩, q⟩, Nat.le_succ_of_le hk⟩
      have e1 : (y ++ b).cps.toList.length = (y ++ b).length := Array.length_toList
      have e2 : y.cps.toList.length = y.length := Array.length_toList
      have e3 : b.cps.toList.length = b.length := Array.length_toList
      rw [← e1, Lns.app_list, List.length_append, e2, e3]
      exact hz
def rRepl : V → List V → Hp → VK → Prop := fun x xs H Q => ∃ a b c, x = .str a ∧ xs = [.str b, .str c] ∧ b ≠ c ∧ a.length ≤ 1048576 ∧ c.length ≤ 14 ∧ Q (.str (Txt.replace a b c)) H
theorem pe2_repl {K : PySem.W.Frag} {y z : Str} {j1 j2 : Nat} {p1 p2 p3 apos cpos : Pos} (i : Nat) {x : Str} (hN : X.N[i]? = some x := by rfl) (hv : Vis X.env.scope x := by first | exact Or.inl rfl | exact Or.inr (Or.inl rfl) | exact Or.inr (Or.inr rfl))
    (hbase : attributeBase (.Name x p1) "replace" X.env (eval (.Name x p1) X.env) = eval (.Name x p1) X.env := by rfl)
    (hline : (apos.endLine == cpos.line) = true := by rfl) (hd : (x == ("__debug__" : Str)) = false := by decide) (hcd : (x == ("__classdict__" : Str)) = false := by decide) :
    PE2 X (.Call (.Attribute (.Name x p1) "replace" apos) [.Constant (.str y) j1 p2, .Constant (.str z) j2 p3] [] cpos) (tBM K "str" rRepl (tVar i) (tCons (tC (.str y)) (tCons (tC (.str z)) tNil))) := by
  intro pins s σ H Q I hk h
  obtain ⟨v, e, ty, a, b, c, rfl, exs, hne, ha, hc, q⟩ := h
  cases exs
  refine wpAny_Call_method_late hbase rfl hline rfl (var_same hN hv I e (fun u ru => ?_) hd hcd)
  obtain ⟨t, rfl⟩ := ru
  refine ⟨"str", "str.replace", PySem.F.plainAttrs_str, PySem.F.slot_str_replace, PySem.F.type_str_replace, typeIs_str _ _ _, fun _ e => (nomatch e), ?_⟩
  refine Calls.callWith_builtin rfl (Calls.evalArgs_plain ?_)
  refine Calls.spliced_cons (Calls.Constant_str (k := j1) (pos := p2) (Calls.spliced_cons (Calls.Constant_str (k := j2) (pos := p3) (Calls.spliced_nil ?_))))
  refine SC.replaceW (by show s.toks ≠ 0; omega) (by show s.toks + 1 ≠ 0; omega) (by show s.toks ≠ s.toks + 1; omega) (beq_eq_false_iff_ne.mpr hne) ha hc fun t' k => ?_
  exact ⟨.str _, H, (I.tok _), ⟨_, rfl⟩, q⟩
end
end L2
namespace L2
open PySem PySem.Spec PyProof.Rows
section
variable {X : Cx}
theorem joins_step {v : Expr} {t : TE} (h : PE X v t) {pins : List (Addr × Obj)} {s : Shared} {σ : St} {H : Hp} {acc : Str} {n : Nat} {rest : List (Sem Value)} {Qj : Str → Shared → Prop} {R : Hp → Prop} (I : Inv X pins σ H s)
    (q : t σ H fun a H1 => ∃ x : Str, a = .str x ∧ x.length ≤ 2000 ∧ R H1) (ha : acc.length ≤ n) (hn : (n + 2000).ble 100000 = true)
    (hr : ∀ (x : Str) (s1 : Shared) (H1 : Hp), Inv X pins σ H1 s1 → R H1 → (acc ++ x).length ≤ n + 2000 → Joins (model X.prog X.w) X.A X.xe rest (acc ++ x) Qj s1) : Joins (model X.prog X.w) X.A X.xe (eval v X.env :: rest) acc Qj s := by
  refine thn (h pins s σ H _ I q) fun a s1 z => ?_
  obtain ⟨y, H1, I1, r1, x, e, l, q1⟩ := z
  subst e
  obtain ⟨t1, rfl⟩ := r1
  have hl : (acc ++ x).length ≤ n + 2000 := by rw [Str.length_append]; exact Nat.add_le_add ha l
  exact ⟨x, t1, rfl, Nat.le_trans hl (smallL (Nat.le_of_ble_eq_true hn)), hr x s1 H1 I1 q1 hl⟩
theorem joins_end {pins : List (Addr × Obj)} {s : Shared} {σ : St} {H : Hp} {acc : Str} {n : Nat} {Q : VK} (I : Inv X pins σ H s) (q : ∀ x, Q (.str x) H) (ha : acc.length ≤ n) (hn : n.ble 100000 = true) :
    Joins (model X.prog X.w) X.A X.xe (evalEach [] X.env) acc (fun out s₁ => out.length ≤ sizeLine ∧ EP X pins σ Q (.str out s₁.toks) { s₁ with toks := s₁.toks + 1 }) s :=
  ⟨Nat.le_trans ha (smallL (Nat.le_of_ble_eq_true hn)), .str _, H, I.tok _, ⟨_, rfl⟩, q _⟩
theorem pe_k2 {v1 v2 : Expr} {pos : Pos} {t1 t2 : TE} (h1 : PE X v1 t1) (h2 : PE X v2 t2) : PE X (.JoinedStr [v1, v2] pos) (tJ2 t1 t2) := fun _ _ _ _ _ I h =>
  wpAny_JoinedStr (joins_step h1 I h (Nat.le_refl 0) rfl fun _ _ _ I1 q1 l1 => joins_step h2 I1 q1 l1 rfl fun _ _ _ I2 q2 l2 => joins_end I2 q2 l2 rfl)
theorem pe_k3 {v1 v2 v3 : Expr} {pos : Pos} {t1 t2 t3 : TE} (h1 : PE X v1 t1) (h2 : PE X v2 t2) (h3 : PE X v3 t3) : PE X (.JoinedStr [v1, v2, v3] pos) (tJ3 t1 t2 t3) := fun _ _ _ _ _ I h =>
  wpAny_JoinedStr (joins_step h1 I h (Nat.le_refl 0) rfl fun _ _ _ I1 q1 l1 => joins_step h2 I1 q1 l1 rfl fun _ _ _ I2 q2 l2 => joins_step h3 I2 q2 l2 rfl fun _ _ _ I3 q3 l3 => joins_end I3 q3 l3 rfl)
theorem pe_k4 {v1 v2 v3 v4 : Expr} {pos : Pos} {t1 t2 t3 t4 : TE} (h1 : PE X v1 t1) (h2 : PE X v2 t2) (h3 : PE X v3 t3) (h4 : PE X v4 t4) : PE X (.JoinedStr [v1, v2, v3, v4] pos) (tJ4 t1 t2 t3 t4) := fun _ _ _ _ _ I h =>
  wpAny_JoinedStr (joins_step h1 I h (Nat.le_refl 0) rfl fun _ _ _ I1 q1 l1 => joins_step h2 I1 q1 l1 rfl fun _ _ _ I2 q2 l2 => joins_step h3 I2 q2 l2 rfl fun _ _ _ I3 q3 l3 => joins_step h4 I3 q3 l3 rfl fun _ _ _ I4 q4 l4 => joins_end I4 q4 l4 rfl)
theorem pe_k5 {v1 v2 v3 v4 v5 : Expr} {pos : Pos} {t1 t2 t3 t4 t5 : TE} (h1 : PE X v1 t1) (h2 : PE X v2 t2) (h3 : PE X v3 t3) (h4 : PE X v4 t4) (h5 : PE X v5 t5) : PE X (.JoinedStr [v1, v2, v3, v4, v5] pos) (tJ5 t1 t2 t3 t4 t5) := fun _ _ _ _ _ I h =>
  wpAny_JoinedStr (joins_step h1 I h (Nat.le_refl 0) rfl fun _ _ _ I1 q1 l1 => joins_step h2 I1 q1 l1 rfl fun _ _ _ I2 q2 l2 => joins_step h3 I2 q2 l2 rfl fun _ _ _ I3 q3 l3 => joins_step h4 I3 q3 l3 rfl fun _ _ _ I4 q4 l4 => joins_step h5 I4 q4 l4 rfl fun _ _ _ I5 q5 l5 => joins_end I5 q5 l5 rfl)
theorem pe_k6 {v1 v2 v3 v4 v5 v6 : Expr} {pos : Pos} {t1 t2 t3 t4 t5 t6 : TE} (h1 : PE X v1 t1) (h2 : PE X v2 t2) (h3 : PE X v3 t3) (h4 : PE X v4 t4) (h5 : PE X v5 t5) (h6 : PE X v6 t6) : PE X (.JoinedStr [v1, v2, v3, v4, v5, v6] pos) (tJ6 t1 t2 t3 t4 t5 t6) := fun _ _ _ _ _ I h =>
  wpAny_JoinedStr (joins_step h1 I h (Nat.le_refl 0) rfl fun _ _ _ I1 q1 l1 => joins_step h2 I1 q1 l1 rfl fun _ _ _ I2 q2 l2 => joins_step h3 I2 q2 l2 rfl fun _ _ _ I3 q3 l3 => joins_step h4 I3 q3 l3 rfl fun _ _ _ I4 q4 l4 => joins_step h5 I4 q4 l4 rfl fun _ _ _ I5 q5 l5 => joins_step h6 I5 q5 l5 rfl fun _ _ _ I6 q6 l6 => joins_end I6 q6 l6 rfl)
end
end L2
namespace Hd
open PySem PySem.W PyProof.Rows L2
noncomputable section
abbrev qr (n : Nat) : Value := .ref n
abbrev qi (n : Nat) : Value := .int (Int.ofNat n) 0
abbrev qs (x : String) (t : Nat) : Value := .str (Str.ofString x) t
abbrev qt (x : String) : Value := .type x
abbrev qb (x : String) : Value := .builtin x
abbrev qe (P : Params) (x : String) (t : Nat) (v : Value) : DictEntry := ⟨PyData.keyHash P (Str.ofString x), .str (Str.ofString x) t, v⟩
abbrev qF (x y : String) (st : Stmt) (dV kV doc pm : Value) (an : Option Addr) (cd ct : Value) : Data := .func (fnOf (Str.ofString x) (Str.ofString y) (defArgs st) (defBody st) (defScope st) dV kV doc pm an cd ct)
abbrev qG (g b : Addr) (x y : String) (st : Stmt) (dV kV doc pm : Value) (an : Option Addr) (cd ct : Value) : Data := .func { name := Str.ofString x, qualname := Str.ofString y, params := defArgs st, body := .stmts (defBody st), scope := defScope st, globals := g, closure := [], defaults := dV, kwdefaults := kV, doc, pyModule := pm, annotations := an, code := cd, closureTuple := ct, builtins := b }
abbrev qT (l : List Value) : Obj := ⟨.type "tuple", .none, .seq l.toArray 0, #[]⟩
abbrev qN (l : List Value) : Obj := ⟨.none, .none, .fields l.toArray, #[]⟩
abbrev qf (x y : String) (st : Stmt) (pm cd : Value) : Obj := ⟨.type "function", .none, qF x y st .none .none .none pm .none cd .none, #[]⟩
abbrev qg (x y : String) (st : Stmt) : Obj := ⟨.none, .none, qG 0 0 x y st .none .none .none .none .none .none .none, #[]⟩
abbrev qC (x y : String) (t l a b d f r1 : Nat) (g : Bool) (r2 : Nat) (v1 v2 v3 v4 : Value) (k t3 : Nat) : Obj := ⟨.type "code", .none, .fields #[qs x t, qs y (t + 1), qs "/claim/cut.py" (t + 2), qi l, qi a, qi b, qi d, qi f, qr r1, .bool g, qi 181, qr r2, v1, v2, v3, v4, qi k, qi l, qs "/claim/cut.py" t3], #[]⟩
structure HD where
  N : Nat
  n1 : Nat
  n2 : Nat
  n3 : Nat
  n4 : Nat
  d1 : Drawn
  k1 : Nat
  d2 : Drawn
  k2 : Nat
  d3 : Drawn
  k3 : Nat
  many : Nat
  few : Nat
  fp : Pos
  p1 : Pos
  p2 : Pos
  p3 : Pos
  cd : Value
  fr : Nat
  ann : Option Value
def alt : List Obj → List Obj × List Obj
  | [] => ([], [])
  | a :: l => let r := alt l; (a :: r.2, r.1)
def tree : Nat → List Obj → BT
  | 0, _ => .nil
  | n + 1, l => match l with
    | [] => .nil
    | a :: l => let r := alt l; .node a (tree n r.1) (tree n r.2)
abbrev envH (p : Program) (D : HD) : Env := { scope := p.main.scope, locals := mainNs, globals := mainNs, cells := [], code := D.cd, frame := some D.fr }
abbrev codeH (p : Program) (D : HD) : Code := .body (behindTheImports p) (envH p D)
abbrev S0 (w : World) (os : OsState) : Shared := ⟨boot_heap w.params, Array.mk [], boot_drawn, boot_toks, os⟩
abbrev SA (D : HD) (L : Life) (A : Params → List Obj) (w : World) (os : OsState) : Shared := ⟨⟨⟨A w.params⟩, L⟩, Array.mk [], D.d1, D.k1, os⟩
abbrev SB (D : HD) (L : Life) (A : Params → List Obj) (w : World) (os : OsState) : SharedT := ⟨tree 12 (A w.params), D.few, L, Array.mk [], D.d2, D.k2, os⟩
abbrev SC (D : HD) (L : Life) (O : Params → List Obj) (w : World) (os : OsState) : SharedT := ⟨tree 12 (O w.params), D.many, L, Array.mk [], D.d3, D.k3, os⟩
abbrev SF (D : HD) (L : Life) (O : Params → List Obj) (w : World) (os : OsState) : Shared := ⟨⟨⟨O w.params⟩, L⟩, Array.mk [], D.d3, D.k3, os⟩
abbrev tbF := PySem.W.Fast.tw14364793385576792824
abbrev Pre (p : Program) (D : HD) (L : Life) (A : Params → List Obj) : Prop := ∀ (w : World) (os : OsState), PySem.W.Fast.tw15667345088766844465 tbF p w 11 D.ann D.n1 (S0 w os) (topStub p) =
  some (SA D L A w os, ⟨PySem.W.Fast.tw11892475500146522536 tbF (codeH p D), codeH p D, D.p1, [topFrame D.fp]⟩)
abbrev Blk (p : Program) (D : HD) (L : Life) (A : Params → List Obj) : Prop := ∀ (w : World) (os : OsState), PySem.W.Fast.tw14374325043358763698 tbF p w 11 D.ann 1 (D.n2 + 1) (SA D L A w os) (blockOf (behindTheImports p) (envH p D) (codeH p D) D.p1 [topFrame D.fp]) =
  some (.next, (SB D L A w os).abs, codeH p D, D.p2)
abbrev Go (p : Program) (D : HD) (L : Life) (A O : Params → List Obj) : Prop := ∀ (w : World) (os : OsState), PySem.W.Fast.tw10110043849684766642 tbF p w 11 D.ann 1 (D.n3 + 1) (SB D L A w os) (piecesOf (behindTheImports p) (envH p D) (codeH p D) D.p2 [topFrame D.fp]) =
  some (.next, SC D L O w os, codeH p D, D.p3)
abbrev Fin (p : Program) (D : HD) (L : Life) (O : Params → List Obj) : Prop := ∀ (w : World) (os : OsState), PySem.W.Fast.tw14082659384304107361 tbF p w 11 D.ann (D.n4 + 1) (SC D L O w os).abs ⟨doneF .next, codeH p D, D.p3, [topFrame D.fp]⟩ = some (SF D L O w os)
theorem te_tb : treeTable = tbF := PySem.W.Fast.te14364793385576792824
theorem run_of {p : Program} {D : HD} {L : Life} {A O : Params → List Obj} (h1 : Pre p D L A) (h2 : Blk p D L A) (h3 : Go p D L A O) (h4 : Fin p D L O) (w : World) (os : OsState) :
    topRun treeTable p w 11 D.ann (D.n1 + ((D.n2 + 1) + ((D.n3 + 1) + (D.n4 + 1)))) (S0 w os) (topStub p) = some (SF D L O w os) := by
  have e1 : topGo treeTable p w 11 D.ann D.n1 (S0 w os) (topStub p) = some (SA D L A w os, ⟨denote treeTable (codeH p D), codeH p D, D.p1, [topFrame D.fp]⟩) := by
    rw [PySem.W.Fast.te15667345088766844465, PySem.W.Fast.te11892475500146522536, te_tb]; exact h1 w os
  have e2 : segRun treeTable p w 11 D.ann 1 (D.n2 + 1) (SA D L A w os) (blockOf (behindTheImports p) (envH p D) (codeH p D) D.p1 [topFrame D.fp]) = some (.next, (SB D L A w os).abs, codeH p D, D.p2) := by
    rw [PySem.W.Fast.te14374325043358763698, te_tb]; exact h2 w os
  have e3 : segRunT treeTable p w 11 D.ann 1 (D.n3 + 1) (SB D L A w os) (piecesOf (behindTheImports p) (envH p D) (codeH p D) D.p2 [topFrame D.fp]) = some (.next, SC D L O w os, codeH p D, D.p3) := by
    rw [PySem.W.Fast.te10110043849684766642, te_tb]; exact h3 w os
  have e4 : topRun treeTable p w 11 D.ann (D.n4 + 1) (SC D L O w os).abs ⟨doneF .next, codeH p D, D.p3, [topFrame D.fp]⟩ = some (SF D L O w os) := by
    rw [PySem.W.Fast.te14082659384304107361, te_tb]; exact h4 w os
  refine go_top e1 (piece_block e2 ?_)
  have := piece_app (rest := []) (segRun_of e3) (piece_nil (env := envH p D) e4)
  rw [List.append_nil] at this
  exact this
abbrev HF (L : Life) (O : Params → List Obj) (w : World) : Heap := ⟨⟨O w.params⟩, L⟩
abbrev imF := PySem.W.Fast.tw5923862056798008813
theorem te_im : importedModules = imF := PySem.W.Fast.te5923862056798008813
abbrev Lk1 (p : Program) (D : HD) (L : Life) (O : Params → List Obj) : Prop := ∀ (w : World) (os : OsState),
  (staticsOk (imF p.main.body) (boot_heap w.params) (HF L O w) && namesBound p (HF L O w) && gensDone (SF D L O w os) && laidKept (boot_heap w.params) (HF L O w)) = true
abbrev Lk2 (p q : Program) (D : HD) (L : Life) (O : Params → List Obj) (Xt : Shared → Bool) : Prop := ∀ (w : World) (os : OsState),
  PySem.W.Fast.tw4187177175401517315 q [] (imF p.main.body) Xt true (SF D L O w os) = openGood q []
abbrev Lk3 (D : HD) (L : Life) (O : Params → List Obj) (K : Params → Frag) (as : List Addr) : Prop := ∀ (w : World) (os : OsState),
  as.map (SF D L O w os).heap.get? = (K w.params).map fun x => some x.2
theorem boot_size (w : World) (D : HD) (ha : D.ann = some (.ref 6)) : ((boot_heap w.params).isNs mainGlobals && (Array.mk [] : Array GenState).size == 0, (boot_heap w.params).objs.size, (boot_heap w.params).nsMap mainGlobals "__annotations__") = (true, 11, D.ann) := by
  rw [ha]; kernel_rfl
theorem left_of {p q : Program} {D : HD} {L : Life} {A O : Params → List Obj} {Xt : Shared → Bool} {K : Params → Frag} {as : List Addr} {N : Nat} {e : ∀ P, as = (K P).map (·.1)}
    (h0 : opening p = plainProg p.main.scope.names) (h0' : ∀ s, fenceModules? p s = some s) (h6 : Nat.ble 600 N = true) (ha : D.ann = some (.ref 6)) (hn : Nat.ble (D.n1 + ((D.n2 + 1) + ((D.n3 + 1) + (D.n4 + 1)))) N = true)
    (h1 : Pre p D L A) (h2 : Blk p D L A) (h3 : Go p D L A O) (h4 : Fin p D L O) (l1 : Lk1 p D L O) (l2 : Lk2 p q D L O Xt) (l3 : Lk3 D L O K as) :
    LeftO p q [] Xt (Hook.obs (kHook K as e)) (Hook.val (kHook K as e)) N :=
  LeftO.of_pieces (H₀ := boot_heap) (H₁ := fun P => ⟨⟨O P⟩, L⟩) (gs₀ := Array.mk []) (gs₁ := Array.mk []) (d₁ := D.d3) (k₁ := D.k3) (m₀ := 11) (ann := D.ann) (boot_open h0 h6 h0') (fun w => boot_size w D ha) (run_of h1 h2 h3 h4) hn fun w => funext fun os => by
    have a1 := l1 w os
    have a2 := l2 w os
    rw [← te_im] at a1 a2
    rw [← PySem.W.Fast.te4187177175401517315] at a2
    exact looks_pair a1 (looks_pair a2 (l3 w os))
abbrev saidF := PySem.W.Fast.tw9446332074065402090
abbrev defPos (s : Stmt) : Pos := match s with
  | .FunctionDef _ _ _ _ _ _ _ _ _ p => p
  | _ => ⟨0, 0, 0, 0⟩
abbrev recOf (x : String) (s : Stmt) : DefRec := ⟨Str.ofString x, defArgs s, defBody s, defScope s, defPos s⟩
abbrev XtH (l : OpenLaw) (q : Program) : Shared → Bool := fun s => xlAt q [] s && recOk (RowW.records l.row.toRowW) s
theorem holds {l : OpenLaw} {q : Program} {K : Params → Frag} {as : List Addr} {e : ∀ P, as = (K P).map (·.1)} {N : Nat} {x : String} {st : Stmt} (said : saidF l = true)
    (left : LeftO l.row.prog q [] (XtH l q) (Hook.obs (kHook K as e)) (Hook.val (kHook K as e)) N) (hdef : defOf q l.row.name = some (recOf x st, []))
    (hp : l.row.prog.theDef l.row.name = some (defArgs st, defBody st, defScope st)) (hk : kwWritten? (defArgs st).kwonlyargs (defArgs st).kw_defaults = some []) (hwr : (!l.row.writes || l.row.records.isEmpty) = true)
    (ok : (chainsOk q && opensWell l.row.prog && (frees l.row.toRowW && l.row.within.isEmpty)) = true) (hb : l.row.prog.bare) (hw : l.row.toRowW.promised)
    (call : WalkO q [] (XL q []) (Hook.says (kHook K as e)) l.row.toRowW (recOf x st) [] fun f vs => PySem.call f vs) : l.Holds :=
  have said : l.wellSaid = true := (congrFun PySem.W.Fast.te9446332074065402090 l).trans said
  holds_law said fun rs => holds_open (d := recOf x st) (kwd := []) left (Hook.of _) (Hook.keeps _) (fun s z => xl_of s (Bool.and_eq_true_iff.mp z).1) XL.keeps hdef hp hk (fun s z => recFacts_of (Bool.and_eq_true_iff.mp z).2) hwr rs ok hb hw call
end
end Hd
namespace L2
open PySem
/-- behind a statement the rest and the names are lets: the proofs' terms stay small -/
theorem hideSeq {t u : TS} {D : Ends} {σ : St} {H : Hp} (h : let D' : Ends := { D with nx := u D }; t D' σ H) : tSeq t u D σ H := h
theorem hideAll {t u : TS} {D : Ends} {σ : St} {H : Hp} (h : let D' : Ends := { D with nx := u D }; let σ' : St := σ; t D' σ' H) : tSeq t u D σ H := h
theorem exE {α β : Type} {f : β} {g : α → β} {P : α → Prop} {w : α} (e : f = g w) (h : P w) : ∃ v, f = g v ∧ P v := ⟨w, e, h⟩
theorem gNameH {i : Nat} {v : V} {σ : St} {H : Hp} {Q : St → Hp → Prop} (h : Q (σ.set i (some v)) H) : gName i v σ H Q := h
end L2
namespace Lw
open PySem L2
set_option maxHeartbeats 4000000
section

def top (i : Nat) : Stmt := PySem.Challenge.pw_linecaster_k29_no_copy.main.body.getD i (.Pass ⟨0, 0, 0, 0⟩)
abbrev s_is_sign : Stmt := top 14
theorem sc_is_sign : FnScope ["text"] ["text"] (defScope s_is_sign) := ⟨rfl, rfl, rfl, by decide +kernel, rfl, by decide +kernel, by decide +kernel⟩
abbrev s_is_number : Stmt := top 18
theorem sc_is_number : FnScope ["word"] ["word"] (defScope s_is_number) := ⟨rfl, rfl, rfl, by decide +kernel, rfl, by decide +kernel, by decide +kernel⟩
abbrev s_is_set_word : Stmt := top 19
theorem sc_is_set_word : FnScope ["word"] ["word"] (defScope s_is_set_word) := ⟨rfl, rfl, rfl, by decide +kernel, rfl, by decide +kernel, by decide +kernel⟩
abbrev s_word_at : Stmt := top 20
theorem sc_word_at : FnScope ["words", "at"] ["words", "at"] (defScope s_word_at) := ⟨rfl, rfl, rfl, by decide +kernel, rfl, by decide +kernel, by decide +kernel⟩
abbrev s_read_number : Stmt := top 21
theorem sc_read_number : FnScope ["words", "at", "low", "high", "word"] ["words", "at", "low", "high"] (defScope s_read_number) := ⟨rfl, rfl, rfl, by decide +kernel, rfl, by decide +kernel, by decide +kernel⟩
abbrev s_look_for : Stmt := top 22
theorem sc_look_for : FnScope ["words", "at", "word"] ["words", "at", "word"] (defScope s_look_for) := ⟨rfl, rfl, rfl, by decide +kernel, rfl, by decide +kernel, by decide +kernel⟩
abbrev s_read_measure : Stmt := top 23
theorem sc_read_measure : FnScope ["words", "at"] ["words", "at"] (defScope s_read_measure) := ⟨rfl, rfl, rfl, by decide +kernel, rfl, by decide +kernel, by decide +kernel⟩
abbrev s_read_gaps : Stmt := top 24
theorem sc_read_gaps : FnScope ["words", "at", "low", "ideal", "high"] ["words", "at"] (defScope s_read_gaps) := ⟨rfl, rfl, rfl, by decide +kernel, rfl, by decide +kernel, by decide +kernel⟩
abbrev s_read_set : Stmt := top 25
theorem sc_read_set : FnScope ["words", "at", "end"] ["words", "at"] (defScope s_read_set) := ⟨rfl, rfl, rfl, by decide +kernel, rfl, by decide +kernel, by decide +kernel⟩
abbrev s_read_times : Stmt := top 26
theorem sc_read_times : FnScope ["words", "at", "brackets", "many", "jobs", "end"] ["words", "at", "brackets"] (defScope s_read_times) := ⟨rfl, rfl, rfl, by decide +kernel, rfl, by decide +kernel, by decide +kernel⟩
abbrev s_read_job : Stmt := top 27
theorem sc_read_job : FnScope ["words", "at", "brackets"] ["words", "at", "brackets"] (defScope s_read_job) := ⟨rfl, rfl, rfl, by decide +kernel, rfl, by decide +kernel, by decide +kernel⟩
abbrev s_read_jobs : Stmt := top 28
theorem sc_read_jobs : FnScope ["words", "at", "brackets", "jobs", "job"] ["words", "at", "brackets"] (defScope s_read_jobs) := ⟨rfl, rfl, rfl, by decide +kernel, rfl, by decide +kernel, by decide +kernel⟩
abbrev s_read_copy : Stmt := top 29
theorem sc_read_copy : FnScope ["text", "words", "jobs", "end"] ["text"] (defScope s_read_copy) := ⟨rfl, rfl, rfl, by decide +kernel, rfl, by decide +kernel, by decide +kernel⟩
abbrev s_law_mixed : Stmt := top 31
theorem sc_law_mixed : FnScope ["_law_cell", "_law_k"] ["_law_cell", "_law_k"] (defScope s_law_mixed) := ⟨rfl, rfl, rfl, by decide +kernel, rfl, by decide +kernel, by decide +kernel⟩
abbrev s_law_word : Stmt := top 32
theorem sc_law_word : FnScope ["_law_number", "_law_signs", "_law_word_here", "_law_k"] ["_law_number"] (defScope s_law_word) := ⟨rfl, rfl, rfl, by decide +kernel, rfl, by decide +kernel, by decide +kernel⟩
abbrev s_law_job : Stmt := top 33
theorem sc_law_job : FnScope ["_law_kind", "_law_number", "_law_low", "_law_ideal"] ["_law_kind", "_law_number"] (defScope s_law_job) := ⟨rfl, rfl, rfl, by decide +kernel, rfl, by decide +kernel, by decide +kernel⟩
abbrev s_law_jobs : Stmt := top 34
theorem sc_law_jobs : FnScope ["_law_cells", "_law_stack", "_law_many", "_law_k", "_law_number", "_law_kind", "_law_jobs_here"] ["_law_cells"] (defScope s_law_jobs) := ⟨rfl, rfl, rfl, by decide +kernel, rfl, by decide +kernel, by decide +kernel⟩
abbrev s_law_tell : Stmt := top 35
theorem sc_law_tell : FnScope ["_law_jobs_here", "_law_words", "_law_job_here"] ["_law_jobs_here"] (defScope s_law_tell) := ⟨rfl, rfl, rfl, by decide +kernel, rfl, by decide +kernel, by decide +kernel⟩
abbrev s_law_kinds : Stmt := top 36
theorem sc_law_kinds : FnScope ["_law_e", "_law_some"] ["_law_e"] (defScope s_law_kinds) := ⟨rfl, rfl, rfl, by decide +kernel, rfl, by decide +kernel, by decide +kernel⟩
abbrev s_law_refused : Stmt := top 37
theorem sc_law_refused : FnScope ["_law_text", "_law_refused_here", "_law_e"] ["_law_text"] (defScope s_law_refused) := ⟨rfl, rfl, rfl, by decide +kernel, rfl, by decide +kernel, by decide +kernel⟩
abbrev s_law_odd : Stmt := top 38
theorem sc_law_odd : FnScope ["_law_number", "_law_some"] ["_law_number"] (defScope s_law_odd) := ⟨rfl, rfl, rfl, by decide +kernel, rfl, by decide +kernel, by decide +kernel⟩
abbrev s_law_odd_too : Stmt := top 39
theorem sc_law_odd_too : FnScope ["_law_number", "_law_some"] ["_law_number"] (defScope s_law_odd_too) := ⟨rfl, rfl, rfl, by decide +kernel, rfl, by decide +kernel, by decide +kernel⟩
abbrev s_law_spoiled : Stmt := top 40
theorem sc_law_spoiled : FnScope ["_law_text", "_law_number", "_law_odd_here", "_law_some"] ["_law_text", "_law_number"] (defScope s_law_spoiled) := ⟨rfl, rfl, rfl, by decide +kernel, rfl, by decide +kernel, by decide +kernel⟩
abbrev s_law : Stmt := top 41
theorem sc_law : FnScope ["_law_script", "_law_text", "_law_k", "_law_deep"] ["_law_script"] (defScope s_law) := ⟨rfl, rfl, rfl, by decide +kernel, rfl, by decide +kernel, by decide +kernel⟩
set_option genInjectivity false
set_option genSizeOf false
structure Ad where
  f_is_sign : Addr
  d_is_sign : FuncData
  f_is_number : Addr
  d_is_number : FuncData
  f_is_set_word : Addr
  d_is_set_word : FuncData
  f_word_at : Addr
  d_word_at : FuncData
  f_read_number : Addr
  d_read_number : FuncData
  f_look_for : Addr
  d_look_for : FuncData
  f_read_measure : Addr
  d_read_measure : FuncData
  f_read_gaps : Addr
  d_read_gaps : FuncData
  f_read_set : Addr
  d_read_set : FuncData
  f_read_times : Addr
  d_read_times : FuncData
  f_read_job : Addr
  d_read_job : FuncData
  f_read_jobs : Addr
  d_read_jobs : FuncData
  f_read_copy : Addr
  d_read_copy : FuncData
  f_law_mixed : Addr
  d_law_mixed : FuncData
  f_law_word : Addr
  d_law_word : FuncData
  f_law_job : Addr
  d_law_job : FuncData
  f_law_jobs : Addr
  d_law_jobs : FuncData
  f_law_tell : Addr
  d_law_tell : FuncData
  f_law_kinds : Addr
  d_law_kinds : FuncData
  f_law_refused : Addr
  d_law_refused : FuncData
  f_law_odd : Addr
  d_law_odd : FuncData
  f_law_odd_too : Addr
  d_law_odd_too : FuncData
  f_law_spoiled : Addr
  d_law_spoiled : FuncData
  f_law : Addr
  d_law : FuncData
  c_CasterError : Addr
  c_NoCase : Addr
  c_TooMany : Addr
  c_Loose : Addr
  c_Tight : Addr
  c_NoBreak : Addr
  c_NoCopy : Addr
  c_NoKeys : Addr
  c_NoText : Addr
  c_NoNumber : Addr
  c_NoRow : Addr
  t_SIGNS : Tok
  t_FIGURES : Tok
  t_MOST_BRACKETS : Tok
structure Tx (K : PySem.W.Frag) (mg : Str → Option Value) (a : Ad) : Prop where
  is_sign : D K mg "is_sign" s_is_sign ["text"] a.f_is_sign a.d_is_sign
  is_number : D K mg "is_number" s_is_number ["word"] a.f_is_number a.d_is_number
  is_set_word : D K mg "is_set_word" s_is_set_word ["word"] a.f_is_set_word a.d_is_set_word
  word_at : D K mg "word_at" s_word_at ["words", "at"] a.f_word_at a.d_word_at
  read_number : D K mg "read_number" s_read_number ["words", "at", "low", "high"] a.f_read_number a.d_read_number
  look_for : D K mg "look_for" s_look_for ["words", "at", "word"] a.f_look_for a.d_look_for
  read_measure : D K mg "read_measure" s_read_measure ["words", "at"] a.f_read_measure a.d_read_measure
  read_gaps : D K mg "read_gaps" s_read_gaps ["words", "at"] a.f_read_gaps a.d_read_gaps
  read_set : D K mg "read_set" s_read_set ["words", "at"] a.f_read_set a.d_read_set
  read_times : D K mg "read_times" s_read_times ["words", "at", "brackets"] a.f_read_times a.d_read_times
  read_job : D K mg "read_job" s_read_job ["words", "at", "brackets"] a.f_read_job a.d_read_job
  read_jobs : D K mg "read_jobs" s_read_jobs ["words", "at", "brackets"] a.f_read_jobs a.d_read_jobs
  read_copy : D K mg "read_copy" s_read_copy ["text"] a.f_read_copy a.d_read_copy
  law_mixed : D K mg "_law_mixed" s_law_mixed ["_law_cell", "_law_k"] a.f_law_mixed a.d_law_mixed
  law_word : D K mg "_law_word" s_law_word ["_law_number"] a.f_law_word a.d_law_word
  law_job : D K mg "_law_job" s_law_job ["_law_kind", "_law_number"] a.f_law_job a.d_law_job
  law_jobs : D K mg "_law_jobs" s_law_jobs ["_law_cells"] a.f_law_jobs a.d_law_jobs
  law_tell : D K mg "_law_tell" s_law_tell ["_law_jobs_here"] a.f_law_tell a.d_law_tell
  law_kinds : D K mg "_law_kinds" s_law_kinds ["_law_e"] a.f_law_kinds a.d_law_kinds
  law_refused : D K mg "_law_refused" s_law_refused ["_law_text"] a.f_law_refused a.d_law_refused
  law_odd : D K mg "_law_odd" s_law_odd ["_law_number"] a.f_law_odd a.d_law_odd
  law_odd_too : D K mg "_law_odd_too" s_law_odd_too ["_law_number"] a.f_law_odd_too a.d_law_odd_too
  law_spoiled : D K mg "_law_spoiled" s_law_spoiled ["_law_text", "_law_number"] a.f_law_spoiled a.d_law_spoiled
  law : D K mg "law" s_law ["_law_script"] a.f_law a.d_law
  cl_CasterError : CL K mg "CasterError" a.c_CasterError
  cl_NoCase : CL K mg "NoCase" a.c_NoCase
  cl_TooMany : CL K mg "TooMany" a.c_TooMany
  cl_Loose : CL K mg "Loose" a.c_Loose
  cl_Tight : CL K mg "Tight" a.c_Tight
  cl_NoBreak : CL K mg "NoBreak" a.c_NoBreak
  cl_NoCopy : CN K mg "NoCopy" a.c_NoCopy
  cl_NoKeys : CL K mg "NoKeys" a.c_NoKeys
  cl_NoText : CL K mg "NoText" a.c_NoText
  cl_NoNumber : CL K mg "NoNumber" a.c_NoNumber
  cl_NoRow : CL K mg "NoRow" a.c_NoRow
  bi : BI K a.c_CasterError
  m_NoCopy_CasterError : PySem.W.mroIn K a.c_NoCopy (.ref a.c_CasterError) = some true
  m_NoCopy_NoCase : PySem.W.mroIn K a.c_NoCopy (.ref a.c_NoCase) = some false
  m_NoCopy_TooMany : PySem.W.mroIn K a.c_NoCopy (.ref a.c_TooMany) = some false
  m_NoCopy_Loose : PySem.W.mroIn K a.c_NoCopy (.ref a.c_Loose) = some false
  m_NoCopy_Tight : PySem.W.mroIn K a.c_NoCopy (.ref a.c_Tight) = some false
  m_NoCopy_NoBreak : PySem.W.mroIn K a.c_NoCopy (.ref a.c_NoBreak) = some false
  m_NoCopy_NoCopy : PySem.W.mroIn K a.c_NoCopy (.ref a.c_NoCopy) = some true
  m_NoCopy_NoKeys : PySem.W.mroIn K a.c_NoCopy (.ref a.c_NoKeys) = some false
  m_NoCopy_NoText : PySem.W.mroIn K a.c_NoCopy (.ref a.c_NoText) = some false
  m_NoCopy_NoNumber : PySem.W.mroIn K a.c_NoCopy (.ref a.c_NoNumber) = some false
  m_NoCopy_NoRow : PySem.W.mroIn K a.c_NoCopy (.ref a.c_NoRow) = some false
  g_SIGNS : mg "SIGNS" = some (.str "abcdefghijklmnopqrstuvwxyz.,-'" a.t_SIGNS)
  g_FIGURES : mg "FIGURES" = some (.str "0123456789" a.t_FIGURES)
  g_MOST_BRACKETS : mg "MOST_BRACKETS" = some (.int 4 a.t_MOST_BRACKETS)
  b_ValueError : mg "ValueError" = none
  b_all : mg "all" = none
  b_int : mg "int" = none
  b_isinstance : mg "isinstance" = none
  b_len : mg "len" = none
  b_min : mg "min" = none
  b_range : mg "range" = none
  b_str : mg "str" = none
abbrev lawLevel : Nat := 30
end
end Lw
namespace Lw
open PySem L2
set_option maxHeartbeats 4000000
section
variable {P : Program} {w : World} {K : PySem.W.Frag} {mg : Str → Option Value} {base : Heap} {a : Ad}
local macro_rules | `(tactic| walk_at "hk") => `(tactic| first | assumption | exact upd_same | exact same_new (by assumption) _ _ _ (by walk_at "hk"))
local macro_rules | `(tactic| walk_at "rd1") => `(tactic| first | (with_reducible refine hideAll ?_; intro Dzz σzz) | with_reducible refine gNameH ?_ | refine ⟨_, rfl, ?_⟩ | refine ⟨_, _, rfl, rfl, ?_⟩ | refine ⟨_, _, _, _, rfl, rfl, SqL.of (by walk_at "hk"), (by assumption), ?_⟩ | refine And.intro rfl ?_ | refine And.intro (Nat.le_of_ble_eq_true rfl) ?_ | refine And.intro (by first | decide | omega) ?_ | refine And.intro ⟨by first | decide | omega, by first | decide | omega⟩ ?_ | refine And.intro (.inl ⟨by first | decide | omega, by first | decide | omega⟩) ?_ | refine And.intro (.inr ⟨by first | decide | omega, by first | decide | omega⟩) ?_ | refine ⟨_, _, rfl, SqT.of (by first | exact upd_same | assumption), rfl, ?_⟩)
local macro_rules | `(tactic| walk_at "rd") => `(tactic| repeat (walk_at "rd1"))
local macro_rules | `(tactic| walk_at "tg") => `(tactic| refine ⟨_, _, rfl, ?_⟩)

/-- a text of plain signs -/
def AW (x : Str) : Prop := x.cps.toList.length ≤ 90000 ∧ ∀ c ∈ x.cps.toList, c < 128
theorem AW.len {x : Str} (h : AW x) : x.length ≤ 90000 := by rw [← show x.cps.toList.length = x.length from Array.length_toList]; exact h.1
theorem fig_in : ∀ c, c < 128 → (!(Builtin.Str.occurrences (Str.ofString "0123456789") (sg c) 0 (Str.ofString "0123456789").length 1).isEmpty) = Cp.isFig c := by decide +kernel
theorem sgV {c d : Nat} : decide (V.str (sg c) = V.str (sg d)) = decide (c = d) := by
  rw [Cs.strV, decide_eq_decide]
  exact ⟨fun h => by have := congrArg (fun s : Str => s.cps.toList) h; simpa [sg] using this, fun h => by rw [h]⟩
def sp_is_number : Sp := fun vs H Q _ => ∃ x : Str, vs = [.str x] ∧ AW x ∧ ∀ H', Same H H' → Q (.bl (Cp.isNum x)) H'
theorem ok_is_number (T : Tx K mg a) : FnOk P w K mg base CX0 1 a.f_is_number a.d_is_number ["word"] sp_is_number := by
  refine T.is_number.fn.ok sc_is_number (fun vs H Q E h => ?_) (fun cdv A outer s H vs Q E hr h => ?_)
  · obtain ⟨x, rfl, _⟩ := h
    rfl
  obtain ⟨x, rfl, hx, q⟩ := h
  have hl : x.cps.toList.length = x.length := Array.length_toList
  have hsz : x.length ≤ sizeLine := smallL (by have := hx.len; omega)
  have no : ∀ H', Same H H' → Cp.isNum x = false → Q (.bl false) H' := fun H' s e => by rw [← e]; exact q H' s
  refine ⟨_, (pss_cons (ps_cut (ps_if (PW.pt (pw_and (pt_cmpR op_gt (pe_callB call_len_str rfl T.b_len bt_len (pa_cons (pv 0) pa_nil)) pe_int (nomark _)) (pw_and1 (pt_cmpR op_eq (pe_ix ix_str (pv 0) pe_int (fun _ _ => rfl)) pe_str (nomark _))))) (pss_one (ps_ret pe_bl)) pss_nil))
      (pss_one (ps_ret (pe_and (pe_chain op_le op_le pe_int (pe_callB call_len_str rfl T.b_len bt_len (pa_cons (pv 0) pa_nil)) pe_int) (pe_one (pe_callB (kall K rfl rfl) rfl T.b_all bt_all (pa_cons (pe_compG rfl (pi_str (pv 0)) (BlkOk.of (N' := ["word", "figure"]) (ms := []) (k := 1) (by rfl)) (fun _ _ _ _ _ => (pg_name (i := 1) (show List.Nodup (["word", "figure"] : List Str) from by decide +kernel) rfl (Or.inl rfl))) (fun _ _ _ _ _ => pts_nil) (fun _ _ _ _ _ => (pe_cmpR op_in_str (pv 1) (pe_glob (v := .str "0123456789") rfl T.g_FIGURES ⟨_, rfl⟩) (by with_unfolding_all rfl)))) pa_nil))))))), ?_⟩
  refine ⟨fun σ H2 => σ = [some (.str x)] ∧ H2 = H ∧ (decide (1 < x.cps.toList.length) && decide (x.cps.toList[0]? = some 48)) = false, ?_, ?_⟩
  · walk_at "rd"
    try refine ⟨hsz, ?_⟩
    walk_at "rd"
    by_cases hg : 1 < x.length
    · rw [decide_eq_true (show (1 : Int) < (x.length : Int) by omega)]
      refine iteT ?_
      have e0 : atI x.cps.toList 0 = some (x.cps.toList[0]'(by omega)) := atI_nat (j := 0) (List.getElem?_eq_getElem (by omega))
      have e1 : x.cps.toList[0]? = some (x.cps.toList[0]'(by omega)) := List.getElem?_eq_getElem (by omega)
      generalize x.cps.toList[0]'(by omega) = c at e0 e1
      refine ⟨_, rfl, ?_⟩
      refine ⟨_, _, _, rfl, rfl, hsz, e0, ?_⟩
      walk_at "rd"
      rw [show decide (V.str ({ cps := #[c] } : Str) = V.str (Str.ofString "0")) = decide (c = 48) from sgV (d := 48)]
      refine ite2 (fun hc => ?_) (fun hc => ?_)
      · have hc := of_decide_eq_true hc
        walk_at "rd"
        refine no _ (Same.refl _) ?_
        unfold Cp.isNum
        rw [e1, hc, decide_eq_true (show 1 < x.cps.toList.length by omega)]
        rfl
      · refine ⟨rfl, rfl, ?_⟩
        rw [e1, decide_eq_false (fun z => hc (decide_eq_true (Option.some.inj z))), Bool.and_false]
    · rw [decide_eq_false (show ¬ (1 : Int) < (x.length : Int) by omega)]
      refine iteF ?_
      refine ⟨rfl, rfl, ?_⟩
      rw [decide_eq_false (show ¬ 1 < x.cps.toList.length by omega), Bool.false_and]
  rintro σ H2 ⟨rfl, rfl, hlead⟩
  have en : Cp.isNum x = ((decide (1 ≤ x.cps.toList.length) && decide (x.cps.toList.length ≤ 4)) && x.cps.toList.all Cp.isFig) := by
    unfold Cp.isNum
    rw [hlead]
    rfl
  walk_at "rd"
  try refine ⟨hsz, ?_⟩
  walk_at "rd"
  by_cases h1 : 1 ≤ x.length
  · rw [decide_eq_true (show (1 : Int) ≤ (x.length : Int) by omega)]
    refine iteT ?_
    walk_at "rd"
    by_cases h2 : x.length ≤ 4
    · rw [decide_eq_true (show (x.length : Int) ≤ (4 : Int) by omega)]
      refine iteT ?_
      rw [decide_eq_true (show 1 ≤ x.cps.toList.length by omega), decide_eq_true (show x.cps.toList.length ≤ 4 by omega)] at en
      walk_at "rd"
      intro D hD
      refine comp_str (x := x) (fun j zs σ H6 => ∃ (v1 : Option V), σ = [some (.str x), v1] ∧ Same H2 H6 ∧ H6 D = some (.lst zs) ∧ zs = ((x.cps.toList.take j).map Cp.isFig).map V.bl)
        ?_ ?_ ?_
      · exact ⟨none, rfl, same_new hD _, upd_same, rfl⟩
      · rintro j c zs σ H6 hc hjl ⟨v1, rfl, hs, hh, rfl⟩
        have hc' : x.cps.toList[j]? = some c := by rw [Array.getElem?_toList]; exact hc
        walk_at "rd"
        rw [fig_in c (hx.2 c (List.mem_of_getElem? hc'))]
        refine cnext hjl hh (by rw [List.length_map, List.length_map, List.length_take]; omega) ⟨_, rfl, same_upd hs hD, upd_same, ?_⟩
        rw [List.take_add_one, hc', List.map_append, List.map_append]
        rfl
      · rintro zs σ H6 ⟨v1, rfl, hs, hh, rfl⟩
        refine ⟨D, _, rfl, SqL.of hh, ?_⟩
        have e2 : ((x.cps.toList.take x.cps.size).map Cp.isFig).all id = Cp.isNum x := by
          rw [en, List.take_of_length_le (by rw [Array.length_toList]; exact Nat.le_refl _), List.all_map]
          rfl
        rw [e2]
        exact q _ hs
    · rw [decide_eq_false (show ¬ (x.length : Int) ≤ (4 : Int) by omega)]
      try refine iteF ?_
      refine no _ (Same.refl _) ?_
      rw [en, decide_eq_false (show ¬ x.cps.toList.length ≤ 4 by omega), Bool.and_false, Bool.false_and]
  · rw [decide_eq_false (show ¬ (1 : Int) ≤ (x.length : Int) by omega)]
    try refine iteF ?_
    refine ⟨_, rfl, ?_⟩
    try refine iteF ?_
    refine no _ (Same.refl _) ?_
    rw [en, decide_eq_false (show ¬ 1 ≤ x.cps.toList.length by omega), Bool.false_and, Bool.false_and]
def sp_is_sign : Sp := fun vs H Q _ => ∃ c : Nat, vs = [.str (sg c)] ∧ c < 128 ∧ Q (.bl (decide (c ∈ Cs.signs))) H
theorem ok_is_sign (T : Tx K mg a) : FnOk P w K mg base CX0 1 a.f_is_sign a.d_is_sign ["text"] sp_is_sign := by
  refine T.is_sign.fn.ok sc_is_sign (fun vs H Q E h => ?_) (fun cdv A outer s H vs Q E hr h => ?_)
  · obtain ⟨c, rfl, _⟩ := h
    rfl
  obtain ⟨c, rfl, hc, q⟩ := h
  refine ⟨_, (pss_one (ps_ret (pe_and (pe_cmpR op_eq (pe_callB call_len_str rfl T.b_len bt_len (pa_cons (pv 0) pa_nil)) pe_int (nomark _)) (pe_one (pe_cmpR op_in_str (pv 0) (pe_glob (v := .str "abcdefghijklmnopqrstuvwxyz.,-'") rfl T.g_SIGNS ⟨_, rfl⟩) (by with_unfolding_all rfl)))))), ?_⟩
  walk_at "rd"
  try refine ⟨smallL (by show 1 ≤ _; decide), ?_⟩
  walk_at "rd"
  try refine iteT ?_
  walk_at "rd"
  rw [Cs.sign_in c hc]
  exact q
def sp_is_set_word : Sp := fun vs H Q _ => ∃ x : Str, vs = [.str x] ∧ AW x ∧ ∀ H', Same H H' → Q (.bl (Cp.isSet x)) H'
theorem ok_is_set_word (T : Tx K mg a) : FnOk P w K mg base CX0 2 a.f_is_set_word a.d_is_set_word ["word"] sp_is_set_word := by
  have G_is_sign := ok_is_sign (P := P) (w := w) (base := base) T
  refine T.is_set_word.fn.ok sc_is_set_word (fun vs H Q E h => ?_) (fun cdv A outer s H vs Q E hr h => ?_)
  · obtain ⟨x, rfl, _⟩ := h
    rfl
  obtain ⟨x, rfl, hx, q⟩ := h
  have hl : x.cps.toList.length = x.length := Array.length_toList
  have hxl := hx.1
  have no : ∀ H', Same H H' → Cp.isSet x = false → Q (.bl false) H' := fun H' s e => by rw [← e]; exact q H' s
  have ev : ∀ y : Str, decide (V.str x = V.str y) = decide (x = y) := fun y => Cs.strV
  refine ⟨_, (pss_one (ps_ret (pe_and (pe_cmpR op_ne (pv 0) pe_str (nomark _)) (pe_and (pe_cmpR op_ne (pv 0) pe_str (nomark _)) (pe_one (pe_callB (kall K rfl rfl) rfl T.b_all bt_all (pa_cons (pe_compG rfl (pi_str (pv 0)) (BlkOk.of (N' := ["word", "sign"]) (ms := []) (k := 1) (by rfl)) (fun _ _ _ _ _ => (pg_name (i := 1) (show List.Nodup (["word", "sign"] : List Str) from by decide +kernel) rfl (Or.inl rfl))) (fun _ _ _ _ _ => pts_nil) (fun _ _ _ _ _ => (pcall T.is_sign G_is_sign hr rfl (pa_cons (pv 1) pa_nil)))) pa_nil))))))), ?_⟩
  walk_at "rd"
  rw [ev]
  by_cases h1 : x = ""
  · rw [decide_eq_true h1]
    try refine iteF ?_
    refine no _ (Same.refl _) ?_
    unfold Cp.isSet
    rw [decide_eq_false (fun z => z h1), Bool.false_and, Bool.false_and]
  rw [decide_eq_false h1]
  try refine iteT ?_
  walk_at "rd"
  rw [ev]
  by_cases h2 : x = "end"
  · rw [decide_eq_true h2]
    try refine iteF ?_
    refine no _ (Same.refl _) ?_
    unfold Cp.isSet
    rw [decide_eq_false (p := x ≠ Str.ofString "end") (fun z => z h2), Bool.and_false, Bool.false_and]
  rw [decide_eq_false h2]
  try refine iteT ?_
  walk_at "rd"
  intro D hD
  refine comp_str (x := x) (fun j zs σ H6 => ∃ (v1 : Option V), σ = [some (.str x), v1] ∧ Same H H6 ∧ H6 D = some (.lst zs) ∧ zs = ((x.cps.toList.take j).map fun c => decide (c ∈ Cs.signs)).map V.bl)
    ?_ ?_ ?_
  · exact ⟨none, rfl, same_new hD _, upd_same, rfl⟩
  · rintro j c zs σ H6 hc hjl ⟨v1, rfl, hs, hh, rfl⟩
    have hc' : x.cps.toList[j]? = some c := by rw [Array.getElem?_toList]; exact hc
    walk_at "rd"
    refine ⟨hx.2 c (List.mem_of_getElem? hc'), ?_⟩
    refine cnext hjl hh (by rw [List.length_map, List.length_map, List.length_take]; omega) ⟨_, rfl, same_upd hs hD, upd_same, ?_⟩
    rw [List.take_add_one, hc', List.map_append, List.map_append]
    rfl
  · rintro zs σ H6 ⟨v1, rfl, hs, hh, rfl⟩
    refine ⟨D, _, rfl, SqL.of hh, ?_⟩
    have e2 : ((x.cps.toList.take x.cps.size).map fun c => decide (c ∈ Cs.signs)).all id = Cp.isSet x := by
      unfold Cp.isSet
      rw [decide_eq_true h1, decide_eq_true (p := x ≠ Str.ofString "end") h2, List.take_of_length_le (by rw [Array.length_toList]; exact Nat.le_refl _), List.all_map]
      rfl
    rw [e2]
    exact q _ hs
/-- the words of copy -/
structure Wds (H : Hp) (wl : Addr) (ws : List Str) : Prop where
  at_ : H wl = some (.lst (ws.map V.str))
  few : ws.length ≤ 90000
  ok : ∀ x ∈ ws, AW x
theorem Wds.same {H H' : Hp} {wl : Addr} {ws : List Str} (h : Wds H wl ws) (s : Same H H') : Wds H' wl ws := ⟨s _ _ h.at_, h.few, h.ok⟩
theorem aw_empty : AW "" := ⟨by decide +kernel, fun c hc => by rw [show (Str.ofString "").cps.toList = [] by decide] at hc; cases hc⟩
theorem Wds.hd {H : Hp} {wl : Addr} {ws : List Str} (h : Wds H wl ws) (k : Nat) : AW (Cp.hd ws k) := by
  unfold Cp.hd
  cases e : ws[k]? with
  | none => exact aw_empty
  | some x => exact h.ok x (List.mem_of_getElem? e)
def sp_word_at : Sp := fun vs H Q _ => ∃ (wl : Addr) (ws : List Str) (n : Nat), vs = [.ref wl, .int (n : Int)] ∧ Wds H wl ws ∧ Q (.str (Cp.hd ws n)) H
theorem ok_word_at (T : Tx K mg a) : FnOk P w K mg base CX0 1 a.f_word_at a.d_word_at ["words", "at"] sp_word_at := by
  refine T.word_at.fn.ok sc_word_at (fun vs H Q E h => ?_) (fun cdv A outer s H vs Q E hr h => ?_)
  · obtain ⟨wl, ws, n, rfl, _⟩ := h
    rfl
  obtain ⟨wl, ws, n, rfl, W, q⟩ := h
  refine ⟨_, (pss_one (ps_ret (pe_ifExp (pt_cmpR op_lt (pv 1) (pe_callB (klen_seq K rfl) rfl T.b_len bt_len (pa_cons (pv 0) pa_nil)) (nomark _)) (pe_ix (kix_list K rfl) (pv 0) (pv 1) (fun _ _ => rfl)) pe_str))), ?_⟩
  walk_at "rd"
  refine ⟨wl, _, rfl, .inl (SqL.of W.at_), ?_⟩
  rw [List.length_map]
  walk_at "rd"
  by_cases h : n < ws.length
  · rw [decide_eq_true (show (n : Int) < (ws.length : Int) by omega)]
    refine iteT ?_
    have hat : atI (ws.map V.str) (n : Int) = some (.str (Cp.hd ws n)) := atI_nat (by
      unfold Cp.hd
      rw [List.getElem?_map, List.getElem?_eq_getElem h]
      rfl)
    refine ⟨_, rfl, ?_⟩
    refine ⟨_, rfl, ?_⟩
    refine ⟨wl, _, _, _, rfl, rfl, SqL.of W.at_, hat, ?_⟩
    exact q
  · rw [decide_eq_false (show ¬ (n : Int) < (ws.length : Int) by omega)]
    refine iteF ?_
    have e : Cp.hd ws n = "" := by
      unfold Cp.hd
      rw [List.getElem?_eq_none (by omega)]
      rfl
    rw [e] at q
    exact q
theorem repr_few : ∀ x ∈ ([Str.ofString "times", Str.ofString "(", Str.ofString ")", Str.ofString "end"] : List Str), (reprText x).length ≤ 2000 := by decide +kernel
def sp_read_number (C : Addr) : Sp := fun vs H Q E => ∃ (wl : Addr) (ws : List Str) (m : Nat) (lo hi : Int), vs = [.ref wl, .int (m : Int), .int lo, .int hi] ∧ Wds H wl ws ∧ m ≤ 100000 ∧ lo.natAbs ≤ 2000 ∧ hi.natAbs ≤ 2000 ∧ (∀ n, Cp.rdN (Cp.hd ws m) lo hi = some n → ∀ H', Same H H' → Q (.int n) H') ∧ (Cp.rdN (Cp.hd ws m) lo hi = none → ∀ H', Same H H' → E (.ref C) none H')
theorem ok_read_number (T : Tx K mg a) : FnOk P w K mg base (CX1 P w) 2 a.f_read_number a.d_read_number ["words", "at", "low", "high"] (sp_read_number a.c_NoCopy) := by
  have G_word_at := ok_word_at (P := P) (w := w) (base := base) T
  have G_is_number := ok_is_number (P := P) (w := w) (base := base) T
  refine T.read_number.fn.okX sc_read_number (fun vs H Q E h => ?_) (fun cdv A outer s H vs Q E hr h => ?_)
  · obtain ⟨wl, ws, m, lo, hi, rfl, _⟩ := h
    rfl
  obtain ⟨wl, ws, m, lo, hi, rfl, W, hm, hlo, hhi, q, x⟩ := h
  have hx := W.hd m
  have hl : (Cp.hd ws m).cps.toList.length = (Cp.hd ws m).length := Array.length_toList
  refine ⟨_, (pss_cons (ps_set (i := 4) sc_read_number.nd rfl (Or.inl rfl) (pcall T.word_at G_word_at hr rfl (pa_cons (pv 0) (pa_cons (pv 1) pa_nil))))
      (pss_cons (ps_if (PW.pt (pw_or (pt_not (pt_val (pcall T.is_number G_is_number hr rfl (pa_cons (pv 4) pa_nil)))) (pw_or1 (pt_not (pt_chain op_le op_le (pv 2) (pe_callTy call_intT rfl T.b_int bt_int (pa_cons (pv 4) pa_nil)) (pv 3)))))) (pss_one (praise0 T.cl_NoCopy rfl rfl rfl (pa_cons (pe_k6 pe_str (pe_fmt (pv 1)) pe_str (pe_fmt (pv 2)) pe_str (pe_fmt (pv 3))) pa_nil))) pss_nil)
      (pss_one (ps_ret (pe_callTy call_intT rfl T.b_int bt_int (pa_cons (pv 4) pa_nil)))))), ?_⟩
  walk_at "rd"
  refine ⟨wl, ws, m, rfl, W, ?_⟩
  walk_at "rd"
  first | intro H1 hs1 | refine ⟨Cp.hd ws m, rfl, hx, ?_⟩; intro H1 hs1
  by_cases h1 : Cp.isNum (Cp.hd ws m) = true
  · have hl4 := (Cp.num_len h1).2
    have ht := Cp.num_text h1
    rw [h1]
    walk_at "rd"
    refine ⟨Cp.hd ws m, _, rfl, ht, by omega, ?_⟩
    walk_at "rd"
    by_cases h2 : lo ≤ Cp.numV (Cp.hd ws m)
    · rw [decide_eq_true h2]
      refine iteT ?_
      walk_at "rd"
      by_cases h3 : Cp.numV (Cp.hd ws m) ≤ hi
      · have hok : Cp.rdN (Cp.hd ws m) lo hi = some (Cp.numV (Cp.hd ws m)) := by
          unfold Cp.rdN
          rw [if_pos ⟨h1, h2, h3⟩]
        rw [decide_eq_true h3]
        walk_at "rd"
        try refine iteF ?_
        walk_at "rd"
        refine ⟨Cp.hd ws m, _, rfl, ht, by omega, ?_⟩
        exact q _ hok H1 hs1
      · have hno : Cp.rdN (Cp.hd ws m) lo hi = none := by
          unfold Cp.rdN
          rw [if_neg fun z => h3 z.2.2]
        rw [decide_eq_false h3]
        walk_at "rd"
        try refine iteT ?_
        try walk_at "rd"
        intro x2 hx2
        refine ⟨x2, rfl, hx2, ?_⟩
        walk_at "rd"
        intro x4 hx4
        refine ⟨x4, rfl, hx4, ?_⟩
        walk_at "rd"
        intro x6 hx6
        refine ⟨x6, rfl, hx6, ?_⟩
        walk_at "rd"
        exact fun _ => ⟨(by show 1 ≤ 10; decide), x hno _ hs1⟩
    · have hno : Cp.rdN (Cp.hd ws m) lo hi = none := by
        unfold Cp.rdN
        rw [if_neg fun z => h2 z.2.1]
      rw [decide_eq_false h2]
      refine iteF ?_
      walk_at "rd"
      try refine iteT ?_
      try walk_at "rd"
      intro x2 hx2
      refine ⟨x2, rfl, hx2, ?_⟩
      walk_at "rd"
      intro x4 hx4
      refine ⟨x4, rfl, hx4, ?_⟩
      walk_at "rd"
      intro x6 hx6
      refine ⟨x6, rfl, hx6, ?_⟩
      walk_at "rd"
      exact fun _ => ⟨(by show 1 ≤ 10; decide), x hno _ hs1⟩
  · have hno : Cp.rdN (Cp.hd ws m) lo hi = none := by
      unfold Cp.rdN
      rw [if_neg fun z => h1 z.1]
    rw [Bool.eq_false_iff.mpr h1]
    walk_at "rd"
    intro x2 hx2
    refine ⟨x2, rfl, hx2, ?_⟩
    walk_at "rd"
    intro x4 hx4
    refine ⟨x4, rfl, hx4, ?_⟩
    walk_at "rd"
    intro x6 hx6
    refine ⟨x6, rfl, hx6, ?_⟩
    walk_at "rd"
    exact fun _ => ⟨(by show 1 ≤ 10; decide), x hno _ hs1⟩
def sp_look_for (C : Addr) : Sp := fun vs H Q E => ∃ (wl : Addr) (ws : List Str) (m : Nat) (x : Str), vs = [.ref wl, .int (m : Int), .str x] ∧ Wds H wl ws ∧ m ≤ 100000 ∧ x ∈ ([Str.ofString "times", Str.ofString "(", Str.ofString ")", Str.ofString "end"] : List Str) ∧ (Cp.hd ws m = x → Q .non H) ∧ (Cp.hd ws m ≠ x → ∀ H', Same H H' → E (.ref C) none H')
theorem ok_look_for (T : Tx K mg a) : FnOk P w K mg base (CX1 P w) 2 a.f_look_for a.d_look_for ["words", "at", "word"] (sp_look_for a.c_NoCopy) := by
  have G_word_at := ok_word_at (P := P) (w := w) (base := base) T
  refine T.look_for.fn.okX sc_look_for (fun vs H Q E h => ?_) (fun cdv A outer s H vs Q E hr h => ?_)
  · obtain ⟨wl, ws, m, x, rfl, _⟩ := h
    rfl
  obtain ⟨wl, ws, m, x, rfl, W, hm, hx, q, qx⟩ := h
  have ev : ∀ x y : Str, decide (V.str x = V.str y) = decide (x = y) := fun x y => Cs.strV
  have hrp := repr_few x hx
  refine ⟨_, (pss_one (ps_if (pt_cmpR op_ne (pcall T.word_at G_word_at hr rfl (pa_cons (pv 0) (pa_cons (pv 1) pa_nil))) (pv 2) (nomark _)) (pss_one (praise0 T.cl_NoCopy rfl rfl rfl (pa_cons (pe_k4 pe_str (pe_fmt (pv 1)) pe_str (pe_fmtR (pv 2))) pa_nil))) pss_nil)), ?_⟩
  walk_at "rd"
  refine ⟨wl, ws, m, rfl, W, ?_⟩
  walk_at "rd"
  rw [ev]
  by_cases h : Cp.hd ws m = x
  · rw [decide_eq_true h]
    try refine iteF ?_
    walk_at "rd"
    exact q h
  · rw [decide_eq_false h]
    try refine iteT ?_
    walk_at "rd"
    intro x2 hx2
    refine ⟨x2, rfl, hx2, ?_⟩
    walk_at "rd"
    try refine ⟨hrp, ?_⟩
    intro x4 hx4
    refine ⟨x4, rfl, hx4, ?_⟩
    walk_at "rd"
    exact fun _ => ⟨(by show 1 ≤ 10; decide), qx h _ (Same.refl _)⟩
/-- what is told of a job: itself, and where it ends -/
def ToldB (H : Hp) (e : Int) (b : Jb.Bas) (H' : Hp) (v : V) : Prop := ∃ t v1, v = .ref t ∧ H' t = some (.tup [v1, .int e]) ∧ Jb.BasN (fun a => H a ≠ none) H' v1 b
def sp_rdB (C : Addr) (f : List Str → Cp.Rd Jb.Bas) : Sp := fun vs H Q E => ∃ (wl : Addr) (ws : List Str) (n : Nat), vs = [.ref wl, .int (n : Int)] ∧ Wds H wl ws ∧ n < ws.length ∧ (∀ b k, f (ws.drop n) = some (b, k) → ∀ v H', Same H H' → ToldB H ((n + k : Nat) : Int) b H' v → Q v H') ∧ (f (ws.drop n) = none → ∀ H', Same H H' → E (.ref C) none H')
theorem ok_read_measure (T : Tx K mg a) : FnOk P w K mg base (CX1 P w) 3 a.f_read_measure a.d_read_measure ["words", "at"] (sp_rdB a.c_NoCopy Cp.rdM) := by
  have G_read_number := ok_read_number (P := P) (w := w) (base := base) T
  refine T.read_measure.fn.okX sc_read_measure (fun vs H Q E h => ?_) (fun cdv A outer s H vs Q E hr h => ?_)
  · obtain ⟨wl, ws, n, rfl, _⟩ := h
    rfl
  obtain ⟨wl, ws, n, rfl, W, hlt, q, x⟩ := h
  have hfew := W.few
  have e0 : Cp.rdM (ws.drop n) = (Cp.rdN (Cp.hd ws (n + 1)) 1 2000).map fun n => (Jb.Bas.ms n, 2) := by
    unfold Cp.rdM
    rw [Cp.hd_drop]
  refine ⟨_, (pss_one (ps_ret (pe_tup (pa_cons (pe_tup (pa_cons pe_str (pa_cons (pcallX T.read_number G_read_number hr rfl rfl (pa_cons (pv 0) (pa_cons (pe_op op_add (pv 1) pe_int) (pa_cons pe_int (pa_cons pe_int pa_nil))))) pa_nil))) (pa_cons (pe_op op_add (pv 1) pe_int) pa_nil))))), ?_⟩
  walk_at "rd"
  refine ⟨wl, ws, n + 1, 1, 2000, rfl, W, by omega, by decide, by decide, fun m hm H1 hs1 => ?_, fun hno H1 hs1 => ?_⟩
  · walk_at "rd"
    intro t1 ht1
    have s2 := same_new ht1 (.tup [.str "measure", .int m])
    have h2 : upd H1 t1 (.tup [.str "measure", .int m]) t1 = some (.tup [.str "measure", .int m]) := upd_same
    generalize upd H1 t1 (.tup [.str "measure", .int m]) = H2 at s2 h2 ⊢
    walk_at "rd"
    intro t2 ht2
    exact q (.ms m) 2 (by rw [e0, hm]; rfl) _ _ (hs1.trans (same_add s2 ht2)) ⟨t2, .ref t1, rfl, upd_same, t1, rfl, same_new ht2 _ _ _ h2⟩
  · exact x (by rw [e0, hno]; rfl) H1 hs1
theorem ok_read_gaps (T : Tx K mg a) : FnOk P w K mg base (CX1 P w) 3 a.f_read_gaps a.d_read_gaps ["words", "at"] (sp_rdB a.c_NoCopy Cp.rdG) := by
  have G_read_number := ok_read_number (P := P) (w := w) (base := base) T
  refine T.read_gaps.fn.okX sc_read_gaps (fun vs H Q E h => ?_) (fun cdv A outer s H vs Q E hr h => ?_)
  · obtain ⟨wl, ws, n, rfl, _⟩ := h
    rfl
  obtain ⟨wl, ws, n, rfl, W, hlt, q, x⟩ := h
  have hfew := W.few
  unfold Cp.rdG at q x
  rw [Cp.hd_drop, Cp.hd_drop, Cp.hd_drop] at q x
  refine ⟨_, (pss_cons (ps_set (i := 2) sc_read_gaps.nd rfl (Or.inl rfl) (pcallX T.read_number G_read_number hr rfl rfl (pa_cons (pv 0) (pa_cons (pe_op op_add (pv 1) pe_int) (pa_cons pe_int (pa_cons pe_int pa_nil))))))
      (pss_cons (ps_set (i := 3) sc_read_gaps.nd rfl (Or.inl rfl) (pcallX T.read_number G_read_number hr rfl rfl (pa_cons (pv 0) (pa_cons (pe_op op_add (pv 1) pe_int) (pa_cons (pv 2) (pa_cons pe_int pa_nil))))))
      (pss_cons (ps_set (i := 4) sc_read_gaps.nd rfl (Or.inl rfl) (pcallX T.read_number G_read_number hr rfl rfl (pa_cons (pv 0) (pa_cons (pe_op op_add (pv 1) pe_int) (pa_cons (pv 3) (pa_cons pe_int pa_nil))))))
      (pss_one (ps_ret (pe_tup (pa_cons (pe_tup (pa_cons pe_str (pa_cons (pv 2) (pa_cons (pv 3) (pa_cons (pv 4) pa_nil))))) (pa_cons (pe_op op_add (pv 1) pe_int) pa_nil)))))))), ?_⟩
  walk_at "rd"
  refine ⟨wl, ws, n + 1, 0, 99, rfl, W, by omega, by decide, by decide, fun lo e1 H1 hs1 => ?_, fun hno H1 hs1 => x (by rw [hno]) H1 hs1⟩
  have b1 := Cp.rdN_some e1
  rw [e1] at q x
  dsimp only at q x
  walk_at "rd"
  refine ⟨wl, ws, n + 2, lo, 99, rfl, W.same hs1, by omega, by omega, by decide, fun ideal e2 H2 hs2 => ?_, fun hno H2 hs2 => x (by rw [hno]) H2 (hs1.trans hs2)⟩
  have b2 := Cp.rdN_some e2
  rw [e2] at q x
  dsimp only at q x
  walk_at "rd"
  refine ⟨wl, ws, n + 3, ideal, 99, rfl, W.same (hs1.trans hs2), by omega, by omega, by decide, fun hi e3 H3 hs3 => ?_, fun hno H3 hs3 => x (by rw [hno]; rfl) H3 (hs1.trans (hs2.trans hs3))⟩
  walk_at "rd"
  intro t1 ht1
  have s2 := same_new ht1 (.tup [.str "gaps", .int lo, .int ideal, .int hi])
  have h2 : upd H3 t1 (.tup [.str "gaps", .int lo, .int ideal, .int hi]) t1 = some (.tup [.str "gaps", .int lo, .int ideal, .int hi]) := upd_same
  generalize upd H3 t1 (.tup [.str "gaps", .int lo, .int ideal, .int hi]) = H4 at s2 h2 ⊢
  walk_at "rd"
  intro t2 ht2
  exact q (.gp lo ideal hi) 4 (by rw [e3]; rfl) _ _ ((hs1.trans (hs2.trans hs3)).trans (same_add s2 ht2)) ⟨t2, .ref t1, rfl, upd_same, t1, rfl, same_new ht2 _ _ _ h2⟩
theorem set_empty : Cp.isSet "" = false := by decide +kernel
/-- how far the words to be set go -/
theorem set_end {r : List Str} {k : Nat} (h1 : ∀ i, i < k → Cp.isSet (Cp.hd r i) = true) (h2 : Cp.isSet (Cp.hd r k) = false) : (r.takeWhile Cp.isSet) = r.take k ∧ (r.takeWhile Cp.isSet).length = k := by
  induction r generalizing k with
  | nil =>
    cases k with
    | zero => exact ⟨rfl, rfl⟩
    | succ k =>
      have := h1 0 (Nat.succ_pos _)
      rw [show Cp.hd [] 0 = "" from rfl, set_empty] at this
      cases this
  | cons x r ih =>
    cases k with
    | zero =>
      have h2 : Cp.isSet x = false := h2
      rw [List.takeWhile_cons, h2]
      exact ⟨rfl, rfl⟩
    | succ k =>
      have hx : Cp.isSet x = true := h1 0 (Nat.succ_pos _)
      obtain ⟨a1, a2⟩ := ih (k := k) (fun i hi => h1 (i + 1) (by omega)) h2
      rw [List.takeWhile_cons, hx]
      exact ⟨by show x :: _ = x :: _; rw [a1], by show _ + 1 = _; rw [a2]⟩
theorem ok_read_set (T : Tx K mg a) : FnOk P w K mg base (CX1 P w) 3 a.f_read_set a.d_read_set ["words", "at"] (sp_rdB a.c_NoCopy Cp.rdS) := by
  have G_word_at := ok_word_at (P := P) (w := w) (base := base) T
  have G_is_set_word := ok_is_set_word (P := P) (w := w) (base := base) T
  have G_look_for := ok_look_for (P := P) (w := w) (base := base) T
  refine T.read_set.fn.okX sc_read_set (fun vs H Q E h => ?_) (fun cdv A outer s H vs Q E hr h => ?_)
  · obtain ⟨wl, ws, n, rfl, _⟩ := h
    rfl
  obtain ⟨wl, ws, n, rfl, W, hlt, q, x⟩ := h
  have hfew := W.few
  refine ⟨_, (pss_cons (ps_set (i := 2) sc_read_set.nd rfl (Or.inl rfl) (pe_op op_add (pv 1) pe_int))
      (pss_cons (ps_while (fly_own rfl) (pt_val (pcall T.is_set_word G_is_set_word hr rfl (pa_cons (pcall T.word_at G_word_at hr rfl (pa_cons (pv 0) (pa_cons (pv 2) pa_nil))) pa_nil))) (pss_one (ps_set (i := 2) sc_read_set.nd rfl (Or.inl rfl) (pe_op op_add (pv 2) pe_int))))
      (pss_cons (ps_if (pt_cmpR op_eq (pv 2) (pe_op op_add (pv 1) pe_int) (nomark _)) (pss_one (praise0 T.cl_NoCopy rfl rfl rfl (pa_cons (pe_k2 pe_str (pe_fmt (pv 2))) pa_nil))) pss_nil)
      (pss_cons (ps_expr (pcallX T.look_for G_look_for hr rfl rfl (pa_cons (pv 0) (pa_cons (pv 2) (pa_cons pe_str pa_nil)))))
      (pss_one (ps_ret (pe_tup (pa_cons (pe_tup (pa_cons pe_str (pa_cons (pe_slice (ksl_list K rfl) (pv 0) (po_some (pe_op op_add (pv 1) pe_int)) (po_some (pv 2))) pa_nil))) (pa_cons (pe_op op_add (pv 2) pe_int) pa_nil))))))))), ?_⟩
  walk_at "rd"
  refine ⟨fun mm σ H3 => ∃ (e : Nat), mm = ws.length + 1 - (n + 1 + e) ∧ n + 1 + e ≤ ws.length ∧ σ = [some (.ref wl), some (.int (n : Int)), some (.int ((n + 1 + e : Nat) : Int))] ∧ Same H H3 ∧ ∀ i, i < e → Cp.isSet (Cp.hd ws (n + 1 + i)) = true,
    ⟨_, 0, rfl, hlt, by rfl, Same.refl _, fun i hi => absurd hi (Nat.not_lt_zero _)⟩, ?_⟩
  rintro mm σ H3 ⟨e, rfl, hel, rfl, hs3, hset⟩
  have W3 := W.same hs3
  walk_at "rd"
  refine ⟨wl, ws, n + 1 + e, rfl, W3, ?_⟩
  refine ⟨Cp.hd ws (n + 1 + e), rfl, W3.hd _, fun H4 hs4 => ?_⟩
  have hs04 := hs3.trans hs4
  refine ⟨_, rfl, ?_⟩
  refine ite2 (fun c => ?_) (fun c => ?_)
  · have hne : Cp.hd ws (n + 1 + e) ≠ "" := fun z => by rw [z, set_empty] at c; cases c
    have hlt2 := Cp.hd_some hne
    refine ⟨_, fun σ' H' h => h, ?_⟩
    walk_at "rd"
    refine ⟨_, by omega, e + 1, rfl, by omega, by rw [show n + 1 + (e + 1) = n + 1 + e + 1 from rfl]; rfl, hs04, fun i hi => ?_⟩
    by_cases z : i = e
    · rw [z]; exact c
    · exact hset i (by omega)
  · have c : Cp.isSet (Cp.hd ws (n + 1 + e)) = false := by
      cases z : Cp.isSet (Cp.hd ws (n + 1 + e)) with
      | false => rfl
      | true => exact absurd z c
    obtain ⟨a1, a2⟩ := set_end (r := (ws.drop n).drop 1) (k := e) (fun i hi => by rw [Cp.hd_drop, Cp.hd_drop, ← Nat.add_assoc]; exact hset i hi) (by rw [Cp.hd_drop, Cp.hd_drop, ← Nat.add_assoc]; exact c)
    have a1 : Cp.setW (ws.drop n) = ((ws.drop n).drop 1).take e := a1
    have a2 : (Cp.setW (ws.drop n)).length = e := a2
    unfold Cp.rdS at q x
    have W4 := W.same hs04
    have el : (Cp.setW (ws.drop n)).length = 0 ↔ e = 0 := by rw [a2]
    rw [a2, Cp.hd_drop, show n + (e + 1) = n + 1 + e by omega] at q x
    walk_at "rd"
    refine ite2 (fun z => ?_) (fun z => ?_)
    · have z := V.int.inj (of_decide_eq_true z)
      have z0 : Cp.setW (ws.drop n) = [] := List.length_eq_zero_iff.mp (el.mpr (by omega))
      walk_at "rd"
      intro x2 hx2
      refine ⟨x2, rfl, hx2, ?_⟩
      walk_at "rd"
      exact fun _ => ⟨(by show 1 ≤ 10; decide), x (by rw [if_pos z0]) _ hs04⟩
    have e0 : e ≠ 0 := fun y => z (decide_eq_true (congrArg V.int (by rw [y]; omega)))
    have z0 : ¬ Cp.setW (ws.drop n) = [] := fun y => e0 (el.mp (by rw [y]; rfl))
    rw [if_neg z0] at q x
    walk_at "rd"
    refine ⟨wl, ws, n + 1 + e, "end", rfl, W4, by omega, by simp, fun z1 => ?_, fun z1 H5 hs5 => x (by rw [if_neg z1]) H5 (hs04.trans hs5)⟩
    rw [if_pos z1] at q
    have q := q _ _ rfl
    walk_at "rd"
    refine ⟨wl, _, rfl, SqL.of W4.at_, fun p1 hp1 => ?_⟩
    have ecut : cutV (ws.map V.str) (some ((n : Int) + 1)) (some ((n + 1 + e : Nat) : Int)) = (Cp.setW (ws.drop n)).map V.str := by
      rw [show (n : Int) + 1 = ((n + 1 : Nat) : Int) by omega, cut_map V.str ws (n + 1) (n + 1 + e) hel, a1, List.drop_drop, List.drop_take]
      congr 1
      rw [show n + 1 + e - (n + 1) = e by omega]
    rw [ecut]
    have s5 := same_new hp1 (.lst ((Cp.setW (ws.drop n)).map V.str))
    have h5 : upd H4 p1 (.lst ((Cp.setW (ws.drop n)).map V.str)) p1 = some (.lst ((Cp.setW (ws.drop n)).map V.str)) := upd_same
    generalize upd H4 p1 (.lst ((Cp.setW (ws.drop n)).map V.str)) = H5 at s5 h5 ⊢
    walk_at "rd"
    intro t1 ht1
    have s6 := same_new ht1 (.tup [.str "set", .ref p1])
    have h6 : upd H5 t1 (.tup [.str "set", .ref p1]) t1 = some (.tup [.str "set", .ref p1]) := upd_same
    generalize upd H5 t1 (.tup [.str "set", .ref p1]) = H6 at s6 h6 ⊢
    walk_at "rd"
    intro t2 ht2
    have s7 := same_new ht2 (.tup [.ref t1, .int (((n + 1 + e : Nat) : Int) + 1)])
    refine q _ _ (hs04.trans (s5.trans (s6.trans s7))) ⟨t2, .ref t1, rfl, ?_, t1, p1, rfl, s7 _ _ h6, fun z => z (hs04.free hp1), s7 _ _ (s6 _ _ h5)⟩
    rw [upd_same]
    show some (HO.tup [V.ref t1, V.int (((n + 1 + e : Nat) : Int) + 1)]) = _
    rw [show ((n + 1 + e : Nat) : Int) + 1 = ((n + (e + 2) : Nat) : Int) by omega]
theorem rdL_few {α : Type} {f : List Str → Cp.Rd α} (hf : ∀ r x k, f r = some (x, k) → 1 ≤ k ∧ k ≤ r.length) : ∀ (n : Nat) {r : List Str} {xs : List α} {k : Nat}, Cp.rdL f n r = some (xs, k) → xs.length ≤ k := by
  intro n
  induction n with
  | zero => intro r xs k h; cases h
  | succ n ih =>
    intro r xs k h
    unfold Cp.rdL at h
    split at h
    · cases h
      exact Nat.le_refl _
    · split at h
      · cases h
      · rename_i x k' e
        obtain ⟨z, hz, e2⟩ := Option.map_eq_some_iff.mp h
        cases e2
        have h1 := (hf _ _ _ e).1
        have h2 := ih hz
        rw [List.length_cons, Nat.add_comm]
        exact Nat.add_le_add h1 h2
theorem rdJs_few {d : Nat} {r : List Str} {js : List (Jb.Job d)} {k : Nat} (h : Cp.rdJs d r = some (js, k)) : js.length ≤ k := rdL_few (fun r x k => Cp.rdJ_len d) _ (show Cp.rdL (Cp.rdJ d) _ r = some (js, k) from h)
theorem fn_none {P : Program} {w : World} {K : PySem.W.Frag} {mg : Str → Option Value} {base : Heap} {CX : CXT} {k : Nat} {f : Addr} {fd : FuncData} {ps : List Str} : FnOk P w K mg base CX k f fd ps (fun _ _ _ _ => False) := ⟨fun _ _ _ _ h => h.elim, fun _ _ _ _ _ _ _ _ _ _ _ _ _ h => h.elim⟩
def sp_read_jobs (C : Addr) (d : Nat) : Sp := fun vs H Q E => ∃ (wl : Addr) (ws : List Str) (n : Nat), vs = [.ref wl, .int (n : Int), .int ((4 - d : Nat) : Int)] ∧ Wds H wl ws ∧ ws.length ≤ 1000 ∧ n ≤ ws.length ∧ d ≤ 4 ∧
  (∀ js k, Cp.rdJs d (ws.drop n) = some (js, k) → ∀ (t jl : Addr) (xs : List V) H', Same H H' → H' t = some (.tup [.ref jl, .int ((n + k : Nat) : Int)]) → H jl = none → H' jl = some (.lst xs) → Paired (Jb.JobN (fun a => a = jl ∨ H a ≠ none) H' d) xs js → Q (.ref t) H') ∧
  (Cp.rdJs d (ws.drop n) = none → ∀ H', Same H H' → E (.ref C) none H')
def sp_read_job (C : Addr) (d : Nat) : Sp := fun vs H Q E => ∃ (wl : Addr) (ws : List Str) (n : Nat), vs = [.ref wl, .int (n : Int), .int ((4 - d : Nat) : Int)] ∧ Wds H wl ws ∧ ws.length ≤ 1000 ∧ n < ws.length ∧ d ≤ 4 ∧
  (∀ j k, Cp.rdJ d (ws.drop n) = some (j, k) → ∀ (t : Addr) (v1 : V) H', Same H H' → H' t = some (.tup [v1, .int ((n + k : Nat) : Int)]) → Jb.JobN (fun a => H a ≠ none) H' d v1 j → Q (.ref t) H') ∧
  (Cp.rdJ d (ws.drop n) = none → ∀ H', Same H H' → E (.ref C) none H')
def sp_read_times (C : Addr) (d : Nat) : Sp := fun vs H Q E => ∃ (wl : Addr) (ws : List Str) (n : Nat), vs = [.ref wl, .int (n : Int), .int ((4 - d : Nat) : Int)] ∧ Wds H wl ws ∧ ws.length ≤ 1000 ∧ n < ws.length ∧ d ≤ 4 ∧
  (∀ d', d = d' + 1 → ∀ m js k, Cp.rdT (fun r => Cp.rdJs d' r) (ws.drop n) = some ((m, js), k) → ∀ (t : Addr) (v1 : V) H', Same H H' → H' t = some (.tup [v1, .int ((n + k : Nat) : Int)]) → Jb.JobN (fun a => H a ≠ none) H' (d' + 1) v1 (Sum.inr (m, js)) → Q (.ref t) H') ∧
  ((∀ d', d = d' + 1 → Cp.rdT (fun r => Cp.rdJs d' r) (ws.drop n) = none) → ∀ H', Same H H' → E (.ref C) none H')
theorem step_read_times (T : Tx K mg a) {L d : Nat} (hL : 2 ≤ L) {spJ : Sp} (hJ : ∀ d', d = d' + 1 → ∀ vs H Q E, sp_read_jobs a.c_NoCopy d' vs H Q E → spJ vs H Q E) (G_read_jobs : FnOk P w K mg base (CX1 P w) L a.f_read_jobs a.d_read_jobs ["words", "at", "brackets"] spJ) : FnOk P w K mg base (CX1 P w) (L + 1) a.f_read_times a.d_read_times ["words", "at", "brackets"] (sp_read_times a.c_NoCopy d) := by
  have G_read_number := ok_read_number (P := P) (w := w) (base := base) T
  have G_look_for := ok_look_for (P := P) (w := w) (base := base) T
  refine T.read_times.fn.okX sc_read_times (fun vs H Q E h => ?_) (fun cdv A outer s H vs Q E hr h => ?_)
  · obtain ⟨wl, ws, n, rfl, _⟩ := h
    rfl
  obtain ⟨wl, ws, n, rfl, W, hfew, hnl, hd4, q, x⟩ := h
  unfold Cp.rdT at q x
  rw [Cp.hd_drop, Cp.hd_drop, Cp.hd_drop, Nat.add_zero, List.drop_drop] at q x
  refine ⟨_, (pss_cons (ps_set (i := 3) sc_read_times.nd rfl (Or.inl rfl) (pcallX T.read_number G_read_number hr rfl rfl (pa_cons (pv 0) (pa_cons (pv 1) (pa_cons pe_int (pa_cons pe_int pa_nil)))) (hjk := by omega)))
      (pss_cons (ps_expr (pcallX T.look_for G_look_for hr rfl rfl (pa_cons (pv 0) (pa_cons (pe_op op_add (pv 1) pe_int) (pa_cons pe_str pa_nil))) (hjk := by omega)))
      (pss_cons (ps_expr (pcallX T.look_for G_look_for hr rfl rfl (pa_cons (pv 0) (pa_cons (pe_op op_add (pv 1) pe_int) (pa_cons pe_str pa_nil))) (hjk := by omega)))
      (pss_cons (ps_if (pt_cmpR op_eq (pv 2) (pe_glob (v := .int 4) rfl T.g_MOST_BRACKETS ⟨_, rfl⟩) (nomark _)) (pss_one (praise0 T.cl_NoCopy rfl rfl rfl (pa_cons (pe_k5 pe_str (pe_fmt (pv 1)) pe_str (pe_fmt (pv 2)) pe_str) pa_nil))) pss_nil)
      (pss_cons (ps_asg (pcallX T.read_jobs G_read_jobs hr rfl rfl (pa_cons (pv 0) (pa_cons (pe_op op_add (pv 1) pe_int) (pa_cons (pe_op op_add (pv 2) pe_int) pa_nil))) (hjk := by omega)) (kpg_tup K rfl (n := 2) rfl (pgs_cons (pg_name (i := 4) sc_read_times.nd rfl (Or.inl rfl)) (pgs_cons (pg_name (i := 5) sc_read_times.nd rfl (Or.inl rfl)) pgs_nil))))
      (pss_cons (ps_if (pt_cmpR op_eq (pe_callB (klen_seq K rfl) rfl T.b_len bt_len (pa_cons (pv 4) pa_nil)) pe_int (nomark _)) (pss_one (praise0 T.cl_NoCopy rfl rfl rfl (pa_cons (pe_k2 pe_str (pe_fmt (pv 1))) pa_nil))) pss_nil)
      (pss_cons (ps_expr (pcallX T.look_for G_look_for hr rfl rfl (pa_cons (pv 0) (pa_cons (pv 5) (pa_cons pe_str pa_nil))) (hjk := by omega)))
      (pss_one (ps_ret (pe_tup (pa_cons (pe_tup (pa_cons pe_str (pa_cons (pv 3) (pa_cons (pv 4) pa_nil)))) (pa_cons (pe_op op_add (pv 5) pe_int) pa_nil)))))))))))), ?_⟩
  walk_at "rd"
  refine ⟨wl, ws, n, 1, 9, rfl, W, by omega, by decide, by decide, fun mm e1 H1 hs1 => ?_, fun hno H1 hs1 => x (fun _ _ => by rw [hno]) H1 hs1⟩
  have hmm := Cp.rdN_some e1
  have hmn : ((mm.toNat : Nat) : Int) = mm := by omega
  rw [e1] at q x
  dsimp only at q x
  have W1 := W.same hs1
  walk_at "rd"
  refine ⟨wl, ws, n + 1, "times", rfl, W1, by omega, by simp, fun e2 => ?_, fun e2 H2 hs2 => x (fun _ _ => by rw [if_neg fun z => e2 z.1]) H2 (hs1.trans hs2)⟩
  walk_at "rd"
  refine ⟨wl, ws, n + 2, "(", rfl, W1, by omega, by simp, fun e2' => ?_, fun e2' H2 hs2 => x (fun _ _ => by rw [if_neg fun z => e2' z.2]) H2 (hs1.trans hs2)⟩
  have hlt : n + 2 < ws.length := Cp.hd_some (fun z => absurd (e2'.symm.trans z) (by decide +kernel))
  walk_at "rd"
  refine ite2 (fun z => ?_) (fun z => ?_)
  · have z := V.int.inj (of_decide_eq_true z)
    walk_at "rd"
    intro x2 hx2
    refine ⟨x2, rfl, hx2, ?_⟩
    walk_at "rd"
    intro x4 hx4
    refine ⟨x4, rfl, hx4, ?_⟩
    walk_at "rd"
    exact fun _ => ⟨(by show 1 ≤ 10; decide), x (fun d' e => absurd e (by omega)) _ hs1⟩
  cases d with
  | zero => exact absurd (decide_eq_true (congrArg V.int (by rfl))) z
  | succ d =>
  have q := q d rfl
  have x : _ → _ := fun y => x (fun d' e => by cases e; exact y)
  rw [if_pos ⟨e2, e2'⟩] at q x
  walk_at "rd"
  refine hJ d rfl _ _ _ _ ⟨wl, ws, n + 3, by rw [show ((4 - d : Nat) : Int) = ((4 - (d + 1) : Nat) : Int) + 1 by omega]; rfl, W1, hfew, by omega, by omega, fun js k' e3 t jl xs H2 hs2 ht hjl0 hjl2 hp2 => ?_, fun e3 H2 hs2 => x (by rw [e3]) H2 (hs1.trans hs2)⟩
  have hjf := rdJs_few e3
  rw [e3] at q x
  dsimp only at q x
  refine ⟨_, _, rfl, SqT.of ht, rfl, ?_⟩
  walk_at "tg"
  walk_at "tg"
  have W2 := W1.same hs2
  have hxl := Paired.length hp2
  walk_at "rd"
  refine ⟨jl, _, rfl, .inl (SqL.of hjl2), ?_⟩
  walk_at "rd"
  refine ite2 (fun z => ?_) (fun z => ?_)
  · have z := V.int.inj (of_decide_eq_true z)
    have e4 : js = [] := List.length_eq_zero_iff.mp (by omega)
    walk_at "rd"
    intro x2 hx2
    refine ⟨x2, rfl, hx2, ?_⟩
    walk_at "rd"
    exact fun _ => ⟨(by show 1 ≤ 10; decide), x (by rw [if_pos e4]) _ (hs1.trans hs2)⟩
  have e4 : ¬ js = [] := fun y => z (decide_eq_true (congrArg V.int (by rw [hxl, y]; rfl)))
  rw [if_neg e4, Cp.hd_drop] at q x
  walk_at "rd"
  refine ⟨wl, ws, n + 3 + k', ")", rfl, W2, ?_, by simp, fun e5 => ?_, fun e5 H3 hs3 => x (by rw [if_neg (by rw [← Nat.add_assoc]; exact e5)]) H3 (hs1.trans (hs2.trans hs3))⟩
  · have := Cp.rdL_len (fun r x k => Cp.rdJ_len d) _ (show Cp.rdL (Cp.rdJ d) _ (ws.drop (n + 3)) = some (js, k') from e3)
    rw [List.length_drop] at this
    omega
  rw [if_pos (by rw [← Nat.add_assoc]; exact e5)] at q
  have hkl := Cp.rdL_len (fun r x k => Cp.rdJ_len d) _ (show Cp.rdL (Cp.rdJ d) _ (ws.drop (n + 3)) = some (js, k') from e3)
  rw [List.length_drop] at hkl
  have q := q _ _ _ rfl
  walk_at "rd"
  intro t1 ht1
  have s3 := same_new ht1 (.tup [.str "times", .int mm, .ref jl])
  have h3 : upd H2 t1 (.tup [.str "times", .int mm, .ref jl]) t1 = some (.tup [.str "times", .int mm, .ref jl]) := upd_same
  generalize upd H2 t1 (.tup [.str "times", .int mm, .ref jl]) = H3 at s3 h3 ⊢
  walk_at "rd"
  intro t2 ht2
  have s4 := same_new ht2 (.tup [.ref t1, .int (((n + 3 + k' : Nat) : Int) + 1)])
  refine q t2 (.ref t1) _ (hs1.trans (hs2.trans (s3.trans s4))) ?_ ?_
  · rw [upd_same]
    show some (HO.tup [V.ref t1, V.int (((n + 3 + k' : Nat) : Int) + 1)]) = _
    rw [show ((n + 3 + k' : Nat) : Int) + 1 = ((n + (4 + k') : Nat) : Int) by omega]
  · have s24 := s3.trans s4
    refine ⟨by omega, by omega, t1, jl, xs, rfl, by rw [hmn]; exact s4 _ _ h3, fun z => z (hs1.free hjl0), s24 _ _ hjl2, Paired.mapP hp2 fun _ _ z => Jb.JobN.same (.of s24) d (Jb.JobN.weak (fun b hb => .inr fun y => hb (hs1.free y)) d z)⟩
theorem hd_at {ws : List Str} {n : Nat} (h : n < ws.length) : atI (ws.map V.str) (n : Int) = some (.str (Cp.hd ws n)) := atI_nat (by
  unfold Cp.hd
  rw [List.getElem?_map, List.getElem?_eq_getElem h]
  rfl)
theorem rdJ_bas {r : List Str} (hb : Cp.isB r = true) : ∀ d : Nat, (∀ b k, Cp.rdB r = some (b, k) → ∃ j, Cp.rdJ d r = some (j, k) ∧ ∀ {M : Addr → Prop} {H' : Hp} {v : V}, Jb.BasN M H' v b → Jb.JobN M H' d v j) ∧ (Cp.rdB r = none → Cp.rdJ d r = none)
  | 0 => ⟨fun b k h => ⟨b, h, fun z => z⟩, fun h => h⟩
  | d + 1 => by
    refine ⟨fun b k h => ⟨Sum.inl b, ?_, fun z => z⟩, fun h => ?_⟩
    · unfold Cp.rdJ
      rw [if_pos hb, h]
      rfl
    · unfold Cp.rdJ
      rw [if_pos hb, h]
      rfl
theorem step_read_job (T : Tx K mg a) {L d : Nat} (hL : 3 ≤ L) (G_read_times : FnOk P w K mg base (CX1 P w) L a.f_read_times a.d_read_times ["words", "at", "brackets"] (sp_read_times a.c_NoCopy d)) : FnOk P w K mg base (CX1 P w) (L + 1) a.f_read_job a.d_read_job ["words", "at", "brackets"] (sp_read_job a.c_NoCopy d) := by
  have G_read_measure := ok_read_measure (P := P) (w := w) (base := base) T
  have G_read_gaps := ok_read_gaps (P := P) (w := w) (base := base) T
  have G_read_set := ok_read_set (P := P) (w := w) (base := base) T
  refine T.read_job.fn.okX sc_read_job (fun vs H Q E h => ?_) (fun cdv A outer s H vs Q E hr h => ?_)
  · obtain ⟨wl, ws, n, rfl, _⟩ := h
    rfl
  obtain ⟨wl, ws, n, rfl, W, hfew, hlt, hd4, q, x⟩ := h
  have ev : ∀ x y : Str, decide (V.str x = V.str y) = decide (x = y) := fun x y => Cs.strV
  have hat := hd_at hlt
  have e0 : Cp.hd (ws.drop n) 0 = Cp.hd ws n := by rw [Cp.hd_drop]; rfl
  -- a short job
  have bas : ∀ f : List Str → Cp.Rd Jb.Bas, Cp.isB (ws.drop n) = true → Cp.rdB (ws.drop n) = f (ws.drop n) → sp_rdB a.c_NoCopy f [.ref wl, .int (n : Int)] H Q E := fun f hb hf =>
    ⟨wl, ws, n, rfl, W, hlt, fun b k h v H' s ⟨t, v1, e, h1, h2⟩ => by
      obtain ⟨j, hj, mk⟩ := (rdJ_bas hb d).1 b k (hf.trans h)
      rw [e]
      exact q j k hj t v1 H' s h1 (mk h2), fun h H' s => x ((rdJ_bas hb d).2 (hf.trans h)) H' s⟩
  refine ⟨_, (pss_cons (ps_if (pt_cmpR op_eq (pe_ix (kix_list K rfl) (pv 0) (pv 1) (fun _ _ => rfl)) pe_str (nomark _)) (pss_one (ps_ret (pcallX T.read_measure G_read_measure hr rfl rfl (pa_cons (pv 0) (pa_cons (pv 1) pa_nil)) (hjk := by omega)))) pss_nil)
      (pss_cons (ps_if (pt_cmpR op_eq (pe_ix (kix_list K rfl) (pv 0) (pv 1) (fun _ _ => rfl)) pe_str (nomark _)) (pss_one (ps_ret (pcallX T.read_gaps G_read_gaps hr rfl rfl (pa_cons (pv 0) (pa_cons (pv 1) pa_nil)) (hjk := by omega)))) pss_nil)
      (pss_cons (ps_if (pt_cmpR op_eq (pe_ix (kix_list K rfl) (pv 0) (pv 1) (fun _ _ => rfl)) pe_str (nomark _)) (pss_one (ps_ret (pcallX T.read_set G_read_set hr rfl rfl (pa_cons (pv 0) (pa_cons (pv 1) pa_nil)) (hjk := by omega)))) pss_nil)
      (pss_one (ps_ret (pcallX T.read_times G_read_times hr rfl rfl (pa_cons (pv 0) (pa_cons (pv 1) (pa_cons (pv 2) pa_nil))) (hjk := by omega))))))), ?_⟩
  walk_at "rd"
  try refine ⟨wl, _, _, _, rfl, rfl, SqL.of W.at_, hat, ?_⟩
  walk_at "rd"
  rw [ev]
  by_cases h1 : Cp.hd ws n = "measure"
  · rw [decide_eq_true h1]
    refine iteT ?_
    walk_at "rd"
    exact bas _ (by unfold Cp.isB; rw [e0, decide_eq_true h1]; rfl) (by unfold Cp.rdB; rw [e0, if_pos h1])
  rw [decide_eq_false h1]
  refine iteF ?_
  walk_at "rd"
  try refine ⟨wl, _, _, _, rfl, rfl, SqL.of W.at_, hat, ?_⟩
  walk_at "rd"
  rw [ev]
  by_cases h2 : Cp.hd ws n = "gaps"
  · rw [decide_eq_true h2]
    refine iteT ?_
    walk_at "rd"
    exact bas _ (by unfold Cp.isB; rw [e0, decide_eq_false h1, decide_eq_true h2]; rfl) (by unfold Cp.rdB; rw [e0, if_neg h1, if_pos h2])
  rw [decide_eq_false h2]
  refine iteF ?_
  walk_at "rd"
  try refine ⟨wl, _, _, _, rfl, rfl, SqL.of W.at_, hat, ?_⟩
  walk_at "rd"
  rw [ev]
  by_cases h3 : Cp.hd ws n = "set"
  · rw [decide_eq_true h3]
    refine iteT ?_
    walk_at "rd"
    exact bas _ (by unfold Cp.isB; rw [e0, decide_eq_false h1, decide_eq_false h2, decide_eq_true h3]; rfl) (by unfold Cp.rdB; rw [e0, if_neg h1, if_neg h2, if_pos h3])
  rw [decide_eq_false h3]
  refine iteF ?_
  have hb : Cp.isB (ws.drop n) = false := by unfold Cp.isB; rw [e0, decide_eq_false h1, decide_eq_false h2, decide_eq_false h3]; rfl
  walk_at "rd"
  have er : ∀ d', d = d' + 1 → (∀ m js k, Cp.rdT (fun r => Cp.rdJs d' r) (ws.drop n) = some ((m, js), k) → ∃ j, Cp.rdJ d (ws.drop n) = some (j, k) ∧ ∀ {M : Addr → Prop} {H' : Hp} {v : V}, Jb.JobN M H' (d' + 1) v (Sum.inr (m, js)) → Jb.JobN M H' d v j) ∧ (Cp.rdT (fun r => Cp.rdJs d' r) (ws.drop n) = none → Cp.rdJ d (ws.drop n) = none) := fun d' e => by
    subst e
    have er : Cp.rdJ (d' + 1) (ws.drop n) = (Cp.rdT (fun r => Cp.rdJs d' r) (ws.drop n)).map fun z => (Sum.inr z.1, z.2) := by
      rw [Cp.rdJ, if_neg (by rw [hb]; exact Bool.false_ne_true)]
      rfl
    exact ⟨fun m js k h => ⟨_, by rw [er, h]; rfl, fun z => z⟩, fun h => by rw [er, h]; rfl⟩
  refine ⟨wl, ws, n, rfl, W, hfew, hlt, hd4, fun d' e m js k h t v1 H' s ht hv => ?_, fun h => x ?_⟩
  · obtain ⟨j, hj, mk⟩ := (er d' e).1 m js k h
    exact q j k hj t v1 H' s ht (mk hv)
  · cases d with
    | zero =>
      show Cp.rdB (ws.drop n) = none
      unfold Cp.rdB
      rw [e0, if_neg h1, if_neg h2, if_neg h3]
    | succ d' => exact (er d' rfl).2 (h d' rfl)
theorem stops_iff {ws : List Str} {n : Nat} : Cp.stops (ws.drop n) = false ↔ n < ws.length ∧ Cp.hd ws n ≠ ")" := by
  unfold Cp.stops
  rw [Cp.hd_drop, Nat.add_zero, Bool.or_eq_false_iff, decide_eq_false_iff_not, decide_eq_false_iff_not, List.drop_eq_nil_iff]
  constructor
  · exact fun ⟨h1, h2⟩ => ⟨by omega, h2⟩
  · exact fun ⟨h1, h2⟩ => ⟨by omega, h2⟩
theorem step_read_jobs (T : Tx K mg a) {L d : Nat} (G_read_job : FnOk P w K mg base (CX1 P w) L a.f_read_job a.d_read_job ["words", "at", "brackets"] (sp_read_job a.c_NoCopy d)) : FnOk P w K mg base (CX1 P w) (L + 1) a.f_read_jobs a.d_read_jobs ["words", "at", "brackets"] (sp_read_jobs a.c_NoCopy d) := by
  refine T.read_jobs.fn.okX sc_read_jobs (fun vs H Q E h => ?_) (fun cdv A outer s H vs Q E hr h => ?_)
  · obtain ⟨wl, ws, n, rfl, _⟩ := h
    rfl
  obtain ⟨wl, ws, n, rfl, W, hfew, hn, hd4, q, x⟩ := h
  have ev : ∀ x y : Str, decide (V.str x = V.str y) = decide (x = y) := fun x y => Cs.strV
  refine ⟨_, (pss_cons (ps_set (i := 3) sc_read_jobs.nd rfl (Or.inl rfl) (pe_lst pa_nil))
      (pss_cons (ps_while (fly_own rfl) (PW.pt (pw_and (pt_cmpR op_lt (pv 1) (pe_callB (klen_seq K rfl) rfl T.b_len bt_len (pa_cons (pv 0) pa_nil)) (nomark _)) (pw_and1 (pt_cmpR op_ne (pe_ix (kix_list K rfl) (pv 0) (pv 1) (fun _ _ => rfl)) pe_str (nomark _))))) (pss_cons (ps_asg (pcallX T.read_job G_read_job hr rfl rfl (pa_cons (pv 0) (pa_cons (pv 1) (pa_cons (pv 2) pa_nil))) (hjk := by omega)) (kpg_tup K rfl (n := 2) rfl (pgs_cons (pg_name (i := 4) sc_read_jobs.nd rfl (Or.inl rfl)) (pgs_cons (pg_name (i := 1) sc_read_jobs.nd rfl (Or.inl rfl)) pgs_nil))))
      (pss_one (ps_expr (kpe_bm K rfl PySem.F.plainAttrs_list PySem.F.slot_list_append PySem.F.type_list_append mt_append (pv 3) (pa_cons (pv 4) pa_nil))))))
      (pss_one (ps_ret (pe_tup (pa_cons (pv 3) (pa_cons (pv 1) pa_nil))))))), ?_⟩
  walk_at "rd"
  intro jl hjl0
  have hs1 := same_new hjl0 (.lst [])
  have h1 : upd H jl (.lst []) jl = some (.lst []) := upd_same
  generalize upd H jl (.lst []) = H1 at hs1 h1 ⊢
  walk_at "rd"
  refine ⟨fun mm σ H3 => ∃ (e : Nat) (xs : List V) (js1 : List (Jb.Job d)) (v4 : Option V), mm = ws.length - (n + e) ∧ n + e ≤ ws.length ∧ σ = [some (.ref wl), some (.int ((n + e : Nat) : Int)), some (.int ((4 - d : Nat) : Int)), some (.ref jl), v4] ∧ Same H H3 ∧ H3 jl = some (.lst xs) ∧ Paired (Jb.JobN (fun a => a = jl ∨ H a ≠ none) H3 d) xs js1 ∧ js1.length ≤ e ∧ Cp.rdJs d (ws.drop n) = (Cp.rdJs d (ws.drop (n + e))).map fun z => (js1 ++ z.1, e + z.2),
    ⟨_, 0, [], [], none, rfl, hn, rfl, hs1, h1, .nil, Nat.le_refl _, by rw [Nat.add_zero]; cases Cp.rdJs d (ws.drop n) with
      | none => rfl
      | some z => show some z = some ([] ++ z.1, 0 + z.2); rw [Nat.zero_add]; rfl⟩, ?_⟩
  rintro mm σ H3 ⟨e, xs, js1, v4, rfl, hel, rfl, hs3, hjl3, hp3, hj1, hinv⟩
  have W3 := W.same hs3
  have done : Cp.stops (ws.drop (n + e)) = true → ∀ t, H3 t = none → Q (.ref t) (upd H3 t (.tup [.ref jl, .int ((n + e : Nat) : Int)])) := fun hs t ht => by
    rw [Cp.rdJs_step (r := ws.drop (n + e)), if_pos hs] at hinv
    have st := same_new ht (.tup [.ref jl, .int ((n + e : Nat) : Int)])
    refine q js1 e (by rw [hinv]; show some (js1 ++ [], e + 0) = _; rw [List.append_nil]; rfl) t jl xs _ (hs3.trans st) upd_same hjl0 (st _ _ hjl3) (Paired.mapP hp3 fun _ _ z => Jb.JobN.same (.of st) d z)
  walk_at "rd"
  refine ⟨wl, _, rfl, .inl (SqL.of W3.at_), ?_⟩
  rw [List.length_map]
  walk_at "rd"
  by_cases hlt : n + e < ws.length
  · rw [decide_eq_true (show ((n + e : Nat) : Int) < (ws.length : Int) by omega)]
    refine iteT ?_
    have hat := hd_at hlt
    refine ⟨_, rfl, ?_⟩
    refine ⟨_, rfl, ?_⟩
    refine ⟨wl, _, _, _, rfl, rfl, SqL.of W3.at_, hat, ?_⟩
    clear hat
    walk_at "rd"
    rw [ev]
    by_cases hb : Cp.hd ws (n + e) = ")"
    · rw [decide_eq_true hb]
      refine iteF ?_
      have hs : Cp.stops (ws.drop (n + e)) = true := by
        cases z : Cp.stops (ws.drop (n + e)) with
        | true => rfl
        | false => exact absurd hb (stops_iff.mp z).2
      walk_at "rd"
      exact fun t ht => done hs t ht
    · rw [decide_eq_false hb]
      refine iteT ?_
      have hs : ¬ Cp.stops (ws.drop (n + e)) = true := fun z => by
        rw [stops_iff.mpr ⟨hlt, hb⟩] at z
        cases z
      rw [Cp.rdJs_step (r := ws.drop (n + e)), if_neg hs] at hinv
      refine ⟨_, fun σ' H' h => h, ?_⟩
      walk_at "rd"
      refine ⟨wl, ws, n + e, rfl, W3, hfew, hlt, hd4, fun j kj hj t v1 H4 hs4 ht4 hv1 => ?_, fun hno H4 hs4 => x (by rw [hinv, hno]; rfl) H4 (hs3.trans hs4)⟩
      rw [hj] at hinv
      have hlen := Cp.rdJ_len d hj
      rw [List.length_drop] at hlen
      refine ⟨_, _, rfl, SqT.of ht4, rfl, ?_⟩
      walk_at "tg"
      walk_at "tg"
      have hjl4 := hs4 _ _ hjl3
      have hxl := Paired.length hp3
      walk_at "rd"
      refine ⟨.inl ⟨rfl, _, SqL.of hjl4⟩, ?_⟩
      walk_at "rd"
      refine ⟨jl, _, _, rfl, rfl, hjl4, smallLt (by omega), ?_⟩
      have su : Jb.SameS (fun a => a = jl ∨ H a ≠ none) H4 (upd H4 jl (.lst (xs ++ [v1]))) := Jb.SameS.upd hjl4 (.inl rfl)
      have st := (Jb.SameS.of (N := fun a => a = jl ∨ H a ≠ none) hs4).trans su
      refine ⟨ws.length - (n + (e + kj)), by omega, e + kj, xs ++ [v1], js1 ++ [j], _, rfl, by omega, by rw [← Nat.add_assoc]; rfl, same_upd (hs3.trans hs4) hjl0, upd_same, Paired.snoc (Paired.mapP hp3 fun _ _ z => Jb.JobN.same st d z) (Jb.JobN.same su d (Jb.JobN.weak (fun b hb => ?_) d hv1)), ?_, ?_⟩
      · rcases hb with y | y
        · rw [y, hjl3]; exact fun z => (nomatch z)
        · exact fun z => y (hs3.free z)
      · rw [List.length_append]
        show _ + 1 ≤ _
        omega
      · rw [hinv]
        dsimp only
        rw [List.drop_drop, Nat.add_assoc]
        cases Cp.rdJs d (ws.drop (n + (e + kj))) with
        | none => rfl
        | some z =>
          show some (js1 ++ (j :: z.1), e + (kj + z.2)) = some (js1 ++ [j] ++ z.1, e + kj + z.2)
          rw [List.append_assoc, Nat.add_assoc]
          rfl
  · rw [decide_eq_false (show ¬ ((n + e : Nat) : Int) < (ws.length : Int) by omega)]
    refine iteF ?_
    have hs : Cp.stops (ws.drop (n + e)) = true := by
      cases z : Cp.stops (ws.drop (n + e)) with
      | true => rfl
      | false => exact absurd (stops_iff.mp z).1 hlt
    walk_at "rd"
    exact fun t ht => done hs t ht
theorem ok_read_jobs (T : Tx K mg a) : FnOk P w K mg base (CX1 P w) 17 a.f_read_jobs a.d_read_jobs ["words", "at", "brackets"] (sp_read_jobs a.c_NoCopy 4) := by
  have up : ∀ {L d : Nat}, 2 ≤ L → FnOk P w K mg base (CX1 P w) L a.f_read_jobs a.d_read_jobs ["words", "at", "brackets"] (sp_read_jobs a.c_NoCopy d) → FnOk P w K mg base (CX1 P w) (L + 1 + 1 + 1) a.f_read_jobs a.d_read_jobs ["words", "at", "brackets"] (sp_read_jobs a.c_NoCopy (d + 1)) := fun {L d} hL G =>
    step_read_jobs T (step_read_job T (by omega) (step_read_times T hL (fun d' e vs H Q E h => by cases e; exact h) G))
  exact up (by omega) (up (by omega) (up (by omega) (up (by omega) (step_read_jobs T (step_read_job (L := 3) T (by decide) (step_read_times (L := 2) (d := 0) T (by decide) (fun d' e => absurd e (by omega)) fn_none))))))
/-- the words that a text is read as -/
def wordsOf (x : Str) : List Str := if x = "" then [] else Txt.split x " "
def sp_read_copy (C : Addr) : Sp := fun vs H Q E => ∃ (x : Str), vs = [.str x] ∧ x.length ≤ 80000 ∧ (wordsOf x).length ≤ 1000 ∧ (∀ y ∈ wordsOf x, AW y) ∧
  (∀ js, Cp.rdC (wordsOf x) = some js → ∀ (jl : Addr) (xs : List V) H', Same H H' → H jl = none → H' jl = some (.lst xs) → Paired (Jb.JobN (fun a => a = jl) H' 4) xs js → Q (.ref jl) H') ∧
  (Cp.rdC (wordsOf x) = none → ∀ H', Same H H' → E (.ref C) none H')
theorem ok_read_copy (T : Tx K mg a) : FnOk P w K mg base (CX1 P w) 18 a.f_read_copy a.d_read_copy ["text"] (sp_read_copy a.c_NoCopy) := by
  have G_read_jobs := ok_read_jobs (P := P) (w := w) (base := base) T
  refine T.read_copy.fn.okX sc_read_copy (fun vs H Q E h => ?_) (fun cdv A outer s H vs Q E hr h => ?_)
  · obtain ⟨x, rfl, _⟩ := h
    rfl
  obtain ⟨x, rfl, hx, hm, hw, q, qx⟩ := h
  have ev : ∀ y : Str, decide (V.str x = V.str y) = decide (x = y) := fun y => Cs.strV
  have hfew : (wordsOf x).length ≤ 90000 := by
    unfold wordsOf
    split
    · exact Nat.zero_le _
    · have := split_len x " "
      omega
  unfold Cp.rdC at q qx
  refine ⟨_, (pss_cons (ps_cut (ps_set (i := 1) sc_read_copy.nd rfl (Or.inl rfl) (pe_ifExp (pt_cmpR op_ne (pv 0) pe_str (nomark _)) (kpe_bm K rfl PySem.F.plainAttrs_str PySem.F.slot_str_split PySem.F.type_str_split mt_split (pv 0) (pa_cons pe_str pa_nil)) (pe_lst pa_nil))))
      (pss_cons (ps_asg (pcallX T.read_jobs G_read_jobs hr rfl rfl (pa_cons (pv 1) (pa_cons pe_int (pa_cons pe_int pa_nil)))) (kpg_tup K rfl (n := 2) rfl (pgs_cons (pg_name (i := 2) sc_read_copy.nd rfl (Or.inl rfl)) (pgs_cons (pg_name (i := 3) sc_read_copy.nd rfl (Or.inl rfl)) pgs_nil))))
      (pss_cons (ps_if (pt_cmpR op_lt (pv 3) (pe_callB (klen_seq K rfl) rfl T.b_len bt_len (pa_cons (pv 1) pa_nil)) (nomark _)) (pss_one (praise0 T.cl_NoCopy rfl rfl rfl (pa_cons (pe_k3 pe_str (pe_fmt (pv 3)) pe_str) pa_nil))) pss_nil)
      (pss_one (ps_ret (pv 2)))))), ?_⟩
  refine ⟨fun σ H1 => ∃ wl, σ = [some (.str x), some (.ref wl), none, none] ∧ Same H H1 ∧ H1 wl = some (.lst ((wordsOf x).map V.str)), ?_, ?_⟩
  · walk_at "rd"
    rw [ev]
    by_cases hx0 : x = ""
    · rw [decide_eq_true hx0]
      refine iteF ?_
      walk_at "rd"
      intro wl hwl
      refine ⟨wl, rfl, same_new hwl _, ?_⟩
      rw [upd_same]
      unfold wordsOf
      rw [if_pos hx0]
      rfl
    · rw [decide_eq_false hx0]
      refine iteT ?_
      walk_at "rd"
      try refine ⟨rfl, ?_⟩
      walk_at "rd"
      intro wl hwl
      refine ⟨wl, rfl, same_new hwl _, ?_⟩
      rw [upd_same]
      unfold wordsOf
      rw [if_neg hx0]
  rintro σ H1 ⟨wl, rfl, hs1, hwl⟩
  have W : Wds H1 wl (wordsOf x) := ⟨hwl, hfew, hw⟩
  walk_at "rd"
  refine ⟨wl, wordsOf x, 0, rfl, W, hm, Nat.zero_le _, Nat.le_refl _, fun js k e1 t jl xs H2 hs2 ht hjl0 hjl hp => ?_, fun e1 H2 hs2 => qx (by rw [show Cp.rdJs 4 (wordsOf x) = none from e1]) H2 (hs1.trans hs2)⟩
  have e1 : Cp.rdJs 4 (wordsOf x) = some (js, k) := e1
  rw [e1] at q qx
  dsimp only at q qx
  have hkl := Cp.rdL_len (fun r x k => Cp.rdJ_len 4) _ (show Cp.rdL (Cp.rdJ 4) _ (wordsOf x) = some (js, k) from e1)
  refine ⟨_, _, rfl, SqT.of ht, rfl, ?_⟩
  walk_at "tg"
  walk_at "tg"
  have W2 := W.same hs2
  walk_at "rd"
  refine ⟨wl, _, rfl, .inl (SqL.of W2.at_), ?_⟩
  rw [List.length_map]
  walk_at "rd"
  refine ite2 (fun z => ?_) (fun z => ?_)
  · have z := of_decide_eq_true z
    walk_at "rd"
    intro x2 hx2
    refine ⟨x2, rfl, hx2, ?_⟩
    walk_at "rd"
    exact fun _ => ⟨(by show 1 ≤ 10; decide), qx (by rw [if_pos (by omega)]) _ (hs1.trans hs2)⟩
  have z : ¬ k < (wordsOf x).length := fun y => z (decide_eq_true (by omega))
  walk_at "rd"
  exact q js (by rw [if_neg z]) jl xs H2 (hs1.trans hs2) (hs1.free hjl0) hjl (Paired.mapP hp fun _ _ z => Jb.JobN.weak (fun _ y => .inl y) 4 z)
def sp_law_mixed : Sp := fun vs H Q _ => ∃ c k : Int, vs = [.int c, .int k] ∧ 0 ≤ k ∧ k ≤ 1000000 ∧ ∀ z, 0 ≤ z → z < 2147483629 → Q (.int z) H
theorem ok_law_mixed (T : Tx K mg a) : FnOk P w K mg base CX0 1 a.f_law_mixed a.d_law_mixed ["_law_cell", "_law_k"] sp_law_mixed := by
  refine T.law_mixed.fn.ok sc_law_mixed (fun vs H Q E h => ?_) (fun cdv A outer s H vs Q E hr h => ?_)
  · obtain ⟨c, k, rfl, _⟩ := h
    rfl
  obtain ⟨c, k, rfl, h0, h1, q⟩ := h
  refine ⟨_, (pss_one (ps_ret (pe_op op_mod (pe_op op_mul (pe_op op_add (pe_op op_mod (pv 0) (pe_op op_pow pe_int pe_int)) pe_int) (pe_op op_add pe_int (pe_op op_mul (pe_op op_mul pe_int (pv 1)) (pv 1)))) pe_int))), ?_⟩
  have e18 : (10 : Int) ^ (18 : Int).toNat = 1000000000000000000 := by decide
  have hc0 := Int.emod_nonneg c (show (1000000000000000000 : Int) ≠ 0 by decide)
  have hc1 := Int.emod_lt_of_pos c (show (0 : Int) < 1000000000000000000 by decide)
  refine ⟨_, rfl, ?_⟩
  refine ⟨_, _, rfl, rfl, ⟨by decide, by decide, by decide⟩, ?_⟩
  refine ⟨_, _, rfl, rfl, (by show (0 : Int) < (10 : Int) ^ (18 : Int).toNat; rw [e18]; decide), ?_⟩
  dsimp only
  rw [e18]
  refine ⟨_, _, rfl, rfl, ?_⟩
  refine ⟨_, rfl, ?_⟩
  refine ⟨_, _, rfl, rfl, .inl ⟨by decide, by decide⟩, ?_⟩
  refine ⟨_, rfl, ?_⟩
  refine ⟨_, _, rfl, rfl, .inl ⟨by omega, by omega⟩, ?_⟩
  refine ⟨_, _, rfl, rfl, ?_⟩
  refine ⟨_, _, rfl, rfl, .inl ⟨by omega, by omega⟩, ?_⟩
  refine ⟨_, _, rfl, rfl, (by show (0 : Int) < 2147483629; decide), ?_⟩
  exact q _ (Int.emod_nonneg _ (by decide)) (Int.emod_lt_of_pos _ (by decide))
/-- a word but for its being no end -/
def Wd (x : Str) : Prop := 1 ≤ x.cps.toList.length ∧ x.cps.toList.length ≤ 12 ∧ ∀ c ∈ x.cps.toList, c ∈ Cs.signs
theorem strs_mem {zs : List Str} {i : Int} (h0 : 0 ≤ i) (h1 : i < (zs.length : Int)) : ∃ x, x ∈ zs ∧ atI (zs.map V.str) i = some (.str x) := by
  have hk : i.toNat < zs.length := by omega
  have ek : i = ((i.toNat : Nat) : Int) := by omega
  have q : atI (zs.map V.str) ((i.toNat : Nat) : Int) = some (.str zs[i.toNat]) := atI_nat (by rw [List.getElem?_map, List.getElem?_eq_getElem hk]; rfl)
  rw [← ek] at q
  exact ⟨_, List.getElem_mem hk, q⟩
def oddWords : List Str := ["set", "times", "measure", "gaps", "ends", "en", "-", "'."]
theorem odd_ok : ∀ x ∈ oddWords, 1 ≤ x.cps.toList.length ∧ x.cps.toList.length ≤ 12 ∧ ∀ c ∈ x.cps.toList, c ∈ Cs.signs := by decide +kernel
theorem ends_ok : Jb.WordOk "ends" := ⟨by decide +kernel, by decide +kernel, by decide +kernel, by decide +kernel⟩
def sp_law_word : Sp := fun vs H Q _ => ∃ n : Int, vs = [.int n] ∧ 0 ≤ n ∧ ∀ (x : Str) H', Same H H' → Jb.WordOk x → Q (.str x) H'
theorem ok_law_word (T : Tx K mg a) : FnOk P w K mg base CX0 1 a.f_law_word a.d_law_word ["_law_number"] sp_law_word := by
  refine T.law_word.fn.ok sc_law_word (fun vs H Q E h => ?_) (fun cdv A outer s H vs Q E hr h => ?_)
  · obtain ⟨n, rfl, _⟩ := h
    rfl
  obtain ⟨n, rfl, hn, q⟩ := h
  obtain ⟨m, hm, em⟩ := ints_mem (zs := [3, 12]) (i := n / 5 % 2) (by omega) (by show n / 5 % 2 < 2; omega)
  have hm' : 1 ≤ m ∧ m ≤ 12 := by simp at hm; omega
  have hx0 := Int.emod_nonneg n (show m ≠ 0 by omega)
  have hx1 := Int.emod_lt_of_pos n (show 0 < m by omega)
  refine ⟨_, (pss_cons (ps_set (i := 1) sc_law_word.nd rfl (Or.inl rfl) pe_str)
      (pss_cons (ps_set (i := 2) sc_law_word.nd rfl (Or.inl rfl) pe_str)
      (pss_cons (ps_for PassesOwn.never rfl (pi_range1 rfl T.b_range (pa_cons (pe_op op_add pe_int (pe_op op_mod (pv 0) (pe_ix (kix_list K rfl) (pe_lst (pa_cons pe_int (pa_cons pe_int pa_nil))) (pe_op op_mod (pe_op op_fdiv (pv 0) pe_int) pe_int) (fun _ _ => rfl)))) pa_nil)) (pg_name (i := 3) sc_law_word.nd rfl (Or.inl rfl)) (pss_one (ps_set (i := 2) sc_law_word.nd rfl (Or.inl rfl) (pe_op op_add_str (pv 2) (pe_ix ix_str (pv 1) (pe_op op_mod (pe_op op_fdiv (pv 0) (pe_op op_add pe_int (pv 3))) pe_int) (fun _ _ => rfl))))))
      (pss_cons (ps_cut (ps_if (pt_cmpR op_eq (pe_op op_mod (pe_op op_fdiv (pv 0) pe_int) pe_int) pe_int (nomark _)) (pss_one (ps_set (i := 2) sc_law_word.nd rfl (Or.inl rfl) (pe_ix (kix_list K rfl) (pe_lst (pa_cons pe_str (pa_cons pe_str (pa_cons pe_str (pa_cons pe_str (pa_cons pe_str (pa_cons pe_str (pa_cons pe_str (pa_cons pe_str pa_nil))))))))) (pe_op op_mod (pe_op op_fdiv (pv 0) pe_int) pe_int) (fun _ _ => rfl)))) pss_nil))
      (pss_cons (ps_cut (ps_if (pt_cmpR op_eq (pv 2) pe_str (nomark _)) (pss_one (ps_set (i := 2) sc_law_word.nd rfl (Or.inl rfl) pe_str)) pss_nil))
      (pss_one (ps_ret (pv 2)))))))), ?_⟩
  walk_at "rd"
  intro p1 hp1
  have hs1 := same_new hp1 (.lst (([3, 12] : List Int).map V.int))
  walk_at "rd"
  refine for_range (n := (1 + n % m).toNat) (fun j σ H4 => ∃ (x : Str) (v3 : Option V), σ = [some (.int n), some (.str "abcdefghijklmnopqrstuvwxyz.,-'"), some (.str x), v3] ∧ H4 = upd H p1 (.lst (([3, 12] : List Int).map V.int)) ∧ x.cps.toList.length = j ∧ ∀ d ∈ x.cps.toList, d ∈ Cs.signs)
    ⟨"", _, rfl, rfl, by decide, fun d h => by rw [show (Str.ofString "").cps.toList = [] by decide] at h; cases h⟩ ?_ ?_
  · rintro j σ H4 hj ⟨x, v3, rfl, rfl, hxl, hxc⟩
    have hd0 := Int.ediv_nonneg hn (show (0 : Int) ≤ 7 + (0 + (j : Int)) by omega)
    obtain ⟨ch, hcm, ec⟩ := Cs.signs_at (i := n / (7 + (0 + (j : Int))) % 30) (by omega) (by omega)
    have hxs : x.length = j := by rw [← hxl]; exact Array.length_toList.symm
    walk_at "rd"
    refine ⟨_, _, _, rfl, rfl, by decide, ec, ?_⟩
    refine ⟨_, _, rfl, rfl, smallL (by show x.length + 1 ≤ _; omega), ?_⟩
    refine ⟨x ++ sg ch, _, rfl, rfl, ?_, fun d hd => ?_⟩
    · rw [Str.cps_append, Array.toList_append, List.length_append, hxl]
      rfl
    · rw [Str.cps_append, Array.toList_append] at hd
      rcases List.mem_append.mp hd with h | h
      · exact hxc d h
      · have : d = ch := by simpa [sg] using h
        rw [this]
        exact hcm
  · rintro σ H4 ⟨x, v3, rfl, rfl, hxl, hxc⟩
    generalize upd H p1 (.lst (([3, 12] : List Int).map V.int)) = H1 at hs1 ⊢
    have hw : Wd x := ⟨by omega, by omega, hxc⟩
    refine ⟨fun σ' H' => ∃ (y : Str), σ' = [some (.int n), some (.str "abcdefghijklmnopqrstuvwxyz.,-'"), some (.str y), v3] ∧ Same H H' ∧ Wd y, ?_, ?_⟩
    · walk_at "rd"
      refine ite2 (fun c => ?_) (fun c => ?_)
      · obtain ⟨y, hy, ey⟩ := strs_mem (zs := oddWords) (i := n / 88 % 8) (by omega) (by show n / 88 % 8 < 8; omega)
        walk_at "rd"
        intro p2 hp2
        have hs2 := same_new hp2 (.lst (oddWords.map V.str))
        walk_at "rd"
        exact ⟨hs1.trans hs2, odd_ok y hy⟩
      · exact ⟨x, rfl, hs1, hw⟩
    rintro σ' H2 ⟨y, rfl, hs2, hy⟩
    refine ⟨fun σ' H' => ∃ (z : Str), σ' = [some (.int n), some (.str "abcdefghijklmnopqrstuvwxyz.,-'"), some (.str z), v3] ∧ Same H H' ∧ Jb.WordOk z, ?_, ?_⟩
    · walk_at "rd"
      refine ite2 (fun c => ?_) (fun c => ?_)
      · exact ⟨_, rfl, hs2, ends_ok⟩
      · exact ⟨y, rfl, hs2, hy.1, hy.2.1, hy.2.2, fun z => c (decide_eq_true (by rw [z]))⟩
    rintro σ' H3 ⟨z, rfl, hs3, hz⟩
    walk_at "rd"
    exact q z H3 hs3 hz
def sp_law_job : Sp := fun vs H Q _ => ∃ k n : Int, vs = [.int k, .int n] ∧ 0 ≤ n ∧ ∀ (v : V) (b : Jb.Bas) H', Same H H' → Jb.BasN (fun a => H a ≠ none) H' v b → Jb.GoodB b → (Cp.tellB b).length ≤ 7 → Q v H'
theorem ok_law_job (T : Tx K mg a) : FnOk P w K mg base CX0 2 a.f_law_job a.d_law_job ["_law_kind", "_law_number"] sp_law_job := by
  have G_law_word := ok_law_word (P := P) (w := w) (base := base) T
  refine T.law_job.fn.ok sc_law_job (fun vs H Q E h => ?_) (fun cdv A outer s H vs Q E hr h => ?_)
  · obtain ⟨k, n, rfl, _⟩ := h
    rfl
  obtain ⟨k, n, rfl, hn, q⟩ := h
  refine ⟨_, (pss_cons (ps_if (pt_cmpR op_eq (pv 0) pe_int (nomark _)) (pss_one (ps_ret (pe_tup (pa_cons pe_str (pa_cons (pe_op op_add pe_int (pe_op op_mod (pv 1) (pe_ix (kix_list K rfl) (pe_lst (pa_cons pe_int (pa_cons pe_int pa_nil))) (pe_op op_mod (pe_op op_fdiv (pv 1) pe_int) pe_int) (fun _ _ => rfl)))) pa_nil))))) pss_nil)
      (pss_cons (ps_if (pt_cmpR op_eq (pv 0) pe_int (nomark _)) (pss_cons (ps_set (i := 2) sc_law_job.nd rfl (Or.inl rfl) (pe_op op_mod (pv 1) (pe_ix (kix_list K rfl) (pe_lst (pa_cons pe_int (pa_cons pe_int pa_nil))) (pe_op op_mod (pe_op op_fdiv (pv 1) pe_int) pe_int) (fun _ _ => rfl))))
      (pss_cons (ps_set (i := 3) sc_law_job.nd rfl (Or.inl rfl) (pe_op op_add (pv 2) (pe_op op_mod (pe_op op_fdiv (pv 1) pe_int) (pe_op op_sub pe_int (pv 2)))))
      (pss_one (ps_ret (pe_tup (pa_cons pe_str (pa_cons (pv 2) (pa_cons (pv 3) (pa_cons (pe_op op_add (pv 3) (pe_op op_mod (pe_op op_fdiv (pv 1) pe_int) (pe_op op_sub pe_int (pv 3)))) pa_nil))))))))) pss_nil)
      (pss_one (ps_ret (pe_tup (pa_cons pe_str (pa_cons (pe_compG rfl (pi_range1 rfl T.b_range (pa_cons (pe_op op_add pe_int (pe_op op_mod (pv 1) pe_int)) pa_nil)) (BlkOk.of (N' := ["_law_kind", "_law_number", "_law_low", "_law_ideal", "_law_j"]) (ms := []) (k := 1) (by rfl)) (fun _ _ _ _ _ => (pg_name (i := 4) (show List.Nodup (["_law_kind", "_law_number", "_law_low", "_law_ideal", "_law_j"] : List Str) from by decide +kernel) rfl (Or.inl rfl))) (fun _ _ _ _ _ => pts_nil) (fun _ _ _ _ _ => (pcall T.law_word G_law_word hr rfl (pa_cons (pe_op op_add (pe_op op_fdiv (pv 1) (pe_op op_add pe_int (pv 4))) (pe_op op_mul pe_int (pv 4))) pa_nil)))) pa_nil))))))), ?_⟩
  walk_at "rd"
  refine ite2 (fun c0 => ?_) (fun c0 => ?_)
  · obtain ⟨m, hm, em⟩ := ints_mem (zs := [9, 2000]) (i := n / 7 % 2) (by omega) (by show n / 7 % 2 < 2; omega)
    have hm' : 1 ≤ m ∧ m ≤ 2000 := by simp at hm; omega
    have hx0 := Int.emod_nonneg n (show m ≠ 0 by omega)
    have hx1 := Int.emod_lt_of_pos n (show 0 < m by omega)
    walk_at "rd"
    intro p1 hp1
    have hs1 := same_new hp1 (.lst (([9, 2000] : List Int).map V.int))
    walk_at "rd"
    intro t ht
    exact q (.ref t) (.ms (1 + n % m)) _ (same_add hs1 ht) ⟨t, rfl, upd_same⟩ ⟨by omega, by omega⟩ (by show 2 ≤ 7; decide)
  walk_at "rd"
  refine ite2 (fun c1 => ?_) (fun c1 => ?_)
  · obtain ⟨m, hm, em⟩ := ints_mem (zs := [3, 100]) (i := n / 7 % 2) (by omega) (by show n / 7 % 2 < 2; omega)
    have hm' : 1 ≤ m ∧ m ≤ 100 := by simp at hm; omega
    have hx0 := Int.emod_nonneg n (show m ≠ 0 by omega)
    have hx1 := Int.emod_lt_of_pos n (show 0 < m by omega)
    walk_at "rd"
    intro p1 hp1
    have hs1 := same_new hp1 (.lst (([3, 100] : List Int).map V.int))
    walk_at "rd"
    dsimp only
    generalize n % m = lo at hx0 hx1 ⊢
    have hy0 := Int.emod_nonneg (n / 100) (show 100 - lo ≠ 0 by omega)
    have hy1 := Int.emod_lt_of_pos (n / 100) (show 0 < 100 - lo by omega)
    have hz0 := Int.emod_nonneg (n / 9) (show 100 - (lo + n / 100 % (100 - lo)) ≠ 0 by omega)
    have hz1 := Int.emod_lt_of_pos (n / 9) (show 0 < 100 - (lo + n / 100 % (100 - lo)) by omega)
    refine And.intro (by omega) ?_
    walk_at "rd"
    intro t ht
    exact q (.ref t) (.gp lo (lo + n / 100 % (100 - lo)) (lo + n / 100 % (100 - lo) + n / 9 % (100 - (lo + n / 100 % (100 - lo))))) _ (same_add hs1 ht) ⟨t, rfl, upd_same⟩ ⟨by omega, by omega, by omega, by omega⟩ (by show 4 ≤ 7; decide)
  walk_at "rd"
  intro D hD
  refine comp_range (lo := 0) (n := (1 + n % 5).toNat) (fun j ys σ H6 => ∃ (v4 : Option V) (ws : List Str), ys = ws.map V.str ∧ σ = [some (.int k), some (.int n), none, none, v4] ∧ Same H H6 ∧ H6 D = some (.lst ys) ∧ ws.length = j ∧ ∀ x ∈ ws, Jb.WordOk x)
    ?_ ?_ ?_
  · exact ⟨none, [], rfl, rfl, same_new hD _, upd_same, rfl, fun x hx => nomatch hx⟩
  · rintro j ys σ H6 hj ⟨v4, ws, rfl, rfl, hs6, hh6, hwl, hw⟩
    have hd0 := Int.ediv_nonneg hn (show (0 : Int) ≤ 3 + (0 + (j : Int)) by omega)
    walk_at "rd"
    intro x H7 hs7 hx
    refine cnext hj (hs7 _ _ hh6) (by rw [List.length_map]; omega) ⟨_, ws ++ [x], by rw [List.map_append]; rfl, rfl, same_upd (hs6.trans hs7) hD, upd_same, by rw [List.length_append, hwl]; rfl, fun y hy => ?_⟩
    rcases List.mem_append.mp hy with z | z
    · exact hw y z
    · rw [List.mem_singleton.mp z]; exact hx
  · rintro ys σ H6 ⟨v4, ws, rfl, rfl, hs6, hh6, hwl, hw⟩
    walk_at "rd"
    intro t ht
    have hs7 := same_new ht (.tup [.str "set", .ref D])
    exact q (.ref t) (.st ws) _ (hs6.trans hs7) ⟨t, D, rfl, upd_same, fun z => z hD, hs7 _ _ hh6⟩ ⟨by omega, by omega, hw⟩ (by show (Str.ofString "set" :: ws ++ [Str.ofString "end"]).length ≤ 7; rw [List.length_append]; show ws.length + 1 + 1 ≤ 7; omega)
/-- what is done else is shown once -/
theorem if_else {c : TT} {t u : TS} {D : Ends} {σ : St} {H : Hp} (R : Hp → Prop) (hu : ∀ H', R H' → u D σ H') (h : ∀ u' : TS, (∀ H', R H' → u' D σ H') → tIfS c t u' D σ H) : tIfS c t u D σ H := h u hu
theorem bas_job {N : Addr → Prop} {H : Hp} {v : V} {b : Jb.Bas} (h : Jb.BasN N H v b) (g : Jb.GoodB b) : ∀ d, ∃ j : Jb.Job d, Jb.JobN N H d v j ∧ Jb.GoodJ d j ∧ Cp.tellJ d j = Cp.tellB b
  | 0 => ⟨b, h, g, rfl⟩
  | _ + 1 => ⟨Sum.inl b, h, g, rfl⟩
theorem times_job {N : Addr → Prop} {H : Hp} {b dd d z : Nat} (e : d = dd + 1) {t p : Addr} {n : Int} (hn1 : 1 ≤ n) (hn9 : n ≤ 9) (ht : H t = some (.tup [.str "times", .int n, .ref p])) (hp : ¬ N p) (hl : Jb.ListZ N H b dd p z) (hne : H p ≠ some (.lst [])) (hb : b ≤ 100) : ∃ j : Jb.Job d, Jb.JobN N H d (.ref t) j ∧ Jb.GoodJ d j ∧ (Cp.tellJ d j).length ≤ 4 + z := by
  subst e
  obtain ⟨xs, js, h1, h2, h3, h4, h5⟩ := hl
  have en : ((n.toNat : Nat) : Int) = n := by omega
  have hjs : js ≠ [] := fun z => by
    rw [z] at h2
    cases h2
    exact hne h1
  refine ⟨Sum.inr (n.toNat, js), ⟨by omega, by omega, t, p, xs, rfl, by rw [en]; exact ht, hp, h1, h2⟩, ⟨by omega, by omega, hjs, by omega, h3⟩, ?_⟩
  show ([Cp.numT (n.toNat : Int), Str.ofString "times", Str.ofString "("] ++ Cp.tells dd js ++ [Str.ofString ")"]).length ≤ _
  rw [List.length_append, List.length_append]
  show 3 + _ + 1 ≤ _
  omega
theorem last_get {α : Type} {xs : List α} (h : xs ≠ []) : ∃ pre x, xs = pre ++ [x] := by
  rcases List.eq_nil_or_concat xs with e | ⟨pre, x, e⟩
  · exact absurd e h
  · exact ⟨pre, x, by rw [e, List.concat_eq_append]⟩
theorem le_sum {z : Nat} : ∀ {zs : List Nat}, z ∈ zs → z ≤ zs.sum
  | y :: zs, h => by
    rw [List.sum_cons]
    rcases List.mem_cons.mp h with e | h
    · omega
    · have := le_sum h
      omega
def sp_law_jobs (K : PySem.W.Frag) : Sp := fun vs H Q _ => ∃ (l : Addr) (ns : List Int), vs = [.ref l] ∧ SqL K H l (ns.map V.int) ∧ ns.length ≤ 60 ∧
  ∀ (L : Addr) (xs : List V) (js : List (Jb.Job 4)) (H' : Hp), Same H H' → H L = none → H' L = some (.lst xs) → Paired (Jb.JobN (fun a => a = L) H' 4) xs js → (∀ j ∈ js, Jb.GoodJ 4 j) → js.length ≤ 100 → (Cp.tells 4 js).length ≤ 500 → Q (.ref L) H'
theorem ok_law_jobs (T : Tx K mg a) : FnOk P w K mg base CX0 3 a.f_law_jobs a.d_law_jobs ["_law_cells"] (sp_law_jobs K) := by
  have G_law_mixed := ok_law_mixed (P := P) (w := w) (base := base) T
  have G_law_job := ok_law_job (P := P) (w := w) (base := base) T
  refine T.law_jobs.fn.ok sc_law_jobs (fun vs H Q E h => ?_) (fun cdv A outer s H vs Q E hr h => ?_)
  · obtain ⟨l, ns, rfl, _⟩ := h
    rfl
  obtain ⟨l, ns, rfl, hS, hl, q⟩ := h
  refine ⟨_, (pss_cons (ps_set (i := 1) sc_law_jobs.nd rfl (Or.inl rfl) (pe_lst (pa_cons (pe_lst pa_nil) pa_nil)))
      (pss_cons (ps_set (i := 2) sc_law_jobs.nd rfl (Or.inl rfl) (pe_lst pa_nil))
      (pss_cons (ps_for PassesOwn.never rfl (pi_range1 rfl T.b_range (pa_cons (pe_callB (klen_seq K rfl) rfl T.b_len bt_len (pa_cons (pv 0) pa_nil)) pa_nil)) (pg_name (i := 3) sc_law_jobs.nd rfl (Or.inl rfl)) (pss_cons (ps_set (i := 4) sc_law_jobs.nd rfl (Or.inl rfl) (pcall T.law_mixed G_law_mixed hr rfl (pa_cons (pe_ix (kix_list K rfl) (pv 0) (pv 3) (fun _ _ => rfl)) (pa_cons (pe_op op_add (pv 3) pe_int) pa_nil))))
      (pss_cons (ps_set (i := 5) sc_law_jobs.nd rfl (Or.inl rfl) (pe_op op_mod (pe_ix (kix_list K rfl) (pv 0) (pv 3) (fun _ _ => rfl)) pe_int))
      (pss_one (ps_if (PW.pt (pw_and (pt_cmpR op_eq (pv 5) pe_int (nomark _)) (pw_and1 (pt_cmpR op_lt (pe_callB (klen_seq K rfl) rfl T.b_len bt_len (pa_cons (pv 1) pa_nil)) pe_int (nomark _))))) (pss_cons (ps_expr (kpe_bm K rfl PySem.F.plainAttrs_list PySem.F.slot_list_append PySem.F.type_list_append mt_append (pv 2) (pa_cons (pe_op op_add pe_int (pe_op op_mod (pv 4) (pe_ix (kix_list K rfl) (pe_lst (pa_cons pe_int (pa_cons pe_int (pa_cons pe_int (pa_cons pe_int pa_nil))))) (pe_op op_sub (pe_callB (klen_seq K rfl) rfl T.b_len bt_len (pa_cons (pv 1) pa_nil)) pe_int) (fun _ _ => rfl)))) pa_nil)))
      (pss_one (ps_expr (kpe_bm K rfl PySem.F.plainAttrs_list PySem.F.slot_list_append PySem.F.type_list_append mt_append (pv 1) (pa_cons (pe_lst pa_nil) pa_nil))))) (pss_one (ps_if (PW.pt (pw_and (pt_cmpR op_eq (pv 5) pe_int (nomark _)) (pw_and (pt_cmpR op_gt (pe_callB (klen_seq K rfl) rfl T.b_len bt_len (pa_cons (pv 1) pa_nil)) pe_int (nomark _)) (pw_and1 (pt_cmpR (kneD K rfl hr.units) (pe_ix (kix_list K rfl) (pv 1) (pe_un un_neg pe_int) (fun _ _ => rfl)) (pe_lst pa_nil) (nomark _)))))) (pss_cons (ps_set (i := 6) sc_law_jobs.nd rfl (Or.inl rfl) (kpe_bm0 K rfl PySem.F.plainAttrs_list PySem.F.slot_list_pop PySem.F.type_list_pop mt_pop (pv 1)))
      (pss_one (ps_expr (kpe_bm K rfl PySem.F.plainAttrs_list PySem.F.slot_list_append PySem.F.type_list_append mt_append (pe_ix (kix_list K rfl) (pv 1) (pe_un un_neg pe_int) (fun _ _ => rfl)) (pa_cons (pe_tup (pa_cons pe_str (pa_cons (kpe_bm0 K rfl PySem.F.plainAttrs_list PySem.F.slot_list_pop PySem.F.type_list_pop mt_pop (pv 2)) (pa_cons (pv 6) pa_nil)))) pa_nil))))) (pss_one (ps_expr (kpe_bm K rfl PySem.F.plainAttrs_list PySem.F.slot_list_append PySem.F.type_list_append mt_append (pe_ix (kix_list K rfl) (pv 1) (pe_un un_neg pe_int) (fun _ _ => rfl)) (pa_cons (pcall T.law_job G_law_job hr rfl (pa_cons (pe_op op_mod (pv 5) pe_int) (pa_cons (pv 4) pa_nil))) pa_nil)))))))))))
      (pss_cons (ps_while PassesOwn.never (pt_cmpR op_gt (pe_callB (klen_seq K rfl) rfl T.b_len bt_len (pa_cons (pv 1) pa_nil)) pe_int (nomark _)) (pss_cons (ps_set (i := 6) sc_law_jobs.nd rfl (Or.inl rfl) (kpe_bm0 K rfl PySem.F.plainAttrs_list PySem.F.slot_list_pop PySem.F.type_list_pop mt_pop (pv 1)))
      (pss_cons (ps_set (i := 4) sc_law_jobs.nd rfl (Or.inl rfl) (kpe_bm0 K rfl PySem.F.plainAttrs_list PySem.F.slot_list_pop PySem.F.type_list_pop mt_pop (pv 2)))
      (pss_one (ps_if (pt_cmpR (kneD K rfl hr.units) (pv 6) (pe_lst pa_nil) (nomark _)) (pss_one (ps_expr (kpe_bm K rfl PySem.F.plainAttrs_list PySem.F.slot_list_append PySem.F.type_list_append mt_append (pe_ix (kix_list K rfl) (pv 1) (pe_un un_neg pe_int) (fun _ _ => rfl)) (pa_cons (pe_tup (pa_cons pe_str (pa_cons (pv 4) (pa_cons (pv 6) pa_nil)))) pa_nil)))) pss_nil)))))
      (pss_one (ps_ret (pe_ix (kix_list K rfl) (pv 1) pe_int (fun _ _ => rfl)))))))), ?_⟩
  walk_at "rd"
  intro L0 hL0
  walk_at "rd"
  intro S hS0
  walk_at "rd"
  intro M hM0
  have st0 : Jb.Skz H (upd (upd (upd H L0 (.lst [])) S (.lst [.ref L0])) M (.lst [])) S M [L0] [] 0 [0] := by
    have hSL : S ≠ L0 := fun z => by rw [z, upd_same] at hS0; cases hS0
    have hMS : M ≠ S := fun z => by rw [z, upd_same] at hM0; cases hM0
    have hML : M ≠ L0 := fun z => by rw [z, upd_ne (Ne.symm hSL), upd_same] at hM0; cases hM0
    have f1 : H S = none := by rw [upd_ne hSL] at hS0; exact hS0
    have f2 : H M = none := by rw [upd_ne hMS, upd_ne hML] at hM0; exact hM0
    refine ⟨same_upd (same_upd (same_new hL0 _) f1) f2, by rw [upd_ne (Ne.symm hMS), upd_same]; rfl, upd_same, (by show 1 ≤ 5; decide), fun m hm => (nomatch hm), ?_, fun a ha => ?_, rfl, fun i L z e ez => ?_⟩
    · refine List.nodup_cons.mpr ⟨fun z => ?_, List.nodup_cons.mpr ⟨fun z => ?_, List.nodup_cons.mpr ⟨List.not_mem_nil, List.nodup_nil⟩⟩⟩
      · rcases List.mem_cons.mp z with y | y
        · exact hMS y.symm
        · exact hSL (List.mem_singleton.mp y)
      · exact hML (List.mem_singleton.mp z)
    · rcases List.mem_cons.mp ha with y | ha
      · rw [y]; exact f1
      · rcases List.mem_cons.mp ha with y | ha
        · rw [y]; exact f2
        · rw [List.mem_singleton.mp ha]; exact hL0
    · cases i with
      | zero =>
        cases e
        exact ⟨[], [], by rw [upd_ne (Ne.symm hML), upd_ne (Ne.symm hSL), upd_same], .nil, fun j hj => (nomatch hj), Nat.zero_le _, Nat.zero_le _⟩
      | succ i => cases e
  generalize upd (upd (upd H L0 (.lst [])) S (.lst [.ref L0])) M (.lst []) = H1 at st0 ⊢
  walk_at "rd"
  refine ⟨l, _, rfl, .inl (st0.sm.seq hS), ?_⟩
  rw [List.length_map]
  walk_at "rd"
  refine for_range (n := ns.length) (fun i σ H2 => ∃ (ls : List Addr) (ms : List Int) (zs : List Nat) (v3 v4 v5 v6 : Option V), σ = [some (.ref l), some (.ref S), some (.ref M), v3, v4, v5, v6] ∧ Jb.Skz H H2 S M ls ms i zs ∧ ms.length + 1 = ls.length ∧ zs.sum ≤ 7 * i)
    ⟨[L0], [], [0], none, none, none, none, rfl, st0, rfl, Nat.le_refl _⟩ ?_ ?_
  · rintro i σ H2 hi ⟨ls, ms, zs, v3, v4, v5, v6, rfl, st, hml, hzs⟩
    have ei : (0 : Int) + (i : Int) = (i : Int) := Int.zero_add _
    rw [ei]
    have hil : i < ns.length := by omega
    have hat : atI (ns.map V.int) (i : Int) = some (.int ns[i]) := atI_nat (by rw [List.getElem?_map, List.getElem?_eq_getElem hil]; rfl)
    generalize ns[i] = c at hat
    have hl5 := st.l5
    have hlne : ls ≠ [] := fun z => by rw [z] at hml; cases hml
    obtain ⟨pre, L, rfl⟩ := last_get hlne
    have hpl : (pre ++ [L]).length = pre.length + 1 := by rw [List.length_append]; rfl
    have eL : (pre ++ [L])[pre.length]? = some L := by rw [List.getElem?_append_right (Nat.le_refl _), Nat.sub_self]; rfl
    have hatL : atI ((pre ++ [L]).map V.ref) (-1) = some (.ref L) := by rw [List.map_append]; exact atI_last _ _
    walk_at "rd"
    refine ⟨l, _, _, _, rfl, rfl, st.sm.seq hS, hat, ?_⟩
    walk_at "rd"
    refine ⟨_, _, rfl, by omega, by omega, fun z hz0 hz1 => ?_⟩
    walk_at "rd"
    refine ⟨l, _, _, _, rfl, rfl, st.sm.seq hS, hat, ?_⟩
    clear hat
    refine ⟨_, _, rfl, rfl, (by show (0 : Int) < 6; decide), ?_⟩
    refine gNameH ?_
    dsimp +zetaDelta only
    refine if_else (Same H2) (fun H3 hs3 => ?_) (fun u' hu' => ?_)
    · have st3 := st.same hs3
      refine if_else (Same H3) (fun H4 hs4 => ?_) (fun u' hu' => ?_)
      · have st4 := st3.same hs4
        obtain ⟨z0, ez0, xs, js, hL4, hpj, _, hjl, _⟩ := st4.get eL
        have hiz := (List.getElem?_eq_some_iff.mp ez0).1
        have hxl := Paired.length hpj
        walk_at "rd"
        refine ⟨S, _, _, _, rfl, rfl, SqL.of st4.hS, hatL, ?_⟩
        clear hatL
        refine ⟨.inl ⟨rfl, _, SqL.of hL4⟩, ?_⟩
        walk_at "rd"
        refine ⟨_, _, rfl, hz0, fun v b H5 hs5 hb gb hb7 => ?_⟩
        have st5 := st4.same hs5
        have hb5 : Jb.BasN (fun a => a ∈ S :: M :: (pre ++ [L])) H5 v b := Jb.BasN.to (Jb.SameS.of (Same.refl _)) (fun p ys hp hn z => hn (st4.here z)) hb
        obtain ⟨j, hj, gj, tj⟩ := bas_job hb5 gb (4 - pre.length)
        rw [← tj] at hb7
        have hL5 := hs5 _ _ hL4
        refine ⟨L, _, _, rfl, rfl, hL5, smallLt (by omega), ?_⟩
        exact ⟨_, _, _, _, _, _, _, rfl, st5.add eL hL5 hj gj hb7, hml, by rw [Jb.sum_set hiz]; omega⟩
      · walk_at "rd"
        refine ite2 (fun c1 => ?_) (fun c1 => hu' _ (Same.refl _))
        walk_at "rd"
        refine ⟨S, _, rfl, .inl (SqL.of st3.hS), ?_⟩
        rw [List.length_map, hpl]
        walk_at "rd"
        refine ite2 (fun c2 => ?_) (fun c2 => hu' _ (Same.refl _))
        have hp0 : pre ≠ [] := fun z => by
          have := of_decide_eq_true c2
          rw [z] at this
          exact absurd this (by decide)
        obtain ⟨z0, ez0, xs, js, hL3, hpj, hgj, hjl, _⟩ := st3.get eL
        walk_at "rd"
        refine ⟨S, _, _, _, rfl, rfl, SqL.of st3.hS, hatL, ?_⟩
        clear hatL
        walk_at "rd"
        intro pz hpz
        have hsz := same_new hpz (.lst [])
        have hz4 : upd H3 pz (.lst []) pz = some (.lst (([] : List Int).map V.int)) := upd_same
        generalize upd H3 pz (.lst []) = H4 at hsz hz4 ⊢
        have st4 := st3.same hsz
        have hL4 := hsz _ _ hL3
        refine ⟨Jb.dJobs (4 - pre.length) js, dInts [], .lst (SqL.of hL4) (Jb.denL_of hpj fun v j hj z => Jb.den_job _ (Jb.JobN.same (Jb.SameS.of hsz) _ z) (hgj j hj)), den_ints (SqL.of hz4), Jb.depth_nil _, ?_⟩
        rw [Jb.eqv_jobs_nil]
        walk_at "rd"
        refine ite2 (fun c3 => ?_) (fun c3 => hu' _ hsz)
        have hne : H4 L ≠ some (.lst []) := fun z => by
          rw [hL4] at z
          cases z
          have := Paired.length hpj
          rw [← this] at c3
          exact absurd c3 (by decide)
        obtain ⟨pre', L2, rfl⟩ := last_get hp0
        have hpl2 : (pre' ++ [L2]).length = pre'.length + 1 := by rw [List.length_append]; rfl
        have eL2 : (pre' ++ [L2])[pre'.length]? = some L2 := by rw [List.getElem?_append_right (Nat.le_refl _), Nat.sub_self]; rfl
        have hatL2 : atI ((pre' ++ [L2]).map V.ref) (-1) = some (.ref L2) := by rw [List.map_append]; exact atI_last _ _
        obtain ⟨ms', m, rfl⟩ := last_get (show ms ≠ [] from fun z => by rw [z, hpl, hpl2] at hml; exact absurd hml (by show ¬ (0 + 1 = pre'.length + 1 + 1); omega))
        have hmb := st4.mb m (List.mem_append_right _ (List.mem_singleton.mpr rfl))
        have egS : ((pre' ++ [L2] ++ [L]).map V.ref)[((pre' ++ [L2] ++ [L]).map V.ref).length - 1]? = some (.ref L) := by
          rw [List.map_append, List.length_append]
          show ((pre' ++ [L2]).map V.ref ++ [V.ref L])[((pre' ++ [L2]).map V.ref).length + 1 - 1]? = _
          rw [Nat.add_sub_cancel, List.getElem?_append_right (Nat.le_refl _), Nat.sub_self]
          rfl
        have edS : ((pre' ++ [L2] ++ [L]).map V.ref).dropLast = (pre' ++ [L2]).map V.ref := by rw [List.map_append]; exact List.dropLast_concat
        have egM : ((ms' ++ [m]).map V.int)[((ms' ++ [m]).map V.int).length - 1]? = some (.int m) := by
          rw [List.map_append, List.length_append]
          show (ms'.map V.int ++ [V.int m])[(ms'.map V.int).length + 1 - 1]? = _
          rw [Nat.add_sub_cancel, List.getElem?_append_right (Nat.le_refl _), Nat.sub_self]
          rfl
        have edM : ((ms' ++ [m]).map V.int).dropLast = ms'.map V.int := by rw [List.map_append]; exact List.dropLast_concat
        obtain ⟨ys, zz, rfl, stp, hLn, hLo⟩ := st4.pop
        rw [List.sum_append] at hzs
        have hzs : ys.sum + (zz + 0) ≤ 7 * i := hzs
        have hLneS : L ≠ S := fun z => hLn (by rw [z]; exact List.mem_cons_self)
        walk_at "rd"
        refine ⟨.inl ⟨rfl, _, SqL.of st4.hS⟩, ?_⟩
        refine ⟨S, _, _, rfl, rfl, st4.hS, egS, ?_⟩
        rw [edS]
        have hLp : upd H4 S (.lst ((pre' ++ [L2]).map V.ref)) L ≠ some (.lst []) := by rw [upd_ne hLneS]; exact hne
        generalize upd H4 S (.lst ((pre' ++ [L2]).map V.ref)) = H5 at stp hLo hLp ⊢
        clear egS edS
        obtain ⟨z2, ez2, xs2, js2, hL25, hpj2, _, hjl2, _⟩ := stp.get eL2
        have hiz2 := (List.getElem?_eq_some_iff.mp ez2).1
        have hxl2 := Paired.length hpj2
        walk_at "rd"
        refine ⟨S, _, _, _, rfl, rfl, SqL.of stp.hS, hatL2, ?_⟩
        clear hatL2
        refine ⟨.inl ⟨rfl, _, SqL.of hL25⟩, ?_⟩
        walk_at "rd"
        refine ⟨.inl ⟨rfl, _, SqL.of stp.hM⟩, ?_⟩
        refine ⟨M, _, _, rfl, rfl, stp.hM, egM, ?_⟩
        rw [edM]
        have hMne : L ≠ M := fun z => hLn (by rw [z]; exact List.mem_cons_of_mem _ List.mem_cons_self)
        have hM2 : L2 ≠ M := fun z => stp.ne.2.2.1 (by rw [← z]; exact List.mem_of_getElem? eL2)
        have stm := stp.many (ns := ms') fun y hy => stp.mb y (List.mem_append_left _ hy)
        have hLm : upd H5 M (.lst (ms'.map V.int)) L ≠ some (.lst []) := by rw [upd_ne hMne]; exact hLp
        have hL2m : upd H5 M (.lst (ms'.map V.int)) L2 = some (.lst xs2) := by rw [upd_ne hM2]; exact hL25
        have hLom : Jb.ListZ (fun a => a ∈ S :: M :: (pre' ++ [L2])) (upd H5 M (.lst (ms'.map V.int))) i (4 - (pre' ++ [L2]).length) L zz := hLo.same (Jb.SameS.upd stp.hM (List.mem_cons_of_mem _ List.mem_cons_self)) (fun _ y => by rw [upd_ne hMne]; exact y) (Nat.le_refl _)
        generalize upd H5 M (.lst (ms'.map V.int)) = H6 at stm hLm hL2m hLom ⊢
        clear egM edM
        walk_at "rd"
        intro t ht
        have hs7 := same_new ht (.tup [.str "times", .int m, .ref L])
        have ht7 : upd H6 t (.tup [.str "times", .int m, .ref L]) t = some (.tup [.str "times", .int m, .ref L]) := upd_same
        generalize upd H6 t (.tup [.str "times", .int m, .ref L]) = H7 at hs7 ht7 ⊢
        have st7 := stm.same hs7
        have hL27 := hs7 _ _ hL2m
        obtain ⟨j, hj, gj, tj⟩ := times_job (b := i) (dd := 4 - (pre' ++ [L2]).length) (d := 4 - pre'.length) (by rw [hpl2]; rw [hpl, hpl2] at hl5; omega) hmb.1 hmb.2 ht7 hLn (hLom.same (Jb.SameS.of hs7) (fun _ y => hs7 _ _ y) (Nat.le_refl _)) (fun z => by
          obtain ⟨ys, _, y1, _⟩ := hLom
          have y2 := hs7 _ _ y1
          rw [z] at y2
          cases y2
          exact hLm y1) (by omega)
        refine ⟨L2, _, _, rfl, rfl, hL27, smallLt (by omega), ?_⟩
        exact ⟨_, _, _, _, _, _, _, rfl, st7.add eL2 hL27 hj gj tj, by rw [hpl2]; rw [hpl, hpl2, List.length_append] at hml; exact Nat.succ.inj hml, by rw [Jb.sum_set hiz2]; omega⟩
    · walk_at "rd"
      refine ite2 (fun c1 => ?_) (fun c1 => hu' _ (Same.refl _))
      walk_at "rd"
      refine ⟨S, _, rfl, .inl (SqL.of st.hS), ?_⟩
      rw [List.length_map, hpl]
      walk_at "rd"
      refine ite2 (fun c2 => ?_) (fun c2 => hu' _ (Same.refl _))
      have c2 : ((pre.length + 1 : Nat) : Int) < 5 := of_decide_eq_true c2
      obtain ⟨dv, hdv, edv⟩ := ints_mem (zs := [9, 5, 3, 2]) (i := ((pre.length + 1 : Nat) : Int) - 1) (by omega) (by show _ < (4 : Int); omega)
      have hdv' : 1 ≤ dv ∧ dv ≤ 9 := by simp at hdv; omega
      have hx0 := Int.emod_nonneg z (show dv ≠ 0 by omega)
      have hx1 := Int.emod_lt_of_pos z (show 0 < dv by omega)
      clear hatL
      walk_at "rd"
      refine ⟨.inl ⟨rfl, _, SqL.of st.hM⟩, ?_⟩
      walk_at "rd"
      intro pd hpd
      have hsd := same_new hpd (.lst (([9, 5, 3, 2] : List Int).map V.int))
      have hd3 : upd H2 pd (.lst [V.int 9, V.int 5, V.int 3, V.int 2]) pd = some (.lst (([9, 5, 3, 2] : List Int).map V.int)) := upd_same
      have hsd : Same H2 (upd H2 pd (.lst [V.int 9, V.int 5, V.int 3, V.int 2])) := hsd
      generalize upd H2 pd (.lst [V.int 9, V.int 5, V.int 3, V.int 2]) = H3 at hsd hd3 ⊢
      have st3 := st.same hsd
      walk_at "rd"
      refine ⟨S, _, rfl, .inl (SqL.of st3.hS), ?_⟩
      rw [List.length_map, hpl]
      walk_at "rd"
      refine ⟨M, _, _, rfl, rfl, st3.hM, smallLt (by rw [List.length_map]; rw [hpl] at hml; omega), ?_⟩
      have em : ms.map V.int ++ [V.int (1 + z % dv)] = (ms ++ [1 + z % dv]).map V.int := by rw [List.map_append]; rfl
      rw [em]
      have stm := st3.many (ns := ms ++ [1 + z % dv]) fun y hy => by
        rcases List.mem_append.mp hy with q | q
        · exact st3.mb y q
        · rw [List.mem_singleton.mp q]; omega
      generalize upd H3 M (.lst ((ms ++ [1 + z % dv]).map V.int)) = H4 at stm ⊢
      walk_at "rd"
      refine ⟨.inl ⟨rfl, _, SqL.of stm.hS⟩, ?_⟩
      walk_at "rd"
      intro LN hLN
      have hSN : upd H4 LN (.lst []) S = some (.lst ((pre ++ [L]).map V.ref)) := same_new hLN _ _ _ stm.hS
      refine ⟨S, _, _, rfl, rfl, hSN, smallLt (by rw [List.length_map]; omega), ?_⟩
      have es : (pre ++ [L]).map V.ref ++ [V.ref LN] = (pre ++ [L] ++ [LN]).map V.ref := by rw [List.map_append (l₁ := pre ++ [L])]; rfl
      rw [es]
      exact ⟨_, _, _, _, _, _, _, rfl, (stm.push (by omega) hLN).le (Nat.le_succ _), by rw [List.length_append, List.length_append (as := pre ++ [L])]; show ms.length + 1 + 1 = _ + 1; omega, by rw [List.sum_append]; show zs.sum + 0 ≤ _; omega⟩
  · rintro σ H2 ⟨ls, ms, zs, v3, v4, v5, v6, rfl, st, hml, hzs⟩
    walk_at "rd"
    refine ⟨fun mm σ H3 => ∃ (ls : List Addr) (ms : List Int) (zs : List Nat) (b : Nat) (v3 v4 v5 v6 : Option V), mm = ls.length ∧ σ = [some (.ref l), some (.ref S), some (.ref M), v3, v4, v5, v6] ∧ Jb.Skz H H3 S M ls ms b zs ∧ ms.length + 1 = ls.length ∧ b + ls.length ≤ 65 ∧ zs.sum ≤ 7 * b,
      ⟨_, ls, ms, zs, ns.length, v3, v4, v5, v6, rfl, rfl, st, hml, by have := st.l5; omega, hzs⟩, ?_⟩
    clear st hml hzs zs
    rintro mm σ H3 ⟨ls, ms, zs, b, v3, v4, v5, v6, rfl, rfl, st, hml, hbl, hzs⟩
    have hl5 := st.l5
    have hlne : ls ≠ [] := fun z => by rw [z] at hml; cases hml
    obtain ⟨pre, L, rfl⟩ := last_get hlne
    have hpl : (pre ++ [L]).length = pre.length + 1 := by rw [List.length_append]; rfl
    have eL : (pre ++ [L])[pre.length]? = some L := by rw [List.getElem?_append_right (Nat.le_refl _), Nat.sub_self]; rfl
    walk_at "rd"
    refine ⟨S, _, rfl, .inl (SqL.of st.hS), ?_⟩
    rw [List.length_map, hpl]
    walk_at "rd"
    refine ite2 (fun c2 => ?_) (fun c2 => ?_)
    · have hp0 : pre ≠ [] := fun z => by
        have := of_decide_eq_true c2
        rw [z] at this
        exact absurd this (by decide)
      obtain ⟨pre', L2, rfl⟩ := last_get hp0
      have hpl2 : (pre' ++ [L2]).length = pre'.length + 1 := by rw [List.length_append]; rfl
      have eL2 : (pre' ++ [L2])[pre'.length]? = some L2 := by rw [List.getElem?_append_right (Nat.le_refl _), Nat.sub_self]; rfl
      have hatL2 : atI ((pre' ++ [L2]).map V.ref) (-1) = some (.ref L2) := by rw [List.map_append]; exact atI_last _ _
      obtain ⟨ms', m, rfl⟩ := last_get (show ms ≠ [] from fun z => by rw [z, hpl, hpl2] at hml; exact absurd hml (by show ¬ (0 + 1 = pre'.length + 1 + 1); omega))
      have hmb := st.mb m (List.mem_append_right _ (List.mem_singleton.mpr rfl))
      have egS : ((pre' ++ [L2] ++ [L]).map V.ref)[((pre' ++ [L2] ++ [L]).map V.ref).length - 1]? = some (.ref L) := by
        rw [List.map_append, List.length_append]
        show ((pre' ++ [L2]).map V.ref ++ [V.ref L])[((pre' ++ [L2]).map V.ref).length + 1 - 1]? = _
        rw [Nat.add_sub_cancel, List.getElem?_append_right (Nat.le_refl _), Nat.sub_self]
        rfl
      have edS : ((pre' ++ [L2] ++ [L]).map V.ref).dropLast = (pre' ++ [L2]).map V.ref := by rw [List.map_append]; exact List.dropLast_concat
      have egM : ((ms' ++ [m]).map V.int)[((ms' ++ [m]).map V.int).length - 1]? = some (.int m) := by
        rw [List.map_append, List.length_append]
        show (ms'.map V.int ++ [V.int m])[(ms'.map V.int).length + 1 - 1]? = _
        rw [Nat.add_sub_cancel, List.getElem?_append_right (Nat.le_refl _), Nat.sub_self]
        rfl
      have edM : ((ms' ++ [m]).map V.int).dropLast = ms'.map V.int := by rw [List.map_append]; exact List.dropLast_concat
      obtain ⟨ys, zz, rfl, stp, hLn, hLo⟩ := st.pop
      rw [List.sum_append] at hzs
      have hzs : ys.sum + (zz + 0) ≤ 7 * b := hzs
      have hml' : ms'.length + 1 = (pre' ++ [L2]).length := by rw [hpl2]; rw [hpl, hpl2, List.length_append] at hml; exact Nat.succ.inj hml
      refine ⟨_, fun σ' H' h => h, ?_⟩
      walk_at "rd"
      refine ⟨.inl ⟨rfl, _, SqL.of st.hS⟩, ?_⟩
      refine ⟨S, _, _, rfl, rfl, st.hS, egS, ?_⟩
      rw [edS]
      generalize upd H3 S (.lst ((pre' ++ [L2]).map V.ref)) = H5 at stp hLo ⊢
      clear egS edS
      walk_at "rd"
      refine ⟨.inl ⟨rfl, _, SqL.of stp.hM⟩, ?_⟩
      refine ⟨M, _, _, rfl, rfl, stp.hM, egM, ?_⟩
      rw [edM]
      have hMne : L ≠ M := fun z => hLn (by rw [z]; exact List.mem_cons_of_mem _ List.mem_cons_self)
      have stm := stp.many (ns := ms') fun y hy => stp.mb y (List.mem_append_left _ hy)
      have hLom : Jb.ListZ (fun a => a ∈ S :: M :: (pre' ++ [L2])) (upd H5 M (.lst (ms'.map V.int))) b (4 - (pre' ++ [L2]).length) L zz := hLo.same (Jb.SameS.upd stp.hM (List.mem_cons_of_mem _ List.mem_cons_self)) (fun _ y => by rw [upd_ne hMne]; exact y) (Nat.le_refl _)
      generalize upd H5 M (.lst (ms'.map V.int)) = H6 at stm hLom ⊢
      clear egM edM
      obtain ⟨xs, js, hL6, hpj, hgj, hjl, _⟩ := id hLom
      walk_at "rd"
      intro pz hpz
      have hsz := same_new hpz (.lst [])
      have hz7 : upd H6 pz (.lst []) pz = some (.lst (([] : List Int).map V.int)) := upd_same
      generalize upd H6 pz (.lst []) = H7 at hsz hz7 ⊢
      have st7 := stm.same hsz
      have hL7 := hsz _ _ hL6
      refine ⟨Jb.dJobs (4 - (pre' ++ [L2]).length) js, dInts [], .lst (SqL.of hL7) (Jb.denL_of hpj fun v j hj z => Jb.den_job _ (Jb.JobN.same (Jb.SameS.of hsz) _ z) (hgj j hj)), den_ints (SqL.of hz7), Jb.depth_nil _, ?_⟩
      rw [Jb.eqv_jobs_nil]
      walk_at "rd"
      refine ite2 (fun c3 => ?_) (fun c3 => ?_)
      · obtain ⟨z2, ez2, xs2, js2, hL27, hpj2, _, hjl2, _⟩ := st7.get eL2
        have hiz2 := (List.getElem?_eq_some_iff.mp ez2).1
        have hxl2 := Paired.length hpj2
        walk_at "rd"
        refine ⟨S, _, _, _, rfl, rfl, SqL.of st7.hS, hatL2, ?_⟩
        clear hatL2
        refine ⟨.inl ⟨rfl, _, SqL.of hL27⟩, ?_⟩
        walk_at "rd"
        intro t ht
        have hs8 := same_new ht (.tup [.str "times", .int m, .ref L])
        have ht8 : upd H7 t (.tup [.str "times", .int m, .ref L]) t = some (.tup [.str "times", .int m, .ref L]) := upd_same
        generalize upd H7 t (.tup [.str "times", .int m, .ref L]) = H8 at hs8 ht8 ⊢
        have st8 := st7.same hs8
        have hL28 := hs8 _ _ hL27
        have hs68 := hsz.trans hs8
        obtain ⟨j, hj, gj, tj⟩ := times_job (b := b) (dd := 4 - (pre' ++ [L2]).length) (d := 4 - pre'.length) (by rw [hpl2]; rw [hpl, hpl2] at hl5; omega) hmb.1 hmb.2 ht8 hLn (hLom.same (Jb.SameS.of hs68) (fun _ y => hs68 _ _ y) (Nat.le_refl _)) (fun z => by
          rw [hs68 _ _ hL6] at z
          cases z
          have := Paired.length hpj
          rw [← this] at c3
          exact absurd c3 (by decide)) (by omega)
        refine ⟨L2, _, _, rfl, rfl, hL28, smallLt (by omega), ?_⟩
        exact ⟨_, Nat.lt_succ_self _, _, _, _, b + 1, _, _, _, _, rfl, rfl, st8.add eL2 hL28 hj gj tj, hml', by omega, by rw [Jb.sum_set hiz2]; omega⟩
      · exact ⟨_, Nat.lt_succ_self _, _, _, _, b, _, _, _, _, rfl, rfl, st7, hml', by omega, by omega⟩
    · have hp0 : pre = [] := by
        have c2 : ¬ (((pre.length + 1 : Nat) : Int) > 1) := fun z => c2 (decide_eq_true z)
        exact List.length_eq_zero_iff.mp (by omega)
      subst hp0
      obtain ⟨z0, ez0, xs, js, hL3, hpj, hgj, hjl, hjz⟩ := st.get eL
      have hz0 : z0 ≤ zs.sum := le_sum (List.mem_of_getElem? ez0)
      have hL3 : H3 L = some (.lst xs) := hL3
      refine ⟨_, rfl, ?_⟩
      refine ⟨S, _, _, _, rfl, rfl, SqL.of st.hS, rfl, ?_⟩
      exact q L xs js H3 st.sm (st.fr L (Jb.Stk.mem eL)) hL3 (Paired.mapP hpj fun _ _ z => Jb.JobN.weak (fun a ha => by rw [ha]; exact Jb.Stk.mem eL) _ z) hgj (by omega) (by have hjz : (Cp.tells 4 js).length ≤ z0 := hjz; omega)
/-- jobs to be read: a list of them -/
structure JL (N : Addr → Prop) (H : Hp) (jl : Addr) (d : Nat) (xs : List V) (js : List (Jb.Job d)) : Prop where
  at_ : H jl = some (.lst xs)
  pd : Paired (Jb.JobN N H d) xs js
  few : js.length ≤ 1000
theorem JL.same {N : Addr → Prop} {H H' : Hp} {jl : Addr} {d : Nat} {xs : List V} {js : List (Jb.Job d)} (h : JL N H jl d xs js) (s : Same H H') : JL N H' jl d xs js := ⟨s _ _ h.at_, Paired.mapP h.pd fun _ _ z => Jb.JobN.same (.of s) d z, h.few⟩
/-- a job is one of four -/
theorem job_view {N : Addr → Prop} {H : Hp} : ∀ (d : Nat) {v : V} {j : Jb.Job d}, Jb.JobN N H d v j → (∃ b, Jb.BasN N H v b ∧ (∀ {M : Addr → Prop} {H' : Hp} {v' : V}, Jb.BasN M H' v' b → Jb.JobN M H' d v' j) ∧ Cp.tellJ d j = Cp.tellB b ∧ (Jb.GoodJ d j → Jb.GoodB b)) ∨
    ∃ (d' n : Nat) (js : List (Jb.Job d')), d = d' + 1 ∧ n ≤ 1000 ∧ (∃ t p xs, v = .ref t ∧ H t = some (.tup [.str "times", .int (n : Int), .ref p]) ∧ ¬ N p ∧ JL N H p d' xs js) ∧ (∀ {M : Addr → Prop} {H' : Hp} {t p : Addr} {xs : List V}, H' t = some (.tup [.str "times", .int (n : Int), .ref p]) → ¬ M p → H' p = some (.lst xs) → Paired (Jb.JobN M H' d') xs js → Jb.JobN M H' d (.ref t) j) ∧ Cp.tellJ d j = [Cp.numT (n : Int), Str.ofString "times", Str.ofString "("] ++ Cp.tells d' js ++ [Str.ofString ")"] ∧ (Jb.GoodJ d j → 1 ≤ n ∧ n ≤ 9 ∧ js ≠ [] ∧ js.length ≤ 100 ∧ ∀ j ∈ js, Jb.GoodJ d' j)
  | 0, _, b, h => .inl ⟨b, h, fun z => z, rfl, fun z => z⟩
  | _ + 1, _, .inl b, h => .inl ⟨b, h, fun z => z, rfl, fun z => z⟩
  | d + 1, _, .inr (n, js), ⟨b1, b2, t, p, xs, e, z, y, w, q⟩ => .inr ⟨d, n, js, rfl, b1, ⟨t, p, xs, e, z, y, w, q, b2⟩, fun h1 h2 h3 h4 => ⟨b1, b2, _, _, _, rfl, h1, h2, h3, h4⟩, rfl, fun z => z⟩
theorem cut_from1 (x : V) (xs : List V) : cutV (x :: xs) (some 1) none = xs := by
  unfold cutV
  have e : HT.sIx (x :: xs).length 0 (some (1 : Int)) = 1 := by
    have := HT.sIx_nat (x :: xs).length 0 1
    rw [show ((1 : Nat) : Int) = 1 from rfl] at this
    rw [this, List.length_cons]
    omega
  rw [e, HT.sIx_none]
  show xs.take ((x :: xs).length - 1) = xs
  rw [List.length_cons, Nat.add_sub_cancel, List.take_of_length_le (Nat.le_refl _)]
theorem tells_snoc {d : Nat} (js : List (Jb.Job d)) (j : Jb.Job d) : Cp.tells d (js ++ [j]) = Cp.tells d js ++ Cp.tellJ d j := by
  show (js ++ [j]).flatMap _ = _
  rw [List.flatMap_append, List.flatMap_cons, List.flatMap_nil, List.append_nil]
/-- the short jobs but for those that set words: a word and some numbers -/
theorem bas_nums {N : Addr → Prop} {H : Hp} {v : V} {b : Jb.Bas} (h : Jb.BasN N H v b) (g : Jb.GoodB b) : (∃ ws, b = .st ws) ∨ ∃ (t : Addr) (nm : Str) (is : List Int), v = .ref t ∧ H t = some (.tup (.str nm :: is.map V.int)) ∧ nm ≠ "set" ∧ nm ≠ "times" ∧ is ≠ [] ∧ is.length ≤ 3 ∧ (∀ i ∈ is, i.natAbs < 100000) ∧ Cp.tellB b = nm :: is.map Cp.numT := by
  cases b with
  | ms n =>
    obtain ⟨t, rfl, ht⟩ := h
    refine .inr ⟨t, "measure", [n], rfl, ht, by decide +kernel, by decide +kernel, fun z => (nomatch z), by show 1 ≤ 3; decide, fun i hi => ?_, rfl⟩
    rw [List.mem_singleton.mp hi]
    have g1 := g.1
    have g2 := g.2
    omega
  | gp a b c =>
    obtain ⟨t, rfl, ht⟩ := h
    obtain ⟨g1, g2, g3, g4⟩ := g
    refine .inr ⟨t, "gaps", [a, b, c], rfl, ht, by decide +kernel, by decide +kernel, fun z => (nomatch z), by show 3 ≤ 3; decide, fun i hi => ?_, rfl⟩
    simp only [List.mem_cons, List.not_mem_nil, or_false] at hi
    rcases hi with e | e | e <;> omega
  | st ws => exact .inl ⟨ws, rfl⟩
def sp_law_tell (d : Nat) : Sp := fun vs0 H Q _ => ∃ (jl : Addr) (N : Addr → Prop) (xs : List V) (js : List (Jb.Job d)), vs0 = [.ref jl] ∧ JL N H jl d xs js ∧ (∀ j ∈ js, Jb.GoodJ d j) ∧ (Cp.tells d js).length ≤ 1000 ∧
  ∀ (r : Addr) H', Same H H' → H' r = some (.lst ((Cp.tells d js).map V.str)) → Q (.ref r) H'
theorem step_tell (T : Tx K mg a) {L d : Nat} {spT : Sp} (hT : ∀ (d' : Nat), d = d' + 1 → ∀ vs H Q E, sp_law_tell d' vs H Q E → spT vs H Q E)
    (G_law_tell : FnOk P w K mg base CX0 L a.f_law_tell a.d_law_tell ["_law_jobs_here"] spT) : FnOk P w K mg base CX0 (L + 1) a.f_law_tell a.d_law_tell ["_law_jobs_here"] (sp_law_tell d) := by
  refine T.law_tell.fn.ok sc_law_tell (fun vs H Q E h => ?_) (fun cdv A outer s H vs Q E hr h => ?_)
  · obtain ⟨jl, N, xs, js, rfl, _⟩ := h
    rfl
  obtain ⟨jl, N, xs, js, rfl, J, gd, hlen, q⟩ := h
  have hjl := Paired.length J.pd
  have ev : ∀ x y : Str, decide (V.str x = V.str y) = decide (x = y) := fun x y => Cs.strV
  refine ⟨_, (pss_cons (ps_set (i := 1) sc_law_tell.nd rfl (Or.inl rfl) (pe_lst pa_nil))
      (pss_cons (ps_for PassesOwn.never rfl (kpi_list K rfl (pv 0)) (pg_name (i := 2) sc_law_tell.nd rfl (Or.inl rfl)) (pss_one (ps_if (pt_cmpR op_eq (pe_ix (kix_tup K rfl) (pv 2) pe_int (fun _ _ => rfl)) pe_str (nomark _)) (pss_one (ps_set (i := 1) sc_law_tell.nd rfl (Or.inl rfl) (pe_op op_cat (pe_op op_cat (pe_op op_cat (pv 1) (pe_lst (pa_cons pe_str pa_nil))) (pe_ix (kix_tup K rfl) (pv 2) pe_int (fun _ _ => rfl))) (pe_lst (pa_cons pe_str pa_nil))))) (pss_one (ps_if (pt_cmpR op_eq (pe_ix (kix_tup K rfl) (pv 2) pe_int (fun _ _ => rfl)) pe_str (nomark _)) (pss_one (ps_set (i := 1) sc_law_tell.nd rfl (Or.inl rfl) (pe_op op_cat (pe_op op_cat (pe_op op_cat (pv 1) (pe_lst (pa_cons (pe_callTy call_strB rfl T.b_str bt_str (pa_cons (pe_ix (kix_tup K rfl) (pv 2) pe_int (fun _ _ => rfl)) pa_nil)) (pa_cons pe_str (pa_cons pe_str pa_nil))))) (pcall T.law_tell G_law_tell hr rfl (pa_cons (pe_ix (kix_tup K rfl) (pv 2) pe_int (fun _ _ => rfl)) pa_nil) (hjk := by omega))) (pe_lst (pa_cons pe_str pa_nil))))) (pss_one (ps_set (i := 1) sc_law_tell.nd rfl (Or.inl rfl) (pe_op op_cat (pe_op op_cat (pv 1) (pe_lst (pa_cons (pe_ix (kix_tup K rfl) (pv 2) pe_int (fun _ _ => rfl)) pa_nil))) (pe_compG rfl (kpi_tup K rfl (pe_slice (ksl_tup K rfl) (pv 2) (po_some pe_int) po_none)) (BlkOk.of (N' := ["_law_jobs_here", "_law_words", "_law_job_here", "_law_number"]) (ms := []) (k := 1) (by rfl)) (fun _ _ _ _ _ => (pg_name (i := 3) (show List.Nodup (["_law_jobs_here", "_law_words", "_law_job_here", "_law_number"] : List Str) from by decide +kernel) rfl (Or.inl rfl))) (fun _ _ _ _ _ => pts_nil) (fun _ _ _ _ _ => (pe_callTy call_strB rfl T.b_str bt_str (pa_cons (pv 3) pa_nil))))))))))))
      (pss_one (ps_ret (pv 1))))), ?_⟩
  walk_at "rd"
  intro r hr0
  have hs1 := same_new hr0 (.lst [])
  have hr1 : upd H r (.lst []) r = some (.lst []) := upd_same
  generalize upd H r (.lst []) = H1 at hs1 hr1 ⊢
  walk_at "rd"
  refine ⟨⟨_, SqL.of (hs1 _ _ J.at_)⟩, ?_⟩
  refine for_list (a := jl) (xs := xs) (fun i σ H2 => ∃ (r : Addr) (v2 : Option V), σ = [some (.ref jl), some (.ref r), v2] ∧ Same H H2 ∧ H2 r = some (.lst ((Cp.tells d (js.take i)).map V.str)))
    ⟨r, none, rfl, hs1, hr1⟩ (fun i σ H2 _ ⟨_, _, _, hs, _⟩ => SqL.of (hs _ _ J.at_)) ?_ ?_
  · rintro i y σ H2 hy ⟨r, v2, rfl, hs2, hr2⟩
    have J2 := J.same hs2
    obtain ⟨j, hji, hj⟩ := Cs.pd_get J2.pd hy
    have gj := gd j (List.mem_of_getElem? hji)
    have htk : js.take (i + 1) = js.take i ++ [j] := by rw [List.take_add_one, hji]; rfl
    have hsn := tells_snoc (js.take i) j
    rw [← htk] at hsn
    have hle : (Cp.tells d (js.take i)).length + (Cp.tellJ d j).length ≤ 1000 := by
      have e : Cp.tells d js = Cp.tells d (js.take (i + 1)) ++ Cp.tells d (js.drop (i + 1)) := by
        show js.flatMap _ = (js.take (i + 1)).flatMap _ ++ (js.drop (i + 1)).flatMap _
        rw [← List.flatMap_append, List.take_append_drop]
      rw [e, hsn, List.length_append, List.length_append] at hlen
      omega
    have fin : ∀ {r' : Addr} {H5 : Hp}, Same H2 H5 → H5 r' = some (.lst ((Cp.tells d (js.take i)).map V.str ++ (Cp.tellJ d j).map V.str)) → ∃ (r : Addr) (v2 : Option V), [some (.ref jl), some (.ref r'), some y] = [some (.ref jl), some (.ref r), v2] ∧ Same H H5 ∧ H5 r = some (.lst ((Cp.tells d (js.take (i + 1))).map V.str)) := fun {r' H5} s h => ⟨r', _, rfl, hs2.trans s, by rw [hsn, List.map_append]; exact h⟩
    generalize Cp.tells d (js.take i) = tl at hr2 hle fin
    walk_at "rd"
    rcases job_view d hj with ⟨b, hb, _, tb, gb⟩ | ⟨d', n, js', ed, hn, ⟨t, p, xs', rfl, ht, hpr, J'⟩, _, tb, gb⟩
    · rw [tb] at hle fin
      rcases bas_nums hb (gb gj) with ⟨ws, rfl⟩ | ⟨t, nm, is, rfl, ht, hn1, hn2, his, hil, hib, te⟩
      · obtain ⟨t, p, rfl, ht, hpq, hp⟩ := hb
        have hwl : tl.length + (ws.length + 2) ≤ 1000 := by
          have : (Cp.tellB (.st ws)).length = ws.length + 2 := by
            show (Str.ofString "set" :: ws ++ [Str.ofString "end"]).length = _
            rw [List.length_append]
            rfl
          omega
        refine ⟨t, _, _, _, rfl, rfl, SqT.of ht, rfl, ?_⟩
        walk_at "rd"
        intro p1 hp1
        have s1 := same_new hp1 (.lst [V.str "set"])
        have h1 : upd H2 p1 (.lst [V.str "set"]) p1 = some (.lst [V.str "set"]) := upd_same
        generalize upd H2 p1 (.lst [V.str "set"]) = Ha at s1 h1 ⊢
        refine ⟨r, p1, _, _, rfl, rfl, s1 _ _ hr2, h1, smallL (by rw [List.length_map]; show _ + 1 ≤ _; omega), fun p2 hp2 => ?_⟩
        have s2 := same_new hp2 (.lst (tl.map V.str ++ [V.str "set"]))
        have h2 : upd Ha p2 (.lst (tl.map V.str ++ [V.str "set"])) p2 = some (.lst (tl.map V.str ++ [V.str "set"])) := upd_same
        generalize upd Ha p2 (.lst (tl.map V.str ++ [V.str "set"])) = Hb at s2 h2 ⊢
        have s12 := s1.trans s2
        walk_at "rd"
        refine ⟨t, _, _, _, rfl, rfl, SqT.of (s12 _ _ ht), rfl, ?_⟩
        refine ⟨p2, p, _, _, rfl, rfl, h2, s12 _ _ hp, smallL (by rw [List.length_append, List.length_map, List.length_map]; show _ + 1 + _ ≤ _; omega), fun p3 hp3 => ?_⟩
        have s3 := same_new hp3 (.lst (tl.map V.str ++ [V.str "set"] ++ ws.map V.str))
        have h3 : upd Hb p3 (.lst (tl.map V.str ++ [V.str "set"] ++ ws.map V.str)) p3 = some (.lst (tl.map V.str ++ [V.str "set"] ++ ws.map V.str)) := upd_same
        generalize upd Hb p3 (.lst (tl.map V.str ++ [V.str "set"] ++ ws.map V.str)) = Hc at s3 h3 ⊢
        walk_at "rd"
        intro p4 hp4
        have s4 := same_new hp4 (.lst [V.str "end"])
        have h4 : upd Hc p4 (.lst [V.str "end"]) p4 = some (.lst [V.str "end"]) := upd_same
        generalize upd Hc p4 (.lst [V.str "end"]) = Hd at s4 h4 ⊢
        refine ⟨p3, p4, _, _, rfl, rfl, s4 _ _ h3, h4, smallL (by rw [List.length_append, List.length_append, List.length_map, List.length_map]; show _ + 1 + _ + 1 ≤ _; omega), fun p5 hp5 => ?_⟩
        refine fin (s12.trans (s3.trans (s4.trans (same_new hp5 _)))) ?_
        rw [upd_same]
        show _ = some (HO.lst (tl.map V.str ++ (Str.ofString "set" :: ws ++ [Str.ofString "end"]).map V.str))
        rw [List.map_append, List.map_cons, List.append_assoc, List.append_assoc]
        rfl
      · rw [te] at hle fin
        rw [List.length_cons, List.length_map] at hle
        have at0 : atI (V.str nm :: is.map V.int) 0 = some (.str nm) := atI_nat (j := 0) rfl
        refine ⟨t, _, _, _, rfl, rfl, SqT.of ht, at0, ?_⟩
        walk_at "rd"
        rw [ev, decide_eq_false hn1]
        refine iteF ?_
        walk_at "rd"
        refine ⟨t, _, _, _, rfl, rfl, SqT.of ht, at0, ?_⟩
        walk_at "rd"
        rw [ev, decide_eq_false hn2]
        refine iteF ?_
        walk_at "rd"
        refine ⟨t, _, _, _, rfl, rfl, SqT.of ht, at0, ?_⟩
        walk_at "rd"
        intro p1 hp1
        have s1 := same_new hp1 (.lst [V.str nm])
        have h1 : upd H2 p1 (.lst [V.str nm]) p1 = some (.lst [V.str nm]) := upd_same
        generalize upd H2 p1 (.lst [V.str nm]) = Ha at s1 h1 ⊢
        refine ⟨r, p1, _, _, rfl, rfl, s1 _ _ hr2, h1, smallL (by rw [List.length_map]; show _ + 1 ≤ _; omega), fun p2 hp2 => ?_⟩
        have s2 := same_new hp2 (.lst (tl.map V.str ++ [V.str nm]))
        have h2 : upd Ha p2 (.lst (tl.map V.str ++ [V.str nm])) p2 = some (.lst (tl.map V.str ++ [V.str nm])) := upd_same
        generalize upd Ha p2 (.lst (tl.map V.str ++ [V.str nm])) = Hb at s2 h2 ⊢
        have s12 := s1.trans s2
        walk_at "rd"
        refine ⟨t, _, rfl, SqT.of (s12 _ _ ht), (fun z => absurd z.1 (by show ¬ (min 1 _ = 0); rw [List.length_cons]; omega)), fun r3 hr3 => ?_⟩
        have ecut : cutV (V.str nm :: is.map V.int) (some 1) none = is.map V.int := by
          have := cut_from1 (V.str nm) (is.map V.int)
          exact this
        rw [ecut]
        have s3 := same_new hr3 (.tup (is.map V.int))
        have h3 : upd Hb r3 (.tup (is.map V.int)) r3 = some (.tup (is.map V.int)) := upd_same
        generalize upd Hb r3 (.tup (is.map V.int)) = Hc at s3 h3 ⊢
        refine ⟨r3, rfl, ⟨_, SqT.of h3⟩, fun D hD => ?_⟩
        refine comp_tup (a := r3) (xs := is.map V.int) (fun k zs σ H6 => ∃ (v3 : Option V), zs = ((is.take k).map Cp.numT).map V.str ∧ σ = [some (.ref jl), some (.ref r), some (.ref t), v3] ∧ Same Hc H6 ∧ H6 D = some (.lst zs))
          ?_ ?_ ?_ ?_
        · exact ⟨none, rfl, rfl, same_new hD _, upd_same⟩
        · exact fun k zs σ H6 _ ⟨_, _, _, hs, _⟩ => SqT.of (hs _ _ h3)
        · rintro k x zs σ H6 hx hkl ⟨v3, rfl, rfl, hs, hh⟩
          obtain ⟨z, rfl, hz⟩ := map_int_get hx
          walk_at "rd"
          refine ⟨hib z (List.mem_of_getElem? hz), ?_⟩
          refine cnext hkl hh (by rw [List.length_map, List.length_map, List.length_take]; omega) ⟨_, ?_, rfl, same_upd hs hD, upd_same⟩
          rw [List.take_add_one, hz, List.map_append, List.map_append]
          rfl
        · rintro zs σ H6 ⟨v3, rfl, rfl, hs, hh⟩
          rw [List.length_map, List.take_of_length_le (Nat.le_refl _)] at hh
          refine ⟨p2, D, _, _, rfl, rfl, (s3.trans hs) _ _ h2, hh, smallL (by rw [List.length_append, List.length_map, List.length_map, List.length_map]; show _ + 1 + _ ≤ _; omega), fun p5 hp5 => ?_⟩
          refine fin (s12.trans (s3.trans (hs.trans (same_new hp5 _)))) ?_
          rw [upd_same, List.map_cons, List.append_assoc]
          rfl
    · rw [tb] at hle fin
      obtain ⟨g1, g2, g3, g4, g5⟩ := gb gj
      have hil : tl.length + ((Cp.tells d' js').length + 4) ≤ 1000 := by
        rw [List.length_append, List.length_append] at hle
        have hle : tl.length + (3 + (Cp.tells d' js').length + 1) ≤ 1000 := hle
        omega
      refine ⟨t, _, _, _, rfl, rfl, SqT.of ht, rfl, ?_⟩
      walk_at "rd"
      refine ⟨t, _, _, _, rfl, rfl, SqT.of ht, rfl, ?_⟩
      walk_at "rd"
      refine ⟨t, _, _, _, rfl, rfl, SqT.of ht, rfl, ?_⟩
      refine ⟨(n : Int), rfl, by omega, ?_⟩
      walk_at "rd"
      intro p1 hp1
      have s1 := same_new hp1 (.lst [V.str (Cp.numT (n : Int)), V.str "times", V.str "("])
      have h1 : upd H2 p1 (.lst [V.str (Cp.numT (n : Int)), V.str "times", V.str "("]) p1 = some (.lst [V.str (Cp.numT (n : Int)), V.str "times", V.str "("]) := upd_same
      generalize upd H2 p1 (.lst [V.str (Cp.numT (n : Int)), V.str "times", V.str "("]) = Ha at s1 h1 ⊢
      refine ⟨r, p1, _, _, rfl, rfl, s1 _ _ hr2, h1, smallL (by rw [List.length_map]; show _ + 3 ≤ _; omega), fun p2 hp2 => ?_⟩
      have s2 := same_new hp2 (.lst (tl.map V.str ++ [V.str (Cp.numT (n : Int)), V.str "times", V.str "("]))
      have h2 : upd Ha p2 (.lst (tl.map V.str ++ [V.str (Cp.numT (n : Int)), V.str "times", V.str "("])) p2 = some (.lst (tl.map V.str ++ [V.str (Cp.numT (n : Int)), V.str "times", V.str "("])) := upd_same
      generalize upd Ha p2 (.lst (tl.map V.str ++ [V.str (Cp.numT (n : Int)), V.str "times", V.str "("])) = Hb at s2 h2 ⊢
      have s12 := s1.trans s2
      walk_at "rd"
      refine ⟨t, _, _, _, rfl, rfl, SqT.of (s12 _ _ ht), rfl, ?_⟩
      refine hT d' ed _ _ _ _ ⟨p, _, xs', js', rfl, J'.same s12, g5, by omega, fun r3 Hc s3 h3 => ?_⟩
      refine ⟨p2, r3, _, _, rfl, rfl, s3 _ _ h2, h3, smallL (by rw [List.length_append, List.length_map, List.length_map]; show _ + 3 + _ ≤ _; omega), fun p4 hp4 => ?_⟩
      have s4 := same_new hp4 (.lst (tl.map V.str ++ [V.str (Cp.numT (n : Int)), V.str "times", V.str "("] ++ (Cp.tells d' js').map V.str))
      have h4 : upd Hc p4 (.lst (tl.map V.str ++ [V.str (Cp.numT (n : Int)), V.str "times", V.str "("] ++ (Cp.tells d' js').map V.str)) p4 = some (.lst (tl.map V.str ++ [V.str (Cp.numT (n : Int)), V.str "times", V.str "("] ++ (Cp.tells d' js').map V.str)) := upd_same
      generalize upd Hc p4 (.lst (tl.map V.str ++ [V.str (Cp.numT (n : Int)), V.str "times", V.str "("] ++ (Cp.tells d' js').map V.str)) = Hd at s4 h4 ⊢
      walk_at "rd"
      intro p5 hp5
      have s5 := same_new hp5 (.lst [V.str ")"])
      have h5 : upd Hd p5 (.lst [V.str ")"]) p5 = some (.lst [V.str ")"]) := upd_same
      generalize upd Hd p5 (.lst [V.str ")"]) = He at s5 h5 ⊢
      refine ⟨p4, p5, _, _, rfl, rfl, s5 _ _ h4, h5, smallL (by rw [List.length_append, List.length_append, List.length_map, List.length_map]; show _ + 3 + _ + 1 ≤ _; omega), fun p6 hp6 => ?_⟩
      refine fin (s12.trans (s3.trans (s4.trans (s5.trans (same_new hp6 _))))) ?_
      rw [upd_same, List.map_append, List.map_append, List.append_assoc, List.append_assoc, List.append_assoc]
      rfl
  · rintro σ H2 ⟨r, v2, rfl, hs2, hr2⟩
    rw [hjl, List.take_of_length_le (Nat.le_refl _)] at hr2
    walk_at "rd"
    exact q r H2 hs2 hr2
theorem ok_law_tell (T : Tx K mg a) : FnOk P w K mg base CX0 5 a.f_law_tell a.d_law_tell ["_law_jobs_here"] (sp_law_tell 4) := by
  have up : ∀ {L d : Nat}, FnOk P w K mg base CX0 L a.f_law_tell a.d_law_tell ["_law_jobs_here"] (sp_law_tell d) → FnOk P w K mg base CX0 (L + 1) a.f_law_tell a.d_law_tell ["_law_jobs_here"] (sp_law_tell (d + 1)) := fun {L d} G => step_tell T (fun d' e vs H Q E h => by cases e; exact h) G
  exact up (up (up (up (step_tell (L := 0) T (fun d' e => absurd e (by omega)) fn_none))))
theorem kit_light {K : PySem.W.Frag} {mg : Str → Option Value} {x : Str} {C B : Addr} {b : Bool} (d : CL K mg x B) (hself : PySem.W.mroIn K C (.ref C) = some true) (h : PySem.W.mroIn K C (.ref B) = some b) : PySem.W.kitOne K (.ref C) (.ref B) = some b :=
  d.kit h fun e => by
    subst e
    rw [hself] at h
    exact (Option.some.inj h).symm
theorem kit_full {K : PySem.W.Frag} {mg : Str → Option Value} {x qual fld : Str} {st : Stmt} {ps : List Str} {fd : FuncData} {C B f : Addr} {b : Bool} (d : CI K mg x qual st ps B f fd fld) (hself : PySem.W.mroIn K C (.ref C) = some true) (h : PySem.W.mroIn K C (.ref B) = some b) : PySem.W.kitOne K (.ref C) (.ref B) = some b :=
  kit_own d.cls d.q h fun e => by
    subst e
    rw [hself] at h
    exact (Option.some.inj h).symm
theorem kit_none35 {K : PySem.W.Frag} {mg : Str → Option Value} {x : Str} {C B : Addr} {b : Bool} (d : CN K mg x B) (hself : PySem.W.mroIn K C (.ref C) = some true) (h : PySem.W.mroIn K C (.ref B) = some b) : PySem.W.kitOne K (.ref C) (.ref B) = some b :=
  kit_own d.cls d.q h fun e => by
    subst e
    rw [hself] at h
    exact (Option.some.inj h).symm
def sp_law_kinds (C : Addr) : Sp := fun vs H Q _ => ∃ (e : Addr), vs = [.ref e] ∧ H e = some (XE e C none) ∧ ∀ H', Same H H' → Q (.bl true) H'
theorem ok_law_kinds (T : Tx K mg a) : FnOkH P w K mg base 1 a.f_law_kinds a.d_law_kinds ["_law_e"] (sp_law_kinds a.c_NoCopy) := by
  refine T.law_kinds.fn.okH sc_law_kinds (fun vs H Q E h => ?_) (fun cdv A outer s H vs Q hr h => ?_)
  · obtain ⟨e, rfl, _⟩ := h
    rfl
  obtain ⟨e, rfl, he, q⟩ := h
  have hg := T.cl_NoCopy.q.g
  have hself := T.m_NoCopy_NoCopy
  have ask : ∀ {H2 : Hp}, Same H H2 → ∀ a0, (none : Option Addr) = some a0 → ∃ fs, H2 a0 = some (.xd fs) := fun _ a0 z => nomatch z
  refine ⟨_, (pss_cons (ps_set (i := 1) sc_law_kinds.nd rfl (Or.inl rfl) (pe_lst (pa_cons (pe_callB (kcall_isX (K := K) rfl) rfl T.b_isinstance bt_isinstance (pa_cons (pv 0) (pa_cons (pe_glob (v := .ref a.c_NoCase) rfl T.cl_NoCase.mg rfl) pa_nil))) (pa_cons (pe_callB (kcall_isX (K := K) rfl) rfl T.b_isinstance bt_isinstance (pa_cons (pv 0) (pa_cons (pe_glob (v := .ref a.c_TooMany) rfl T.cl_TooMany.mg rfl) pa_nil))) (pa_cons (pe_callB (kcall_isX (K := K) rfl) rfl T.b_isinstance bt_isinstance (pa_cons (pv 0) (pa_cons (pe_glob (v := .ref a.c_Loose) rfl T.cl_Loose.mg rfl) pa_nil))) (pa_cons (pe_callB (kcall_isX (K := K) rfl) rfl T.b_isinstance bt_isinstance (pa_cons (pv 0) (pa_cons (pe_glob (v := .ref a.c_Tight) rfl T.cl_Tight.mg rfl) pa_nil))) pa_nil))))))
      (pss_cons (ps_set (i := 1) sc_law_kinds.nd rfl (Or.inl rfl) (pe_op op_cat (pv 1) (pe_lst (pa_cons (pe_callB (kcall_isX (K := K) rfl) rfl T.b_isinstance bt_isinstance (pa_cons (pv 0) (pa_cons (pe_glob (v := .ref a.c_NoBreak) rfl T.cl_NoBreak.mg rfl) pa_nil))) (pa_cons (pe_callB (kcall_isX (K := K) rfl) rfl T.b_isinstance bt_isinstance (pa_cons (pv 0) (pa_cons (pe_glob (v := .ref a.c_NoKeys) rfl T.cl_NoKeys.mg rfl) pa_nil))) (pa_cons (pe_callB (kcall_isX (K := K) rfl) rfl T.b_isinstance bt_isinstance (pa_cons (pv 0) (pa_cons (pe_glob (v := .ref a.c_NoText) rfl T.cl_NoText.mg rfl) pa_nil))) (pa_cons (pe_callB (kcall_isX (K := K) rfl) rfl T.b_isinstance bt_isinstance (pa_cons (pv 0) (pa_cons (pe_glob (v := .ref a.c_NoNumber) rfl T.cl_NoNumber.mg rfl) pa_nil))) pa_nil)))))))
      (pss_cons (ps_set (i := 1) sc_law_kinds.nd rfl (Or.inl rfl) (pe_op op_cat (pv 1) (pe_lst (pa_cons (pe_callB (kcall_isX (K := K) rfl) rfl T.b_isinstance bt_isinstance (pa_cons (pv 0) (pa_cons (pe_glob (v := .ref a.c_NoRow) rfl T.cl_NoRow.mg rfl) pa_nil))) pa_nil))))
      (pss_one (ps_ret (pe_and (pe_callB (kcall_isX (K := K) rfl) rfl T.b_isinstance bt_isinstance (pa_cons (pv 0) (pa_cons (pe_glob (v := .ref a.c_CasterError) rfl T.cl_CasterError.mg rfl) pa_nil))) (pe_and (pe_callB (kcall_isX (K := K) rfl) rfl T.b_isinstance bt_isinstance (pa_cons (pv 0) (pa_cons (pe_bltn (v := .ty "ValueError") rfl T.b_ValueError bt_ValueError rfl) pa_nil))) (pe_one (pe_cmpR (knotIn_seq K rfl) pe_bl (pv 1) (by with_unfolding_all rfl)))))))))), ?_⟩
  walk_at "rd"
  refine ⟨e, _, none, _, _, false, rfl, he, ask (Same.refl _), hg, rfl, kit_light T.cl_NoCase hself T.m_NoCopy_NoCase, ?_⟩
  walk_at "rd"
  refine ⟨e, _, none, _, _, false, rfl, he, ask (Same.refl _), hg, rfl, kit_light T.cl_TooMany hself T.m_NoCopy_TooMany, ?_⟩
  walk_at "rd"
  refine ⟨e, _, none, _, _, false, rfl, he, ask (Same.refl _), hg, rfl, kit_light T.cl_Loose hself T.m_NoCopy_Loose, ?_⟩
  walk_at "rd"
  refine ⟨e, _, none, _, _, false, rfl, he, ask (Same.refl _), hg, rfl, kit_light T.cl_Tight hself T.m_NoCopy_Tight, ?_⟩
  walk_at "rd"
  intro p1 hp1
  have hs1 := same_new hp1 (.lst [.bl false, .bl false, .bl false, .bl false])
  have h11 : upd H p1 (.lst [.bl false, .bl false, .bl false, .bl false]) p1 = some (.lst [.bl false, .bl false, .bl false, .bl false]) := upd_same
  generalize upd H p1 (.lst [.bl false, .bl false, .bl false, .bl false]) = H1 at hs1 h11 ⊢
  walk_at "rd"
  refine ⟨e, _, none, _, _, false, rfl, (hs1 _ _ he), ask hs1, hg, rfl, kit_light T.cl_NoBreak hself T.m_NoCopy_NoBreak, ?_⟩
  walk_at "rd"
  refine ⟨e, _, none, _, _, false, rfl, (hs1 _ _ he), ask hs1, hg, rfl, kit_light T.cl_NoKeys hself T.m_NoCopy_NoKeys, ?_⟩
  walk_at "rd"
  refine ⟨e, _, none, _, _, false, rfl, (hs1 _ _ he), ask hs1, hg, rfl, kit_light T.cl_NoText hself T.m_NoCopy_NoText, ?_⟩
  walk_at "rd"
  refine ⟨e, _, none, _, _, false, rfl, (hs1 _ _ he), ask hs1, hg, rfl, kit_light T.cl_NoNumber hself T.m_NoCopy_NoNumber, ?_⟩
  walk_at "rd"
  intro p2 hp2
  have hs2 := same_new hp2 (.lst [.bl false, .bl false, .bl false, .bl false])
  have h22 : upd H1 p2 (.lst [.bl false, .bl false, .bl false, .bl false]) p2 = some (.lst [.bl false, .bl false, .bl false, .bl false]) := upd_same
  generalize upd H1 p2 (.lst [.bl false, .bl false, .bl false, .bl false]) = H2 at hs2 h22 ⊢
  refine ⟨p1, p2, _, _, rfl, rfl, hs2 _ _ h11, h22, smallL (by decide), fun p3 hp3 => ?_⟩
  have hs3 := same_new hp3 (.lst ([V.bl false, V.bl false, V.bl false, V.bl false] ++ [V.bl false, V.bl false, V.bl false, V.bl false]))
  have h33 : upd H2 p3 (.lst ([V.bl false, V.bl false, V.bl false, V.bl false] ++ [V.bl false, V.bl false, V.bl false, V.bl false])) p3 = some (.lst ([V.bl false, V.bl false, V.bl false, V.bl false] ++ [V.bl false, V.bl false, V.bl false, V.bl false])) := upd_same
  generalize upd H2 p3 (.lst ([V.bl false, V.bl false, V.bl false, V.bl false] ++ [V.bl false, V.bl false, V.bl false, V.bl false])) = H3 at hs3 h33 ⊢
  have hs03 := hs1.trans (hs2.trans hs3)
  walk_at "rd"
  refine ⟨e, _, none, _, _, false, rfl, hs03 _ _ he, ask hs03, hg, rfl, kit_light T.cl_NoRow hself T.m_NoCopy_NoRow, ?_⟩
  walk_at "rd"
  intro p4 hp4
  have hs4 := same_new hp4 (.lst [.bl false])
  have h44 : upd H3 p4 (.lst [.bl false]) p4 = some (.lst [.bl false]) := upd_same
  generalize upd H3 p4 (.lst [.bl false]) = H4 at hs4 h44 ⊢
  refine ⟨p3, p4, _, _, rfl, rfl, hs4 _ _ h33, h44, smallL (by decide), fun p5 hp5 => ?_⟩
  have hs5 := same_new hp5 (.lst (([V.bl false, V.bl false, V.bl false, V.bl false] ++ [V.bl false, V.bl false, V.bl false, V.bl false]) ++ [V.bl false]))
  have h55 : upd H4 p5 (.lst (([V.bl false, V.bl false, V.bl false, V.bl false] ++ [V.bl false, V.bl false, V.bl false, V.bl false]) ++ [V.bl false])) p5 = some (.lst (([V.bl false, V.bl false, V.bl false, V.bl false] ++ [V.bl false, V.bl false, V.bl false, V.bl false]) ++ [V.bl false])) := upd_same
  generalize upd H4 p5 (.lst (([V.bl false, V.bl false, V.bl false, V.bl false] ++ [V.bl false, V.bl false, V.bl false, V.bl false]) ++ [V.bl false])) = H5 at hs5 h55 ⊢
  have hs05 := hs03.trans (hs4.trans hs5)
  walk_at "rd"
  refine ⟨e, _, none, _, _, true, rfl, hs05 _ _ he, ask hs05, hg, rfl, kit_light T.cl_CasterError hself T.m_NoCopy_CasterError, ?_⟩
  walk_at "rd"
  try refine iteT ?_
  walk_at "rd"
  refine ⟨e, _, none, _, _, true, rfl, hs05 _ _ he, ask hs05, hg, rfl, kit_value T.cl_NoCopy.q, ?_⟩
  walk_at "rd"
  try refine iteT ?_
  exact ⟨p5, _, rfl, .inl (SqL.of h55), rfl, rfl, q _ hs05⟩
theorem at_some {α : Type} (l : List α) {z : Int} (h0 : 0 ≤ z) (h1 : z < l.length) : ∃ a, a ∈ l ∧ atI l z = some a := by
  obtain ⟨n, rfl⟩ := Int.eq_ofNat_of_zero_le h0
  have hn : n < l.length := by omega
  exact ⟨l[n], List.getElem_mem hn, atI_nat (List.getElem?_eq_getElem hn)⟩
theorem at_str (l : List Str) {z : Int} (h0 : 0 ≤ z) (h1 : z < l.length) : ∃ y, y ∈ l ∧ atI (l.map V.str) z = some (.str y) := by
  obtain ⟨n, rfl⟩ := Int.eq_ofNat_of_zero_le h0
  have hn : n < l.length := by omega
  exact ⟨l[n], List.getElem_mem hn, atI_nat (by rw [List.getElem?_map, List.getElem?_eq_getElem hn]; rfl)⟩
def odA0 : List Str := [Str.ofString "measure", Str.ofString "measure 0", Str.ofString "measure 2001", Str.ofString "measure 05", Str.ofString "measure x", Str.ofString "measure -1"]
def odA1 : List Str := [Str.ofString "measure +1", Str.ofString "measure 10000", Str.ofString "measure 5 5", Str.ofString "gaps 1 2", Str.ofString "gaps 1 2 3 4"]
def odA2 : List Str := [Str.ofString "gaps 3 2 4", Str.ofString "gaps 1 4 3", Str.ofString "gaps 0 0 100", Str.ofString "gaps 00 1 2", Str.ofString "gaps a b c"]
def odA3 : List Str := [Str.ofString "gaps", Str.ofString "set", Str.ofString "set end", Str.ofString "set a", Str.ofString "set a b", Str.ofString "set A end", Str.ofString "set a1 end"]
def odA4 : List Str := [Str.ofString "set a  b end", Str.ofString "set ( end", Str.ofString "set a end end", Str.ofString "end", Str.ofString "times", Str.ofString "2 times"]
def odA5 : List Str := [Str.ofString "2 times (", Str.ofString "2 times ( )", Str.ofString "2 times set a end", Str.ofString "2 times ( set a end"]
def odA6 : List Str := [Str.ofString "2 times set a end )", Str.ofString "0 times ( set a end )", Str.ofString "10 times ( set a end )"]
def odA7 : List Str := [Str.ofString "02 times ( set a end )", Str.ofString "( set a end )", Str.ofString ")", Str.ofString "set a end )"]
def odA8 : List Str := [Str.ofString "2 ( set a end )", Str.ofString "two times ( set a end )"]
def odA : List Str := ((((((((odA0 ++ odA1) ++ odA2) ++ odA3) ++ odA4) ++ odA5) ++ odA6) ++ odA7) ++ odA8)
def sp_law_odd : Sp := fun vs H Q _ => ∃ (n : Int), vs = [.int n] ∧ ∀ y ∈ odA, ∀ H', Same H H' → Q (.str y) H'
theorem ok_law_odd (T : Tx K mg a) : FnOk P w K mg base CX0 1 a.f_law_odd a.d_law_odd ["_law_number"] sp_law_odd := by
  refine T.law_odd.fn.ok sc_law_odd (fun vs H Q E h => ?_) (fun cdv A outer s H vs Q E hr h => ?_)
  · obtain ⟨n, rfl, _⟩ := h
    rfl
  obtain ⟨n, rfl, q⟩ := h
  refine ⟨_, (pss_cons (ps_set (i := 1) sc_law_odd.nd rfl (Or.inl rfl) (pe_lst (pa_cons pe_str (pa_cons pe_str (pa_cons pe_str (pa_cons pe_str (pa_cons pe_str (pa_cons pe_str pa_nil))))))))
      (pss_cons (ps_set (i := 1) sc_law_odd.nd rfl (Or.inl rfl) (pe_op op_cat (pv 1) (pe_lst (pa_cons pe_str (pa_cons pe_str (pa_cons pe_str (pa_cons pe_str (pa_cons pe_str pa_nil))))))))
      (pss_cons (ps_set (i := 1) sc_law_odd.nd rfl (Or.inl rfl) (pe_op op_cat (pv 1) (pe_lst (pa_cons pe_str (pa_cons pe_str (pa_cons pe_str (pa_cons pe_str (pa_cons pe_str pa_nil))))))))
      (pss_cons (ps_set (i := 1) sc_law_odd.nd rfl (Or.inl rfl) (pe_op op_cat (pv 1) (pe_lst (pa_cons pe_str (pa_cons pe_str (pa_cons pe_str (pa_cons pe_str (pa_cons pe_str (pa_cons pe_str (pa_cons pe_str pa_nil))))))))))
      (pss_cons (ps_set (i := 1) sc_law_odd.nd rfl (Or.inl rfl) (pe_op op_cat (pv 1) (pe_lst (pa_cons pe_str (pa_cons pe_str (pa_cons pe_str (pa_cons pe_str (pa_cons pe_str (pa_cons pe_str pa_nil)))))))))
      (pss_cons (ps_set (i := 1) sc_law_odd.nd rfl (Or.inl rfl) (pe_op op_cat (pv 1) (pe_lst (pa_cons pe_str (pa_cons pe_str (pa_cons pe_str (pa_cons pe_str pa_nil)))))))
      (pss_cons (ps_set (i := 1) sc_law_odd.nd rfl (Or.inl rfl) (pe_op op_cat (pv 1) (pe_lst (pa_cons pe_str (pa_cons pe_str (pa_cons pe_str pa_nil))))))
      (pss_cons (ps_set (i := 1) sc_law_odd.nd rfl (Or.inl rfl) (pe_op op_cat (pv 1) (pe_lst (pa_cons pe_str (pa_cons pe_str (pa_cons pe_str (pa_cons pe_str pa_nil)))))))
      (pss_cons (ps_set (i := 1) sc_law_odd.nd rfl (Or.inl rfl) (pe_op op_cat (pv 1) (pe_lst (pa_cons pe_str (pa_cons pe_str pa_nil)))))
      (pss_one (ps_ret (pe_ix (kix_list K rfl) (pv 1) (pe_op op_mod (pv 0) pe_int) (fun _ _ => rfl))))))))))))), ?_⟩
  walk_at "rd"
  intro p0 hp0
  have s0 := same_new hp0 (.lst [V.str (Str.ofString "measure"), V.str (Str.ofString "measure 0"), V.str (Str.ofString "measure 2001"), V.str (Str.ofString "measure 05"), V.str (Str.ofString "measure x"), V.str (Str.ofString "measure -1")])
  have h0 : upd H p0 (.lst [V.str (Str.ofString "measure"), V.str (Str.ofString "measure 0"), V.str (Str.ofString "measure 2001"), V.str (Str.ofString "measure 05"), V.str (Str.ofString "measure x"), V.str (Str.ofString "measure -1")]) p0 = some (.lst (odA0.map V.str)) := upd_same
  generalize upd H p0 (.lst [V.str (Str.ofString "measure"), V.str (Str.ofString "measure 0"), V.str (Str.ofString "measure 2001"), V.str (Str.ofString "measure 05"), V.str (Str.ofString "measure x"), V.str (Str.ofString "measure -1")]) = H0 at s0 h0 ⊢
  walk_at "rd"
  intro p1a hp1a
  have s1a := same_new hp1a (.lst [V.str (Str.ofString "measure +1"), V.str (Str.ofString "measure 10000"), V.str (Str.ofString "measure 5 5"), V.str (Str.ofString "gaps 1 2"), V.str (Str.ofString "gaps 1 2 3 4")])
  have h1a : upd H0 p1a (.lst [V.str (Str.ofString "measure +1"), V.str (Str.ofString "measure 10000"), V.str (Str.ofString "measure 5 5"), V.str (Str.ofString "gaps 1 2"), V.str (Str.ofString "gaps 1 2 3 4")]) p1a = some (.lst (odA1.map V.str)) := upd_same
  generalize upd H0 p1a (.lst [V.str (Str.ofString "measure +1"), V.str (Str.ofString "measure 10000"), V.str (Str.ofString "measure 5 5"), V.str (Str.ofString "gaps 1 2"), V.str (Str.ofString "gaps 1 2 3 4")]) = H1a at s1a h1a ⊢
  refine ⟨p0, p1a, _, _, rfl, rfl, s1a _ _ h0, h1a, smallL (by decide), fun p1 hp1 => ?_⟩
  rw [← List.map_append]
  have s1 := same_new hp1 (.lst ((odA0 ++ odA1).map V.str))
  have h1 : upd H1a p1 (.lst ((odA0 ++ odA1).map V.str)) p1 = some (.lst ((odA0 ++ odA1).map V.str)) := upd_same
  generalize upd H1a p1 (.lst ((odA0 ++ odA1).map V.str)) = H1 at s1 h1 ⊢
  walk_at "rd"
  intro p2a hp2a
  have s2a := same_new hp2a (.lst [V.str (Str.ofString "gaps 3 2 4"), V.str (Str.ofString "gaps 1 4 3"), V.str (Str.ofString "gaps 0 0 100"), V.str (Str.ofString "gaps 00 1 2"), V.str (Str.ofString "gaps a b c")])
  have h2a : upd H1 p2a (.lst [V.str (Str.ofString "gaps 3 2 4"), V.str (Str.ofString "gaps 1 4 3"), V.str (Str.ofString "gaps 0 0 100"), V.str (Str.ofString "gaps 00 1 2"), V.str (Str.ofString "gaps a b c")]) p2a = some (.lst (odA2.map V.str)) := upd_same
  generalize upd H1 p2a (.lst [V.str (Str.ofString "gaps 3 2 4"), V.str (Str.ofString "gaps 1 4 3"), V.str (Str.ofString "gaps 0 0 100"), V.str (Str.ofString "gaps 00 1 2"), V.str (Str.ofString "gaps a b c")]) = H2a at s2a h2a ⊢
  refine ⟨p1, p2a, _, _, rfl, rfl, s2a _ _ h1, h2a, smallL (by decide), fun p2 hp2 => ?_⟩
  rw [← List.map_append]
  have s2 := same_new hp2 (.lst (((odA0 ++ odA1) ++ odA2).map V.str))
  have h2 : upd H2a p2 (.lst (((odA0 ++ odA1) ++ odA2).map V.str)) p2 = some (.lst (((odA0 ++ odA1) ++ odA2).map V.str)) := upd_same
  generalize upd H2a p2 (.lst (((odA0 ++ odA1) ++ odA2).map V.str)) = H2 at s2 h2 ⊢
  walk_at "rd"
  intro p3a hp3a
  have s3a := same_new hp3a (.lst [V.str (Str.ofString "gaps"), V.str (Str.ofString "set"), V.str (Str.ofString "set end"), V.str (Str.ofString "set a"), V.str (Str.ofString "set a b"), V.str (Str.ofString "set A end"), V.str (Str.ofString "set a1 end")])
  have h3a : upd H2 p3a (.lst [V.str (Str.ofString "gaps"), V.str (Str.ofString "set"), V.str (Str.ofString "set end"), V.str (Str.ofString "set a"), V.str (Str.ofString "set a b"), V.str (Str.ofString "set A end"), V.str (Str.ofString "set a1 end")]) p3a = some (.lst (odA3.map V.str)) := upd_same
  generalize upd H2 p3a (.lst [V.str (Str.ofString "gaps"), V.str (Str.ofString "set"), V.str (Str.ofString "set end"), V.str (Str.ofString "set a"), V.str (Str.ofString "set a b"), V.str (Str.ofString "set A end"), V.str (Str.ofString "set a1 end")]) = H3a at s3a h3a ⊢
  refine ⟨p2, p3a, _, _, rfl, rfl, s3a _ _ h2, h3a, smallL (by decide), fun p3 hp3 => ?_⟩
  rw [← List.map_append]
  have s3 := same_new hp3 (.lst ((((odA0 ++ odA1) ++ odA2) ++ odA3).map V.str))
  have h3 : upd H3a p3 (.lst ((((odA0 ++ odA1) ++ odA2) ++ odA3).map V.str)) p3 = some (.lst ((((odA0 ++ odA1) ++ odA2) ++ odA3).map V.str)) := upd_same
  generalize upd H3a p3 (.lst ((((odA0 ++ odA1) ++ odA2) ++ odA3).map V.str)) = H3 at s3 h3 ⊢
  walk_at "rd"
  intro p4a hp4a
  have s4a := same_new hp4a (.lst [V.str (Str.ofString "set a  b end"), V.str (Str.ofString "set ( end"), V.str (Str.ofString "set a end end"), V.str (Str.ofString "end"), V.str (Str.ofString "times"), V.str (Str.ofString "2 times")])
  have h4a : upd H3 p4a (.lst [V.str (Str.ofString "set a  b end"), V.str (Str.ofString "set ( end"), V.str (Str.ofString "set a end end"), V.str (Str.ofString "end"), V.str (Str.ofString "times"), V.str (Str.ofString "2 times")]) p4a = some (.lst (odA4.map V.str)) := upd_same
  generalize upd H3 p4a (.lst [V.str (Str.ofString "set a  b end"), V.str (Str.ofString "set ( end"), V.str (Str.ofString "set a end end"), V.str (Str.ofString "end"), V.str (Str.ofString "times"), V.str (Str.ofString "2 times")]) = H4a at s4a h4a ⊢
  refine ⟨p3, p4a, _, _, rfl, rfl, s4a _ _ h3, h4a, smallL (by decide), fun p4 hp4 => ?_⟩
  rw [← List.map_append]
  have s4 := same_new hp4 (.lst (((((odA0 ++ odA1) ++ odA2) ++ odA3) ++ odA4).map V.str))
  have h4 : upd H4a p4 (.lst (((((odA0 ++ odA1) ++ odA2) ++ odA3) ++ odA4).map V.str)) p4 = some (.lst (((((odA0 ++ odA1) ++ odA2) ++ odA3) ++ odA4).map V.str)) := upd_same
  generalize upd H4a p4 (.lst (((((odA0 ++ odA1) ++ odA2) ++ odA3) ++ odA4).map V.str)) = H4 at s4 h4 ⊢
  walk_at "rd"
  intro p5a hp5a
  have s5a := same_new hp5a (.lst [V.str (Str.ofString "2 times ("), V.str (Str.ofString "2 times ( )"), V.str (Str.ofString "2 times set a end"), V.str (Str.ofString "2 times ( set a end")])
  have h5a : upd H4 p5a (.lst [V.str (Str.ofString "2 times ("), V.str (Str.ofString "2 times ( )"), V.str (Str.ofString "2 times set a end"), V.str (Str.ofString "2 times ( set a end")]) p5a = some (.lst (odA5.map V.str)) := upd_same
  generalize upd H4 p5a (.lst [V.str (Str.ofString "2 times ("), V.str (Str.ofString "2 times ( )"), V.str (Str.ofString "2 times set a end"), V.str (Str.ofString "2 times ( set a end")]) = H5a at s5a h5a ⊢
  refine ⟨p4, p5a, _, _, rfl, rfl, s5a _ _ h4, h5a, smallL (by decide), fun p5 hp5 => ?_⟩
  rw [← List.map_append]
  have s5 := same_new hp5 (.lst ((((((odA0 ++ odA1) ++ odA2) ++ odA3) ++ odA4) ++ odA5).map V.str))
  have h5 : upd H5a p5 (.lst ((((((odA0 ++ odA1) ++ odA2) ++ odA3) ++ odA4) ++ odA5).map V.str)) p5 = some (.lst ((((((odA0 ++ odA1) ++ odA2) ++ odA3) ++ odA4) ++ odA5).map V.str)) := upd_same
  generalize upd H5a p5 (.lst ((((((odA0 ++ odA1) ++ odA2) ++ odA3) ++ odA4) ++ odA5).map V.str)) = H5 at s5 h5 ⊢
  walk_at "rd"
  intro p6a hp6a
  have s6a := same_new hp6a (.lst [V.str (Str.ofString "2 times set a end )"), V.str (Str.ofString "0 times ( set a end )"), V.str (Str.ofString "10 times ( set a end )")])
  have h6a : upd H5 p6a (.lst [V.str (Str.ofString "2 times set a end )"), V.str (Str.ofString "0 times ( set a end )"), V.str (Str.ofString "10 times ( set a end )")]) p6a = some (.lst (odA6.map V.str)) := upd_same
  generalize upd H5 p6a (.lst [V.str (Str.ofString "2 times set a end )"), V.str (Str.ofString "0 times ( set a end )"), V.str (Str.ofString "10 times ( set a end )")]) = H6a at s6a h6a ⊢
  refine ⟨p5, p6a, _, _, rfl, rfl, s6a _ _ h5, h6a, smallL (by decide), fun p6 hp6 => ?_⟩
  rw [← List.map_append]
  have s6 := same_new hp6 (.lst (((((((odA0 ++ odA1) ++ odA2) ++ odA3) ++ odA4) ++ odA5) ++ odA6).map V.str))
  have h6 : upd H6a p6 (.lst (((((((odA0 ++ odA1) ++ odA2) ++ odA3) ++ odA4) ++ odA5) ++ odA6).map V.str)) p6 = some (.lst (((((((odA0 ++ odA1) ++ odA2) ++ odA3) ++ odA4) ++ odA5) ++ odA6).map V.str)) := upd_same
  generalize upd H6a p6 (.lst (((((((odA0 ++ odA1) ++ odA2) ++ odA3) ++ odA4) ++ odA5) ++ odA6).map V.str)) = H6 at s6 h6 ⊢
  walk_at "rd"
  intro p7a hp7a
  have s7a := same_new hp7a (.lst [V.str (Str.ofString "02 times ( set a end )"), V.str (Str.ofString "( set a end )"), V.str (Str.ofString ")"), V.str (Str.ofString "set a end )")])
  have h7a : upd H6 p7a (.lst [V.str (Str.ofString "02 times ( set a end )"), V.str (Str.ofString "( set a end )"), V.str (Str.ofString ")"), V.str (Str.ofString "set a end )")]) p7a = some (.lst (odA7.map V.str)) := upd_same
  generalize upd H6 p7a (.lst [V.str (Str.ofString "02 times ( set a end )"), V.str (Str.ofString "( set a end )"), V.str (Str.ofString ")"), V.str (Str.ofString "set a end )")]) = H7a at s7a h7a ⊢
  refine ⟨p6, p7a, _, _, rfl, rfl, s7a _ _ h6, h7a, smallL (by decide), fun p7 hp7 => ?_⟩
  rw [← List.map_append]
  have s7 := same_new hp7 (.lst ((((((((odA0 ++ odA1) ++ odA2) ++ odA3) ++ odA4) ++ odA5) ++ odA6) ++ odA7).map V.str))
  have h7 : upd H7a p7 (.lst ((((((((odA0 ++ odA1) ++ odA2) ++ odA3) ++ odA4) ++ odA5) ++ odA6) ++ odA7).map V.str)) p7 = some (.lst ((((((((odA0 ++ odA1) ++ odA2) ++ odA3) ++ odA4) ++ odA5) ++ odA6) ++ odA7).map V.str)) := upd_same
  generalize upd H7a p7 (.lst ((((((((odA0 ++ odA1) ++ odA2) ++ odA3) ++ odA4) ++ odA5) ++ odA6) ++ odA7).map V.str)) = H7 at s7 h7 ⊢
  walk_at "rd"
  intro p8a hp8a
  have s8a := same_new hp8a (.lst [V.str (Str.ofString "2 ( set a end )"), V.str (Str.ofString "two times ( set a end )")])
  have h8a : upd H7 p8a (.lst [V.str (Str.ofString "2 ( set a end )"), V.str (Str.ofString "two times ( set a end )")]) p8a = some (.lst (odA8.map V.str)) := upd_same
  generalize upd H7 p8a (.lst [V.str (Str.ofString "2 ( set a end )"), V.str (Str.ofString "two times ( set a end )")]) = H8a at s8a h8a ⊢
  refine ⟨p7, p8a, _, _, rfl, rfl, s8a _ _ h7, h8a, smallL (by decide), fun p8 hp8 => ?_⟩
  rw [← List.map_append]
  have s8 := same_new hp8 (.lst (((((((((odA0 ++ odA1) ++ odA2) ++ odA3) ++ odA4) ++ odA5) ++ odA6) ++ odA7) ++ odA8).map V.str))
  have h8 : upd H8a p8 (.lst (((((((((odA0 ++ odA1) ++ odA2) ++ odA3) ++ odA4) ++ odA5) ++ odA6) ++ odA7) ++ odA8).map V.str)) p8 = some (.lst (((((((((odA0 ++ odA1) ++ odA2) ++ odA3) ++ odA4) ++ odA5) ++ odA6) ++ odA7) ++ odA8).map V.str)) := upd_same
  generalize upd H8a p8 (.lst (((((((((odA0 ++ odA1) ++ odA2) ++ odA3) ++ odA4) ++ odA5) ++ odA6) ++ odA7) ++ odA8).map V.str)) = H8 at s8 h8 ⊢
  have hz0 := Int.emod_nonneg n (show (42 : Int) ≠ 0 by decide)
  have hz1 := Int.emod_lt_of_pos n (show (0 : Int) < 42 by decide)
  obtain ⟨y, hy, ey⟩ := at_str odA hz0 (by show _ < ((42 : Nat) : Int); exact hz1)
  have q := q y hy _ ((((((((s0.trans (s1a.trans s1)).trans (s2a.trans s2)).trans (s3a.trans s3)).trans (s4a.trans s4)).trans (s5a.trans s5)).trans (s6a.trans s6)).trans (s7a.trans s7)).trans (s8a.trans s8))
  walk_at "rd"
  try refine ⟨p8, _, _, _, rfl, rfl, SqL.of h8, ey, ?_⟩
  exact q
def odB0 : List Str := [Str.ofString " ", Str.ofString "  ", Str.ofString "Measure 5", Str.ofString "measure  5", Str.ofString "measure 5 ", Str.ofString " measure 5", Str.ofString "measure\t5"]
def odB1 : List Str := [Str.ofString "measure 5\n", Str.ofString "measure five", Str.ofString "set a,b; end", Str.ofString "set a/ end"]
def odB2 : List Str := [Str.ofString "2 times [ set a end ]", Str.ofString "2 times ( set a end ) )"]
def odB3 : List Str := [Str.ofString "2 2 times ( set a end )", Str.ofString "2 times ( ( set a end ) )"]
def odB4 : List Str := [Str.ofString "2 Times ( set a end )", Str.ofString "gaps 1, 2, 3", Str.ofString "set a END", Str.ofString "measure 1.5"]
def odB5 : List Str := [Str.ofString "1 times ( 1 times ( 1 times ( 1 times ( 1 times ( set a end ) ) ) ) )"]
def odB6 : List Str := [Str.ofString "2times ( set a end )", Str.ofString "set Ab end", Str.ofString "set a1b end", Str.ofString "set ab Cd ef end"]
def odB : List Str := ((((((odB0 ++ odB1) ++ odB2) ++ odB3) ++ odB4) ++ odB5) ++ odB6)
def sp_law_odd_too : Sp := fun vs H Q _ => ∃ (n : Int), vs = [.int n] ∧ ∀ y ∈ odB, ∀ H', Same H H' → Q (.str y) H'
theorem ok_law_odd_too (T : Tx K mg a) : FnOk P w K mg base CX0 1 a.f_law_odd_too a.d_law_odd_too ["_law_number"] sp_law_odd_too := by
  refine T.law_odd_too.fn.ok sc_law_odd_too (fun vs H Q E h => ?_) (fun cdv A outer s H vs Q E hr h => ?_)
  · obtain ⟨n, rfl, _⟩ := h
    rfl
  obtain ⟨n, rfl, q⟩ := h
  refine ⟨_, (pss_cons (ps_set (i := 1) sc_law_odd_too.nd rfl (Or.inl rfl) (pe_lst (pa_cons pe_str (pa_cons pe_str (pa_cons pe_str (pa_cons pe_str (pa_cons pe_str (pa_cons pe_str (pa_cons pe_str pa_nil)))))))))
      (pss_cons (ps_set (i := 1) sc_law_odd_too.nd rfl (Or.inl rfl) (pe_op op_cat (pv 1) (pe_lst (pa_cons pe_str (pa_cons pe_str (pa_cons pe_str (pa_cons pe_str pa_nil)))))))
      (pss_cons (ps_set (i := 1) sc_law_odd_too.nd rfl (Or.inl rfl) (pe_op op_cat (pv 1) (pe_lst (pa_cons pe_str (pa_cons pe_str pa_nil)))))
      (pss_cons (ps_set (i := 1) sc_law_odd_too.nd rfl (Or.inl rfl) (pe_op op_cat (pv 1) (pe_lst (pa_cons pe_str (pa_cons pe_str pa_nil)))))
      (pss_cons (ps_set (i := 1) sc_law_odd_too.nd rfl (Or.inl rfl) (pe_op op_cat (pv 1) (pe_lst (pa_cons pe_str (pa_cons pe_str (pa_cons pe_str (pa_cons pe_str pa_nil)))))))
      (pss_cons (ps_set (i := 1) sc_law_odd_too.nd rfl (Or.inl rfl) (pe_op op_cat (pv 1) (pe_lst (pa_cons pe_str pa_nil))))
      (pss_cons (ps_set (i := 1) sc_law_odd_too.nd rfl (Or.inl rfl) (pe_op op_cat (pv 1) (pe_lst (pa_cons pe_str (pa_cons pe_str (pa_cons pe_str (pa_cons pe_str pa_nil)))))))
      (pss_one (ps_ret (pe_ix (kix_list K rfl) (pv 1) (pe_op op_mod (pv 0) pe_int) (fun _ _ => rfl))))))))))), ?_⟩
  walk_at "rd"
  intro p0 hp0
  have s0 := same_new hp0 (.lst [V.str (Str.ofString " "), V.str (Str.ofString "  "), V.str (Str.ofString "Measure 5"), V.str (Str.ofString "measure  5"), V.str (Str.ofString "measure 5 "), V.str (Str.ofString " measure 5"), V.str (Str.ofString "measure\t5")])
  have h0 : upd H p0 (.lst [V.str (Str.ofString " "), V.str (Str.ofString "  "), V.str (Str.ofString "Measure 5"), V.str (Str.ofString "measure  5"), V.str (Str.ofString "measure 5 "), V.str (Str.ofString " measure 5"), V.str (Str.ofString "measure\t5")]) p0 = some (.lst (odB0.map V.str)) := upd_same
  generalize upd H p0 (.lst [V.str (Str.ofString " "), V.str (Str.ofString "  "), V.str (Str.ofString "Measure 5"), V.str (Str.ofString "measure  5"), V.str (Str.ofString "measure 5 "), V.str (Str.ofString " measure 5"), V.str (Str.ofString "measure\t5")]) = H0 at s0 h0 ⊢
  walk_at "rd"
  intro p1a hp1a
  have s1a := same_new hp1a (.lst [V.str (Str.ofString "measure 5\n"), V.str (Str.ofString "measure five"), V.str (Str.ofString "set a,b; end"), V.str (Str.ofString "set a/ end")])
  have h1a : upd H0 p1a (.lst [V.str (Str.ofString "measure 5\n"), V.str (Str.ofString "measure five"), V.str (Str.ofString "set a,b; end"), V.str (Str.ofString "set a/ end")]) p1a = some (.lst (odB1.map V.str)) := upd_same
  generalize upd H0 p1a (.lst [V.str (Str.ofString "measure 5\n"), V.str (Str.ofString "measure five"), V.str (Str.ofString "set a,b; end"), V.str (Str.ofString "set a/ end")]) = H1a at s1a h1a ⊢
  refine ⟨p0, p1a, _, _, rfl, rfl, s1a _ _ h0, h1a, smallL (by decide), fun p1 hp1 => ?_⟩
  rw [← List.map_append]
  have s1 := same_new hp1 (.lst ((odB0 ++ odB1).map V.str))
  have h1 : upd H1a p1 (.lst ((odB0 ++ odB1).map V.str)) p1 = some (.lst ((odB0 ++ odB1).map V.str)) := upd_same
  generalize upd H1a p1 (.lst ((odB0 ++ odB1).map V.str)) = H1 at s1 h1 ⊢
  walk_at "rd"
  intro p2a hp2a
  have s2a := same_new hp2a (.lst [V.str (Str.ofString "2 times [ set a end ]"), V.str (Str.ofString "2 times ( set a end ) )")])
  have h2a : upd H1 p2a (.lst [V.str (Str.ofString "2 times [ set a end ]"), V.str (Str.ofString "2 times ( set a end ) )")]) p2a = some (.lst (odB2.map V.str)) := upd_same
  generalize upd H1 p2a (.lst [V.str (Str.ofString "2 times [ set a end ]"), V.str (Str.ofString "2 times ( set a end ) )")]) = H2a at s2a h2a ⊢
  refine ⟨p1, p2a, _, _, rfl, rfl, s2a _ _ h1, h2a, smallL (by decide), fun p2 hp2 => ?_⟩
  rw [← List.map_append]
  have s2 := same_new hp2 (.lst (((odB0 ++ odB1) ++ odB2).map V.str))
  have h2 : upd H2a p2 (.lst (((odB0 ++ odB1) ++ odB2).map V.str)) p2 = some (.lst (((odB0 ++ odB1) ++ odB2).map V.str)) := upd_same
  generalize upd H2a p2 (.lst (((odB0 ++ odB1) ++ odB2).map V.str)) = H2 at s2 h2 ⊢
  walk_at "rd"
  intro p3a hp3a
  have s3a := same_new hp3a (.lst [V.str (Str.ofString "2 2 times ( set a end )"), V.str (Str.ofString "2 times ( ( set a end ) )")])
  have h3a : upd H2 p3a (.lst [V.str (Str.ofString "2 2 times ( set a end )"), V.str (Str.ofString "2 times ( ( set a end ) )")]) p3a = some (.lst (odB3.map V.str)) := upd_same
  generalize upd H2 p3a (.lst [V.str (Str.ofString "2 2 times ( set a end )"), V.str (Str.ofString "2 times ( ( set a end ) )")]) = H3a at s3a h3a ⊢
  refine ⟨p2, p3a, _, _, rfl, rfl, s3a _ _ h2, h3a, smallL (by decide), fun p3 hp3 => ?_⟩
  rw [← List.map_append]
  have s3 := same_new hp3 (.lst ((((odB0 ++ odB1) ++ odB2) ++ odB3).map V.str))
  have h3 : upd H3a p3 (.lst ((((odB0 ++ odB1) ++ odB2) ++ odB3).map V.str)) p3 = some (.lst ((((odB0 ++ odB1) ++ odB2) ++ odB3).map V.str)) := upd_same
  generalize upd H3a p3 (.lst ((((odB0 ++ odB1) ++ odB2) ++ odB3).map V.str)) = H3 at s3 h3 ⊢
  walk_at "rd"
  intro p4a hp4a
  have s4a := same_new hp4a (.lst [V.str (Str.ofString "2 Times ( set a end )"), V.str (Str.ofString "gaps 1, 2, 3"), V.str (Str.ofString "set a END"), V.str (Str.ofString "measure 1.5")])
  have h4a : upd H3 p4a (.lst [V.str (Str.ofString "2 Times ( set a end )"), V.str (Str.ofString "gaps 1, 2, 3"), V.str (Str.ofString "set a END"), V.str (Str.ofString "measure 1.5")]) p4a = some (.lst (odB4.map V.str)) := upd_same
  generalize upd H3 p4a (.lst [V.str (Str.ofString "2 Times ( set a end )"), V.str (Str.ofString "gaps 1, 2, 3"), V.str (Str.ofString "set a END"), V.str (Str.ofString "measure 1.5")]) = H4a at s4a h4a ⊢
  refine ⟨p3, p4a, _, _, rfl, rfl, s4a _ _ h3, h4a, smallL (by decide), fun p4 hp4 => ?_⟩
  rw [← List.map_append]
  have s4 := same_new hp4 (.lst (((((odB0 ++ odB1) ++ odB2) ++ odB3) ++ odB4).map V.str))
  have h4 : upd H4a p4 (.lst (((((odB0 ++ odB1) ++ odB2) ++ odB3) ++ odB4).map V.str)) p4 = some (.lst (((((odB0 ++ odB1) ++ odB2) ++ odB3) ++ odB4).map V.str)) := upd_same
  generalize upd H4a p4 (.lst (((((odB0 ++ odB1) ++ odB2) ++ odB3) ++ odB4).map V.str)) = H4 at s4 h4 ⊢
  walk_at "rd"
  intro p5a hp5a
  have s5a := same_new hp5a (.lst [V.str (Str.ofString "1 times ( 1 times ( 1 times ( 1 times ( 1 times ( set a end ) ) ) ) )")])
  have h5a : upd H4 p5a (.lst [V.str (Str.ofString "1 times ( 1 times ( 1 times ( 1 times ( 1 times ( set a end ) ) ) ) )")]) p5a = some (.lst (odB5.map V.str)) := upd_same
  generalize upd H4 p5a (.lst [V.str (Str.ofString "1 times ( 1 times ( 1 times ( 1 times ( 1 times ( set a end ) ) ) ) )")]) = H5a at s5a h5a ⊢
  refine ⟨p4, p5a, _, _, rfl, rfl, s5a _ _ h4, h5a, smallL (by decide), fun p5 hp5 => ?_⟩
  rw [← List.map_append]
  have s5 := same_new hp5 (.lst ((((((odB0 ++ odB1) ++ odB2) ++ odB3) ++ odB4) ++ odB5).map V.str))
  have h5 : upd H5a p5 (.lst ((((((odB0 ++ odB1) ++ odB2) ++ odB3) ++ odB4) ++ odB5).map V.str)) p5 = some (.lst ((((((odB0 ++ odB1) ++ odB2) ++ odB3) ++ odB4) ++ odB5).map V.str)) := upd_same
  generalize upd H5a p5 (.lst ((((((odB0 ++ odB1) ++ odB2) ++ odB3) ++ odB4) ++ odB5).map V.str)) = H5 at s5 h5 ⊢
  walk_at "rd"
  intro p6a hp6a
  have s6a := same_new hp6a (.lst [V.str (Str.ofString "2times ( set a end )"), V.str (Str.ofString "set Ab end"), V.str (Str.ofString "set a1b end"), V.str (Str.ofString "set ab Cd ef end")])
  have h6a : upd H5 p6a (.lst [V.str (Str.ofString "2times ( set a end )"), V.str (Str.ofString "set Ab end"), V.str (Str.ofString "set a1b end"), V.str (Str.ofString "set ab Cd ef end")]) p6a = some (.lst (odB6.map V.str)) := upd_same
  generalize upd H5 p6a (.lst [V.str (Str.ofString "2times ( set a end )"), V.str (Str.ofString "set Ab end"), V.str (Str.ofString "set a1b end"), V.str (Str.ofString "set ab Cd ef end")]) = H6a at s6a h6a ⊢
  refine ⟨p5, p6a, _, _, rfl, rfl, s6a _ _ h5, h6a, smallL (by decide), fun p6 hp6 => ?_⟩
  rw [← List.map_append]
  have s6 := same_new hp6 (.lst (((((((odB0 ++ odB1) ++ odB2) ++ odB3) ++ odB4) ++ odB5) ++ odB6).map V.str))
  have h6 : upd H6a p6 (.lst (((((((odB0 ++ odB1) ++ odB2) ++ odB3) ++ odB4) ++ odB5) ++ odB6).map V.str)) p6 = some (.lst (((((((odB0 ++ odB1) ++ odB2) ++ odB3) ++ odB4) ++ odB5) ++ odB6).map V.str)) := upd_same
  generalize upd H6a p6 (.lst (((((((odB0 ++ odB1) ++ odB2) ++ odB3) ++ odB4) ++ odB5) ++ odB6).map V.str)) = H6 at s6 h6 ⊢
  have hz0 := Int.emod_nonneg n (show (24 : Int) ≠ 0 by decide)
  have hz1 := Int.emod_lt_of_pos n (show (0 : Int) < 24 by decide)
  obtain ⟨y, hy, ey⟩ := at_str odB hz0 (by show _ < ((24 : Nat) : Int); exact hz1)
  have q := q y hy _ ((((((s0.trans (s1a.trans s1)).trans (s2a.trans s2)).trans (s3a.trans s3)).trans (s4a.trans s4)).trans (s5a.trans s5)).trans (s6a.trans s6))
  walk_at "rd"
  try refine ⟨p6, _, _, _, rfl, rfl, SqL.of h6, ey, ?_⟩
  exact q
/-- a text that is no copy, and fit to be read -/
structure Nope (x : Str) : Prop where
  len : x.length ≤ 80000
  few : (wordsOf x).length ≤ 1000
  aw : ∀ y ∈ wordsOf x, AW y
  no : Cp.rdC (wordsOf x) = none
theorem len_eq (x : Str) : x.length = x.cps.toList.length := Array.length_toList.symm
theorem len_app (x y : Str) : (x ++ y).length = x.length + y.length := by
  rw [← show (x ++ y).cps.toList.length = (x ++ y).length from Array.length_toList, Lns.app_list, List.length_append]
  show x.cps.toList.length + y.cps.toList.length = _
  rw [show x.cps.toList.length = x.length from Array.length_toList, show y.cps.toList.length = y.length from Array.length_toList]
theorem empty_app (x : Str) : Str.ofString "" ++ x = x := by
  apply Lns.str_ext
  rw [Lns.app_list]
  rfl
theorem app_empty (x : Str) : x ++ Str.ofString "" = x := by
  apply Lns.str_ext
  rw [Lns.app_list]
  exact List.append_nil _
/-- a text by its words -/
structure Ws (z : Str) (ws : List Str) : Prop where
  e : z = Lns.lineT ws
  ne : ws ≠ []
  bl : ∀ p ∈ ws, 32 ∉ p.cps.toList
  as : ∀ p ∈ ws, ∀ c ∈ p.cps.toList, c < 128
theorem Ws.app {x y : Str} {a b : List Str} (h : Ws x a) (h2 : Ws y b) : Ws (x ++ " " ++ y) (a ++ b) := by
  refine ⟨by rw [Cp.line_app h.ne h2.ne, ← h.e, ← h2.e], fun z => h.ne (List.append_eq_nil_iff.mp z).1, fun p hp => ?_, fun p hp => ?_⟩
  · rcases List.mem_append.mp hp with q | q
    · exact h.bl p q
    · exact h2.bl p q
  · rcases List.mem_append.mp hp with q | q
    · exact h.as p q
    · exact h2.as p q
theorem Ws.of {y : Str} (h : ∀ c ∈ y.cps.toList, c < 128) : Ws y (Txt.split y " ") := ⟨(Cp.line_split y).symm, Lns.split_ne _ _, StrLaws.split_free y 32, Cp.split_signs h⟩
theorem Ws.words {z : Str} {ws : List Str} (h : Ws z ws) (hz : z ≠ "") : wordsOf z = ws := by
  unfold wordsOf
  rw [if_neg hz, h.e, Lns.lineT_join]
  exact Lns.split_join 32 h.ne h.bl
theorem Ws.nope {z : Str} {ws : List Str} (h : Ws z ws) (hz : z ≠ "") (hl : z.length ≤ 80000) (hw : ws.length ≤ 1000) (hr : Cp.rdC ws = none) : Nope z := by
  have e := h.words hz
  refine ⟨hl, by rw [e]; exact hw, fun y hy => ?_, by rw [e]; exact hr⟩
  rw [e] at hy
  refine ⟨?_, h.as y hy⟩
  have h1 := Cp.line_mem hy
  rw [← h.e] at h1
  rw [show y.cps.toList.length = y.length from Array.length_toList]
  omega
theorem app_ne {x y : Str} (h : 1 ≤ x.length) : x ++ y ≠ "" := fun z => by
  have := len_app x y
  rw [z] at this
  have h0 : (Str.ofString "").length = 0 := by decide +kernel
  omega
theorem text_nil {d : Nat} {js : List (Jb.Job d)} (g : ∀ j ∈ js, Jb.GoodJ d j) : Cp.textOf d js = "" ↔ js = [] := by
  constructor
  · intro h
    apply Classical.byContradiction
    intro hne
    exact Cp.line_ne (fun z => hne (Cp.tells_nil z)) (Cp.tw_jobs g) h
  · intro h
    subst h
    rfl
theorem words_text {js : List (Jb.Job 4)} (g : ∀ j ∈ js, Jb.GoodJ 4 j) : wordsOf (Cp.textOf 4 js) = Cp.tells 4 js := by
  unfold wordsOf
  by_cases h : js = []
  · subst h
    rw [if_pos ((text_nil g).mpr rfl)]
    rfl
  · rw [if_neg (fun z => h ((text_nil g).mp z))]
    exact Cp.split_tells (fun z => h (Cp.tells_nil z)) (Cp.tw_jobs g)
theorem Ws.text {js : List (Jb.Job 4)} (g : ∀ j ∈ js, Jb.GoodJ 4 j) (hne : js ≠ []) : Ws (Cp.textOf 4 js) (Cp.tells 4 js) :=
  ⟨rfl, fun z => hne (Cp.tells_nil z), fun p hp z => ((Cp.tw_jobs g p hp).as 32 z).2 rfl, fun p hp c hc => ((Cp.tw_jobs g p hp).as c hc).1⟩
theorem textOf_len {js : List (Jb.Job 4)} (g : ∀ j ∈ js, Jb.GoodJ 4 j) (hl : (Cp.tells 4 js).length ≤ 500) : (Cp.textOf 4 js).length ≤ 6500 := by
  have h1 := Cp.line_len (Cp.tw_jobs g)
  rw [len_eq]
  show (Lns.lineT _).cps.toList.length ≤ _
  omega
/-- what is asked of each of the odd texts -/
def oddOk (y : Str) : Bool := decide (1 ≤ y.length) && decide (y.length ≤ 90) && (y.cps.toList.all fun c => decide (c < 128)) && decide ((Txt.split y " ").length ≤ 60) && (Cp.rdC (Txt.split y " ")).isNone && (Cp.rdC ([Str.ofString "3", Str.ofString "times", Str.ofString "("] ++ (Txt.split y " " ++ [Str.ofString ")"]))).isNone && Cp.odd11 (Txt.split y " ")
structure Odd (y : Str) : Prop where
  l1 : 1 ≤ y.length
  l2 : y.length ≤ 90
  as : ∀ c ∈ y.cps.toList, c < 128
  few : (Txt.split y " ").length ≤ 60
  no : Cp.rdC (Txt.split y " ") = none
  in3 : Cp.rdC ([Str.ofString "3", Str.ofString "times", Str.ofString "("] ++ (Txt.split y " " ++ [Str.ofString ")"])) = none
  in2 : Cp.odd11 (Txt.split y " ") = true
theorem Odd.of {y : Str} (h : oddOk y = true) : Odd y := by
  unfold oddOk at h
  simp only [Bool.and_eq_true, decide_eq_true_iff, Option.isNone_iff_eq_none, List.all_eq_true] at h
  obtain ⟨⟨⟨⟨⟨⟨h1, h2⟩, h3⟩, h4⟩, h5⟩, h6⟩, h7⟩ := h
  exact ⟨h1, h2, h3, h4, h5, h6, h7⟩
theorem odA_ok : (odA.all oddOk) = true := by decide +kernel
theorem odB_ok : (odB.all oddOk) = true := by decide +kernel
theorem odA_odd {y : Str} (h : y ∈ odA) : Odd y := .of (List.all_eq_true.mp odA_ok y h)
theorem odB_odd {y : Str} (h : y ∈ odB) : Odd y := .of (List.all_eq_true.mp odB_ok y h)
theorem Odd.ne {y : Str} (h : Odd y) : y ≠ "" := fun z => by
  have := h.l1
  rw [z] at this
  exact absurd this (by decide +kernel)
theorem Odd.nope {y : Str} (h : Odd y) : Nope y := (Ws.of h.as).nope h.ne (by have := h.l2; omega) (by have := h.few; omega) h.no
theorem ws_lit {y : Str} {ws : List Str} (h : (decide (y = Lns.lineT ws) && decide (ws ≠ []) && ws.all fun p => p.cps.toList.all fun c => decide (c < 128) && decide (c ≠ 32)) = true) : Ws y ws := by
  simp only [Bool.and_eq_true, decide_eq_true_iff, List.all_eq_true] at h
  exact ⟨h.1.1, h.1.2, fun p hp z => (h.2 p hp 32 z).2 rfl, fun p hp c hc => (h.2 p hp c hc).1⟩
theorem in3_nope {y : Str} (h : Odd y) : Nope (Str.ofString "3 times ( " ++ y ++ Str.ofString " )") := by
  have h1 : Ws (Str.ofString "3 times (") [Str.ofString "3", Str.ofString "times", Str.ofString "("] := ws_lit (by decide +kernel)
  have h2 : Ws (Str.ofString ")") [Str.ofString ")"] := ws_lit (by decide +kernel)
  have h3 := (h1.app ((Ws.of h.as).app h2))
  have e : Str.ofString "3 times (" ++ " " ++ (y ++ " " ++ Str.ofString ")") = Str.ofString "3 times ( " ++ y ++ Str.ofString " )" := by
    have e1 : Str.ofString "3 times ( " = Str.ofString "3 times (" ++ Str.ofString " " := by decide +kernel
    have e2 : Str.ofString " )" = Str.ofString " " ++ Str.ofString ")" := by decide +kernel
    rw [e1, e2]
    simp only [Str.append_assoc]
  rw [e] at h3
  have l := h.l2
  have f := h.few
  refine h3.nope ?_ ?_ ?_ h.in3
  · rw [Str.append_assoc]
    exact app_ne (by decide +kernel)
  · rw [len_app, len_app]
    have k1 : (Str.ofString "3 times ( ").length = 10 := by decide +kernel
    have k2 : (Str.ofString " )").length = 2 := by decide +kernel
    omega
  · rw [List.length_append, List.length_append]
    show 3 + (_ + 1) ≤ 1000
    omega
section
variable {js : List (Jb.Job 4)} (g : ∀ j ∈ js, Jb.GoodJ 4 j) (hne : js ≠ []) (hl : (Cp.tells 4 js).length ≤ 500)
include g hne hl
theorem tx_pos : 1 ≤ (Cp.textOf 4 js).length := by
  have h : Cp.textOf 4 js ≠ "" := fun z => hne ((text_nil g).mp z)
  cases e : (Cp.textOf 4 js).length with
  | zero =>
    exfalso
    apply h
    exact str_nil (by rw [e]; rfl)
  | succ n => omega
theorem behind_nope {y : Str} {ws : List Str} (h : Ws y ws) (hy : y.length ≤ 90) (hw : ws.length ≤ 60) (hr : Cp.rdC ws = none) : Nope (Cp.textOf 4 js ++ " " ++ y) := by
  have l := textOf_len g hl
  refine ((Ws.text g hne).app h).nope ?_ ?_ ?_ (Cp.rdC_app g hr)
  · rw [Str.append_assoc]
    exact app_ne (tx_pos g hne hl)
  · rw [len_app, len_app]
    have k1 : (Str.ofString " ").length = 1 := by decide +kernel
    omega
  · rw [List.length_append]
    omega
theorem nope0 : Nope (Cp.textOf 4 js ++ Str.ofString " ") := by
  have := behind_nope g hne hl (y := Str.ofString "") (ws := [Str.ofString ""]) (ws_lit (by decide +kernel)) (by decide +kernel) (by decide) (by
    have : (Cp.rdC [Str.ofString ""]).isNone = true := by decide +kernel
    exact Option.isNone_iff_eq_none.mp this)
  rw [app_empty] at this
  exact this
theorem nope1 : Nope (Str.ofString " " ++ Cp.textOf 4 js) := by
  have l := textOf_len g hl
  have h := (ws_lit (y := Str.ofString "") (ws := [Str.ofString ""]) (by decide +kernel)).app (Ws.text g hne)
  rw [empty_app] at h
  refine h.nope (app_ne (by decide +kernel)) ?_ ?_ (Cp.rdC_head (by decide +kernel) ?_)
  · rw [len_app]
    have k1 : (Str.ofString " ").length = 1 := by decide +kernel
    omega
  · rw [List.length_append]
    show 1 + _ ≤ _
    omega
  · show (decide (Str.ofString "" = Str.ofString "measure") || decide (Str.ofString "" = Str.ofString "gaps") || decide (Str.ofString "" = Str.ofString "set")) = false
    decide +kernel
theorem nope2 : Nope (Txt.replace (Cp.textOf 4 js) (Str.ofString " ") (Str.ofString "  ")) := by
  have l := textOf_len g hl
  have e : Txt.replace (Cp.textOf 4 js) (Str.ofString " ") (Str.ofString "  ") = Lns.lineT (Cp.dbl (Cp.tells 4 js)) := by
    have e1 : Str.ofString " " = ⟨#[32]⟩ := by decide +kernel
    have e2 : Str.ofString "  " = ⟨#[32, 32]⟩ := by decide +kernel
    have e3 : Txt.split (Cp.textOf 4 js) " " = Cp.tells 4 js := Cp.split_tells (fun z => hne (Cp.tells_nil z)) (Cp.tw_jobs g)
    rw [e1] at e3
    rw [e1, e2, StrLaws.replace_one, e3, Cp.dbl_line]
  have W := Ws.text g hne
  have hm : ∀ p ∈ Cp.dbl (Cp.tells 4 js), 32 ∉ p.cps.toList ∧ ∀ c ∈ p.cps.toList, c < 128 := fun p hp => by
    rcases Cp.dbl_mem hp with q | q
    · exact ⟨W.bl p q, W.as p q⟩
    · rw [q]; exact ⟨by decide +kernel, by decide +kernel⟩
  obtain ⟨a, b, r, et⟩ := Cp.tells_two hne
  have hd2 : Cp.dbl (Cp.tells 4 js) = a :: Str.ofString "" :: Cp.dbl (b :: r) := by rw [et]; rfl
  have hw : Ws (Txt.replace (Cp.textOf 4 js) (Str.ofString " ") (Str.ofString "  ")) (Cp.dbl (Cp.tells 4 js)) := ⟨e, by rw [hd2]; exact List.cons_ne_nil _ _, fun p hp => (hm p hp).1, fun p hp => (hm p hp).2⟩
  have ha : 1 ≤ a.length := by
    have := (Cp.tw_jobs g a (by rw [et]; exact List.mem_cons_self)).l1
    rw [show a.cps.toList.length = a.length from Array.length_toList] at this
    exact this
  have hdl := Cp.dbl_len (Cp.tells 4 js)
  have hsum : ∀ ws : List Str, (∀ x ∈ ws, x.length ≤ 12) → (ws.map (·.length)).sum ≤ 12 * ws.length := by
    intro ws
    induction ws with
    | nil => exact fun _ => Nat.le_refl _
    | cons x ws ih =>
      intro h
      have h1 := h x List.mem_cons_self
      have h2 := ih fun y hy => h y (List.mem_cons_of_mem _ hy)
      rw [List.map_cons, List.sum_cons, List.length_cons]
      omega
  refine hw.nope ?_ ?_ (by omega) (Cp.rdC_dbl hne)
  · rw [e, hd2, Cp.line_cons a (List.cons_ne_nil _ _), Str.append_assoc]
    exact app_ne ha
  · have h1 := Cp.line_sum hw.ne
    have h2 := hsum (Cp.dbl (Cp.tells 4 js)) fun x hx => by
      rcases Cp.dbl_mem hx with q | q
      · have := (Cp.tw_jobs g x q).l2
        rw [show x.cps.toList.length = x.length from Array.length_toList] at this
        exact this
      · rw [q]; decide +kernel
    rw [e]
    omega
theorem nope5 : Nope (Str.ofString "2 times ( " ++ Cp.textOf 4 js) := by
  have l := textOf_len g hl
  have h := (ws_lit (y := Str.ofString "2 times (") (ws := [Str.ofString "2", Str.ofString "times", Str.ofString "("]) (by decide +kernel)).app (Ws.text g hne)
  rw [show Str.ofString "2 times (" ++ Str.ofString " " = Str.ofString "2 times ( " by decide +kernel] at h
  refine h.nope (app_ne (by decide +kernel)) ?_ ?_ (Cp.rdC_open g (by decide +kernel))
  · rw [len_app]
    have k1 : (Str.ofString "2 times ( ").length = 10 := by decide +kernel
    omega
  · rw [List.length_append]
    show 3 + _ ≤ _
    omega
theorem nope6 : Nope (Str.ofString "( " ++ Cp.textOf 4 js ++ Str.ofString " )") := by
  have l := textOf_len g hl
  have h := (ws_lit (y := Str.ofString "(") (ws := [Str.ofString "("]) (by decide +kernel)).app ((Ws.text g hne).app (ws_lit (y := Str.ofString ")") (ws := [Str.ofString ")"]) (by decide +kernel)))
  have e : Str.ofString "(" ++ " " ++ (Cp.textOf 4 js ++ " " ++ Str.ofString ")") = Str.ofString "( " ++ Cp.textOf 4 js ++ Str.ofString " )" := by
    have e1 : Str.ofString "( " = Str.ofString "(" ++ Str.ofString " " := by decide +kernel
    have e2 : Str.ofString " )" = Str.ofString " " ++ Str.ofString ")" := by decide +kernel
    rw [e1, e2]
    simp only [Str.append_assoc]
  rw [e] at h
  refine h.nope ?_ ?_ ?_ (Cp.rdC_head (by decide +kernel) ?_)
  · rw [Str.append_assoc]
    exact app_ne (by decide +kernel)
  · rw [len_app, len_app]
    have k1 : (Str.ofString "( ").length = 2 := by decide +kernel
    have k2 : (Str.ofString " )").length = 2 := by decide +kernel
    omega
  · rw [List.length_append, List.length_append]
    show 1 + (_ + 1) ≤ _
    omega
  · show (decide (Str.ofString "(" = Str.ofString "measure") || decide (Str.ofString "(" = Str.ofString "gaps") || decide (Str.ofString "(" = Str.ofString "set")) = false
    decide +kernel
theorem nope9 : Nope (Cp.textOf 4 js ++ Str.ofString ";") := by
  have l := textOf_len g hl
  have W := Ws.text g hne
  obtain ⟨us, x, et⟩ : ∃ a b, Cp.tells 4 js = a ++ [b] := ⟨_, _, (List.dropLast_concat_getLast W.ne).symm⟩
  have e : Cp.textOf 4 js ++ Str.ofString ";" = Lns.lineT (us ++ [x ++ Str.ofString ";"]) := by
    unfold Cp.textOf
    rw [et]
    by_cases hu : us = []
    · rw [hu]
      show Lns.lineT [x] ++ _ = Lns.lineT [x ++ _]
      rw [Cp.line_one, Cp.line_one]
    · rw [Cp.line_app hu (List.cons_ne_nil _ _), Cp.line_app hu (List.cons_ne_nil _ _), Cp.line_one, Cp.line_one]
      simp only [Str.append_assoc]
  have hx := fun p hp => W.bl p (by rw [et]; exact hp)
  have hx2 := fun p hp => W.as p (by rw [et]; exact hp)
  have hw : Ws (Cp.textOf 4 js ++ Str.ofString ";") (us ++ [x ++ Str.ofString ";"]) := by
    refine ⟨e, fun z => absurd (List.append_eq_nil_iff.mp z).2 (List.cons_ne_nil _ _), fun p hp => ?_, fun p hp c hc => ?_⟩
    · rcases List.mem_append.mp hp with q | q
      · exact hx p (List.mem_append_left _ q)
      · rw [List.mem_singleton.mp q, Lns.app_list]
        intro z
        rcases List.mem_append.mp z with y | y
        · exact hx x (List.mem_append_right _ List.mem_cons_self) y
        · revert y; decide +kernel
    · rcases List.mem_append.mp hp with q | q
      · exact hx2 p (List.mem_append_left _ q) c hc
      · rw [List.mem_singleton.mp q, Lns.app_list] at hc
        rcases List.mem_append.mp hc with y | y
        · exact hx2 x (List.mem_append_right _ List.mem_cons_self) c y
        · have y : c ∈ [59] := y
          rw [List.mem_singleton.mp y]
          decide
  have hlw : us.length + 1 ≤ 500 := by rw [et, List.length_append] at hl; exact hl
  refine hw.nope (app_ne (tx_pos g hne hl)) ?_ ?_ (Cp.rdC_semi g et (Cp.bad_semi x))
  · rw [len_app]
    have k1 : (Str.ofString ";").length = 1 := by decide +kernel
    omega
  · rw [List.length_append]
    show _ + 1 ≤ _
    omega
theorem nope11 {y : Str} (h : Odd y) : Nope (Str.ofString "2 times ( " ++ Cp.textOf 4 js ++ Str.ofString " " ++ y ++ Str.ofString " )") := by
  have l := textOf_len g hl
  have l2 := h.l2
  have f := h.few
  have h3 := (ws_lit (y := Str.ofString "2 times (") (ws := [Str.ofString "2", Str.ofString "times", Str.ofString "("]) (by decide +kernel)).app ((Ws.text g hne).app ((Ws.of h.as).app (ws_lit (y := Str.ofString ")") (ws := [Str.ofString ")"]) (by decide +kernel))))
  have e : Str.ofString "2 times (" ++ " " ++ (Cp.textOf 4 js ++ " " ++ (y ++ " " ++ Str.ofString ")")) = Str.ofString "2 times ( " ++ Cp.textOf 4 js ++ Str.ofString " " ++ y ++ Str.ofString " )" := by
    have e1 : Str.ofString "2 times ( " = Str.ofString "2 times (" ++ Str.ofString " " := by decide +kernel
    have e2 : Str.ofString " )" = Str.ofString " " ++ Str.ofString ")" := by decide +kernel
    rw [e1, e2]
    simp only [Str.append_assoc]
  rw [e] at h3
  refine h3.nope ?_ ?_ ?_ (Cp.rdC_odd11 g (by decide +kernel) h.in2)
  · simp only [Str.append_assoc]
    exact app_ne (by decide +kernel)
  · rw [len_app, len_app, len_app, len_app]
    have k1 : (Str.ofString "2 times ( ").length = 10 := by decide +kernel
    have k2 : (Str.ofString " )").length = 2 := by decide +kernel
    have k3 : (Str.ofString " ").length = 1 := by decide +kernel
    omega
  · rw [List.length_append, List.length_append, List.length_append]
    show 3 + (_ + (_ + 1)) ≤ 1000
    omega
/-- some fixed words behind the text -/
theorem tail_nope {y : Str} {ws : List Str} (h : (decide (Str.ofString " " ++ Lns.lineT ws = y) && decide (ws ≠ []) && (ws.all fun p => p.cps.toList.all fun c => decide (c < 128) && decide (c ≠ 32)) && decide ((Lns.lineT ws).length ≤ 90) && decide (ws.length ≤ 60) && (Cp.rdC ws).isNone) = true) : Nope (Cp.textOf 4 js ++ y) := by
  simp only [Bool.and_eq_true, decide_eq_true_iff, Option.isNone_iff_eq_none, List.all_eq_true] at h
  obtain ⟨⟨⟨⟨⟨h1, h2⟩, h3⟩, h4⟩, h5⟩, h6⟩ := h
  have hw : Ws (Lns.lineT ws) ws := ⟨rfl, h2, fun p hp z => (h3 p hp 32 z).2 rfl, fun p hp c hc => (h3 p hp c hc).1⟩
  have := behind_nope g hne hl hw h4 h5 h6
  rw [← h1, ← Str.append_assoc]
  exact this
end
def sp_law_refused : Sp := fun vs H Q _ => ∃ (x : Str), vs = [.str x] ∧ Nope x ∧ ∀ H', Same H H' → Q (.bl true) H'
theorem ok_law_refused (T : Tx K mg a) : FnOk P w K mg base CX0 19 a.f_law_refused a.d_law_refused ["_law_text"] sp_law_refused := by
  have G_read_copy := ok_read_copy (P := P) (w := w) (base := base) T
  have G_law_kinds := ok_law_kinds (P := P) (w := w) (base := base) T
  refine T.law_refused.fn.ok sc_law_refused (fun vs H Q E h => ?_) (fun cdv A outer s H vs Q E hr h => ?_)
  · obtain ⟨x, rfl, _⟩ := h
    rfl
  obtain ⟨x, rfl, N, q⟩ := h
  have hno := N.no
  refine ⟨_, (pss_cons (ps_set (i := 1) sc_law_refused.nd rfl (Or.inl rfl) pe_bl)
      (pss_cons (ps_cut (ps_try rfl (fun _ _ => (pss_one (ps_expr (pcallX T.read_copy G_read_copy hr rfl rfl (pa_cons (pv 0) pa_nil))))) (fun _ => (kph_cons K rfl (i := 2) rfl T.cl_NoCopy.mg T.cl_NoCopy.cls sc_law_refused.nd rfl rfl (fun _ => (pss_one (ps_set (i := 1) sc_law_refused.nd rfl (Or.inl rfl) (pcallH T.law_kinds G_law_kinds (hr.h _) rfl (pa_cons (pv 2) pa_nil))))) ph_nil))))
      (pss_one (ps_ret (pv 1))))), ?_⟩
  walk_at "rd"
  refine ⟨fun σ H2 => ∃ (v4 : Option V), σ = [some (.str x), some (.bl true), v4] ∧ Same H H2, ?_, ?_⟩
  · walk_at "rd"
    refine ⟨N.len, N.few, N.aw, fun js e1 => ?_, fun e1 H2 hs2 => ?_⟩
    · rw [hno] at e1
      cases e1
    · refine ⟨a.c_NoCopy, none, true, rfl, T.cl_NoCopy.cls, T.m_NoCopy_NoCopy, iteT ?_⟩
      intro e he0
      have he1 : upd H2 e (XE e a.c_NoCopy none) e = some (XE e a.c_NoCopy none) := upd_same
      have hs4 : Same H (upd H2 e (XE e a.c_NoCopy none)) := same_add hs2 he0
      generalize upd H2 e (XE e a.c_NoCopy none) = H4 at he1 hs4 ⊢
      walk_at "rd"
      intro H5 hs5
      first | exact hs4.trans hs5 | exact ⟨_, rfl, hs4.trans hs5⟩
  · rintro σ H2 ⟨v4, rfl, hs2⟩
    walk_at "rd"
    exact q _ hs2
theorem two_odd {ya yb : Str} (ha : ya ∈ odA) (hb : yb ∈ odB) {z : Int} (h0 : 0 ≤ z) (h1 : z < 2) : ∃ y, Odd y ∧ atI [V.str ya, V.str yb] z = some (.str y) := by
  obtain ⟨y, hy, e⟩ := at_str [ya, yb] h0 h1
  refine ⟨y, ?_, e⟩
  rcases List.mem_cons.mp hy with q | q
  · rw [q]; exact odA_odd ha
  · rw [List.mem_singleton.mp q]; exact odB_odd hb
def sp_law_spoiled : Sp := fun vs H Q _ => ∃ (js : List (Jb.Job 4)) (n : Int), vs = [.str (Cp.textOf 4 js), .int n] ∧ (∀ j ∈ js, Jb.GoodJ 4 j) ∧ (Cp.tells 4 js).length ≤ 500 ∧ ∀ z, Nope z → ∀ H', Same H H' → Q (.str z) H'
theorem ok_law_spoiled (T : Tx K mg a) : FnOk P w K mg base CX0 2 a.f_law_spoiled a.d_law_spoiled ["_law_text", "_law_number"] sp_law_spoiled := by
  have G_law_odd := ok_law_odd (P := P) (w := w) (base := base) T
  have G_law_odd_too := ok_law_odd_too (P := P) (w := w) (base := base) T
  refine T.law_spoiled.fn.ok sc_law_spoiled (fun vs H Q E h => ?_) (fun cdv A outer s H vs Q E hr h => ?_)
  · obtain ⟨js, n, rfl, _⟩ := h
    rfl
  obtain ⟨js, n, rfl, g, hl, q⟩ := h
  have ev : ∀ x y : Str, decide (V.str x = V.str y) = decide (x = y) := fun x y => Cs.strV
  have htl := textOf_len g hl
  have m0 := Int.emod_nonneg (n / 129) (show (2 : Int) ≠ 0 by decide)
  have m1 := Int.emod_lt_of_pos (n / 129) (show (0 : Int) < 2 by decide)
  have k0 := Int.emod_nonneg (n / 1638) (show (2 : Int) ≠ 0 by decide)
  have k1 := Int.emod_lt_of_pos (n / 1638) (show (0 : Int) < 2 by decide)
  have alone : ∀ H', Same H H' → ∀ y, Odd y → Q (.str y) H' := fun H' s y h => q y h.nope H' s
  have hnil := text_nil g
  have hbn : js ≠ [] → ∀ y, Odd y → Nope (Cp.textOf 4 js ++ Str.ofString " " ++ y) := fun hne y h => behind_nope g hne hl (Ws.of h.as) h.l2 h.few h.no
  have hall : js ≠ [] → ∀ y, Odd y → ∀ z ∈ ([Cp.textOf 4 js ++ Str.ofString " ", Str.ofString " " ++ Cp.textOf 4 js, Txt.replace (Cp.textOf 4 js) (Str.ofString " ") (Str.ofString "  "), Cp.textOf 4 js ++ Str.ofString " )", Cp.textOf 4 js ++ Str.ofString " 2 times (", Str.ofString "2 times ( " ++ Cp.textOf 4 js] ++ [Str.ofString "( " ++ Cp.textOf 4 js ++ Str.ofString " )", Cp.textOf 4 js ++ Str.ofString " set", Cp.textOf 4 js ++ Str.ofString " measure", Cp.textOf 4 js ++ Str.ofString ";"]) ++ [Str.ofString "3 times ( " ++ y ++ Str.ofString " )", Str.ofString "2 times ( " ++ Cp.textOf 4 js ++ Str.ofString " " ++ y ++ Str.ofString " )"], Nope z := fun hne y hy z hz => by
    have nope3 : Nope (Cp.textOf 4 js ++ Str.ofString " )") := tail_nope g hne hl (ws := [Str.ofString ")"]) (by decide +kernel)
    have nope4 : Nope (Cp.textOf 4 js ++ Str.ofString " 2 times (") := tail_nope g hne hl (ws := [Str.ofString "2", Str.ofString "times", Str.ofString "("]) (by decide +kernel)
    have nope7 : Nope (Cp.textOf 4 js ++ Str.ofString " set") := tail_nope g hne hl (ws := [Str.ofString "set"]) (by decide +kernel)
    have nope8 : Nope (Cp.textOf 4 js ++ Str.ofString " measure") := tail_nope g hne hl (ws := [Str.ofString "measure"]) (by decide +kernel)
    simp only [List.cons_append, List.nil_append, List.mem_cons, List.not_mem_nil, or_false] at hz
    rcases hz with e | e | e | e | e | e | e | e | e | e | e | e <;> rw [e]
    · exact nope0 g hne hl
    · exact nope1 g hne hl
    · exact nope2 g hne hl
    · exact nope3
    · exact nope4
    · exact nope5 g hne hl
    · exact nope6 g hne hl
    · exact nope7
    · exact nope8
    · exact nope9 g hne hl
    · exact in3_nope hy
    · exact nope11 g hne hl hy
  generalize Cp.textOf 4 js = tx at htl hnil hbn hall ⊢
  refine ⟨_, (pss_cons (ps_if (PW.pt (pw_or (pt_cmpR op_eq (pe_op op_mod (pv 1) pe_int) pe_int (nomark _)) (pw_or1 (pt_cmpR op_eq (pv 0) pe_str (nomark _))))) (pss_one (ps_ret (pe_ix (kix_list K rfl) (pe_lst (pa_cons (pcall T.law_odd G_law_odd hr rfl (pa_cons (pe_op op_fdiv (pv 1) pe_int) pa_nil)) (pa_cons (pcall T.law_odd_too G_law_odd_too hr rfl (pa_cons (pe_op op_fdiv (pv 1) pe_int) pa_nil)) pa_nil))) (pe_op op_mod (pe_op op_fdiv (pv 1) pe_int) pe_int) (fun _ _ => rfl)))) pss_nil)
      (pss_cons (ps_if (pt_cmpR op_eq (pe_op op_mod (pv 1) pe_int) pe_int (nomark _)) (pss_one (ps_ret (pe_op op_add_str (pe_op op_add_str (pv 0) pe_str) (pe_ix (kix_list K rfl) (pe_lst (pa_cons (pcall T.law_odd G_law_odd hr rfl (pa_cons (pe_op op_fdiv (pv 1) pe_int) pa_nil)) (pa_cons (pcall T.law_odd_too G_law_odd_too hr rfl (pa_cons (pe_op op_fdiv (pv 1) pe_int) pa_nil)) pa_nil))) (pe_op op_mod (pe_op op_fdiv (pv 1) pe_int) pe_int) (fun _ _ => rfl))))) pss_nil)
      (pss_cons (ps_set (i := 2) sc_law_spoiled.nd rfl (Or.inl rfl) (pe_ix (kix_list K rfl) (pe_lst (pa_cons (pcall T.law_odd G_law_odd hr rfl (pa_cons (pe_op op_fdiv (pv 1) pe_int) pa_nil)) (pa_cons (pcall T.law_odd_too G_law_odd_too hr rfl (pa_cons (pe_op op_fdiv (pv 1) pe_int) pa_nil)) pa_nil))) (pe_op op_mod (pe_op op_fdiv (pv 1) pe_int) pe_int) (fun _ _ => rfl)))
      (pss_cons (ps_set (i := 3) sc_law_spoiled.nd rfl (Or.inl rfl) (pe_lst (pa_cons (pe_op op_add_str (pv 0) pe_str) (pa_two (pe1_add 0) (pe2_repl (K := K) 0) (pa_cons (pe_op op_add_str (pv 0) pe_str) (pa_cons (pe_op op_add_str (pv 0) pe_str) (pa_cons (pe_op op_add_str pe_str (pv 0)) pa_nil)))))))
      (pss_cons (ps_set (i := 3) sc_law_spoiled.nd rfl (Or.inl rfl) (pe_op op_cat (pv 3) (pe_lst (pa_cons (pe_op op_add_str (pe_op op_add_str pe_str (pv 0)) pe_str) (pa_cons (pe_op op_add_str (pv 0) pe_str) (pa_cons (pe_op op_add_str (pv 0) pe_str) (pa_cons (pe_op op_add_str (pv 0) pe_str) pa_nil)))))))
      (pss_one (ps_ret (pe_ix (kix_list K rfl) (pe_op op_cat (pv 3) (pe_lst (pa_cons (pe_op op_add_str (pe_op op_add_str pe_str (pv 2)) pe_str) (pa_cons (pe_op op_add_str (pe_op op_add_str (pe_op op_add_str (pe_op op_add_str pe_str (pv 0)) pe_str) (pv 2)) pe_str) pa_nil)))) (pe_op op_mod (pe_op op_fdiv (pv 1) pe_int) pe_int) (fun _ _ => rfl))))))))), ?_⟩
  walk_at "rd"
  refine ite2 (fun _ => ?_) (fun _ => ?_)
  · try refine iteT ?_
    walk_at "rd"
    intro ya hya H1 s1
    walk_at "rd"
    intro yb hyb H2 s2
    walk_at "rd"
    intro p hp
    obtain ⟨y, hy, ey⟩ := two_odd hya hyb m0 m1
    have sp := same_new hp (.lst [V.str ya, V.str yb])
    have hpp : upd H2 p (.lst [V.str ya, V.str yb]) p = some (.lst [V.str ya, V.str yb]) := upd_same
    generalize upd H2 p (.lst [V.str ya, V.str yb]) = H3 at sp hpp ⊢
    walk_at "rd"
    try refine ⟨p, _, _, _, rfl, rfl, SqL.of hpp, ey, ?_⟩
    exact alone _ (s1.trans (s2.trans sp)) y hy
  walk_at "rd"
  rw [ev]
  by_cases hne : tx = ""
  · rw [decide_eq_true hne]
    try refine iteT ?_
    walk_at "rd"
    intro ya hya H1 s1
    walk_at "rd"
    intro yb hyb H2 s2
    walk_at "rd"
    intro p hp
    obtain ⟨y, hy, ey⟩ := two_odd hya hyb m0 m1
    have sp := same_new hp (.lst [V.str ya, V.str yb])
    have hpp : upd H2 p (.lst [V.str ya, V.str yb]) p = some (.lst [V.str ya, V.str yb]) := upd_same
    generalize upd H2 p (.lst [V.str ya, V.str yb]) = H3 at sp hpp ⊢
    walk_at "rd"
    try refine ⟨p, _, _, _, rfl, rfl, SqL.of hpp, ey, ?_⟩
    exact alone _ (s1.trans (s2.trans sp)) y hy
  rw [decide_eq_false hne]
  have hne : js ≠ [] := fun z => hne (hnil.mpr z)
  have hbn := hbn hne
  try refine iteF ?_
  walk_at "rd"
  refine ite2 (fun _ => ?_) (fun _ => ?_)
  · have kb : (Str.ofString " ").length = 1 := by decide +kernel
    walk_at "rd"
    refine ⟨smallL (by omega), ?_⟩
    have kc : (tx ++ Str.ofString " ").length ≤ 6501 := by rw [len_app]; omega
    walk_at "rd"
    intro ya hya H1 s1
    walk_at "rd"
    intro yb hyb H2 s2
    walk_at "rd"
    intro p hp
    obtain ⟨y, hy, ey⟩ := two_odd hya hyb m0 m1
    have sp := same_new hp (.lst [V.str ya, V.str yb])
    have hpp : upd H2 p (.lst [V.str ya, V.str yb]) p = some (.lst [V.str ya, V.str yb]) := upd_same
    generalize upd H2 p (.lst [V.str ya, V.str yb]) = H3 at sp hpp ⊢
    walk_at "rd"
    try refine ⟨p, _, _, _, rfl, rfl, SqL.of hpp, ey, ?_⟩
    have hyl := hy.l2
    refine ⟨smallL (by omega), ?_⟩
    exact q _ (hbn y hy) _ (s1.trans (s2.trans sp))
  walk_at "rd"
  intro ya hya H1 s1
  walk_at "rd"
  intro yb hyb H2 s2
  walk_at "rd"
  intro p hp
  obtain ⟨y, hy, ey⟩ := two_odd hya hyb k0 k1
  have sp := same_new hp (.lst [V.str ya, V.str yb])
  have hpp : upd H2 p (.lst [V.str ya, V.str yb]) p = some (.lst [V.str ya, V.str yb]) := upd_same
  generalize upd H2 p (.lst [V.str ya, V.str yb]) = H3 at sp hpp ⊢
  walk_at "rd"
  try refine ⟨p, _, _, _, rfl, rfl, SqL.of hpp, ey, ?_⟩
  have s03 := s1.trans (s2.trans sp)
  have hyl := hy.l2
  have hall := hall hne y hy
  have q0 : (Str.ofString " ").length = 1 := by decide +kernel
  have q1 : (Str.ofString " )").length = 2 := by decide +kernel
  have q2 : (Str.ofString " 2 times (").length = 10 := by decide +kernel
  have q3 : (Str.ofString "2 times ( ").length = 10 := by decide +kernel
  have q4 : (Str.ofString "( ").length = 2 := by decide +kernel
  have q5 : (Str.ofString " set").length = 4 := by decide +kernel
  have q6 : (Str.ofString " measure").length = 8 := by decide +kernel
  have q7 : (Str.ofString ";").length = 1 := by decide +kernel
  have q8 : (Str.ofString "3 times ( ").length = 10 := by decide +kernel
  walk_at "rd"
  refine ⟨smallL (by omega), ?_⟩
  walk_at "rd"
  refine ⟨smallL (by omega), ?_⟩
  walk_at "rd"
  try refine ⟨rfl, ?_⟩
  walk_at "rd"
  refine ⟨_, _, _, rfl, rfl, by decide +kernel, by omega, by decide +kernel, ?_⟩
  walk_at "rd"
  refine ⟨smallL (by omega), ?_⟩
  walk_at "rd"
  refine ⟨smallL (by omega), ?_⟩
  walk_at "rd"
  refine ⟨smallL (by omega), ?_⟩
  walk_at "rd"
  intro p1 hp1
  have t1 := same_new hp1 (.lst [V.str (tx ++ Str.ofString " "), V.str (Str.ofString " " ++ tx), V.str (Txt.replace tx (Str.ofString " ") (Str.ofString "  ")), V.str (tx ++ Str.ofString " )"), V.str (tx ++ Str.ofString " 2 times ("), V.str (Str.ofString "2 times ( " ++ tx)])
  have g1 : upd H3 p1 (.lst [V.str (tx ++ Str.ofString " "), V.str (Str.ofString " " ++ tx), V.str (Txt.replace tx (Str.ofString " ") (Str.ofString "  ")), V.str (tx ++ Str.ofString " )"), V.str (tx ++ Str.ofString " 2 times ("), V.str (Str.ofString "2 times ( " ++ tx)]) p1 = some (.lst (List.map V.str [tx ++ Str.ofString " ", Str.ofString " " ++ tx, Txt.replace tx (Str.ofString " ") (Str.ofString "  "), tx ++ Str.ofString " )", tx ++ Str.ofString " 2 times (", Str.ofString "2 times ( " ++ tx])) := upd_same
  generalize upd H3 p1 (.lst [V.str (tx ++ Str.ofString " "), V.str (Str.ofString " " ++ tx), V.str (Txt.replace tx (Str.ofString " ") (Str.ofString "  ")), V.str (tx ++ Str.ofString " )"), V.str (tx ++ Str.ofString " 2 times ("), V.str (Str.ofString "2 times ( " ++ tx)]) = H4 at t1 g1 ⊢
  have w1 : (Str.ofString "( " ++ tx).length ≤ 6502 := by rw [len_app]; omega
  walk_at "rd"
  refine ⟨smallL (by omega), ?_⟩
  walk_at "rd"
  refine ⟨smallL (by omega), ?_⟩
  walk_at "rd"
  refine ⟨smallL (by omega), ?_⟩
  walk_at "rd"
  refine ⟨smallL (by omega), ?_⟩
  walk_at "rd"
  refine ⟨smallL (by omega), ?_⟩
  walk_at "rd"
  intro p2 hp2
  have t2 := same_new hp2 (.lst [V.str (Str.ofString "( " ++ tx ++ Str.ofString " )"), V.str (tx ++ Str.ofString " set"), V.str (tx ++ Str.ofString " measure"), V.str (tx ++ Str.ofString ";")])
  have g2 : upd H4 p2 (.lst [V.str (Str.ofString "( " ++ tx ++ Str.ofString " )"), V.str (tx ++ Str.ofString " set"), V.str (tx ++ Str.ofString " measure"), V.str (tx ++ Str.ofString ";")]) p2 = some (.lst (List.map V.str [Str.ofString "( " ++ tx ++ Str.ofString " )", tx ++ Str.ofString " set", tx ++ Str.ofString " measure", tx ++ Str.ofString ";"])) := upd_same
  generalize upd H4 p2 (.lst [V.str (Str.ofString "( " ++ tx ++ Str.ofString " )"), V.str (tx ++ Str.ofString " set"), V.str (tx ++ Str.ofString " measure"), V.str (tx ++ Str.ofString ";")]) = H5 at t2 g2 ⊢
  refine ⟨p1, p2, _, _, rfl, rfl, t2 _ _ g1, g2, smallL (by show 6 + 4 ≤ _; decide), fun p3 hp3 => ?_⟩
  rw [← List.map_append]
  have t3 := same_new hp3 (.lst (List.map V.str ([tx ++ Str.ofString " ", Str.ofString " " ++ tx, Txt.replace tx (Str.ofString " ") (Str.ofString "  "), tx ++ Str.ofString " )", tx ++ Str.ofString " 2 times (", Str.ofString "2 times ( " ++ tx] ++ [Str.ofString "( " ++ tx ++ Str.ofString " )", tx ++ Str.ofString " set", tx ++ Str.ofString " measure", tx ++ Str.ofString ";"])))
  have g3 : upd H5 p3 (.lst (List.map V.str ([tx ++ Str.ofString " ", Str.ofString " " ++ tx, Txt.replace tx (Str.ofString " ") (Str.ofString "  "), tx ++ Str.ofString " )", tx ++ Str.ofString " 2 times (", Str.ofString "2 times ( " ++ tx] ++ [Str.ofString "( " ++ tx ++ Str.ofString " )", tx ++ Str.ofString " set", tx ++ Str.ofString " measure", tx ++ Str.ofString ";"]))) p3 = some (.lst (List.map V.str ([tx ++ Str.ofString " ", Str.ofString " " ++ tx, Txt.replace tx (Str.ofString " ") (Str.ofString "  "), tx ++ Str.ofString " )", tx ++ Str.ofString " 2 times (", Str.ofString "2 times ( " ++ tx] ++ [Str.ofString "( " ++ tx ++ Str.ofString " )", tx ++ Str.ofString " set", tx ++ Str.ofString " measure", tx ++ Str.ofString ";"]))) := upd_same
  generalize upd H5 p3 (.lst (List.map V.str ([tx ++ Str.ofString " ", Str.ofString " " ++ tx, Txt.replace tx (Str.ofString " ") (Str.ofString "  "), tx ++ Str.ofString " )", tx ++ Str.ofString " 2 times (", Str.ofString "2 times ( " ++ tx] ++ [Str.ofString "( " ++ tx ++ Str.ofString " )", tx ++ Str.ofString " set", tx ++ Str.ofString " measure", tx ++ Str.ofString ";"]))) = H6 at t3 g3 ⊢
  have w2 : (Str.ofString "3 times ( " ++ y).length ≤ 110 := by rw [len_app]; omega
  have w3 : (Str.ofString "2 times ( " ++ tx).length ≤ 6600 := by rw [len_app]; omega
  have w4 : (Str.ofString "2 times ( " ++ tx ++ Str.ofString " ").length ≤ 6601 := by rw [len_app]; omega
  have w5 : (Str.ofString "2 times ( " ++ tx ++ Str.ofString " " ++ y).length ≤ 6701 := by rw [len_app]; omega
  walk_at "rd"
  refine ⟨smallL (by omega), ?_⟩
  walk_at "rd"
  refine ⟨smallL (by omega), ?_⟩
  walk_at "rd"
  refine ⟨smallL (by omega), ?_⟩
  walk_at "rd"
  refine ⟨smallL (by omega), ?_⟩
  walk_at "rd"
  refine ⟨smallL (by omega), ?_⟩
  walk_at "rd"
  refine ⟨smallL (by omega), ?_⟩
  walk_at "rd"
  intro p4 hp4
  have t4 := same_new hp4 (.lst [V.str (Str.ofString "3 times ( " ++ y ++ Str.ofString " )"), V.str (Str.ofString "2 times ( " ++ tx ++ Str.ofString " " ++ y ++ Str.ofString " )")])
  have g4 : upd H6 p4 (.lst [V.str (Str.ofString "3 times ( " ++ y ++ Str.ofString " )"), V.str (Str.ofString "2 times ( " ++ tx ++ Str.ofString " " ++ y ++ Str.ofString " )")]) p4 = some (.lst (List.map V.str [Str.ofString "3 times ( " ++ y ++ Str.ofString " )", Str.ofString "2 times ( " ++ tx ++ Str.ofString " " ++ y ++ Str.ofString " )"])) := upd_same
  generalize upd H6 p4 (.lst [V.str (Str.ofString "3 times ( " ++ y ++ Str.ofString " )"), V.str (Str.ofString "2 times ( " ++ tx ++ Str.ofString " " ++ y ++ Str.ofString " )")]) = H7 at t4 g4 ⊢
  refine ⟨p3, p4, _, _, rfl, rfl, t4 _ _ g3, g4, smallL (by show 10 + 2 ≤ _; decide), fun p5 hp5 => ?_⟩
  rw [← List.map_append]
  have t5 := same_new hp5 (.lst (List.map V.str (([tx ++ Str.ofString " ", Str.ofString " " ++ tx, Txt.replace tx (Str.ofString " ") (Str.ofString "  "), tx ++ Str.ofString " )", tx ++ Str.ofString " 2 times (", Str.ofString "2 times ( " ++ tx] ++ [Str.ofString "( " ++ tx ++ Str.ofString " )", tx ++ Str.ofString " set", tx ++ Str.ofString " measure", tx ++ Str.ofString ";"]) ++ [Str.ofString "3 times ( " ++ y ++ Str.ofString " )", Str.ofString "2 times ( " ++ tx ++ Str.ofString " " ++ y ++ Str.ofString " )"])))
  have g5 : upd H7 p5 (.lst (List.map V.str (([tx ++ Str.ofString " ", Str.ofString " " ++ tx, Txt.replace tx (Str.ofString " ") (Str.ofString "  "), tx ++ Str.ofString " )", tx ++ Str.ofString " 2 times (", Str.ofString "2 times ( " ++ tx] ++ [Str.ofString "( " ++ tx ++ Str.ofString " )", tx ++ Str.ofString " set", tx ++ Str.ofString " measure", tx ++ Str.ofString ";"]) ++ [Str.ofString "3 times ( " ++ y ++ Str.ofString " )", Str.ofString "2 times ( " ++ tx ++ Str.ofString " " ++ y ++ Str.ofString " )"]))) p5 = some (.lst (List.map V.str (([tx ++ Str.ofString " ", Str.ofString " " ++ tx, Txt.replace tx (Str.ofString " ") (Str.ofString "  "), tx ++ Str.ofString " )", tx ++ Str.ofString " 2 times (", Str.ofString "2 times ( " ++ tx] ++ [Str.ofString "( " ++ tx ++ Str.ofString " )", tx ++ Str.ofString " set", tx ++ Str.ofString " measure", tx ++ Str.ofString ";"]) ++ [Str.ofString "3 times ( " ++ y ++ Str.ofString " )", Str.ofString "2 times ( " ++ tx ++ Str.ofString " " ++ y ++ Str.ofString " )"]))) := upd_same
  generalize upd H7 p5 (.lst (List.map V.str (([tx ++ Str.ofString " ", Str.ofString " " ++ tx, Txt.replace tx (Str.ofString " ") (Str.ofString "  "), tx ++ Str.ofString " )", tx ++ Str.ofString " 2 times (", Str.ofString "2 times ( " ++ tx] ++ [Str.ofString "( " ++ tx ++ Str.ofString " )", tx ++ Str.ofString " set", tx ++ Str.ofString " measure", tx ++ Str.ofString ";"]) ++ [Str.ofString "3 times ( " ++ y ++ Str.ofString " )", Str.ofString "2 times ( " ++ tx ++ Str.ofString " " ++ y ++ Str.ofString " )"]))) = H8 at t5 g5 ⊢
  have z0 := Int.emod_nonneg (n / 3) (show (12 : Int) ≠ 0 by decide)
  have z1 := Int.emod_lt_of_pos (n / 3) (show (0 : Int) < 12 by decide)
  obtain ⟨u, hu, eu⟩ := at_str (([tx ++ Str.ofString " ", Str.ofString " " ++ tx, Txt.replace tx (Str.ofString " ") (Str.ofString "  "), tx ++ Str.ofString " )", tx ++ Str.ofString " 2 times (", Str.ofString "2 times ( " ++ tx] ++ [Str.ofString "( " ++ tx ++ Str.ofString " )", tx ++ Str.ofString " set", tx ++ Str.ofString " measure", tx ++ Str.ofString ";"]) ++ [Str.ofString "3 times ( " ++ y ++ Str.ofString " )", Str.ofString "2 times ( " ++ tx ++ Str.ofString " " ++ y ++ Str.ofString " )"]) z0 (by show _ < ((12 : Nat) : Int); exact z1)
  have hun := hall u hu
  clear hall hu
  have qq := q u hun _ (s03.trans (t1.trans (t2.trans (t3.trans (t4.trans t5)))))
  walk_at "rd"
  try refine ⟨p5, _, _, _, rfl, rfl, SqL.of g5, eu, ?_⟩
  exact qq
theorem fn_calm {P : Program} {w : World} {K : PySem.W.Frag} {mg : Str → Option Value} {base : Heap} {k : Nat} {f : Addr} {fd : FuncData} {ps : List Str} {sp sp0 : Sp} (F : FnOk P w K mg base (CX1 P w) k f fd ps sp) (h : ∀ vs H Q E, sp0 vs H Q E → sp vs H Q E0) : FnOk P w K mg base CX0 k f fd ps sp0 := by
  refine ⟨fun vs H Q E q => F.len vs H Q E0 (h _ _ _ _ q), fun A outer s H args us vs Q E hr he hb hv hs => codeAny_mono (F.run A outer s H args us vs Q E0 hr he hb hv (h _ _ _ _ hs)) fun r s' z => ?_⟩
  cases r with
  | ok fl =>
    cases fl with
    | ret u => exact z
    | next => exact z
    | brk => exact z
    | cont => exact z
  | error e =>
    obtain ⟨_, _, _, _, _, _, _, _, _, _, _, z⟩ := z
    exact z
def sp_read_copy0 : Sp := fun vs H Q _ => ∃ (x : Str) (js : List (Jb.Job 4)), vs = [.str x] ∧ x.length ≤ 80000 ∧ (wordsOf x).length ≤ 1000 ∧ (∀ y ∈ wordsOf x, AW y) ∧ Cp.rdC (wordsOf x) = some js ∧
  (∀ (jl : Addr) (xs : List V) H', Same H H' → H jl = none → H' jl = some (.lst xs) → Paired (Jb.JobN (fun a => a = jl) H' 4) xs js → Q (.ref jl) H')
theorem ok_read_copy0 (T : Tx K mg a) : FnOk P w K mg base CX0 18 a.f_read_copy a.d_read_copy ["text"] sp_read_copy0 := fn_calm (ok_read_copy T) fun vs H Q E h => by
  obtain ⟨x, js, e, h1, h2, h3, h4, q⟩ := h
  exact ⟨x, e, h1, h2, h3, fun js' e' => by rw [h4] at e'; cases e'; exact q, fun e' => by rw [h4] at e'; cases e'⟩
theorem cut_take (xs : List V) {m : Int} (h : 0 ≤ m) : cutV xs none (some m) = xs.take m.toNat := by
  unfold cutV
  have e : m = ((m.toNat : Nat) : Int) := by omega
  rw [e, HT.sIx_none, HT.sIx_nat, List.drop_zero, Nat.sub_zero, Int.toNat_natCast]
  by_cases hl : m.toNat ≤ xs.length
  · rw [Nat.min_eq_left hl]
  · rw [Nat.min_eq_right (by omega), List.take_of_length_le (Nat.le_refl _), List.take_of_length_le (by omega)]
abbrev dj0 : Jb.Job 0 := Jb.Bas.st [Str.ofString "a"]
abbrev dj1 : Jb.Job 1 := Sum.inr (9, [dj0])
abbrev dj2 : Jb.Job 2 := Sum.inr (3, [dj1])
abbrev dj3 : Jb.Job 3 := Sum.inr (2, [dj2])
abbrev dj4 : Jb.Job 4 := Sum.inr (1, [dj3])
def deepT : Str := Str.ofString "1 times ( 2 times ( 3 times ( 9 times ( set a end ) ) ) )"
theorem deep_words : wordsOf deepT = Cp.tells 4 [dj4] := by decide +kernel
theorem one_mem {α : Type} {x : α} {p : α → Prop} (h : p x) : ∀ y ∈ [x], p y := fun y hy => by rw [List.mem_singleton.mp hy]; exact h
theorem dj1_good : Jb.GoodJ 1 dj1 := ⟨by decide, by decide, List.cons_ne_nil _ _, by decide, one_mem (show Jb.GoodB (Jb.Bas.st [Str.ofString "a"]) from ⟨by decide, by decide, one_mem ⟨by decide +kernel, by decide +kernel, by decide +kernel, by decide +kernel⟩⟩)⟩
theorem deep_good : ∀ j ∈ [dj4], Jb.GoodJ 4 j := one_mem ⟨by decide, by decide, List.cons_ne_nil _ _, by decide, one_mem ⟨by decide, by decide, List.cons_ne_nil _ _, by decide, one_mem ⟨by decide, by decide, List.cons_ne_nil _ _, by decide, one_mem dj1_good⟩⟩⟩
theorem deep_rd : Cp.rdC (wordsOf deepT) = some [dj4] := by rw [deep_words]; exact Cp.rdC_tell deep_good
theorem deep_fine : deepT.length ≤ 80000 ∧ (wordsOf deepT).length ≤ 1000 ∧ ∀ y ∈ wordsOf deepT, AW y := by
  refine ⟨by decide +kernel, by decide +kernel, fun y hy => ?_⟩
  rw [deep_words] at hy
  have := Cp.tw_jobs deep_good y hy
  exact ⟨by have := this.l2; omega, fun c hc => (this.as c hc).1⟩
theorem x_nope : Nope (Str.ofString "x") := by
  have h : (decide ((Str.ofString "x").length ≤ 80000) && decide ((wordsOf (Str.ofString "x")).length ≤ 1000) && ((wordsOf (Str.ofString "x")).all fun y => decide (y.cps.toList.length ≤ 90000) && y.cps.toList.all fun c => decide (c < 128)) && (Cp.rdC (wordsOf (Str.ofString "x"))).isNone) = true := by decide +kernel
  simp only [Bool.and_eq_true, decide_eq_true_iff, Option.isNone_iff_eq_none, List.all_eq_true] at h
  exact ⟨h.1.1.1, h.1.1.2, fun y hy => ⟨(h.1.2 y hy).1, (h.1.2 y hy).2⟩, h.2⟩
/-- what a list of one job holds -/
theorem one_job {N : Addr → Prop} {H : Hp} {d n : Nat} {xs : List V} {js : List (Jb.Job d)} (h : Paired (Jb.JobN N H (d + 1)) xs [Sum.inr (n, js)]) : ∃ t p ys, xs = [.ref t] ∧ H t = some (.tup [.str "times", .int (n : Int), .ref p]) ∧ H p = some (.lst ys) ∧ Paired (Jb.JobN N H d) ys js := by
  cases h with
  | cons r t =>
    cases t
    obtain ⟨_, _, t, p, ys, rfl, h1, _, h2, h3⟩ := r
    exact ⟨t, p, ys, rfl, h1, h2, h3⟩
def sp_law (K : PySem.W.Frag) : Sp := fun vs H Q _ => ∃ (a : Addr) (ns : List Int), vs = [.ref a] ∧ SqL K H a (ns.map V.int) ∧ ns.length ≤ 63 ∧ ∀ H', Q (.bl true) H'
theorem ok_law (T : Tx K mg a) : FnOk P w K mg base CX0 lawLevel a.f_law a.d_law ["_law_script"] (sp_law K) := by
  have G_law_jobs := ok_law_jobs (P := P) (w := w) (base := base) T
  have G_law_tell := ok_law_tell (P := P) (w := w) (base := base) T
  have G_law_mixed := ok_law_mixed (P := P) (w := w) (base := base) T
  have G_law_spoiled := ok_law_spoiled (P := P) (w := w) (base := base) T
  have G_law_refused := ok_law_refused (P := P) (w := w) (base := base) T
  have G0_read_copy := ok_read_copy0 (P := P) (w := w) (base := base) T
  refine T.law.fn.ok sc_law (fun vs H Q E h => ?_) (fun cdv A outer s H vs Q E hr h => ?_)
  · obtain ⟨l, ns, rfl, _⟩ := h
    rfl
  obtain ⟨l, ns, rfl, hS, hl, q⟩ := h
  refine ⟨_, (@pss_cons _ _ _ _ _ (@ps_set _ _ 1 _ _ _ _ sc_law.nd rfl (Or.inl rfl) (kpe_bm K rfl PySem.F.plainAttrs_str PySem.F.slot_str_join PySem.F.type_str_join (kmt_join K rfl) pe_str (@pa_cons _ _ _ _ _ (pcall T.law_tell G_law_tell hr rfl (@pa_cons _ _ _ _ _ (pcall T.law_jobs G_law_jobs hr rfl (@pa_cons _ _ _ _ _ (pe_slice (ksl_list K rfl) (pv 0) po_none (po_some pe_int)) pa_nil (by rfl))) pa_nil (by rfl))) pa_nil (by rfl))) (by rfl) (by first | exact .inl rfl | exact .inr rfl | assumption))
      (@pss_cons _ _ _ _ _ (ps_for PassesOwn.never rfl (pi_range1 rfl T.b_range (@pa_cons _ _ _ _ _ (pe_callB (call_min2 rfl) rfl T.b_min bt_min (@pa_cons _ _ _ _ _ (pe_callB (klen_seq K rfl) rfl T.b_len bt_len (@pa_cons _ _ _ _ _ (pv 0) pa_nil (by rfl))) (@pa_cons _ _ _ _ _ pe_int pa_nil (by rfl)) (by rfl))) pa_nil (by rfl))) (pg_name (i := 2) sc_law.nd rfl (Or.inl rfl)) (@pss_one _ _ _ (ps_if (pt_not (pt_val (pcall T.law_refused G_law_refused hr rfl (@pa_cons _ _ _ _ _ (pcall T.law_spoiled G_law_spoiled hr rfl (@pa_cons _ _ _ _ _ (pv 1) (@pa_cons _ _ _ _ _ (pcall T.law_mixed G_law_mixed hr rfl (@pa_cons _ _ _ _ _ (pe_ix (kix_list K rfl) (pv 0) (pv 2) (fun _ _ => rfl)) (@pa_cons _ _ _ _ _ (pe_op op_add (pv 2) pe_int) pa_nil (by rfl)) (by rfl))) pa_nil (by rfl)) (by rfl))) pa_nil (by rfl))))) (@pss_one _ _ _ (@ps_ret _ _ _ _ pe_bl)) pss_nil)))
      (@pss_cons _ _ _ _ _ (ps_expr (pcall T.read_copy G0_read_copy hr rfl (@pa_cons _ _ _ _ _ (pv 1) pa_nil (by rfl))))
      (@pss_cons _ _ _ _ _ (@ps_set _ _ 3 _ _ _ _ sc_law.nd rfl (Or.inl rfl) pe_str (by rfl) (by first | exact .inl rfl | exact .inr rfl | assumption))
      (@pss_one _ _ _ (@ps_ret _ _ _ _ (@pe_and _ _ _ _ _ _ _ (pe_cmpR (keqD K rfl hr.units) (pe_ix (kix_tup K rfl) (pe_ix (kix_list K rfl) (pe_ix (kix_tup K rfl) (pe_ix (kix_list K rfl) (pe_ix (kix_tup K rfl) (pe_ix (kix_list K rfl) (pcall T.read_copy G0_read_copy hr rfl (@pa_cons _ _ _ _ _ (pv 3) pa_nil (by rfl))) pe_int (fun _ _ => rfl)) pe_int (fun _ _ => rfl)) pe_int (fun _ _ => rfl)) pe_int (fun _ _ => rfl)) pe_int (fun _ _ => rfl)) pe_int (fun _ _ => rfl)) (@pe_lst _ _ _ _ (@pa_cons _ _ _ _ _ (@pe_tup _ _ _ _ _ (@pa_cons _ _ _ _ _ pe_str (@pa_cons _ _ _ _ _ pe_int (@pa_cons _ _ _ _ _ (@pe_lst _ _ _ _ (@pa_cons _ _ _ _ _ (@pe_tup _ _ _ _ _ (@pa_cons _ _ _ _ _ pe_str (@pa_cons _ _ _ _ _ (@pe_lst _ _ _ _ (@pa_cons _ _ _ _ _ pe_str pa_nil (by rfl))) pa_nil (by rfl)) (by rfl))) pa_nil (by rfl))) pa_nil (by rfl)) (by rfl)) (by rfl))) pa_nil (by rfl))) (nomark _)) (@pe_one _ _ _ _ _ (pcall T.law_refused G_law_refused hr rfl (@pa_cons _ _ _ _ _ pe_str pa_nil (by rfl))))))))))), ?_⟩
  walk_at "rd"
  try refine ⟨rfl, ?_⟩
  walk_at "rd"
  refine ⟨l, _, rfl, hS, fun p0 hp0 => ?_⟩
  have ec : cutV (ns.map V.int) none (some (30 : Int)) = (ns.take 30).map V.int := by rw [cut_take _ (by decide), ← List.map_take]; rfl
  rw [ec]
  have s1 := same_new hp0 (.lst ((ns.take 30).map V.int))
  have h1 : upd H p0 (.lst ((ns.take 30).map V.int)) p0 = some (.lst ((ns.take 30).map V.int)) := upd_same
  generalize upd H p0 (.lst ((ns.take 30).map V.int)) = H1 at s1 h1 ⊢
  walk_at "rd"
  refine ⟨p0, _, rfl, SqL.of h1, by rw [List.length_take]; omega, fun L xs js H2 s2 hL0 hL hj gd few hz => ?_⟩
  have J2 : JL (fun a => a = L) H2 L 4 xs js := ⟨hL, hj, by omega⟩
  have hS2 := (s1.trans s2).seq hS
  have hrd : Cp.rdC (wordsOf (Cp.textOf 4 js)) = some js := by rw [words_text gd]; exact Cp.rdC_tell gd
  have htl := textOf_len gd hz
  have haw : ∀ y ∈ wordsOf (Cp.textOf 4 js), AW y := fun y hy => by
    rw [words_text gd] at hy
    have := Cp.tw_jobs gd y hy
    exact ⟨by have := this.l2; omega, fun c hc => (this.as c hc).1⟩
  have hwl : (wordsOf (Cp.textOf 4 js)).length ≤ 1000 := by rw [words_text gd]; omega
  refine ⟨L, _, xs, js, rfl, J2, gd, by omega, fun rt H3 s3 hrt => ?_⟩
  refine ⟨" ", rt, _, rfl, rfl, SqL.of hrt, Cp.line_small (by show (Cp.textOf 4 js).length ≤ _; omega), ?_⟩
  have et : Txt.join " " (Cp.tells 4 js) = Cp.textOf 4 js := rfl
  rw [et]
  have hS3 := s3.seq hS2
  walk_at "rd"
  refine ⟨l, _, rfl, .inl hS3, ?_⟩
  rw [List.length_map]
  walk_at "rd"
  refine ⟨_, _, rfl, ?_⟩
  have hmm : 0 ≤ (if (60 : Int) < (ns.length : Int) then (60 : Int) else (ns.length : Int)) ∧ (if (60 : Int) < (ns.length : Int) then (60 : Int) else (ns.length : Int)) ≤ 60 ∧ (if (60 : Int) < (ns.length : Int) then (60 : Int) else (ns.length : Int)) ≤ ns.length := by split <;> omega
  generalize (if (60 : Int) < (ns.length : Int) then (60 : Int) else (ns.length : Int)) = mm at hmm ⊢
  obtain ⟨hm0, hm1, hm2⟩ := hmm
  walk_at "rd"
  refine for_range (n := mm.toNat) (fun i σ H1 => ∃ (v1 : Option V), σ = [some (.ref l), some (.str (Cp.textOf 4 js)), v1, none] ∧ Same H3 H1)
    ⟨none, rfl, Same.refl _⟩ ?_ ?_
  · rintro i σ H4 hi' ⟨v1, rfl, hs4⟩
    have hin : i < ns.length := by omega
    have hS4 := hs4.seq hS3
    have hat : atI (ns.map V.int) (0 + (i : Int)) = some (.int ns[i]) := by rw [Int.zero_add]; exact atI_nat (by rw [List.getElem?_map, List.getElem?_eq_getElem hin] <;> rfl)
    walk_at "rd"
    refine ⟨l, _, _, _, rfl, rfl, hS4, hat, ?_⟩
    walk_at "rd"
    refine ⟨_, _, rfl, by omega, by omega, fun z hz0 hz1 => ?_⟩
    refine ⟨js, z, rfl, gd, hz, fun u hu H5 hs5 => ?_⟩
    refine ⟨u, rfl, hu, fun H6 hs6 => ?_⟩
    walk_at "rd"
    try refine iteF ?_
    first | exact hs4.trans (hs5.trans hs6) | exact ⟨_, rfl, hs4.trans (hs5.trans hs6)⟩
  · rintro σ H4 ⟨v1, rfl, hs4⟩
    obtain ⟨d1, d2, d3⟩ := deep_fine
    walk_at "rd"
    refine ⟨_, js, rfl, by omega, hwl, haw, hrd, fun jl5 xs5 H5 s5 h50 h5 hp5 => ?_⟩
    walk_at "rd"
    refine ⟨deepT, _, rfl, d1, d2, d3, deep_rd, fun jl6 xs6 H6 s6 h60 h6 hp6 => ?_⟩
    obtain ⟨t1, p1, y1, rfl, a1, b1, c1⟩ := one_job hp6
    obtain ⟨t2, p2, y2, rfl, a2, b2, c2⟩ := one_job c1
    obtain ⟨t3, p3, y3, rfl, a3, b3, c3⟩ := one_job c2
    clear hp6 c1 c2
    refine ⟨jl6, _, _, _, rfl, rfl, SqL.of h6, atI_nat (j := 0) rfl, ?_⟩
    refine ⟨t1, _, _, _, rfl, rfl, SqT.of a1, atI_nat (j := 2) rfl, ?_⟩
    refine ⟨p1, _, _, _, rfl, rfl, SqL.of b1, atI_nat (j := 0) rfl, ?_⟩
    refine ⟨t2, _, _, _, rfl, rfl, SqT.of a2, atI_nat (j := 2) rfl, ?_⟩
    refine ⟨p2, _, _, _, rfl, rfl, SqL.of b2, atI_nat (j := 0) rfl, ?_⟩
    refine ⟨t3, _, _, _, rfl, rfl, SqT.of a3, atI_nat (j := 2) rfl, ?_⟩
    walk_at "rd"
    intro r1 hr1
    have u1 := same_new hr1 (.lst [.str (Str.ofString "a")])
    have v1' : upd H6 r1 (.lst [.str (Str.ofString "a")]) r1 = some (.lst [.str (Str.ofString "a")]) := upd_same
    generalize upd H6 r1 (.lst [.str (Str.ofString "a")]) = J1 at u1 v1' ⊢
    walk_at "rd"
    intro r2 hr2
    have u2 := same_new hr2 (.tup [.str (Str.ofString "set"), .ref r1])
    have v2 : upd J1 r2 (.tup [.str (Str.ofString "set"), .ref r1]) r2 = some (.tup [.str (Str.ofString "set"), .ref r1]) := upd_same
    generalize upd J1 r2 (.tup [.str (Str.ofString "set"), .ref r1]) = J2 at u2 v2 ⊢
    walk_at "rd"
    intro r3 hr3
    have u3 := same_new hr3 (.lst [.ref r2])
    have v3 : upd J2 r3 (.lst [.ref r2]) r3 = some (.lst [.ref r2]) := upd_same
    generalize upd J2 r3 (.lst [.ref r2]) = J3 at u3 v3 ⊢
    walk_at "rd"
    intro r4 hr4
    have u4 := same_new hr4 (.tup [.str (Str.ofString "times"), .int 9, .ref r3])
    have v4 : upd J3 r4 (.tup [.str (Str.ofString "times"), .int 9, .ref r3]) r4 = some (.tup [.str (Str.ofString "times"), .int 9, .ref r3]) := upd_same
    generalize upd J3 r4 (.tup [.str (Str.ofString "times"), .int 9, .ref r3]) = J4 at u4 v4 ⊢
    walk_at "rd"
    intro r5 hr5
    have u5 := same_new hr5 (.lst [.ref r4])
    have v5 : upd J4 r5 (.lst [.ref r4]) r5 = some (.lst [.ref r4]) := upd_same
    generalize upd J4 r5 (.lst [.ref r4]) = J5 at u5 v5 ⊢
    walk_at "rd"
    have u25 := u2.trans (u3.trans (u4.trans u5))
    have b5 : Jb.BasN (fun _ => False) J5 (.ref r2) (.st [Str.ofString "a"]) := ⟨r2, r1, rfl, (u3.trans (u4.trans u5)) _ _ v2, fun z => z, u25 _ _ v1'⟩
    have c5 : Jb.JobN (fun _ => False) J5 1 (.ref r4) dj1 := ⟨by decide, by decide, r4, r3, [.ref r2], rfl, u5 _ _ v4, fun z => z, (u4.trans u5) _ _ v3, .cons b5 .nil⟩
    have dr : Den K J5 (.ref r5) (Jb.dJobs 1 [dj1]) := .lst (SqL.of v5) (.cons (Jb.den_job 1 c5 dj1_good) .nil)
    have dl5 : Den K J5 (.ref p3) (Jb.dJobs 1 [dj1]) := .lst (SqL.of ((u1.trans u25) _ _ b3)) (Jb.denL_of c3 fun v j hj z => Jb.den_job 1 (Jb.JobN.same (Jb.SameS.of (u1.trans u25)) 1 z) (by rw [List.mem_singleton.mp hj]; exact dj1_good))
    refine ⟨Jb.dJobs 1 [dj1], Jb.dJobs 1 [dj1], dl5, dr, ?_, ?_⟩
    · have := Jb.depth_jobs 1 [dj1]
      omega
    rw [eqv_refl (Jb.nb_jobs 1 [dj1])]
    walk_at "rd"
    exact ⟨x_nope, fun H' _ => q H'⟩
theorem uz1 {P : List Value → Prop} (h : ∀ a, P [a]) (us : List Value) (hl : us.length = 1) : P us := by
  cases us with
  | nil => exact absurd hl (by decide)
  | cons a us =>
    cases us with
    | nil => exact h a
    | cons z us => exact absurd (Nat.succ.inj (hl)) (Nat.succ_ne_zero _)
theorem ba1 {fd : FuncData} {ps : List Str} (h : ∀ a : Value, bindArgs fd ⟨[a], []⟩ = pure (ps.zip [a])) : ∀ us : List Value, us.length = 1 → bindArgs fd ⟨us, []⟩ = pure (ps.zip us) := uz1 (P := fun us => bindArgs fd ⟨us, []⟩ = pure (ps.zip us)) h
theorem uz2 {P : List Value → Prop} (h : ∀ a b, P [a, b]) (us : List Value) (hl : us.length = 2) : P us := by
  cases us with
  | nil => exact absurd hl (by decide)
  | cons a us =>
    cases us with
    | nil => exact absurd hl (by rw [List.length_cons, List.length_nil]; decide)
    | cons b us =>
      cases us with
      | nil => exact h a b
      | cons z us => exact absurd (Nat.succ.inj (Nat.succ.inj (hl))) (Nat.succ_ne_zero _)
theorem ba2 {fd : FuncData} {ps : List Str} (h : ∀ a b : Value, bindArgs fd ⟨[a, b], []⟩ = pure (ps.zip [a, b])) : ∀ us : List Value, us.length = 2 → bindArgs fd ⟨us, []⟩ = pure (ps.zip us) := uz2 (P := fun us => bindArgs fd ⟨us, []⟩ = pure (ps.zip us)) h
theorem uz3 {P : List Value → Prop} (h : ∀ a b c, P [a, b, c]) (us : List Value) (hl : us.length = 3) : P us := by
  cases us with
  | nil => exact absurd hl (by decide)
  | cons a us =>
    cases us with
    | nil => exact absurd hl (by rw [List.length_cons, List.length_nil]; decide)
    | cons b us =>
      cases us with
      | nil => exact absurd hl (by rw [List.length_cons, List.length_cons, List.length_nil]; decide)
      | cons c us =>
        cases us with
        | nil => exact h a b c
        | cons z us => exact absurd (Nat.succ.inj (Nat.succ.inj (Nat.succ.inj (hl)))) (Nat.succ_ne_zero _)
theorem ba3 {fd : FuncData} {ps : List Str} (h : ∀ a b c : Value, bindArgs fd ⟨[a, b, c], []⟩ = pure (ps.zip [a, b, c])) : ∀ us : List Value, us.length = 3 → bindArgs fd ⟨us, []⟩ = pure (ps.zip us) := uz3 (P := fun us => bindArgs fd ⟨us, []⟩ = pure (ps.zip us)) h
theorem uz4 {P : List Value → Prop} (h : ∀ a b c d, P [a, b, c, d]) (us : List Value) (hl : us.length = 4) : P us := by
  cases us with
  | nil => exact absurd hl (by decide)
  | cons a us =>
    cases us with
    | nil => exact absurd hl (by rw [List.length_cons, List.length_nil]; decide)
    | cons b us =>
      cases us with
      | nil => exact absurd hl (by rw [List.length_cons, List.length_cons, List.length_nil]; decide)
      | cons c us =>
        cases us with
        | nil => exact absurd hl (by rw [List.length_cons, List.length_cons, List.length_cons, List.length_nil]; decide)
        | cons d us =>
          cases us with
          | nil => exact h a b c d
          | cons z us => exact absurd (Nat.succ.inj (Nat.succ.inj (Nat.succ.inj (Nat.succ.inj (hl))))) (Nat.succ_ne_zero _)
theorem ba4 {fd : FuncData} {ps : List Str} (h : ∀ a b c d : Value, bindArgs fd ⟨[a, b, c, d], []⟩ = pure (ps.zip [a, b, c, d])) : ∀ us : List Value, us.length = 4 → bindArgs fd ⟨us, []⟩ = pure (ps.zip us) := uz4 (P := fun us => bindArgs fd ⟨us, []⟩ = pure (ps.zip us)) h
theorem txt_mk {K : PySem.W.Frag} {h : Heap} {mg : Str → Option Value} (X : K.In h) (G : h.Ns mainGlobals mg)
    {f0 : Addr} {od0 an0 : Option Addr} {sl0 : Array (Option Value)} {oc0 kV0 dc0 pm0 cd0 ct0 : Value} {f1 : Addr} {od1 an1 : Option Addr} {sl1 : Array (Option Value)} {oc1 kV1 dc1 pm1 cd1 ct1 : Value} {f2 : Addr} {od2 an2 : Option Addr} {sl2 : Array (Option Value)} {oc2 kV2 dc2 pm2 cd2 ct2 : Value} {f3 : Addr} {od3 an3 : Option Addr} {sl3 : Array (Option Value)} {oc3 kV3 dc3 pm3 cd3 ct3 : Value} {f4 : Addr} {od4 an4 : Option Addr} {sl4 : Array (Option Value)} {oc4 kV4 dc4 pm4 cd4 ct4 : Value} {f5 : Addr} {od5 an5 : Option Addr} {sl5 : Array (Option Value)} {oc5 kV5 dc5 pm5 cd5 ct5 : Value} {f6 : Addr} {od6 an6 : Option Addr} {sl6 : Array (Option Value)} {oc6 kV6 dc6 pm6 cd6 ct6 : Value} {f7 : Addr} {od7 an7 : Option Addr} {sl7 : Array (Option Value)} {oc7 kV7 dc7 pm7 cd7 ct7 : Value} {f8 : Addr} {od8 an8 : Option Addr} {sl8 : Array (Option Value)} {oc8 kV8 dc8 pm8 cd8 ct8 : Value} {f9 : Addr} {od9 an9 : Option Addr} {sl9 : Array (Option Value)} {oc9 kV9 dc9 pm9 cd9 ct9 : Value} {f10 : Addr} {od10 an10 : Option Addr} {sl10 : Array (Option Value)} {oc10 kV10 dc10 pm10 cd10 ct10 : Value} {f11 : Addr} {od11 an11 : Option Addr} {sl11 : Array (Option Value)} {oc11 kV11 dc11 pm11 cd11 ct11 : Value} {f12 : Addr} {od12 an12 : Option Addr} {sl12 : Array (Option Value)} {oc12 kV12 dc12 pm12 cd12 ct12 : Value} {f13 : Addr} {od13 an13 : Option Addr} {sl13 : Array (Option Value)} {oc13 kV13 dc13 pm13 cd13 ct13 : Value} {f14 : Addr} {od14 an14 : Option Addr} {sl14 : Array (Option Value)} {oc14 kV14 dc14 pm14 cd14 ct14 : Value} {f15 : Addr} {od15 an15 : Option Addr} {sl15 : Array (Option Value)} {oc15 kV15 dc15 pm15 cd15 ct15 : Value} {f16 : Addr} {od16 an16 : Option Addr} {sl16 : Array (Option Value)} {oc16 kV16 dc16 pm16 cd16 ct16 : Value} {f17 : Addr} {od17 an17 : Option Addr} {sl17 : Array (Option Value)} {oc17 kV17 dc17 pm17 cd17 ct17 : Value} {f18 : Addr} {od18 an18 : Option Addr} {sl18 : Array (Option Value)} {oc18 kV18 dc18 pm18 cd18 ct18 : Value} {f19 : Addr} {od19 an19 : Option Addr} {sl19 : Array (Option Value)} {oc19 kV19 dc19 pm19 cd19 ct19 : Value} {f20 : Addr} {od20 an20 : Option Addr} {sl20 : Array (Option Value)} {oc20 kV20 dc20 pm20 cd20 ct20 : Value} {f21 : Addr} {od21 an21 : Option Addr} {sl21 : Array (Option Value)} {oc21 kV21 dc21 pm21 cd21 ct21 : Value} {f22 : Addr} {od22 an22 : Option Addr} {sl22 : Array (Option Value)} {oc22 kV22 dc22 pm22 cd22 ct22 : Value} {f23 : Addr} {od23 an23 : Option Addr} {sl23 : Array (Option Value)} {oc23 kV23 dc23 pm23 cd23 ct23 : Value}
    (a0 : PySem.W.nsIn K mainGlobals "is_sign" = some (some (.ref f0))) (l0 : K.lookup f0 = some ⟨oc0, od0, .func (PySem.W.fnOf "is_sign" "is_sign" (defArgs s_is_sign) (defBody s_is_sign) (defScope s_is_sign) .none kV0 dc0 pm0 an0 cd0 ct0), sl0⟩) (c0 : PySem.W.codeIn K cd0 "is_sign" = true) (k0 : PySem.W.keepIn K (.ref f0) = true)
    (a1 : PySem.W.nsIn K mainGlobals "is_number" = some (some (.ref f1))) (l1 : K.lookup f1 = some ⟨oc1, od1, .func (PySem.W.fnOf "is_number" "is_number" (defArgs s_is_number) (defBody s_is_number) (defScope s_is_number) .none kV1 dc1 pm1 an1 cd1 ct1), sl1⟩) (c1 : PySem.W.codeIn K cd1 "is_number" = true) (k1 : PySem.W.keepIn K (.ref f1) = true)
    (a2 : PySem.W.nsIn K mainGlobals "is_set_word" = some (some (.ref f2))) (l2 : K.lookup f2 = some ⟨oc2, od2, .func (PySem.W.fnOf "is_set_word" "is_set_word" (defArgs s_is_set_word) (defBody s_is_set_word) (defScope s_is_set_word) .none kV2 dc2 pm2 an2 cd2 ct2), sl2⟩) (c2 : PySem.W.codeIn K cd2 "is_set_word" = true) (k2 : PySem.W.keepIn K (.ref f2) = true)
    (a3 : PySem.W.nsIn K mainGlobals "word_at" = some (some (.ref f3))) (l3 : K.lookup f3 = some ⟨oc3, od3, .func (PySem.W.fnOf "word_at" "word_at" (defArgs s_word_at) (defBody s_word_at) (defScope s_word_at) .none kV3 dc3 pm3 an3 cd3 ct3), sl3⟩) (c3 : PySem.W.codeIn K cd3 "word_at" = true) (k3 : PySem.W.keepIn K (.ref f3) = true)
    (a4 : PySem.W.nsIn K mainGlobals "read_number" = some (some (.ref f4))) (l4 : K.lookup f4 = some ⟨oc4, od4, .func (PySem.W.fnOf "read_number" "read_number" (defArgs s_read_number) (defBody s_read_number) (defScope s_read_number) .none kV4 dc4 pm4 an4 cd4 ct4), sl4⟩) (c4 : PySem.W.codeIn K cd4 "read_number" = true) (k4 : PySem.W.keepIn K (.ref f4) = true)
    (a5 : PySem.W.nsIn K mainGlobals "look_for" = some (some (.ref f5))) (l5 : K.lookup f5 = some ⟨oc5, od5, .func (PySem.W.fnOf "look_for" "look_for" (defArgs s_look_for) (defBody s_look_for) (defScope s_look_for) .none kV5 dc5 pm5 an5 cd5 ct5), sl5⟩) (c5 : PySem.W.codeIn K cd5 "look_for" = true) (k5 : PySem.W.keepIn K (.ref f5) = true)
    (a6 : PySem.W.nsIn K mainGlobals "read_measure" = some (some (.ref f6))) (l6 : K.lookup f6 = some ⟨oc6, od6, .func (PySem.W.fnOf "read_measure" "read_measure" (defArgs s_read_measure) (defBody s_read_measure) (defScope s_read_measure) .none kV6 dc6 pm6 an6 cd6 ct6), sl6⟩) (c6 : PySem.W.codeIn K cd6 "read_measure" = true) (k6 : PySem.W.keepIn K (.ref f6) = true)
    (a7 : PySem.W.nsIn K mainGlobals "read_gaps" = some (some (.ref f7))) (l7 : K.lookup f7 = some ⟨oc7, od7, .func (PySem.W.fnOf "read_gaps" "read_gaps" (defArgs s_read_gaps) (defBody s_read_gaps) (defScope s_read_gaps) .none kV7 dc7 pm7 an7 cd7 ct7), sl7⟩) (c7 : PySem.W.codeIn K cd7 "read_gaps" = true) (k7 : PySem.W.keepIn K (.ref f7) = true)
    (a8 : PySem.W.nsIn K mainGlobals "read_set" = some (some (.ref f8))) (l8 : K.lookup f8 = some ⟨oc8, od8, .func (PySem.W.fnOf "read_set" "read_set" (defArgs s_read_set) (defBody s_read_set) (defScope s_read_set) .none kV8 dc8 pm8 an8 cd8 ct8), sl8⟩) (c8 : PySem.W.codeIn K cd8 "read_set" = true) (k8 : PySem.W.keepIn K (.ref f8) = true)
    (a9 : PySem.W.nsIn K mainGlobals "read_times" = some (some (.ref f9))) (l9 : K.lookup f9 = some ⟨oc9, od9, .func (PySem.W.fnOf "read_times" "read_times" (defArgs s_read_times) (defBody s_read_times) (defScope s_read_times) .none kV9 dc9 pm9 an9 cd9 ct9), sl9⟩) (c9 : PySem.W.codeIn K cd9 "read_times" = true) (k9 : PySem.W.keepIn K (.ref f9) = true)
    (a10 : PySem.W.nsIn K mainGlobals "read_job" = some (some (.ref f10))) (l10 : K.lookup f10 = some ⟨oc10, od10, .func (PySem.W.fnOf "read_job" "read_job" (defArgs s_read_job) (defBody s_read_job) (defScope s_read_job) .none kV10 dc10 pm10 an10 cd10 ct10), sl10⟩) (c10 : PySem.W.codeIn K cd10 "read_job" = true) (k10 : PySem.W.keepIn K (.ref f10) = true)
    (a11 : PySem.W.nsIn K mainGlobals "read_jobs" = some (some (.ref f11))) (l11 : K.lookup f11 = some ⟨oc11, od11, .func (PySem.W.fnOf "read_jobs" "read_jobs" (defArgs s_read_jobs) (defBody s_read_jobs) (defScope s_read_jobs) .none kV11 dc11 pm11 an11 cd11 ct11), sl11⟩) (c11 : PySem.W.codeIn K cd11 "read_jobs" = true) (k11 : PySem.W.keepIn K (.ref f11) = true)
    (a12 : PySem.W.nsIn K mainGlobals "read_copy" = some (some (.ref f12))) (l12 : K.lookup f12 = some ⟨oc12, od12, .func (PySem.W.fnOf "read_copy" "read_copy" (defArgs s_read_copy) (defBody s_read_copy) (defScope s_read_copy) .none kV12 dc12 pm12 an12 cd12 ct12), sl12⟩) (c12 : PySem.W.codeIn K cd12 "read_copy" = true) (k12 : PySem.W.keepIn K (.ref f12) = true)
    (a13 : PySem.W.nsIn K mainGlobals "_law_mixed" = some (some (.ref f13))) (l13 : K.lookup f13 = some ⟨oc13, od13, .func (PySem.W.fnOf "_law_mixed" "_law_mixed" (defArgs s_law_mixed) (defBody s_law_mixed) (defScope s_law_mixed) .none kV13 dc13 pm13 an13 cd13 ct13), sl13⟩) (c13 : PySem.W.codeIn K cd13 "_law_mixed" = true) (k13 : PySem.W.keepIn K (.ref f13) = true)
    (a14 : PySem.W.nsIn K mainGlobals "_law_word" = some (some (.ref f14))) (l14 : K.lookup f14 = some ⟨oc14, od14, .func (PySem.W.fnOf "_law_word" "_law_word" (defArgs s_law_word) (defBody s_law_word) (defScope s_law_word) .none kV14 dc14 pm14 an14 cd14 ct14), sl14⟩) (c14 : PySem.W.codeIn K cd14 "_law_word" = true) (k14 : PySem.W.keepIn K (.ref f14) = true)
    (a15 : PySem.W.nsIn K mainGlobals "_law_job" = some (some (.ref f15))) (l15 : K.lookup f15 = some ⟨oc15, od15, .func (PySem.W.fnOf "_law_job" "_law_job" (defArgs s_law_job) (defBody s_law_job) (defScope s_law_job) .none kV15 dc15 pm15 an15 cd15 ct15), sl15⟩) (c15 : PySem.W.codeIn K cd15 "_law_job" = true) (k15 : PySem.W.keepIn K (.ref f15) = true)
    (a16 : PySem.W.nsIn K mainGlobals "_law_jobs" = some (some (.ref f16))) (l16 : K.lookup f16 = some ⟨oc16, od16, .func (PySem.W.fnOf "_law_jobs" "_law_jobs" (defArgs s_law_jobs) (defBody s_law_jobs) (defScope s_law_jobs) .none kV16 dc16 pm16 an16 cd16 ct16), sl16⟩) (c16 : PySem.W.codeIn K cd16 "_law_jobs" = true) (k16 : PySem.W.keepIn K (.ref f16) = true)
    (a17 : PySem.W.nsIn K mainGlobals "_law_tell" = some (some (.ref f17))) (l17 : K.lookup f17 = some ⟨oc17, od17, .func (PySem.W.fnOf "_law_tell" "_law_tell" (defArgs s_law_tell) (defBody s_law_tell) (defScope s_law_tell) .none kV17 dc17 pm17 an17 cd17 ct17), sl17⟩) (c17 : PySem.W.codeIn K cd17 "_law_tell" = true) (k17 : PySem.W.keepIn K (.ref f17) = true)
    (a18 : PySem.W.nsIn K mainGlobals "_law_kinds" = some (some (.ref f18))) (l18 : K.lookup f18 = some ⟨oc18, od18, .func (PySem.W.fnOf "_law_kinds" "_law_kinds" (defArgs s_law_kinds) (defBody s_law_kinds) (defScope s_law_kinds) .none kV18 dc18 pm18 an18 cd18 ct18), sl18⟩) (c18 : PySem.W.codeIn K cd18 "_law_kinds" = true) (k18 : PySem.W.keepIn K (.ref f18) = true)
    (a19 : PySem.W.nsIn K mainGlobals "_law_refused" = some (some (.ref f19))) (l19 : K.lookup f19 = some ⟨oc19, od19, .func (PySem.W.fnOf "_law_refused" "_law_refused" (defArgs s_law_refused) (defBody s_law_refused) (defScope s_law_refused) .none kV19 dc19 pm19 an19 cd19 ct19), sl19⟩) (c19 : PySem.W.codeIn K cd19 "_law_refused" = true) (k19 : PySem.W.keepIn K (.ref f19) = true)
    (a20 : PySem.W.nsIn K mainGlobals "_law_odd" = some (some (.ref f20))) (l20 : K.lookup f20 = some ⟨oc20, od20, .func (PySem.W.fnOf "_law_odd" "_law_odd" (defArgs s_law_odd) (defBody s_law_odd) (defScope s_law_odd) .none kV20 dc20 pm20 an20 cd20 ct20), sl20⟩) (c20 : PySem.W.codeIn K cd20 "_law_odd" = true) (k20 : PySem.W.keepIn K (.ref f20) = true)
    (a21 : PySem.W.nsIn K mainGlobals "_law_odd_too" = some (some (.ref f21))) (l21 : K.lookup f21 = some ⟨oc21, od21, .func (PySem.W.fnOf "_law_odd_too" "_law_odd_too" (defArgs s_law_odd_too) (defBody s_law_odd_too) (defScope s_law_odd_too) .none kV21 dc21 pm21 an21 cd21 ct21), sl21⟩) (c21 : PySem.W.codeIn K cd21 "_law_odd_too" = true) (k21 : PySem.W.keepIn K (.ref f21) = true)
    (a22 : PySem.W.nsIn K mainGlobals "_law_spoiled" = some (some (.ref f22))) (l22 : K.lookup f22 = some ⟨oc22, od22, .func (PySem.W.fnOf "_law_spoiled" "_law_spoiled" (defArgs s_law_spoiled) (defBody s_law_spoiled) (defScope s_law_spoiled) .none kV22 dc22 pm22 an22 cd22 ct22), sl22⟩) (c22 : PySem.W.codeIn K cd22 "_law_spoiled" = true) (k22 : PySem.W.keepIn K (.ref f22) = true)
    (a23 : PySem.W.nsIn K mainGlobals "law" = some (some (.ref f23))) (l23 : K.lookup f23 = some ⟨oc23, od23, .func (PySem.W.fnOf "law" "law" (defArgs s_law) (defBody s_law) (defScope s_law) .none kV23 dc23 pm23 an23 cd23 ct23), sl23⟩) (c23 : PySem.W.codeIn K cd23 "law" = true) (k23 : PySem.W.keepIn K (.ref f23) = true)
    {c_CasterError : Addr} (ca_CasterError : PySem.W.nsIn K mainGlobals "CasterError" = some (some (.ref c_CasterError)))
    (ci_CasterError : PySem.W.isClsIn K c_CasterError = true) (ct_CasterError : PySem.W.typeIn K (.ref c_CasterError) = some (.type "type"))
    {c_NoCase : Addr} (ca_NoCase : PySem.W.nsIn K mainGlobals "NoCase" = some (some (.ref c_NoCase)))
    (ci_NoCase : PySem.W.isClsIn K c_NoCase = true) (ct_NoCase : PySem.W.typeIn K (.ref c_NoCase) = some (.type "type"))
    {c_TooMany : Addr} (ca_TooMany : PySem.W.nsIn K mainGlobals "TooMany" = some (some (.ref c_TooMany)))
    (ci_TooMany : PySem.W.isClsIn K c_TooMany = true) (ct_TooMany : PySem.W.typeIn K (.ref c_TooMany) = some (.type "type"))
    {c_Loose : Addr} (ca_Loose : PySem.W.nsIn K mainGlobals "Loose" = some (some (.ref c_Loose)))
    (ci_Loose : PySem.W.isClsIn K c_Loose = true) (ct_Loose : PySem.W.typeIn K (.ref c_Loose) = some (.type "type"))
    {c_Tight : Addr} (ca_Tight : PySem.W.nsIn K mainGlobals "Tight" = some (some (.ref c_Tight)))
    (ci_Tight : PySem.W.isClsIn K c_Tight = true) (ct_Tight : PySem.W.typeIn K (.ref c_Tight) = some (.type "type"))
    {c_NoBreak : Addr} (ca_NoBreak : PySem.W.nsIn K mainGlobals "NoBreak" = some (some (.ref c_NoBreak)))
    (ci_NoBreak : PySem.W.isClsIn K c_NoBreak = true) (ct_NoBreak : PySem.W.typeIn K (.ref c_NoBreak) = some (.type "type"))
    {c_NoCopy : Addr} (ca_NoCopy : PySem.W.nsIn K mainGlobals "NoCopy" = some (some (.ref c_NoCopy)))
    {c_NoKeys : Addr} (ca_NoKeys : PySem.W.nsIn K mainGlobals "NoKeys" = some (some (.ref c_NoKeys)))
    (ci_NoKeys : PySem.W.isClsIn K c_NoKeys = true) (ct_NoKeys : PySem.W.typeIn K (.ref c_NoKeys) = some (.type "type"))
    {c_NoText : Addr} (ca_NoText : PySem.W.nsIn K mainGlobals "NoText" = some (some (.ref c_NoText)))
    (ci_NoText : PySem.W.isClsIn K c_NoText = true) (ct_NoText : PySem.W.typeIn K (.ref c_NoText) = some (.type "type"))
    {c_NoNumber : Addr} (ca_NoNumber : PySem.W.nsIn K mainGlobals "NoNumber" = some (some (.ref c_NoNumber)))
    (ci_NoNumber : PySem.W.isClsIn K c_NoNumber = true) (ct_NoNumber : PySem.W.typeIn K (.ref c_NoNumber) = some (.type "type"))
    {c_NoRow : Addr} (ca_NoRow : PySem.W.nsIn K mainGlobals "NoRow" = some (some (.ref c_NoRow)))
    (ci_NoRow : PySem.W.isClsIn K c_NoRow = true) (ct_NoRow : PySem.W.typeIn K (.ref c_NoRow) = some (.type "type"))
    {od_CasterError : Option Addr} {cd_CasterError : ClassData} {sl_CasterError : Array (Option Value)} (lk_CasterError : K.lookup c_CasterError = some ⟨.type "type", od_CasterError, .cls cd_CasterError, sl_CasterError⟩)
    {N_CasterError : Addr} (cN_CasterError : cd_CasterError.ns = N_CasterError) {noc_CasterError : Value} {nod_CasterError : Option Addr} {nes_CasterError : Array DictEntry} {nn_CasterError : Nat} {nsl_CasterError : Array (Option Value)} (ln_CasterError : K.lookup N_CasterError = some ⟨noc_CasterError, nod_CasterError, .dict nes_CasterError nn_CasterError, nsl_CasterError⟩)
    (le_CasterError : (nes_CasterError.toList.all fun e => match e.key with | .str _ _ => true | _ => false) = true) (ni_CasterError : PySem.W.nsIn K N_CasterError "__init__" = some none)
    {od_NoCopy : Option Addr} {cd_NoCopy : ClassData} {sl_NoCopy : Array (Option Value)} (lk_NoCopy : K.lookup c_NoCopy = some ⟨.type "type", od_NoCopy, .cls cd_NoCopy, sl_NoCopy⟩)
    {N_NoCopy : Addr} (cN_NoCopy : cd_NoCopy.ns = N_NoCopy) {noc_NoCopy : Value} {nod_NoCopy : Option Addr} {nes_NoCopy : Array DictEntry} {nn_NoCopy : Nat} {nsl_NoCopy : Array (Option Value)} (ln_NoCopy : K.lookup N_NoCopy = some ⟨noc_NoCopy, nod_NoCopy, .dict nes_NoCopy nn_NoCopy, nsl_NoCopy⟩)
    (le_NoCopy : (nes_NoCopy.toList.all fun e => match e.key with | .str _ _ => true | _ => false) = true) (ni_NoCopy : PySem.W.nsIn K N_NoCopy "__init__" = some none)
    {k0_NoCopy k1_NoCopy k2_NoCopy k3_NoCopy k5_NoCopy : Option Value} (cs_NoCopy : sl_NoCopy.toList = [k0_NoCopy, k1_NoCopy, k2_NoCopy, k3_NoCopy, some (.builtin "ValueError.__new__"), k5_NoCopy]) (cm_NoCopy : cd_NoCopy.mro = .ref c_NoCopy :: .ref c_CasterError :: bmV) (ch_NoCopy : cd_NoCopy.hasDel = false)
    (q1_NoCopy : PySem.W.findIn K (.ref c_NoCopy) "__getattribute__" = some (some (.builtin "BaseException.__getattribute__"))) (q2_NoCopy : PySem.W.findIn K (.ref c_NoCopy) "__getattr__" = some none) (q3_NoCopy : PySem.W.mroIn K c_NoCopy (.type "BaseException") = some true) (q4_NoCopy : PySem.W.mroIn K c_NoCopy (.type "object") = some true) (q5_NoCopy : PySem.W.findIn K (.ref c_NoCopy) "__class__" = some (some (.builtin "object.__class__"))) (q6_NoCopy : PySem.W.hasDictIn K c_NoCopy = true) (q7_NoCopy : PySem.W.keepIn K (.ref c_NoCopy) = true) (q8_NoCopy : PySem.W.typeIn K (.ref c_NoCopy) = some (.type "type")) (q9_NoCopy : PySem.W.mroIn K c_NoCopy (.type "ValueError") = some true)
    (b1 : PySem.W.readsIn K c_CasterError (.type "type") = true) (b2 : PySem.W.findCls K (.ref c_CasterError) (.type "type") "__init__" = some (.val (.builtin "ValueError.__init__"))) (b3 : PySem.W.specialIn K (.ref c_CasterError) "__getattribute__" = some (some (.builtin "type.__getattribute__")))
    (m_NoCopy_CasterError : PySem.W.mroIn K c_NoCopy (.ref c_CasterError) = some true)
    (m_NoCopy_NoCase : PySem.W.mroIn K c_NoCopy (.ref c_NoCase) = some false)
    (m_NoCopy_TooMany : PySem.W.mroIn K c_NoCopy (.ref c_TooMany) = some false)
    (m_NoCopy_Loose : PySem.W.mroIn K c_NoCopy (.ref c_Loose) = some false)
    (m_NoCopy_Tight : PySem.W.mroIn K c_NoCopy (.ref c_Tight) = some false)
    (m_NoCopy_NoBreak : PySem.W.mroIn K c_NoCopy (.ref c_NoBreak) = some false)
    (m_NoCopy_NoCopy : PySem.W.mroIn K c_NoCopy (.ref c_NoCopy) = some true)
    (m_NoCopy_NoKeys : PySem.W.mroIn K c_NoCopy (.ref c_NoKeys) = some false)
    (m_NoCopy_NoText : PySem.W.mroIn K c_NoCopy (.ref c_NoText) = some false)
    (m_NoCopy_NoNumber : PySem.W.mroIn K c_NoCopy (.ref c_NoNumber) = some false)
    (m_NoCopy_NoRow : PySem.W.mroIn K c_NoCopy (.ref c_NoRow) = some false)
    {t_SIGNS : Tok} (y_SIGNS : PySem.W.nsIn K mainGlobals "SIGNS" = some (some (.str "abcdefghijklmnopqrstuvwxyz.,-'" t_SIGNS)))
    {t_FIGURES : Tok} (y_FIGURES : PySem.W.nsIn K mainGlobals "FIGURES" = some (some (.str "0123456789" t_FIGURES)))
    {t_MOST_BRACKETS : Tok} (y_MOST_BRACKETS : PySem.W.nsIn K mainGlobals "MOST_BRACKETS" = some (some (.int 4 t_MOST_BRACKETS)))
    (z_ValueError : PySem.W.nsIn K mainGlobals "ValueError" = some none)
    (z_all : PySem.W.nsIn K mainGlobals "all" = some none)
    (z_int : PySem.W.nsIn K mainGlobals "int" = some none)
    (z_isinstance : PySem.W.nsIn K mainGlobals "isinstance" = some none)
    (z_len : PySem.W.nsIn K mainGlobals "len" = some none)
    (z_min : PySem.W.nsIn K mainGlobals "min" = some none)
    (z_range : PySem.W.nsIn K mainGlobals "range" = some none)
    (z_str : PySem.W.nsIn K mainGlobals "str" = some none)
    : ∃ a : Ad, Tx K mg a := by
  have D0 : D K mg "is_sign" s_is_sign ["text"] f0 _ := ⟨fun_mk l0 c0 k0, ba1 (fun _ => rfl), PySem.W.mg_of X G a0⟩
  have D1 : D K mg "is_number" s_is_number ["word"] f1 _ := ⟨fun_mk l1 c1 k1, ba1 (fun _ => rfl), PySem.W.mg_of X G a1⟩
  have D2 : D K mg "is_set_word" s_is_set_word ["word"] f2 _ := ⟨fun_mk l2 c2 k2, ba1 (fun _ => rfl), PySem.W.mg_of X G a2⟩
  have D3 : D K mg "word_at" s_word_at ["words", "at"] f3 _ := ⟨fun_mk l3 c3 k3, ba2 (fun _ _ => rfl), PySem.W.mg_of X G a3⟩
  have D4 : D K mg "read_number" s_read_number ["words", "at", "low", "high"] f4 _ := ⟨fun_mk l4 c4 k4, ba4 (fun _ _ _ _ => rfl), PySem.W.mg_of X G a4⟩
  have D5 : D K mg "look_for" s_look_for ["words", "at", "word"] f5 _ := ⟨fun_mk l5 c5 k5, ba3 (fun _ _ _ => rfl), PySem.W.mg_of X G a5⟩
  have D6 : D K mg "read_measure" s_read_measure ["words", "at"] f6 _ := ⟨fun_mk l6 c6 k6, ba2 (fun _ _ => rfl), PySem.W.mg_of X G a6⟩
  have D7 : D K mg "read_gaps" s_read_gaps ["words", "at"] f7 _ := ⟨fun_mk l7 c7 k7, ba2 (fun _ _ => rfl), PySem.W.mg_of X G a7⟩
  have D8 : D K mg "read_set" s_read_set ["words", "at"] f8 _ := ⟨fun_mk l8 c8 k8, ba2 (fun _ _ => rfl), PySem.W.mg_of X G a8⟩
  have D9 : D K mg "read_times" s_read_times ["words", "at", "brackets"] f9 _ := ⟨fun_mk l9 c9 k9, ba3 (fun _ _ _ => rfl), PySem.W.mg_of X G a9⟩
  have D10 : D K mg "read_job" s_read_job ["words", "at", "brackets"] f10 _ := ⟨fun_mk l10 c10 k10, ba3 (fun _ _ _ => rfl), PySem.W.mg_of X G a10⟩
  have D11 : D K mg "read_jobs" s_read_jobs ["words", "at", "brackets"] f11 _ := ⟨fun_mk l11 c11 k11, ba3 (fun _ _ _ => rfl), PySem.W.mg_of X G a11⟩
  have D12 : D K mg "read_copy" s_read_copy ["text"] f12 _ := ⟨fun_mk l12 c12 k12, ba1 (fun _ => rfl), PySem.W.mg_of X G a12⟩
  have D13 : D K mg "_law_mixed" s_law_mixed ["_law_cell", "_law_k"] f13 _ := ⟨fun_mk l13 c13 k13, ba2 (fun _ _ => rfl), PySem.W.mg_of X G a13⟩
  have D14 : D K mg "_law_word" s_law_word ["_law_number"] f14 _ := ⟨fun_mk l14 c14 k14, ba1 (fun _ => rfl), PySem.W.mg_of X G a14⟩
  have D15 : D K mg "_law_job" s_law_job ["_law_kind", "_law_number"] f15 _ := ⟨fun_mk l15 c15 k15, ba2 (fun _ _ => rfl), PySem.W.mg_of X G a15⟩
  have D16 : D K mg "_law_jobs" s_law_jobs ["_law_cells"] f16 _ := ⟨fun_mk l16 c16 k16, ba1 (fun _ => rfl), PySem.W.mg_of X G a16⟩
  have D17 : D K mg "_law_tell" s_law_tell ["_law_jobs_here"] f17 _ := ⟨fun_mk l17 c17 k17, ba1 (fun _ => rfl), PySem.W.mg_of X G a17⟩
  have D18 : D K mg "_law_kinds" s_law_kinds ["_law_e"] f18 _ := ⟨fun_mk l18 c18 k18, ba1 (fun _ => rfl), PySem.W.mg_of X G a18⟩
  have D19 : D K mg "_law_refused" s_law_refused ["_law_text"] f19 _ := ⟨fun_mk l19 c19 k19, ba1 (fun _ => rfl), PySem.W.mg_of X G a19⟩
  have D20 : D K mg "_law_odd" s_law_odd ["_law_number"] f20 _ := ⟨fun_mk l20 c20 k20, ba1 (fun _ => rfl), PySem.W.mg_of X G a20⟩
  have D21 : D K mg "_law_odd_too" s_law_odd_too ["_law_number"] f21 _ := ⟨fun_mk l21 c21 k21, ba1 (fun _ => rfl), PySem.W.mg_of X G a21⟩
  have D22 : D K mg "_law_spoiled" s_law_spoiled ["_law_text", "_law_number"] f22 _ := ⟨fun_mk l22 c22 k22, ba2 (fun _ _ => rfl), PySem.W.mg_of X G a22⟩
  have D23 : D K mg "law" s_law ["_law_script"] f23 _ := ⟨fun_mk l23 c23 k23, ba1 (fun _ => rfl), PySem.W.mg_of X G a23⟩
  have F_CasterError : NsF K cd_CasterError.ns none := by rw [cN_CasterError]; exact ⟨⟨_, _, _, _, _, ln_CasterError, by rw [← Array.all_toList]; exact le_CasterError⟩, ni_CasterError⟩
  have F_NoCopy : NsF K cd_NoCopy.ns none := by rw [cN_NoCopy]; exact ⟨⟨_, _, _, _, _, ln_NoCopy, by rw [← Array.all_toList]; exact le_NoCopy⟩, ni_NoCopy⟩
  have TL : PySem.W.tailIn K bmV (.ref c_CasterError :: bmV) = true := tail_mk lk_CasterError F_CasterError
  have E_CasterError : CL K mg "CasterError" c_CasterError := ⟨PySem.W.mg_of X G ca_CasterError, ci_CasterError, ct_CasterError⟩
  have E_NoCase : CL K mg "NoCase" c_NoCase := ⟨PySem.W.mg_of X G ca_NoCase, ci_NoCase, ct_NoCase⟩
  have E_TooMany : CL K mg "TooMany" c_TooMany := ⟨PySem.W.mg_of X G ca_TooMany, ci_TooMany, ct_TooMany⟩
  have E_Loose : CL K mg "Loose" c_Loose := ⟨PySem.W.mg_of X G ca_Loose, ci_Loose, ct_Loose⟩
  have E_Tight : CL K mg "Tight" c_Tight := ⟨PySem.W.mg_of X G ca_Tight, ci_Tight, ct_Tight⟩
  have E_NoBreak : CL K mg "NoBreak" c_NoBreak := ⟨PySem.W.mg_of X G ca_NoBreak, ci_NoBreak, ct_NoBreak⟩
  have X_NoCopy := xcls_mk lk_NoCopy cm_NoCopy cs_NoCopy ch_NoCopy TL F_NoCopy
  have Q_NoCopy := xq_of (xq_mk q1_NoCopy q2_NoCopy q3_NoCopy q4_NoCopy q5_NoCopy q6_NoCopy q7_NoCopy q8_NoCopy q9_NoCopy)
  have E_NoCopy : CN K mg "NoCopy" c_NoCopy := ⟨PySem.W.mg_of X G ca_NoCopy, X_NoCopy, Q_NoCopy⟩
  have E_NoKeys : CL K mg "NoKeys" c_NoKeys := ⟨PySem.W.mg_of X G ca_NoKeys, ci_NoKeys, ct_NoKeys⟩
  have E_NoText : CL K mg "NoText" c_NoText := ⟨PySem.W.mg_of X G ca_NoText, ci_NoText, ct_NoText⟩
  have E_NoNumber : CL K mg "NoNumber" c_NoNumber := ⟨PySem.W.mg_of X G ca_NoNumber, ci_NoNumber, ct_NoNumber⟩
  have E_NoRow : CL K mg "NoRow" c_NoRow := ⟨PySem.W.mg_of X G ca_NoRow, ci_NoRow, ct_NoRow⟩
  exact ⟨⟨f0, _, f1, _, f2, _, f3, _, f4, _, f5, _, f6, _, f7, _, f8, _, f9, _, f10, _, f11, _, f12, _, f13, _, f14, _, f15, _, f16, _, f17, _, f18, _, f19, _, f20, _, f21, _, f22, _, f23, _, c_CasterError, c_NoCase, c_TooMany, c_Loose, c_Tight, c_NoBreak, c_NoCopy, c_NoKeys, c_NoText, c_NoNumber, c_NoRow, t_SIGNS, t_FIGURES, t_MOST_BRACKETS⟩, ⟨D0, D1, D2, D3, D4, D5, D6, D7, D8, D9, D10, D11, D12, D13, D14, D15, D16, D17, D18, D19, D20, D21, D22, D23, E_CasterError, E_NoCase, E_TooMany, E_Loose, E_Tight, E_NoBreak, E_NoCopy, E_NoKeys, E_NoText, E_NoNumber, E_NoRow, ⟨b1, b2, b3⟩, m_NoCopy_CasterError, m_NoCopy_NoCase, m_NoCopy_TooMany, m_NoCopy_Loose, m_NoCopy_Tight, m_NoCopy_NoBreak, m_NoCopy_NoCopy, m_NoCopy_NoKeys, m_NoCopy_NoText, m_NoCopy_NoNumber, m_NoCopy_NoRow, PySem.W.mg_of X G y_SIGNS, PySem.W.mg_of X G y_FIGURES, PySem.W.mg_of X G y_MOST_BRACKETS, PySem.W.mg_none_of X G z_ValueError, PySem.W.mg_none_of X G z_all, PySem.W.mg_none_of X G z_int, PySem.W.mg_none_of X G z_isinstance, PySem.W.mg_none_of X G z_len, PySem.W.mg_none_of X G z_min, PySem.W.mg_none_of X G z_range, PySem.W.mg_none_of X G z_str⟩⟩
section
open PySem.W PyProof.Rows
open Hd (qr qi qs qt qb qe qF qG qT qN qf qg qC HD)
noncomputable def h_3 (P : Params) : Obj := ⟨(qt "dict"), .none, (.dict #[qe P "__name__" 165 (qs "law_linecaster_k29_no_copy" 539), qe P "__doc__" 166 .none, qe P "__package__" 167 .none, qe P "__loader__" 168 (qb "__main__.__loader__#opaque"), qe P "__spec__" 169 .none, qe P "__annotations__" 170 (qr 6), qe P "__builtins__" 171 (qr 4), qe P "__file__" 173 (qs "/claim/cut.py" 172), qe P "__cached__" 174 .none, qe P "CasterError" 206 (qr 24), qe P "NoCase" 231 (qr 44), qe P "TooMany" 247 (qr 56), qe P "Loose" 272 (qr 75), qe P "Tight" 297 (qr 94), qe P "NoBreak" 322 (qr 113), qe P "NoCopy" 338 (qr 125), qe P "NoKeys" 363 (qr 144), qe P "NoText" 379 (qr 156), qe P "NoNumber" 395 (qr 168), qe P "NoRow" 411 (qr 180), qe P "SIGNS" 415 (qs "abcdefghijklmnopqrstuvwxyz.,-'" 414), qe P "is_sign" 422 (qr 189), qe P "FIGURES" 426 (qs "0123456789" 425), qe P "MOST_BRACKETS" 428 (.int (4) 427), qe P "is_number" 434 (qr 194), qe P "is_set_word" 440 (qr 199), qe P "word_at" 448 (qr 206), qe P "read_number" 459 (qr 213), qe P "look_for" 468 (qr 220), qe P "read_measure" 476 (qr 227), qe P "read_gaps" 487 (qr 234), qe P "read_set" 496 (qr 241), qe P "read_times" 508 (qr 248), qe P "read_job" 517 (qr 255), qe P "read_jobs" 528 (qr 262), qe P "read_copy" 538 (qr 269), qe P "_law_mixed" 548 (qr 276), qe P "_law_word" 558 (qr 283), qe P "_law_job" 564 (qr 288), qe P "_law_jobs" 577 (qr 295), qe P "_law_tell" 583 (qr 300), qe P "_law_kinds" 591 (qr 307), qe P "_law_refused" 600 (qr 314), qe P "_law_odd" 608 (qr 321), qe P "_law_odd_too" 616 (qr 328), qe P "_law_spoiled" 626 (qr 335), qe P "law" 636 (qr 342)] 47), #[]⟩
noncomputable def h_11 : Obj := qT []
noncomputable def h_12 : Obj := qN [(qi 2), (qi 0), (qr 20), (qi 4), (qi 0), (qr 33), (qi 9), (qi 0), (qr 52), (qi 11), (qi 0), (qr 64), (qi 16), (qi 0), (qr 83), (qi 21), (qi 0), (qr 102), (qi 26), (qi 0), (qr 121), (qi 28), (qi 0), (qr 133), (qi 33), (qi 0), (qr 152), (qi 35), (qi 0), (qr 164), (qi 37), (qi 0), (qr 176), (qi 41), (qi 0), (qr 188), (qi 46), (qi 0), (qr 193), (qi 50), (qi 0), (qr 198), (qi 52), (qi 0), (qr 205), (qi 54), (qi 0), (qr 212), (qi 59), (qi 0), (qr 219), (qi 62), (qi 0), (qr 226), (qi 64), (qi 0), (qr 233), (qi 69), (qi 0), (qr 240), (qi 77), (qi 0), (qr 247), (qi 88), (qi 0), (qr 254), (qi 96), (qi 0), (qr 261), (qi 102), (qi 0), (qr 268), (qi 109), (qi 0), (qr 275), (qi 111), (qi 0), (qr 282), (qi 121), (qi 0), (qr 287), (qi 129), (qi 0), (qr 294), (qi 149), (qi 0), (qr 299), (qi 159), (qi 0), (qr 306), (qi 164), (qi 0), (qr 313), (qi 171), (qi 0), (qr 320), (qi 182), (qi 0), (qr 327), (qi 191), (qi 0), (qr 334), (qi 200), (qi 0), (qr 341)]
noncomputable def h_13 : Obj := qC "<module>" "<module>" 182 1 0 0 0 0 11 false 12 .none .none .none .none 185 186
noncomputable def h_14 : Obj := ⟨(qt "frame"), .none, .plain, #[(.some (qr 13)), (.some (qr 3)), (.some (qr 3)), .none, (.some (qs "__main__" 164)), .none, (.some (qr 0))]⟩
noncomputable def h_15 : Obj := qT [(qt "ValueError")]
noncomputable def h_16 : Obj := ⟨(qt "builtin_function_or_method"), .none, (.fields #[(qb "type.__prepare__"), (qt "type")]), #[]⟩
noncomputable def h_17 (P : Params) : Obj := ⟨(qt "dict"), .none, (.dict #[qe P "__module__" 196 (qs "linecaster.errors" 187), qe P "__qualname__" 198 (qs "CasterError" 197), qe P "__firstlineno__" 200 (.int (2) 199), qe P "__static_attributes__" 201 (qr 22)] 4), #[]⟩
noncomputable def h_18 : Obj := qT []
noncomputable def h_19 : Obj := qN []
noncomputable def h_20 : Obj := qC "CasterError" "CasterError" 191 2 0 0 0 0 18 false 19 .none .none .none .none 194 195
noncomputable def h_21 : Obj := ⟨(qt "frame"), .none, .plain, #[(.some (qr 20)), (.some (qr 3)), (.some (qr 17)), .none, (.some (qs "linecaster.errors" 187)), .none, (.some (qr 0))]⟩
noncomputable def h_22 : Obj := qT []
noncomputable def h_23 (P : Params) : Obj := ⟨(qt "dict"), .none, (.dict #[qe P "__module__" 196 (qs "linecaster.errors" 187), qe P "__firstlineno__" 200 (.int (2) 199), qe P "__static_attributes__" 201 (qr 22), qe P "__weakref__" 203 (qr 25), qe P "__doc__" 204 .none] 3), #[]⟩
noncomputable def h_24 : Obj := ⟨(qt "type"), .none, (.cls ⟨(.ofString "CasterError"), [(qt "ValueError")], [(qr 24), (qt "ValueError"), (qt "Exception"), (qt "BaseException"), (qt "object")], 23, (.ofString "CasterError"), true, [], [(qr 44), (qr 56), (qr 75), (qr 94), (qr 113), (qr 125), (qr 144), (qr 156), (qr 168), (qr 180)], false, .none, false⟩), #[(.some (qr 15)), .none, (.some (qs "CasterError" 189)), (.some (qs "CasterError" 197)), (.some (qb "ValueError.__new__")), (.some (.bool true))]⟩
noncomputable def h_25 : Obj := ⟨(qt "getset_descriptor"), .none, (.fields #[(qs "__weakref__" 202), (qr 24), (qb "ExceptionGroup.__weakref__"), .none]), #[]⟩
noncomputable def h_26 : Obj := ⟨(qt "super"), .none, (.fields #[(qr 24), (qr 24), (qr 24)]), #[]⟩
noncomputable def h_27 : Obj := ⟨(qt "builtin_function_or_method"), .none, (.fields #[(qb "object.__init_subclass__"), (qr 24)]), #[]⟩
noncomputable def h_28 : Obj := qT [(qr 24)]
noncomputable def h_29 : Obj := ⟨(qt "builtin_function_or_method"), .none, (.fields #[(qb "type.__prepare__"), (qt "type")]), #[]⟩
noncomputable def h_30 (P : Params) : Obj := ⟨(qt "dict"), .none, (.dict #[qe P "__module__" 214 (qs "linecaster.errors" 187), qe P "__qualname__" 216 (qs "NoCase" 215), qe P "__firstlineno__" 218 (.int (4) 217), qe P "__init__" 226 (qr 41), qe P "__static_attributes__" 228 (qr 42)] 5), #[]⟩
noncomputable def h_31 : Obj := qT []
noncomputable def h_32 : Obj := qN [(qi 6), (qi 4), (qr 40)]
noncomputable def h_33 : Obj := qC "NoCase" "NoCase" 209 4 0 0 0 0 31 false 32 .none .none .none .none 212 213
noncomputable def h_34 : Obj := ⟨(qt "frame"), .none, .plain, #[(.some (qr 33)), (.some (qr 3)), (.some (qr 30)), .none, (.some (qs "linecaster.errors" 187)), .none, (.some (qr 0))]⟩
noncomputable def h_35 : Obj := qT []
noncomputable def h_36 : Obj := qN []
noncomputable def h_37 : Obj := qT [(qs "self" 222), (qs "at" 223)]
noncomputable def h_38 : Obj := qT []
noncomputable def h_39 : Obj := qg "__init__" "NoCase.__init__" (inClass (top 2) 0)
noncomputable def h_40 : Obj := qC "__init__" "NoCase.__init__" 219 6 2 0 0 3 35 true 36 .none (qr 37) (qr 38) (qr 39) 224 225
noncomputable def h_41 : Obj := qf "__init__" "NoCase.__init__" (inClass (top 2) 0) (qs "linecaster.errors" 187) (qr 40)
noncomputable def h_42 : Obj := qT [(qs "at" 227)]
noncomputable def h_43 (P : Params) : Obj := ⟨(qt "dict"), .none, (.dict #[qe P "__module__" 214 (qs "linecaster.errors" 187), qe P "__firstlineno__" 218 (.int (4) 217), qe P "__init__" 226 (qr 41), qe P "__static_attributes__" 228 (qr 42), qe P "__doc__" 229 .none] 2), #[]⟩
noncomputable def h_44 : Obj := ⟨(qt "type"), .none, (.cls ⟨(.ofString "NoCase"), [(qr 24)], [(qr 44), (qr 24), (qt "ValueError"), (qt "Exception"), (qt "BaseException"), (qt "object")], 43, (.ofString "NoCase"), true, [], [], false, .none, false⟩), #[(.some (qr 28)), .none, (.some (qs "NoCase" 207)), (.some (qs "NoCase" 215)), (.some (qb "ValueError.__new__")), (.some (.bool true))]⟩
noncomputable def h_45 : Obj := ⟨(qt "super"), .none, (.fields #[(qr 44), (qr 44), (qr 44)]), #[]⟩
noncomputable def h_46 : Obj := ⟨(qt "builtin_function_or_method"), .none, (.fields #[(qb "object.__init_subclass__"), (qr 44)]), #[]⟩
noncomputable def h_47 : Obj := qT [(qr 24)]
noncomputable def h_48 : Obj := ⟨(qt "builtin_function_or_method"), .none, (.fields #[(qb "type.__prepare__"), (qt "type")]), #[]⟩
noncomputable def h_49 (P : Params) : Obj := ⟨(qt "dict"), .none, (.dict #[qe P "__module__" 239 (qs "linecaster.errors" 187), qe P "__qualname__" 241 (qs "TooMany" 240), qe P "__firstlineno__" 243 (.int (9) 242), qe P "__static_attributes__" 244 (qr 54)] 4), #[]⟩
noncomputable def h_50 : Obj := qT []
noncomputable def h_51 : Obj := qN []
noncomputable def h_52 : Obj := qC "TooMany" "TooMany" 234 9 0 0 0 0 50 false 51 .none .none .none .none 237 238
noncomputable def h_53 : Obj := ⟨(qt "frame"), .none, .plain, #[(.some (qr 52)), (.some (qr 3)), (.some (qr 49)), .none, (.some (qs "linecaster.errors" 187)), .none, (.some (qr 0))]⟩
noncomputable def h_54 : Obj := qT []
noncomputable def h_55 (P : Params) : Obj := ⟨(qt "dict"), .none, (.dict #[qe P "__module__" 239 (qs "linecaster.errors" 187), qe P "__firstlineno__" 243 (.int (9) 242), qe P "__static_attributes__" 244 (qr 54), qe P "__doc__" 245 .none] 2), #[]⟩
noncomputable def h_56 : Obj := ⟨(qt "type"), .none, (.cls ⟨(.ofString "TooMany"), [(qr 24)], [(qr 56), (qr 24), (qt "ValueError"), (qt "Exception"), (qt "BaseException"), (qt "object")], 55, (.ofString "TooMany"), true, [], [], false, .none, false⟩), #[(.some (qr 47)), .none, (.some (qs "TooMany" 232)), (.some (qs "TooMany" 240)), (.some (qb "ValueError.__new__")), (.some (.bool true))]⟩
noncomputable def h_57 : Obj := ⟨(qt "super"), .none, (.fields #[(qr 56), (qr 56), (qr 56)]), #[]⟩
noncomputable def h_58 : Obj := ⟨(qt "builtin_function_or_method"), .none, (.fields #[(qb "object.__init_subclass__"), (qr 56)]), #[]⟩
noncomputable def h_59 : Obj := qT [(qr 24)]
noncomputable def h_60 : Obj := ⟨(qt "builtin_function_or_method"), .none, (.fields #[(qb "type.__prepare__"), (qt "type")]), #[]⟩
noncomputable def h_61 (P : Params) : Obj := ⟨(qt "dict"), .none, (.dict #[qe P "__module__" 255 (qs "linecaster.errors" 187), qe P "__qualname__" 257 (qs "Loose" 256), qe P "__firstlineno__" 259 (.int (11) 258), qe P "__init__" 267 (qr 72), qe P "__static_attributes__" 269 (qr 73)] 5), #[]⟩
noncomputable def h_62 : Obj := qT []
noncomputable def h_63 : Obj := qN [(qi 13), (qi 4), (qr 71)]
noncomputable def h_64 : Obj := qC "Loose" "Loose" 250 11 0 0 0 0 62 false 63 .none .none .none .none 253 254
noncomputable def h_65 : Obj := ⟨(qt "frame"), .none, .plain, #[(.some (qr 64)), (.some (qr 3)), (.some (qr 61)), .none, (.some (qs "linecaster.errors" 187)), .none, (.some (qr 0))]⟩
noncomputable def h_66 : Obj := qT []
noncomputable def h_67 : Obj := qN []
noncomputable def h_68 : Obj := qT [(qs "self" 263), (qs "by" 264)]
noncomputable def h_69 : Obj := qT []
noncomputable def h_70 : Obj := qg "__init__" "Loose.__init__" (inClass (top 4) 0)
noncomputable def h_71 : Obj := qC "__init__" "Loose.__init__" 260 13 2 0 0 3 66 true 67 .none (qr 68) (qr 69) (qr 70) 265 266
noncomputable def h_72 : Obj := qf "__init__" "Loose.__init__" (inClass (top 4) 0) (qs "linecaster.errors" 187) (qr 71)
noncomputable def h_73 : Obj := qT [(qs "by" 268)]
noncomputable def h_74 (P : Params) : Obj := ⟨(qt "dict"), .none, (.dict #[qe P "__module__" 255 (qs "linecaster.errors" 187), qe P "__firstlineno__" 259 (.int (11) 258), qe P "__init__" 267 (qr 72), qe P "__static_attributes__" 269 (qr 73), qe P "__doc__" 270 .none] 2), #[]⟩
noncomputable def h_75 : Obj := ⟨(qt "type"), .none, (.cls ⟨(.ofString "Loose"), [(qr 24)], [(qr 75), (qr 24), (qt "ValueError"), (qt "Exception"), (qt "BaseException"), (qt "object")], 74, (.ofString "Loose"), true, [], [], false, .none, false⟩), #[(.some (qr 59)), .none, (.some (qs "Loose" 248)), (.some (qs "Loose" 256)), (.some (qb "ValueError.__new__")), (.some (.bool true))]⟩
noncomputable def h_76 : Obj := ⟨(qt "super"), .none, (.fields #[(qr 75), (qr 75), (qr 75)]), #[]⟩
noncomputable def h_77 : Obj := ⟨(qt "builtin_function_or_method"), .none, (.fields #[(qb "object.__init_subclass__"), (qr 75)]), #[]⟩
noncomputable def h_78 : Obj := qT [(qr 24)]
noncomputable def h_79 : Obj := ⟨(qt "builtin_function_or_method"), .none, (.fields #[(qb "type.__prepare__"), (qt "type")]), #[]⟩
noncomputable def h_80 (P : Params) : Obj := ⟨(qt "dict"), .none, (.dict #[qe P "__module__" 280 (qs "linecaster.errors" 187), qe P "__qualname__" 282 (qs "Tight" 281), qe P "__firstlineno__" 284 (.int (16) 283), qe P "__init__" 292 (qr 91), qe P "__static_attributes__" 294 (qr 92)] 5), #[]⟩
noncomputable def h_81 : Obj := qT []
noncomputable def h_82 : Obj := qN [(qi 18), (qi 4), (qr 90)]
noncomputable def h_83 : Obj := qC "Tight" "Tight" 275 16 0 0 0 0 81 false 82 .none .none .none .none 278 279
noncomputable def h_84 : Obj := ⟨(qt "frame"), .none, .plain, #[(.some (qr 83)), (.some (qr 3)), (.some (qr 80)), .none, (.some (qs "linecaster.errors" 187)), .none, (.some (qr 0))]⟩
noncomputable def h_85 : Obj := qT []
noncomputable def h_86 : Obj := qN []
noncomputable def h_87 : Obj := qT [(qs "self" 288), (qs "by" 289)]
noncomputable def h_88 : Obj := qT []
noncomputable def h_89 : Obj := qg "__init__" "Tight.__init__" (inClass (top 5) 0)
noncomputable def h_90 : Obj := qC "__init__" "Tight.__init__" 285 18 2 0 0 3 85 true 86 .none (qr 87) (qr 88) (qr 89) 290 291
noncomputable def h_91 : Obj := qf "__init__" "Tight.__init__" (inClass (top 5) 0) (qs "linecaster.errors" 187) (qr 90)
noncomputable def h_92 : Obj := qT [(qs "by" 293)]
noncomputable def h_93 (P : Params) : Obj := ⟨(qt "dict"), .none, (.dict #[qe P "__module__" 280 (qs "linecaster.errors" 187), qe P "__firstlineno__" 284 (.int (16) 283), qe P "__init__" 292 (qr 91), qe P "__static_attributes__" 294 (qr 92), qe P "__doc__" 295 .none] 2), #[]⟩
noncomputable def h_94 : Obj := ⟨(qt "type"), .none, (.cls ⟨(.ofString "Tight"), [(qr 24)], [(qr 94), (qr 24), (qt "ValueError"), (qt "Exception"), (qt "BaseException"), (qt "object")], 93, (.ofString "Tight"), true, [], [], false, .none, false⟩), #[(.some (qr 78)), .none, (.some (qs "Tight" 273)), (.some (qs "Tight" 281)), (.some (qb "ValueError.__new__")), (.some (.bool true))]⟩
noncomputable def h_95 : Obj := ⟨(qt "super"), .none, (.fields #[(qr 94), (qr 94), (qr 94)]), #[]⟩
noncomputable def h_96 : Obj := ⟨(qt "builtin_function_or_method"), .none, (.fields #[(qb "object.__init_subclass__"), (qr 94)]), #[]⟩
noncomputable def h_97 : Obj := qT [(qr 24)]
noncomputable def h_98 : Obj := ⟨(qt "builtin_function_or_method"), .none, (.fields #[(qb "type.__prepare__"), (qt "type")]), #[]⟩
noncomputable def h_99 (P : Params) : Obj := ⟨(qt "dict"), .none, (.dict #[qe P "__module__" 305 (qs "linecaster.errors" 187), qe P "__qualname__" 307 (qs "NoBreak" 306), qe P "__firstlineno__" 309 (.int (21) 308), qe P "__init__" 317 (qr 110), qe P "__static_attributes__" 319 (qr 111)] 5), #[]⟩
noncomputable def h_100 : Obj := qT []
noncomputable def h_101 : Obj := qN [(qi 23), (qi 4), (qr 109)]
noncomputable def h_102 : Obj := qC "NoBreak" "NoBreak" 300 21 0 0 0 0 100 false 101 .none .none .none .none 303 304
noncomputable def h_103 : Obj := ⟨(qt "frame"), .none, .plain, #[(.some (qr 102)), (.some (qr 3)), (.some (qr 99)), .none, (.some (qs "linecaster.errors" 187)), .none, (.some (qr 0))]⟩
noncomputable def h_104 : Obj := qT []
noncomputable def h_105 : Obj := qN []
noncomputable def h_106 : Obj := qT [(qs "self" 313), (qs "words" 314)]
noncomputable def h_107 : Obj := qT []
noncomputable def h_108 : Obj := qg "__init__" "NoBreak.__init__" (inClass (top 6) 0)
noncomputable def h_109 : Obj := qC "__init__" "NoBreak.__init__" 310 23 2 0 0 3 104 true 105 .none (qr 106) (qr 107) (qr 108) 315 316
noncomputable def h_110 : Obj := qf "__init__" "NoBreak.__init__" (inClass (top 6) 0) (qs "linecaster.errors" 187) (qr 109)
noncomputable def h_111 : Obj := qT [(qs "words" 318)]
noncomputable def h_112 (P : Params) : Obj := ⟨(qt "dict"), .none, (.dict #[qe P "__module__" 305 (qs "linecaster.errors" 187), qe P "__firstlineno__" 309 (.int (21) 308), qe P "__init__" 317 (qr 110), qe P "__static_attributes__" 319 (qr 111), qe P "__doc__" 320 .none] 2), #[]⟩
noncomputable def h_113 : Obj := ⟨(qt "type"), .none, (.cls ⟨(.ofString "NoBreak"), [(qr 24)], [(qr 113), (qr 24), (qt "ValueError"), (qt "Exception"), (qt "BaseException"), (qt "object")], 112, (.ofString "NoBreak"), true, [], [], false, .none, false⟩), #[(.some (qr 97)), .none, (.some (qs "NoBreak" 298)), (.some (qs "NoBreak" 306)), (.some (qb "ValueError.__new__")), (.some (.bool true))]⟩
noncomputable def h_114 : Obj := ⟨(qt "super"), .none, (.fields #[(qr 113), (qr 113), (qr 113)]), #[]⟩
noncomputable def h_115 : Obj := ⟨(qt "builtin_function_or_method"), .none, (.fields #[(qb "object.__init_subclass__"), (qr 113)]), #[]⟩
noncomputable def h_116 : Obj := qT [(qr 24)]
noncomputable def h_117 : Obj := ⟨(qt "builtin_function_or_method"), .none, (.fields #[(qb "type.__prepare__"), (qt "type")]), #[]⟩
noncomputable def h_118 (P : Params) : Obj := ⟨(qt "dict"), .none, (.dict #[qe P "__module__" 330 (qs "linecaster.errors" 187), qe P "__qualname__" 332 (qs "NoCopy" 331), qe P "__firstlineno__" 334 (.int (26) 333), qe P "__static_attributes__" 335 (qr 123)] 4), #[]⟩
noncomputable def h_119 : Obj := qT []
noncomputable def h_120 : Obj := qN []
noncomputable def h_121 : Obj := qC "NoCopy" "NoCopy" 325 26 0 0 0 0 119 false 120 .none .none .none .none 328 329
noncomputable def h_122 : Obj := ⟨(qt "frame"), .none, .plain, #[(.some (qr 121)), (.some (qr 3)), (.some (qr 118)), .none, (.some (qs "linecaster.errors" 187)), .none, (.some (qr 0))]⟩
noncomputable def h_123 : Obj := qT []
noncomputable def h_124 (P : Params) : Obj := ⟨(qt "dict"), .none, (.dict #[qe P "__module__" 330 (qs "linecaster.errors" 187), qe P "__firstlineno__" 334 (.int (26) 333), qe P "__static_attributes__" 335 (qr 123), qe P "__doc__" 336 .none] 2), #[]⟩
noncomputable def h_125 : Obj := ⟨(qt "type"), .none, (.cls ⟨(.ofString "NoCopy"), [(qr 24)], [(qr 125), (qr 24), (qt "ValueError"), (qt "Exception"), (qt "BaseException"), (qt "object")], 124, (.ofString "NoCopy"), true, [], [], false, .none, false⟩), #[(.some (qr 116)), .none, (.some (qs "NoCopy" 323)), (.some (qs "NoCopy" 331)), (.some (qb "ValueError.__new__")), (.some (.bool true))]⟩
noncomputable def h_126 : Obj := ⟨(qt "super"), .none, (.fields #[(qr 125), (qr 125), (qr 125)]), #[]⟩
noncomputable def h_127 : Obj := ⟨(qt "builtin_function_or_method"), .none, (.fields #[(qb "object.__init_subclass__"), (qr 125)]), #[]⟩
noncomputable def h_128 : Obj := qT [(qr 24)]
noncomputable def h_129 : Obj := ⟨(qt "builtin_function_or_method"), .none, (.fields #[(qb "type.__prepare__"), (qt "type")]), #[]⟩
noncomputable def h_130 (P : Params) : Obj := ⟨(qt "dict"), .none, (.dict #[qe P "__module__" 346 (qs "linecaster.errors" 187), qe P "__qualname__" 348 (qs "NoKeys" 347), qe P "__firstlineno__" 350 (.int (28) 349), qe P "__init__" 358 (qr 141), qe P "__static_attributes__" 360 (qr 142)] 5), #[]⟩
noncomputable def h_131 : Obj := qT []
noncomputable def h_132 : Obj := qN [(qi 30), (qi 4), (qr 140)]
noncomputable def h_133 : Obj := qC "NoKeys" "NoKeys" 341 28 0 0 0 0 131 false 132 .none .none .none .none 344 345
noncomputable def h_134 : Obj := ⟨(qt "frame"), .none, .plain, #[(.some (qr 133)), (.some (qr 3)), (.some (qr 130)), .none, (.some (qs "linecaster.errors" 187)), .none, (.some (qr 0))]⟩
noncomputable def h_135 : Obj := qT []
noncomputable def h_136 : Obj := qN []
noncomputable def h_137 : Obj := qT [(qs "self" 354), (qs "at" 355)]
noncomputable def h_138 : Obj := qT []
noncomputable def h_139 : Obj := qg "__init__" "NoKeys.__init__" (inClass (top 8) 0)
noncomputable def h_140 : Obj := qC "__init__" "NoKeys.__init__" 351 30 2 0 0 3 135 true 136 .none (qr 137) (qr 138) (qr 139) 356 357
noncomputable def h_141 : Obj := qf "__init__" "NoKeys.__init__" (inClass (top 8) 0) (qs "linecaster.errors" 187) (qr 140)
noncomputable def h_142 : Obj := qT [(qs "at" 359)]
noncomputable def h_143 (P : Params) : Obj := ⟨(qt "dict"), .none, (.dict #[qe P "__module__" 346 (qs "linecaster.errors" 187), qe P "__firstlineno__" 350 (.int (28) 349), qe P "__init__" 358 (qr 141), qe P "__static_attributes__" 360 (qr 142), qe P "__doc__" 361 .none] 2), #[]⟩
noncomputable def h_144 : Obj := ⟨(qt "type"), .none, (.cls ⟨(.ofString "NoKeys"), [(qr 24)], [(qr 144), (qr 24), (qt "ValueError"), (qt "Exception"), (qt "BaseException"), (qt "object")], 143, (.ofString "NoKeys"), true, [], [], false, .none, false⟩), #[(.some (qr 128)), .none, (.some (qs "NoKeys" 339)), (.some (qs "NoKeys" 347)), (.some (qb "ValueError.__new__")), (.some (.bool true))]⟩
noncomputable def h_145 : Obj := ⟨(qt "super"), .none, (.fields #[(qr 144), (qr 144), (qr 144)]), #[]⟩
noncomputable def h_146 : Obj := ⟨(qt "builtin_function_or_method"), .none, (.fields #[(qb "object.__init_subclass__"), (qr 144)]), #[]⟩
noncomputable def h_147 : Obj := qT [(qr 24)]
noncomputable def h_148 : Obj := ⟨(qt "builtin_function_or_method"), .none, (.fields #[(qb "type.__prepare__"), (qt "type")]), #[]⟩
noncomputable def h_149 (P : Params) : Obj := ⟨(qt "dict"), .none, (.dict #[qe P "__module__" 371 (qs "linecaster.errors" 187), qe P "__qualname__" 373 (qs "NoText" 372), qe P "__firstlineno__" 375 (.int (33) 374), qe P "__static_attributes__" 376 (qr 154)] 4), #[]⟩
noncomputable def h_150 : Obj := qT []
noncomputable def h_151 : Obj := qN []
noncomputable def h_152 : Obj := qC "NoText" "NoText" 366 33 0 0 0 0 150 false 151 .none .none .none .none 369 370
noncomputable def h_153 : Obj := ⟨(qt "frame"), .none, .plain, #[(.some (qr 152)), (.some (qr 3)), (.some (qr 149)), .none, (.some (qs "linecaster.errors" 187)), .none, (.some (qr 0))]⟩
noncomputable def h_154 : Obj := qT []
noncomputable def h_155 (P : Params) : Obj := ⟨(qt "dict"), .none, (.dict #[qe P "__module__" 371 (qs "linecaster.errors" 187), qe P "__firstlineno__" 375 (.int (33) 374), qe P "__static_attributes__" 376 (qr 154), qe P "__doc__" 377 .none] 2), #[]⟩
noncomputable def h_156 : Obj := ⟨(qt "type"), .none, (.cls ⟨(.ofString "NoText"), [(qr 24)], [(qr 156), (qr 24), (qt "ValueError"), (qt "Exception"), (qt "BaseException"), (qt "object")], 155, (.ofString "NoText"), true, [], [], false, .none, false⟩), #[(.some (qr 147)), .none, (.some (qs "NoText" 364)), (.some (qs "NoText" 372)), (.some (qb "ValueError.__new__")), (.some (.bool true))]⟩
noncomputable def h_157 : Obj := ⟨(qt "super"), .none, (.fields #[(qr 156), (qr 156), (qr 156)]), #[]⟩
noncomputable def h_158 : Obj := ⟨(qt "builtin_function_or_method"), .none, (.fields #[(qb "object.__init_subclass__"), (qr 156)]), #[]⟩
noncomputable def h_159 : Obj := qT [(qr 24)]
noncomputable def h_160 : Obj := ⟨(qt "builtin_function_or_method"), .none, (.fields #[(qb "type.__prepare__"), (qt "type")]), #[]⟩
noncomputable def h_161 (P : Params) : Obj := ⟨(qt "dict"), .none, (.dict #[qe P "__module__" 387 (qs "linecaster.errors" 187), qe P "__qualname__" 389 (qs "NoNumber" 388), qe P "__firstlineno__" 391 (.int (35) 390), qe P "__static_attributes__" 392 (qr 166)] 4), #[]⟩
noncomputable def h_162 : Obj := qT []
noncomputable def h_163 : Obj := qN []
noncomputable def h_164 : Obj := qC "NoNumber" "NoNumber" 382 35 0 0 0 0 162 false 163 .none .none .none .none 385 386
noncomputable def h_165 : Obj := ⟨(qt "frame"), .none, .plain, #[(.some (qr 164)), (.some (qr 3)), (.some (qr 161)), .none, (.some (qs "linecaster.errors" 187)), .none, (.some (qr 0))]⟩
noncomputable def h_166 : Obj := qT []
noncomputable def h_167 (P : Params) : Obj := ⟨(qt "dict"), .none, (.dict #[qe P "__module__" 387 (qs "linecaster.errors" 187), qe P "__firstlineno__" 391 (.int (35) 390), qe P "__static_attributes__" 392 (qr 166), qe P "__doc__" 393 .none] 2), #[]⟩
noncomputable def h_168 : Obj := ⟨(qt "type"), .none, (.cls ⟨(.ofString "NoNumber"), [(qr 24)], [(qr 168), (qr 24), (qt "ValueError"), (qt "Exception"), (qt "BaseException"), (qt "object")], 167, (.ofString "NoNumber"), true, [], [], false, .none, false⟩), #[(.some (qr 159)), .none, (.some (qs "NoNumber" 380)), (.some (qs "NoNumber" 388)), (.some (qb "ValueError.__new__")), (.some (.bool true))]⟩
noncomputable def h_169 : Obj := ⟨(qt "super"), .none, (.fields #[(qr 168), (qr 168), (qr 168)]), #[]⟩
noncomputable def h_170 : Obj := ⟨(qt "builtin_function_or_method"), .none, (.fields #[(qb "object.__init_subclass__"), (qr 168)]), #[]⟩
noncomputable def h_171 : Obj := qT [(qr 24)]
noncomputable def h_172 : Obj := ⟨(qt "builtin_function_or_method"), .none, (.fields #[(qb "type.__prepare__"), (qt "type")]), #[]⟩
noncomputable def h_173 (P : Params) : Obj := ⟨(qt "dict"), .none, (.dict #[qe P "__module__" 403 (qs "linecaster.errors" 187), qe P "__qualname__" 405 (qs "NoRow" 404), qe P "__firstlineno__" 407 (.int (37) 406), qe P "__static_attributes__" 408 (qr 178)] 4), #[]⟩
noncomputable def h_174 : Obj := qT []
noncomputable def h_175 : Obj := qN []
noncomputable def h_176 : Obj := qC "NoRow" "NoRow" 398 37 0 0 0 0 174 false 175 .none .none .none .none 401 402
noncomputable def h_177 : Obj := ⟨(qt "frame"), .none, .plain, #[(.some (qr 176)), (.some (qr 3)), (.some (qr 173)), .none, (.some (qs "linecaster.errors" 187)), .none, (.some (qr 0))]⟩
noncomputable def h_178 : Obj := qT []
noncomputable def h_179 (P : Params) : Obj := ⟨(qt "dict"), .none, (.dict #[qe P "__module__" 403 (qs "linecaster.errors" 187), qe P "__firstlineno__" 407 (.int (37) 406), qe P "__static_attributes__" 408 (qr 178), qe P "__doc__" 409 .none] 2), #[]⟩
noncomputable def h_180 : Obj := ⟨(qt "type"), .none, (.cls ⟨(.ofString "NoRow"), [(qr 24)], [(qr 180), (qr 24), (qt "ValueError"), (qt "Exception"), (qt "BaseException"), (qt "object")], 179, (.ofString "NoRow"), true, [], [], false, .none, false⟩), #[(.some (qr 171)), .none, (.some (qs "NoRow" 396)), (.some (qs "NoRow" 404)), (.some (qb "ValueError.__new__")), (.some (.bool true))]⟩
noncomputable def h_181 : Obj := ⟨(qt "super"), .none, (.fields #[(qr 180), (qr 180), (qr 180)]), #[]⟩
noncomputable def h_182 : Obj := ⟨(qt "builtin_function_or_method"), .none, (.fields #[(qb "object.__init_subclass__"), (qr 180)]), #[]⟩
noncomputable def h_183 : Obj := qT []
noncomputable def h_184 : Obj := qN []
noncomputable def h_185 : Obj := qT [(qs "text" 419)]
noncomputable def h_186 : Obj := qT []
noncomputable def h_187 : Obj := qg "is_sign" "is_sign" (top 14)
noncomputable def h_188 : Obj := qC "is_sign" "is_sign" 416 41 1 0 0 3 183 true 184 .none (qr 185) (qr 186) (qr 187) 420 421
noncomputable def h_189 : Obj := qf "is_sign" "is_sign" (top 14) (qs "linecaster.cases" 412) (qr 188)
noncomputable def h_190 : Obj := qT []
noncomputable def h_191 : Obj := qN []
noncomputable def h_192 : Obj := qg "is_number" "is_number" (top 18)
noncomputable def h_193 : Obj := qC "is_number" "is_number" 429 46 1 0 0 3 190 true 191 .none .none .none (qr 192) 432 433
noncomputable def h_194 : Obj := qf "is_number" "is_number" (top 18) (qs "linecaster.copies" 423) (qr 193)
noncomputable def h_195 : Obj := qT []
noncomputable def h_196 : Obj := qN []
noncomputable def h_197 : Obj := qg "is_set_word" "is_set_word" (top 19)
noncomputable def h_198 : Obj := qC "is_set_word" "is_set_word" 435 50 1 0 0 3 195 true 196 .none .none .none (qr 197) 438 439
noncomputable def h_199 : Obj := qf "is_set_word" "is_set_word" (top 19) (qs "linecaster.copies" 423) (qr 198)
noncomputable def h_200 : Obj := qT []
noncomputable def h_201 : Obj := qN []
noncomputable def h_202 : Obj := qT [(qs "words" 444), (qs "at" 445)]
noncomputable def h_203 : Obj := qT []
noncomputable def h_204 : Obj := qg "word_at" "word_at" (top 20)
noncomputable def h_205 : Obj := qC "word_at" "word_at" 441 52 2 0 0 3 200 true 201 .none (qr 202) (qr 203) (qr 204) 446 447
noncomputable def h_206 : Obj := qf "word_at" "word_at" (top 20) (qs "linecaster.copies" 423) (qr 205)
noncomputable def h_207 : Obj := qT []
noncomputable def h_208 : Obj := qN []
noncomputable def h_209 : Obj := qT [(qs "words" 452), (qs "at" 453), (qs "low" 454), (qs "high" 455), (qs "word" 456)]
noncomputable def h_210 : Obj := qT []
noncomputable def h_211 : Obj := qg "read_number" "read_number" (top 21)
noncomputable def h_212 : Obj := qC "read_number" "read_number" 449 54 4 0 0 3 207 true 208 .none (qr 209) (qr 210) (qr 211) 457 458
noncomputable def h_213 : Obj := qf "read_number" "read_number" (top 21) (qs "linecaster.copies" 423) (qr 212)
noncomputable def h_214 : Obj := qT []
noncomputable def h_215 : Obj := qN []
noncomputable def h_216 : Obj := qT [(qs "words" 463), (qs "at" 464), (qs "word" 465)]
noncomputable def h_217 : Obj := qT []
noncomputable def h_218 : Obj := qg "look_for" "look_for" (top 22)
noncomputable def h_219 : Obj := qC "look_for" "look_for" 460 59 3 0 0 3 214 true 215 .none (qr 216) (qr 217) (qr 218) 466 467
noncomputable def h_220 : Obj := qf "look_for" "look_for" (top 22) (qs "linecaster.copies" 423) (qr 219)
noncomputable def h_221 : Obj := qT []
noncomputable def h_222 : Obj := qN []
noncomputable def h_223 : Obj := qT [(qs "words" 472), (qs "at" 473)]
noncomputable def h_224 : Obj := qT []
noncomputable def h_225 : Obj := qg "read_measure" "read_measure" (top 23)
noncomputable def h_226 : Obj := qC "read_measure" "read_measure" 469 62 2 0 0 3 221 true 222 .none (qr 223) (qr 224) (qr 225) 474 475
noncomputable def h_227 : Obj := qf "read_measure" "read_measure" (top 23) (qs "linecaster.copies" 423) (qr 226)
noncomputable def h_228 : Obj := qT []
noncomputable def h_229 : Obj := qN []
noncomputable def h_230 : Obj := qT [(qs "words" 480), (qs "at" 481), (qs "low" 482), (qs "ideal" 483), (qs "high" 484)]
noncomputable def h_231 : Obj := qT []
noncomputable def h_232 : Obj := qg "read_gaps" "read_gaps" (top 24)
noncomputable def h_233 : Obj := qC "read_gaps" "read_gaps" 477 64 2 0 0 3 228 true 229 .none (qr 230) (qr 231) (qr 232) 485 486
noncomputable def h_234 : Obj := qf "read_gaps" "read_gaps" (top 24) (qs "linecaster.copies" 423) (qr 233)
noncomputable def h_235 : Obj := qT []
noncomputable def h_236 : Obj := qN []
noncomputable def h_237 : Obj := qT [(qs "words" 491), (qs "at" 492), (qs "end" 493)]
noncomputable def h_238 : Obj := qT []
noncomputable def h_239 : Obj := qg "read_set" "read_set" (top 25)
noncomputable def h_240 : Obj := qC "read_set" "read_set" 488 69 2 0 0 3 235 true 236 .none (qr 237) (qr 238) (qr 239) 494 495
noncomputable def h_241 : Obj := qf "read_set" "read_set" (top 25) (qs "linecaster.copies" 423) (qr 240)
noncomputable def h_242 : Obj := qT []
noncomputable def h_243 : Obj := qN []
noncomputable def h_244 : Obj := qT [(qs "words" 500), (qs "at" 501), (qs "brackets" 502), (qs "many" 503), (qs "jobs" 504), (qs "end" 505)]
noncomputable def h_245 : Obj := qT []
noncomputable def h_246 : Obj := qg "read_times" "read_times" (top 26)
noncomputable def h_247 : Obj := qC "read_times" "read_times" 497 77 3 0 0 3 242 true 243 .none (qr 244) (qr 245) (qr 246) 506 507
noncomputable def h_248 : Obj := qf "read_times" "read_times" (top 26) (qs "linecaster.copies" 423) (qr 247)
noncomputable def h_249 : Obj := qT []
noncomputable def h_250 : Obj := qN []
noncomputable def h_251 : Obj := qT [(qs "words" 512), (qs "at" 513), (qs "brackets" 514)]
noncomputable def h_252 : Obj := qT []
noncomputable def h_253 : Obj := qg "read_job" "read_job" (top 27)
noncomputable def h_254 : Obj := qC "read_job" "read_job" 509 88 3 0 0 3 249 true 250 .none (qr 251) (qr 252) (qr 253) 515 516
noncomputable def h_255 : Obj := qf "read_job" "read_job" (top 27) (qs "linecaster.copies" 423) (qr 254)
noncomputable def h_256 : Obj := qT []
noncomputable def h_257 : Obj := qN []
noncomputable def h_258 : Obj := qT [(qs "words" 521), (qs "at" 522), (qs "brackets" 523), (qs "jobs" 524), (qs "job" 525)]
noncomputable def h_259 : Obj := qT []
noncomputable def h_260 : Obj := qg "read_jobs" "read_jobs" (top 28)
noncomputable def h_261 : Obj := qC "read_jobs" "read_jobs" 518 96 3 0 0 3 256 true 257 .none (qr 258) (qr 259) (qr 260) 526 527
noncomputable def h_262 : Obj := qf "read_jobs" "read_jobs" (top 28) (qs "linecaster.copies" 423) (qr 261)
noncomputable def h_263 : Obj := qT []
noncomputable def h_264 : Obj := qN []
noncomputable def h_265 : Obj := qT [(qs "text" 532), (qs "words" 533), (qs "jobs" 534), (qs "end" 535)]
noncomputable def h_266 : Obj := qT []
noncomputable def h_267 : Obj := qg "read_copy" "read_copy" (top 29)
noncomputable def h_268 : Obj := qC "read_copy" "read_copy" 529 102 1 0 0 3 263 true 264 .none (qr 265) (qr 266) (qr 267) 536 537
noncomputable def h_269 : Obj := qf "read_copy" "read_copy" (top 29) (qs "linecaster.copies" 423) (qr 268)
noncomputable def h_270 : Obj := qT []
noncomputable def h_271 : Obj := qN []
noncomputable def h_272 : Obj := qT [(qs "_law_cell" 544), (qs "_law_k" 545)]
noncomputable def h_273 : Obj := qT []
noncomputable def h_274 : Obj := qg "_law_mixed" "_law_mixed" (top 31)
noncomputable def h_275 : Obj := qC "_law_mixed" "_law_mixed" 541 109 2 0 0 3 270 true 271 .none (qr 272) (qr 273) (qr 274) 546 547
noncomputable def h_276 : Obj := qf "_law_mixed" "_law_mixed" (top 31) (qs "law_linecaster_k29_no_copy" 539) (qr 275)
noncomputable def h_277 : Obj := qT []
noncomputable def h_278 : Obj := qN []
noncomputable def h_279 : Obj := qT [(qs "_law_number" 552), (qs "_law_signs" 553), (qs "_law_word_here" 554), (qs "_law_k" 555)]
noncomputable def h_280 : Obj := qT []
noncomputable def h_281 : Obj := qg "_law_word" "_law_word" (top 32)
noncomputable def h_282 : Obj := qC "_law_word" "_law_word" 549 111 1 0 0 3 277 true 278 .none (qr 279) (qr 280) (qr 281) 556 557
noncomputable def h_283 : Obj := qf "_law_word" "_law_word" (top 32) (qs "law_linecaster_k29_no_copy" 539) (qr 282)
noncomputable def h_284 : Obj := qT []
noncomputable def h_285 : Obj := qN []
noncomputable def h_286 : Obj := qg "_law_job" "_law_job" (top 33)
noncomputable def h_287 : Obj := qC "_law_job" "_law_job" 559 121 2 0 0 3 284 true 285 .none .none .none (qr 286) 562 563
noncomputable def h_288 : Obj := qf "_law_job" "_law_job" (top 33) (qs "law_linecaster_k29_no_copy" 539) (qr 287)
noncomputable def h_289 : Obj := qT []
noncomputable def h_290 : Obj := qN []
noncomputable def h_291 : Obj := qT [(qs "_law_cells" 568), (qs "_law_stack" 569), (qs "_law_many" 570), (qs "_law_k" 571), (qs "_law_number" 572), (qs "_law_kind" 573), (qs "_law_jobs_here" 574)]
noncomputable def h_292 : Obj := qT []
noncomputable def h_293 : Obj := qg "_law_jobs" "_law_jobs" (top 34)
noncomputable def h_294 : Obj := qC "_law_jobs" "_law_jobs" 565 129 1 0 0 3 289 true 290 .none (qr 291) (qr 292) (qr 293) 575 576
noncomputable def h_295 : Obj := qf "_law_jobs" "_law_jobs" (top 34) (qs "law_linecaster_k29_no_copy" 539) (qr 294)
noncomputable def h_296 : Obj := qT []
noncomputable def h_297 : Obj := qN []
noncomputable def h_298 : Obj := qg "_law_tell" "_law_tell" (top 35)
noncomputable def h_299 : Obj := qC "_law_tell" "_law_tell" 578 149 1 0 0 3 296 true 297 .none .none .none (qr 298) 581 582
noncomputable def h_300 : Obj := qf "_law_tell" "_law_tell" (top 35) (qs "law_linecaster_k29_no_copy" 539) (qr 299)
noncomputable def h_301 : Obj := qT []
noncomputable def h_302 : Obj := qN []
noncomputable def h_303 : Obj := qT [(qs "_law_e" 587), (qs "_law_some" 588)]
noncomputable def h_304 : Obj := qT []
noncomputable def h_305 : Obj := qg "_law_kinds" "_law_kinds" (top 36)
noncomputable def h_306 : Obj := qC "_law_kinds" "_law_kinds" 584 159 1 0 0 3 301 true 302 .none (qr 303) (qr 304) (qr 305) 589 590
noncomputable def h_307 : Obj := qf "_law_kinds" "_law_kinds" (top 36) (qs "law_linecaster_k29_no_copy" 539) (qr 306)
noncomputable def h_308 : Obj := qT []
noncomputable def h_309 : Obj := qN []
noncomputable def h_310 : Obj := qT [(qs "_law_text" 595), (qs "_law_refused_here" 596), (qs "_law_e" 597)]
noncomputable def h_311 : Obj := qT []
noncomputable def h_312 : Obj := qg "_law_refused" "_law_refused" (top 37)
noncomputable def h_313 : Obj := qC "_law_refused" "_law_refused" 592 164 1 0 0 3 308 true 309 .none (qr 310) (qr 311) (qr 312) 598 599
noncomputable def h_314 : Obj := qf "_law_refused" "_law_refused" (top 37) (qs "law_linecaster_k29_no_copy" 539) (qr 313)
noncomputable def h_315 : Obj := qT []
noncomputable def h_316 : Obj := qN []
noncomputable def h_317 : Obj := qT [(qs "_law_number" 604), (qs "_law_some" 605)]
noncomputable def h_318 : Obj := qT []
noncomputable def h_319 : Obj := qg "_law_odd" "_law_odd" (top 38)
noncomputable def h_320 : Obj := qC "_law_odd" "_law_odd" 601 171 1 0 0 3 315 true 316 .none (qr 317) (qr 318) (qr 319) 606 607
noncomputable def h_321 : Obj := qf "_law_odd" "_law_odd" (top 38) (qs "law_linecaster_k29_no_copy" 539) (qr 320)
noncomputable def h_322 : Obj := qT []
noncomputable def h_323 : Obj := qN []
noncomputable def h_324 : Obj := qT [(qs "_law_number" 612), (qs "_law_some" 613)]
noncomputable def h_325 : Obj := qT []
noncomputable def h_326 : Obj := qg "_law_odd_too" "_law_odd_too" (top 39)
noncomputable def h_327 : Obj := qC "_law_odd_too" "_law_odd_too" 609 182 1 0 0 3 322 true 323 .none (qr 324) (qr 325) (qr 326) 614 615
noncomputable def h_328 : Obj := qf "_law_odd_too" "_law_odd_too" (top 39) (qs "law_linecaster_k29_no_copy" 539) (qr 327)
noncomputable def h_329 : Obj := qT []
noncomputable def h_330 : Obj := qN []
noncomputable def h_331 : Obj := qT [(qs "_law_text" 620), (qs "_law_number" 621), (qs "_law_odd_here" 622), (qs "_law_some" 623)]
noncomputable def h_332 : Obj := qT []
noncomputable def h_333 : Obj := qg "_law_spoiled" "_law_spoiled" (top 40)
noncomputable def h_334 : Obj := qC "_law_spoiled" "_law_spoiled" 617 191 2 0 0 3 329 true 330 .none (qr 331) (qr 332) (qr 333) 624 625
noncomputable def h_335 : Obj := qf "_law_spoiled" "_law_spoiled" (top 40) (qs "law_linecaster_k29_no_copy" 539) (qr 334)
noncomputable def h_336 : Obj := qT []
noncomputable def h_337 : Obj := qN []
noncomputable def h_338 : Obj := qT [(qs "_law_script" 630), (qs "_law_text" 631), (qs "_law_k" 632), (qs "_law_deep" 633)]
noncomputable def h_339 : Obj := qT []
noncomputable def h_340 : Obj := qg "law" "law" (top 41)
noncomputable def h_341 : Obj := qC "law" "law" 627 200 1 0 0 3 336 true 337 .none (qr 338) (qr 339) (qr 340) 634 635
noncomputable def h_342 : Obj := qf "law" "law" (top 41) (qs "law_linecaster_k29_no_copy" 539) (qr 341)
noncomputable def a_11 (P : Params) : Obj := h_11
noncomputable def a_12 (P : Params) : Obj := qN []
noncomputable def a_13 (P : Params) : Obj := h_13
noncomputable def a_14 (P : Params) : Obj := h_14
noncomputable def hO (P : Params) : List Obj := [boot_o_0 P, boot_o_1 P, boot_o_2 P, h_3 P, boot_o_4 P, boot_o_5 P, boot_o_6 P, boot_o_7 P, boot_o_8 P, boot_o_9 P, boot_o_10 P, h_11, h_12, h_13, h_14, h_15, h_16, h_17 P, h_18, h_19, h_20, h_21, h_22, h_23 P, h_24, h_25, h_26, h_27, h_28, h_29, h_30 P, h_31, h_32, h_33, h_34, h_35, h_36, h_37, h_38, h_39, h_40, h_41, h_42, h_43 P, h_44, h_45, h_46, h_47, h_48, h_49 P, h_50, h_51, h_52, h_53, h_54, h_55 P, h_56, h_57, h_58, h_59, h_60, h_61 P, h_62, h_63, h_64, h_65, h_66, h_67, h_68, h_69, h_70, h_71, h_72, h_73, h_74 P, h_75, h_76, h_77, h_78, h_79, h_80 P, h_81, h_82, h_83, h_84, h_85, h_86, h_87, h_88, h_89, h_90, h_91, h_92, h_93 P, h_94, h_95, h_96, h_97, h_98, h_99 P, h_100, h_101, h_102, h_103, h_104, h_105, h_106, h_107, h_108, h_109, h_110, h_111, h_112 P, h_113, h_114, h_115, h_116, h_117, h_118 P, h_119, h_120, h_121, h_122, h_123, h_124 P, h_125, h_126, h_127, h_128, h_129, h_130 P, h_131, h_132, h_133, h_134, h_135, h_136, h_137, h_138, h_139, h_140, h_141, h_142, h_143 P, h_144, h_145, h_146, h_147, h_148, h_149 P, h_150, h_151, h_152, h_153, h_154, h_155 P, h_156, h_157, h_158, h_159, h_160, h_161 P, h_162, h_163, h_164, h_165, h_166, h_167 P, h_168, h_169, h_170, h_171, h_172, h_173 P, h_174, h_175, h_176, h_177, h_178, h_179 P, h_180, h_181, h_182, h_183, h_184, h_185, h_186, h_187, h_188, h_189, h_190, h_191, h_192, h_193, h_194, h_195, h_196, h_197, h_198, h_199, h_200, h_201, h_202, h_203, h_204, h_205, h_206, h_207, h_208, h_209, h_210, h_211, h_212, h_213, h_214, h_215, h_216, h_217, h_218, h_219, h_220, h_221, h_222, h_223, h_224, h_225, h_226, h_227, h_228, h_229, h_230, h_231, h_232, h_233, h_234, h_235, h_236, h_237, h_238, h_239, h_240, h_241, h_242, h_243, h_244, h_245, h_246, h_247, h_248, h_249, h_250, h_251, h_252, h_253, h_254, h_255, h_256, h_257, h_258, h_259, h_260, h_261, h_262, h_263, h_264, h_265, h_266, h_267, h_268, h_269, h_270, h_271, h_272, h_273, h_274, h_275, h_276, h_277, h_278, h_279, h_280, h_281, h_282, h_283, h_284, h_285, h_286, h_287, h_288, h_289, h_290, h_291, h_292, h_293, h_294, h_295, h_296, h_297, h_298, h_299, h_300, h_301, h_302, h_303, h_304, h_305, h_306, h_307, h_308, h_309, h_310, h_311, h_312, h_313, h_314, h_315, h_316, h_317, h_318, h_319, h_320, h_321, h_322, h_323, h_324, h_325, h_326, h_327, h_328, h_329, h_330, h_331, h_332, h_333, h_334, h_335, h_336, h_337, h_338, h_339, h_340, h_341, h_342]
noncomputable def hA (P : Params) : List Obj := [boot_o_0 P, boot_o_1 P, boot_o_2 P, boot_o_3 P, boot_o_4 P, boot_o_5 P, boot_o_6 P, boot_o_7 P, boot_o_8 P, boot_o_9 P, boot_o_10 P, a_11 P, a_12 P, a_13 P, a_14 P]
noncomputable def hK (P : Params) : Frag := (nat_lit 2, boot_o_2 P) :: (nat_lit 3, h_3 P) :: (nat_lit 15, h_15) :: (nat_lit 22, h_22) :: (nat_lit 23, h_23 P) :: (nat_lit 24, h_24) :: (nat_lit 25, h_25) :: (nat_lit 28, h_28) :: (nat_lit 35, h_35) :: (nat_lit 37, h_37) :: (nat_lit 38, h_38) :: (nat_lit 40, h_40) :: (nat_lit 41, h_41) :: (nat_lit 42, h_42) :: (nat_lit 43, h_43 P) :: (nat_lit 44, h_44) :: (nat_lit 47, h_47) :: (nat_lit 54, h_54) :: (nat_lit 55, h_55 P) :: (nat_lit 56, h_56) :: (nat_lit 59, h_59) :: (nat_lit 66, h_66) :: (nat_lit 68, h_68) :: (nat_lit 69, h_69) :: (nat_lit 71, h_71) :: (nat_lit 72, h_72) :: (nat_lit 73, h_73) :: (nat_lit 74, h_74 P) :: (nat_lit 75, h_75) :: (nat_lit 78, h_78) :: (nat_lit 85, h_85) :: (nat_lit 87, h_87) :: (nat_lit 88, h_88) :: (nat_lit 90, h_90) :: (nat_lit 91, h_91) :: (nat_lit 92, h_92) :: (nat_lit 93, h_93 P) :: (nat_lit 94, h_94) :: (nat_lit 97, h_97) :: (nat_lit 104, h_104) :: (nat_lit 106, h_106) :: (nat_lit 107, h_107) :: (nat_lit 109, h_109) :: (nat_lit 110, h_110) :: (nat_lit 111, h_111) :: (nat_lit 112, h_112 P) :: (nat_lit 113, h_113) :: (nat_lit 116, h_116) :: (nat_lit 123, h_123) :: (nat_lit 124, h_124 P) :: (nat_lit 125, h_125) :: (nat_lit 128, h_128) :: (nat_lit 135, h_135) :: (nat_lit 137, h_137) :: (nat_lit 138, h_138) :: (nat_lit 140, h_140) :: (nat_lit 141, h_141) :: (nat_lit 142, h_142) :: (nat_lit 143, h_143 P) :: (nat_lit 144, h_144) :: (nat_lit 147, h_147) :: (nat_lit 154, h_154) :: (nat_lit 155, h_155 P) :: (nat_lit 156, h_156) :: (nat_lit 159, h_159) :: (nat_lit 166, h_166) :: (nat_lit 167, h_167 P) :: (nat_lit 168, h_168) :: (nat_lit 171, h_171) :: (nat_lit 178, h_178) :: (nat_lit 179, h_179 P) :: (nat_lit 180, h_180) :: (nat_lit 183, h_183) :: (nat_lit 185, h_185) :: (nat_lit 186, h_186) :: (nat_lit 188, h_188) :: (nat_lit 189, h_189) :: (nat_lit 190, h_190) :: (nat_lit 193, h_193) :: (nat_lit 194, h_194) :: (nat_lit 195, h_195) :: (nat_lit 198, h_198) :: (nat_lit 199, h_199) :: (nat_lit 200, h_200) :: (nat_lit 202, h_202) :: (nat_lit 203, h_203) :: (nat_lit 205, h_205) :: (nat_lit 206, h_206) :: (nat_lit 207, h_207) :: (nat_lit 209, h_209) :: (nat_lit 210, h_210) :: (nat_lit 212, h_212) :: (nat_lit 213, h_213) :: (nat_lit 214, h_214) :: (nat_lit 216, h_216) :: (nat_lit 217, h_217) :: (nat_lit 219, h_219) :: (nat_lit 220, h_220) :: (nat_lit 221, h_221) :: (nat_lit 223, h_223) :: (nat_lit 224, h_224) :: (nat_lit 226, h_226) :: (nat_lit 227, h_227) :: (nat_lit 228, h_228) :: (nat_lit 230, h_230) :: (nat_lit 231, h_231) :: (nat_lit 233, h_233) :: (nat_lit 234, h_234) :: (nat_lit 235, h_235) :: (nat_lit 237, h_237) :: (nat_lit 238, h_238) :: (nat_lit 240, h_240) :: (nat_lit 241, h_241) :: (nat_lit 242, h_242) :: (nat_lit 244, h_244) :: (nat_lit 245, h_245) :: (nat_lit 247, h_247) :: (nat_lit 248, h_248) :: (nat_lit 249, h_249) :: (nat_lit 251, h_251) :: (nat_lit 252, h_252) :: (nat_lit 254, h_254) :: (nat_lit 255, h_255) :: (nat_lit 256, h_256) :: (nat_lit 258, h_258) :: (nat_lit 259, h_259) :: (nat_lit 261, h_261) :: (nat_lit 262, h_262) :: (nat_lit 263, h_263) :: (nat_lit 265, h_265) :: (nat_lit 266, h_266) :: (nat_lit 268, h_268) :: (nat_lit 269, h_269) :: (nat_lit 270, h_270) :: (nat_lit 272, h_272) :: (nat_lit 273, h_273) :: (nat_lit 275, h_275) :: (nat_lit 276, h_276) :: (nat_lit 277, h_277) :: (nat_lit 279, h_279) :: (nat_lit 280, h_280) :: (nat_lit 282, h_282) :: (nat_lit 283, h_283) :: (nat_lit 284, h_284) :: (nat_lit 287, h_287) :: (nat_lit 288, h_288) :: (nat_lit 289, h_289) :: (nat_lit 291, h_291) :: (nat_lit 292, h_292) :: (nat_lit 294, h_294) :: (nat_lit 295, h_295) :: (nat_lit 296, h_296) :: (nat_lit 299, h_299) :: (nat_lit 300, h_300) :: (nat_lit 301, h_301) :: (nat_lit 303, h_303) :: (nat_lit 304, h_304) :: (nat_lit 306, h_306) :: (nat_lit 307, h_307) :: (nat_lit 308, h_308) :: (nat_lit 310, h_310) :: (nat_lit 311, h_311) :: (nat_lit 313, h_313) :: (nat_lit 314, h_314) :: (nat_lit 315, h_315) :: (nat_lit 317, h_317) :: (nat_lit 318, h_318) :: (nat_lit 320, h_320) :: (nat_lit 321, h_321) :: (nat_lit 322, h_322) :: (nat_lit 324, h_324) :: (nat_lit 325, h_325) :: (nat_lit 327, h_327) :: (nat_lit 328, h_328) :: (nat_lit 329, h_329) :: (nat_lit 331, h_331) :: (nat_lit 332, h_332) :: (nat_lit 334, h_334) :: (nat_lit 335, h_335) :: (nat_lit 336, h_336) :: (nat_lit 338, h_338) :: (nat_lit 339, h_339) :: (nat_lit 341, h_341) :: (nat_lit 342, h_342) :: []
abbrev has : List Addr := [2, 3, 15, 22, 23, 24, 25, 28, 35, 37, 38, 40, 41, 42, 43, 44, 47, 54, 55, 56, 59, 66, 68, 69, 71, 72, 73, 74, 75, 78, 85, 87, 88, 90, 91, 92, 93, 94, 97, 104, 106, 107, 109, 110, 111, 112, 113, 116, 123, 124, 125, 128, 135, 137, 138, 140, 141, 142, 143, 144, 147, 154, 155, 156, 159, 166, 167, 168, 171, 178, 179, 180, 183, 185, 186, 188, 189, 190, 193, 194, 195, 198, 199, 200, 202, 203, 205, 206, 207, 209, 210, 212, 213, 214, 216, 217, 219, 220, 221, 223, 224, 226, 227, 228, 230, 231, 233, 234, 235, 237, 238, 240, 241, 242, 244, 245, 247, 248, 249, 251, 252, 254, 255, 256, 258, 259, 261, 262, 263, 265, 266, 268, 269, 270, 272, 273, 275, 276, 277, 279, 280, 282, 283, 284, 287, 288, 289, 291, 292, 294, 295, 296, 299, 300, 301, 303, 304, 306, 307, 308, 310, 311, 313, 314, 315, 317, 318, 320, 321, 322, 324, 325, 327, 328, 329, 331, 332, 334, 335, 336, 338, 339, 341, 342]
abbrev hlife : Life := ⟨[], [], [], 0, [], [], false, #[], [], 0, false, false, false, 0, [2000, 10, 10], false, 0, true, [], [], 0, false⟩
abbrev hD : HD := ⟨6670, 12, 0, 3272, 1, ⟨0, 0, 0, 0⟩, 187, ⟨0, 0, 0, 0⟩, 187, ⟨0, 0, 0, 0⟩, 637, 343, 15, ⟨0, 0, 0, 0⟩, ⟨0, 0, 0, 0⟩, ⟨0, 0, 0, 0⟩, ⟨200, 0, 207, 107⟩, (qr 13), 14, (.some (qr 6))⟩
abbrev hview : Program := { PySem.Challenge.pw_linecaster_k29_no_copy with main := { PySem.Challenge.pw_linecaster_k29_no_copy.main with body := [top 1, top 2, top 3, top 4, top 5, top 6, top 7, top 8, top 9, top 10, top 11, top 13, top 14, top 16, top 17, top 18, top 19, top 20, top 21, top 22, top 23, top 24, top 25, top 26, top 27, top 28, top 29, top 31, top 32, top 33, top 34, top 35, top 36, top 37, top 38, top 39, top 40, top 41] } }
theorem hpre : Hd.Pre PySem.Challenge.pw_linecaster_k29_no_copy hD hlife hA := fun w os => by kernel_rfl
theorem hblk : Hd.Blk PySem.Challenge.pw_linecaster_k29_no_copy hD hlife hA := fun w os => by kernel_rfl
theorem hgo : Hd.Go PySem.Challenge.pw_linecaster_k29_no_copy hD hlife hA hO := fun w os => by kernel_rfl
theorem hfin : Hd.Fin PySem.Challenge.pw_linecaster_k29_no_copy hD hlife hO := fun w os => by kernel_rfl
theorem hl1 : Hd.Lk1 PySem.Challenge.pw_linecaster_k29_no_copy hD hlife hO := fun w os => by kernel_rfl
theorem hl3 : Hd.Lk3 hD hlife hO hK has := fun w os => by kernel_rfl
theorem hKe : ∀ P, has = (hK P).map (·.1) := fun P => by kernel_rfl
theorem hl2 : Hd.Lk2 PySem.Challenge.pw_linecaster_k29_no_copy hview hD hlife hO (Hd.XtH PySem.Challenge.rw_linecaster_k29_no_copy hview) := fun w os => by kernel_rfl
theorem hsaid : Hd.saidF PySem.Challenge.rw_linecaster_k29_no_copy = true := by kernel_rfl
theorem hleft : LeftO PySem.Challenge.pw_linecaster_k29_no_copy hview [] (Hd.XtH PySem.Challenge.rw_linecaster_k29_no_copy hview) (Hook.obs (kHook hK has hKe)) (Hook.val (kHook hK has hKe)) hD.N := Hd.left_of (D := hD) (L := hlife) (A := hA) (O := hO) (by kernel_rfl) (fun s => by kernel_rfl) (by kernel_rfl) (by kernel_rfl) (by kernel_rfl) hpre hblk hgo hfin hl1 hl2 hl3
end
end
end Lw
open PySem PySem.W PyProof.Rows
set_option maxRecDepth 100000 in
set_option maxHeartbeats 0 in
theorem PySem.Challenge.cw_linecaster_k29_no_copy_holds : PySem.Challenge.rw_linecaster_k29_no_copy.Holds := by
  w_on
  refine Hd.holds (st := Lw.s_law) (x := "law") (l := PySem.Challenge.rw_linecaster_k29_no_copy) (q := Lw.hview) (K := Lw.hK) (as := Lw.has) (e := Lw.hKe) (N := Lw.hD.N) Lw.hsaid Lw.hleft (by kernel_rfl) (by kernel_rfl) (by kernel_rfl) (by kernel_rfl) (by decide +kernel) ⟨rfl, rfl, rfl, rfl, rfl, by decide +kernel⟩ ?hw ?hc
  (case hw => w_witness2)
  k_fill
  refine L2.walk_ofK (l := PySem.Challenge.rw_linecaster_k29_no_copy) (n := 63) (k := Lw.lawLevel) (x := "_law_script") (CX := L2.CX0) (sp := Lw.sp_law) rfl (by decide) rfl ⟨rfl, by decide, by decide⟩ (fun w h Y => PySem.W.kIn_of Y) ?F ?S ?C
  case F =>
    intro w mg fa h KX G hmg
    have T : ∃ a : Lw.Ad, Lw.Tx (L2.KOf KX) mg a := by
      dsimp only [L2.KOf]
      refine' Lw.txt_mk KX G ?a0 ?l0 ?c0 ?k0 ?a1 ?l1 ?c1 ?k1 ?a2 ?l2 ?c2 ?k2 ?a3 ?l3 ?c3 ?k3 ?a4 ?l4 ?c4 ?k4 ?a5 ?l5 ?c5 ?k5 ?a6 ?l6 ?c6 ?k6 ?a7 ?l7 ?c7 ?k7 ?a8 ?l8 ?c8 ?k8 ?a9 ?l9 ?c9 ?k9 ?a10 ?l10 ?c10 ?k10 ?a11 ?l11 ?c11 ?k11 ?a12 ?l12 ?c12 ?k12 ?a13 ?l13 ?c13 ?k13 ?a14 ?l14 ?c14 ?k14 ?a15 ?l15 ?c15 ?k15 ?a16 ?l16 ?c16 ?k16 ?a17 ?l17 ?c17 ?k17 ?a18 ?l18 ?c18 ?k18 ?a19 ?l19 ?c19 ?k19 ?a20 ?l20 ?c20 ?k20 ?a21 ?l21 ?c21 ?k21 ?a22 ?l22 ?c22 ?k22 ?a23 ?l23 ?c23 ?k23 ?ca_CasterError ?ci_CasterError ?ct_CasterError ?ca_NoCase ?ci_NoCase ?ct_NoCase ?ca_TooMany ?ci_TooMany ?ct_TooMany ?ca_Loose ?ci_Loose ?ct_Loose ?ca_Tight ?ci_Tight ?ct_Tight ?ca_NoBreak ?ci_NoBreak ?ct_NoBreak ?ca_NoCopy ?ca_NoKeys ?ci_NoKeys ?ct_NoKeys ?ca_NoText ?ci_NoText ?ct_NoText ?ca_NoNumber ?ci_NoNumber ?ct_NoNumber ?ca_NoRow ?ci_NoRow ?ct_NoRow ?lk_CasterError ?cN_CasterError ?ln_CasterError ?le_CasterError ?ni_CasterError ?lk_NoCopy ?cN_NoCopy ?ln_NoCopy ?le_NoCopy ?ni_NoCopy ?cs_NoCopy ?cm_NoCopy ?ch_NoCopy ?q1_NoCopy ?q2_NoCopy ?q3_NoCopy ?q4_NoCopy ?q5_NoCopy ?q6_NoCopy ?q7_NoCopy ?q8_NoCopy ?q9_NoCopy ?b1 ?b2 ?b3 ?m_NoCopy_CasterError ?m_NoCopy_NoCase ?m_NoCopy_TooMany ?m_NoCopy_Loose ?m_NoCopy_Tight ?m_NoCopy_NoBreak ?m_NoCopy_NoCopy ?m_NoCopy_NoKeys ?m_NoCopy_NoText ?m_NoCopy_NoNumber ?m_NoCopy_NoRow ?y_SIGNS ?y_FIGURES ?y_MOST_BRACKETS ?z_ValueError ?z_all ?z_int ?z_isinstance ?z_len ?z_min ?z_range ?z_str
      (case a0 => k_is)
      (case l0 => k_is)
      (case c0 => k_is)
      (case k0 => k_is)
      (case a1 => k_is)
      (case l1 => k_is)
      (case c1 => k_is)
      (case k1 => k_is)
      (case a2 => k_is)
      (case l2 => k_is)
      (case c2 => k_is)
      (case k2 => k_is)
      (case a3 => k_is)
      (case l3 => k_is)
      (case c3 => k_is)
      (case k3 => k_is)
      (case a4 => k_is)
      (case l4 => k_is)
      (case c4 => k_is)
      (case k4 => k_is)
      (case a5 => k_is)
      (case l5 => k_is)
      (case c5 => k_is)
      (case k5 => k_is)
      (case a6 => k_is)
      (case l6 => k_is)
      (case c6 => k_is)
      (case k6 => k_is)
      (case a7 => k_is)
      (case l7 => k_is)
      (case c7 => k_is)
      (case k7 => k_is)
      (case a8 => k_is)
      (case l8 => k_is)
      (case c8 => k_is)
      (case k8 => k_is)
      (case a9 => k_is)
      (case l9 => k_is)
      (case c9 => k_is)
      (case k9 => k_is)
      (case a10 => k_is)
      (case l10 => k_is)
      (case c10 => k_is)
      (case k10 => k_is)
      (case a11 => k_is)
      (case l11 => k_is)
      (case c11 => k_is)
      (case k11 => k_is)
      (case a12 => k_is)
      (case l12 => k_is)
      (case c12 => k_is)
      (case k12 => k_is)
      (case a13 => k_is)
      (case l13 => k_is)
      (case c13 => k_is)
      (case k13 => k_is)
      (case a14 => k_is)
      (case l14 => k_is)
      (case c14 => k_is)
      (case k14 => k_is)
      (case a15 => k_is)
      (case l15 => k_is)
      (case c15 => k_is)
      (case k15 => k_is)
      (case a16 => k_is)
      (case l16 => k_is)
      (case c16 => k_is)
      (case k16 => k_is)
      (case a17 => k_is)
      (case l17 => k_is)
      (case c17 => k_is)
      (case k17 => k_is)
      (case a18 => k_is)
      (case l18 => k_is)
      (case c18 => k_is)
      (case k18 => k_is)
      (case a19 => k_is)
      (case l19 => k_is)
      (case c19 => k_is)
      (case k19 => k_is)
      (case a20 => k_is)
      (case l20 => k_is)
      (case c20 => k_is)
      (case k20 => k_is)
      (case a21 => k_is)
      (case l21 => k_is)
      (case c21 => k_is)
      (case k21 => k_is)
      (case a22 => k_is)
      (case l22 => k_is)
      (case c22 => k_is)
      (case k22 => k_is)
      (case a23 => k_is)
      (case l23 => k_is)
      (case c23 => k_is)
      (case k23 => k_is)
      (case ca_CasterError => k_is)
      (case ci_CasterError => k_is)
      (case ct_CasterError => k_is)
      (case ca_NoCase => k_is)
      (case ci_NoCase => k_is)
      (case ct_NoCase => k_is)
      (case ca_TooMany => k_is)
      (case ci_TooMany => k_is)
      (case ct_TooMany => k_is)
      (case ca_Loose => k_is)
      (case ci_Loose => k_is)
      (case ct_Loose => k_is)
      (case ca_Tight => k_is)
      (case ci_Tight => k_is)
      (case ct_Tight => k_is)
      (case ca_NoBreak => k_is)
      (case ci_NoBreak => k_is)
      (case ct_NoBreak => k_is)
      (case ca_NoCopy => k_is)
      (case ca_NoKeys => k_is)
      (case ci_NoKeys => k_is)
      (case ct_NoKeys => k_is)
      (case ca_NoText => k_is)
      (case ci_NoText => k_is)
      (case ct_NoText => k_is)
      (case ca_NoNumber => k_is)
      (case ci_NoNumber => k_is)
      (case ct_NoNumber => k_is)
      (case ca_NoRow => k_is)
      (case ci_NoRow => k_is)
      (case ct_NoRow => k_is)
      (case lk_CasterError => k_is)
      (case cN_CasterError => rfl)
      (case ln_CasterError => k_is)
      (case le_CasterError => rfl)
      (case ni_CasterError => k_is)
      (case lk_NoCopy => k_is)
      (case cN_NoCopy => rfl)
      (case ln_NoCopy => k_is)
      (case le_NoCopy => rfl)
      (case ni_NoCopy => k_is)
      (case cs_NoCopy => rfl)
      (case cm_NoCopy => rfl)
      (case ch_NoCopy => rfl)
      (case q1_NoCopy => k_is)
      (case q2_NoCopy => k_is)
      (case q3_NoCopy => k_is)
      (case q4_NoCopy => k_is)
      (case q5_NoCopy => k_is)
      (case q6_NoCopy => k_is)
      (case q7_NoCopy => k_is)
      (case q8_NoCopy => k_is)
      (case q9_NoCopy => k_is)
      (case b1 => k_is)
      (case b2 => k_is)
      (case b3 => k_is)
      (case m_NoCopy_CasterError => k_is)
      (case m_NoCopy_NoCase => k_is)
      (case m_NoCopy_TooMany => k_is)
      (case m_NoCopy_Loose => k_is)
      (case m_NoCopy_Tight => k_is)
      (case m_NoCopy_NoBreak => k_is)
      (case m_NoCopy_NoCopy => k_is)
      (case m_NoCopy_NoKeys => k_is)
      (case m_NoCopy_NoText => k_is)
      (case m_NoCopy_NoNumber => k_is)
      (case m_NoCopy_NoRow => k_is)
      (case y_SIGNS => k_is)
      (case y_FIGURES => k_is)
      (case y_MOST_BRACKETS => k_is)
      (case z_ValueError => k_is)
      (case z_all => k_is)
      (case z_int => k_is)
      (case z_isinstance => k_is)
      (case z_len => k_is)
      (case z_min => k_is)
      (case z_range => k_is)
      (case z_str => k_is)
    obtain ⟨a, T⟩ := T
    have e0 := hmg.symm.trans T.law.mg
    cases e0
    exact ⟨_, fun s u => .of_eq (T.law.ba [u] rfl), fun base kb nb => Lw.ok_law T⟩
  case S => exact fun K H a ns hl hO hS => ⟨a, ns, rfl, hS, hl, fun _ => rfl⟩
  case C => exact fun _ _ _ _ z => z
