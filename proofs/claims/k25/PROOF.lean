import PyProof.Rows.All
import Wide.All
import OpenK.AllK
import Wide.FinOn
import Lean
import PyProof.EqAt
import PyProof.EqKinds
import PyProof.TupleCall
import PyProof.P3Eq
import PyProof.NeData
import PyProof.Rows.SortShellK
import PySem.Challenge.RW_linecaster_k25_whole_none_cheaper
set_option Elab.async false
set_option linter.all false
set_option maxRecDepth 100000
namespace L2
open PySem PySem.Spec PyProof.Rows
abbrev Key := Sum Int Str
def keyIs : Key → Value → Bool
  | .inl k, v => Value.isInt k v
  | .inr x, v => Value.isStrOf x v
def keyH (w : World) : Key → Int
  | .inl k => hashInt k
  | .inr x => hashStr w x
theorem keyIs_shape : ∀ {k : Key} {v : Value}, keyIs k v = true → (∃ i t, k = Sum.inl i ∧ v = Value.int i t) ∨ (∃ x t, k = Sum.inr x ∧ v = Value.str x t)
  | .inl i, v, h => by
    obtain ⟨t, e⟩ := Value.isInt_shape (k := i) (v := v) h
    exact .inl ⟨i, t, rfl, e⟩
  | .inr x, v, h => by
    obtain ⟨t, e⟩ := Value.isStrOf_shape (x := x) (v := v) h
    exact .inr ⟨x, t, rfl, e⟩
theorem keyIs_int (i : Int) (t : Tok) : keyIs (.inl i) (.int i t) = true := by simp [keyIs, Value.isInt]
theorem keyIs_str (x : Str) (t : Tok) : keyIs (.inr x) (.str x t) = true := by simp [keyIs, Value.isStrOf]
theorem key_ll (a b : Int) : decide ((Sum.inl a : Key) = Sum.inl b) = (a == b) := by
  by_cases e : a = b
  · subst e; simp
  · have h : ¬ (Sum.inl a : Key) = Sum.inl b := fun q => e (Sum.inl.inj q)
    rw [decide_eq_false h]
    exact (beq_eq_false_iff_ne.mpr e).symm
theorem key_rr (a b : Str) : decide ((Sum.inr a : Key) = Sum.inr b) = decide (a = b) := by
  by_cases e : a = b
  · subst e; simp
  · have h : ¬ (Sum.inr a : Key) = Sum.inr b := fun q => e (Sum.inr.inj q)
    rw [decide_eq_false h, decide_eq_false e]
theorem key_lr (a : Int) (b : Str) : decide ((Sum.inl a : Key) = Sum.inr b) = false := decide_eq_false (fun q => nomatch q)
theorem key_rl (a : Str) (b : Int) : decide ((Sum.inr a : Key) = Sum.inl b) = false := decide_eq_false (fun q => nomatch q)
def mixKind (prog : Program) (w : World) : PySem.KeyKind prog w Key where
  is := keyIs
  hash := keyH w
  inj := fun v a b ha hb => by
    rcases keyIs_shape ha with ⟨i, t, rfl, rfl⟩ | ⟨x, t, rfl, rfl⟩
    · rcases keyIs_shape hb with ⟨j, u, rfl, e⟩ | ⟨y, u, rfl, e⟩
      · injection e with e1 _; rw [e1]
      · exact nomatch e
    · rcases keyIs_shape hb with ⟨j, u, rfl, e⟩ | ⟨y, u, rfl, e⟩
      · exact nomatch e
      · injection e with e1 _; rw [e1]
  byValue := fun k v h => by
    rcases keyIs_shape h with ⟨i, t, rfl, rfl⟩ | ⟨x, t, rfl, rfl⟩ <;> rfl
  pyHash := fun hv h => by
    rcases keyIs_shape hv with ⟨i, t, rfl, rfl⟩ | ⟨x, t, rfl, rfl⟩
    · exact wpAny_pyHash_int h
    · exact wpAny_pyHash_str h
  eqBool := fun hu hv h => by
    rcases keyIs_shape hu with ⟨i, t, rfl, rfl⟩ | ⟨x, t, rfl, rfl⟩
    · rcases keyIs_shape hv with ⟨j, u, rfl, rfl⟩ | ⟨y, u, rfl, rfl⟩
      · rw [key_ll] at h; exact wpAny_eqBool_int h
      · rw [key_lr] at h; exact SeqAt.EqAt.int_str i t y u _ _ _ _ h
    · rcases keyIs_shape hv with ⟨j, u, rfl, rfl⟩ | ⟨y, u, rfl, rfl⟩
      · rw [key_rl] at h; exact SeqAt.EqAt.str_int x t j u _ _ _ _ h
      · rw [key_rr] at h; exact wpAny_eqBool_str h
  «strs» := fun k x t v h => by
    rcases keyIs_shape h with ⟨i, u, rfl, e⟩ | ⟨y, u, rfl, e⟩
    · exact nomatch e
    · injection e with e1 _
      subst e1
      cases v <;> rfl
theorem mixKind_int (prog : Program) (w : World) (i : Int) (t : Tok) : (mixKind prog w).is (.inl i) (.int i t) = true := keyIs_int i t
theorem mixKind_str (prog : Program) (w : World) (x : Str) (t : Tok) : (mixKind prog w).is (.inr x) (.str x t) = true := keyIs_str x t
end L2
namespace L2
open PySem PySem.Spec PyProof.Rows
inductive V where
  | non | bl (b : Bool) | int (i : Int) | str (x : Str) | byt (b : Array UInt8) | flt (b : UInt64) | ref (a : Addr) | ty (n : String)
  deriving DecidableEq
def RelV : V → Value → Prop
  | .non, u => u = Value.none
  | .bl b, u => u = Value.bool b
  | .int i, u => ∃ t, u = Value.int i t
  | .str x, u => ∃ t, u = Value.str x t
  | .byt b, u => ∃ t, u = Value.bytes b t
  | .flt b, u => ∃ t, u = Value.float b t
  | .ref a, u => u = Value.ref a
  | .ty n, u => u = Value.type n
abbrev Vals : List V → List Value → Prop := Paired RelV
theorem Vals.length {xs : List V} {us : List Value} (r : Vals xs us) : xs.length = us.length := Paired.length r
theorem Vals.get : ∀ {xs : List V} {us : List Value} {i : Nat} {x : V}, Vals xs us → xs[i]? = some x → ∃ u, us[i]? = some u ∧ RelV x u
  | _, _, _, _, .nil, e => by simp at e
  | _, _, 0, _, .cons r _, e => by simp at e; subst e; exact ⟨_, rfl, r⟩
  | _, _, i + 1, x, .cons _ t, e => by
    obtain ⟨u, h1, h2⟩ := Vals.get (i := i) (x := x) t (by simpa using e)
    exact ⟨u, by simpa using h1, h2⟩
theorem Vals.set {x : V} {u : Value} (r : RelV x u) : ∀ {xs : List V} {us : List Value} (i : Nat), Vals xs us → Vals (xs.set i x) (us.set i u)
  | _, _, _, .nil => .nil
  | _, _, 0, .cons _ t => .cons r t
  | _, _, i + 1, .cons q t => .cons q (Vals.set r i t)
theorem Vals.append : ∀ {xs ys : List V} {us ws : List Value}, Vals xs us → Vals ys ws → Vals (xs ++ ys) (us ++ ws)
  | _, _, _, _, .nil, s => s
  | _, _, _, _, .cons r t, s => .cons r (Vals.append t s)
theorem Vals.take : ∀ {xs : List V} {us : List Value} (n : Nat), Vals xs us → Vals (xs.take n) (us.take n)
  | _, _, 0, _ => .nil
  | _, _, _ + 1, .nil => .nil
  | _, _, n + 1, .cons r t => .cons r (Vals.take n t)
theorem Vals.drop : ∀ {xs : List V} {us : List Value} (n : Nat), Vals xs us → Vals (xs.drop n) (us.drop n)
  | _, _, 0, r => r
  | _, _, _ + 1, .nil => .nil
  | _, _, n + 1, .cons _ t => Vals.drop n t
def RelO : Option V → Option Value → Prop
  | some v, some u => RelV v u
  | none, none => True
  | _, _ => False
def KV {κ : Type} : List (κ × V) → List (κ × Value) → Prop := Paired fun (p : κ × V) (q : κ × Value) => p.1 = q.1 ∧ RelV p.2 q.2
def kV : Key → V
  | .inl i => .int i
  | .inr x => .str x
inductive HO where
  | lst (xs : List V)
  | tup (xs : List V)
  | dK (kvs : List (Key × V)) | dT (kvs : List (List Key × V))
  | set (S : Int → Bool) (n : Nat)
  | ins (C dx : Addr) (fs : List (Str × V))
  | own (x : Addr)
  | xd (fs : List (Str × V))
  | met (f x : Addr)
  | rng (lo hi : Int)
  | frz (o : Obj) (u : HO)
  | tbl (ps : Array Value)
  | ext (φ : Heap → Prop)
abbrev Hp := Addr → Option HO
def upd (H : Hp) (a : Addr) (o : HO) : Hp := fun b => if b = a then some o else H b
theorem upd_same {H : Hp} {a : Addr} {o : HO} : upd H a o a = some o := by unfold upd; rw [if_pos rfl]
theorem upd_ne {H : Hp} {a b : Addr} {o : HO} (h : b ≠ a) : upd H a o b = H b := by unfold upd; rw [if_neg h]
theorem ne_of {H : Hp} {a b : Addr} {o u : HO} (h : H a = some o) (h' : H b = some u) (d : o ≠ u) : a ≠ b := by
  intro e; subst e; rw [h] at h'; exact d (Option.some.inj h')
theorem ne_of_none {H : Hp} {a b : Addr} {o : HO} (h : H a = some o) (h' : H b = none) : a ≠ b := by
  intro e; subst e; rw [h] at h'; cases h'
section
variable (P : Program) (w : World)
def ObjOk (H : Hp) (h : Heap) (a : Addr) : HO → Prop
  | .lst xs => xs.length ≤ sizeLine ∧ ∃ (its : List Value) (n : Nat), Vals xs its ∧ h.get? a = some { cls := .type "list", data := .seq its.toArray n }
  | .tup xs => xs.length ≤ sizeLine ∧ ∃ its : List Value, Vals xs its ∧ IsTup h a its.toArray
  | .dK kvs => kvs.length ≤ sizeLine ∧ (a == sysModules) = false ∧ ∃ vs, KV kvs vs ∧ h.DictOf (mixKind P w) a vs
  | .dT kvs => kvs.length ≤ sizeLine ∧ (a == sysModules) = false ∧ ∃ xs : List (List Key × Addr × Value),
      Paired (fun (p : List Key × V) (q : List Key × Addr × Value) => p.1 = q.1 ∧ H q.2.1 = some (.tup (p.1.map kV)) ∧ RelV p.2 q.2.2) kvs xs ∧
      ∃ o es ep, h.get? a = some o ∧ o.ExactDict ∧ o.data = .dict es ep ∧ es.toList = xs.map (entryOfKey (tupleKind (mixKind P w))) ∧ (xs.map (·.1)).Nodup
  | .set S n => h.SetOf (intKind P w) a S n
  | .ins C dx fs => H dx = some (.own a) ∧ fs.length ≤ 1000 ∧ dx ≠ a ∧ h.get? a = some (PySem.W.instObj C dx) ∧
      ∃ mA, h.Ns1 dx mA ∧ (∀ f, RelO (fs.lookup f) (mA f)) ∧ PySem.Within mA (fs.map (·.1))
  | .own _ => ∃ o, h.get? a = some o
  | .xd fs => ∃ mA, h.Ns1 a mA ∧ ∀ f, RelO (fs.lookup f) (mA f)
  | .rng lo hi => ∃ t u v, h.get? a = some { cls := .type "range", data := .fields #[.int lo t, .int hi u, .int 1 v] }
  | .frz o u => h.get? a = some o ∧ ObjOk H h a u
  | .tbl ps => h.get? a = some { cls := .none, data := .fields ps }
  | .met f x => h.get? a = some (PySem.W.methodObj (.ref f) (.ref x))
  | .ext φ => φ h ∧ (∃ o, h.get? a = some o) ∧ ∀ h1 h2 : Heap, φ h1 → (∀ o, h1.get? a = some o → h2.get? a = some o) → φ h2
def HOk (H : Hp) (h : Heap) : Prop := ∀ a o, H a = some o → ObjOk P w H h a o
end
section
variable {P : Program} {w : World} {H H' : Hp} {h h' : Heap} {a : Addr} {o : HO}
theorem ObjOk.lt (x : ObjOk P w H h a o) : a < h.objs.size := by
  cases o with
  | lst xs => obtain ⟨_, _, _, _, e⟩ := x; exact Heap.lt_size e
  | tup xs => obtain ⟨_, _, _, p⟩ := x; exact p.lt
  | dK kvs => obtain ⟨_, _, _, _, o, _, _, e, _⟩ := x; exact Heap.lt_size e
  | dT kvs => obtain ⟨_, _, _, _, o, _, _, e, _⟩ := x; exact Heap.lt_size e
  | set S n => obtain ⟨o, _, _, _, e, _⟩ := x; exact Heap.lt_size e
  | ins C dx fs => obtain ⟨_, _, _, e, _⟩ := x; exact Heap.lt_size e
  | own y => obtain ⟨_, e⟩ := x; exact Heap.lt_size e
  | xd fs => obtain ⟨_, ⟨_, _, _, e, _⟩, _⟩ := x; exact Heap.lt_size e
  | rng lo hi => obtain ⟨_, _, _, e⟩ := x; exact Heap.lt_size e
  | frz ob u => obtain ⟨e, _⟩ := x; exact Heap.lt_size e
  | tbl ps => exact Heap.lt_size (show h.get? a = some _ from x)
  | met f y => exact Heap.lt_size (show h.get? a = some _ from x)
  | ext φ => obtain ⟨_, ⟨_, e⟩, _⟩ := x; exact Heap.lt_size e
theorem Paired.mapP {α β : Type} {F G : α → β → Prop} : ∀ {l₁ : List α} {l₂ : List β}, Paired F l₁ l₂ → (∀ a b, F a b → G a b) → Paired G l₁ l₂
  | _, _, .nil, _ => .nil
  | _, _, .cons r t, f => .cons (f _ _ r) (Paired.mapP t f)
theorem ObjOk.stay (x : ObjOk P w H h a o) (k : ∀ b u, (b = a ∨ H b = some (.own a)) → h.get? b = some u → h'.get? b = some u)
    (ho : ∀ b, H b = some (.own a) → H' b = some (.own a)) (ht : ∀ b xs, H b = some (.tup xs) → H' b = some (.tup xs)) : ObjOk P w H' h' a o := by
  induction o with
  | lst xs => obtain ⟨z, its, n, r, e⟩ := x; exact ⟨z, its, n, r, k _ _ (.inl rfl) e⟩
  | tup xs => obtain ⟨z, its, r, ob, e, c⟩ := x; exact ⟨z, its, r, ob, k _ _ (.inl rfl) e, c⟩
  | dK kvs => obtain ⟨z, y, vs, r, ob, es, ep, e, c⟩ := x; exact ⟨z, y, vs, r, ob, es, ep, k _ _ (.inl rfl) e, c⟩
  | dT kvs =>
    obtain ⟨z, y, xs, r, ob, es, ep, e, c⟩ := x
    exact ⟨z, y, xs, Paired.mapP r fun p q z => ⟨z.1, ht _ _ z.2.1, z.2.2⟩, ob, es, ep, k _ _ (.inl rfl) e, c⟩
  | set S n => obtain ⟨ob, es, ep, t, e, c⟩ := x; exact ⟨ob, es, ep, t, k _ _ (.inl rfl) e, c⟩
  | ins C dx fs =>
    obtain ⟨d, z, ne, e, mA, ⟨od, es, ep, e2, c⟩, r⟩ := x
    exact ⟨ho _ d, z, ne, k _ _ (.inl rfl) e, mA, ⟨od, es, ep, k _ _ (.inr d) e2, c⟩, r⟩
  | own y => obtain ⟨ob, e⟩ := x; exact ⟨ob, k _ _ (.inl rfl) e⟩
  | xd fs => obtain ⟨mA, ⟨od, es, ep, e, c⟩, r⟩ := x; exact ⟨mA, ⟨od, es, ep, k _ _ (.inl rfl) e, c⟩, r⟩
  | rng lo hi => obtain ⟨t, u, v, e⟩ := x; exact ⟨t, u, v, k _ _ (.inl rfl) e⟩
  | frz ob u ih => obtain ⟨e, q⟩ := x; exact ⟨k _ _ (.inl rfl) e, ih q⟩
  | tbl ps =>
    have e : h.get? a = some { cls := .none, data := .fields ps } := x
    show h'.get? a = some { cls := .none, data := .fields ps }
    exact k a _ (.inl rfl) e
  | met f y =>
    have e : h.get? a = some (PySem.W.methodObj (.ref f) (.ref y)) := x
    show h'.get? a = some (PySem.W.methodObj (.ref f) (.ref y))
    exact k a _ (.inl rfl) e
  | ext φ => obtain ⟨p, ⟨o, e⟩, st⟩ := x; exact ⟨st _ _ p fun o q => k _ _ (.inl rfl) q, ⟨o, k _ _ (.inl rfl) e⟩, st⟩
theorem HOk.lt (x : HOk P w H h) (e : H a = some o) : a < h.objs.size := (x a o e).lt
theorem HOk.fresh (x : HOk P w H h) (e : h.objs.size ≤ a) : H a = none := by
  cases q : H a with
  | none => rfl
  | some u => exact absurd (Nat.lt_of_lt_of_le (x.lt q) e) (Nat.lt_irrefl _)
theorem HOk.kept (x : HOk P w H h) (k : ∀ b u, h.get? b = some u → h'.get? b = some u) : HOk P w H h' := fun a o e =>
  (x a o e).stay (fun b u _ q => k b u q) (fun _ q => q) fun _ _ q => q
theorem HOk.laid (x : HOk P w H h) (k : ∀ b u, h.get? b = some u → h'.get? b = some u) (hp : h.objs.size ≤ a) (new : ObjOk P w (upd H a o) h' a o) : HOk P w (upd H a o) h' := fun b u e => by
  have hn := x.fresh hp
  by_cases hb : b = a
  · subst hb; rw [upd_same] at e; cases e; exact new
  · rw [upd_ne hb] at e
    exact (x b u e).stay (fun c v _ q => k c v q) (fun c q => by rw [upd_ne (ne_of_none q hn)]; exact q) fun c xs q => by rw [upd_ne (ne_of_none q hn)]; exact q
end
def Rd (H : Hp) (a : Addr) (u : HO) : Prop := H a = some u ∨ ∃ o, H a = some (.frz o u)
theorem Rd.of {H : Hp} {a : Addr} {u : HO} (h : H a = some u) : Rd H a u := .inl h
theorem Rd.ok {P : Program} {w : World} {H : Hp} {h : Heap} {a : Addr} {u : HO} (r : Rd H a u) (x : HOk P w H h) : ObjOk P w H h a u := by
  rcases r with r | ⟨o, r⟩
  · exact x a u r
  · obtain ⟨_, q⟩ := x a _ r
    exact q
def Mut : Option HO → Prop
  | some (.lst _) => True
  | some (.dK _) => True
  | some (.dT _) => True
  | some (.set _ _) => True
  | some (.ins _ _ _) => True
  | some (.ext _) => True
  | _ => False
section
variable {P : Program} {w : World} {H : Hp} {h h' : Heap} {x e : Addr} {o' : HO}
theorem HOk.write (ok : HOk P w H h) (mu : Mut (H x)) (he : e = x ∨ H e = some (.own x)) (k : ∀ b u, b ≠ e → h.get? b = some u → h'.get? b = some u) (heo : ∃ u, h'.get? e = some u)
    (new : ObjOk P w (upd H x o') h' x o') : HOk P w (upd H x o') h' := fun b u q => by
  have nown : ∀ c y, H c = some (.own y) → c ≠ x := fun c y r z => by subst z; rw [r] at mu; exact mu
  have ntup : ∀ c xs, H c = some (.tup xs) → c ≠ x := fun c xs r z => by subst z; rw [r] at mu; exact mu
  by_cases hb : b = x
  · subst hb; rw [upd_same] at q; cases q; exact new
  · rw [upd_ne hb] at q
    by_cases hbe : b = e
    · have q' : H b = some (.own x) := by
        rcases he with z | z
        · exact absurd (hbe.trans z) hb
        · rw [hbe]; exact z
      rw [q] at q'; cases q'
      obtain ⟨v, hv⟩ := heo
      exact ⟨v, by rw [hbe]; exact hv⟩
    · refine (ok b u q).stay (fun c v hc r => k c v ?_ r) (fun c r => by rw [upd_ne (nown c b r)]; exact r) fun c xs r => by rw [upd_ne (ntup c xs r)]; exact r
      rcases hc with rfl | hc
      · exact hbe
      · rintro rfl
        rcases he with z | z
        · exact nown c b hc z
        · rw [hc] at z; cases z; exact hb rfl
end
structure Un (fs ex : List Addr) (H H' : Hp) (h h' : Heap) : Prop where
  keep : ∀ b o, h.get? b = some o → H b = none → b ∉ fs → b ∉ ex → h'.get? b = some o
  slot : ∀ b o, h.get? b = some o → H b = none → b ∈ fs → b ∉ ex → ∃ sl, h'.get? b = some { o with slots := sl }
  free : ∀ b o, h.get? b = some o → H b = none → b ∉ ex → H' b = none
  there : ∀ b o, h.get? b = some o → b ∉ ex → ∃ o', h'.get? b = some o'
  tups : ∀ b xs, H b = some (.tup xs) → H' b = some (.tup xs)
  frzs : ∀ b o u, H b = some (.frz o u) → H' b = some (.frz o u)
  tbls : ∀ b ps, H b = some (.tbl ps) → ∃ more, H' b = some (.tbl (ps ++ more))
section
variable {fs fs' ex ex' : List Addr} {H H1 H2 : Hp} {h h1 h2 h' : Heap} {a x e : Addr} {o : HO}
theorem Un.any (u : Un fs ex H H1 h h1) {b : Addr} {ob : Obj} (q : h.get? b = some ob) (n : H b = none) (hx : b ∉ ex) : ∃ sl, h1.get? b = some { ob with slots := sl } := by
  by_cases hb : b ∈ fs
  · exact u.slot b ob q n hb hx
  · exact ⟨ob.slots, u.keep b ob q n hb hx⟩
theorem Un.kept (k : ∀ b u, h.get? b = some u → h'.get? b = some u) : Un fs ex H H h h' :=
  ⟨fun b ob q _ _ _ => k b ob q, fun b ob q _ _ _ => ⟨ob.slots, k b ob q⟩, fun _ _ _ n _ => n, fun b ob q _ => ⟨ob, k b ob q⟩, fun _ _ q => q, fun _ _ _ q => q, fun _ ps q => ⟨#[], by rw [q]; simp⟩⟩
theorem Un.refl : Un fs ex H H h h := Un.kept fun _ _ q => q
theorem Un.laid (k : ∀ b u, h.get? b = some u → h'.get? b = some u) (hp : h.objs.size ≤ a) (hn : H a = none) : Un fs ex H (upd H a o) h h' where
  keep := fun b u q _ _ _ => k b u q
  slot := fun b u q _ _ _ => ⟨u.slots, k b u q⟩
  free := fun b u q n _ => by rw [upd_ne (Nat.ne_of_lt (Nat.lt_of_lt_of_le (Heap.lt_size q) hp))]; exact n
  there := fun b u q _ => ⟨u, k b u q⟩
  tups := fun b xs q => by rw [upd_ne (ne_of_none q hn)]; exact q
  frzs := fun b u xs q => by rw [upd_ne (ne_of_none q hn)]; exact q
  tbls := fun b ps q => ⟨#[], by rw [upd_ne (ne_of_none q hn), q]; simp⟩
theorem Un.write (mu : Mut (H x)) (he : e = x ∨ H e = some (.own x)) (k : ∀ b u, b ≠ e → h.get? b = some u → h'.get? b = some u) (heo : ∃ u, h'.get? e = some u) : Un fs ex H (upd H x o) h h' := by
  have hx : ∀ b, H b = none → b ≠ x := fun b n z => by subst z; rw [n] at mu; exact mu
  have hb : ∀ b, H b = none → b ≠ e := fun b n z => by
    subst z
    rcases he with r | r
    · exact hx b n r
    · rw [n] at r; cases r
  have hm : ∀ b u, H b = some u → ¬ Mut (some u) → b ≠ x := fun b u q nm z => by subst z; rw [q] at mu; exact nm mu
  refine ⟨fun b u q n _ _ => k b u (hb b n) q, fun b u q n _ _ => ⟨u.slots, k b u (hb b n) q⟩, fun b u q n _ => by rw [upd_ne (hx b n)]; exact n, fun b u q _ => ?_,
    fun b xs q => by rw [upd_ne (hm b _ q fun z => z)]; exact q, fun b u xs q => by rw [upd_ne (hm b _ q fun z => z)]; exact q, fun b ps q => ⟨#[], by rw [upd_ne (hm b _ q fun z => z), q]; simp⟩⟩
  by_cases hbe : b = e
  · subst hbe; exact heo
  · exact ⟨u, k b u hbe q⟩
end
def trk (h : Heap) (H : Hp) : List Addr := (List.range h.objs.size).filter fun a => (H a).isSome
def hidT (h : Heap) (H : Hp) : Heap := PySem.W.hideAll h (trk h H)
theorem hidT_size (h : Heap) (H : Hp) : (hidT h H).objs.size = h.objs.size := PySem.W.hideAll_size _ _
theorem hidT_get {h : Heap} {H : Hp} {b : Addr} {o : Obj} (e : h.get? b = some o) (n : H b = none) : (hidT h H).get? b = some o :=
  PySem.W.hideAll_get _ e fun hm => by
    have q : (H b).isSome = true := (List.mem_filter.mp hm).2
    rw [n] at q; simp at q
theorem of_hidT {h : Heap} {H : Hp} {b : Addr} {o : Obj} (e : (hidT h H).get? b = some o) : h.get? b = some o ∧ H b = none := by
  have e' : h.get? b = some o := PySem.W.of_hideAll (trk h H) e
  refine ⟨e', ?_⟩
  cases q : H b with
  | none => rfl
  | some x =>
    have hm : b ∈ trk h H := List.mem_filter.mpr ⟨List.mem_range.mpr (Heap.lt_size e'), by simp [q]⟩
    have z : (hidT h H).get? b = none := PySem.W.hideAll_none (trk h H) hm
    rw [z] at e; cases e
def allNews (g h : Heap) (L : Addr) : List (Addr × Obj) := (List.range h.objs.size).filterMap fun a => if a = L ∨ (g.get? a).isSome = true then none else (h.get? a).map fun o => (a, o)
def rest (g h : Heap) (L d : Addr) : List (Addr × Obj) := (allNews g h L).filter fun p => decide (p.1 ≠ d)
end L2
namespace L2
open PySem PySem.Spec PyProof.Rows
structure Mod (K : PySem.W.Frag) (mg : Str → Option Value) (base : Heap) : Prop where
  kin : K.In base
  glob : base.Ns mainGlobals mg
  blt : ∃ mb, base.Ns builtinsNs mb ∧ ∀ x : Str, x ≠ "__name__" → mb x = bootBuiltins x
  nolimit : base.NoLimit
structure Cx where
  prog : Program
  w : World
  K : PySem.W.Frag
  mg : Str → Option Value
  base : Heap
  A : Around
  N : List Str
  s₀ : Shared
  H₀ : Hp
  env : Env
  outer : List Env
  stack : List Env
  ex : List Addr
  fn : Str → Bool
  calm : Bool
  pn : List (Addr × Obj)
  xe : Value → Shared → Prop
def frs (l : List Env) : List Addr := l.filterMap (·.frame)
abbrev Cx.fs (X : Cx) : List Addr := frs X.outer
def Vis (sc : Scope) (x : Str) : Prop := sc.names.lookup x = some .local ∨ sc.names.lookup x = some .cell ∨ sc.names.lookup x = some .free
def Loc (sc : Scope) (x : Str) : Prop := sc.names.lookup x = some .local ∨ sc.names.lookup x = some .cell
def Look (env : Env) (h : Heap) (m : Str → Option Value) (x : Str) (u : Value) : Prop :=
  (env.kindOf x = some .local ∧ m x = some u) ∨ ((env.kindOf x = some .cell ∨ env.kindOf x = some .free) ∧ ∃ c, env.cells.lookup x = some c ∧ h.IsCell c (some u))
structure Cx.Ok (X : Cx) : Prop where
  mod : Mod X.K X.mg X.base
  kind : X.env.scope.kind = .function
  glob : X.env.globals = mainGlobals
  blt : X.env.builtins = builtinsNs
  above : X.s₀.heap.objs.size ≤ X.env.locals
  inj : ∀ x y c, X.env.cells.lookup x = some c → X.env.cells.lookup y = some c → x = y
  has : ∀ x, (X.env.kindOf x = some .cell ∨ X.env.kindOf x = some .free) → ∃ c, X.env.cells.lookup x = some c
  cab : ∀ x c, X.fn x = true → X.env.cells.lookup x = some c → X.s₀.heap.objs.size ≤ c
  hd : X.calm = true → X.A.handled = none
  frames : X.A.frames = some X.stack
  stk : X.stack = X.outer ∨ (X.stack = X.env :: X.outer ∧ X.env.frame = some X.env.locals)
  exf : ∀ b ∈ X.ex, b ≠ X.env.locals ∧ ∀ x c, X.env.cells.lookup x = some c → c ≠ b
  bs : ∀ b o, X.base.get? b = some o → X.s₀.heap.get? b = some o ∧ X.H₀ b = none
  bsz : X.base.objs.size ≤ X.s₀.heap.objs.size
  noex : ∀ b o, X.base.get? b = some o → b ∉ X.ex
  exfs : ∀ b ∈ X.ex, b ∉ X.fs
  funs : X.s₀.heap.FunFrames X.base X.outer
  frf : ∀ b ∈ X.fs, X.H₀ b = none
structure Inv (X : Cx) (pins : List (Addr × Obj)) (σ : List (Option V)) (H : Hp) (s : Shared) : Prop where
  ok : X.Ok
  os : s.os = X.s₀.os
  bare : AllBare s.gens
  base : Un X.fs X.ex X.H₀ H X.s₀.heap s.heap
  loc : ∃ m, s.heap.Ns X.env.locals m ∧ ∀ (i : Nat) (x : Str) (v : V), X.N[i]? = some x → σ[i]? = some (some v) → Vis X.env.scope x → ∃ u, RelV v u ∧ Look X.env s.heap m x u
  cell : ∀ x c, X.env.cells.lookup x = some c → ∃ v, s.heap.IsCell c v
  free : H X.env.locals = none
  freeC : ∀ x c, X.env.cells.lookup x = some c → H c = none
  pin : ∀ p ∈ X.pn ++ pins, s.heap.get? p.1 = some p.2 ∧ H p.1 = none ∧ p.1 ≠ X.env.locals ∧ p.1 ∉ X.fs ∧ ∀ v, p.2.data ≠ .cell v
  hok : HOk X.prog X.w H s.heap
  len : σ.length = X.N.length
section
variable {X : Cx} {pins : List (Addr × Obj)} {σ : List (Option V)} {H H' : Hp} {s : Shared} {h' : Heap}
theorem Cx.Ok.nofr (ok : X.Ok) {b : Addr} {o : Obj} (e : X.base.get? b = some o) : b ∉ X.fs := fun hb => by
  have := (ok.funs.mem hb).1
  rw [e] at this; cases this
theorem Inv.bs (I : Inv X pins σ H s) : ∀ b o, X.base.get? b = some o → s.heap.get? b = some o ∧ H b = none := fun b o e =>
  ⟨I.base.keep b o (I.ok.bs b o e).1 (I.ok.bs b o e).2 (I.ok.nofr e) (I.ok.noex b o e), I.base.free b o (I.ok.bs b o e).1 (I.ok.bs b o e).2 (I.ok.noex b o e)⟩
theorem Inv.bk (I : Inv X pins σ H s) : ∀ b o, X.base.get? b = some o → s.heap.get? b = some o := fun b o e => (I.bs b o e).1
theorem Inv.mod (I : Inv X pins σ H s) : Mod X.K X.mg X.base := I.ok.mod
theorem Inv.kIn (I : Inv X pins σ H s) : X.K.In s.heap := I.ok.mod.kin.keeps I.bk
theorem Inv.nolimit (I : Inv X pins σ H s) : s.heap.NoLimit := I.ok.mod.nolimit.keeps I.bk
theorem Inv.fr (I : Inv X pins σ H s) : ∃ m, Fr X.base X.env.locals s.heap m :=
  let ⟨m, hn, _⟩ := I.loc
  ⟨m, hn, I.bk, Nat.le_trans I.ok.bsz I.ok.above⟩
theorem Inv.lt (I : Inv X pins σ H s) : X.env.locals < s.heap.objs.size := let ⟨_, hn, _⟩ := I.loc; hn.lt
theorem Inv.sz (I : Inv X pins σ H s) : X.s₀.heap.objs.size ≤ s.heap.objs.size := Nat.le_trans I.ok.above (Nat.le_of_lt I.lt)
theorem Inv.nofs (I : Inv X pins σ H s) {a : Addr} (h : s.heap.objs.size ≤ a) : a ∉ X.fs := fun hb => by
  obtain ⟨_, o, ho, _⟩ := I.ok.funs.mem hb
  exact absurd (Nat.lt_of_lt_of_le (Heap.lt_size ho) (Nat.le_trans I.sz h)) (Nat.lt_irrefl _)
theorem Inv.cne (I : Inv X pins σ H s) : ∀ x c, X.env.cells.lookup x = some c → c ≠ X.env.locals := fun x c e z => by
  obtain ⟨v, o, ho, hd⟩ := I.cell x c e
  obtain ⟨m, ⟨o', es, ep, ho', hd', _⟩, _⟩ := I.loc
  rw [z, ho'] at ho; cases ho; rw [hd'] at hd; cases hd
theorem Inv.funs (I : Inv X pins σ H s) : s.heap.FunFrames X.base X.outer := by
  have all : ∀ (l : List Env), (∀ b ∈ frs l, b ∈ X.fs) → X.s₀.heap.FunFrames X.base l → s.heap.FunFrames X.base l := by
    intro l
    induction l with
    | nil => intro _ _; trivial
    | cons env r ih =>
      intro hs hl
      obtain ⟨hk, ⟨L, o, hf, hn, ho, hd⟩, hr⟩ := hl
      have hL : L ∈ X.fs := hs L (by unfold frs; rw [List.filterMap_cons, hf]; exact List.mem_cons_self)
      obtain ⟨sl, e⟩ := I.base.slot L o ho (I.ok.frf L hL) hL fun z => I.ok.exfs L z hL
      exact ⟨hk, ⟨L, _, hf, hn, e, hd⟩, ih (fun b hb => hs b (by unfold frs; rw [List.filterMap_cons, hf]; exact List.mem_cons_of_mem _ hb)) hr⟩
  exact all X.outer (fun _ hb => hb) I.ok.funs
theorem Inv.stack (I : Inv X pins σ H s) : s.heap.FunFrames X.base X.stack := by
  rcases I.ok.stk with e | ⟨e, hf⟩
  · rw [e]; exact I.funs
  · rw [e]
    obtain ⟨m, hn, _⟩ := I.loc
    refine .cons (by rw [I.ok.kind]; decide) hf hn ?_ I.funs
    exact Heap.get?_none_of_le (Nat.le_trans I.ok.bsz I.ok.above)
theorem Inv.stkSub (I : Inv X pins σ H s) : ∀ b ∈ frs X.stack, b ∈ X.env.locals :: X.fs := fun b hb => by
  rcases I.ok.stk with e | ⟨e, hf⟩
  · rw [e] at hb; exact List.mem_cons_of_mem _ hb
  · rw [e] at hb
    unfold frs at hb
    rw [List.filterMap_cons, hf] at hb
    exact hb
theorem Inv.stkFree (I : Inv X pins σ H s) : ∀ b ∈ frs X.stack, H b = none := fun b hb => by
  rcases List.mem_cons.mp (I.stkSub b hb) with e | hb
  · rw [e]; exact I.free
  · obtain ⟨_, o, ho, _⟩ := I.ok.funs.mem hb
    exact I.base.free b o ho (I.ok.frf b hb) fun z => I.ok.exfs b z hb
theorem Inv.step {g' : Array GenState} {t' : Nat} {d' : Drawn} {ch : List Addr} (I : Inv X pins σ H s)
    (hch : ∀ b ∈ ch, (b ∈ X.ex ∨ X.s₀.heap.objs.size ≤ b) ∧ b ≠ X.env.locals ∧ (∀ x c, X.env.cells.lookup x = some c → c ≠ b) ∧ ∀ p ∈ X.pn ++ pins, p.1 ≠ b)
    (keep : ∀ b o, b ≠ X.env.locals → b ∉ X.fs → b ∉ ch → s.heap.get? b = some o → H b = none → h'.get? b = some o)
    (slot : ∀ b o, b ≠ X.env.locals → b ∈ X.fs → b ∉ ch → s.heap.get? b = some o → H b = none → ∃ sl, h'.get? b = some { o with slots := sl }) (free : ∀ b o, b ∉ ch → s.heap.get? b = some o → H b = none → H' b = none)
    (there : ∀ b o, b ∉ ch → s.heap.get? b = some o → ∃ o', h'.get? b = some o')
    (tups : ∀ b xs, H b = some (.tup xs) → H' b = some (.tup xs)) (frzs : ∀ b o u, H b = some (.frz o u) → H' b = some (.frz o u)) (tbls : ∀ b ps, H b = some (.tbl ps) → ∃ more, H' b = some (.tbl (ps ++ more)))
    (ns : ∀ m, s.heap.Ns X.env.locals m → h'.Ns X.env.locals m) (hok : HOk X.prog X.w H' h') (hg : AllBare g') :
    Inv X pins σ H' { s with heap := h', gens := g', drawn := d', toks := t' } := by
  have neL : ∀ b o, X.s₀.heap.get? b = some o → b ≠ X.env.locals := fun b o e => Nat.ne_of_lt (Nat.lt_of_lt_of_le (Heap.lt_size e) I.ok.above)
  have neC : ∀ b o, X.s₀.heap.get? b = some o → b ∉ X.ex → b ∉ ch := fun b o e hx hb => by
    rcases (hch b hb).1 with z | z
    · exact hx z
    · exact absurd (Nat.lt_of_lt_of_le (Heap.lt_size e) z) (Nat.lt_irrefl _)
  have cellK : ∀ x c, X.env.cells.lookup x = some c → ∀ v, s.heap.IsCell c v → h'.IsCell c v := fun x c e v ⟨o, ho, hd⟩ => by
    have nch : c ∉ ch := fun z => (hch c z).2.2.1 x c e rfl
    by_cases hc : c ∈ X.fs
    · obtain ⟨sl, q⟩ := slot c o (I.cne x c e) hc nch ho (I.freeC x c e)
      exact ⟨_, q, hd⟩
    · exact ⟨o, keep c o (I.cne x c e) hc nch ho (I.freeC x c e), hd⟩
  refine ⟨I.ok, I.os, hg, ⟨fun b o e n hb hx => ?_, fun b o e n hb hx => ?_, fun b o e n hx => ?_, fun b o e hx => ?_, fun b xs e => tups b xs (I.base.tups b xs e), fun b o xs e => frzs b o xs (I.base.frzs b o xs e), fun b ps e => ?_⟩, ?_, fun x c e => ?_, ?_, fun x c e => ?_, fun p hp => ?_, hok, I.len⟩
  · exact keep b o (neL b o e) hb (neC b o e hx) (I.base.keep b o e n hb hx) (I.base.free b o e n hx)
  · obtain ⟨sl, e1⟩ := I.base.slot b o e n hb hx
    obtain ⟨sl', e2⟩ := slot b _ (neL b o e) hb (neC b o e hx) e1 (I.base.free b o e n hx)
    exact ⟨sl', e2⟩
  · obtain ⟨o', e1⟩ := I.base.there b o e hx
    exact free b o' (neC b o e hx) e1 (I.base.free b o e n hx)
  · obtain ⟨o', e1⟩ := I.base.there b o e hx
    exact there b o' (neC b o e hx) e1
  · obtain ⟨m1, e1⟩ := I.base.tbls b ps e
    obtain ⟨m2, e2⟩ := tbls b _ e1
    exact ⟨m1 ++ m2, by rw [e2, Array.append_assoc]⟩
  · obtain ⟨m, hn, hl⟩ := I.loc
    refine ⟨m, ns m hn, fun i x v e1 e2 e3 => ?_⟩
    obtain ⟨u, r, l⟩ := hl i x v e1 e2 e3
    refine ⟨u, r, ?_⟩
    rcases l with l | ⟨k, c, e, z⟩
    · exact .inl l
    · exact .inr ⟨k, c, e, cellK x c e _ z⟩
  · obtain ⟨v, z⟩ := I.cell x c e
    exact ⟨v, cellK x c e v z⟩
  · obtain ⟨m, ⟨o, _, _, ho, _⟩, _⟩ := I.loc
    exact free _ o (fun z => (hch _ z).2.1 rfl) ho I.free
  · obtain ⟨v, o, ho, hd⟩ := I.cell x c e
    exact free c o (fun z => (hch c z).2.2.1 x c e rfl) ho (I.freeC x c e)
  · obtain ⟨e, n, ne, nf, d⟩ := I.pin p hp
    have nch : p.1 ∉ ch := fun z => (hch p.1 z).2.2.2 p hp rfl
    exact ⟨keep p.1 p.2 ne nf nch e n, free p.1 p.2 nch e n, ne, nf, d⟩
theorem Inv.un {t' : Nat} (I : Inv X pins σ H s) (u : Un X.fs [] H H' s.heap h') (hok : HOk X.prog X.w H' h') : Inv X pins σ H' { s with heap := h', toks := t' } := by
  obtain ⟨m, ⟨o, es, ep, ho, r⟩, _⟩ := id I.loc
  obtain ⟨sl, hL⟩ := u.any ho I.free (by simp)
  exact I.step (g' := s.gens) (d' := s.drawn) (ch := []) (fun _ z => nomatch z) (fun b o _ hb _ e n => u.keep b o e n hb (by simp)) (fun b o _ hb _ e n => u.slot b o e n hb (by simp)) (fun b o _ e n => u.free b o e n (by simp)) (fun b o _ e => u.there b o e (by simp)) u.tups u.frzs u.tbls (fun m' hm => by
    obtain ⟨o', es', ep', ho', r'⟩ := hm
    rw [ho] at ho'; cases ho'
    exact ⟨_, es', ep', hL, r'⟩) hok I.bare
theorem Inv.call {g' : Array GenState} {t' : Nat} {d' : Drawn} {ch : List Addr} (I : Inv X pins σ H s) (u : Un (frs X.stack) ch H H' s.heap h') (hok : HOk X.prog X.w H' h') (hg : AllBare g')
    (hch : ∀ b ∈ ch, (b ∈ X.ex ∨ X.s₀.heap.objs.size ≤ b) ∧ b ≠ X.env.locals ∧ (∀ x c, X.env.cells.lookup x = some c → c ≠ b) ∧ ∀ p ∈ X.pn ++ pins, p.1 ≠ b) :
    Inv X pins σ H' { s with heap := h', gens := g', drawn := d', toks := t' } := by
  obtain ⟨m, ⟨o, es, ep, ho, r⟩, _⟩ := id I.loc
  obtain ⟨sl, hL⟩ := u.any ho I.free fun z => (hch _ z).2.1 rfl
  exact I.step (ch := ch) hch (fun b o hL hb hc e n => u.keep b o e n (fun z => (List.mem_cons.mp (I.stkSub b z)).elim hL hb) hc) (fun b o _ _ hc e n => u.any e n hc) (fun b o hc e n => u.free b o e n hc) (fun b o hc e => u.there b o e hc) u.tups u.frzs u.tbls (fun m' hm => by
    obtain ⟨o', es', ep', ho', r'⟩ := hm
    rw [ho] at ho'; cases ho'
    exact ⟨_, es', ep', hL, r'⟩) hok hg
theorem Inv.turned {t' : Nat} {it : Addr} (I : Inv X pins σ H s) (k : ∀ b o, b ≠ it → s.heap.get? b = some o → h'.get? b = some o) (hn : H it = none) (hL : it ≠ X.env.locals)
    (h1 : it ∈ X.ex ∨ X.s₀.heap.objs.size ≤ it) (h2 : ∀ x c, X.env.cells.lookup x = some c → c ≠ it) (h3 : ∀ p ∈ X.pn ++ pins, p.1 ≠ it) : Inv X pins σ H { s with heap := h', toks := t' } := by
  have nit : ∀ b u, H b = some u → b ≠ it := fun b u e z => by rw [z, hn] at e; cases e
  refine I.step (g' := s.gens) (d' := s.drawn) (ch := [it]) (fun b hb => ?_) (fun b o _ _ hc e _ => k b o (fun z => hc (by simp [z])) e) (fun b o _ _ hc e _ => ⟨o.slots, k b o (fun z => hc (by simp [z])) e⟩) (fun _ _ _ _ n => n)
    (fun b o hc e => ⟨o, k b o (fun z => hc (by simp [z])) e⟩) (fun _ _ e => e) (fun _ _ _ e => e) (fun b ps e => ⟨#[], by rw [e]; simp⟩) (fun m hm => ?_) (fun b u e => ?_) I.bare
  · have e : b = it := by simpa using hb
    subst e
    exact ⟨h1, hL, h2, h3⟩
  · obtain ⟨o, es, ep, ho, r⟩ := hm
    exact ⟨o, es, ep, k _ o (Ne.symm hL) ho, r⟩
  · refine (I.hok b u e).stay (fun c v hc q => k c v ?_ q) (fun _ q => q) fun _ _ q => q
    rcases hc with z | z
    · rw [z]; exact nit b u e
    · exact nit c _ z
theorem Inv.tok (I : Inv X pins σ H s) (t : Nat) : Inv X pins σ H { s with toks := t } := I.un (h' := s.heap) (t' := t) Un.refl I.hok
theorem Inv.kept {t' : Nat} (I : Inv X pins σ H s) (k : ∀ b u, s.heap.get? b = some u → h'.get? b = some u) : Inv X pins σ H { s with heap := h', toks := t' } := I.un (Un.kept k) (I.hok.kept k)
theorem Inv.laid {a : Addr} {o : HO} {t' : Nat} (I : Inv X pins σ H s) (k : ∀ b u, s.heap.get? b = some u → h'.get? b = some u) (hp : s.heap.objs.size ≤ a) (new : ObjOk X.prog X.w (upd H a o) h' a o) :
    Inv X pins σ (upd H a o) { s with heap := h', toks := t' } := I.un (Un.laid k hp (I.hok.fresh hp)) (I.hok.laid k hp new)
theorem Inv.write {x e : Addr} {o : HO} {t' : Nat} (I : Inv X pins σ H s) (mu : Mut (H x)) (he : e = x ∨ H e = some (.own x)) (k : ∀ b u, b ≠ e → s.heap.get? b = some u → h'.get? b = some u) (heo : ∃ u, h'.get? e = some u)
    (new : ObjOk X.prog X.w (upd H x o) h' x o) : Inv X pins σ (upd H x o) { s with heap := h', toks := t' } := I.un (Un.write mu he k heo) (I.hok.write mu he k heo new)
theorem Inv.pins_of {pins' : List (Addr × Obj)} (I : Inv X pins σ H s) (h : ∀ p ∈ pins', s.heap.get? p.1 = some p.2 ∧ H p.1 = none ∧ p.1 ≠ X.env.locals ∧ p.1 ∉ X.fs ∧ ∀ v, p.2.data ≠ .cell v) : Inv X pins' σ H s :=
  ⟨I.ok, I.os, I.bare, I.base, I.loc, I.cell, I.free, I.freeC, fun p hp => (List.mem_append.mp hp).elim (fun z => I.pin p (List.mem_append_left _ z)) (h p), I.hok, I.len⟩
theorem nodup_ix {N : List Str} (hN : N.Nodup) {i j : Nat} {x : Str} (a : N[i]? = some x) (b : N[j]? = some x) : i = j := by
  obtain ⟨h1, e1⟩ := List.getElem?_eq_some_iff.mp a
  obtain ⟨h2, e2⟩ := List.getElem?_eq_some_iff.mp b
  exact (List.getElem_inj hN).mp (e1.trans e2.symm)
theorem store_ok2 {M : Model} {A : Around} {E : Value → Shared → Prop} {i : Nat} {x : Str} {v : V} {u : Value} {Q : Unit → Shared → Prop} (I : Inv X pins σ H s) (hN : X.N.Nodup) (hi : X.N[i]? = some x) (hx : Loc X.env.scope x) (r : RelV v u)
    (h : ∀ s', Inv X pins (σ.set i (some v)) H s' → (∃ a, Heap.SameBut a s.heap s'.heap ∧ (a = X.env.locals ∨ X.env.cells.lookup x = some a)) → Q () s') (hf : X.fn x = true ∨ X.env.scope.names.lookup x = some .local := by first | exact .inl rfl | exact .inr rfl | assumption) : wpAny M A (storeName X.env x u) Q E s := by
  obtain ⟨m, hn, hl⟩ := id I.loc
  have hcls : (X.env.scope.kind == .class || (X.env.scope.kind == .module && X.env.locals != X.env.globals)) = false := by rw [I.ok.kind]; rfl
  have hiσ : i < σ.length := by rw [I.len]; exact (List.getElem?_eq_some_iff.mp hi).1
  have cne := I.cne
  have tracked : ∀ {a : Addr} {h' : Heap}, (∃ o, s.heap.get? a = some o ∧ H a = none) → Heap.SameBut a s.heap h' → HOk X.prog X.w H h' := fun {a h'} ha hs b ob e => by
    obtain ⟨_, _, hfree⟩ := ha
    refine (I.hok b ob e).stay (fun c w' hc q => (hs.2 c ?_).trans q) (fun _ q => q) fun _ _ q => q
    rintro rfl
    rcases hc with rfl | hc
    · rw [hfree] at e; cases e
    · rw [hfree] at hc; cases hc
  rcases hx with hk | hk
  · refine wpAny_storeName_local hk hn (fun h' hn' hs => ?_) hcls
    obtain ⟨oL, _, _, hoL, _⟩ := id hn
    refine h _ ⟨I.ok, I.os, I.bare, ⟨fun b o e n hb hx => ?_, fun b o e n hb hx => ?_, I.base.free, fun b o e hx => ?_, I.base.tups, I.base.frzs, I.base.tbls⟩, ⟨_, hn', fun j y v' e1 e2 e3 => ?_⟩, fun y c e => ?_, I.free, I.freeC, fun p hp => ?_, tracked ⟨oL, hoL, I.free⟩ hs, by simpa using I.len⟩ ⟨_, hs, .inl rfl⟩
    · exact (hs.2 b (Nat.ne_of_lt (Nat.lt_of_lt_of_le (Heap.lt_size e) I.ok.above))).trans (I.base.keep b o e n hb hx)
    · obtain ⟨sl, e1⟩ := I.base.slot b o e n hb hx
      exact ⟨sl, (hs.2 b (Nat.ne_of_lt (Nat.lt_of_lt_of_le (Heap.lt_size e) I.ok.above))).trans e1⟩
    · obtain ⟨o', e1⟩ := I.base.there b o e hx
      exact ⟨o', (hs.2 b (Nat.ne_of_lt (Nat.lt_of_lt_of_le (Heap.lt_size e) I.ok.above))).trans e1⟩
    · by_cases hj : j = i
      · subst hj
        rw [hi] at e1; cases e1
        rw [List.getElem?_set_self hiσ] at e2
        cases e2
        exact ⟨u, r, .inl ⟨hk, by simp⟩⟩
      · rw [List.getElem?_set_ne (Ne.symm hj)] at e2
        obtain ⟨u', r', q⟩ := hl j y v' e1 e2 e3
        refine ⟨u', r', ?_⟩
        rcases q with ⟨k, e⟩ | ⟨k, c, e, z⟩
        · refine .inl ⟨k, ?_⟩
          have : y ≠ x := fun e => hj (nodup_ix hN e1 (e ▸ hi))
          simp [this, e]
        · exact .inr ⟨k, c, e, z.sameBut hs (cne y c e)⟩
    · obtain ⟨w', z⟩ := I.cell y c e
      exact ⟨w', z.sameBut hs (cne y c e)⟩
    · obtain ⟨e, n, ne, nf, d⟩ := I.pin p hp
      exact ⟨(hs.2 p.1 ne).trans e, n, ne, nf, d⟩
  · have hfn : X.fn x = true := by
      rcases hf with z | z
      · exact z
      · rw [z] at hk; cases hk
    obtain ⟨c, hc⟩ := I.ok.has x (.inl hk)
    obtain ⟨w', z⟩ := I.cell x c hc
    refine wpAny_storeName_cell I.ok.kind hk hc z (fun h' hc' hs => ?_)
    obtain ⟨oc, hoc, hocd⟩ := id z
    refine h { s with heap := h' } ⟨I.ok, I.os, I.bare, ⟨fun b o e n hb hx => ?_, fun b o e n hb hx => ?_, I.base.free, fun b o e hx => ?_, I.base.tups, I.base.frzs, I.base.tbls⟩, ⟨m, hn.sameBut hs (Ne.symm (cne x c hc)), fun j y v' e1 e2 e3 => ?_⟩, fun y c' e => ?_, I.free, I.freeC, fun p hp => ?_, tracked ⟨oc, hoc, I.freeC x c hc⟩ hs, by simpa using I.len⟩ ⟨c, hs, .inr hc⟩
    · exact (hs.2 b (Nat.ne_of_lt (Nat.lt_of_lt_of_le (Heap.lt_size e) (I.ok.cab x c hfn hc)))).trans (I.base.keep b o e n hb hx)
    · obtain ⟨sl, e1⟩ := I.base.slot b o e n hb hx
      exact ⟨sl, (hs.2 b (Nat.ne_of_lt (Nat.lt_of_lt_of_le (Heap.lt_size e) (I.ok.cab x c hfn hc)))).trans e1⟩
    · obtain ⟨o', e1⟩ := I.base.there b o e hx
      exact ⟨o', (hs.2 b (Nat.ne_of_lt (Nat.lt_of_lt_of_le (Heap.lt_size e) (I.ok.cab x c hfn hc)))).trans e1⟩
    · by_cases hj : j = i
      · subst hj
        rw [hi] at e1; cases e1
        rw [List.getElem?_set_self hiσ] at e2
        cases e2
        exact ⟨u, r, .inr ⟨.inl hk, c, hc, hc'⟩⟩
      · rw [List.getElem?_set_ne (Ne.symm hj)] at e2
        obtain ⟨u', r', q⟩ := hl j y v' e1 e2 e3
        refine ⟨u', r', ?_⟩
        rcases q with q | ⟨k, c', e, z'⟩
        · exact .inl q
        · refine .inr ⟨k, c', e, z'.sameBut hs ?_⟩
          rintro rfl
          exact hj (nodup_ix hN e1 (I.ok.inj _ _ _ e hc ▸ hi))
    · by_cases hcc : c' = c
      · subst hcc; exact ⟨_, hc'⟩
      · obtain ⟨w2, z2⟩ := I.cell y c' e
        exact ⟨w2, z2.sameBut hs hcc⟩
    · obtain ⟨e, n, ne, nf, d⟩ := I.pin p hp
      refine ⟨(hs.2 p.1 ?_).trans e, n, ne, nf, d⟩
      intro q
      rw [q, hoc] at e
      have q' : oc = p.2 := Option.some.inj e
      exact d w' (by rw [← q']; exact hocd)
theorem store_ok {M : Model} {A : Around} {E : Value → Shared → Prop} {i : Nat} {x : Str} {v : V} {u : Value} {Q : Unit → Shared → Prop} (I : Inv X pins σ H s) (hN : X.N.Nodup) (hi : X.N[i]? = some x) (hx : Loc X.env.scope x) (r : RelV v u)
    (h : ∀ s', Inv X pins (σ.set i (some v)) H s' → Q () s') (hf : X.fn x = true ∨ X.env.scope.names.lookup x = some .local := by first | exact .inl rfl | exact .inr rfl | assumption) : wpAny M A (storeName X.env x u) Q E s :=
  store_ok2 I hN hi hx r (fun s' I' _ => h s' I') hf
theorem Inv.call' {s' : Shared} {ch : List Addr} (I : Inv X pins σ H s) (ho : s'.os = s.os) (u : Un (frs X.stack) ch H H' s.heap s'.heap) (hok : HOk X.prog X.w H' s'.heap) (hg : AllBare s'.gens)
    (hch : ∀ b ∈ ch, (b ∈ X.ex ∨ X.s₀.heap.objs.size ≤ b) ∧ b ≠ X.env.locals ∧ (∀ x c, X.env.cells.lookup x = some c → c ≠ b) ∧ ∀ p ∈ X.pn ++ pins, p.1 ≠ b) : Inv X pins σ H' s' := by
  obtain ⟨h', g', d', t', o'⟩ := s'
  have e : o' = s.os := ho
  subst e
  exact I.call (g' := g') (t' := t') (d' := d') u hok hg hch
end
abbrev XK := Value → Option Addr → Hp → Prop
abbrev St := List (Option V)
abbrev VK := V → Hp → Prop
abbrev TE := St → Hp → VK → Prop
abbrev TT := St → Hp → (Bool → Hp → Prop) → Prop
abbrev TA := St → Hp → (List V → Hp → Prop) → Prop
structure Ends where
  nx : St → Hp → Prop
  rt : VK
  bk : St → Hp → Prop := fun _ _ => False
  ct : St → Hp → Prop := fun _ _ => False
abbrev TS := Ends → St → Hp → Prop
def EP (X : Cx) (pins : List (Addr × Obj)) (σ : St) (Q : VK) (u : Value) (s' : Shared) : Prop := ∃ v H', Inv X pins σ H' s' ∧ RelV v u ∧ Q v H'
def TP (X : Cx) (pins : List (Addr × Obj)) (σ : St) (Q : Bool → Hp → Prop) (b : Bool) (s' : Shared) : Prop := ∃ H', Inv X pins σ H' s' ∧ Q b H'
def AP (X : Cx) (pins : List (Addr × Obj)) (σ : St) (Q : List V → Hp → Prop) (us : List Value) (s' : Shared) : Prop := ∃ vs H', Inv X pins σ H' s' ∧ Vals vs us ∧ Q vs H'
def SP (X : Cx) (pins : List (Addr × Obj)) (D : Ends) (f : Flow) (s' : Shared) : Prop :=
  match f with
  | .next => ∃ σ' H', Inv X pins σ' H' s' ∧ D.nx σ' H'
  | .brk => ∃ σ' H', Inv X pins σ' H' s' ∧ D.bk σ' H'
  | .cont => ∃ σ' H', Inv X pins σ' H' s' ∧ D.ct σ' H'
  | .ret u => ∃ v σ' H', Inv X pins σ' H' s' ∧ RelV v u ∧ D.rt v H'
def PE (X : Cx) (e : Expr) (t : TE) : Prop :=
  ∀ (pins : List (Addr × Obj)) (s : Shared) (σ : St) (H : Hp) (Q : VK), Inv X pins σ H s → t σ H Q → wpAny (model X.prog X.w) X.A (eval e X.env) (EP X pins σ Q) X.xe s
def PT (X : Cx) (e : Expr) (t : TT) : Prop :=
  ∀ (pins : List (Addr × Obj)) (s : Shared) (σ : St) (H : Hp) (Q : Bool → Hp → Prop), Inv X pins σ H s → t σ H Q → wpAny (model X.prog X.w) X.A (isTrue e X.env (eval e X.env)) (TP X pins σ Q) X.xe s
def PW (X : Cx) (e : Expr) (t : TT) : Prop :=
  ∀ (whole : Sem Value) (pins : List (Addr × Obj)) (s : Shared) (σ : St) (H : Hp) (Q : Bool → Hp → Prop), Inv X pins σ H s → t σ H Q → wpAny (model X.prog X.w) X.A (isTrue e X.env whole) (TP X pins σ Q) X.xe s
theorem PW.pt {X : Cx} {e : Expr} {t : TT} (h : PW X e t) : PT X e t := h _
def PA (X : Cx) (es : List Expr) (t : TA) : Prop :=
  ∀ (pos : Pos) (pins : List (Addr × Obj)) (s : Shared) (σ : St) (H : Hp) (Q : List V → Hp → Prop), Inv X pins σ H s → t σ H Q → wpAny (model X.prog X.w) X.A (spliced (backTo pos (starEach es X.env))) (AP X pins σ Q) X.xe s
def PS (X : Cx) (st : Stmt) (t : TS) : Prop :=
  ∀ (pins : List (Addr × Obj)) (s : Shared) (σ : St) (H : Hp) (D : Ends), Inv X pins σ H s → t D σ H → wpAny (model X.prog X.w) X.A (exec st X.env) (SP X pins D) X.xe s
def PSs (X : Cx) (st : List Stmt) (t : TS) : Prop :=
  ∀ (pins : List (Addr × Obj)) (s : Shared) (σ : St) (H : Hp) (D : Ends), Inv X pins σ H s → t D σ H → wpAny (model X.prog X.w) X.A (execs st X.env) (SP X pins D) X.xe s
theorem thn {α : Type} {t : Sem α} {Q Q' : α → Shared → Prop} {M : Model} {A : Around} {E : Value → Shared → Prop} {s : Shared} (h : wpAny M A t Q E s) (hQ : ∀ a s, Q a s → Q' a s) : wpAny M A t Q' E s := wpAny_mono h hQ fun _ _ x => x
end L2
namespace L2
open PySem PySem.Spec PyProof.Rows
section
variable {X : Cx}
theorem bin {a b : Expr} {ta tb : TE} (ha : PE X a ta) (hb : PE X b tb) {pins : List (Addr × Obj)} {s : Shared} {σ : St} {H : Hp} {R : V → V → Hp → Prop} (I : Inv X pins σ H s) (h : ta σ H fun x H1 => tb σ H1 fun y H2 => R x y H2)
    {α : Type} {Q : α → Shared → Prop} {f : Value → Value → Sem α}
    (hf : ∀ v u s2 x y H2, Inv X pins σ H2 s2 → RelV x v → RelV y u → R x y H2 → wpAny (model X.prog X.w) X.A (f v u) Q X.xe s2) :
    wpAny (model X.prog X.w) X.A (eval a X.env) (fun v s₁ => wpAny (model X.prog X.w) X.A (eval b X.env) (fun u s₂ => wpAny (model X.prog X.w) X.A (f v u) Q X.xe s₂) X.xe s₁) X.xe s := by
  refine thn (ha pins s σ H _ I h) fun v s1 ⟨x, H1, I1, r1, q1⟩ => ?_
  refine thn (hb pins s1 σ H1 _ I1 q1) fun u s2 ⟨y, H2, I2, r2, q2⟩ => ?_
  exact hf v u s2 x y H2 I2 r1 r2 q2
def tVar (i : Nat) : TE := fun σ H Q => ∃ v, σ[i]? = some (some v) ∧ Q v H
def tC (v : V) : TE := fun _ H Q => Q v H
theorem pe_var {i : Nat} {x : Str} {pos : Pos} (hN : X.N[i]? = some x) (hv : Vis X.env.scope x) (hd : (x == ("__debug__" : Str)) = false := by decide) (hcd : (x == ("__classdict__" : Str)) = false := by decide) : PE X (.Name x pos) (tVar i) := by
  intro pins s σ H Q I h
  obtain ⟨v, e, h⟩ := h
  obtain ⟨m, hn, hl⟩ := I.loc
  obtain ⟨u, r, l⟩ := hl i x v hN e hv
  have fin : EP X pins σ Q u s := ⟨v, H, I, r, h⟩
  rcases l with ⟨hk, hm⟩ | ⟨hk, c, hc, hcell⟩
  · exact wpAny_Name (wpAny_loadName_local I.ok.kind hk hn hm fin) hd
  · rcases hk with hk | hk
    · exact wpAny_Name (wpAny_loadName_cell I.ok.kind hk hc hcell fin) hd
    · exact wpAny_Name (wpAny_loadName_free I.ok.kind hk hc hcell fin hcd) hd
theorem pe_int {i j pos} : PE X (.Constant (.int i) j pos) (tC (.int i)) := fun _ _ _ H _ I h => wpAny_Constant_int ⟨.int i, H, I.tok _, ⟨_, rfl⟩, h⟩
theorem pe_bl {b j pos} : PE X (.Constant (.bool b) j pos) (tC (.bl b)) := fun _ _ _ H _ I h => Constant_bool ⟨.bl b, H, I, rfl, h⟩
theorem pe_non {j pos} : PE X (.Constant .none j pos) (tC .non) := fun _ _ _ H _ I h => Constant_none ⟨.non, H, I, rfl, h⟩
theorem pe_str {x j pos} : PE X (.Constant (.str x) j pos) (tC (.str x)) := fun _ _ _ H _ I h => Calls.Constant_str ⟨.str x, H, I.tok _, ⟨_, rfl⟩, h⟩
def Gl (X : Cx) (x : Str) : Prop := X.env.kindOf x = some .globalImplicit
theorem ld_glob {E : Value → Shared → Prop} {pins : List (Addr × Obj)} {s : Shared} {σ : St} {H : Hp} {x : Str} {u : Value} {pos : Pos} {Q : Value → Shared → Prop} (I : Inv X pins σ H s) (hg : Gl X x) (hm : X.mg x = some u) (h : Q u s)
    (hd : (x == ("__debug__" : Str)) = false := by decide) : wpAny (model X.prog X.w) X.A (eval (.Name x pos) X.env) Q E s :=
  Calls.Name_function_global I.ok.kind hg (Calls.loadGlobal_global (by rw [I.ok.glob]; exact I.mod.glob.keeps I.bk) hm h) hd
theorem ld_blt {E : Value → Shared → Prop} {pins : List (Addr × Obj)} {s : Shared} {σ : St} {H : Hp} {x : Str} {u : Value} {pos : Pos} {Q : Value → Shared → Prop} (I : Inv X pins σ H s) (hg : Gl X x) (hm : X.mg x = none) (hv : bootBuiltins x = some u) (h : Q u s)
    (hn : x ≠ "__name__" := by decide) (hd : (x == ("__debug__" : Str)) = false := by decide) : wpAny (model X.prog X.w) X.A (eval (.Name x pos) X.env) Q E s := by
  obtain ⟨mb, h1, h2⟩ := I.mod.blt
  exact Calls.Name_function_global I.ok.kind hg (Calls.loadGlobal_builtin (by rw [I.ok.glob]; exact I.mod.glob.keeps I.bk) hm (by rw [I.ok.blt]; exact h1.keeps I.bk) ((h2 x hn).trans hv) h) hd
variable {a b : Expr} {ta tb : TE} {pos : Pos}
def PC (X : Cx) (op : CmpOp) (a b : Expr) (t : TE) : Prop :=
  ∀ (pins : List (Addr × Obj)) (s : Shared) (σ : St) (H : Hp) (Q : VK), Inv X pins σ H s → t σ H Q →
    wpAny (model X.prog X.w) X.A (eval a X.env) (fun v s₁ => wpAny (model X.prog X.w) X.A (eval b X.env) (fun u s₂ => wpAny (model X.prog X.w) X.A (compareOp op v u) (EP X pins σ Q) X.xe s₂) X.xe s₁) X.xe s
theorem nobehind (b : Expr) {op : CmpOp} (h : op ≠ .In) (h2 : op ≠ .NotIn) : behindInMarks op b = false := by
  have e1 : (op == CmpOp.In) = false := by cases op <;> first | rfl | exact absurd rfl h
  have e2 : (op == CmpOp.NotIn) = false := by cases op <;> first | rfl | exact absurd rfl h2
  cases b <;> simp [behindInMarks, e1, e2]
def tIsN (ta : TE) : TE := fun σ H Q => ta σ H fun x H1 => Q (.bl (decide (x = .non))) H1
def tNotN (ta : TE) : TE := fun σ H Q => ta σ H fun x H1 => Q (.bl (!decide (x = .non))) H1
theorem RelV.none_iff {x : V} {v : Value} (r : RelV x v) : (v == Value.none) = decide (x = .non) := by
  cases x with
  | non => cases r; rfl
  | bl _ => cases r; rfl
  | int _ => obtain ⟨t, rfl⟩ := r; rfl
  | str _ => obtain ⟨t, rfl⟩ := r; rfl
  | byt _ => obtain ⟨t, rfl⟩ := r; rfl
  | flt _ => obtain ⟨t, rfl⟩ := r; rfl
  | ref _ => cases r; rfl
  | ty _ => cases r; rfl
theorem pc_isN {j pos'} (ha : PE X a ta) : PC X .Is a (.Constant .none j pos') (tIsN ta) := by
  intro pins s σ H Q I h
  refine thn (ha pins s σ H _ I h) fun v s1 ⟨x, H1, I1, r1, q1⟩ => ?_
  exact Constant_none (is_none_gen ⟨.bl _, H1, I1, by rw [r1.none_iff]; rfl, q1⟩)
theorem pc_notN {j pos'} (ha : PE X a ta) : PC X .IsNot a (.Constant .none j pos') (tNotN ta) := by
  intro pins s σ H Q I h
  refine thn (ha pins s σ H _ I h) fun v s1 ⟨x, H1, I1, r1, q1⟩ => ?_
  exact Constant_none (isnot_none_gen ⟨.bl _, H1, I1, by rw [r1.none_iff]; rfl, q1⟩)
def tB (t : TE) : TT := fun σ H Q => t σ H fun x H1 => ∃ c, x = .bl c ∧ Q c H1
theorem pe_cmp {op : CmpOp} {t : TE} (h : PC X op a b t) (h1 : behindInMarks op b = false := by first | exact nobehind _ (by decide) (by decide) | rfl) : PE X (.Compare a [op] [b] pos) t := fun pins s σ H Q I hw => wpAny_Compare1 (h pins s σ H Q I hw) h1
theorem pt_cmp {op : CmpOp} {t : TE} (h : PC X op a b t) (h1 : behindInMarks op b = false := by first | exact nobehind _ (by decide) (by decide) | rfl) : PT X (.Compare a [op] [b] pos) (tB t) := by
  intro pins s σ H Q I hw
  refine wpAny_isTrue_Compare1 (thn (h pins s σ H _ I hw) fun v s1 h1 => thn h1 fun u s2 h2 => thn h2 fun c s3 ⟨x, H1, I1, r1, q1⟩ => ?_) h1
  obtain ⟨d, rfl, q⟩ := q1
  cases r1
  exact wpAny_truthy_bool ⟨H1, I1, q⟩
theorem pt_val {e : Expr} {t : TE} (h : PE X e t) (he : ∀ whole, isTrue e X.env whole = (do let v ← whole; standAt e.pos; holding [v] (truthy v)) := by intro _; rfl) : PT X e (tB t) := by
  intro pins s σ H Q I hw
  refine isTrue_plain (thn (h pins s σ H _ I hw) fun v s1 ⟨x, H1, I1, r1, q1⟩ => ?_) (he _)
  obtain ⟨d, rfl, q⟩ := q1
  cases r1
  exact wpAny_truthy_bool ⟨H1, I1, q⟩
variable {tA tB' : TT} {rest : List Expr}
def tAnd (t u : TT) : TT := fun σ H Q => t σ H fun c H1 => if c = true then u σ H1 Q else Q false H1
def tOr (t u : TT) : TT := fun σ H Q => t σ H fun c H1 => if c = true then Q true H1 else u σ H1 Q
theorem pw_and1 (ha : PT X a tA) : PW X (.BoolOp .And [a] pos) tA := by
  intro wh pins s σ H Q I h
  refine isTrue_and (thn (ha pins s σ H Q I h) fun c s1 e => ?_)
  cases c with
  | true => exact isTrue_and_nil e
  | false => exact e
theorem pw_or1 (ha : PT X a tA) : PW X (.BoolOp .Or [a] pos) tA := by
  intro wh pins s σ H Q I h
  refine isTrue_or (thn (ha pins s σ H Q I h) fun c s1 e => ?_)
  cases c with
  | false => exact isTrue_or_nil e
  | true => exact e
theorem pw_and (ha : PT X a tA) (hb : PW X (.BoolOp .And (b :: rest) pos) tB') : PW X (.BoolOp .And (a :: b :: rest) pos) (tAnd tA tB') := by
  intro wh pins s σ H Q I h
  refine isTrue_and (thn (ha pins s σ H _ I h) fun c s1 ⟨H1, I1, q1⟩ => ?_)
  cases c with
  | true => exact hb wh pins s1 σ H1 Q I1 q1
  | false => exact ⟨H1, I1, q1⟩
theorem pw_or (ha : PT X a tA) (hb : PW X (.BoolOp .Or (b :: rest) pos) tB') : PW X (.BoolOp .Or (a :: b :: rest) pos) (tOr tA tB') := by
  intro wh pins s σ H Q I h
  refine isTrue_or (thn (ha pins s σ H _ I h) fun c s1 ⟨H1, I1, q1⟩ => ?_)
  cases c with
  | true => exact ⟨H1, I1, q1⟩
  | false => exact hb wh pins s1 σ H1 Q I1 q1
def tAndV (ta tb : TE) : TE := fun σ H Q => ta σ H fun x H1 => ∃ c, x = .bl c ∧ if c = true then tb σ H1 Q else Q (.bl false) H1
theorem pe_one {op} {t : TE} (h : PE X a t) : PE X (.BoolOp op [a] pos) t := fun pins s σ H Q I hw => BoolOp_one (h pins s σ H Q I hw)
theorem pe_and (ha : PE X a ta) (hb : PE X (.BoolOp .And (b :: rest) pos) tb) : PE X (.BoolOp .And (a :: b :: rest) pos) (tAndV ta tb) := by
  intro pins s σ H Q I h
  refine BoolOp_and (thn (ha pins s σ H _ I h) fun v s1 ⟨x, H1, I1, r1, q1⟩ => ?_)
  obtain ⟨c, rfl, q1⟩ := q1
  cases r1
  refine wpAny_truthy_bool ?_
  cases c with
  | true => exact hb pins s1 σ H1 Q I1 q1
  | false => exact ⟨.bl false, H1, I1, rfl, q1⟩
def tIf (t : TT) (ta tb : TE) : TE := fun σ H Q => t σ H fun c H1 => if c = true then ta σ H1 Q else tb σ H1 Q
theorem pe_ifExp {c : Expr} (hc : PT X c tA) (ha : PE X a ta) (hb : PE X b tb) : PE X (.IfExp c a b pos) (tIf tA ta tb) := by
  intro pins s σ H Q I h
  refine wpAny_IfExp (thn (hc pins s σ H _ I h) fun d s1 ⟨H1, I1, q1⟩ => ?_)
  cases d with
  | true => exact ha pins s1 σ H1 Q I1 q1
  | false => exact hb pins s1 σ H1 Q I1 q1
end
end L2
namespace L2
open PySem PySem.Spec PyProof.Rows
def SqL (K : PySem.W.Frag) (H : Hp) (a : Addr) (xs : List V) : Prop :=
  Rd H a (.lst xs) ∨
    ∃ (o : Obj) (its : Array Value) (n : Nat), K.lookup a = some o ∧ o.cls = .type "list" ∧ o.dict = none ∧ o.data = .seq its n ∧ its.size ≤ sizeLine ∧ Vals xs its.toList
def SqT (K : PySem.W.Frag) (H : Hp) (a : Addr) (xs : List V) : Prop :=
  Rd H a (.tup xs) ∨
    ∃ (o : Obj) (its : Array Value) (n : Nat), K.lookup a = some o ∧ o.cls = .type "tuple" ∧ o.data = .seq its n ∧ its.size ≤ sizeLine ∧ Vals xs its.toList
def absV : Value → Option V
  | .none => some .non
  | .bool b => some (.bl b)
  | .int i _ => some (.int i)
  | .str x _ => some (.str x)
  | .bytes b _ => some (.byt b)
  | .float b _ => some (.flt b)
  | .ref a => some (.ref a)
  | .type n => some (.ty n)
  | _ => none
theorem RelV.abs {x : V} {u : Value} (r : RelV x u) : absV u = some x := by
  cases x with
  | non => cases r; rfl
  | bl _ => cases r; rfl
  | int _ => obtain ⟨t, rfl⟩ := r; rfl
  | str _ => obtain ⟨t, rfl⟩ := r; rfl
  | byt _ => obtain ⟨t, rfl⟩ := r; rfl
  | flt _ => obtain ⟨t, rfl⟩ := r; rfl
  | ref _ => cases r; rfl
  | ty _ => cases r; rfl
theorem RelV.inj {x y : V} {u : Value} (r : RelV x u) (q : RelV y u) : x = y := Option.some.inj (r.abs.symm.trans q.abs)
theorem Vals.inj : ∀ {xs ys : List V} {us : List Value}, Vals xs us → Vals ys us → xs = ys
  | _, _, _, .nil, .nil => rfl
  | _, _, _, .cons r t, .cons r' t' => by rw [r.inj r', Vals.inj t t']
section
variable {X : Cx} {pins : List (Addr × Obj)} {σ : St} {H : Hp} {s : Shared} {a : Addr} {xs ys : List V}
theorem SqL.of {K : PySem.W.Frag} (h : H a = some (.lst xs)) : SqL K H a xs := .inl (.inl h)
theorem SqT.of {K : PySem.W.Frag} (h : H a = some (.tup xs)) : SqT K H a xs := .inl (.inl h)
theorem Inv.list (I : Inv X pins σ H s) (h : SqL X.K H a xs) : ∃ its : List Value, Vals xs its ∧ PlainL s.heap a its.toArray ∧ xs.length ≤ sizeLine := by
  rcases h with h | ⟨o, its, n, hk, hc, hd, hs, hz, r⟩
  · obtain ⟨z, its, n, r, e⟩ := h.ok I.hok
    exact ⟨its, r, ⟨_, n, e, rfl, rfl, rfl⟩, z⟩
  · refine ⟨its.toList, r, ⟨o, n, I.kIn a o hk, hc, hd, by simpa using hs⟩, ?_⟩
    have e := r.length
    simp only [Array.length_toList] at e
    omega
theorem Inv.tuple (I : Inv X pins σ H s) (h : SqT X.K H a xs) : ∃ its : List Value, Vals xs its ∧ IsTup s.heap a its.toArray ∧ xs.length ≤ sizeLine := by
  rcases h with h | ⟨o, its, n, hk, hc, hs, hz, r⟩
  · obtain ⟨z, its, r, p⟩ := h.ok I.hok
    exact ⟨its, r, p, z⟩
  · refine ⟨its.toList, r, ⟨o, I.kIn a o hk, hc, n, by simpa using hs⟩, ?_⟩
    have e := r.length
    simp only [Array.length_toList] at e
    omega
theorem Inv.list_inj (I : Inv X pins σ H s) (h : SqL X.K H a xs) (h' : SqL X.K H a ys) : xs = ys := by
  obtain ⟨its, r, ⟨o, n, e, _, _, d⟩, _⟩ := I.list h
  obtain ⟨its', r', ⟨o', n', e', _, _, d'⟩, _⟩ := I.list h'
  rw [e] at e'; cases e'
  rw [d] at d'
  injection d' with d1 _
  have : its = its' := by simpa using congrArg Array.toList d1
  subst this
  exact r.inj r'
end
abbrev Cx.wish (X : Cx) (E : Value → Shared → Prop) : Cx := { X with xe := E }
abbrev Cx.nox (X : Cx) : Cx := X.wish fun _ _ => False
theorem Cx.Ok.wish {X : Cx} (ok : X.Ok) (E : Value → Shared → Prop) : (X.wish E).Ok :=
  ⟨ok.mod, ok.kind, ok.glob, ok.blt, ok.above, ok.inj, ok.has, ok.cab, ok.hd, ok.frames, ok.stk, ok.exf, ok.bs, ok.bsz, ok.noex, ok.exfs, ok.funs, ok.frf⟩
theorem Cx.Ok.unwish {X : Cx} {E : Value → Shared → Prop} (ok : (X.wish E).Ok) : X.Ok :=
  ⟨ok.mod, ok.kind, ok.glob, ok.blt, ok.above, ok.inj, ok.has, ok.cab, ok.hd, ok.frames, ok.stk, ok.exf, ok.bs, ok.bsz, ok.noex, ok.exfs, ok.funs, ok.frf⟩
section
variable {X : Cx} {pins : List (Addr × Obj)} {σ : St} {H : Hp} {s : Shared} {E : Value → Shared → Prop}
theorem Inv.wish (I : Inv X pins σ H s) (E : Value → Shared → Prop) : Inv (X.wish E) pins σ H s := ⟨I.ok.wish E, I.os, I.bare, I.base, I.loc, I.cell, I.free, I.freeC, I.pin, I.hok, I.len⟩
theorem Inv.unwish (I : Inv (X.wish E) pins σ H s) : Inv X pins σ H s := ⟨I.ok.unwish, I.os, I.bare, I.base, I.loc, I.cell, I.free, I.freeC, I.pin, I.hok, I.len⟩
theorem SP.unwish {D : Ends} {f : Flow} {s' : Shared} (h : SP (X.wish E) pins D f s') : SP X pins D f s' := by
  cases f with
  | next => obtain ⟨σ', H', I, q⟩ := h; exact ⟨σ', H', I.unwish, q⟩
  | brk => obtain ⟨σ', H', I, q⟩ := h; exact ⟨σ', H', I.unwish, q⟩
  | cont => obtain ⟨σ', H', I, q⟩ := h; exact ⟨σ', H', I.unwish, q⟩
  | ret u => obtain ⟨v, σ', H', I, r, q⟩ := h; exact ⟨v, σ', H', I.unwish, r, q⟩
theorem PSs.nox {st : List Stmt} {t : TS} (h : PSs X.nox st t) : PSs X st t := fun pins s σ H D I hw =>
  wpAny_mono (h pins s σ H D (I.wish _) hw) (fun _ _ q => q.unwish) fun _ _ z => False.elim z
end
section
variable {X : Cx} {st : Stmt} {rest : List Stmt} {t u : TS} {e : Expr} {te : TE} {pos : Pos}
def tNext : TS := fun D σ H => D.nx σ H
def tSeq (t u : TS) : TS := fun D σ H => t { D with nx := u D } σ H
theorem pss_nil : PSs X [] tNext := fun _ _ σ H _ I h => wpAny_execs_nil ⟨σ, H, I, h⟩
theorem pss_cons (h1 : PS X st t) (h2 : PSs X rest u) : PSs X (st :: rest) (tSeq t u) := by
  intro pins s σ H D I h
  refine wpAny_execs_cons (thn (h1 pins s σ H { D with nx := u D } I h) fun f s1 q => ?_)
  cases f with
  | next =>
    obtain ⟨σ', H', I', q⟩ := q
    exact h2 pins s1 σ' H' D I' q
  | ret v => exact q
  | brk => exact q
  | cont => exact q
theorem pss_one (h1 : PS X st t) : PSs X [st] t := by
  intro pins s σ H D I h
  refine wpAny_execs_cons (thn (h1 pins s σ H D I h) fun f s1 q => ?_)
  cases f with
  | next => exact wpAny_execs_nil q
  | ret v => exact q
  | brk => exact q
  | cont => exact q
theorem Inv.quiet {pins : List (Addr × Obj)} {σ : St} {H : Hp} {s : Shared} (I : Inv X pins σ H s) : interactive X.env = false := by simp [interactive, I.ok.kind]
def tDrop (te : TE) : TS := fun D σ H => te σ H fun _ H1 => D.nx σ H1
theorem ps_expr (he : PE X e te) (hs : swapsWith e none pos.line X.env = pure false := by rfl) : PS X (.Expr e pos) (tDrop te) := by
  intro pins s σ H D I h
  exact wpAny_Expr_any (thn (he pins s σ H _ I h) fun v s1 ⟨x, H1, I1, r1, q1⟩ => ⟨σ, H1, I1, q1⟩) I.quiet hs
def tRet (te : TE) : TS := fun D σ H => te σ H D.rt
theorem ps_ret (he : PE X e te) : PS X (.Return (some e) pos) (tRet te) := by
  intro pins s σ H D I h
  exact wpAny_Return_some (thn (he pins s σ H _ I h) fun v s1 ⟨x, H1, I1, r1, q1⟩ => ⟨x, σ, H1, I1, r1, q1⟩)
def tIfS (c : TT) (t u : TS) : TS := fun D σ H => c σ H fun b H1 => if b = true then t D σ H1 else u D σ H1
theorem ps_if {c : Expr} {a b : List Stmt} {tc : TT} (hc : PT X c tc) (ha : PSs X a t) (hb : PSs X b u) : PS X (.If c a b pos) (tIfS tc t u) := by
  intro pins s σ H D I h
  refine wpAny_If (thn (hc pins s σ H _ I h) fun d s1 ⟨H1, I1, q1⟩ => ?_)
  cases d with
  | true => exact ha pins s1 σ H1 D I1 q1
  | false => exact hb pins s1 σ H1 D I1 q1
end
abbrev TG := V → St → Hp → (St → Hp → Prop) → Prop
abbrev TGs := List V → St → Hp → (St → Hp → Prop) → Prop
def PG (X : Cx) (target : Expr) (t : TG) : Prop :=
  ∀ (pins : List (Addr × Obj)) (s : Shared) (σ : St) (H : Hp) (v : V) (u : Value) (Q : St → Hp → Prop), Inv X pins σ H s → RelV v u → t v σ H Q →
    wpAny (model X.prog X.w) X.A (assign target X.env u) (fun _ s' => ∃ σ' H', Inv X pins σ' H' s' ∧ Q σ' H') X.xe s
def PGs (X : Cx) (ts : List Expr) (t : TGs) : Prop :=
  ∀ (pins : List (Addr × Obj)) (s : Shared) (σ : St) (H : Hp) (vs : List V) (us : List Value) (Q : St → Hp → Prop), Inv X pins σ H s → Vals vs us → t vs σ H Q →
    wpAny (model X.prog X.w) X.A (assignInOrder ((assignEach ts X.env).map (·.2)) us) (fun _ s' => ∃ σ' H', Inv X pins σ' H' s' ∧ Q σ' H') X.xe s
abbrev TSet := V → V → V → Hp → (Hp → Prop) → Prop
def PSet (X : Cx) (t : TSet) : Prop :=
  ∀ (pins : List (Addr × Obj)) (s : Shared) (σ : St) (H : Hp) (o i v : V) (ov iv u : Value) (Q : Hp → Prop), Inv X pins σ H s → RelV o ov → RelV i iv → RelV v u → t o i v H Q →
    wpAny (model X.prog X.w) X.A (setItem ov iv u) (fun _ s' => ∃ H', Inv X pins σ H' s' ∧ Q H') X.xe s
section
variable {X : Cx} {pos : Pos}
def gName (i : Nat) : TG := fun v σ H Q => Q (σ.set i (some v)) H
theorem pg_name {i : Nat} {x : Str} (hN : X.N.Nodup) (hi : X.N[i]? = some x) (hx : Loc X.env.scope x) (hf : X.fn x = true ∨ X.env.scope.names.lookup x = some .local := by first | exact .inl rfl | exact .inr rfl | assumption) : PG X (.Name x pos) (gName i) := by
  intro pins s σ H v u Q I r h
  exact wpAny_assign_Name (store_ok I hN hi hx r (fun s' I' => ⟨_, H, I', h⟩) hf)
def gNil : TGs := fun vs σ H Q => vs = [] ∧ Q σ H
def gCons (t : TG) (u : TGs) : TGs := fun vs σ H Q => ∃ v r, vs = v :: r ∧ t v σ H fun σ' H' => u r σ' H' Q
theorem pgs_nil : PGs X [] gNil := by
  intro pins s σ H vs us Q I r h
  obtain ⟨e, h⟩ := h
  subst e
  cases r
  exact assignInOrder_nil ⟨σ, H, I, h⟩
theorem pgs_cons {e : Expr} {es : List Expr} {t : TG} {u : TGs} (h1 : PG X e t) (h2 : PGs X es u)
    (hs : (assignEach (e :: es) X.env).map (·.2) = assign e X.env :: (assignEach es X.env).map (·.2) := by rfl) : PGs X (e :: es) (gCons t u) := by
  intro pins s σ H vs us Q I r h
  obtain ⟨v, vr, e1, h⟩ := h
  subst e1
  cases r with
  | cons r rr =>
    rw [hs]
    refine assignInOrder_cons (thn (h1 pins s σ H _ _ _ I r h) fun _ s1 ⟨σ1, H1, I1, q1⟩ => ?_)
    exact h2 pins s1 σ1 H1 _ _ Q I1 rr q1
def gTup (K : PySem.W.Frag) (n : Nat) (t : TGs) : TG := fun v σ H Q => ∃ a xs, v = .ref a ∧ SqT K H a xs ∧ xs.length = n ∧ t xs σ H Q
theorem pg_tup {es : List Expr} {k : Nat} {t : TGs} {n : Nat} (hc : X.calm = true) (h : PGs X es t)
    (hn : (assignEach es X.env).length = n := by rfl) (hst : (assignEach es X.env).findIdx? (·.1) = none := by rfl) : PG X (.Tuple es k pos) (gTup X.K n t) := by
  intro pins s σ H v u Q I r hw
  obtain ⟨a, xs, e1, hq, hl, hw⟩ := hw
  subst e1
  cases r
  obtain ⟨its, rv, ht, hz⟩ := I.tuple hq
  refine assign_Tuple_tuple (I.ok.hd hc) ht (by simp [hn, ← hl, rv.length]) hst fun h' hx => ?_
  have I1 : Inv X pins σ H { s with heap := h' } := I.kept (t' := s.toks) fun b o e => hx b o (Nat.ne_of_lt (Heap.lt_size e)) e
  exact h pins _ σ H xs _ Q I1 (by simpa using rv) hw
def gSub (to ti : TE) (t : TSet) : TG := fun v σ H Q => to σ H fun o H1 => ti σ H1 fun i H2 => t o i v H2 fun H3 => Q σ H3
theorem pg_sub {o i : Expr} {to ti : TE} {t : TSet} (ho : PE X o to) (hi : PE X i ti) (hs : PSet X t)
    (ha : ∀ v, assign (.Subscript o i pos) X.env v = (do
      let ov ← holding [v] (eval o X.env)
      let iv ← holding [v, ov] (eval i X.env)
      standAt pos
      holding [v, ov, iv] (setItem ov iv v)
      release [v, ov, iv] []) := by intro _; rfl) : PG X (.Subscript o i pos) (gSub to ti t) := by
  intro pins s σ H v u Q I r h
  rw [ha]
  refine wpAny_bind (wpAny_holding (thn (ho pins s σ H _ I h) fun ov s1 ⟨x, H1, I1, r1, q1⟩ => ?_))
  refine wpAny_bind (wpAny_holding (thn (hi pins s1 σ H1 _ I1 q1) fun iv s2 ⟨y, H2, I2, r2, q2⟩ => ?_))
  refine wpAny_bind (wpAny_standAt (wpAny_bind (wpAny_holding (thn (hs pins s2 σ H2 x y v ov iv u _ I2 r1 r2 r q2) fun _ s3 ⟨H3, I3, q3⟩ => ?_))))
  exact wpAny_release ⟨σ, H3, I3, q3⟩
def tAsg (te : TE) (g : TG) : TS := fun D σ H => te σ H fun x H1 => g x σ H1 D.nx
theorem ps_asg {tg e : Expr} {te : TE} {g : TG} (he : PE X e te) (hg : PG X tg g) (hs : swapsWithSole [tg] e pos.line X.env = pure false := by rfl) (hw : swappedStores [tg] e X.env = pure none := by rfl)
    (h1 : (assignEach [tg] X.env).map (·.2) = [assign tg X.env] := by rfl) : PS X (.Assign [tg] e pos) (tAsg te g) := by
  intro pins s σ H D I h
  refine wpAny_Assign_stores (thn (he pins s σ H _ I h) fun v s1 ⟨x, H1, I1, r1, q1⟩ => ?_) hs hw
  rw [h1]
  exact thn (hg pins s1 σ H1 x v _ I1 r1 q1) fun _ s2 q => q
theorem ps_set {i : Nat} {x : Str} {e : Expr} {te : TE} {pos' : Pos} (hN : X.N.Nodup) (hi : X.N[i]? = some x) (hx : Loc X.env.scope x) (he : PE X e te) (hs : swapsWith e (some (.Name x pos')) pos.line X.env = pure false := by rfl) (hf : X.fn x = true ∨ X.env.scope.names.lookup x = some .local := by first | exact .inl rfl | exact .inr rfl | assumption) :
    PS X (.Assign [.Name x pos'] e pos) (tAsg te (gName i)) := by
  intro pins s σ H D I h
  refine wpAny_Assign_Name (thn (he pins s σ H _ I h) fun v s1 ⟨y, H1, I1, r1, q1⟩ => ?_) hs
  exact store_ok I1 hN hi hx r1 (fun s2 I2 => ⟨_, H1, I2, q1⟩) hf
end
section
variable {X : Cx} {pos : Pos}
def tWhile (c : TT) (tb : TS) : TS := fun D σ H => ∃ W : Nat → St → Hp → Prop, (∃ m, W m σ H) ∧ ∀ m σ H, W m σ H →
  c σ H fun b H1 => if b = true then ∃ N : St → Hp → Prop, (∀ σ' H', N σ' H' → ∃ m', m' < m ∧ W m' σ' H') ∧ tb { D with nx := N, ct := N, bk := D.nx } σ H1 else D.nx σ H1
theorem ps_while {c : Expr} {body : List Stmt} {tc : TT} {tb : TS} (hp : PassesOwn (model X.prog X.w) X.A X.env X.xe) (hc : PT X c tc) (hb : PSs X body tb) : PS X (.While c body [] pos) (tWhile tc tb) := by
  intro pins s σ H D I h
  obtain ⟨W, ⟨m0, w0⟩, turn⟩ := h
  refine wpAny_While (codeAny_whileLoop (fun n s' => ∃ σ' H', Inv X pins σ' H' s' ∧ W n σ' H') ?_ m0 ⟨σ, H, I, w0⟩)
  rintro n s1 ⟨σ1, H1, I1, w1⟩
  refine wpAny_passesOwn hp (thn (hc pins s1 σ1 H1 _ I1 (turn n σ1 H1 w1)) fun b s2 ⟨H2, I2, q2⟩ => ?_)
  cases b with
  | true =>
    obtain ⟨N, hN, q2⟩ := q2
    rw [if_pos rfl]
    refine wpAny_passesOwn hp (thn (hb pins s2 σ1 H2 _ I2 q2) fun f s3 q3 => ?_)
    cases f with
    | next =>
      obtain ⟨σ3, H3, I3, n3⟩ := q3
      obtain ⟨m', hm, w3⟩ := hN σ3 H3 n3
      exact ⟨m', hm, σ3, H3, I3, w3⟩
    | cont =>
      obtain ⟨σ3, H3, I3, n3⟩ := q3
      obtain ⟨m', hm, w3⟩ := hN σ3 H3 n3
      exact ⟨m', hm, σ3, H3, I3, w3⟩
    | brk => exact q3
    | ret v => exact q3
  | false =>
    rw [if_neg Bool.false_ne_true]
    exact wpAny_execs_nil ⟨σ1, H2, I2, q2⟩
end
structure It where
  go : Nat → Hp → Prop
  yld : Nat → Hp → V → Hp → Prop
  stop : Nat → Hp → Prop
def FpOk (X : Cx) (pins : List (Addr × Obj)) (H : Hp) (b : Addr) : Prop :=
  H b = none ∧ b ≠ X.env.locals ∧ b ∉ X.fs ∧ (b ∈ X.ex ∨ X.s₀.heap.objs.size ≤ b) ∧ (∀ x c, X.env.cells.lookup x = some c → c ≠ b) ∧ ∀ p ∈ X.pn ++ pins, p.1 ≠ b
theorem Inv.fpOk {X : Cx} {pins : List (Addr × Obj)} {σ : St} {H H' : Hp} {s : Shared} {b : Addr} (I : Inv X pins σ H s) (hb : s.heap.objs.size ≤ b) (hn : H' b = none) : FpOk X pins H' b := by
  refine ⟨hn, Nat.ne_of_gt (Nat.lt_of_lt_of_le I.lt hb), I.nofs hb, .inr (Nat.le_trans I.sz hb), fun x c e z => ?_, fun p hp z => ?_⟩
  · obtain ⟨v, q⟩ := I.cell x c e
    exact absurd (Nat.lt_of_lt_of_le q.lt (by rw [z]; exact hb)) (Nat.lt_irrefl _)
  · exact absurd (Nat.lt_of_lt_of_le (Heap.lt_size (I.pin p hp).1) (by rw [z]; exact hb)) (Nat.lt_irrefl _)
structure Turn (P : Program) (w : World) (K : PySem.W.Frag) (tg : Expr) (J : It) (fp : List Addr) (it : Addr) (tn : Nat → Heap → Prop) : Prop where
  mem : it ∈ fp
  obj : ∀ i h, tn i h → ∀ b ∈ fp, ∃ o, h.get? b = some o ∧ ∀ v, o.data ≠ .cell v
  keep : ∀ i h h', tn i h → (∀ b ∈ fp, ∀ o, h.get? b = some o → h'.get? b = some o) → tn i h'
  item : ∀ (X : Cx), X.prog = P → X.w = w → X.K = K → X.calm = true → ∀ (i : Nat) (pins : List (Addr × Obj)) (s : Shared) (σ : St) (H : Hp) (E : Value → Shared → Prop), Inv X pins σ H s → (∀ b ∈ fp, FpOk X pins H b) → tn i s.heap → J.go i H →
    wpAny (model P w) X.A (pyNext (.ref it)) (fun r s1 => ∃ u, r = some u ∧
      wpAny (model P w) X.A (letOwnedTupleGo tg (.ref it) u) (fun _ s2 => ∃ x H', Inv X pins σ H' s2 ∧ RelV x u ∧ J.yld i H x H' ∧ tn (i + 1) s2.heap ∧ ∀ b ∈ fp, H' b = none) E s1) E s
  done : ∀ (X : Cx), X.prog = P → X.w = w → X.K = K → X.calm = true → ∀ (i : Nat) (pins : List (Addr × Obj)) (s : Shared) (σ : St) (H : Hp) (E : Value → Shared → Prop), Inv X pins σ H s → (∀ b ∈ fp, FpOk X pins H b) → tn i s.heap → J.stop i H →
    wpAny (model P w) X.A (pyNext (.ref it)) (fun r s1 => r = none ∧ Inv X pins σ H s1) E s
  self : ∀ (A : Around) (i : Nat) (s : Shared) (Q : Value → Shared → Prop) (E : Value → Shared → Prop), tn i s.heap → Q (.ref it) s → wpAny (model P w) A (pyIter (.ref it)) Q E s
abbrev TI := St → Hp → (It → Hp → Prop) → Prop
def PIE (X : Cx) (pins : List (Addr × Obj)) (σ : St) (tg : Expr) (R : It → Hp → Prop) (itv : Value) (s2 : Shared) : Prop :=
  ∃ (it : Addr) (fp : List Addr) (tn : Nat → Heap → Prop) (J : It) (H' : Hp), itv = .ref it ∧ Inv X pins σ H' s2 ∧ Turn X.prog X.w X.K tg J fp it tn ∧ tn 0 s2.heap ∧ (∀ b ∈ fp, FpOk X pins H' b) ∧ R J H'
def PI (X : Cx) (tg iter : Expr) (wi : TI) : Prop :=
  ∀ (pins : List (Addr × Obj)) (s : Shared) (σ : St) (H : Hp) (R : It → Hp → Prop), Inv X pins σ H s → wi σ H R →
    wpAny (model X.prog X.w) X.A (eval iter X.env) (fun v s1 => wpAny (model X.prog X.w) X.A (pyIter v) (PIE X pins σ tg R) X.xe s1) X.xe s
theorem go_of {M : Model} {A : Around} {E : Value → Shared → Prop} {s : Shared} {tg : Expr} {it : Addr} {u : Value} {o : Obj} {n : String} {vs : Array Value} {Q : Unit → Shared → Prop} (ho : s.heap.get? it = some o) (hc : o.cls = .type n) (hd : o.data = .fields vs)
    (hn : ["enumerate", "zip", "dict_itemiterator", "dict_reverseitemiterator", "odict_iterator", "itertools.zip_longest", "itertools.pairwise"].contains n = false) (hQ : Q () s) : wpAny M A (letOwnedTupleGo tg (.ref it) u) Q E s := by
  unfold letOwnedTupleGo
  cases tg <;> first
    | exact wpAny_pure hQ
    | (cases u <;> first
        | exact wpAny_pure hQ
        | (refine wpAny_bind (wpAny_load ho ?_)
           rw [hc, hd]
           show wpAny M A (if (["enumerate", "zip", "dict_itemiterator", "dict_reverseitemiterator", "odict_iterator", "itertools.zip_longest", "itertools.pairwise"].contains n && vs[0]? == some (rawInt _)) = true then _ else _) Q E s
           rw [if_neg (by intro h; rw [hn, Bool.false_and] at h; cases h)]
           exact wpAny_pure hQ))
def Itl (K : PySem.W.Frag) (a : Addr) : It :=
  ⟨fun i H => ∃ xs x, SqL K H a xs ∧ xs[i]? = some x, fun i H x H' => H' = H ∧ ∀ xs, SqL K H a xs → xs[i]? = some x, fun i H => ∃ xs, SqL K H a xs ∧ xs.length ≤ i⟩
def Itr (lo : Int) (n : Nat) : It := ⟨fun i _ => i < n, fun i H x H' => H' = H ∧ x = .int (lo + i), fun i _ => n ≤ i⟩
theorem turn_list {P : Program} {w : World} {K : PySem.W.Frag} {tg : Expr} (a it : Addr) : Turn P w K tg (Itl K a) [it] it (fun i h => h.IsListIter it a i) where
  mem := by simp
  obj := fun i h st b hb => by
    have e : b = it := by simpa using hb
    subst e
    obtain ⟨o, e, c, d⟩ := st
    exact ⟨o, e, fun v z => by rw [d] at z; cases z⟩
  keep := fun i h h' st k => st.at fun o e => k it (by simp) o e
  item := by
    intro X hP hw hK hc i pins s σ H E I hf st hg
    subst hP hw hK
    obtain ⟨xs, x, hq, hx⟩ := hg
    obtain ⟨its, rv, p, hz⟩ := I.list hq
    obtain ⟨u, hu, ru⟩ := rv.get hx
    obtain ⟨f0, f1, f2, f3, f4, f5⟩ := hf it (by simp)
    refine wpAny_pyNext_list_item st p.isList (x := u) (by simpa using hu) fun h' st' sb => ?_
    have I1 : Inv X pins σ H { s with heap := h' } := I.turned (t' := s.toks) (fun b o hb e => (sb.2 b hb).trans e) f0 f1 f3 f4 f5
    obtain ⟨o, e, c, d⟩ := id st'
    exact ⟨u, rfl, go_of (s := { s with heap := h' }) e c d (by decide) ⟨x, H, I1, ru, ⟨rfl, fun ys hy => by rw [I.list_inj hy hq]; exact hx⟩, st', fun b hb => (hf b hb).1⟩⟩
  done := by
    intro X hP hw hK hc i pins s σ H E I hf st hg
    subst hP hw hK
    obtain ⟨xs, hq, hx⟩ := hg
    obtain ⟨its, rv, p, hz⟩ := I.list hq
    obtain ⟨f0, f1, f2, f3, f4, f5⟩ := hf it (by simp)
    have hl := rv.length
    exact wpAny_pyNext_list_end (I.ok.hd hc) st p.isList (by simp; omega) fun h' eb => ⟨rfl, I.turned (t' := s.toks) (fun b o hb e => eb b o hb e) f0 f1 f3 f4 f5⟩
  self := fun _ _ _ _ _ st h => wpAny_pyIter_listiter st h
theorem turn_range {P : Program} {w : World} {K : PySem.W.Frag} {tg : Expr} (it : Addr) (lo : Int) (n : Nat) : Turn P w K tg (Itr lo n) [it] it (fun i h => IsRangeIter h it (lo + (i : Nat) * 1) ((n : Int) - (i : Nat)) 1) where
  mem := by simp
  obj := fun i h st b hb => by
    have e : b = it := by simpa using hb
    subst e
    exact ⟨_, st, fun v z => by
      have z' : Data.fields _ = Data.cell v := z
      cases z'⟩
  keep := fun i h h' st k => k it (by simp) _ st
  item := by
    intro X hP hw hK hc i pins s σ H E I hf st hg
    subst hP hw hK
    obtain ⟨f0, f1, f2, f3, f4, f5⟩ := hf it (by simp)
    have W := Walks.range (prog := X.prog) (w := X.w) (I.ok.hd hc) it lo 1 n
    refine W.item i s _ _ hg st fun v h' tk hv st' kk => ?_
    obtain ⟨t, rfl⟩ := hv
    have I1 : Inv X pins σ H { s with heap := h', toks := tk } := I.turned (fun b o hb e => kk b o (by simpa using hb) e) f0 f1 f3 f4 f5
    refine ⟨_, rfl, go_of (s := { s with heap := h', toks := tk }) (n := "range_iterator") st' rfl rfl (by decide) ⟨.int (lo + i), H, I1, ⟨t, ?_⟩, ⟨rfl, rfl⟩, st', fun b hb => (hf b hb).1⟩⟩
    rw [Int.mul_one]
  done := by
    intro X hP hw hK hc i pins s σ H E I hf st hg
    subst hP hw hK
    obtain ⟨f0, f1, f2, f3, f4, f5⟩ := hf it (by simp)
    exact wpAny_pyNext_range_end (I.ok.hd hc) st (by have : n ≤ i := hg; omega) fun h' eb => ⟨rfl, I.turned (t' := s.toks) (fun b o hb e => eb b o hb e) f0 f1 f3 f4 f5⟩
  self := fun _ _ _ _ _ st h => wpAny_pyIter_rangeiter st h
end L2
namespace L2
open PySem PySem.Spec PyProof.Rows
section
variable {X : Cx} {tg : Expr}
def iList (K : PySem.W.Frag) (tl : TE) : TI := fun σ H R => tl σ H fun x H1 => ∃ a, x = .ref a ∧ (∃ xs, SqL K H1 a xs) ∧ R (Itl K a) H1
theorem pi_list {l : Expr} {tl : TE} (hl : PE X l tl) : PI X tg l (iList X.K tl) := by
  intro pins s σ H R I h
  refine thn (hl pins s σ H _ I h) fun v s1 ⟨x, H1, I1, r1, q1⟩ => ?_
  obtain ⟨a, e, ⟨xs, hq⟩, q⟩ := q1
  subst e
  cases r1
  obtain ⟨its, rv, p, hz⟩ := I1.list hq
  refine wpAny_pyIter_list p.isList ?_
  refine ⟨s1.heap.objs.size, [s1.heap.objs.size], _, _, H1, rfl, I1.kept (t' := s1.toks) fun b o e => Heap.get?_push_of_some _ e, turn_list a _, ⟨_, Heap.get?_push_size _ rfl, rfl, rfl⟩, fun b hb => ?_, q⟩
  have e : b = s1.heap.objs.size := by simpa using hb
  subst e
  exact I1.fpOk (Nat.le_refl _) (I1.hok.fresh (Nat.le_refl _))
theorem range_it {pins : List (Addr × Obj)} {σ : St} {H : Hp} {s : Shared} {R : It → Hp → Prop} {E : Value → Shared → Prop} {lo hi : Int} {t u v : Tok} {tk : Nat} (I : Inv X pins σ H s) (h1 : -(2 ^ 62) ≤ lo) (h2 : lo < 2 ^ 62) (h3 : -(2 ^ 62) ≤ hi) (h4 : hi < 2 ^ 62)
    (q : R (Itr lo (hi - lo).toNat) H) : wpAny (model X.prog X.w) X.A (pyIter (.ref s.heap.objs.size)) (PIE X pins σ tg R) E { s with heap := s.heap.push { cls := .type "range", data := .fields #[.int lo t, .int hi u, .int 1 v] }, toks := tk } := by
  refine wpAny_pyIter_range (IsRange.new ..) (small_one h1 h2 h3 h4) ?_
  have I1 : Inv X pins σ H { s with heap := s.heap.push { cls := .type "range", data := .fields #[.int lo t, .int hi u, .int 1 v] }, toks := tk } := I.kept fun b o e => Heap.get?_push_of_some _ e
  refine ⟨(s.heap.push { cls := .type "range", data := .fields #[.int lo t, .int hi u, .int 1 v] }).objs.size, [(s.heap.push { cls := .type "range", data := .fields #[.int lo t, .int hi u, .int 1 v] }).objs.size], _, _, H, rfl,
    I1.kept (t' := tk) fun b o e => Heap.get?_push_of_some _ e, turn_range _ lo (hi - lo).toNat, ?_, fun b hb => ?_, q⟩
  · have e1 : lo + ((0 : Nat) : Int) * 1 = lo := by simp
    have e2 : (((hi - lo).toNat : Nat) : Int) - ((0 : Nat) : Int) = Builtin.Range.rangeSize lo hi 1 := by rw [rangeSize_one]; split <;> omega
    show IsRangeIter _ _ (lo + ((0 : Nat) : Int) * 1) ((((hi - lo).toNat : Nat) : Int) - ((0 : Nat) : Int)) 1
    rw [e1, e2]
    exact Heap.get?_push_size _ rfl
  · have e : b = (s.heap.push { cls := .type "range", data := .fields #[.int lo t, .int hi u, .int 1 v] }).objs.size := by simpa using hb
    subst e
    exact I1.fpOk (Nat.le_refl _) (I1.hok.fresh (Nat.le_refl _))
def iRng1 (ta : TA) : TI := fun σ H R => ta σ H fun vs H1 => ∃ j : Int, vs = [.int j] ∧ -(2 ^ 62) ≤ j ∧ j < 2 ^ 62 ∧ R (Itr 0 j.toNat) H1
def iRng2 (ta : TA) : TI := fun σ H R => ta σ H fun vs H1 => ∃ i j : Int, vs = [.int i, .int j] ∧ (-(2 ^ 62) ≤ i ∧ i < 2 ^ 62 ∧ -(2 ^ 62) ≤ j ∧ j < 2 ^ 62) ∧ R (Itr i (j - i).toNat) H1
theorem pi_range1 {a : Expr} {ta : TA} {p pos : Pos} (hg : Gl X "range") (hm : X.mg "range" = none) (ha : PA X [a] ta) (hs : starEach [a] X.env = [(false, eval a X.env)] := by rfl) : PI X tg (.Call (.Name "range" p) [a] [] pos) (iRng1 ta) := by
  intro pins s σ H R I h
  refine Call_ (ld_blt I hg hm boot_range (PyProof.Rows.callWith_type1 (thn (ha pos pins s σ H _ I h) fun us s1 ⟨vs, H1, I1, r1, q1⟩ => ?_) hs rfl))
  obtain ⟨j, e, q1, q2, q⟩ := q1
  subst e
  cases r1 with
  | cons r rr =>
    cases rr
    obtain ⟨t, rfl⟩ := r
    exact call_range_1 (range_it I1 (by omega) (by omega) q1 q2 (by simpa using q))
theorem pi_range2 {a b : Expr} {ta : TA} {p pos : Pos} (hg : Gl X "range") (hm : X.mg "range" = none) (ha : PA X [a, b] ta) (hs : starEach [a, b] X.env = [(false, eval a X.env), (false, eval b X.env)] := by rfl) (hs2 : starEach [b] X.env = [(false, eval b X.env)] := by rfl) :
    PI X tg (.Call (.Name "range" p) [a, b] [] pos) (iRng2 ta) := by
  intro pins s σ H R I h
  refine Call_ (ld_blt I hg hm boot_range (PyProof.Rows.callWith_type1 (thn (ha pos pins s σ H _ I h) fun us s1 ⟨vs, H1, I1, r1, q1⟩ => ?_) (by rw [hs, hs2]) (by rw [hs2]; rfl)))
  obtain ⟨i, j, e, ⟨q1, q2, q3, q4⟩, q⟩ := q1
  subst e
  cases r1 with
  | cons r rr =>
    cases rr with
    | cons r' rr =>
      cases rr
      obtain ⟨t, rfl⟩ := r
      obtain ⟨t', rfl⟩ := r'
      exact call_range_2 (range_it I1 q1 q2 q3 q4 q)
def tFor (wi : TI) (g : TG) (tb : TS) : TS := fun D σ H => wi σ H fun J H1 => ∃ W : Nat → Nat → St → Hp → Prop, (∃ m, W 0 m σ H1) ∧ ∀ i m σ H, W i m σ H →
  (J.stop i H ∧ D.nx σ H) ∨ (J.go i H ∧ ∃ N : St → Hp → Prop, (∀ σ' H', N σ' H' → ∃ m', m' < m ∧ W (i + 1) m' σ' H') ∧ ∀ x H', J.yld i H x H' → g x σ H' fun σ2 H2 => tb { D with nx := N, ct := N, bk := D.nx } σ2 H2)
def pinsAt (fp : List Addr) (h : Heap) : List (Addr × Obj) := fp.filterMap fun b => (h.get? b).map fun o => (b, o)
theorem mem_pinsAt {fp : List Addr} {h : Heap} {b : Addr} {o : Obj} (hb : b ∈ fp) (e : h.get? b = some o) : (b, o) ∈ pinsAt fp h := List.mem_filterMap.mpr ⟨b, hb, by rw [e]; rfl⟩
theorem of_pinsAt {fp : List Addr} {h : Heap} {p : Addr × Obj} (hp : p ∈ pinsAt fp h) : p.1 ∈ fp ∧ h.get? p.1 = some p.2 := by
  obtain ⟨b, hb, e⟩ := List.mem_filterMap.mp hp
  cases q : h.get? b with
  | none => rw [q] at e; cases e
  | some o =>
    rw [q] at e
    have e' : (b, o) = p := Option.some.inj e
    subst e'
    exact ⟨hb, q⟩
theorem Inv.pinned {pins : List (Addr × Obj)} {σ : St} {H : Hp} {s : Shared} {fp : List Addr} (I : Inv X pins σ H s) (hf : ∀ b ∈ fp, FpOk X pins H b) (ho : ∀ b ∈ fp, ∃ o, s.heap.get? b = some o ∧ ∀ v, o.data ≠ .cell v) : Inv X (pins ++ pinsAt fp s.heap) σ H s :=
  I.pins_of fun p hp => (List.mem_append.mp hp).elim (fun z => I.pin p (List.mem_append_right _ z)) fun z => by
    obtain ⟨hb, e⟩ := of_pinsAt z
    obtain ⟨f0, f1, f2, _⟩ := hf p.1 hb
    obtain ⟨o, e', d⟩ := ho p.1 hb
    rw [e] at e'; cases e'
    exact ⟨e, f0, f1, f2, d⟩
theorem Inv.unpinned {pins pl : List (Addr × Obj)} {σ : St} {H : Hp} {s : Shared} (I : Inv X (pins ++ pl) σ H s) : Inv X pins σ H s := I.pins_of fun p hp => I.pin p (List.mem_append_right _ (List.mem_append_left _ hp))
theorem ps_for {iter : Expr} {body : List Stmt} {wi : TI} {g : TG} {tb : TS} {pos : Pos} (hp : PassesOwn (model X.prog X.w) X.A X.env X.xe) (hc : X.calm = true) (hi : PI X tg iter wi) (hg : PG X tg g) (hb : PSs X body tb)
    (hs : ∀ x, foldedSetIterable iter X.env x = pure x := by intro _; rfl) : PS X (.For tg iter body [] pos) (tFor wi g tb) := by
  intro pins s σ H D I h
  refine wpAny_For (thn (hi pins s σ H _ I h) fun v s1 h1 => thn h1 fun itv s2 h2 => ?_) hs
  obtain ⟨it, fp, tn, J, H2, e, I2, T, st2, f2, W, ⟨m0, w0⟩, turn⟩ := h2
  subst e
  have stat : ∀ {H' : Hp}, (∀ b ∈ fp, H' b = none) → ∀ b ∈ fp, FpOk X pins H' b := fun hn b hb => ⟨hn b hb, (f2 b hb).2⟩
  refine codeAny_forLoop_any (fun n s' => ∃ i σ' H', Inv X pins σ' H' s' ∧ tn i s'.heap ∧ (∀ b ∈ fp, H' b = none) ∧ W i n σ' H') ?_ m0 ⟨0, σ, H2, I2, st2, fun b hb => (f2 b hb).1, w0⟩
  rintro n s3 ⟨i, σ3, H3, I3, st3, fr3, w3⟩
  rcases turn i n σ3 H3 w3 with ⟨stop, qn⟩ | ⟨go, N, hN, step⟩
  · refine wpAny_passesOwn hp (thn (T.done X rfl rfl rfl hc i pins s3 σ3 H3 X.xe I3 (stat fr3) st3 stop) fun r s4 ⟨hr, I4⟩ => ?_)
    subst hr
    exact wpAny_execs_nil ⟨σ3, H3, I4, qn⟩
  · refine wpAny_passesOwn hp (thn (T.item X rfl rfl rfl hc i pins s3 σ3 H3 X.xe I3 (stat fr3) st3 go) fun r s4 ⟨u, hr, h4⟩ => ?_)
    subst hr
    refine wpAny_passesOwn hp (thn h4 fun _ s5 ⟨x, H5, I5, r5, y5, st5, fr5⟩ => ?_)
    have I5' := I5.pinned (stat fr5) (T.obj _ _ st5)
    refine wpAny_passesOwn hp (thn (hg _ s5 σ3 H5 x u _ I5' r5 (step x H5 y5)) fun _ s6 ⟨σ6, H6, I6, q6⟩ => ?_)
    refine wpAny_passesOwn hp (thn (hb _ s6 σ6 H6 _ I6 q6) fun f s7 q7 => ?_)
    have again : ∀ {σ7 : St} {H7 : Hp}, Inv X (pins ++ pinsAt fp s5.heap) σ7 H7 s7 → N σ7 H7 → ∃ m, m < n ∧ ∃ i σ' H', Inv X pins σ' H' s7 ∧ tn i s7.heap ∧ (∀ b ∈ fp, H' b = none) ∧ W i m σ' H' := fun {σ7 H7} I7 n7 => by
      obtain ⟨m', hm, w7⟩ := hN σ7 H7 n7
      refine ⟨m', hm, i + 1, σ7, H7, I7.unpinned, T.keep _ _ _ st5 fun b hb o e => (I7.pin (b, o) (List.mem_append_right _ (List.mem_append_right _ (mem_pinsAt hb e)))).1, fun b hb => ?_, w7⟩
      obtain ⟨o, e, d⟩ := T.obj _ _ st5 b hb
      exact (I7.pin (b, o) (List.mem_append_right _ (List.mem_append_right _ (mem_pinsAt hb e)))).2.1
    cases f with
    | next => obtain ⟨σ7, H7, I7, n7⟩ := q7; exact again I7 n7
    | cont => obtain ⟨σ7, H7, I7, n7⟩ := q7; exact again I7 n7
    | brk => obtain ⟨σ7, H7, I7, q7⟩ := q7; exact ⟨σ7, H7, I7.unpinned, q7⟩
    | ret v => obtain ⟨x7, σ7, H7, I7, r7, q7⟩ := q7; exact ⟨x7, σ7, H7, I7.unpinned, r7, q7⟩
end
theorem for_list {K : PySem.W.Frag} {a : Addr} {xs : List V} {g : TG} {tb : TS} {D : Ends} {σ : St} {H : Hp} (Pv : Nat → St → Hp → Prop) (h0 : Pv 0 σ H) (hl : ∀ i σ H, i ≤ xs.length → Pv i σ H → SqL K H a xs)
    (hs : ∀ i x σ H, xs[i]? = some x → Pv i σ H → g x σ H fun σ2 H2 => tb { D with nx := Pv (i + 1), ct := Pv (i + 1), bk := D.nx } σ2 H2) (hd : ∀ σ H, Pv xs.length σ H → D.nx σ H) :
    ∃ W : Nat → Nat → St → Hp → Prop, (∃ m, W 0 m σ H) ∧ ∀ i m σ H, W i m σ H →
      ((Itl K a).stop i H ∧ D.nx σ H) ∨ ((Itl K a).go i H ∧ ∃ N : St → Hp → Prop, (∀ σ' H', N σ' H' → ∃ m', m' < m ∧ W (i + 1) m' σ' H') ∧ ∀ x H', (Itl K a).yld i H x H' → g x σ H' fun σ2 H2 => tb { D with nx := N, ct := N, bk := D.nx } σ2 H2) := by
  refine ⟨fun i m σ H => m = xs.length - i ∧ i ≤ xs.length ∧ Pv i σ H, ⟨xs.length, by simp, Nat.zero_le _, h0⟩, ?_⟩
  rintro i m σ H ⟨rfl, hi, p⟩
  have q := hl i σ H hi p
  by_cases hlt : i < xs.length
  · refine .inr ⟨⟨xs, xs[i], q, by simp [hlt]⟩, Pv (i + 1), fun σ' H' p' => ⟨xs.length - (i + 1), by omega, rfl, hlt, p'⟩, fun x H' y => ?_⟩
    obtain ⟨e, y⟩ := y
    subst e
    exact hs i x σ _ (y xs q) p
  · have e : i = xs.length := by omega
    subst e
    exact .inl ⟨⟨xs, q, Nat.le_refl _⟩, hd σ H p⟩
theorem for_range {lo : Int} {n : Nat} {g : TG} {tb : TS} {D : Ends} {σ : St} {H : Hp} (Pv : Nat → St → Hp → Prop) (h0 : Pv 0 σ H)
    (hs : ∀ i σ H, i < n → Pv i σ H → g (.int (lo + i)) σ H fun σ2 H2 => tb { D with nx := Pv (i + 1), ct := Pv (i + 1), bk := D.nx } σ2 H2) (hd : ∀ σ H, Pv n σ H → D.nx σ H) :
    ∃ W : Nat → Nat → St → Hp → Prop, (∃ m, W 0 m σ H) ∧ ∀ i m σ H, W i m σ H →
      ((Itr lo n).stop i H ∧ D.nx σ H) ∨ ((Itr lo n).go i H ∧ ∃ N : St → Hp → Prop, (∀ σ' H', N σ' H' → ∃ m', m' < m ∧ W (i + 1) m' σ' H') ∧ ∀ x H', (Itr lo n).yld i H x H' → g x σ H' fun σ2 H2 => tb { D with nx := N, ct := N, bk := D.nx } σ2 H2) := by
  refine ⟨fun i m σ H => m = n - i ∧ i ≤ n ∧ Pv i σ H, ⟨n, by simp, Nat.zero_le _, h0⟩, ?_⟩
  rintro i m σ H ⟨rfl, hi, p⟩
  by_cases hlt : i < n
  · refine .inr ⟨hlt, Pv (i + 1), fun σ' H' p' => ⟨n - (i + 1), by omega, rfl, hlt, p'⟩, fun x H' y => ?_⟩
    obtain ⟨e, y⟩ := y
    subst e y
    exact hs i σ _ hlt p
  · have e : i = n := by omega
    subst e
    exact .inl ⟨Nat.le_refl _, hd σ H p⟩
end L2
namespace L2
open PySem PySem.Spec PyProof.Rows
abbrev R2 := V → V → Hp → VK → Prop
def OpR (X : Cx) (f : Value → Value → Sem Value) (r : R2) : Prop :=
  ∀ (pins : List (Addr × Obj)) (s : Shared) (σ : St) (H : Hp) (x y : V) (v u : Value) (Q : VK), Inv X pins σ H s → RelV x v → RelV y u → r x y H Q →
    wpAny (model X.prog X.w) X.A (f v u) (EP X pins σ Q) X.xe s
def UnR (X : Cx) (f : Value → Sem Value) (r : V → Hp → VK → Prop) : Prop :=
  ∀ (pins : List (Addr × Obj)) (s : Shared) (σ : St) (H : Hp) (x : V) (v : Value) (Q : VK), Inv X pins σ H s → RelV x v → r x H Q →
    wpAny (model X.prog X.w) X.A (f v) (EP X pins σ Q) X.xe s
def CallR (X : Cx) (f : Value) (r : List V → Hp → VK → Prop) : Prop :=
  ∀ (pins : List (Addr × Obj)) (s : Shared) (σ : St) (H : Hp) (xs : List V) (us : List Value) (Q : VK), Inv X pins σ H s → Vals xs us → r xs H Q →
    wpAny (model X.prog X.w) X.A (call f us) (EP X pins σ Q) X.xe s
def tOp (r : R2) (ta tb : TE) : TE := fun σ H Q => ta σ H fun x H1 => tb σ H1 fun y H2 => r x y H2 Q
def tUn (r : V → Hp → VK → Prop) (ta : TE) : TE := fun σ H Q => ta σ H fun x H1 => r x H1 Q
def rI (C : Int → Int → Prop) (g : Int → Int → V) : R2 := fun x y H Q => ∃ i j, x = .int i ∧ y = .int j ∧ C i j ∧ Q (g i j) H
def rI0 (g : Int → Int → V) : R2 := fun x y H Q => ∃ i j, x = .int i ∧ y = .int j ∧ Q (g i j) H
def rU (g : Int → V) : V → Hp → VK → Prop := fun x H Q => ∃ i, x = .int i ∧ Q (g i) H
section
variable {X : Cx} {a b c : Expr} {ta tb tc : TE} {pos : Pos}
theorem binT (ha : PE X a ta) (hb : PE X b tb) {pins : List (Addr × Obj)} {s : Shared} {σ : St} {H : Hp} {R : V → V → Hp → Prop} (I : Inv X pins σ H s)
    (h : ta σ H fun x H1 => tb σ H1 fun y H2 => R x y H2) {Q : Value → Shared → Prop} {f : Value → Value → Sem Value}
    (hf : ∀ v u s2 x y H2, Inv X pins σ H2 s2 → RelV x v → RelV y u → R x y H2 → wpAny (model X.prog X.w) X.A (f v u) Q X.xe s2) :
    wpAny (model X.prog X.w) X.A (eval a X.env) (fun v s₁ => wpAny (model X.prog X.w) X.A (eval b X.env) (fun u s₂ => wpAny (model X.prog X.w) X.A (f v u) Q X.xe s₂) X.xe s₁) X.xe s := by
  refine thn (ha pins s σ H _ I h) fun v s1 ⟨x, H1, I1, r1, q1⟩ => ?_
  refine thn (hb pins s1 σ H1 _ I1 q1) fun u s2 ⟨y, H2, I2, r2, q2⟩ => ?_
  exact hf v u s2 x y H2 I2 r1 r2 q2
theorem pe_op {op : Operator} {r : R2} (ho : OpR X (binaryOp op) r) (ha : PE X a ta) (hb : PE X b tb) : PE X (.BinOp a op b pos) (tOp r ta tb) := by
  intro pins s σ H Q I h
  exact wpAny_BinOp (binT ha hb I h fun v u s2 x y H2 I2 rx ry q => ho pins s2 σ H2 x y v u Q I2 rx ry q)
theorem pe_un {op : UnaryOp} {r : V → Hp → VK → Prop} (ho : UnR X (unaryOp op) r) (ha : PE X a ta) : PE X (.UnaryOp op a pos) (tUn r ta) := by
  intro pins s σ H Q I h
  exact UnaryOp_ (thn (ha pins s σ H _ I h) fun v s1 ⟨x, H1, I1, r1, q1⟩ => ho pins s1 σ H1 x v Q I1 r1 q1)
theorem opI {f : Value → Value → Sem Value} {C : Int → Int → Prop} {g : Int → Int → Int}
    (rule : ∀ (i j : Int) (t u : Tok) (s : Shared) (Q : Value → Shared → Prop) (E : Value → Shared → Prop), C i j → Q (.int (g i j) s.toks) { s with toks := s.toks + 1 } → wpAny (model X.prog X.w) X.A (f (.int i t) (.int j u)) Q E s) :
    OpR X f (rI C fun i j => .int (g i j)) := by
  intro pins s σ H x y v u Q I rx ry h
  obtain ⟨i, j, rfl, rfl, hc, q⟩ := h
  obtain ⟨t, rfl⟩ := rx
  obtain ⟨t', rfl⟩ := ry
  exact rule i j t t' s _ _ hc ⟨.int (g i j), H, I.tok _, ⟨_, rfl⟩, q⟩
theorem opI0 {f : Value → Value → Sem Value} {g : Int → Int → Int}
    (rule : ∀ (i j : Int) (t u : Tok) (s : Shared) (Q : Value → Shared → Prop) (E : Value → Shared → Prop), Q (.int (g i j) s.toks) { s with toks := s.toks + 1 } → wpAny (model X.prog X.w) X.A (f (.int i t) (.int j u)) Q E s) :
    OpR X f (rI0 fun i j => .int (g i j)) := by
  intro pins s σ H x y v u Q I rx ry h
  obtain ⟨i, j, rfl, rfl, q⟩ := h
  obtain ⟨t, rfl⟩ := rx
  obtain ⟨t', rfl⟩ := ry
  exact rule i j t t' s _ _ ⟨.int (g i j), H, I.tok _, ⟨_, rfl⟩, q⟩
theorem opB0 {f : Value → Value → Sem Value} {g : Int → Int → Bool}
    (rule : ∀ (i j : Int) (t u : Tok) (s : Shared) (Q : Value → Shared → Prop) (E : Value → Shared → Prop), Q (.bool (g i j)) s → wpAny (model X.prog X.w) X.A (f (.int i t) (.int j u)) Q E s) :
    OpR X f (rI0 fun i j => .bl (g i j)) := by
  intro pins s σ H x y v u Q I rx ry h
  obtain ⟨i, j, rfl, rfl, q⟩ := h
  obtain ⟨t, rfl⟩ := rx
  obtain ⟨t', rfl⟩ := ry
  exact rule i j t t' s _ _ ⟨.bl (g i j), H, I, rfl, q⟩
def CDiv (i j : Int) : Prop := 0 < j ∧ j < 1073741824
def CMul (i j : Int) : Prop := (-(2 ^ 64) < i ∧ i < 2 ^ 64) ∨ (-(2 ^ 64) < j ∧ j < 2 ^ 64)
theorem CMul.ok {i j : Int} (h : CMul i j) : IntMulOk i j := by
  rcases h with ⟨h1, h2⟩ | ⟨h1, h2⟩
  · exact .of_left (intBits_le_64 h1 h2)
  · exact .of_right (intBits_le_64 h1 h2)
theorem op_add : OpR X (binaryOp .Add) (rI0 fun i j => .int (i + j)) := opI0 fun _ _ _ _ _ _ _ q => add_int q
theorem op_sub : OpR X (binaryOp .Sub) (rI0 fun i j => .int (i - j)) := opI0 fun _ _ _ _ _ _ _ q => sub_int q
theorem op_mul : OpR X (binaryOp .Mult) (rI CMul fun i j => .int (i * j)) := opI fun _ _ _ _ _ _ _ hc q => mul_int q hc.ok
theorem op_fdiv : OpR X (binaryOp .FloorDiv) (rI CDiv fun i j => .int (i / j)) := opI fun i j _ _ _ _ _ hc q => by
  have h1 : (0 : Int) < j := hc.1
  have h2 : j < 1073741824 := hc.2
  exact floordiv_int (by omega) (by rw [Int.fdiv_eq_ediv_of_nonneg i (by omega)]; exact q) (.inl (PyProof.noPylong_small (by omega)))
theorem op_mod : OpR X (binaryOp .Mod) (rI (fun _ j => 0 < j) fun i j => .int (i % j)) := opI fun i j _ _ _ _ _ hc q => by
  have h1 : (0 : Int) < j := hc
  exact mod_int' (by omega) (by rw [Int.fmod_eq_emod_of_nonneg i (by omega)]; exact q)
theorem unI {f : Value → Sem Value} {g : Int → Int}
    (rule : ∀ (i : Int) (t : Tok) (s : Shared) (Q : Value → Shared → Prop) (E : Value → Shared → Prop), Q (.int (g i) s.toks) { s with toks := s.toks + 1 } → wpAny (model X.prog X.w) X.A (f (.int i t)) Q E s) :
    UnR X f (rU fun i => .int (g i)) := by
  intro pins s σ H x v Q I rx h
  obtain ⟨i, rfl, q⟩ := h
  obtain ⟨t, rfl⟩ := rx
  exact rule i t s _ _ ⟨.int (g i), H, I.tok _, ⟨_, rfl⟩, q⟩
theorem un_neg : UnR X (unaryOp .USub) (rU fun i => .int (-i)) := unI fun _ _ _ _ _ q => neg_int q
end
def scal : V → V → Bool
  | .non, .non => true | .non, .int _ => true | .int _, .non => true | .non, .bl _ => true | .bl _, .non => true | .non, .str _ => true | .str _, .non => true
  | .int _, .int _ => true | .bl _, .bl _ => true | .str _, .str _ => true | .byt _, .byt _ => true
  | .int _, .str _ => true | .str _, .int _ => true | .bl _, .str _ => true | .str _, .bl _ => true
  | _, _ => false
def rEq : R2 := fun x y H Q => scal x y = true ∧ Q (.bl (decide (x = y))) H
def rNe : R2 := fun x y H Q => scal x y = true ∧ Q (.bl (!decide (x = y))) H
theorem dec_int {i j : Int} : decide (V.int i = V.int j) = (i == j) := by
  rw [Bool.eq_iff_iff]
  simp
theorem dec_bl {i j : Bool} : decide (V.bl i = V.bl j) = (i == j) := by
  rw [Bool.eq_iff_iff]
  simp
theorem dec_str {i j : Str} : decide (V.str i = V.str j) = (i == j) := by
  rw [Bool.eq_iff_iff]
  simp
theorem dec_byt {i j : Array UInt8} : decide (V.byt i = V.byt j) = (i.toList == j.toList) := by
  rw [Bool.eq_iff_iff]
  cases i
  cases j
  simp
section
variable {X : Cx} {a b c : Expr} {ta tb tc : TE} {pos : Pos}
theorem fin_bl {pins : List (Addr × Obj)} {σ : St} {H : Hp} {s : Shared} {Q : VK} {k k' : Bool} (I : Inv X pins σ H s) (q : Q (.bl k) H) (e : k = k') : EP X pins σ Q (.bool k') s := by
  subst e
  exact ⟨.bl k, H, I, rfl, q⟩
theorem op_eq : OpR X (compareOp .Eq) rEq := by
  intro pins s σ H x y v u Q I rx ry h
  obtain ⟨hs, q⟩ := h
  cases x with
  | non =>
    cases rx
    cases y with
    | non => cases ry; exact PySem.EqNone.eq_none_none (fin_bl I q (by simp))
    | bl j => cases ry; exact PySem.EqNone.eq_none_bool (fin_bl I q (by simp))
    | int j => obtain ⟨t', rfl⟩ := ry; exact PySem.EqNone.eq_none_int (fin_bl I q (by simp))
    | str j => obtain ⟨t', rfl⟩ := ry; exact PySem.EqNone.eq_none_str (fin_bl I q (by simp))
    | _ => exact absurd (show false = true from hs) Bool.false_ne_true
  | bl i =>
    cases rx
    cases y with
    | non => cases ry; exact PySem.EqNone.eq_bool_none (fin_bl I q (by simp))
    | bl j => cases ry; exact eq_bool (fin_bl I q dec_bl)
    | str j => obtain ⟨t', rfl⟩ := ry; exact PySem.EqMixed.eq_bool_str (fin_bl I q (by simp))
    | _ => exact absurd (show false = true from hs) Bool.false_ne_true
  | int i =>
    obtain ⟨t, rfl⟩ := rx
    cases y with
    | non => cases ry; exact PySem.EqNone.eq_int_none (fin_bl I q (by simp))
    | int j => obtain ⟨t', rfl⟩ := ry; exact eq_int (fin_bl I q dec_int)
    | str j => obtain ⟨t', rfl⟩ := ry; exact PySem.EqMixed.eq_int_str (fin_bl I q (by simp))
    | _ => exact absurd (show false = true from hs) Bool.false_ne_true
  | str i =>
    obtain ⟨t, rfl⟩ := rx
    cases y with
    | non => cases ry; exact PySem.EqNone.eq_str_none (fin_bl I q (by simp))
    | bl j => cases ry; exact PySem.EqMixed.eq_str_bool (fin_bl I q (by simp))
    | int j => obtain ⟨t', rfl⟩ := ry; exact PySem.EqMixed.eq_str_int (fin_bl I q (by simp))
    | str j => obtain ⟨t', rfl⟩ := ry; exact eq_str (fin_bl I q dec_str)
    | _ => exact absurd (show false = true from hs) Bool.false_ne_true
  | byt i =>
    obtain ⟨t, rfl⟩ := rx
    cases y with
    | byt j => obtain ⟨t', rfl⟩ := ry; exact PySem.W.eq_bytes (fin_bl I q dec_byt)
    | _ => exact absurd (show false = true from hs) Bool.false_ne_true
  | _ => cases y <;> exact absurd (show false = true from hs) Bool.false_ne_true
theorem op_ne : OpR X (compareOp .NotEq) rNe := by
  intro pins s σ H x y v u Q I rx ry h
  obtain ⟨hs, q⟩ := h
  cases x with
  | non =>
    cases rx
    cases y with
    | non => cases ry; exact PySem.EqNone.ne_none_none (fin_bl I q (by simp))
    | bl j => cases ry; exact PySem.EqNone.ne_none_bool (fin_bl I q (by simp))
    | int j => obtain ⟨t', rfl⟩ := ry; exact PySem.EqNone.ne_none_int (fin_bl I q (by simp))
    | str j => obtain ⟨t', rfl⟩ := ry; exact PySem.EqNone.ne_none_str (fin_bl I q (by simp))
    | _ => exact absurd (show false = true from hs) Bool.false_ne_true
  | bl i =>
    cases rx
    cases y with
    | non => cases ry; exact PySem.EqNone.ne_bool_none (fin_bl I q (by simp))
    | bl j => cases ry; exact ne_bool (fin_bl I q (congrArg not dec_bl))
    | str j => obtain ⟨t', rfl⟩ := ry; exact PySem.EqMixed.ne_bool_str (fin_bl I q (by simp))
    | _ => exact absurd (show false = true from hs) Bool.false_ne_true
  | int i =>
    obtain ⟨t, rfl⟩ := rx
    cases y with
    | non => cases ry; exact PySem.EqNone.ne_int_none (fin_bl I q (by simp))
    | int j => obtain ⟨t', rfl⟩ := ry; exact ne_int (fin_bl I q (congrArg not dec_int))
    | str j => obtain ⟨t', rfl⟩ := ry; exact PySem.EqMixed.ne_int_str (fin_bl I q (by simp))
    | _ => exact absurd (show false = true from hs) Bool.false_ne_true
  | str i =>
    obtain ⟨t, rfl⟩ := rx
    cases y with
    | non => cases ry; exact PySem.EqNone.ne_str_none (fin_bl I q (by simp))
    | bl j => cases ry; exact PySem.EqMixed.ne_str_bool (fin_bl I q (by simp))
    | int j => obtain ⟨t', rfl⟩ := ry; exact PySem.EqMixed.ne_str_int (fin_bl I q (by simp))
    | str j => obtain ⟨t', rfl⟩ := ry; exact ne_str (fin_bl I q (congrArg not dec_str))
    | _ => exact absurd (show false = true from hs) Bool.false_ne_true
  | byt i =>
    obtain ⟨t, rfl⟩ := rx
    cases y with
    | byt j => obtain ⟨t', rfl⟩ := ry; exact PySem.W.ne_bytes (fin_bl I q (congrArg not dec_byt))
    | _ => exact absurd (show false = true from hs) Bool.false_ne_true
  | _ => cases y <;> exact absurd (show false = true from hs) Bool.false_ne_true
theorem op_lt : OpR X (compareOp .Lt) (rI0 fun i j => .bl (decide (i < j))) := opB0 fun _ _ _ _ _ _ _ q => lt_int q
theorem op_gt : OpR X (compareOp .Gt) (rI0 fun i j => .bl (decide (j < i))) := opB0 fun _ _ _ _ _ _ _ q => gt_int q
theorem op_ge : OpR X (compareOp .GtE) (rI0 fun i j => .bl (decide (j ≤ i))) := opB0 fun _ _ _ _ _ _ _ q => ge_int q
theorem OpR.or {f : Value → Value → Sem Value} {r r' : R2} (h : OpR X f r) (h' : OpR X f r') : OpR X f (fun x y H Q => r x y H Q ∨ r' x y H Q) := by
  intro pins s σ H x y v u Q I rx ry q
  rcases q with q | q
  · exact h pins s σ H x y v u Q I rx ry q
  · exact h' pins s σ H x y v u Q I rx ry q
theorem nomark (b : Expr) {op : CmpOp} (h : op ≠ .In := by decide) (h2 : op ≠ .NotIn := by decide) : behindInMarks op b = false := by
  have e1 : (op == CmpOp.In) = false := by cases op <;> first | rfl | exact absurd rfl h
  have e2 : (op == CmpOp.NotIn) = false := by cases op <;> first | rfl | exact absurd rfl h2
  cases b <;> simp [behindInMarks, e1, e2]
theorem pe_cmpR {op : CmpOp} {r : R2} (ho : OpR X (compareOp op) r) (ha : PE X a ta) (hb : PE X b tb) (hm : behindInMarks op b = false) : PE X (.Compare a [op] [b] pos) (tOp r ta tb) := by
  intro pins s σ H Q I h
  exact wpAny_Compare1 (binT ha hb I h fun v u s2 x y H2 I2 rx ry q => ho pins s2 σ H2 x y v u Q I2 rx ry q) hm
def tTest (t : TE) : TT := fun σ H Q => t σ H fun x H' => ∃ k, x = .bl k ∧ Q k H'
theorem pt_cmpR {op : CmpOp} {r : R2} (ho : OpR X (compareOp op) r) (ha : PE X a ta) (hb : PE X b tb) (hm : behindInMarks op b = false) : PT X (.Compare a [op] [b] pos) (tTest (tOp r ta tb)) := by
  intro pins s σ H Q I h
  refine wpAny_isTrue_Compare1 (thn (ha pins s σ H _ I h) fun v s1 ⟨x, H1, I1, r1, q1⟩ => thn (hb pins s1 σ H1 _ I1 q1) fun u s2 ⟨y, H2, I2, r2, q2⟩ =>
    thn (ho pins s2 σ H2 x y v u _ I2 r1 r2 q2) fun c s3 ⟨z, H3, I3, r3, k, e, q3⟩ => ?_) hm
  subst e
  cases r3
  exact wpAny_truthy_bool ⟨H3, I3, q3⟩
theorem line63 : (sizeLine : Nat) < 2 ^ 63 := by rw [sizeLine_eq]; decide
theorem op_add_str : OpR X (binaryOp .Add) (fun x y H Q => ∃ i j, x = .str i ∧ y = .str j ∧ i.length + j.length ≤ sizeLine ∧ Q (.str (i ++ j)) H) := by
  intro pins s σ H x y v u Q I rx ry h
  obtain ⟨i, j, rfl, rfl, hz, q⟩ := h
  obtain ⟨t, rfl⟩ := rx
  obtain ⟨t', rfl⟩ := ry
  exact add_str (fun t' tk => ⟨.str (i ++ j), H, I.tok _, ⟨_, rfl⟩, q⟩) hz
theorem vals1 {x : V} {us : List Value} (r : Vals [x] us) : ∃ u, us = [u] ∧ RelV x u := by
  cases r with
  | cons r1 r2 => cases r2; exact ⟨_, rfl, r1⟩
theorem vals2 {x y : V} {us : List Value} (r : Vals [x, y] us) : ∃ u w', us = [u, w'] ∧ RelV x u ∧ RelV y w' := by
  cases r with
  | cons r1 r2 =>
    cases r2 with
    | cons r3 r4 => cases r4; exact ⟨_, _, rfl, r1, r3⟩
theorem call_max2 (hc : X.calm = true) : CallR X (.builtin "max") (fun xs H Q => ∃ i j, xs = [.int i, .int j] ∧ Q (.int (if j > i then j else i)) H) := by
  intro pins s σ H xs us Q I r h
  obtain ⟨i, j, rfl, q⟩ := h
  obtain ⟨u, w', rfl, ⟨t, rfl⟩, ⟨t', rfl⟩⟩ := vals2 r
  refine max_two_ints (I.ok.hd hc) fun h' tk k => ⟨_, H, I.kept k, ?_, q⟩
  by_cases hj : j > i
  · rw [if_pos hj, if_pos hj]; exact ⟨_, rfl⟩
  · rw [if_neg hj, if_neg hj]; exact ⟨_, rfl⟩
theorem call_min2 (hc : X.calm = true) : CallR X (.builtin "min") (fun xs H Q => ∃ i j, xs = [.int i, .int j] ∧ Q (.int (if j < i then j else i)) H) := by
  intro pins s σ H xs us Q I r h
  obtain ⟨i, j, rfl, q⟩ := h
  obtain ⟨u, w', rfl, ⟨t, rfl⟩, ⟨t', rfl⟩⟩ := vals2 r
  refine min_two_ints (I.ok.hd hc) fun h' tk k => ⟨_, H, I.kept k, ?_, q⟩
  by_cases hj : j < i
  · rw [if_pos hj, if_pos hj]; exact ⟨_, rfl⟩
  · rw [if_neg hj, if_neg hj]; exact ⟨_, rfl⟩
end
end L2
namespace L2
open PySem PySem.Spec PyProof.Rows
structure ObjM (h : Heap) (x dx C : Addr) (mA : Str → Option Value) : Prop where
  obj : h.get? x = some (PySem.W.instObj C dx)
  ns : h.Ns1 dx mA
  ne : dx ≠ x
theorem lookIn_ns {h : Heap} {dx : Addr} {mA : Str → Option Value} (n : h.Ns1 dx mA) : ∃ od, h.get? dx = some od ∧ ∀ name, PySem.W.lookIn name od = some (mA name) := by
  obtain ⟨o, es, ep, ho, hd, hk, _, hm⟩ := n
  refine ⟨o, ho, fun name => ?_⟩
  have e := hm name
  unfold nsFind findBy at e
  rw [← Array.find?_toList] at e
  unfold PySem.W.lookIn
  rw [hd]
  dsimp only
  split
  · rename_i y q
    rw [q] at e
    exact congrArg some e
  · rename_i q
    rw [q] at e
    have a : es.toList.any (·.refKey) = false := by
      rw [List.any_eq_false]
      intro y hy
      obtain ⟨z, t, hkey⟩ := hk y (Array.mem_toList_iff.mp hy)
      simp [DictEntry.refKey, hkey]
    have a' : ¬ es.toList.any (·.refKey) = true := by rw [a]; exact Bool.false_ne_true
    rw [if_neg a']
    exact congrArg some e
theorem ObjM.look {h : Heap} {x dx C : Addr} {mA : Str → Option Value} (I : ObjM h x dx C mA) : ∃ od, PySem.W.InstAt h x (PySem.W.instObj C dx) C (some od) ∧ ∀ name, PySem.W.lookIn name od = some (mA name) :=
  let ⟨od, ho, hl⟩ := lookIn_ns I.ns
  ⟨od, ⟨I.obj, rfl, rfl, ho⟩, hl⟩
section
variable {prog : Program} {w : World} {A : Around} {E : Value → Shared → Prop} {s : Shared} {K : PySem.W.Frag} {x dx C f : Addr} {mA : Str → Option Value} {name : Str} {v : Value}
end
theorem RelO.some_of {v : V} {o : Option Value} (r : RelO (some v) o) : ∃ u, o = some u ∧ RelV v u := by
  cases o with
  | none => exact (show False from r).elim
  | some u => exact ⟨u, rfl, r⟩
theorem handed_of {v : V} {u : Value} (r : RelV v u) : PySem.W.handedIn u = true := by
  cases v with
  | non => cases (show u = Value.none from r); rfl
  | bl b => cases (show u = Value.bool b from r); rfl
  | int i => obtain ⟨t, e⟩ := (show ∃ t, u = Value.int i t from r); cases e; rfl
  | str x => obtain ⟨t, e⟩ := (show ∃ t, u = Value.str x t from r); cases e; rfl
  | byt b => obtain ⟨t, e⟩ := (show ∃ t, u = Value.bytes b t from r); cases e; rfl
  | flt b => obtain ⟨t, e⟩ := (show ∃ t, u = Value.float b t from r); cases e; rfl
  | ref a => cases (show u = Value.ref a from r); rfl
  | ty n => cases (show u = Value.type n from r); rfl
section
variable {P : Program} {w : World} {H H' : Hp} {h h' : Heap} {a C dx : Addr} {fs fs' : List (Str × V)}
end
def NoAttr (K : PySem.W.Frag) (C : Addr) (f : Str) : Prop := PySem.W.findIn K (.ref C) f = some none
section
variable {X : Cx} {pins : List (Addr × Obj)} {σ : St} {H : Hp} {s : Shared} {a C dx : Addr} {fs : List (Str × V)} {f : Str} {v : V} {A : Around} {E : Value → Shared → Prop}
theorem attr_of {prog : Program} {w : World} {env : Env} {e : Expr} {f : Str} {pos : Pos} {s : Shared} {Q : Value → Shared → Prop} (hb : attributeBase e f env (eval e env) = eval e env)
    (h : wpAny (model prog w) A (eval e env) (fun o s₁ => wpAny (model prog w) A (getAttr o f true) Q E s₁) E s) : wpAny (model prog w) A (eval (.Attribute e f pos) env) Q E s :=
  Attribute_any_ h (by rw [arm_eval_Attribute, hb])
end
section
variable {X : Cx} {o e value : Expr} {f : Str} {pos pos' tpos : Pos} {ta tv : TE}
end
section
variable {X : Cx} {pins : List (Addr × Obj)} {σ : St} {H : Hp} {s : Shared} {A : Around} {E : Value → Shared → Prop} {Q : Value → Shared → Prop} {c : Value} {b : Bool}
end
end L2
namespace L2
open PySem PySem.Spec PyProof.Rows
structure Room (k : Nat) (A : Around) : Prop where
  hd : A.handled = none
  dp : A.depth + 3 * k + 5 < recursionLimit
  un : A.units + 16 * k + 200 < cLine
theorem Room.mono {j k : Nat} {A : Around} (r : Room k A) (h : j ≤ k) : Room j A := ⟨r.hd, by have := r.dp; omega, by have := r.un; omega⟩
theorem Room.deeper {k : Nat} {A : Around} (r : Room (k + 1) A) (env : Env) : Room k (A.deeper env) :=
  ⟨r.hd, by have := r.dp; show A.depth + 1 + 3 * k + 5 < _; omega, by have := r.un; show A.units + 3 + 16 * k + 200 < _; omega⟩
theorem make_depth {A : Around} {C : Addr} {us : List Value} {kw : List (Str × Value)} : (A.under (.builtin "type.__call__" ⟨.ref C :: us, kw⟩)).depth = A.depth + 1 := by
  first | rfl | simp [Around.under, Code.weight, Code.isCreation, Code.isGuard, Code.isCaller, Code.frames, Code.isFrame, guardIds]
theorem make_units {A : Around} {C : Addr} {us : List Value} {kw : List (Str × Value)} : (A.under (.builtin "type.__call__" ⟨.ref C :: us, kw⟩)).units = A.units + 1 := by
  first | rfl | simp [Around.under, Code.cUnits, Code.frames, Code.isFrame]
theorem Room.make {k : Nat} {A : Around} (r : Room (k + 1) A) (C : Addr) (us : List Value) (kw : List (Str × Value)) : Room k (A.under (.builtin "type.__call__" ⟨.ref C :: us, kw⟩)) :=
  ⟨r.hd, by have := r.dp; rw [make_depth]; omega, by have := r.un; rw [make_units]; omega⟩
theorem Room.depth {k : Nat} {A : Around} (r : Room k A) : A.depth < recursionLimit := by have := r.dp; omega
theorem Room.units {k : Nat} {A : Around} (r : Room k A) : A.units + 64 < cLine := by have := r.un; omega
def tNil : TA := fun _ H Q => Q [] H
def tCons (ta : TE) (tr : TA) : TA := fun σ H Q => ta σ H fun x H1 => tr σ H1 fun xs H2 => Q (x :: xs) H2
section
variable {X : Cx} {e : Expr} {es : List Expr} {te : TE} {t : TA} {pos : Pos}
theorem pa_nil : PA X [] tNil := fun _ _ _ _ H Q I h => Calls.spliced_nil ⟨[], H, I, .nil, h⟩
theorem pa_cons (ha : PE X e te) (hr : PA X es t) (hs : starEach (e :: es) X.env = (false, eval e X.env) :: starEach es X.env := by rfl) : PA X (e :: es) (tCons te t) := by
  intro pos pins s σ H Q I h
  rw [hs]
  show wpAny _ _ (spliced ((false, eval e X.env) :: backTo pos (starEach es X.env))) _ _ s
  refine Calls.spliced_cons (thn (ha pins s σ H _ I h) fun u s1 ⟨x, H1, I1, r1, q1⟩ => ?_)
  exact thn (hr pos pins s1 σ H1 _ I1 q1) fun us s2 ⟨xs, H2, I2, r2, q2⟩ => ⟨x :: xs, H2, I2, .cons r1 r2, q2⟩
def tTup (t : TA) : TE := fun σ H Q => t σ H fun xs H1 => xs.length ≤ sizeLine ∧ ∀ p, H1 p = none → Q (.ref p) (upd H1 p (.tup xs))
def tLst (t : TA) : TE := fun σ H Q => t σ H fun xs H1 => xs.length ≤ sizeLine ∧ ∀ p, H1 p = none → Q (.ref p) (upd H1 p (.lst xs))
theorem pe_tup {x1} (h : PA X es t) : PE X (.Tuple es x1 pos) (tTup t) := by
  intro pins s σ H Q I hq
  refine wpAny_Tuple_spliced (thn (h pos pins s σ H _ I hq) fun us s1 ⟨xs, H1, I1, r, z, q⟩ => ⟨by rw [← r.length]; exact z, ?_⟩)
  have hf : H1 s1.heap.objs.size = none := I1.hok.fresh (Nat.le_refl _)
  refine ⟨.ref s1.heap.objs.size, upd H1 s1.heap.objs.size (.tup xs), I1.laid (t' := s1.toks) (fun b u e => Heap.get?_push_of_some _ e) (Nat.le_refl _) ?_, rfl, q _ hf⟩
  exact ⟨z, us, r, ⟨_, Heap.get?_push_size _ rfl, rfl, _, rfl⟩⟩
theorem pe_lst (h : PA X es t) : PE X (.List es pos) (tLst t) := by
  intro pins s σ H Q I hq
  refine wpAny_List_spliced (thn (h pos pins s σ H _ I hq) fun us s1 ⟨xs, H1, I1, r, z, q⟩ => ⟨by rw [← r.length]; exact z, ?_⟩)
  have hf : H1 s1.heap.objs.size = none := I1.hok.fresh (Nat.le_refl _)
  refine ⟨.ref s1.heap.objs.size, upd H1 s1.heap.objs.size (.lst xs), I1.laid (t' := s1.toks) (fun b u e => Heap.get?_push_of_some _ e) (Nat.le_refl _) ?_, rfl, q _ hf⟩
  exact ⟨z, us, 0, r, Heap.get?_push_size _ rfl⟩
end
abbrev Sp := List V → Hp → VK → XK → Prop
abbrev CXT := List Env → Hp → Shared → XK → Value → Shared → Prop
structure Env0 (P : Program) (w : World) (K : PySem.W.Frag) (mg : Str → Option Value) (base : Heap) (A : Around) (outer : List Env) (s : Shared) (H : Hp) : Prop where
  frames : A.frames = some outer
  mod : Mod K mg base
  bs : ∀ b o, base.get? b = some o → s.heap.get? b = some o ∧ H b = none
  bsz : base.objs.size ≤ s.heap.objs.size
  funs : s.heap.FunFrames base outer
  frf : ∀ b ∈ frs outer, H b = none
  hok : HOk P w H s.heap
  bare : AllBare s.gens
def CE (outer : List Env) (P : Program) (w : World) (H : Hp) (s : Shared) (Q : VK) (u : Value) (s' : Shared) : Prop :=
  ∃ v H', s'.os = s.os ∧ AllBare s'.gens ∧ Un (frs outer) [] H H' s.heap s'.heap ∧ HOk P w H' s'.heap ∧ RelV v u ∧ Q v H'
def CR (CX : CXT) (outer : List Env) (P : Program) (w : World) (H : Hp) (s : Shared) (Q : VK) (E : XK) (r : Result) (s' : Shared) : Prop :=
  match r with
  | .ok (.ret u) => CE outer P w H s Q u s'
  | .ok _ => False
  | .error e => CX outer H s E e s'
structure FnOk (P : Program) (w : World) (K : PySem.W.Frag) (mg : Str → Option Value) (base : Heap) (CX : CXT) (k : Nat) (f : Addr) (fd : FuncData) (ps : List Str) (sp : Sp) : Prop where
  len : ∀ vs H Q E, sp vs H Q E → vs.length = ps.length
  run : ∀ (A : Around) (outer : List Env) (s : Shared) (H : Hp) (args : Args) (us : List Value) (vs : List V) (Q : VK) (E : XK), Room k A → Env0 P w K mg base A outer s H → BindsTo s fd args (ps.zip us) → Vals vs us → sp vs H Q E →
    codeAny (model P w) A (.call (.ref f) args) (CR CX outer P w H s Q E) s
theorem FnOk.mono {P : Program} {w : World} {K : PySem.W.Frag} {mg : Str → Option Value} {base : Heap} {CX : CXT} {j k : Nat} {f : Addr} {fd : FuncData} {ps : List Str} {sp : Sp} (F : FnOk P w K mg base CX j f fd ps sp) (h : j ≤ k) :
    FnOk P w K mg base CX k f fd ps sp := ⟨F.len, fun A outer s H args us vs Q E hr => F.run A outer s H args us vs Q E (hr.mono h)⟩
theorem Env0.make {P : Program} {w : World} {K : PySem.W.Frag} {mg : Str → Option Value} {base : Heap} {A : Around} {outer : List Env} {s : Shared} {H : Hp} (e : Env0 P w K mg base A outer s H) (C : Addr) (us : List Value) (kw : List (Str × Value)) :
    Env0 P w K mg base (A.under (.builtin "type.__call__" ⟨.ref C :: us, kw⟩)) outer s H := ⟨by first | exact e.frames | (simpa [Around.under, Code.envs, Code.isFrame, pushEnvs] using e.frames), e.mod, e.bs, e.bsz, e.funs, e.frf, e.hok, e.bare⟩
section
variable {X : Cx} {pins : List (Addr × Obj)} {σ : St} {H : Hp} {s s' : Shared}
theorem Inv.env0 (I : Inv X pins σ H s) : Env0 X.prog X.w X.K X.mg X.base X.A X.stack s H :=
  ⟨I.ok.frames, I.ok.mod, I.bs, Nat.le_trans I.ok.bsz I.sz, I.stack, I.stkFree, I.hok, I.bare⟩
theorem Inv.after {Q : VK} {u : Value} (I : Inv X pins σ H s) (h : CE X.stack X.prog X.w H s Q u s') : EP X pins σ Q u s' := by
  obtain ⟨v, H', os, bare, un, hok, r, q⟩ := h
  obtain ⟨hh, g, d, t, os'⟩ := s'
  obtain rfl : os' = s.os := os
  exact ⟨v, H', I.call (h' := hh) (g' := g) (d' := d) (t' := t) (ch := []) un hok bare (fun b z => absurd z (by simp)), r, q⟩
end
def tCall (sp : Sp) (dvs : List V) (E : XK) (t : TA) : TE := fun σ H Q => t σ H fun vs H1 => sp (vs ++ dvs) H1 Q E
def Binds (K : PySem.W.Frag) (fd : FuncData) (ps : List Str) (ds : List Value) : Prop :=
  ∀ (s : Shared) (us : List Value), K.In s.heap → (us ++ ds).length = ps.length → BindsTo s fd ⟨us, []⟩ (ps.zip (us ++ ds))
theorem Binds.all {K : PySem.W.Frag} {fd : FuncData} {ps : List Str} (h : ∀ us : List Value, us.length = ps.length → bindArgs fd ⟨us, []⟩ = pure (ps.zip us)) : Binds K fd ps [] := fun s us _ hl => by
  rw [List.append_nil] at hl ⊢
  exact .of_eq (h us hl)
def Passes (CX : CXT) (X : Cx) (E : XK) : Prop := ∀ (pins : List (Addr × Obj)) (σ : St) (H : Hp) (s : Shared) (e : Value) (s' : Shared), Inv X pins σ H s → CX X.stack H s E e s' → X.xe e s'
section
variable {X : Cx} {CX : CXT} {k : Nat} {f C : Addr} {fd : FuncData} {ps : List Str} {sp : Sp} {dvs : List V} {ds : List Value} {E : XK} {x m : Str} {p pos apos : Pos} {e o : Expr} {es : List Expr} {ta : TE} {t : TA}
theorem run_fn {pins : List (Addr × Obj)} {σ : St} {H : Hp} {s : Shared} {Q : VK} {us : List Value} {vs : List V} (F : FnOk X.prog X.w X.K X.mg X.base CX k f fd ps sp) (hr : Room k X.A) (hb : Binds X.K fd ps ds) (hd : Vals dvs ds) (hx : Passes CX X E)
    (I : Inv X pins σ H s) (r : Vals vs us) (h : sp (vs ++ dvs) H Q E) : wpAny (model X.prog X.w) X.A (call (.ref f) us) (EP X pins σ Q) X.xe s := by
  have r2 : Vals (vs ++ dvs) (us ++ ds) := r.append hd
  have hl : (us ++ ds).length = ps.length := by rw [← r2.length]; exact F.len _ _ _ _ h
  refine wpAny_call (codeAny_mono (F.run X.A X.stack s H ⟨us, []⟩ (us ++ ds) (vs ++ dvs) Q E hr I.env0 (hb s us I.kIn hl) r2 h) fun r s' hq => ?_)
  cases r with
  | error e => exact hx pins σ H s e s' I hq
  | ok fl =>
    cases fl with
    | ret u => exact I.after hq
    | next => exact False.elim hq
    | brk => exact False.elim hq
    | cont => exact False.elim hq
theorem pe_call (F : FnOk X.prog X.w X.K X.mg X.base CX k f fd ps sp) (hr : Room k X.A) (hg : Gl X x) (hm : X.mg x = some (.ref f)) (hk : PySem.W.keepIn X.K (.ref f) = true) (hb : Binds X.K fd ps ds) (hd : Vals dvs ds) (hx : Passes CX X E)
    (ha : PA X (e :: es) t) (hdb : (x == ("__debug__" : Str)) = false := by decide) (he : starEach (e :: es) X.env = (false, eval e X.env) :: starEach es X.env := by rfl) (hpl : (backTo pos (starEach es X.env)).any (·.1) = false := by rfl) :
    PE X (.Call (.Name x p) (e :: es) [] pos) (tCall sp dvs E t) := by
  intro pins s σ H Q I h
  refine wpAny_Call_Name_kw (ld_glob I hg hm ?_ hdb)
  refine PySem.W.callWith_K (h₀ := X.base) I.ok.mod.kin hk (thn (ha pos pins s σ H _ I h) fun us s1 ⟨vs, H1, I1, r, q⟩ => ⟨I1.kIn, ?_⟩) he hpl
  exact run_fn F hr hb hd hx I1 r q
end
def PK (X : Cx) (kws : List Keyword) (t : TA) : Prop :=
  ∀ (pos : Pos) (pins : List (Addr × Obj)) (s : Shared) (σ : St) (H : Hp) (Q : List V → Hp → Prop), Inv X pins σ H s → t σ H Q → wpAny (model X.prog X.w) X.A (evalAll ((backToKw pos (keywordEach kws X.env)).map (·.2))) (AP X pins σ Q) X.xe s
section
variable {X : Cx} {CX : CXT} {k : Nat} {f C : Addr} {fd : FuncData} {ps ks : List Str} {sp : Sp} {E : XK} {x m : Str} {p pos apos kpos : Pos} {e o : Expr} {es : List Expr} {kws : List Keyword} {te ta : TE} {t tk : TA} {nm : Option Str}
theorem pk_nil : PK X [] tNil := fun _ _ _ _ H Q I h => wpAny_evalAll_nil ⟨[], H, I, .nil, h⟩
theorem pk_cons (ha : PE X e te) (hr : PK X kws t) : PK X (⟨nm, e, kpos⟩ :: kws) (tCons te t) := by
  intro pos pins s σ H Q I h
  show wpAny _ _ (evalAll ((do let v ← eval e X.env; standAt pos; pure v) :: (backToKw pos (keywordEach kws X.env)).map (·.2))) _ _ s
  refine wpAny_evalAll_cons (wpAny_bind (thn (ha pins s σ H _ I h) fun u s1 ⟨x, H1, I1, r1, q1⟩ => wpAny_bind (wpAny_standAt (wpAny_pure ?_))))
  exact thn (hr pos pins s1 σ H1 _ I1 q1) fun us s2 ⟨xs, H2, I2, r2, q2⟩ => ⟨x :: xs, H2, I2, .cons r1 r2, q2⟩
variable {g : List Value → List Value → List Value} {gV : List V → List V → List V}
end
structure FnScope (N P : List Str) (sc : Scope) : Prop where
  kind : sc.kind = .function
  co : sc.isCoroutine = false
  gen : sc.isGenerator = false
  nd : N.Nodup
  pre : N.take P.length = P
  par : ∀ x ∈ P, sc.names.lookup x = some .local ∨ sc.names.lookup x = some .cell
  nofree : ∀ y ∈ sc.names, y.2 ≠ .free
theorem bindL_out {kindOf : Str → Option NameKind} {x : Str} : ∀ {binds : List (Str × Value)} {m : Str → Option Value}, (∀ v, (x, v) ∉ binds) → bindL kindOf binds m x = m x
  | [], _, _ => rfl
  | (n, v) :: r, m, h => by
    unfold bindL
    rw [bindL_out fun w hw => h w (List.mem_cons_of_mem _ hw)]
    split
    · have : x ≠ n := by rintro rfl; exact h v List.mem_cons_self
      simp [this]
    · rfl
theorem bindC_out {kindOf : Str → Option NameKind} {x : Str} : ∀ {binds : List (Str × Value)} {m : Str → Option Value}, (∀ v, (x, v) ∉ binds) → bindC kindOf binds m x = m x
  | [], _, _ => rfl
  | (n, v) :: r, m, h => by
    unfold bindC
    rw [bindC_out fun w hw => h w (List.mem_cons_of_mem _ hw)]
    split
    · rfl
    · have : x ≠ n := by rintro rfl; exact h v List.mem_cons_self
      simp [this]
theorem bindL_get {kindOf : Str → Option NameKind} {x : Str} {v : Value} : ∀ {P : List Str} {vs : List Value} {i : Nat} {m : Str → Option Value}, P.Nodup → P[i]? = some x → vs[i]? = some v → kindOf x = some .local →
    bindL kindOf (P.zip vs) m x = some v
  | [], _, _, _, _, h, _, _ => by simp at h
  | _ :: _, [], _, _, _, _, h, _ => by simp at h
  | p :: P, w :: vs, 0, m, nd, h1, h2, hk => by
    simp at h1 h2; subst h1; subst h2
    show bindL kindOf ((p, w) :: P.zip vs) m p = _
    unfold bindL
    rw [bindL_out fun v hv => (List.nodup_cons.mp nd).1 (List.of_mem_zip hv).1, if_pos hk]
    simp
  | p :: P, w :: vs, i + 1, m, nd, h1, h2, hk => by
    show bindL kindOf ((p, w) :: P.zip vs) m x = _
    unfold bindL
    exact bindL_get (i := i) (List.nodup_cons.mp nd).2 (by simpa using h1) (by simpa using h2) hk
theorem bindC_get {kindOf : Str → Option NameKind} {x : Str} {v : Value} : ∀ {P : List Str} {vs : List Value} {i : Nat} {m : Str → Option Value}, P.Nodup → P[i]? = some x → vs[i]? = some v → kindOf x ≠ some .local →
    bindC kindOf (P.zip vs) m x = some v
  | [], _, _, _, _, h, _, _ => by simp at h
  | _ :: _, [], _, _, _, _, h, _ => by simp at h
  | p :: P, w :: vs, 0, m, nd, h1, h2, hk => by
    simp at h1 h2; subst h1; subst h2
    show bindC kindOf ((p, w) :: P.zip vs) m p = _
    unfold bindC
    rw [bindC_out fun v hv => (List.nodup_cons.mp nd).1 (List.of_mem_zip hv).1, if_neg hk]
    simp
  | p :: P, w :: vs, i + 1, m, nd, h1, h2, hk => by
    show bindC kindOf ((p, w) :: P.zip vs) m x = _
    unfold bindC
    exact bindC_get (i := i) (List.nodup_cons.mp nd).2 (by simpa using h1) (by simpa using h2) hk
def start (N : List Str) (vs : List V) : St := vs.map some ++ List.replicate (N.length - vs.length) none
def cxOf (CX : CXT) (P : Program) (w : World) (K : PySem.W.Frag) (mg : Str → Option Value) (base : Heap) (N : List Str) (qual : Str) (scope : Scope) (f : Addr) (cd : Value) (A : Around) (outer : List Env) (s : Shared) (H : Hp) (E : XK) : Cx where
  prog := P
  w := w
  K := K
  mg := mg
  base := base
  A := A.deeper (envOfC qual scope s.heap.objs.size f cd)
  N := N
  s₀ := s
  H₀ := H
  env := envOfC qual scope s.heap.objs.size f cd
  outer := outer
  stack := envOfC qual scope s.heap.objs.size f cd :: outer
  ex := []
  calm := true
  fn := fun _ => true
  pn := []
  xe := fun e s' => wpAny (model P w) (A.deeper (envOfC qual scope s.heap.objs.size f cd)) (leaving (envOfC qual scope s.heap.objs.size f cd) e) (fun _ s'' => CX outer H s E e s'') (fun e' s'' => CX outer H s E e' s'') s'
theorem cell_has {sc : Scope} {n : Nat} {x : Str} (h : sc.names.lookup x = some .cell) : ∃ c, (cellsFrom n sc.names []).lookup x = some c := by
  have q := PySem.W.cellsFrom_some sc.names n [] (.inl h)
  exact Option.isSome_iff_exists.mp q
theorem inv_start {CX : CXT} {P : Program} {w : World} {K : PySem.W.Frag} {mg : Str → Option Value} {base : Heap} {N ps : List Str} {qual : Str} {scope : Scope} {f : Addr} {cd : Value} {A : Around} {outer : List Env} {s s1 : Shared} {H : Hp} {E : XK} {us : List Value} {vs : List V}
    (S : FnScope N ps scope) (hd : A.handled = none) (e0 : Env0 P w K mg base A outer s H) (hl : vs.length = ps.length) (r : Vals vs us)
    (x : InCallC s s.heap.objs.size (bindL (envOfC qual scope s.heap.objs.size f cd).kindOf (ps.zip us) fun _ => none) (cellsFrom (s.heap.objs.size + 1) scope.names []) (bindC (envOfC qual scope s.heap.objs.size f cd).kindOf (ps.zip us) fun _ => none) s1) :
    Inv (cxOf CX P w K mg base N qual scope f cd A outer s H E) [] (start N vs) H s1 := by
  have hpl : ps.length ≤ N.length := by have := congrArg List.length S.pre; rw [List.length_take] at this; omega
  obtain ⟨h1, tk, rfl, hk⟩ := x.done
  have noA : ∀ b : Addr, b ∉ (cxOf CX P w K mg base N qual scope f cd A outer s H E).ex := fun b z => absurd (show b ∈ ([] : List Addr) from z) (by simp)
  refine ⟨⟨e0.mod, S.kind, rfl, rfl, Nat.le_refl _, fun y z c h1 h2 => ?_, fun y hy => ?_, fun y c _ h => ?_, fun _ => hd, Around.frames_deeper e0.frames, .inr ⟨rfl, rfl⟩, fun b z => absurd z (noA b), e0.bs, e0.bsz, fun b _ _ => noA b, fun b z => absurd z (noA b), e0.funs, e0.frf⟩,
    rfl, e0.bare, Un.kept hk, ⟨_, x.toInCall.ns, fun i y v h1 h2 h3 => ?_⟩, fun y c h => ⟨_, x.cell y c h⟩, e0.hok.fresh (Nat.le_refl _), fun y c h => ?_, fun p hp => absurd (show p ∈ ([] : List (Addr × Obj)) from hp) (by simp), e0.hok.kept hk, ?_⟩
  · exact name_of_addr x.apart (PySem.mem_of_lookup h1) (PySem.mem_of_lookup h2)
  · have hy : scope.names.lookup y = some .cell ∨ scope.names.lookup y = some .free := hy
    rcases hy with hy | hy
    · exact cell_has hy
    · exact absurd rfl (S.nofree _ (PySem.mem_of_lookup hy))
  · exact Nat.le_of_lt (x.above y c (PySem.mem_of_lookup h))
  · have hi : i < vs.length := by
      unfold start at h2
      by_cases hi : i < vs.length
      · exact hi
      · rw [List.getElem?_append_right (by simpa using hi)] at h2
        rw [List.getElem?_replicate] at h2
        split at h2 <;> cases h2
    have ha : vs[i]? = some v := by
      unfold start at h2
      rw [List.getElem?_append_left (by simpa using hi), List.getElem?_map] at h2
      cases e : vs[i]? with
      | none => rw [e] at h2; cases h2
      | some a => rw [e] at h2; cases h2; rfl
    obtain ⟨u, hu, rv⟩ := r.get ha
    have hp : ps[i]? = some y := by
      rw [← S.pre, List.getElem?_take_of_lt (by omega)]; exact h1
    have ndP : ps.Nodup := by rw [← S.pre]; exact S.nd.sublist (List.take_sublist _ _)
    refine ⟨u, rv, ?_⟩
    rcases S.par y (List.mem_of_getElem? hp) with k | k
    · exact .inl ⟨k, bindL_get ndP hp hu k⟩
    · obtain ⟨c, e⟩ := cell_has (n := s.heap.objs.size + 1) k
      refine .inr ⟨.inl k, c, e, ?_⟩
      have q := x.cell y c e
      rw [bindC_get ndP hp hu (by show scope.names.lookup y ≠ _; rw [k]; decide)] at q
      exact q
  · exact e0.hok.fresh (Nat.le_of_lt (x.above y c (PySem.mem_of_lookup h)))
  · unfold start
    show _ = N.length
    rw [List.length_append, List.length_map, List.length_replicate]
    omega
theorem fn_of {CX : CXT} {P : Program} {w : World} {K : PySem.W.Frag} {mg : Str → Option Value} {base : Heap} {k : Nat} {f : Addr} {name qual : Str} {params : Arguments} {body : List Stmt} {scope : Scope} {dV kV doc pm cdv ct oc : Value} {an od : Option Addr}
    {osl : Array (Option Value)} {N ps : List Str} {sp : Sp} (lk : K.lookup f = some ⟨oc, od, .func (PySem.W.fnOf name qual params body scope dV kV doc pm an cdv ct), osl⟩) (hcd : PySem.W.codeIn K cdv qual = true) (S : FnScope N ps scope)
    (len : ∀ vs H Q E, sp vs H Q E → vs.length = ps.length)
    (hbody : ∀ (A : Around) (outer : List Env) (s : Shared) (H : Hp) (vs : List V) (Q : VK) (E : XK), Room k (A.deeper (envOfC qual scope s.heap.objs.size f cdv)) → sp vs H Q E →
      ∃ t, PSs (cxOf CX P w K mg base N qual scope f cdv A outer s H E) body t ∧ t { nx := fun _ H' => Q .non H', rt := Q } (start N vs) H) :
    FnOk P w K mg base CX (k + 1) f (PySem.W.fnOf name qual params body scope dV kV doc pm an cdv ct) ps sp := by
  refine ⟨len, fun A outer s H args us vs Q E hr e0 hb r hsp => ?_⟩
  have hl := len _ _ _ _ hsp
  have KX : K.In s.heap := e0.mod.kin.keeps fun b o e => (e0.bs b o e).1
  have lim : s.heap.NoLimit := e0.mod.nolimit.keeps fun b o e => (e0.bs b o e).1
  have hkind : ∀ y ∈ ps.zip us, scope.names.lookup y.1 = some .local ∨ (scope.names.lookup y.1 = some .cell ∧ ((cellsFrom (s.heap.objs.size + 1) scope.names []).lookup y.1).isSome = true) := fun ⟨n, v⟩ hy => by
    rcases S.par n (List.of_mem_zip hy).1 with q | q
    · exact .inl q
    · exact .inr ⟨q, PySem.W.cellsFrom_some _ _ _ (.inl q)⟩
  refine codeAny_call_function hr.depth (KX _ _ lk) rfl S.co S.gen rfl (PySem.W.codeRec_of KX hcd) (hb _ _ _ _ ?_)
  refine wpAny_newFunctionEnv_cells S.kind hkind fun env he s1 x => ?_
  subst he
  refine ⟨lim.keeps x.toInCall.keep, codeAny_func ?_⟩
  obtain ⟨t, ht, hq⟩ := hbody A outer s H vs Q E (hr.deeper _) hsp
  have I : Inv (cxOf CX P w K mg base N qual scope f cdv A outer s H E) [] (start N vs) H s1 := inv_start S hr.hd e0 hl r x
  refine wpAny_mono (ht [] s1 (start N vs) H _ I hq) (fun fl s' hs => ?_) fun e s' hs => hs
  have fin : ∀ {σ' : St} {H' : Hp} {v : V} {u : Value}, Inv (cxOf CX P w K mg base N qual scope f cdv A outer s H E) [] σ' H' s' → RelV v u → Q v H' → CE outer P w H s Q u s' :=
    fun {σ' H' v u} J rv q => ⟨v, H', J.os, J.bare, J.base, J.hok, rv, q⟩
  cases fl with
  | ret u =>
    obtain ⟨v, σ', H', J, rv, q⟩ := hs
    exact fin J rv q
  | next =>
    obtain ⟨σ', H', J, q⟩ := hs
    exact fin (v := V.non) (u := Value.none) J rfl q
  | brk =>
    obtain ⟨_, _, _, q⟩ := hs
    exact False.elim q
  | cont =>
    obtain ⟨_, _, _, q⟩ := hs
    exact False.elim q
end L2
namespace L2
open PySem PySem.Spec PyProof.Rows
section
variable {X : Cx} {x : Str} {p pos : Pos} {e : Expr} {es : List Expr} {t : TA} {id T : String} {r : List V → Hp → VK → Prop}
def tCB (r : List V → Hp → VK → Prop) (t : TA) : TE := fun σ H Q => t σ H fun vs H1 => r vs H1 Q
theorem pe_callB (hc : CallR X (.builtin id) r) (hg : Gl X x) (hm : X.mg x = none) (hv : bootBuiltins x = some (.builtin id)) (ha : PA X (e :: es) t) (hn : x ≠ "__name__" := by decide) (hdb : (x == ("__debug__" : Str)) = false := by decide)
    (he : starEach (e :: es) X.env = (false, eval e X.env) :: starEach es X.env := by rfl) (hpl : (backTo pos (starEach es X.env)).any (·.1) = false := by rfl) : PE X (.Call (.Name x p) (e :: es) [] pos) (tCB r t) := by
  intro pins s σ H Q I h
  refine wpAny_Call_Name_kw (ld_blt I hg hm hv ?_ hn hdb)
  exact PyProof.Rows.callWith_builtin1 (thn (ha pos pins s σ H _ I h) fun us s1 ⟨vs, H1, I1, r1, q1⟩ => hc pins s1 σ H1 vs us Q I1 r1 q1) he hpl
end
end L2
namespace HT
open PySem PyProof.Rows
def lexLt : List Int → List Int → Bool
  | [], [] => false
  | [], _ :: _ => true
  | _ :: _, [] => false
  | x :: xs, y :: ys => if x = y then lexLt xs ys else decide (x < y)
theorem lexLt_cons (x y : Int) (xs ys : List Int) : lexLt (x :: xs) (y :: ys) = if x = y then lexLt xs ys else decide (x < y) := rfl
theorem lexLt_nil_nil : lexLt [] [] = false := rfl
theorem lexLt_nil_cons (y : Int) (ys : List Int) : lexLt [] (y :: ys) = true := rfl
theorem lexLt_cons_nil (x : Int) (xs : List Int) : lexLt (x :: xs) [] = false := rfl
theorem eqAt_int (A : Around) (s : Shared) (a : Int) (t : Tok) (c : Int) (u : Tok) : ∃ e, SeqAt.EqAt A s (.int a t) (.int c u) e ∧ (e = true ↔ a = c) :=
  ⟨(a == c), SeqAt.EqAt.int_int a t c u, by simp⟩
theorem rcLt_int (A : Around) (s : Shared) (a : Int) (t : Tok) (c : Int) (u : Tok) (prog : Program) (w : World) (E : Value → Shared → Prop) (Q : Value → Shared → Prop) (h : Q (.bool (decide (a < c))) s) :
    wpAny (model prog w) A (richCompare .Lt (.int a t) (.int c u)) Q E s :=
  (PyProof.Rows.lt_int h : wpAny (model prog w) A (compareOp .Lt (.int a t) (.int c u)) Q E s)
section
open PySem.SeqAt
open PySem.AutoSeq1 (wpAny_loadPart')
open PySem.MeetsSeq PySem.MeetsSeq2 PySem.MeetsSeq3
end
section
variable {prog : Program} {w : World} {A : Around} {E : Value → Shared → Prop} {s : Shared}
def sIx (n d : Nat) : Option Int → Nat
  | none => d
  | some v => if v < 0 then (v + (n : Int)).toNat else min v.toNat n
theorem sIx_nat (n d k : Nat) : sIx n d (some (k : Int)) = min k n := by
  show (if (k : Int) < 0 then ((k : Int) + (n : Int)).toNat else min (k : Int).toNat n) = min k n
  rw [if_neg (by omega), Int.toNat_natCast]
end
end HT
namespace L2
open PySem PySem.Spec PyProof.Rows
abbrev TO := St → Hp → (Option Int → Hp → Prop) → Prop
def PO (X : Cx) (e : Option Expr) (t : TO) : Prop :=
  ∀ (pins : List (Addr × Obj)) (s : Shared) (σ : St) (H : Hp) (Q : Option Int → Hp → Prop), Inv X pins σ H s → t σ H Q →
    wpAny (model X.prog X.w) X.A (evalPart e X.env) (fun u s' => ∃ o H', Inv X pins σ H' s' ∧ IsPart u o ∧ Q o H') X.xe s
def tPart (t : TE) : TO := fun σ H Q => t σ H fun x H1 => ∃ i, x = .int i ∧ Q (some i) H1
theorem intsAre_of {ns : List Int} : ∀ {us : List Value}, Vals (ns.map V.int) us → IntsAre us ns := by
  induction ns with
  | nil => intro us r; rw [List.map_nil] at r; cases r; exact .nil
  | cons n ns ih =>
    intro us r
    rw [List.map_cons] at r
    cases r with
    | cons r1 r2 =>
      obtain ⟨t, e⟩ := r1
      subst e
      exact .cons n t (ih r2)
section
variable {X : Cx} {e : Expr} {te : TE} {lo hi : Option Expr} {tl th : TO} {pos p2 : Pos}
theorem po_some (h : PE X e te) : PO X (some e) (tPart te) := by
  intro pins s σ H Q I hw
  rw [evalPart_some]
  refine thn (h pins s σ H _ I hw) fun u s1 ⟨x, H1, I1, r1, q1⟩ => ?_
  obtain ⟨i, rfl, q⟩ := q1
  obtain ⟨t, rfl⟩ := r1
  exact ⟨some i, H1, I1, .int i t, q⟩
def SlR (X : Cx) (r : V → Option Int → Option Int → Hp → VK → Prop) : Prop :=
  ∀ (pins : List (Addr × Obj)) (s : Shared) (σ : St) (H : Hp) (x : V) (v vl vu : Value) (lo hi : Option Int) (sl : Addr) (Q : VK), Inv X pins σ H s → RelV x v → s.heap.IsSliceOf sl vl vu .none → IsPart vl lo → IsPart vu hi → r x lo hi H Q →
    ∃ T id, typeLookup (.type T) "__getitem__" = pure (some (.builtin id)) ∧ s.TypeIs v T ∧ wpAny (model X.prog X.w) X.A (getItem v (.ref sl)) (EP X pins σ Q) X.xe s
theorem SlR.or {r r' : V → Option Int → Option Int → Hp → VK → Prop} (h : SlR X r) (h' : SlR X r') : SlR X (fun x lo hi H Q => r x lo hi H Q ∨ r' x lo hi H Q) := by
  intro pins s σ H x v vl vu lo hi sl Q I rx hs pl pu q
  rcases q with q | q
  · exact h pins s σ H x v vl vu lo hi sl Q I rx hs pl pu q
  · exact h' pins s σ H x v vl vu lo hi sl Q I rx hs pl pu q
def tSl (r : V → Option Int → Option Int → Hp → VK → Prop) (te : TE) (tl th : TO) : TE := fun σ H Q => te σ H fun x H1 => tl σ H1 fun l H2 => th σ H2 fun u H3 => r x l u H3 Q
theorem pe_slice {r : V → Option Int → Option Int → Hp → VK → Prop} (hr : SlR X r) (he : PE X e te) (hl : PO X lo tl) (hu : PO X hi th) : PE X (.Subscript e (.Slice lo hi none p2) pos) (tSl r te tl th) := by
  intro pins s σ H Q I h
  refine Subscript_ (thn (he pins s σ H _ I h) fun v s1 ⟨x, H1, I1, r1, q1⟩ => ?_)
  refine wpAny_Slice (thn (hl pins s1 σ H1 _ I1 q1) fun vl s2 ⟨l, H2, I2, pl, q2⟩ => thn (hu pins s2 σ H2 _ I2 q2) fun vu s3 ⟨u, H3, I3, pu, q3⟩ => ?_)
  rw [evalPart_none]
  refine wpAny_pure ?_
  have I4 : Inv X pins σ H3 { s3 with heap := s3.heap.push { cls := .type "slice", data := .fields #[vl, vu, .none] } } := I3.kept (t' := s3.toks) fun b ob q => Heap.get?_push_of_some _ q
  obtain ⟨T, id, hT, ht, hg⟩ := hr pins { s3 with heap := s3.heap.push { cls := .type "slice", data := .fields #[vl, vu, .none] } } σ H3 x v vl vu l u s3.heap.objs.size Q I4 r1 (Heap.IsSliceOf.new ..) pl pu q3
  show wpAny (model X.prog X.w) X.A (subscriptTail e (.Slice lo hi none p2) v (.ref s3.heap.objs.size)) (EP X pins σ Q) X.xe { s3 with heap := s3.heap.push { cls := .type "slice", data := .fields #[vl, vu, .none] } }
  exact tail_any (ops := [.ref s3.heap.objs.size, v]) ht hT hg (by with_unfolding_all rfl)
def cutV (xs : List V) (lo hi : Option Int) : List V := (xs.drop (HT.sIx xs.length 0 lo)).take (HT.sIx xs.length xs.length hi - HT.sIx xs.length 0 lo)
theorem cutV_length (xs : List V) (lo hi : Option Int) : (cutV xs lo hi).length ≤ xs.length := by
  unfold cutV
  rw [List.length_take, List.length_drop]
  omega
end
end L2
namespace L2
open PySem PySem.Spec PyProof.Rows
def ixN (n : Nat) (i : Int) : Option Nat := if 0 ≤ i then (if i < n then some i.toNat else none) else if -(n : Int) ≤ i then some (i + n).toNat else none
def atI {α : Type} (xs : List α) (i : Int) : Option α := (ixN xs.length i).bind fun j => xs[j]?
theorem ixN_seq {n : Nat} {i : Int} {j : Nat} (h : ixN n i = some j) : seqIndex? i n = some j ∧ j < n ∧ -(n : Int) ≤ i ∧ i < n := by
  unfold ixN at h
  by_cases h0 : 0 ≤ i
  · rw [if_pos h0] at h
    by_cases h1 : i < n
    · rw [if_pos h1] at h
      have e : i.toNat = j := Option.some.inj h
      exact ⟨by rw [seqIndex_of h0 h1, e], by omega, by omega, h1⟩
    · rw [if_neg h1] at h; cases h
  · rw [if_neg h0] at h
    by_cases h1 : -(n : Int) ≤ i
    · rw [if_pos h1] at h
      have e : (i + n).toNat = j := Option.some.inj h
      exact ⟨by rw [seqIndex_neg (by omega) h1, e], by omega, h1, by omega⟩
    · rw [if_neg h1] at h; cases h
theorem atI_get {α : Type} {xs : List α} {i : Int} {v : α} (h : atI xs i = some v) : ∃ j, seqIndex? i xs.length = some j ∧ xs[j]? = some v ∧ j < xs.length ∧ -(xs.length : Int) ≤ i ∧ i < xs.length := by
  unfold atI at h
  cases e : ixN xs.length i with
  | none => rw [e] at h; cases h
  | some j =>
    rw [e] at h
    obtain ⟨h1, h2, h3, h4⟩ := ixN_seq e
    exact ⟨j, h1, h, h2, h3, h4⟩
theorem atI_nat {α : Type} {xs : List α} {j : Nat} {v : α} (h : xs[j]? = some v) : atI xs (j : Int) = some v := by
  have hj : j < xs.length := (List.getElem?_eq_some_iff.mp h).1
  have e : ixN xs.length (j : Int) = some j := by
    unfold ixN
    rw [if_pos (by omega), if_pos (by omega)]; simp
  unfold atI; rw [e]; exact h
theorem atI_last {α : Type} (xs : List α) (v : α) : atI (xs ++ [v]) (-1) = some v := by
  have hl : (xs ++ [v]).length = xs.length + 1 := by simp
  have e : ixN (xs ++ [v]).length (-1) = some xs.length := by
    unfold ixN
    rw [hl, if_neg (by decide), if_pos (by omega)]
    congr 1
    omega
  unfold atI
  rw [e]
  show (xs ++ [v])[xs.length]? = some v
  simp
def PlainIx (b : Expr) : Prop := ∀ o i, subscripted b false o i = operate [o, i] (getItem o i)
def IxR (X : Cx) (r : R2) : Prop :=
  ∀ (value slice : Expr) (pins : List (Addr × Obj)) (s : Shared) (σ : St) (H : Hp) (x y : V) (v u : Value) (Q : VK), Inv X pins σ H s → RelV x v → RelV y u → r x y H Q →
    subscripted slice false v u = operate [v, u] (getItem v u) → wpAny (model X.prog X.w) X.A (subscriptTail value slice v u) (EP X pins σ Q) X.xe s
def MtR (X : Cx) (id : String) (r : V → List V → Hp → VK → Prop) : Prop :=
  ∀ (pins : List (Addr × Obj)) (s : Shared) (σ : St) (H : Hp) (x : V) (xs : List V) (v : Value) (us : List Value) (Q : VK), Inv X pins σ H s → RelV x v → Vals xs us → r x xs H Q →
    wpAny (model X.prog X.w) X.A (call (.builtin id) (v :: us)) (EP X pins σ Q) X.xe s
section
variable {X : Cx} {a b : Expr} {ta tb : TE} {pos : Pos}
theorem IxR.or {r r' : R2} (h : IxR X r) (h' : IxR X r') : IxR X (fun x y H Q => r x y H Q ∨ r' x y H Q) := by
  intro value slice pins s σ H x y v u Q I rx ry q hs
  rcases q with q | q
  · exact h value slice pins s σ H x y v u Q I rx ry q hs
  · exact h' value slice pins s σ H x y v u Q I rx ry q hs
theorem MtR.or {id : String} {r r' : V → List V → Hp → VK → Prop} (h : MtR X id r) (h' : MtR X id r') : MtR X id (fun x xs H Q => r x xs H Q ∨ r' x xs H Q) := by
  intro pins s σ H x xs v us Q I rx rs q
  rcases q with q | q
  · exact h pins s σ H x xs v us Q I rx rs q
  · exact h' pins s σ H x xs v us Q I rx rs q
theorem pe_ix {r : R2} (hr : IxR X r) (ha : PE X a ta) (hb : PE X b tb) (hs : PlainIx b) : PE X (.Subscript a b pos) (tOp r ta tb) := by
  intro pins s σ H Q I h
  exact Subscript_ (binT ha hb I h fun v u s2 x y H2 I2 rx ry q => hr a b pins s2 σ H2 x y v u Q I2 rx ry q (hs _ _))
def rIxL (K : PySem.W.Frag) : R2 := fun x y H Q => ∃ p xs i v, x = .ref p ∧ y = .int i ∧ SqL K H p xs ∧ atI xs i = some v ∧ Q v H
def rIxT (K : PySem.W.Frag) : R2 := fun x y H Q => ∃ p xs i v, x = .ref p ∧ y = .int i ∧ SqT K H p xs ∧ atI xs i = some v ∧ Q v H
def rIxS : R2 := fun x y H Q => ∃ z i c, x = .str z ∧ y = .int i ∧ z.length ≤ sizeLine ∧ atI z.cps.toList i = some c ∧ Q (.str ⟨#[c]⟩) H
theorem ix_list : IxR X (rIxL X.K) := by
  intro value slice pins s σ H x y v u Q I rx ry h hs
  obtain ⟨p, xs, i, z, rfl, rfl, hq, he, q⟩ := h
  cases rx
  obtain ⟨t, rfl⟩ := ry
  obtain ⟨its, r, pl, hz⟩ := I.list hq
  obtain ⟨j, h1, h2, h3, h4, h5⟩ := atI_get he
  obtain ⟨w, ew, rw'⟩ := r.get h2
  have hl := r.length
  have hn := line63
  have fin : EP X pins σ Q w s := ⟨z, H, I, rw', q⟩
  by_cases h0 : 0 ≤ i
  · have hj : i.toNat = j := by
      rw [seqIndex_of h0 h5] at h1
      exact Option.some.inj h1
    exact item_listR pl.isList h0 (by omega) (by rw [hj]; simpa using ew) fin hs
  · have hj : (i + (its.toArray.size : Int)).toNat = j := by
      rw [seqIndex_neg (by omega) h4] at h1
      rw [List.size_toArray, ← hl]
      exact Option.some.inj h1
    exact subscriptTail_builtinR (x := w) pl.isList.typeIs slot_list_getitem.lookup
      (wpAny_getItem_list_neg (Q := fun r s' => r = w ∧ EP X pins σ Q r s') pl.isList (by omega) (by rw [List.size_toArray] <;> omega) (by omega) (by rw [hj]; simpa using ew) ⟨rfl, fin⟩) hs
theorem ix_tup : IxR X (rIxT X.K) := by
  intro value slice pins s σ H x y v u Q I rx ry h hs
  obtain ⟨p, xs, i, z, rfl, rfl, hq, he, q⟩ := h
  cases rx
  obtain ⟨t, rfl⟩ := ry
  obtain ⟨its, r, pl, hz⟩ := I.tuple hq
  obtain ⟨j, h1, h2, h3, h4, h5⟩ := atI_get he
  obtain ⟨w, ew, rw'⟩ := r.get h2
  have hl := r.length
  have hn := line63
  have fin : EP X pins σ Q w s := ⟨z, H, I, rw', q⟩
  exact subscriptTail_builtinR (x := w) pl.typeIs slot_tuple_getitem.lookup
    (getItem_tuple (j := j) (Q := fun r s' => r = w ∧ EP X pins σ Q r s') pl (by omega) (by omega) (by rw [List.size_toArray, ← hl]; exact h1) (by simpa using ew) ⟨rfl, fin⟩) hs
theorem ix_str : IxR X rIxS := by
  intro value slice pins s σ H x y v u Q I rx ry h hs
  obtain ⟨z, i, c, rfl, rfl, hz, he, q⟩ := h
  obtain ⟨t, rfl⟩ := rx
  obtain ⟨t', rfl⟩ := ry
  obtain ⟨j, h1, h2, h3, h4, h5⟩ := atI_get he
  have hl : z.cps.toList.length = z.length := by simp [Str.length]
  rw [hl] at h1 h4 h5
  have hn := line63
  exact tail_any (typeIs_str s z t) slot_str_getitem.lookup (getItem_str (c := c) (by
    have e1 : decide (i < -(2 ^ 63 : Int)) = false := decide_eq_false (by omega)
    have e2 : decide (i ≥ 2 ^ 63) = false := decide_eq_false (by omega)
    rw [e1, e2, Bool.or_false]) (by rw [h1]; simpa using h2) ⟨.str ⟨#[c]⟩, H, I.tok _, ⟨_, rfl⟩, q⟩) hs
theorem mapSeq_set (its : List Value) (n j : Nat) (u : Value) : Obj.mapSeq (·.setIfInBounds j u) { cls := .type "list", data := .seq its.toArray n } = { cls := .type "list", data := .seq (its.set j u).toArray n } := by
  simp [Obj.mapSeq]
theorem Inv.lst {pins : List (Addr × Obj)} {σ : St} {H : Hp} {s : Shared} {p : Addr} {xs : List V} (I : Inv X pins σ H s) (h : H p = some (.lst xs)) :
    ∃ (its : List Value) (n : Nat), Vals xs its ∧ s.heap.get? p = some { cls := .type "list", data := .seq its.toArray n } ∧ xs.length ≤ sizeLine := by
  obtain ⟨z, its, n, r, e⟩ := I.hok p _ h
  exact ⟨its, n, r, e, z⟩
theorem Inv.lstUpd {pins : List (Addr × Obj)} {σ : St} {H : Hp} {s : Shared} {p : Addr} {xs ys : List V} {its its' : List Value} {n n' : Nat} {f : Obj → Obj} (I : Inv X pins σ H s) (h : H p = some (.lst xs))
    (ho : s.heap.get? p = some { cls := .type "list", data := .seq its.toArray n }) (hf : f { cls := .type "list", data := .seq its.toArray n } = { cls := .type "list", data := .seq its'.toArray n' }) (r : Vals ys its') (hz : ys.length ≤ sizeLine) (t : Nat) :
    Inv X pins σ (upd H p (.lst ys)) { s with heap := s.heap.update p f, toks := t } := by
  have e : (s.heap.update p f).get? p = some { cls := .type "list", data := .seq its'.toArray n' } := by
    rw [Heap.get?_update_self f ho (by rw [hf] <;> rfl), hf]
  refine I.write (x := p) (e := p) (by rw [h]; trivial) (.inl rfl) (fun b u hb q => (Heap.get?_update_other _ _ (Ne.symm hb)).trans q) ⟨_, e⟩ ?_
  exact ⟨hz, its', n', r, e⟩
def rSetL : V → V → V → Hp → (Hp → Prop) → Prop := fun o i v H Q => ∃ p xs k j, o = .ref p ∧ i = .int k ∧ H p = some (.lst xs) ∧ ixN xs.length k = some j ∧ Q (upd H p (.lst (xs.set j v)))
theorem set_list : PSet X rSetL := by
  intro pins s σ H o i v ov iv u Q I ro ri rv h
  obtain ⟨p, xs, k, j, rfl, rfl, hp, hj, q⟩ := h
  cases ro
  obtain ⟨t, rfl⟩ := ri
  obtain ⟨its, n, r, ho, hz⟩ := I.lst hp
  obtain ⟨h1, h2, h3, h4⟩ := ixN_seq hj
  have hl := r.length
  have hn := line63
  have I' : Inv X pins σ (upd H p (.lst (xs.set j v))) { s with heap := s.heap.update p (Obj.mapSeq (·.setIfInBounds j u)) } :=
    I.lstUpd hp ho (mapSeq_set its n j u) (r.set rv j) (by rw [List.length_set]; exact hz) s.toks
  by_cases h0 : 0 ≤ k
  · have hk : k.toNat = j := by
      rw [seqIndex_of h0 h4] at h1
      exact Option.some.inj h1
    exact PySem.W.ki_setAt ho h0 (by omega) (by rw [List.size_toArray, ← hl]; exact h4) (by rw [hk]; exact ⟨_, I', q⟩)
  · have hk : (k + (its.toArray.size : Int)).toNat = j := by
      rw [seqIndex_neg (by omega) h3] at h1
      rw [List.size_toArray, ← hl]
      exact Option.some.inj h1
    exact PySem.W.ki_setBack ho (by omega) (by rw [List.size_toArray, ← hl]; exact h3) (by omega) (by rw [hk]; exact ⟨_, I', q⟩)
theorem slice_bounds (lo hi : Option Int) (n : Nat) : (sliceBounds lo hi none n).1 = ((HT.sIx n 0 lo : Nat) : Int) ∧ (sliceBounds lo hi none n).2.1 = ((HT.sIx n n hi : Nat) : Int) ∧ (sliceBounds lo hi none n).2.2 = 1 := by
  refine ⟨?_, ?_, rfl⟩
  · cases lo with
    | none => simp [sliceBounds, HT.sIx]
    | some i =>
      simp only [sliceBounds, HT.sIx, Option.getD_none, show (1 : Int) > 0 by decide, if_true]
      by_cases h : i < 0
      · simp only [h, if_true] <;> omega
      · simp only [h, if_false] <;> omega
  · cases hi with
    | none => simp [sliceBounds, HT.sIx]
    | some i =>
      simp only [sliceBounds, HT.sIx, Option.getD_none, show (1 : Int) > 0 by decide, if_true]
      by_cases h : i < 0
      · simp only [h, if_true] <;> omega
      · simp only [h, if_false] <;> omega
theorem slicePick_cut (its : List Value) (lo hi : Option Int) : slicePick its.toArray lo hi none = ((its.drop (HT.sIx its.length 0 lo)).take (HT.sIx its.length its.length hi - HT.sIx its.length 0 lo)).toArray := by
  obtain ⟨h1, h2, h3⟩ := slice_bounds lo hi its.toArray.size
  unfold slicePick
  rw [h1, h2, h3]
  simp only [sliceRange_one, pick_run, List.size_toArray] <;> rfl
def rSlL (K : PySem.W.Frag) : V → Option Int → Option Int → Hp → VK → Prop := fun x lo hi H Q => ∃ a xs, x = .ref a ∧ SqL K H a xs ∧ ∀ p, H p = none → Q (.ref p) (upd H p (.lst (cutV xs lo hi)))
theorem sl_list : SlR X (rSlL X.K) := by
  intro pins s σ H x v vl vu lo hi sl Q I rx hs pl pu h
  obtain ⟨a, xs, rfl, hx, q⟩ := h
  cases rx
  obtain ⟨its, r, ht, hz⟩ := I.list hx
  have hlen := r.length
  refine ⟨"list", _, slot_list_getitem.lookup, ht.isList.typeIs, ?_⟩
  refine wpAny_getItem_list_slice ht.isList hs pl pu .none (by simp) ?_ (by rw [List.size_toArray] <;> omega)
  rw [slicePick_cut, ← hlen]
  refine ⟨.ref s.heap.objs.size, _, I.laid (t' := s.toks) (o := .lst (cutV xs lo hi)) (fun b ob q => Heap.get?_push_of_some _ q) (Nat.le_refl _) ?_, rfl, q _ (I.hok.fresh (Nat.le_refl _))⟩
  exact ⟨Nat.le_trans (cutV_length xs lo hi) hz, _, 0, (r.drop (HT.sIx xs.length 0 lo)).take (HT.sIx xs.length xs.length hi - HT.sIx xs.length 0 lo), Heap.get?_push_size _ rfl⟩
theorem call_len_seq : CallR X (.builtin "len") (fun xs H Q => ∃ p ys, xs = [.ref p] ∧ (SqL X.K H p ys ∨ SqT X.K H p ys) ∧ Q (.int ys.length) H) := by
  intro pins s σ H xs us Q I r h
  obtain ⟨p, ys, rfl, hq, q⟩ := h
  obtain ⟨u, rfl, rx⟩ := vals1 r
  cases rx
  have hn := line63
  rcases hq with hq | hq
  · obtain ⟨its, r', pl, hz⟩ := I.list hq
    have hlen := r'.length
    exact Calls.call_len_list pl.isList (by simp only [List.size_toArray] <;> omega) ⟨.int ys.length, H, I.tok _, ⟨s.toks + 1, by rw [List.size_toArray, hlen]⟩, q⟩
  · obtain ⟨its, r', pl, hz⟩ := I.tuple hq
    have hlen := r'.length
    exact len_tuple pl (by simp only [List.size_toArray] <;> omega) ⟨.int ys.length, H, I.tok _, ⟨s.toks + 1, by rw [List.size_toArray, hlen]⟩, q⟩
theorem CallR.or {f : Value} {r r' : List V → Hp → VK → Prop} (h : CallR X f r) (h' : CallR X f r') : CallR X f (fun xs H Q => r xs H Q ∨ r' xs H Q) := by
  intro pins s σ H xs us Q I rs q
  rcases q with q | q
  · exact h pins s σ H xs us Q I rs q
  · exact h' pins s σ H xs us Q I rs q
def tyV (K : PySem.W.Frag) (T : String) (x : V) (H : Hp) : Prop := match x with
  | .str _ => T = "str"
  | .int _ => T = "int"
  | .ref p => (T = "list" ∧ ∃ xs, SqL K H p xs) ∨ (T = "tuple" ∧ ∃ o, K.lookup p = some o ∧ o.cls = .type "tuple" ∧ o.dict = none) ∨
      (T = "dict" ∧ ((∃ kvs, H p = some (.dK kvs)) ∨ ∃ kvs, H p = some (.dT kvs))) ∨ (T = "set" ∧ ∃ S n, H p = some (.set S n))
  | _ => False
theorem tyV_is {pins : List (Addr × Obj)} {σ : St} {H : Hp} {s : Shared} {T : String} {x : V} {v : Value} (I : Inv X pins σ H s) (r : RelV x v) (ty : tyV X.K T x H) :
    s.TypeIs v T ∧ ∀ a, v = .ref a → ∃ ob, s.heap.get? a = some ob ∧ ob.dict = none := by
  cases x with
  | str z =>
    obtain ⟨t, rfl⟩ := r
    cases (show T = "str" from ty)
    exact ⟨typeIs_str s z t, fun _ e => nomatch e⟩
  | int i =>
    obtain ⟨t, rfl⟩ := r
    cases (show T = "int" from ty)
    exact ⟨typeIs_int s i t, fun _ e => nomatch e⟩
  | ref p =>
    cases r
    rcases ty with ⟨rfl, xs, hq⟩ | ⟨rfl, o, hk, hc, hd⟩ | ⟨rfl, hk⟩ | ⟨rfl, S, n, hk⟩
    · obtain ⟨its, _, pl, _⟩ := I.list hq
      refine ⟨pl.isList.typeIs, fun a e => ?_⟩
      cases e
      obtain ⟨o, n, e, c, hd, _⟩ := pl
      exact ⟨o, e, hd⟩
    · refine ⟨⟨o, I.kIn p o hk, hc⟩, fun a e => ?_⟩
      cases e
      exact ⟨o, I.kIn _ o hk, hd⟩
    · have z : ∃ o, s.heap.get? p = some o ∧ o.ExactDict := by
        rcases hk with ⟨kvs, hk⟩ | ⟨kvs, hk⟩
        · obtain ⟨_, _, _, _, o, _, _, e, ex, _⟩ := I.hok p _ hk
          exact ⟨o, e, ex⟩
        · obtain ⟨_, _, _, _, o, _, _, e, ex, _⟩ := I.hok p _ hk
          exact ⟨o, e, ex⟩
      obtain ⟨o, e, ex⟩ := z
      refine ⟨⟨o, e, ex.1⟩, fun a e2 => ?_⟩
      cases e2
      exact ⟨o, e, ex.2.1⟩
    · obtain ⟨o, _, _, _, e, ex, _⟩ := I.hok p _ hk
      refine ⟨⟨o, e, ex.1⟩, fun a e2 => ?_⟩
      cases e2
      exact ⟨o, e, ex.2.1⟩
  | _ => exact False.elim ty
def tBM (K : PySem.W.Frag) (T : String) (r : V → List V → Hp → VK → Prop) (to : TE) (t : TA) : TE := fun σ H Q => to σ H fun x H1 => tyV K T x H1 ∧ t σ H1 fun xs H2 => r x xs H2 Q
variable {o e : Expr} {es : List Expr} {to : TE} {t : TA} {name : Str} {apos cpos : Pos} {T id : String} {r : V → List V → Hp → VK → Prop}
theorem pe_bm (pa : PlainAttrs T) (slot : Slot T name id) (hty : typeOf (.builtin id) = pure (.type "method_descriptor")) (hm : MtR X id r) (ho : PE X o to) (ha : PA X (e :: es) t)
    (hbase : attributeBase o name X.env (eval o X.env) = eval o X.env := by rfl)
    (hfew : ((backTo cpos (starEach (e :: es) X.env)).all (fun x => !x.1) && (backToKw cpos (keywordEach [] X.env)).all (fun x => x.1.isSome)
      && decide ((e :: es).length + ([] : List Keyword).length + (if ([] : List Keyword).isEmpty then 0 else 1) < 30)) = true := by rfl)
    (hline : (apos.endLine == cpos.line) = true := by rfl) (hs : starEach (e :: es) X.env = (false, eval e X.env) :: starEach es X.env := by rfl) (hplain : (backTo cpos (starEach es X.env)).any (·.1) = false := by rfl) :
    PE X (.Call (.Attribute o name apos) (e :: es) [] cpos) (tBM X.K T r to t) := by
  intro pins s σ H Q I h
  refine wpAny_Call_method_late hbase hfew hline rfl (thn (ho pins s σ H _ I h) fun v s1 ⟨x, H1, I1, r1, ty, q1⟩ => ?_)
  obtain ⟨h1, h2⟩ := tyV_is I1 r1 ty
  refine ⟨T, id, pa, slot, hty, h1, h2, ?_⟩
  have hA := ha cpos pins s1 σ H1 _ I1 q1
  rw [hs] at hA ⊢
  refine Calls.callWith_builtin (by show (false || (backTo cpos (starEach es X.env)).any (·.1)) = false; rw [hplain] <;> rfl) (Calls.evalArgs_plain ?_)
  exact thn hA fun us s2 ⟨vs, H2, I2, r2, q2⟩ => hm pins s2 σ H2 x vs v us Q I2 r1 r2 q2
end
end L2
namespace L2
open PySem PySem.Spec PyProof.Rows
def MtM (X : Cx) (id : String) (r : V → List V → Hp → VK → Prop) : Prop :=
  ∀ (pins : List (Addr × Obj)) (s : Shared) (σ : St) (H : Hp) (x : V) (xs : List V) (v : Value) (us : List Value) (Q : VK), Inv X pins σ H s → RelV x v → Vals xs us → r x xs H Q →
    wpAny (model X.prog X.w) X.A (call (.builtin id) (v :: us)) (EP X pins σ Q) X.xe s
theorem Vals.one : ∀ {x : V} {us : List Value}, Vals [x] us → ∃ u, us = [u] ∧ RelV x u
  | _, _, .cons r .nil => ⟨_, rfl, r⟩
theorem Vals.zero : ∀ {us : List Value}, Vals [] us → us = []
  | _, .nil => rfl
theorem Vals.rep {xs : List V} {us : List Value} (h : Vals xs us) : ∀ k : Nat, Vals (List.replicate k xs).flatten (List.replicate k us).flatten
  | 0 => .nil
  | k + 1 => by
    rw [List.replicate_succ, List.replicate_succ, List.flatten_cons, List.flatten_cons]
    exact Vals.append h (Vals.rep h k)
theorem foldl_rep (its : List Value) : ∀ (k : Nat) (acc : List Value),
    List.foldl (fun x1 x2 => x1 ++ x2) acc.toArray (List.replicate k its.toArray) = (acc ++ (List.replicate k its).flatten).toArray
  | 0, acc => by simp
  | k + 1, acc => by
    have e : acc.toArray ++ its.toArray = (acc ++ its).toArray := by simp
    have e2 : (acc ++ its) ++ (List.replicate k its).flatten = acc ++ (List.replicate (k + 1) its).flatten := by
      rw [List.replicate_succ, List.flatten_cons, List.append_assoc]
    rw [← e2, ← foldl_rep its k (acc ++ its), ← e, List.replicate_succ, List.foldl_cons]
section
variable {X : Cx} {pins : List (Addr × Obj)} {σ : St} {H : Hp} {s : Shared} {l b : Addr} {xs ys zs : List V}
theorem Inv.lset {its its' : List Value} {n : Nat} {f : Array Value → Array Value} {t' : Nat} (I : Inv X pins σ H s) (hH : H l = some (.lst xs))
    (e : s.heap.get? l = some { cls := .type "list", data := .seq its.toArray n }) (hf : f its.toArray = its'.toArray) (hv : Vals ys its') (hz : ys.length ≤ sizeLine) :
    Inv X pins σ (upd H l (.lst ys)) { s with heap := s.heap.update l (Obj.mapSeq f), toks := t' } := by
  have q := PySem.IsL.update e f
  rw [hf] at q
  refine I.write (x := l) (e := l) (by rw [hH]; exact trivial) (.inl rfl) (fun b' u hb hu => (Heap.get?_update_other s.heap (Obj.mapSeq f) (Ne.symm hb)).trans hu) ⟨_, q⟩ ?_
  exact ⟨hz, its', _, hv, q⟩
theorem Inv.lnew {its : List Value} {t' : Nat} (I : Inv X pins σ H s) (hv : Vals ys its) (hz : ys.length ≤ sizeLine) :
    Inv X pins σ (upd H s.heap.objs.size (.lst ys)) { s with heap := s.heap.push { cls := .type "list", data := .seq its.toArray }, toks := t' } :=
  I.laid (fun _ _ q => Heap.get?_push_of_some _ q) (Nat.le_refl _) ⟨hz, its, 0, hv, Heap.get?_push_size _ rfl⟩
theorem Inv.fresh (I : Inv X pins σ H s) : H s.heap.objs.size = none := I.hok.fresh (Nat.le_refl _)
theorem Inv.lstM (I : Inv X pins σ H s) (hH : H l = some (.lst xs)) : xs.length ≤ sizeLine ∧ ∃ (its : List Value) (n : Nat), Vals xs its ∧ xs.length = its.length ∧ s.heap.get? l = some { cls := .type "list", data := .seq its.toArray n } := by
  obtain ⟨z, its, n, r, e⟩ := I.hok l _ hH
  exact ⟨z, its, n, r, r.length, e⟩
theorem notLongL {n : Nat} (h : n ≤ sizeLine) : Builtin.List.listTooLong n = false := by
  unfold Builtin.List.listTooLong
  exact decide_eq_false (by omega)
end
section
variable {X : Cx}
def rAppend : V → List V → Hp → VK → Prop := fun x vs H Q => ∃ l xs y, x = .ref l ∧ vs = [y] ∧ H l = some (.lst xs) ∧ xs.length < sizeLine ∧ Q .non (upd H l (.lst (xs ++ [y])))
theorem mt_append : MtM X "list.append" rAppend := by
  intro pins s σ H x vs v us Q I rx rv h
  obtain ⟨l, xs, y, rfl, rfl, hH, hz, q⟩ := h
  cases rx
  obtain ⟨u, rfl, ru⟩ := rv.one
  obtain ⟨z, its, n, r, hl, e⟩ := I.lstM hH
  refine call_meets F.slot_list_append ⟨_, e, rfl⟩ F.entry_list_append (F.args_list_append_2 _ _) (PySem.list_append l its.toArray n u (by rw [List.size_toArray]; omega)) ⟨e, ?_⟩
  refine ⟨.non, _, I.lset (its' := its ++ [u]) hH e (by simp) (r.append (.cons ru .nil)) ?_, rfl, q⟩
  rw [List.length_append, List.length_singleton]
  omega
def rExtend : V → List V → Hp → VK → Prop := fun x vs H Q => ∃ l b xs zs, x = .ref l ∧ vs = [.ref b] ∧ H l = some (.lst xs) ∧ H b = some (.lst zs) ∧ xs.length + zs.length ≤ sizeLine ∧ Q .non (upd H l (.lst (xs ++ zs)))
theorem mt_extend : MtM X "list.extend" rExtend := by
  intro pins s σ H x vs v us Q I rx rv h
  obtain ⟨l, b, xs, zs, rfl, rfl, hH, hB, hz, q⟩ := h
  cases rx
  obtain ⟨u, rfl, ru⟩ := rv.one
  cases ru
  obtain ⟨z, its, n, r, hl, e⟩ := I.lstM hH
  obtain ⟨z2, its2, n2, r2, hl2, e2⟩ := I.lstM hB
  have hsz : its.toArray.size + its2.toArray.size ≤ sizeLine := by rw [List.size_toArray, List.size_toArray]; omega
  have hlong : ¬ (!its.toArray.isEmpty && Builtin.List.listTooLong (its.toArray.size + its2.toArray.size)) = true := by
    rw [notLongL hsz, Bool.and_false]
    exact Bool.false_ne_true
  refine call_meets F.slot_list_extend ⟨_, e, rfl⟩ F.entry_list_extend (F.args_list_extend_2 _ _)
    (AutoSeq1.list_extend_list_list_0 l its.toArray n b its2.toArray n2 hlong (by rw [List.size_toArray]; omega) (by omega)) ⟨e, e2, ?_⟩
  refine ⟨.non, _, I.lset (its' := its ++ its2) hH e (by simp) (r.append r2) ?_, rfl, q⟩
  rw [List.length_append]
  omega
def rCat : R2 := fun x y H Q => ∃ l b xs zs, x = .ref l ∧ y = .ref b ∧ H l = some (.lst xs) ∧ H b = some (.lst zs) ∧ xs.length + zs.length ≤ sizeLine ∧ ∀ p, H p = none → Q (.ref p) (upd H p (.lst (xs ++ zs)))
theorem op_cat : OpR X (binaryOp .Add) rCat := by
  intro pins s σ H x y v u Q I rx ry h
  obtain ⟨l, b, xs, zs, rfl, rfl, hH, hB, hz, q⟩ := h
  cases rx
  cases ry
  obtain ⟨z, its, n, r, hl, e⟩ := I.lstM hH
  obtain ⟨z2, its2, n2, r2, hl2, e2⟩ := I.lstM hB
  refine PySem.P.add_list e e2 ?_ (by rw [List.size_toArray, List.size_toArray]; omega)
  have ea : its.toArray ++ its2.toArray = (its ++ its2).toArray := by simp
  rw [ea]
  exact ⟨.ref _, _, I.lnew (t' := s.toks) (r.append r2) (by rw [List.length_append]; omega), rfl, q _ I.fresh⟩
def rRep : R2 := fun x y H Q => ∃ l k xs, x = .ref l ∧ y = .int k ∧ H l = some (.lst xs) ∧ -(2 ^ 63) ≤ k ∧ k < 2 ^ 63 ∧ xs.length * k.toNat ≤ sizeLine ∧
  ∀ p, H p = none → Q (.ref p) (upd H p (.lst (List.replicate k.toNat xs).flatten))
theorem len_rep {α : Type} (xs : List α) (k : Nat) : (List.replicate k xs).flatten.length = k * xs.length := by
  induction k with
  | zero => simp
  | succ k ih => rw [List.replicate_succ, List.flatten_cons, List.length_append, ih, Nat.succ_mul, Nat.add_comm]
theorem op_rep : OpR X (binaryOp .Mult) rRep := by
  intro pins s σ H x y v u Q I rx ry h
  obtain ⟨l, k, xs, rfl, rfl, hH, h1, h2, hz, q⟩ := h
  cases rx
  obtain ⟨t, rfl⟩ := ry
  obtain ⟨z, its, n, r, hl, e⟩ := I.lstM hH
  have hlen : its.toArray.size * k.toNat ≤ sizeLine := by rw [List.size_toArray, ← hl]; exact hz
  have hcap : ¬ its.toArray.size * k.toNat > (2 ^ 63 - 1) / 8 := by
    have : (sizeLine : Nat) ≤ (2 ^ 63 - 1) / 8 := by decide
    omega
  have hfit : ¬ (!Builtin.List.listFitsIndex k) = true := by
    rw [fitsIndex_both h1 h2]
    exact Bool.false_ne_true
  have hlong : ¬ Builtin.List.listTooLong (its.toArray.size * k.toNat) = true := by
    rw [notLongL hlen]
    exact Bool.false_ne_true
  have hnew : List.foldl (fun x1 x2 => x1 ++ x2) #[] (List.replicate (if its.toArray.isEmpty = true then 0 else k.toNat) its.toArray) = (List.replicate k.toNat its).flatten.toArray := by
    have f0 : ∀ m : Nat, List.foldl (fun x1 x2 => x1 ++ x2) #[] (List.replicate m its.toArray) = (List.replicate m its).flatten.toArray := fun m => by
      have := foldl_rep its m []
      rw [List.nil_append] at this
      exact this
    rw [f0]
    cases its with
    | nil => simp
    | cons a r' => rw [if_neg (by simp)]
  refine wpAny_binaryOp_repeat_ref (T := "list") (U := "int") (by decide) ⟨_, e, rfl⟩ (fun s' => typeIs_int s' k t) noFill_list_mul F.fills_int_mul F.slot_int_rmul repeat_list F.slot_int_index.lookup
    (call_meets F.slot_int_rmul (typeIs_int s k t) F.entry_int_rmul (F.args_int_rmul_2 _ _) (int___rmul___int_list k t l its.toArray n)
      ⟨e, rfl, ⟨_, e, rfl⟩, call_meets F.slot_list_mul ⟨_, e, rfl⟩ F.entry_list_mul (F.args_list_mul_2 _ _) (AutoListH.list___mul___list_int_3 l its.toArray n k t hfit hcap hlong) ⟨e, ?_⟩⟩)
  rw [hnew]
  exact ⟨.ref _, _, I.lnew (t' := s.toks) (r.rep k.toNat) (by rw [len_rep, Nat.mul_comm]; exact hz), rfl, q _ I.fresh⟩
end
section
variable {prog : Program} {w : World} {A : Around} {E : Value → Shared → Prop} {s : Shared}
set_option maxRecDepth 100000 in
end
section
variable {X : Cx}
end
end L2
namespace Att
open PySem PySem.W PySem.Calls PyProof.Rows
theorem ints_of_wellAll {P : Params} {h : Heap} : ∀ (ns : List Int) (vs : List Value), WellAll P h vs (ns.map WData.int) → IntsAre vs ns := by
  intro ns
  induction ns with
  | nil =>
    intro vs w
    rw [List.map_nil] at w
    cases w
    exact .nil
  | cons n ns ih =>
    intro vs w
    rw [List.map_cons] at w
    cases w with
    | cons a b =>
      cases a
      exact .cons _ _ (ih _ b)
theorem script_of {l : OpenLaw} {n : Nat} (hn : l.most = some n) {P : Params} {h : Heap} {args : List WData} {vals : List Value}
    (hpre : l.row.toRowW.claim.pre args = true) (hwl : WellAll P h vals args) :
    ∃ a vs ns, vals = [Value.ref a] ∧ args = [WData.list (ns.map WData.int)] ∧ h.get? a = some { cls := .type "list", data := .seq vs.toArray } ∧ IntsAre vs ns ∧ ns.length ≤ n := by
  have hsh : WShape.hasAll [] args [.list .int] = true := (pre_splitW hpre).1
  have hc : l.pre.holds [] { args := args } = true := (pre_splitW hpre).2
  obtain ⟨d, r, rfl, h1, h2⟩ := hasAllW_cons hsh
  obtain rfl := hasAllW_nil h2
  obtain ⟨xs, rfl, h3⟩ := hasW_list h1
  obtain ⟨ns, rfl⟩ := items_int h3
  have hlen : ns.length ≤ n := by
    unfold OpenLaw.pre at hc
    have h4 : (WTm.not (.lt (.lit (.int (n : Int))) (.len (.arg 0)))).holds [] { args := [.list (ns.map .int)] } = true := by
      have h4 := (holds_andW hc).1
      rw [hn] at h4
      exact h4
    have h5 := condW_of h4 (w_not (w_lt w_lit (w_len_list (w_arg rfl))))
    rw [List.length_map] at h5
    refine Nat.le_of_not_lt fun q => ?_
    have q' : (n : Int) < ((ns.length : Nat) : Int) := by omega
    first
      | (rw [decide_eq_true q'] at h5; exact absurd h5 (by decide))
      | (simp at h5; omega)
  cases hwl with
  | cons w1 w2 =>
    cases w2
    cases w1 with
    | list ho hall => exact ⟨_, _, ns, rfl, rfl, ho, ints_of_wellAll ns _ hall, hlen⟩
theorem post_true (l : OpenLaw) (args : List WData) : l.row.toRowW.claim.post args (.bool true) args = true :=
  postW_of (r := l.row.toRowW) (X := (true == true))
    (show WShape.has [] (.bool true) .bool = true by first | rfl | decide | simp [WShape.has, WShape.arms, WShape.armsAll])
    (show (WTm.eq .res (.lit (.bool true))).value [] { args := args, res := some (.bool true), after := args } = some (.bool (true == true)) from w_eq_bool (w_res rfl) w_lit) rfl
theorem attach_call {l : OpenLaw} {n : Nat} {q : Program} {loose : List Str} {XP : (Str → Option Value) → Heap → Prop} {YP : World → Heap → Prop} {d : DefRec}
    (hn : l.most = some n) (hdf : d.params.defaults = [])
    (call : ∀ (w : World) (s₀ s₁ : Shared) (mg mb : Str → Option Value) (fa : Addr) (o : Obj) (pm cd doc : Value) (a : Addr) (vs : List Value) (ns : List Int),
      Ground q loose [] XP w s₀ mg mb s₁.heap → YP w s₁.heap →
      s₁.heap.get? fa = some o → o.data = .func (docDef d.name d.params d.body d.scope pm cd doc) → s₁.heap.CodeRec cd d.name → mg d.name = some (.ref fa) →
      s₁.heap.get? a = some { cls := .type "list", data := .seq vs.toArray } → IntsAre vs ns → ns.length ≤ n → s₁.gens = #[] →
      codeAny (model l.prog w) callerA (.call (.ref fa) ⟨[.ref a], []⟩) (fun r s' => r = .ok (.ret (.bool true)) ∧ OldK s₁.heap s'.heap ∧ s'.os = s₁.os ∧ AllBare s'.gens) s₁) :
    WalkO q loose XP YP l.row.toRowW d [] (fun f vs => PySem.call f vs) := by
  intro w s₀ s₁ mg mb G Y fa o pm cd doc dV kV ho hd hcd hD hmg hg args vals as hpre hlay hrd hwl hlo
  obtain rfl : dV = .none := Dflts.none hD hdf
  obtain rfl : kV = .none := Dflts.noKw hD
  obtain ⟨a, vs, ns, rfl, rfl, hobj, hints, hlen⟩ := script_of hn hpre hwl
  refine enter_call (codeAny_mono (call w s₀ s₁ mg mb fa o pm cd doc a vs ns G Y ho (fd_plain hd) hcd hmg hobj hints hlen hg) fun r s' hq => ?_)
  obtain ⟨rfl, h2, h3, h4⟩ := hq
  exact ⟨.inl ⟨.bool true, .bool true, [], rfl, fun _ => rfl, .bool true, post_true l _, fun _ => ⟨List.Pairwise.nil, fun _ hm => (nomatch hm)⟩⟩, h2, h3, h4⟩
section
variable {prog : Program} {w : World} {A : Around} {E : Value → Shared → Prop} {s : Shared} {K : Frag}
end
end Att
namespace L2
open PySem PySem.Spec PyProof.Rows
theorem vals_ints : ∀ {vs : List Value} {ns : List Int}, IntsAre vs ns → Vals (ns.map V.int) vs
  | _, _, .nil => .nil
  | _, _, .cons n t h => .cons ⟨t, rfl⟩ (vals_ints h)
def Only (H : Hp) : Prop := ∀ b, H b = none ∨ ∃ o xs, H b = some (.frz o (.lst xs))
theorem law_call {P : Program} {w : World} {K : PySem.W.Frag} {mg mb : Str → Option Value} {CX : CXT} {k : Nat} {fa a : Addr} {fd : FuncData} {x : Str} {sp : Sp} {s₁ : Shared} {vs : List Value} {ns : List Int}
    (KX : K.In s₁.heap) (hns : s₁.heap.Ns mainGlobals mg) (hb : s₁.heap.Ns builtinsNs mb) (hbb : ∀ x : Str, x ≠ "__name__" → mb x = bootBuiltins x) (hlim : s₁.heap.NoLimit) (hg : s₁.gens = #[])
    (ha : s₁.heap.get? a = some { cls := .type "list", data := .seq vs.toArray }) (hi : IntsAre vs ns) (hl : ns.length ≤ sizeLine) (hr : Room k callerA)
    (F : ∀ base : Heap, K.In base → base.Ns mainGlobals mg → FnOk P w K mg base CX k fa fd [x] sp) (hbind : ∀ (s : Shared) (u : Value), BindsTo s fd ⟨[u], []⟩ [(x, u)])
    (hsp : ∀ H : Hp, Only H → SqL K H a (ns.map V.int) → sp [.ref a] H (fun v _ => v = .bl true) fun _ _ _ => False)
    (hCX : ∀ H e s', CX [] H s₁ (fun _ _ _ => False) e s' → False) :
    codeAny (model P w) callerA (.call (.ref fa) ⟨[.ref a], []⟩) (fun r s' => r = .ok (.ret (.bool true)) ∧ OldK s₁.heap s'.heap ∧ s'.os = s₁.os ∧ AllBare s'.gens) s₁ := by
  have rv := vals_ints hi
  have lenV := hi.length
  have core : ∀ H : Hp, Only H → SqL K H a (ns.map V.int) → HOk P w H s₁.heap → (∀ b, H b ≠ none → b = a) → (H a ≠ none → K.lookup a = none) →
      codeAny (model P w) callerA (.call (.ref fa) ⟨[.ref a], []⟩) (fun r s' => r = .ok (.ret (.bool true)) ∧ OldK s₁.heap s'.heap ∧ s'.os = s₁.os ∧ AllBare s'.gens) s₁ := by
    intro H hO hS hok hA hK
    have base_of : ∀ {b : Addr} {o : Obj}, s₁.heap.get? b = some o → H b = none → (hidT s₁.heap H).get? b = some o := fun e n => hidT_get e n
    have noA : ∀ {b : Addr} {o : Obj} {es : Array DictEntry} {ep : Nat}, s₁.heap.get? b = some o → o.data = .dict es ep → H b = none := fun {b o es ep} e d => by
      cases q : H b with
      | none => rfl
      | some u =>
        have e' : b = a := hA b (by rw [q]; simp)
        subst e'
        rw [ha] at e; cases e
        have d' : Data.seq vs.toArray _ = Data.dict es ep := d
        cases d'
    have nsK : ∀ {b : Addr} {m : Str → Option Value}, s₁.heap.Ns b m → (hidT s₁.heap H).Ns b m := fun {b m} ⟨o, es, ep, e, d, r⟩ => ⟨o, es, ep, base_of e (noA e d), d, r⟩
    have hKb : K.In (hidT s₁.heap H) := fun b o e => base_of (KX b o e) (by
      cases q : H b with
      | none => rfl
      | some u =>
        have e' : b = a := hA b (by rw [q]; simp)
        subst e'
        rw [hK (by rw [q]; simp)] at e; cases e)
    have hM : Mod K mg (hidT s₁.heap H) := ⟨hKb, nsK hns, ⟨mb, nsK hb, hbb⟩, let ⟨mc, h1, h2⟩ := hlim; ⟨mc, nsK h1, h2⟩⟩
    have e0 : Env0 P w K mg (hidT s₁.heap H) callerA [] s₁ H := ⟨rfl, hM, fun b o e => of_hidT e, Nat.le_of_eq (hidT_size _ _), trivial, fun b hb => absurd (show b ∈ ([] : List Addr) from hb) (by simp), hok, .of_eq hg⟩
    refine codeAny_mono ((F _ hKb (nsK hns)).run callerA [] s₁ H ⟨[.ref a], []⟩ [.ref a] [.ref a] _ _ hr e0 (hbind s₁ (.ref a)) (.cons rfl .nil) (hsp H hO hS)) fun r s' h => ?_
    cases r with
    | error e => exact (hCX H e s' h).elim
    | ok fl =>
      cases fl with
      | next => exact False.elim h
      | brk => exact False.elim h
      | cont => exact False.elim h
      | ret u =>
        obtain ⟨v, H', os, bare, un, hok', r', q⟩ := h
        have q' : v = .bl true := q
        subst q'
        obtain rfl : u = Value.bool true := r'
        refine ⟨rfl, OldK.of_keep fun b o e => ?_, os, bare⟩
        cases q : H b with
        | none => exact un.keep b o e q (by intro z; exact absurd (show b ∈ ([] : List Addr) from z) (by simp)) (by simp)
        | some u =>
          rcases hO b with z | ⟨ob, xs, z⟩
          · rw [q] at z; cases z
          · have z2 := un.frzs b ob _ z
            obtain ⟨e1, _⟩ := hok b _ z
            obtain ⟨e2, _⟩ := hok' b _ z2
            rw [e] at e1; cases e1
            exact e2
  cases hk : K.lookup a with
  | some o =>
    have e := KX a o hk
    rw [ha] at e
    cases e
    refine core (fun _ => none) (fun _ => .inl rfl) (.inr ⟨_, vs.toArray, _, hk, rfl, rfl, rfl, by rw [List.size_toArray, lenV]; exact hl, by simpa using rv⟩) (fun b u z => by have z' : (none : Option HO) = some u := z; cases z') (fun b z => absurd rfl z) fun z => absurd rfl z
  | none =>
    refine core (fun b => if b = a then some (.frz { cls := .type "list", data := .seq vs.toArray } (.lst (ns.map V.int))) else none) (fun b => ?_) (.inl (.inr ⟨{ cls := .type "list", data := .seq vs.toArray }, if_pos rfl⟩)) (fun b u z => ?_) (fun b z => ?_) fun _ => hk
    · by_cases hb : b = a
      · exact .inr ⟨_, _, if_pos hb⟩
      · exact .inl (if_neg hb)
    · by_cases hb : b = a
      · have z' := (if_pos hb).symm.trans z
        cases z'
        subst hb
        exact ⟨ha, by rw [List.length_map]; exact hl, vs, _, rv, ha⟩
      · have z' := (if_neg hb).symm.trans z
        cases z'
    · by_cases hb : b = a
      · exact hb
      · exact absurd (if_neg hb) z
end L2
namespace L2
open PySem PySem.Spec PyProof.Rows
abbrev KOf {K : PySem.W.Frag} {h : Heap} (_ : K.In h) : PySem.W.Frag := K
theorem walk_of {l : PySem.W.OpenLaw} {n k : Nat} {q : Program} {loose : List Str} {XP : (Str → Option Value) → Heap → Prop} {YP : World → Heap → Prop} {d : DefRec} {K : Params → PySem.W.Frag} {CX : World → CXT} {sp : World → Sp} {x : Str}
    (hn : l.most = some n) (hn2 : n ≤ sizeLine) (hdf : d.params.defaults = []) (hr : Room k callerA)
    (hY : ∀ (w : World) (h : Heap), YP w h → (K w.params).In h)
    (F : ∀ (w : World) (mg : Str → Option Value) (fa : Addr) (h : Heap), (K w.params).In h → h.Ns mainGlobals mg → mg d.name = some (.ref fa) →
      ∃ fd : FuncData, (∀ (s : Shared) (u : Value), BindsTo s fd ⟨[u], []⟩ [(x, u)]) ∧
        ∀ base : Heap, (K w.params).In base → base.Ns mainGlobals mg → FnOk l.prog w (K w.params) mg base (CX w) k fa fd [x] (sp w))
    (hsp : ∀ (w : World) (H : Hp) (a : Addr) (ns : List Int), ns.length ≤ n → Only H → SqL (K w.params) H a (ns.map V.int) → sp w [.ref a] H (fun v _ => v = .bl true) fun _ _ _ => False)
    (hCX : ∀ (w : World) (H : Hp) (s : Shared) (e : Value) (s' : Shared), CX w [] H s (fun _ _ _ => False) e s' → False) :
    PySem.W.WalkO q loose XP YP l.row.toRowW d [] (fun f vs => PySem.call f vs) := by
  refine Att.attach_call hn hdf fun w s₀ s₁ mg mb fa o pm cd doc a vs ns G Y ho hd hcd hmg hobj hints hlen hg => ?_
  have KX := hY w _ Y
  obtain ⟨fd, hb, hF⟩ := F w mg fa _ KX G.T.g hmg
  exact law_call KX G.T.g G.T.b G.T.builtins G.T.nolimit hg hobj hints (Nat.le_trans hlen hn2) hr hF hb (fun H hO hS => hsp w H a ns hlen hO hS) fun H e s' => hCX w H s₁ e s'
theorem walk_ofK {l : PySem.W.OpenLaw} {n k : Nat} {q : Program} {loose : List Str} {XP : (Str → Option Value) → Heap → Prop} {YP : World → Heap → Prop} {d : DefRec} {K : Params → PySem.W.Frag} {CX : CXT} {sp : PySem.W.Frag → Sp} {x : Str}
    (hn : l.most = some n) (hn2 : n ≤ sizeLine) (hdf : d.params.defaults = []) (hr : Room k callerA)
    (hY : ∀ (w : World) (h : Heap), YP w h → (K w.params).In h)
    (F : ∀ (w : World) (mg : Str → Option Value) (fa : Addr) (h : Heap), (K w.params).In h → h.Ns mainGlobals mg → mg d.name = some (.ref fa) →
      ∃ fd : FuncData, (∀ (s : Shared) (u : Value), BindsTo s fd ⟨[u], []⟩ [(x, u)]) ∧
        ∀ base : Heap, (K w.params).In base → base.Ns mainGlobals mg → FnOk l.prog w (K w.params) mg base CX k fa fd [x] (sp (K w.params)))
    (hsp : ∀ (K : PySem.W.Frag) (H : Hp) (a : Addr) (ns : List Int), ns.length ≤ n → Only H → SqL K H a (ns.map V.int) → sp K [.ref a] H (fun v _ => v = .bl true) fun _ _ _ => False)
    (hCX : ∀ (H : Hp) (s : Shared) (e : Value) (s' : Shared), CX [] H s (fun _ _ _ => False) e s' → False) :
    PySem.W.WalkO q loose XP YP l.row.toRowW d [] (fun f vs => PySem.call f vs) :=
  walk_of (K := K) (CX := fun _ => CX) (sp := fun w => sp (K w.params)) hn hn2 hdf hr hY F (fun w H a ns h1 h2 h3 => hsp (K w.params) H a ns h1 h2 h3) fun _ H s e s' => hCX H s e s'
end L2
namespace L2
open PySem PySem.Spec PyProof.Rows
def inClass (s : Stmt) (j : Nat) : Stmt := match s with
  | .ClassDef _ _ _ body _ _ _ _ _ _ _ => body.getD j (.Pass ⟨0, 0, 0, 0⟩)
  | _ => .Pass ⟨0, 0, 0, 0⟩
def defArgs (s : Stmt) : Arguments := match s with
  | .FunctionDef _ a _ _ _ _ _ _ _ _ => a
  | _ => { posonlyargs := [], args := [], vararg := none, kwonlyargs := [], kw_defaults := [], kwarg := none, defaults := [] }
def defBody (s : Stmt) : List Stmt := match s with
  | .FunctionDef _ _ b _ _ _ _ _ _ _ => b
  | _ => []
def defScope (s : Stmt) : Scope := match s with
  | .FunctionDef _ _ _ _ _ _ sc _ _ _ => sc
  | _ => { kind := .function, names := [], isGenerator := false, isCoroutine := false }
abbrev CX0 : CXT := fun _ _ _ _ _ _ => False
abbrev E0 : XK := fun _ _ _ => False
theorem pass0 {X : Cx} : Passes CX0 X E0 := fun _ _ _ _ _ _ _ h => h.elim
structure Fun (K : PySem.W.Frag) (x qual : Str) (st : Stmt) (f : Addr) (fd : FuncData) : Prop where
  ex : ∃ (oc : Value) (od : Option Addr) (kV doc pm : Value) (an : Option Addr) (cdv ct : Value) (osl : Array (Option Value)),
    fd = PySem.W.fnOf x qual (defArgs st) (defBody st) (defScope st) .none kV doc pm an cdv ct ∧ K.lookup f = some ⟨oc, od, .func fd, osl⟩ ∧ PySem.W.codeIn K cdv qual = true
  kp : PySem.W.keepIn K (.ref f) = true
section
variable {P : Program} {w : World} {K : PySem.W.Frag} {mg : Str → Option Value} {base : Heap}
theorem Fun.ok {x qual : Str} {st : Stmt} {f : Addr} {fd : FuncData} {N ps : List Str} {k : Nat} {sp : Sp} (F : Fun K x qual st f fd) (S : FnScope N ps (defScope st)) (len : ∀ vs H Q E, sp vs H Q E → vs.length = ps.length)
    (hbody : ∀ (cdv : Value) (A : Around) (outer : List Env) (s : Shared) (H : Hp) (vs : List V) (Q : VK) (E : XK), Room k (A.deeper (envOfC qual (defScope st) s.heap.objs.size f cdv)) → sp vs H Q E →
      ∃ t, PSs (cxOf CX0 P w K mg base N qual (defScope st) f cdv A outer s H E).nox (defBody st) t ∧ t { nx := fun _ H' => Q .non H', rt := Q } (start N vs) H) : FnOk P w K mg base CX0 (k + 1) f fd ps sp := by
  obtain ⟨oc, od, kV, doc, pm, an, cdv, ct, osl, rfl, lk, hcd⟩ := F.ex
  refine fn_of lk hcd S len fun A outer s H vs Q E hr hsp => ?_
  obtain ⟨t, h, q⟩ := hbody cdv A outer s H vs Q E hr hsp
  exact ⟨t, h.nox, q⟩
theorem Fun.binds {x qual : Str} {st : Stmt} {f : Addr} {fd : FuncData} {ps : List Str} (F : Fun K x qual st f fd)
    (h : ∀ (kV doc pm : Value) (an : Option Addr) (cdv ct : Value) (us : List Value), us.length = ps.length → bindArgs (PySem.W.fnOf x qual (defArgs st) (defBody st) (defScope st) .none kV doc pm an cdv ct) ⟨us, []⟩ = pure (ps.zip us)) : Binds K fd ps [] := by
  obtain ⟨oc, od, kV, doc, pm, an, cdv, ct, osl, rfl, lk, hcd⟩ := F.ex
  exact .all (h kV doc pm an cdv ct)
theorem fun_mk {x qual : Str} {st : Stmt} {f : Addr} {oc : Value} {od an : Option Addr} {osl : Array (Option Value)} {kV doc pm cdv ct : Value} (l : K.lookup f = some ⟨oc, od, .func (PySem.W.fnOf x qual (defArgs st) (defBody st) (defScope st) .none kV doc pm an cdv ct), osl⟩)
    (c : PySem.W.codeIn K cdv qual = true) (k : PySem.W.keepIn K (.ref f) = true) : Fun K x qual st f (PySem.W.fnOf x qual (defArgs st) (defBody st) (defScope st) .none kV doc pm an cdv ct) := ⟨⟨oc, od, kV, doc, pm, an, cdv, ct, osl, rfl, l, c⟩, k⟩
end
theorem hu_of {A : Around} {k : Nat} (hr : Room k A) : A.units + 1 < cLine := Nat.lt_of_le_of_lt (Nat.add_le_add_left (by decide : 1 ≤ 64) _) hr.units
section
variable {X : Cx}
theorem pv (i : Nat) {x : Str} {pos : Pos} (hN : X.N[i]? = some x := by rfl) (hv : Vis X.env.scope x := by first | exact Or.inl rfl | exact Or.inr (Or.inl rfl) | exact Or.inr (Or.inr rfl)) (hd : (x == ("__debug__" : Str)) = false := by decide)
    (hcd : (x == ("__classdict__" : Str)) = false := by decide) : PE X (.Name x pos) (tVar i) := pe_var hN hv hd hcd
end
theorem iteF {A B : Prop} (h : B) : if false = true then A else B := by
  rw [if_neg Bool.false_ne_true]
  exact h
theorem iteT {A B : Prop} (h : A) : if true = true then A else B := by
  rw [if_pos rfl]
  exact h
theorem ite2 {c A B : Prop} [Decidable c] (h1 : c → A) (h2 : ¬ c → B) : if c then A else B := by
  by_cases h : c
  · rw [if_pos h]
    exact h1 h
  · rw [if_neg h]
    exact h2 h
def Same (H H' : Hp) : Prop := ∀ b o, H b = some o → H' b = some o
theorem Same.refl (H : Hp) : Same H H := fun _ _ h => h
theorem Same.trans {H H1 H2 : Hp} (a : Same H H1) (b : Same H1 H2) : Same H H2 := fun c o h => b c o (a c o h)
theorem Same.free {H H' : Hp} (e : Same H H') {l : Addr} (h : H' l = Option.none) : H l = Option.none := by
  cases q : H l with
  | none => rfl
  | some o =>
    rw [e l o q] at h
    cases h
theorem Same.seq {K : PySem.W.Frag} {H H' : Hp} {a : Addr} {xs : List V} (e : Same H H') (h : SqL K H a xs) : SqL K H' a xs := by
  rcases h with (h | ⟨o, h⟩) | h
  · exact .inl (.inl (e _ _ h))
  · exact .inl (.inr ⟨o, e _ _ h⟩)
  · exact .inr h
end L2
set_option maxHeartbeats 4000000
namespace L2
open PySem PySem.Spec PyProof.Rows
structure D (K : PySem.W.Frag) (mg : Str → Option Value) (x : Str) (st : Stmt) (ps : List Str) (f : Addr) (fd : FuncData) : Prop where
  fn : Fun K x x st f fd
  ba : ∀ us : List Value, us.length = ps.length → bindArgs fd ⟨us, []⟩ = pure (ps.zip us)
  mg : mg x = some (.ref f)
section
variable {X : Cx} {k j : Nat} {f : Addr} {fd : FuncData} {ps : List Str} {sp : Sp} {x : Str} {st : Stmt} {p pos : Pos} {e : Expr} {es : List Expr} {t : TA}
theorem pcall (d : D X.K X.mg x st ps f fd) (F : FnOk X.prog X.w X.K X.mg X.base CX0 j f fd ps sp) (hr : Room k X.A) (hg : Gl X x) (ha : PA X (e :: es) t) (hjk : j ≤ k := by decide) (hdb : (x == ("__debug__" : Str)) = false := by decide)
    (he : starEach (e :: es) X.env = (false, eval e X.env) :: starEach es X.env := by rfl) (hpl : (backTo pos (starEach es X.env)).any (·.1) = false := by rfl) :
    PE X (.Call (.Name x p) (e :: es) [] pos) (tCall sp [] E0 t) :=
  pe_call (F.mono hjk) hr hg d.mg d.fn.kp (.all d.ba) .nil pass0 ha hdb he hpl
end
theorem bt_len : bootBuiltins "len" = some (.builtin "len") := PySem.boot_len
theorem bt_sum : bootBuiltins "sum" = some (.builtin "sum") := by decide +kernel
section
variable {X : Cx}
end
end L2
namespace L2
open PySem PySem.Spec PyProof.Rows
theorem decV {i j : Int} : decide (V.int i = V.int j) = decide (i = j) := by
  rw [decide_eq_decide]
  exact ⟨fun h => V.int.inj h, fun h => by rw [h]⟩
theorem same_new {H : Hp} {p : Addr} (h : H p = none) (o : HO) : Same H (upd H p o) := fun b u q => by rw [upd_ne (ne_of_none q h)]; exact q
theorem same_upd {H H1 : Hp} {p : Addr} {o : HO} (s : Same H H1) (h : H p = none) : Same H (upd H1 p o) := fun b u q => by rw [upd_ne (ne_of_none q h)]; exact s b u q
theorem same_add {H H1 : Hp} {p : Addr} {o : HO} (s : Same H H1) (h : H1 p = none) : Same H (upd H1 p o) := same_upd s (s.free h)
theorem ints_at {B : Int} {zs : List Int} (h : ∀ z ∈ zs, 0 ≤ z ∧ z < B) {i : Int} (h0 : 0 ≤ i) (h1 : i < (zs.length : Int)) : ∃ z, atI (zs.map V.int) i = some (.int z) ∧ 0 ≤ z ∧ z < B := by
  have hk : i.toNat < zs.length := by omega
  have ek : i = ((i.toNat : Nat) : Int) := by omega
  refine ⟨zs[i.toNat], ?_, h _ (List.getElem_mem hk)⟩
  have q : atI (zs.map V.int) ((i.toNat : Nat) : Int) = some (.int zs[i.toNat]) := atI_nat (by rw [List.getElem?_map, List.getElem?_eq_getElem hk] <;> rfl)
  rw [← ek] at q
  exact q
theorem ints_mem {zs : List Int} {i : Int} (h0 : 0 ≤ i) (h1 : i < (zs.length : Int)) : ∃ z, z ∈ zs ∧ atI (zs.map V.int) i = some (.int z) := by
  have hk : i.toNat < zs.length := by omega
  have ek : i = ((i.toNat : Nat) : Int) := by omega
  refine ⟨zs[i.toNat], List.getElem_mem hk, ?_⟩
  have q : atI (zs.map V.int) ((i.toNat : Nat) : Int) = some (.int zs[i.toNat]) := atI_nat (by rw [List.getElem?_map, List.getElem?_eq_getElem hk] <;> rfl)
  rw [← ek] at q
  exact q
theorem atI_getD {zs : List Int} {i : Int} (h0 : 0 ≤ i) (h1 : i < (zs.length : Int)) : atI (zs.map V.int) i = some (.int (zs.getD i.toNat 0)) := by
  have hk : i.toNat < zs.length := by omega
  have ek : i = ((i.toNat : Nat) : Int) := by omega
  have q : atI (zs.map V.int) ((i.toNat : Nat) : Int) = some (.int zs[i.toNat]) := atI_nat (by rw [List.getElem?_map, List.getElem?_eq_getElem hk] <;> rfl)
  rw [← ek] at q
  rw [q, List.getD_eq_getElem?_getD, List.getElem?_eq_getElem hk] <;> rfl
theorem map_int_get {zs : List Int} {i : Nat} {y : V} (h : (zs.map V.int)[i]? = some y) : ∃ z, y = .int z ∧ zs[i]? = some z := by
  rw [List.getElem?_map] at h
  cases e : zs[i]? with
  | none => rw [e] at h; cases h
  | some z => rw [e] at h; exact ⟨z, (Option.some.inj h).symm, rfl⟩
theorem smallL {n : Nat} (h : n ≤ 100000) : n ≤ sizeLine := Nat.le_trans h (by decide)
theorem smallLt {n : Nat} (h : n ≤ 100000) : n < sizeLine := Nat.lt_of_le_of_lt h (by decide)
end L2
namespace L2
open PySem PySem.Spec PyProof.Rows
def tCut (t : TS) : TS := fun D σ H => ∃ M : St → Hp → Prop, t { D with nx := M } σ H ∧ ∀ σ' H', M σ' H' → D.nx σ' H'
theorem ps_cut {X : Cx} {st : Stmt} {t : TS} (h : PS X st t) : PS X st (tCut t) := by
  intro pins s σ H D I hw
  obtain ⟨M, h1, h2⟩ := hw
  refine thn (h pins s σ H _ I h1) fun f s1 q => ?_
  cases f with
  | next => obtain ⟨σ', H', I', m⟩ := q; exact ⟨σ', H', I', h2 σ' H' m⟩
  | ret v => exact q
  | brk => exact q
  | cont => exact q
end L2
namespace L2
open PySem PySem.Spec PyProof.Rows
section
variable {X : Cx} {pins : List (Addr × Obj)} {σ : St} {H : Hp} {s : Shared} {h' : Heap}
theorem Inv.turnLay {t' : Nat} {ch : List Addr} {l : Addr} {o : HO} (I : Inv X pins σ H s) (k : ∀ b u, b ∉ ch → s.heap.get? b = some u → h'.get? b = some u) (hf : ∀ b ∈ ch, FpOk X pins H b)
    (hp : s.heap.objs.size ≤ l) (new : ObjOk X.prog X.w (upd H l o) h' l o) : Inv X pins σ (upd H l o) { s with heap := h', toks := t' } := by
  have hn := I.hok.fresh hp
  have nch : ∀ b u, H b = some u → b ∉ ch := fun b u e z => by rw [(hf b z).1] at e; cases e
  refine I.step (g' := s.gens) (d' := s.drawn) (ch := ch) (fun b hb => ?_) (fun b u _ _ hc e _ => k b u hc e) (fun b u _ _ hc e _ => ⟨u.slots, k b u hc e⟩)
    (fun b u _ e n => ?_) (fun b u hc e => ⟨u, k b u hc e⟩) (fun b xs e => ?_) (fun b u xs e => ?_) (fun b ps e => ⟨#[], ?_⟩) (fun m hm => ?_) (fun b u e => ?_) I.bare
  · obtain ⟨f0, f1, f2, f3, f4, f5⟩ := hf b hb
    exact ⟨f3, f1, f4, f5⟩
  · rw [upd_ne (Nat.ne_of_lt (Nat.lt_of_lt_of_le (Heap.lt_size e) hp))]
    exact n
  · rw [upd_ne (ne_of_none e hn)]
    exact e
  · rw [upd_ne (ne_of_none e hn)]
    exact e
  · rw [upd_ne (ne_of_none e hn), e]
    simp
  · obtain ⟨ob, es, ep, ho, r⟩ := hm
    exact ⟨ob, es, ep, k _ ob (fun z => (hf _ z).2.1 rfl) ho, r⟩
  · by_cases hb : b = l
    · subst hb
      rw [upd_same] at e
      cases e
      exact new
    · rw [upd_ne hb] at e
      refine (I.hok b u e).stay (fun c v hc q => k c v ?_ q) (fun c q => by rw [upd_ne (ne_of_none q hn)]; exact q) fun c xs q => by rw [upd_ne (ne_of_none q hn)]; exact q
      rcases hc with z | z
      · rw [z]; exact nch b u e
      · exact nch c _ z
end
def Ite (K : PySem.W.Frag) (a : Addr) : It :=
  ⟨fun i H => ∃ xs x, SqL K H a xs ∧ xs[i]? = some x, fun i H v H' => ∃ t x, v = .ref t ∧ H t = none ∧ (∀ xs, SqL K H a xs → xs[i]? = some x) ∧ H' = upd H t (.tup [.int i, x]), fun i H => ∃ xs, SqL K H a xs ∧ xs.length ≤ i⟩
theorem turn_enum {P : Program} {w : World} {K : PySem.W.Frag} {es : List Expr} {k1 : Nat} {tp : Pos} (a e it : Addr) (hne : e ≠ it) :
    Turn P w K (.Tuple es k1 tp) (Ite K a) [e, it] e (fun i h => (∃ old, IsEnum h e it (i : Nat) old) ∧ h.IsListIter it a i) where
  mem := by simp
  obj := fun i h st b hb => by
    obtain ⟨⟨old, e1⟩, o, e2, c, d⟩ := st
    have z : b = e ∨ b = it := by simpa using hb
    rcases z with rfl | rfl
    · refine ⟨_, e1, fun v z => ?_⟩
      have z' : Data.fields _ = Data.cell v := z
      cases z'
    · exact ⟨o, e2, fun v z => by rw [d] at z; cases z⟩
  keep := fun i h h' st k => ⟨let ⟨old, e1⟩ := st.1; ⟨old, k e (by simp) _ e1⟩, st.2.at fun o e => k it (by simp) o e⟩
  item := by
    intro X hP hw hK hc i pins s σ H E I hf st hg
    subst hP hw hK
    obtain ⟨xs, x, hq, hx⟩ := hg
    obtain ⟨its, rv, p, hz⟩ := I.list hq
    obtain ⟨u, hu, ru⟩ := rv.get hx
    obtain ⟨⟨old, he⟩, hit⟩ := st
    have heL : e < s.heap.objs.size := Heap.lt_size he
    refine wpAny_pyNext_enum_item he hit p.isList (x := u) (by simpa using hu) hne fun h1 heo hit1 ht1 hz1 hk1 => ⟨_, rfl, ?_⟩
    refine wpAny_letOwnedTupleGo_enum heo fun h2 he2 hs2 => ?_
    replace hs2 : Heap.SameBut e h1 h2 := hs2
    have ht2 : h2.get? s.heap.objs.size = some { cls := .type "tuple", data := .seq #[.int i s.toks, u] } := (hs2.2 _ (Nat.ne_of_gt heL)).trans ht1
    have kk : ∀ b o, b ∉ [e, it] → s.heap.get? b = some o → h2.get? b = some o := fun b o hb q => by
      have h1 : b ≠ e := fun z => hb (by simp [z])
      have h2 : b ≠ it := fun z => hb (by simp [z])
      exact (hs2.2 b h1).trans (hk1 b o h1 h2 q)
    have hn : H s.heap.objs.size = none := I.hok.fresh (Nat.le_refl _)
    have I2 : Inv X pins σ (upd H s.heap.objs.size (.tup [.int i, x])) { s with heap := h2, toks := s.toks + 1 } :=
      I.turnLay kk hf (Nat.le_refl _) ⟨Nat.le_of_ble_eq_true rfl, [.int i s.toks, u], .cons ⟨_, rfl⟩ (.cons ru .nil), ⟨_, ht2, rfl, 0, rfl⟩⟩
    refine ⟨.ref s.heap.objs.size, _, I2, rfl, ⟨_, x, rfl, hn, fun ys hy => by rw [I.list_inj hy hq]; exact hx, rfl⟩, ⟨⟨u, ?_⟩, hit1.extBut hs2.extBut (Ne.symm hne)⟩, fun b hb => ?_⟩
    · have e1 : ((i + 1 : Nat) : Int) = (i : Int) + 1 := by omega
      rw [e1]
      exact he2
    · rw [upd_ne]
      · exact (hf b hb).1
      · have z : b = e ∨ b = it := by simpa using hb
        obtain ⟨oi, hoi, _⟩ := hit
        rcases z with rfl | rfl
        · exact Nat.ne_of_lt heL
        · exact Nat.ne_of_lt (Heap.lt_size hoi)
  done := by
    intro X hP hw hK hc i pins s σ H E I hf st hg
    subst hP hw hK
    obtain ⟨xs, hq, hx⟩ := hg
    obtain ⟨its, rv, p, hz⟩ := I.list hq
    obtain ⟨f0, f1, f2, f3, f4, f5⟩ := hf it (by simp)
    obtain ⟨⟨old, he⟩, hit⟩ := st
    have hl := rv.length
    exact wpAny_pyNext_enum_end (I.ok.hd hc) he hit p.isList (by simp; omega) fun h' eb => ⟨rfl, I.turned (t' := s.toks) (fun b o hb e => eb b o hb e) f0 f1 f3 f4 f5⟩
  self := fun _ _ _ _ _ st h => let ⟨⟨_, e1⟩, _⟩ := st; wpAny_pyIter_enum e1 h
theorem bt_enumerate : bootBuiltins "enumerate" = some (.type "enumerate") := by decide +kernel
section
variable {X : Cx} {es : List Expr} {k1 : Nat} {tp : Pos}
def iEnum (K : PySem.W.Frag) (ta : TA) : TI := fun σ H R => ta σ H fun vs H1 => ∃ a, vs = [.ref a] ∧ (∃ xs, SqL K H1 a xs) ∧ R (Ite K a) H1
theorem pi_enum {a : Expr} {ta : TA} {p pos : Pos} (hg : Gl X "enumerate") (hm : X.mg "enumerate" = none) (ha : PA X [a] ta) (hs : starEach [a] X.env = (false, eval a X.env) :: starEach [] X.env := by rfl) :
    PI X (.Tuple es k1 tp) (.Call (.Name "enumerate" p) [a] [] pos) (iEnum X.K ta) := by
  intro pins s σ H R I h
  refine wpAny_Call_Name_kw (ld_blt I hg hm bt_enumerate ?_)
  refine PyProof.Rows.callWith_type1 (thn (ha pos pins s σ H _ I h) fun us s1 ⟨vs, H1, I1, r1, q1⟩ => ?_) hs (by rfl)
  obtain ⟨l, rfl, ⟨xs, hq⟩, q⟩ := q1
  obtain ⟨u, rfl, ru⟩ := vals1 r1
  cases ru
  obtain ⟨its, rv, pl, hz⟩ := I1.list hq
  refine call_enumerate_list pl.isList fun h' he hit hsz hk => ?_
  refine wpAny_pyIter_enum he ?_
  refine ⟨s1.heap.objs.size + 1, [s1.heap.objs.size + 1, s1.heap.objs.size], _, _, H1, rfl, I1.kept (t' := s1.toks) hk, turn_enum l _ s1.heap.objs.size (Nat.succ_ne_self _), ⟨⟨.none, he⟩, hit⟩, fun b hb => ?_, q⟩
  have z : b = s1.heap.objs.size + 1 ∨ b = s1.heap.objs.size := by simpa using hb
  have hge : s1.heap.objs.size ≤ b := by rcases z with rfl | rfl <;> omega
  exact I1.fpOk hge (I1.hok.fresh hge)
end
theorem for_enum {K : PySem.W.Frag} {a : Addr} {xs : List V} {g : TG} {tb : TS} {D : Ends} {σ : St} {H : Hp} (Pv : Nat → St → Hp → Prop) (h0 : Pv 0 σ H) (hl : ∀ i σ H, i ≤ xs.length → Pv i σ H → SqL K H a xs)
    (hs : ∀ i x t σ H, xs[i]? = some x → Pv i σ H → H t = none → g (.ref t) σ (upd H t (.tup [.int i, x])) fun σ2 H2 => tb { D with nx := Pv (i + 1), ct := Pv (i + 1), bk := D.nx } σ2 H2) (hd : ∀ σ H, Pv xs.length σ H → D.nx σ H) :
    ∃ W : Nat → Nat → St → Hp → Prop, (∃ m, W 0 m σ H) ∧ ∀ i m σ H, W i m σ H →
      ((Ite K a).stop i H ∧ D.nx σ H) ∨ ((Ite K a).go i H ∧ ∃ N : St → Hp → Prop, (∀ σ' H', N σ' H' → ∃ m', m' < m ∧ W (i + 1) m' σ' H') ∧ ∀ x H', (Ite K a).yld i H x H' → g x σ H' fun σ2 H2 => tb { D with nx := N, ct := N, bk := D.nx } σ2 H2) := by
  refine ⟨fun i m σ H => m = xs.length - i ∧ i ≤ xs.length ∧ Pv i σ H, ⟨xs.length, by simp, Nat.zero_le _, h0⟩, ?_⟩
  rintro i m σ H ⟨rfl, hi, p⟩
  have q := hl i σ H hi p
  by_cases hlt : i < xs.length
  · refine .inr ⟨⟨xs, xs[i], q, by simp [hlt]⟩, Pv (i + 1), fun σ' H' p' => ⟨xs.length - (i + 1), by omega, rfl, hlt, p'⟩, fun v H' y => ?_⟩
    obtain ⟨t, x, rfl, hn, hx, rfl⟩ := y
    exact hs i x t σ _ (hx xs q) p hn
  · have e : i = xs.length := by omega
    subst e
    exact .inl ⟨⟨xs, q, Nat.le_refl _⟩, hd σ H p⟩
end L2
namespace L2
open PySem PySem.Spec PyProof.Rows
mutual
inductive Den (K : PySem.W.Frag) (H : Hp) : V → PyData → Prop
  | non : Den K H .non .none
  | bl (b : Bool) : Den K H (.bl b) (.bool b)
  | int (i : Int) : Den K H (.int i) (.int i)
  | str (x : Str) : PyData.canLay0 (.str x) = true → Den K H (.str x) (.str x)
  | lst {a xs ds} : SqL K H a xs → DenL K H xs ds → Den K H (.ref a) (.list ds)
  | tup {a xs ds} : SqT K H a xs → DenL K H xs ds → Den K H (.ref a) (.tuple ds)
inductive DenL (K : PySem.W.Frag) (H : Hp) : List V → List PyData → Prop
  | nil : DenL K H [] []
  | cons {x xs d ds} : Den K H x d → DenL K H xs ds → DenL K H (x :: xs) (d :: ds)
end
section
variable {X : Cx} {pins : List (Addr × Obj)} {σ : St} {H : Hp} {s : Shared}
mutual
theorem den_reads (I : Inv X pins σ H s) : ∀ (d : PyData) (v : V) (u : Value), Den X.K H v d → RelV v u → ∃ as, Reads s.heap u d as
  | .none, v, u, h, r => by cases h; cases r; exact ⟨_, .none⟩
  | .bool b, v, u, h, r => by cases h; cases r; exact ⟨_, .bool b⟩
  | .int i, v, u, h, r => by cases h; obtain ⟨t, rfl⟩ := r; exact ⟨_, .int i t⟩
  | .str x, v, u, h, r => by cases h; obtain ⟨t, rfl⟩ := r; exact ⟨_, .str x t⟩
  | .list ds, v, u, h, r => by
    cases h with
    | lst hq hl =>
      cases r
      obtain ⟨its, rv, ⟨o, n, e, c, _, d⟩, _⟩ := I.list hq
      obtain ⟨as, q⟩ := denL_reads I ds _ _ hl rv
      exact ⟨_, .list e c d (by simpa using q)⟩
  | .tuple ds, v, u, h, r => by
    cases h with
    | tup hq hl =>
      cases r
      obtain ⟨its, rv, ⟨o, e, c, n, d⟩, _⟩ := I.tuple hq
      obtain ⟨as, q⟩ := denL_reads I ds _ _ hl rv
      exact ⟨_, .tuple e c d (by simpa using q)⟩
  | .dict _, v, u, h, r => by cases h
theorem denL_reads (I : Inv X pins σ H s) : ∀ (ds : List PyData) (xs : List V) (us : List Value), DenL X.K H xs ds → Vals xs us → ∃ as, ReadsAll s.heap us ds as
  | [], xs, us, h, r => by cases h; cases r; exact ⟨_, .nil⟩
  | d :: ds, xs, us, h, r => by
    cases h with
    | cons h1 h2 =>
      cases r with
      | cons r1 r2 =>
        obtain ⟨a1, q1⟩ := den_reads I d _ _ h1 r1
        obtain ⟨a2, q2⟩ := denL_reads I ds _ _ h2 r2
        exact ⟨_, .cons q1 q2⟩
end
mutual
theorem den_lay {K : PySem.W.Frag} : ∀ (d : PyData) (v : V), Den K H v d → d.canLay0 = true
  | .none, v, h => rfl
  | .bool b, v, h => rfl
  | .int i, v, h => rfl
  | .str x, v, h => by cases h with | str _ q => exact q
  | .list ds, v, h => by cases h with | lst _ q => exact denL_lay ds _ q
  | .tuple ds, v, h => by cases h with | tup _ q => exact denL_lay ds _ q
  | .dict _, v, h => by cases h
theorem denL_lay {K : PySem.W.Frag} : ∀ (ds : List PyData) (xs : List V), DenL K H xs ds → PyData.canLayAll0 ds = true
  | [], xs, h => rfl
  | d :: ds, xs, h => by
    cases h with
    | cons h1 h2 =>
      show (PyData.canLay0 d && PyData.canLayAll0 ds) = true
      rw [den_lay d _ h1, denL_lay ds _ h2]
      rfl
end
def rEqD (K : PySem.W.Frag) (neg : Bool) : R2 := fun x y H Q => ∃ d e, Den K H x d ∧ Den K H y e ∧ min d.depth e.depth ≤ 64 ∧ Q (.bl (if neg then !PyData.eqv d e else PyData.eqv d e)) H
theorem op_eqD (hu : X.A.units + 64 < cLine) : OpR X (compareOp .Eq) (rEqD X.K false) := by
  intro pins s σ H x y v u Q I rx ry h
  obtain ⟨d, e, hd, he, hz, q⟩ := h
  obtain ⟨as, ra⟩ := den_reads I d _ _ hd rx
  obtain ⟨bs, rb⟩ := den_reads I e _ _ he ry
  exact PySem.SeqAt.eqOverData X.prog X.w X.A X.xe s v u d e as bs _ ra rb (den_lay d _ hd) (den_lay e _ he) (by omega) ⟨.bl _, H, I, rfl, q⟩
end
mutual
def nb : PyData → Bool
  | .none | .int _ | .str _ => true
  | .bool _ | .dict _ => false
  | .list xs | .tuple xs => nbL xs
def nbL : List PyData → Bool
  | [] => true
  | x :: xs => nb x && nbL xs
end
mutual
theorem eqv_iff : ∀ (d e : PyData), nb d = true → nb e = true → (PyData.eqv d e = true ↔ d = e)
  | .none, e, _, h => by cases e <;> first | (simp [PyData.eqv]; done) | cases h
  | .int i, e, _, h => by cases e <;> first | (simp [PyData.eqv]; done) | cases h
  | .str i, e, _, h => by cases e <;> first | (simp [PyData.eqv]; done) | cases h
  | .bool _, _, h, _ => by cases h
  | .dict _, _, h, _ => by cases h
  | .list xs, e, h1, h => by
    cases e with
    | list ys =>
      have q := eqvL_iff xs ys h1 h
      show PyData.eqvAll xs ys = true ↔ _
      rw [q]
      exact ⟨fun z => by rw [z], fun z => PyData.list.inj z⟩
    | none => simp [PyData.eqv]
    | int _ => simp [PyData.eqv]
    | str _ => simp [PyData.eqv]
    | tuple _ => simp [PyData.eqv]
    | bool _ => cases h
    | dict _ => cases h
  | .tuple xs, e, h1, h => by
    cases e with
    | tuple ys =>
      have q := eqvL_iff xs ys h1 h
      show PyData.eqvAll xs ys = true ↔ _
      rw [q]
      exact ⟨fun z => by rw [z], fun z => PyData.tuple.inj z⟩
    | none => simp [PyData.eqv]
    | int _ => simp [PyData.eqv]
    | str _ => simp [PyData.eqv]
    | list _ => simp [PyData.eqv]
    | bool _ => cases h
    | dict _ => cases h
theorem eqvL_iff : ∀ (xs ys : List PyData), nbL xs = true → nbL ys = true → (PyData.eqvAll xs ys = true ↔ xs = ys)
  | [], [], _, _ => by simp [PyData.eqvAll]
  | [], _ :: _, _, _ => by simp [PyData.eqvAll]
  | _ :: _, [], _, _ => by simp [PyData.eqvAll]
  | x :: xs, y :: ys, h1, h2 => by
    have a : nb x = true ∧ nbL xs = true := by
      have : (nb x && nbL xs) = true := h1
      simpa using this
    have b : nb y = true ∧ nbL ys = true := by
      have : (nb y && nbL ys) = true := h2
      simpa using this
    have q1 := eqv_iff x y a.1 b.1
    have q2 := eqvL_iff xs ys a.2 b.2
    show (PyData.eqv x y && PyData.eqvAll xs ys) = true ↔ _
    rw [Bool.and_eq_true, q1, q2]
    simp
end
theorem eqv_refl {d : PyData} (h : nb d = true) : PyData.eqv d d = true := (eqv_iff d d h h).mpr rfl
abbrev dInts (zs : List Int) : PyData := .list (zs.map .int)
theorem nb_ints : ∀ zs : List Int, nbL (zs.map .int) = true
  | [] => rfl
  | z :: zs => by
    show (nb (.int z) && nbL (zs.map .int)) = true
    rw [nb_ints zs]
    rfl
theorem depth_ints : ∀ zs : List Int, PyData.depthAll (zs.map .int) = 0
  | [] => rfl
  | z :: zs => by
    show max (PyData.depth (.int z)) (PyData.depthAll (zs.map .int)) = 0
    rw [depth_ints zs]
    rfl
theorem denL_ints {K : PySem.W.Frag} {H : Hp} : ∀ zs : List Int, DenL K H (zs.map V.int) (zs.map .int)
  | [] => .nil
  | z :: zs => .cons (.int z) (denL_ints zs)
theorem den_ints {K : PySem.W.Frag} {H : Hp} {a : Addr} {zs : List Int} (h : SqL K H a (zs.map V.int)) : Den K H (.ref a) (dInts zs) := .lst h (denL_ints zs)
theorem dints_depth (zs : List Int) (e : PyData) : min (dInts zs).depth e.depth ≤ 64 := by
  have q : (dInts zs).depth = 1 := by show PyData.depthAll (zs.map .int) + 1 = 1; rw [depth_ints]
  omega
end L2
namespace L2
open PySem PySem.Spec PyProof.Rows
section
variable {prog : Program} {w : World} {A : Around} {R : Result → Shared → Prop} {s : Shared}
theorem compLoop_any {elt target iter : Expr} {ifs : List Expr} {scope : Scope} {pos : Pos} {it acc : Value} {env : Env} (I : Nat → Shared → Prop)
    (turn : ∀ n s, I n s → wpAny (model prog w) A (pyNext it) (fun r s1 => match r with
      | none => R (.ok .next) s1
      | some v => wpAny (model prog w) A (letOwnedTupleGo target it v) (fun _ s1' => wpAny (model prog w) A (assign target env v) (fun _ s2 =>
          wpAny (model prog w) A (forIn ifs true fun c r => if r = true then do let ok ← isTrue c env (eval c env); pure (ForInStep.yield ok) else pure (ForInStep.yield r)) (fun ok s3 =>
            if ok = true then wpAny (model prog w) A (eval elt env) (fun x s4 =>
              wpAny (model prog w) A (call (.builtin "list.append") [acc, x]) (fun _ s5 => ∃ m, m < n ∧ I m s5) (fun _ _ => False) s4) (fun _ _ => False) s3
            else ∃ m, m < n ∧ I m s3) (fun _ _ => False) s2) (fun _ _ => False) s1') (fun _ _ => False) s1) (fun _ _ => False) s)
    (n : Nat) (h : I n s) :
    codeAny (model prog w) A (.compLoop (.ListComp elt [⟨target, iter, ifs, 0⟩] scope pos) 0 it acc env) R s := by
  refine codeAny_loop rfl I (fun n s hI => ?_) n h
  show wpAny _ A ((compTurn (.ListComp elt [⟨target, iter, ifs, 0⟩] scope pos) 0 it acc env).onRaise (fun x => do noteFrame x env; theTreesLotGoes x)) _ _ s
  refine wpAny_noted ?_
  rw [compTurn_list]
  refine wpAny_bind (wpAny_standAt (wpAny_bind (wpAny_mono (turn n s hI) (fun r s1 h1 => ?_) fun _ _ h' => False.elim h')))
  cases r with
  | none => exact wpAny_pure h1
  | some v =>
    refine wpAny_bind (wpAny_mono h1 (fun _ s1' h1' => ?_) fun _ _ h' => False.elim h')
    refine wpAny_bind (wpAny_mono h1' (fun _ s2 h2 => wpAny_bind (wpAny_mono h2 (fun ok s3 h3 => ?_) fun _ _ h' => False.elim h')) fun _ _ h' => False.elim h')
    cases ok with
    | false => exact wpAny_pure ⟨rfl, h3⟩
    | true =>
      exact wpAny_bind (wpAny_bind (wpAny_mono h3 (fun x s4 h4 => wpAny_bind (wpAny_mono h4 (fun _ s5 h5 => wpAny_pure (wpAny_pure ⟨rfl, h5⟩)) fun _ _ h' => False.elim h')) fun _ _ h' => False.elim h'))
end
def closeFrom (env : Env) : List (Str × NameKind) → List (Str × Addr) → List (Str × Addr)
  | [], acc => acc
  | (n, k) :: r, acc => if (k == .free) = true then closeFrom env r ((n, (env.cells.lookup n).getD 0) :: acc) else closeFrom env r acc
theorem closeFrom_mem {env : Env} (P : Str → Addr → Prop) : ∀ (names : List (Str × NameKind)) (acc : List (Str × Addr)), (∀ x ∈ names, x.2 = .free → ∃ c, env.cells.lookup x.1 = some c) → (∀ n c, (n, c) ∈ acc → P n c) →
    (∀ n c, env.cells.lookup n = some c → P n c) → ∀ n c, (n, c) ∈ closeFrom env names acc → P n c
  | [], acc, _, ha, _, n, c, h => ha n c h
  | (m, k) :: r, acc, hf, ha, hp, n, c, h => by
    unfold closeFrom at h
    split at h
    · rename_i hk
      refine closeFrom_mem P r _ (fun x hx => hf x (List.mem_cons_of_mem _ hx)) (fun n' c' h' => ?_) hp n c h
      rcases List.mem_cons.mp h' with e | h'
      · obtain ⟨c0, e0⟩ := hf (m, k) List.mem_cons_self (eq_of_beq hk)
        injection e with e1 e2
        subst e1 e2
        rw [e0]
        exact hp _ _ e0
      · exact ha n' c' h'
    · exact closeFrom_mem P r acc (fun x hx => hf x (List.mem_cons_of_mem _ hx)) ha hp n c h
theorem closeFrom_acc {env : Env} : ∀ (names : List (Str × NameKind)) (acc : List (Str × Addr)) (x : Str × Addr), x ∈ acc → x ∈ closeFrom env names acc
  | [], _, _, h => h
  | (m, k) :: r, acc, x, h => by
    unfold closeFrom
    split
    · exact closeFrom_acc r _ x (List.mem_cons_of_mem _ h)
    · exact closeFrom_acc r _ x h
theorem closeFrom_has {env : Env} : ∀ (names : List (Str × NameKind)) (acc : List (Str × Addr)) (x : Str), (x, NameKind.free) ∈ names → ∃ c, (x, c) ∈ closeFrom env names acc
  | [], _, _, h => nomatch h
  | (m, k) :: r, acc, x, h => by
    unfold closeFrom
    rcases List.mem_cons.mp h with e | h
    · injection e with e1 e2
      subst e1 e2
      rw [if_pos (by decide)]
      exact ⟨_, closeFrom_acc r _ _ List.mem_cons_self⟩
    · split
      · exact closeFrom_has r _ x h
      · exact closeFrom_has r _ x h
theorem closureFor_eq {scope : Scope} {env : Env} (hf : ∀ x ∈ scope.names, x.2 = .free → ∃ c, env.cells.lookup x.1 = some c) : closureFor scope env = pure (closeFrom env scope.names []) := by
  have go : ∀ (names : List (Str × NameKind)) (acc : List (Str × Addr)), (∀ x ∈ names, x.2 = .free → ∃ c, env.cells.lookup x.1 = some c) →
      (forIn names acc fun (x : Str × NameKind) (r : List (Str × Addr)) => (match x with
        | (name, kind) => if (kind == NameKind.free) = true then do
            let a ← cellOf env name
            pure (ForInStep.yield ((name, a) :: r))
          else pure (ForInStep.yield r) : Sem (ForInStep (List (Str × Addr))))) = pure (closeFrom env names acc) := by
    intro names
    induction names with
    | nil => intro acc _; rw [List.forIn_nil]; rfl
    | cons x r ih =>
      intro acc hf
      obtain ⟨n, k⟩ := x
      rw [List.forIn_cons]
      unfold closeFrom
      by_cases hk : (k == NameKind.free) = true
      · obtain ⟨c, e⟩ := hf (n, k) List.mem_cons_self (eq_of_beq hk)
        simp only [hk, if_true]
        have e2 : cellOf env n = pure c := by unfold cellOf; rw [e]
        rw [e2, e]
        simp only [pure_bind, Option.getD_some]
        exact ih _ fun x hx => hf x (List.mem_cons_of_mem _ hx)
      · simp only [hk, if_false]
        exact ih _ fun x hx => hf x (List.mem_cons_of_mem _ hx)
  simp only [closureFor]
  have := go scope.names [] hf
  first
    | exact this
    | (simp only [bind_pure]; exact this)
    | (rw [this]; rfl)
theorem cellsFrom_app : ∀ (names : List (Str × NameKind)) (n : Nat) (acc : List (Str × Addr)), cellsFrom n names acc = cellsFrom n names [] ++ acc
  | [], _, _ => rfl
  | (m, k) :: r, n, acc => by
    unfold cellsFrom
    split
    · rw [cellsFrom_app r (n + 1) ((m, n) :: acc), cellsFrom_app r (n + 1) [(m, n)], List.append_assoc]
      rfl
    · exact cellsFrom_app r n acc
theorem cellsFrom_src : ∀ (names : List (Str × NameKind)) (n : Nat) (acc : List (Str × Addr)) (x : Str × Addr), x ∈ cellsFrom n names acc → (x.1, NameKind.cell) ∈ names ∨ x ∈ acc
  | [], _, _, _, h => .inr h
  | (m, k) :: r, n, acc, x, h => by
    unfold cellsFrom at h
    split at h
    · rename_i hk
      rcases cellsFrom_src r _ _ x h with q | q
      · exact .inl (List.mem_cons_of_mem _ q)
      · rcases List.mem_cons.mp q with e | q
        · rw [e, eq_of_beq hk]
          exact .inl List.mem_cons_self
        · exact .inr q
    · rcases cellsFrom_src r _ _ x h with q | q
      · exact .inl (List.mem_cons_of_mem _ q)
      · exact .inr q
theorem lookup_app {α : Type} (x : Str) : ∀ (l r : List (Str × α)), (l ++ r).lookup x = (l.lookup x).or (r.lookup x)
  | [], r => by simp
  | (k, v) :: l, r => by
    rw [List.cons_append, List.lookup_cons, List.lookup_cons]
    cases hb : x == k with
    | true => rfl
    | false => exact lookup_app x l r
theorem lookup_some_of_mem {α : Type} {x : Str} : ∀ {l : List (Str × α)} {c : α}, (x, c) ∈ l → ∃ c', l.lookup x = some c'
  | (k, v) :: l, c, h => by
    rw [List.lookup_cons]
    cases hb : x == k with
    | true => exact ⟨v, rfl⟩
    | false =>
      rcases List.mem_cons.mp h with e | h
      · injection e with e1 e2
        subst e1
        rw [beq_self_eq_true] at hb
        cases hb
      · exact lookup_some_of_mem h
theorem lookup_relabel {scope : Scope} {env : Env} {x : Str} {k : NameKind} (h : (relabel scope env).names.lookup x = some k) : ∃ k0, scope.names.lookup x = some k0 ∧ (k = k0 ∨ (k = .cell ∧ k0 = .free)) := by
  have go : ∀ names : List (Str × NameKind), (names.map fun (n, k) => if (k == NameKind.free && env.scope.kind == .function && env.kindOf n == some .cell) then (n, NameKind.cell) else (n, k)).lookup x = some k →
      ∃ k0, names.lookup x = some k0 ∧ (k = k0 ∨ (k = .cell ∧ k0 = .free)) := by
    intro names
    induction names with
    | nil => intro h; cases h
    | cons y r ih =>
      obtain ⟨n, k1⟩ := y
      intro h
      replace h : List.lookup x ((if (k1 == NameKind.free && env.scope.kind == .function && env.kindOf n == some .cell) = true then (n, NameKind.cell) else (n, k1)) :: (r.map fun (n, k) => if (k == NameKind.free && env.scope.kind == .function && env.kindOf n == some .cell) then (n, NameKind.cell) else (n, k))) = some k := h
      by_cases hc : (k1 == NameKind.free && env.scope.kind == .function && env.kindOf n == some .cell) = true
      · rw [if_pos hc] at h
        rw [List.lookup_cons] at h ⊢
        cases hb : x == n with
        | true =>
          rw [hb] at h
          have e : NameKind.cell = k := Option.some.inj h
          simp only [Bool.and_eq_true] at hc
          exact ⟨k1, rfl, .inr ⟨e.symm, eq_of_beq hc.1.1⟩⟩
        | false => rw [hb] at h; exact ih h
      · rw [if_neg hc] at h
        rw [List.lookup_cons] at h ⊢
        cases hb : x == n with
        | true =>
          rw [hb] at h
          have e : k1 = k := Option.some.inj h
          exact ⟨k1, rfl, .inl e.symm⟩
        | false => rw [hb] at h; exact ih h
  exact go _ h
def blkEnv (scope : Scope) (env : Env) (C : Addr) (cells : List (Str × Addr)) : Env :=
  { scope := relabel scope env, locals := C, globals := env.globals, cells := cells, qual := env.qual, func := none, code := env.code, frame := env.frame, builtins := env.builtins }
def blkCx (X : Cx) (N' : List Str) (scope : Scope) (C : Addr) (cells : List (Str × Addr)) (s₀ : Shared) (H₀ : Hp) (ex : List Addr) : Cx :=
  { X with N := N', s₀ := s₀, H₀ := H₀, env := blkEnv scope X.env C cells, outer := X.stack, stack := X.stack, ex := ex, fn := fun x => scope.names.lookup x == some .cell, pn := [], xe := fun _ _ => False }
def blkSt (ms : List Nat) (k : Nat) (σ : St) : St := ms.foldl (fun σ i => σ.set i none) σ ++ List.replicate k none
theorem unset_len (ms : List Nat) : ∀ σ : St, (ms.foldl (fun σ i => σ.set i none) σ).length = σ.length := by
  induction ms with
  | nil => intro σ; rfl
  | cons m ms ih => intro σ; rw [List.foldl_cons, ih, List.length_set]
theorem unset_get (ms : List Nat) : ∀ (σ : St) (i : Nat) (v : V), (ms.foldl (fun σ i => σ.set i none) σ)[i]? = some (some v) → σ[i]? = some (some v) ∧ i ∉ ms := by
  induction ms with
  | nil => intro σ i v h; exact ⟨h, by simp⟩
  | cons m ms ih =>
    intro σ i v h
    rw [List.foldl_cons] at h
    obtain ⟨h1, h2⟩ := ih _ i v h
    by_cases e : m = i
    · subst e
      rw [List.getElem?_set] at h1
      split at h1
      · split at h1 <;> cases h1
      · exact absurd rfl ‹_›
    · rw [List.getElem?_set_ne e] at h1
      exact ⟨h1, by simp only [List.mem_cons, not_or]; exact ⟨fun z => e z.symm, h2⟩⟩
structure BlkOk (X : Cx) (N' : List Str) (scope : Scope) (ms : List Nat) (k : Nat) : Prop where
  kind : scope.kind = .function
  uniq : ∀ x ∈ scope.names, scope.names.lookup x.1 = some x.2
  free : ∀ x ∈ scope.names, x.2 = .free → X.env.kindOf x.1 = some .cell ∨ X.env.kindOf x.1 = some .free
  len : N'.length = X.N.length + k
  pre : ∀ i : Nat, i < X.N.length → N'[i]? = X.N[i]?
  vis : ∀ i : Nat, i < X.N.length → i ∉ ms → ∀ x k', N'[i]? = some x → scope.names.lookup x = some k' → k' = .local ∨ k' = .cell ∨ k' = .free → k' = .free
section
variable {X : Cx} {pins : List (Addr × Obj)} {σ : St} {H : Hp} {s : Shared}
theorem wp_blkEnv {M : Model} {A : Around} {E : Value → Shared → Prop} {scope : Scope} {globals : Addr} {cl : List (Str × Addr)} {qual : Str} {env : Env} {Q : Env → Shared → Prop}
    (hQ : Q { scope := scope, locals := s.heap.objs.size, globals := globals, cells := cellsFrom (s.heap.objs.size + 1) scope.names cl, qual := qual, func := none, code := env.code, frame := env.frame, builtins := env.builtins }
      { s with heap := pushCells (s.heap.push { cls := .type "dict", data := .dict #[] }) scope.names }) :
    wpAny M A (newFunctionEnv scope globals cl [] qual none .none (some env)) Q E s := by
  simp only [newFunctionEnv, Option.isSome_some, if_true]
  refine wpAny_bind (wpAny_alloc ?_)
  refine wpAny_bind (wpAny_layCells _ (fun name kind cells => by cases hkc : kind == NameKind.cell <;> simp [hkc]) _ _ _ _ ?_)
  rw [show ({ s with heap := s.heap.push { cls := .type "dict", data := .dict #[] } } : Shared).heap.objs.size = s.heap.objs.size + 1 from Heap.size_push ..]
  rw [List.forIn_nil]
  exact wpAny_bind (wpAny_pure (wpAny_pure hQ))
theorem inv_blk {N' : List Str} {scope : Scope} {ms : List Nat} {k : Nat} {ex : List Addr} (I : Inv X pins σ H s) (B : BlkOk X N' scope ms k) (hex : ∀ b ∈ ex, FpOk X pins H b ∧ b < s.heap.objs.size) :
    Inv (blkCx X N' scope s.heap.objs.size (cellsFrom (s.heap.objs.size + 1) scope.names (closeFrom X.env scope.names [])) s H ex) [] (blkSt ms k σ) H
      { s with heap := pushCells (s.heap.push { cls := .type "dict", data := .dict #[] }) scope.names } := by
  have hfree : ∀ x ∈ scope.names, x.2 = .free → ∃ c, X.env.cells.lookup x.1 = some c := fun x hx hk => I.ok.has x.1 (B.free x hx hk)
  have keep : ∀ b o, s.heap.get? b = some o → (pushCells (s.heap.push { cls := .type "dict", data := .dict #[] }) scope.names).get? b = some o := fun b o e => pushCells_keeps _ _ b o (Heap.get?_push_of_some _ e)
  have own := cellsFrom_ok scope.names (s.heap.push { cls := .type "dict", data := .dict #[] }) (s.heap.objs.size + 1) [] ⟨fun _ _ hm => (nomatch hm), List.Pairwise.nil⟩ (by rw [Heap.size_push]; exact Nat.le_refl _)
  rw [Heap.size_push] at own
  have clm : ∀ n c, (n, c) ∈ closeFrom X.env scope.names [] → X.env.cells.lookup n = some c := closeFrom_mem (fun n c => X.env.cells.lookup n = some c) scope.names [] hfree (fun _ _ h => nomatch h) fun _ _ h => h
  have clt : ∀ n (c : Addr), X.env.cells.lookup n = some c → @LT.lt Nat instLTNat c s.heap.objs.size := fun n c e => by obtain ⟨v, q⟩ := I.cell n c e; exact q.lt
  have look : ∀ x c, (cellsFrom (s.heap.objs.size + 1) scope.names (closeFrom X.env scope.names [])).lookup x = some c →
      ((x, c) ∈ cellsFrom (s.heap.objs.size + 1) scope.names [] ∧ s.heap.objs.size + 1 ≤ c) ∨ (X.env.cells.lookup x = some c ∧ @LT.lt Nat instLTNat c s.heap.objs.size) := fun x c e => by
    rw [cellsFrom_app, lookup_app] at e
    cases q : (cellsFrom (s.heap.objs.size + 1) scope.names []).lookup x with
    | some c' =>
      rw [q] at e
      have e' : c' = c := Option.some.inj e
      subst e'
      exact .inl ⟨mem_of_lookup q, (own.empty x c' (mem_of_lookup q)).2⟩
    | none =>
      rw [q] at e
      have e2 := clm x c (mem_of_lookup e)
      exact .inr ⟨e2, clt x c e2⟩
  have hasL : ∀ x, scope.names.lookup x = some .cell ∨ scope.names.lookup x = some .free → ∃ c, (cellsFrom (s.heap.objs.size + 1) scope.names (closeFrom X.env scope.names [])).lookup x = some c := fun x hx => by
    rw [cellsFrom_app, lookup_app]
    cases q : (cellsFrom (s.heap.objs.size + 1) scope.names []).lookup x with
    | some c' => exact ⟨c', rfl⟩
    | none =>
      rcases hx with hx | hx
      · obtain ⟨c, e⟩ := cell_has (n := s.heap.objs.size + 1) hx
        rw [q] at e; cases e
      · obtain ⟨c, hc⟩ := closeFrom_has (env := X.env) scope.names [] x (PySem.mem_of_lookup hx)
        exact lookup_some_of_mem hc
  have Ir := I.lt
  refine ⟨⟨I.ok.mod, B.kind, I.ok.glob, I.ok.blt, Nat.le_refl _, fun x y c hx hy => ?_, fun x hx => ?_, fun x c hf hx => ?_, I.ok.hd, I.ok.frames, .inl rfl, fun b hb => ?_, I.bs, Nat.le_trans I.ok.bsz I.sz, fun b o e hb => ?_, fun b hb hfs => ?_, I.stack, I.stkFree⟩,
    rfl, I.bare, Un.kept keep, ⟨fun _ => none, ?_, fun i x v h1 h2 h3 => ?_⟩, fun x c hx => ?_, ?_, fun x c hx => ?_, fun p hp => absurd (show p ∈ ([] : List (Addr × Obj)) from hp) (by simp), I.hok.kept keep, ?_⟩
  · rcases look x c hx with ⟨m1, l1⟩ | ⟨m1, l1⟩
    · rcases look y c hy with ⟨m2, l2⟩ | ⟨m2, l2⟩
      · exact name_of_addr own.apart m1 m2
      · omega
    · rcases look y c hy with ⟨m2, l2⟩ | ⟨m2, l2⟩
      · omega
      · exact I.ok.inj x y c m1 m2
  · have hx : (relabel scope X.env).names.lookup x = some .cell ∨ (relabel scope X.env).names.lookup x = some .free := hx
    rcases hx with hx | hx
    · obtain ⟨k0, e, z | ⟨_, z⟩⟩ := lookup_relabel hx
      · exact hasL x (.inl (by rw [e, ← z]))
      · exact hasL x (.inr (by rw [e, z]))
    · obtain ⟨k0, e, z | ⟨z, _⟩⟩ := lookup_relabel hx
      · exact hasL x (.inr (by rw [e, ← z]))
      · cases z
  · show s.heap.objs.size ≤ c
    have hf : (scope.names.lookup x == some .cell) = true := hf
    have hf' : scope.names.lookup x = some .cell := eq_of_beq hf
    have hx : (cellsFrom (s.heap.objs.size + 1) scope.names (closeFrom X.env scope.names [])).lookup x = some c := hx
    rw [cellsFrom_app, lookup_app] at hx
    obtain ⟨c', e⟩ := cell_has (n := s.heap.objs.size + 1) hf'
    rw [e] at hx
    have z : c' = c := Option.some.inj hx
    subst z
    exact Nat.le_of_succ_le (own.empty x c' (mem_of_lookup e)).2
  · obtain ⟨_, hlt⟩ := hex b hb
    refine ⟨Nat.ne_of_lt hlt, fun x c hx z => ?_⟩
    subst z
    have hlt' : @LT.lt Nat instLTNat c s.heap.objs.size := hlt
    rcases look x c hx with ⟨_, l1⟩ | ⟨m1, _⟩
    · omega
    · obtain ⟨⟨_, _, _, _, f4, _⟩, _⟩ := hex c hb
      exact f4 x c m1 rfl
  · obtain ⟨⟨_, _, _, f3, _, _⟩, _⟩ := hex b hb
    rcases f3 with z | z
    · exact I.ok.noex b o e z
    · have h1 : @LT.lt Nat instLTNat b X.base.objs.size := Heap.lt_size e
      have h2 := I.ok.bsz
      have h3 : @LE.le Nat instLENat X.s₀.heap.objs.size b := z
      omega
  · obtain ⟨⟨_, f1, f2, _, _, _⟩, _⟩ := hex b hb
    rcases List.mem_cons.mp (I.stkSub b hfs) with z | z
    · exact f1 z
    · exact f2 z
  · exact (Heap.Ns.new s.heap (.type "dict")).keeps (pushCells_keeps _ _)
  · have hi : i < X.N.length := by
      by_cases hi : i < X.N.length
      · exact hi
      · exfalso
        unfold blkSt at h2
        have hl : (ms.foldl (fun σ i => σ.set i none) σ).length = X.N.length := by rw [unset_len, I.len]
        rw [List.getElem?_append_right (by omega), List.getElem?_replicate] at h2
        split at h2 <;> cases h2
    have h2' : (ms.foldl (fun σ i => σ.set i none) σ)[i]? = some (some v) := by
      unfold blkSt at h2
      have hl : (ms.foldl (fun σ i => σ.set i none) σ).length = X.N.length := by rw [unset_len, I.len]
      rw [List.getElem?_append_left (by omega)] at h2
      exact h2
    obtain ⟨h4, h5⟩ := unset_get ms σ i v h2'
    have h1' : N'[i]? = some x := h1
    have hXN : X.N[i]? = some x := by rw [← B.pre i hi]; exact h1'
    have h3 : (relabel scope X.env).names.lookup x = some .local ∨ (relabel scope X.env).names.lookup x = some .cell ∨ (relabel scope X.env).names.lookup x = some .free := h3
    have fr : scope.names.lookup x = some .free := by
      have go : ∀ k', (relabel scope X.env).names.lookup x = some k' → k' = .local ∨ k' = .cell ∨ k' = .free → scope.names.lookup x = some .free := fun k' e hk => by
        obtain ⟨k0, e0, z | ⟨_, z⟩⟩ := lookup_relabel e
        · have := B.vis i hi h5 x k0 h1' e0 (z ▸ hk)
          rw [e0, this]
        · rw [e0, z]
      rcases h3 with h3 | h3 | h3
      · exact go _ h3 (.inl rfl)
      · exact go _ h3 (.inr (.inl rfl))
      · exact go _ h3 (.inr (.inr rfl))
    have hk := B.free (x, .free) (PySem.mem_of_lookup fr) rfl
    obtain ⟨m, hn, hl⟩ := I.loc
    obtain ⟨u, r, l⟩ := hl i x v hXN h4 (.inr hk)
    refine ⟨u, r, .inr ⟨?_, ?_⟩⟩
    · rcases h3 with h3 | h3
      · exfalso
        obtain ⟨k0, e0, z | ⟨z, _⟩⟩ := lookup_relabel h3
        · rw [fr] at e0; cases e0; cases z
        · cases z
      · exact h3
    · rcases l with ⟨hloc, _⟩ | ⟨_, c, hc, hcell⟩
      · rcases hk with hk | hk
        · rw [hk] at hloc; cases hloc
        · rw [hk] at hloc; cases hloc
      · refine ⟨c, ?_, hcell.keeps keep⟩
        obtain ⟨c2, e2⟩ := hasL x (.inr fr)
        have e2' : (cellsFrom (s.heap.objs.size + 1) scope.names (closeFrom X.env scope.names [])).lookup x = some c2 := e2
        rcases look x c2 e2' with ⟨m1, _⟩ | ⟨m1, _⟩
        · exfalso
          rcases cellsFrom_src scope.names _ _ _ m1 with q | q
          · have := B.uniq _ q
            rw [fr] at this
            cases this
          · cases q
        · rw [hc] at m1
          have z : c = c2 := Option.some.inj m1
          rw [z]
          exact e2
  · rcases look x c hx with ⟨m1, _⟩ | ⟨m1, _⟩
    · exact ⟨none, (own.empty x c m1).1⟩
    · obtain ⟨v, q⟩ := I.cell x c m1
      exact ⟨v, q.keeps keep⟩
  · exact I.hok.fresh (Nat.le_refl _)
  · rcases look x c hx with ⟨_, l1⟩ | ⟨m1, _⟩
    · exact I.hok.fresh (by omega)
    · exact I.freeC x c m1
  · show (blkSt ms k σ).length = N'.length
    unfold blkSt
    rw [List.length_append, unset_len, List.length_replicate, I.len, B.len]
end
end L2
namespace L2
open PySem PySem.Spec PyProof.Rows
def tTrue : TT := fun _ H Q => Q true H
def CompW (J : It) (g : TG) (tc : TT) (te : TE) (D : Addr) (Q : VK) (σ0 : St) (H0 : Hp) : Prop := ∃ W : Nat → Nat → St → Hp → Prop, (∃ m, W 0 m σ0 (upd H0 D (.lst []))) ∧
  ∀ i m σ' H2, W i m σ' H2 → (J.stop i H2 ∧ Q (.ref D) H2) ∨ (J.go i H2 ∧ ∀ x H3, J.yld i H2 x H3 → g x σ' H3 fun σ2 H4 => tc σ2 H4 fun b H5 =>
    if b = true then te σ2 H5 fun v H6 => ∃ ys, H6 D = some (.lst ys) ∧ ys.length < sizeLine ∧ ∃ m', m' < m ∧ W (i + 1) m' σ2 (upd H6 D (.lst (ys ++ [v])))
    else ∃ m', m' < m ∧ W (i + 1) m' σ2 H5)
def tComp (wi : TI) (g : TG) (tc : TT) (te : TE) (ms : List Nat) (k : Nat) : TE := fun σ H Q => wi σ H fun J H1 => ∀ D, H1 D = none → CompW J g tc te D Q (blkSt ms k σ) H1
def PTs (X : Cx) (ifs : List Expr) (t : TT) : Prop :=
  ∀ (pins : List (Addr × Obj)) (s : Shared) (σ : St) (H : Hp) (Q : Bool → Hp → Prop), Inv X pins σ H s → t σ H Q →
    wpAny (model X.prog X.w) X.A (forIn ifs true fun c r => if r = true then do let ok ← isTrue c X.env (eval c X.env); pure (ForInStep.yield ok) else pure (ForInStep.yield r)) (TP X pins σ Q) X.xe s
section
variable {X : Cx}
theorem pts_nil : PTs X [] tTrue := fun pins s σ H Q I h => wpAny_tests_nil ⟨H, I, h⟩
theorem pts_one {c : Expr} {t : TT} (h : PT X c t) : PTs X [c] t := fun pins s σ H Q I hw => wpAny_tests_one (h pins s σ H Q I hw)
theorem comp_core {elt target iter : Expr} {ifs : List Expr} {scope : Scope} {pos : Pos} {p : Pos} {wi : TI} {g : TG} {tc : TT} {te : TE} {N' : List Str} {ms : List Nat} {k : Nat} {use : Option (Value → Sem Unit)}
    {Q : Value → Shared → Prop} {pins : List (Addr × Obj)} {s : Shared} {σ : St} {H : Hp} {Qv : VK} (hcalm : X.calm = true) (hi : PI X target iter wi)
    (B : BlkOk X N' scope ms k) (hg : ∀ C cells s₀ H₀ ex, PG (blkCx X N' scope C cells s₀ H₀ ex) target g) (hc : ∀ C cells s₀ H₀ ex, PTs (blkCx X N' scope C cells s₀ H₀ ex) ifs tc)
    (he : ∀ C cells s₀ H₀ ex, PE (blkCx X N' scope C cells s₀ H₀ ex) elt te) (hs : ∀ x, foldedSetIterable iter X.env x = pure x) (I : Inv X pins σ H s) (hw : tComp wi g tc te ms k σ H Qv)
    (hpost : ∀ (D : Addr) (H' : Hp) (s' : Shared) (C : Addr) (m : Str → Option Value), Inv X pins σ H' s' → s'.heap.Ns C m → H' C = none → C ≠ X.env.locals → X.s₀.heap.objs.size ≤ C →
      (∀ x c, X.env.cells.lookup x = some c → c ≠ C) → (∀ p ∈ X.pn ++ pins, p.1 ≠ C) → Qv (.ref D) H' → compPost (model X.prog X.w) X.A X.xe use Q (.ref D) C (.ok .next) s') :
    wpAny (model X.prog X.w) X.A (comprehension (.ListComp elt [⟨target, iter, ifs, 0⟩] scope pos) scope X.env p (newList []) false (eval iter X.env) use) Q X.xe s := by
  have hfree : ∀ x ∈ scope.names, x.2 = .free → ∃ c, X.env.cells.lookup x.1 = some c := fun x hx hk => I.ok.has x.1 (B.free x hx hk)
  refine wpAny_comprehension_free (use := use) rfl hs (closureFor_eq hfree) B.kind (fun x hx hl => by rw [B.uniq x hx, hl]) ?_
  refine thn (hi pins s σ H _ I hw) fun v s1 h1 => thn h1 fun itv s2 h2 => ?_
  obtain ⟨it, fp, tn, J, H2, rfl, I2, T, st2, f2, h2⟩ := h2
  refine wpAny_newObj_type ?_
  have I3 : Inv X pins σ (upd H2 s2.heap.objs.size (.lst [])) { s2 with heap := s2.heap.push { cls := .type "list", data := .seq ([] : List Value).toArray } } := I2.lnew (t' := s2.toks) .nil (Nat.zero_le _)
  obtain ⟨W, ⟨m0, w0⟩, turn⟩ := h2 s2.heap.objs.size I2.fresh
  have hfp3 : ∀ b ∈ fp, FpOk X pins (upd H2 s2.heap.objs.size (.lst [])) b ∧ b < (s2.heap.push { cls := .type "list", data := .seq ([] : List Value).toArray }).objs.size := fun b hb => by
    obtain ⟨o, e, _⟩ := T.obj _ _ st2 b hb
    have hlt := Heap.lt_size e
    obtain ⟨f0, fr⟩ := f2 b hb
    refine ⟨⟨by rw [upd_ne (Nat.ne_of_lt hlt)]; exact f0, fr⟩, ?_⟩
    rw [Heap.size_push]
    exact Nat.lt_succ_of_lt hlt
  generalize hs3 : ({ s2 with heap := s2.heap.push { cls := .type "list", data := .seq ([] : List Value).toArray } } : Shared) = s3 at I3
  have hh3 : s2.heap.push { cls := .type "list", data := .seq ([] : List Value).toArray } = s3.heap := by rw [← hs3]
  rw [hh3] at hfp3
  refine wp_blkEnv ?_
  have I4 := inv_blk I3 B hfp3
  have st4 : tn 0 (pushCells (s3.heap.push { cls := .type "dict", data := .dict #[] }) scope.names) := T.keep _ _ _ st2 fun b hb o e => pushCells_keeps _ _ b o (Heap.get?_push_of_some _ (by rw [← hh3]; exact Heap.get?_push_of_some _ e))
  have fr4 : ∀ b ∈ fp, upd H2 s2.heap.objs.size (.lst []) b = none := fun b hb => (hfp3 b hb).1.1
  generalize hs4 : ({ s3 with heap := pushCells (s3.heap.push { cls := .type "dict", data := .dict #[] }) scope.names } : Shared) = s4 at I4
  have hh4 : pushCells (s3.heap.push { cls := .type "dict", data := .dict #[] }) scope.names = s4.heap := by rw [← hs4]
  rw [hh4] at st4
  have stat : ∀ {H' : Hp} {pn' : List (Addr × Obj)}, pn' = [] → (∀ b ∈ fp, H' b = none) → ∀ b ∈ fp, FpOk (blkCx X N' scope s3.heap.objs.size (cellsFrom (s3.heap.objs.size + 1) scope.names (closeFrom X.env scope.names [])) s3 (upd H2 s2.heap.objs.size (.lst [])) fp) pn' H' b := fun hp hn b hb => by
    obtain ⟨x1, x2⟩ := I4.ok.exf b hb
    exact ⟨hn b hb, x1, I4.ok.exfs b hb, .inl hb, x2, fun p hp' => by rw [hp] at hp'; exact absurd (show p ∈ ([] : List (Addr × Obj)) from hp') (by simp)⟩
  have loop : ∀ it' : Value, it' = .ref it → codeAny (model X.prog X.w) X.A (.compLoop (.ListComp elt [⟨target, iter, ifs, 0⟩] scope pos) 0 it' (.ref s2.heap.objs.size) (blkEnv scope X.env s3.heap.objs.size (cellsFrom (s3.heap.objs.size + 1) scope.names (closeFrom X.env scope.names []))))
      (compPost (model X.prog X.w) X.A X.xe use Q (.ref s2.heap.objs.size) s3.heap.objs.size) s4 := by
    rintro it' rfl
    refine compLoop_any (fun n s' => ∃ i σ' H', Inv (blkCx X N' scope s3.heap.objs.size (cellsFrom (s3.heap.objs.size + 1) scope.names (closeFrom X.env scope.names [])) s3 (upd H2 s2.heap.objs.size (.lst [])) fp) [] σ' H' s' ∧ tn i s'.heap ∧ (∀ b ∈ fp, H' b = none) ∧ W i n σ' H') ?_ m0 ⟨0, _, _, I4, st4, fr4, w0⟩
    rintro n s5 ⟨i, σ5, H5, I5, st5, fr5, w5⟩
    rcases turn i n σ5 H5 w5 with ⟨stop, q⟩ | ⟨go, step⟩
    · refine thn (T.done (blkCx X N' scope s3.heap.objs.size (cellsFrom (s3.heap.objs.size + 1) scope.names (closeFrom X.env scope.names [])) s3 (upd H2 s2.heap.objs.size (.lst [])) fp) rfl rfl rfl hcalm i [] s5 σ5 H5 (fun _ _ => False) I5 (stat rfl fr5) st5 stop) fun r s6 ⟨hr, I6⟩ => ?_
      subst hr
      have I7 : Inv X pins σ H5 s6 := I3.call' I6.os I6.base I6.hok I6.bare fun b hb => by
        obtain ⟨⟨_, f1, _, f3, f4, f5⟩, _⟩ := hfp3 b hb
        exact ⟨f3, f1, f4, f5⟩
      obtain ⟨m, hn, _⟩ := I6.loc
      have l3 := I3.lt
      refine hpost _ H5 s6 _ m I7 hn I6.free (Nat.ne_of_gt l3) I3.sz (fun x c e z => ?_) (fun p hp z => ?_) q
      · obtain ⟨v, hv⟩ := I3.cell x c e
        have := hv.lt
        rw [z] at this
        exact Nat.lt_irrefl _ this
      · have := Heap.lt_size (I3.pin p hp).1
        rw [z] at this
        exact Nat.lt_irrefl _ this
    · refine thn (T.item (blkCx X N' scope s3.heap.objs.size (cellsFrom (s3.heap.objs.size + 1) scope.names (closeFrom X.env scope.names [])) s3 (upd H2 s2.heap.objs.size (.lst [])) fp) rfl rfl rfl hcalm i [] s5 σ5 H5 (fun _ _ => False) I5 (stat rfl fr5) st5 go) fun r s6 ⟨u, hr, h6⟩ => ?_
      subst hr
      refine thn h6 fun _ s7 ⟨x, H7, I7, r7, y7, st7, fr7⟩ => ?_
      have I7' := I7.pinned (stat rfl fr7) (T.obj _ _ st7)
      refine thn (hg _ _ _ _ _ _ s7 σ5 H7 x u _ I7' r7 (step x H7 y7)) fun _ s8 ⟨σ8, H8, I8, q8⟩ => ?_
      refine thn (hc _ _ _ _ _ _ s8 σ8 H8 _ I8 q8) fun b s9 ⟨H9, I9, q9⟩ => ?_
      have again : ∀ {σ' : St} {H' : Hp} {s' : Shared}, Inv (blkCx X N' scope s3.heap.objs.size (cellsFrom (s3.heap.objs.size + 1) scope.names (closeFrom X.env scope.names [])) s3 (upd H2 s2.heap.objs.size (.lst [])) fp) ([] ++ pinsAt fp s7.heap) σ' H' s' →
          (∃ m', m' < n ∧ W (i + 1) m' σ' H') → ∃ m, m < n ∧ ∃ i σ'' H'', Inv (blkCx X N' scope s3.heap.objs.size (cellsFrom (s3.heap.objs.size + 1) scope.names (closeFrom X.env scope.names [])) s3 (upd H2 s2.heap.objs.size (.lst [])) fp) [] σ'' H'' s' ∧ tn i s'.heap ∧ (∀ b ∈ fp, H'' b = none) ∧ W i m σ'' H'' := fun {σ' H' s'} I' ⟨m', hm, w'⟩ => by
        refine ⟨m', hm, i + 1, σ', H', I'.unpinned, T.keep _ _ _ st7 fun b hb o e => (I'.pin (b, o) (List.mem_append_right _ (List.mem_append_right _ (mem_pinsAt hb e)))).1, fun b hb => ?_, w'⟩
        obtain ⟨o, e, d⟩ := T.obj _ _ st7 b hb
        exact (I'.pin (b, o) (List.mem_append_right _ (List.mem_append_right _ (mem_pinsAt hb e)))).2.1
      cases b with
      | false =>
        rw [if_neg Bool.false_ne_true] at q9 ⊢
        exact again I9 q9
      | true =>
        rw [if_pos rfl] at q9 ⊢
        refine thn (he _ _ _ _ _ _ s9 σ8 H9 _ I9 q9) fun y s10 ⟨vy, H10, I10, r10, ys, hys, hz, q10⟩ => ?_
        refine thn (mt_append _ s10 σ8 H10 (.ref s2.heap.objs.size) [vy] (.ref s2.heap.objs.size) [y] (fun _ H' => H' = upd H10 s2.heap.objs.size (.lst (ys ++ [vy]))) I10 rfl (.cons r10 .nil) ⟨_, ys, vy, rfl, rfl, hys, hz, rfl⟩) fun _ s11 ⟨_, H11, I11, _, e11⟩ => ?_
        subst e11
        exact again I11 q10
  have fin := codeAny_compStart_list (loop _ rfl) (T.self _ 0 s4 _ _ st4 (loop _ rfl))
  exact fin
theorem pe_compG {elt target iter : Expr} {ifs : List Expr} {scope : Scope} {pos : Pos} {wi : TI} {g : TG} {tc : TT} {te : TE} {N' : List Str} {ms : List Nat} {k : Nat} (hcalm : X.calm = true) (hi : PI X target iter wi)
    (B : BlkOk X N' scope ms k) (hg : ∀ C cells s₀ H₀ ex, PG (blkCx X N' scope C cells s₀ H₀ ex) target g) (hc : ∀ C cells s₀ H₀ ex, PTs (blkCx X N' scope C cells s₀ H₀ ex) ifs tc)
    (he : ∀ C cells s₀ H₀ ex, PE (blkCx X N' scope C cells s₀ H₀ ex) elt te) (hs : ∀ x, foldedSetIterable iter X.env x = pure x := by intro _; rfl) :
    PE X (.ListComp elt [⟨target, iter, ifs, 0⟩] scope pos) (tComp wi g tc te ms k) := by
  intro pins s σ H Q I h
  rw [eval_ListComp]
  refine comp_core (use := none) (Qv := Q) hcalm hi B hg hc he hs I h fun D H' s' C m I' hn f0 f1 f3 f4 f5 q => ?_
  exact ⟨m, hn, fun h' sb => ⟨.ref D, H', I'.turned (t' := s'.toks) (fun b o hb e => (sb.2 b hb).trans e) f0 f1 (.inr f3) f4 f5, rfl, q⟩⟩
theorem ps_setC {i : Nat} {x : Str} {px : Pos} {spos : Pos} {elt target iter : Expr} {ifs : List Expr} {scope : Scope} {pos : Pos} {wi : TI} {g : TG} {tc : TT} {te : TE} {N' : List Str} {ms : List Nat} {k : Nat} (hN : X.N.Nodup) (hx : X.N[i]? = some x) (hl : Loc X.env.scope x)
    (hcalm : X.calm = true) (hi : PI X target iter wi) (B : BlkOk X N' scope ms k) (hg : ∀ C cells s₀ H₀ ex, PG (blkCx X N' scope C cells s₀ H₀ ex) target g) (hc : ∀ C cells s₀ H₀ ex, PTs (blkCx X N' scope C cells s₀ H₀ ex) ifs tc)
    (he : ∀ C cells s₀ H₀ ex, PE (blkCx X N' scope C cells s₀ H₀ ex) elt te) (hsw : swapsWith (.ListComp elt [⟨target, iter, ifs, 0⟩] scope pos) (some (.Name x px)) spos.line X.env = pure true := by rfl) (hs : ∀ x, foldedSetIterable iter X.env x = pure x := by intro _; rfl)
    (hf : X.fn x = true ∨ X.env.scope.names.lookup x = some .local := by first | exact .inl rfl | exact .inr rfl | assumption) :
    PS X (.Assign [.Name x px] (.ListComp elt [⟨target, iter, ifs, 0⟩] scope pos) spos) (tAsg (tComp wi g tc te ms k) (gName i)) := by
  intro pins s σ H D I h
  rw [exec_Assign_Name_used _ _ _ _ hsw]
  refine wpAny_bind (wpAny_standAt (wpAny_bind ?_))
  show wpAny _ X.A (do let _ ← comprehension (.ListComp elt [⟨target, iter, ifs, 0⟩] scope pos) scope X.env _ (newList []) false (eval iter X.env) (some (assign (.Name x px) X.env))) _ _ s
  refine wpAny_bind (wpAny_mono (comp_core (use := some (assign (.Name x px) X.env)) (Q := fun _ s' => ∃ σ' H', Inv X pins σ' H' s' ∧ D.nx σ' H') hcalm hi B hg hc he hs I h fun Da H' s' C m I' hn f0 f1 f3 f4 f5 q => ?_)
    (fun _ s' hq => wpAny_pure (wpAny_pure hq)) fun _ _ e => e)
  show wpAny _ X.A (assign (.Name x px) X.env (.ref Da)) _ _ s'
  refine wpAny_assign_Name (store_ok2 I' hN hx hl (v := .ref Da) rfl (fun s'' I'' ⟨b, sb, hb⟩ => ?_) hf)
  have hCb : C ≠ b := by
    rcases hb with z | z
    · rw [z]; exact f1
    · exact fun e => f4 x b z e.symm
  refine ⟨m, hn.sameBut sb hCb, fun h' sb' => ⟨_, H', I''.turned (t' := s''.toks) (fun b o hb e => (sb'.2 b hb).trans e) f0 f1 (.inr f3) f4 f5, q⟩⟩
end
end L2
namespace L2
open PySem PySem.Spec PyProof.Rows
def blkB (N : List Str) (lk : Str → Option NameKind) (N' : List Str) (scope : Scope) (ms : List Nat) (k : Nat) : Bool :=
  scope.kind == .function && (scope.names.all fun x => scope.names.lookup x.1 == some x.2) && (scope.names.all fun x => !(x.2 == .free) || lk x.1 == some .cell || lk x.1 == some .free) &&
  N'.length == N.length + k && (N'.take N.length == N) &&
  (List.range N.length).all fun i => ms.contains i || (match N'[i]? with | none => true | some x => match scope.names.lookup x with | some .local => false | some .cell => false | _ => true)
theorem BlkOk.of {X : Cx} {N' : List Str} {scope : Scope} {ms : List Nat} {k : Nat} (h : blkB X.N X.env.kindOf N' scope ms k = true) : BlkOk X N' scope ms k := by
  unfold blkB at h
  simp only [Bool.and_eq_true] at h
  obtain ⟨⟨⟨⟨⟨h1, h2⟩, h3⟩, h4⟩, h5⟩, h6⟩ := h
  have e5 : N'.take X.N.length = X.N := eq_of_beq h5
  refine ⟨eq_of_beq h1, fun x hx => eq_of_beq (List.all_eq_true.mp h2 x hx), fun x hx hk => ?_, eq_of_beq h4, fun i hi => ?_, fun i hi hm x k' e1 e2 hk => ?_⟩
  · have q := List.all_eq_true.mp h3 x hx
    simp only [Bool.or_eq_true] at q
    rcases q with (q | q) | q
    · rw [hk] at q; cases q
    · exact .inl (eq_of_beq q)
    · exact .inr (eq_of_beq q)
  · have q : (N'.take X.N.length)[i]? = N'[i]? := List.getElem?_take_of_lt hi
    rw [e5] at q
    exact q.symm
  · have q := List.all_eq_true.mp h6 i (List.mem_range.mpr hi)
    rw [Bool.or_eq_true] at q
    rcases q with q | q
    · exact absurd (by simpa using q) hm
    · rw [e1] at q
      rcases hk with rfl | rfl | rfl
      · simp only [e2] at q; cases q
      · simp only [e2] at q; cases q
      · rfl
section
variable {K : PySem.W.Frag} {a : Addr} {xs : List V} {g : TG} {tc : TT} {te : TE} {D : Addr} {σ : St} {H : Hp} {Q : VK}
def CNext (D : Addr) (n i : Nat) (Pv : Nat → List V → St → Hp → Prop) (σ2 : St) : VK := fun v H6 => ∃ ys, H6 D = some (.lst ys) ∧ ys.length < sizeLine ∧ ∃ m', m' < n - i ∧ (m' = n - (i + 1) ∧ i + 1 ≤ n ∧ ∃ ys', Pv (i + 1) ys' σ2 (upd H6 D (.lst (ys ++ [v]))))
def CSkip (n i : Nat) (Pv : Nat → List V → St → Hp → Prop) (σ2 : St) (H5 : Hp) : Prop := ∃ m', m' < n - i ∧ (m' = n - (i + 1) ∧ i + 1 ≤ n ∧ ∃ ys', Pv (i + 1) ys' σ2 H5)
theorem cnext {n i : Nat} {Pv : Nat → List V → St → Hp → Prop} {σ2 : St} {v : V} {H6 : Hp} {ys : List V} (hi : i < n) (h : H6 D = some (.lst ys)) (hz : ys.length ≤ 100000) (p : Pv (i + 1) (ys ++ [v]) σ2 (upd H6 D (.lst (ys ++ [v])))) : CNext D n i Pv σ2 v H6 :=
  ⟨ys, h, smallLt hz, n - (i + 1), by omega, rfl, hi, _, p⟩
theorem cskip {n i : Nat} {Pv : Nat → List V → St → Hp → Prop} {σ2 : St} {H5 : Hp} {ys : List V} (hi : i < n) (p : Pv (i + 1) ys σ2 H5) : CSkip n i Pv σ2 H5 := ⟨n - (i + 1), by omega, rfl, hi, _, p⟩
theorem comp_list (Pv : Nat → List V → St → Hp → Prop) (h0 : Pv 0 [] σ (upd H D (.lst []))) (hl : ∀ i ys σ H, i ≤ xs.length → Pv i ys σ H → SqL K H a xs)
    (hs : ∀ i x ys σ H, xs[i]? = some x → i < xs.length → Pv i ys σ H → g x σ H fun σ2 H4 => tc σ2 H4 fun b H5 => if b = true then te σ2 H5 (CNext D xs.length i Pv σ2) else CSkip xs.length i Pv σ2 H5)
    (hd : ∀ ys σ H, Pv xs.length ys σ H → Q (.ref D) H) :
    CompW (Itl K a) g tc te D Q σ H := by
  refine ⟨fun i m σ H => m = xs.length - i ∧ i ≤ xs.length ∧ ∃ ys, Pv i ys σ H, ⟨xs.length, by simp, Nat.zero_le _, [], h0⟩, ?_⟩
  rintro i m σ H ⟨rfl, hi, ys, p⟩
  have q := hl i ys σ H hi p
  by_cases hlt : i < xs.length
  · refine .inr ⟨⟨xs, xs[i], q, by simp [hlt]⟩, fun x H' y => ?_⟩
    obtain ⟨e, y⟩ := y
    subst e
    exact hs i x ys σ _ (y xs q) hlt p
  · have e : i = xs.length := by omega
    subst e
    exact .inl ⟨⟨xs, q, Nat.le_refl _⟩, hd ys σ H p⟩
theorem comp_range {lo : Int} {n : Nat} (Pv : Nat → List V → St → Hp → Prop) (h0 : Pv 0 [] σ (upd H D (.lst [])))
    (hs : ∀ i ys σ H, i < n → Pv i ys σ H → g (.int (lo + i)) σ H fun σ2 H4 => tc σ2 H4 fun b H5 => if b = true then te σ2 H5 (CNext D n i Pv σ2) else CSkip n i Pv σ2 H5)
    (hd : ∀ ys σ H, Pv n ys σ H → Q (.ref D) H) :
    CompW (Itr lo n) g tc te D Q σ H := by
  refine ⟨fun i m σ H => m = n - i ∧ i ≤ n ∧ ∃ ys, Pv i ys σ H, ⟨n, by simp, Nat.zero_le _, [], h0⟩, ?_⟩
  rintro i m σ H ⟨rfl, hi, ys, p⟩
  by_cases hlt : i < n
  · refine .inr ⟨hlt, fun x H' y => ?_⟩
    obtain ⟨e, y⟩ := y
    subst e y
    exact hs i ys σ _ hlt p
  · have e : i = n := by omega
    subst e
    exact .inl ⟨Nat.le_refl _, hd ys σ H p⟩
end
end L2
namespace Sr
open PySem PyProof.Rows
structure Stays (kd : SortKind) (o : Array Keyed) (st : SortSt) : Prop where
  pm : (arrOf st).Perm o
  kn : kindOf st = kd
  fl : failedOf st = none
  pn : pendingOf st = #[]
section
variable {prog : Program} {w : World} {A : Around} {E : Value → Shared → Prop} {s : Shared} {o : Array Keyed} {κ : KeyKind} {kd : SortKind} {st : SortSt}
end
end Sr
namespace Sr
open PySem PyProof.Rows
theorem lex_irrefl : ∀ a : List Int, HT.lexLt a a = false
  | [] => rfl
  | x :: xs => by rw [HT.lexLt_cons, if_pos rfl]; exact lex_irrefl xs
theorem lex_trans : ∀ a b c : List Int, HT.lexLt a b = true → HT.lexLt b c = true → HT.lexLt a c = true
  | [], [], _, h, _ => by cases h
  | [], _ :: _, [], _, h => by cases h
  | [], _ :: _, _ :: _, _, _ => rfl
  | _ :: _, [], _, h, _ => by cases h
  | _ :: _, _ :: _, [], _, h => by cases h
  | x :: xs, y :: ys, z :: zs, h1, h2 => by
    rw [HT.lexLt_cons] at h1 h2 ⊢
    by_cases e1 : x = y
    · subst e1
      rw [if_pos rfl] at h1
      by_cases e2 : x = z
      · subst e2
        rw [if_pos rfl] at h2 ⊢
        exact lex_trans xs ys zs h1 h2
      · rw [if_neg e2] at h2 ⊢
        exact h2
    · rw [if_neg e1] at h1
      have l1 := of_decide_eq_true h1
      by_cases e2 : y = z
      · subst e2
        rw [if_neg e1]
        exact h1
      · rw [if_neg e2] at h2
        have l2 := of_decide_eq_true h2
        rw [if_neg (by omega)]
        exact decide_eq_true (by omega)
theorem lex_total : ∀ a b : List Int, HT.lexLt a b = false → HT.lexLt b a = false → a = b
  | [], [], _, _ => rfl
  | [], _ :: _, h, _ => by cases h
  | _ :: _, [], _, h => by cases h
  | x :: xs, y :: ys, h1, h2 => by
    rw [HT.lexLt_cons] at h1 h2
    by_cases e : x = y
    · subst e
      rw [if_pos rfl] at h1 h2
      rw [lex_total xs ys h1 h2]
    · rw [if_neg e] at h1
      rw [if_neg (Ne.symm e)] at h2
      have l1 := of_decide_eq_false h1
      have l2 := of_decide_eq_false h2
      omega
theorem lex_neg (a b c : List Int) (h : HT.lexLt a c = true) : HT.lexLt a b = true ∨ HT.lexLt b c = true := by
  cases e1 : HT.lexLt a b with
  | true => exact .inl rfl
  | false =>
    cases e2 : HT.lexLt b c with
    | true => exact .inr rfl
    | false =>
      exfalso
      cases e3 : HT.lexLt b a with
      | true =>
        have := lex_trans b a c e3 h
        rw [e2] at this
        cases this
      | false =>
        rw [lex_total a b e1 e3, e2] at h
        cases h
section
variable {prog : Program} {w : World} {A : Around} {E : Value → Shared → Prop} {s : Shared}
end
end Sr
namespace Sr
open PySem PyProof.Rows
section
variable {prog : Program} {w : World} {A : Around} {E : Value → Shared → Prop} {s : Shared}
end
end Sr
namespace L2
open PySem PySem.Spec PyProof.Rows
section
variable {X : Cx}
end
end L2
namespace L2
open PySem PySem.Spec PyProof.Rows
section
variable {X : Cx}
theorem call_sum (hc : X.calm = true) : CallR X (.builtin "sum") (fun xs H Q => ∃ p ns, xs = [.ref p] ∧ SqL X.K H p (ns.map V.int) ∧ Q (.int (List.sum ns)) H) := by
  intro pins s σ H xs us Q I r h
  obtain ⟨p, ns, rfl, hq, q⟩ := h
  obtain ⟨u, rfl, ru⟩ := vals1 r
  cases ru
  obtain ⟨its, rv, pl, hz⟩ := I.list hq
  have hi : IntsAre its ns := intsAre_of rv
  obtain ⟨zs, e⟩ := (hi.allInts).items
  have hn : numsOf its = ns := hi.numsOf
  refine sum_intListG (I.ok.hd hc) (by rw [← e]; exact pl.isList) fun h' tk t' hk => ⟨.int (List.sum ns), H, I.kept hk, ⟨t', ?_⟩, q⟩
  have e2 : its.toArray.toList = (intItems zs).toList := by rw [e]
  have e3 : numsOf its = numsOf (intItems zs).toList := by rw [← e2]
  rw [nums_intItems] at e3
  rw [preSum_eq, List.take_of_length_le (by simp), ← hn, e3]
end
end L2
namespace L2
open PySem PySem.Spec PyProof.Rows
section
variable {X : Cx} {e st : Expr} {te tst : TE} {pos p2 : Pos}
end
end L2
namespace L2
open PySem PySem.Spec PyProof.Rows
section
variable {X : Cx} (K : PySem.W.Frag) (hK : X.K = K)
include hK
theorem kix_list : IxR X (rIxL K) := by subst hK; exact ix_list
theorem kix_tup : IxR X (rIxT K) := by subst hK; exact ix_tup
theorem ksl_list : SlR X (rSlL K) := by subst hK; exact sl_list
theorem keqD (hu : X.A.units + 64 < cLine) : OpR X (compareOp .Eq) (rEqD K false) := by subst hK; exact op_eqD hu
def rLen (K : PySem.W.Frag) : List V → Hp → VK → Prop := fun xs H Q => ∃ p ys, xs = [.ref p] ∧ (SqL K H p ys ∨ SqT K H p ys) ∧ Q (.int ys.length) H
theorem klen_seq : CallR X (.builtin "len") (rLen K) := by subst hK; exact call_len_seq
def rSum (K : PySem.W.Frag) : List V → Hp → VK → Prop := fun xs H Q => ∃ p ns, xs = [.ref p] ∧ SqL K H p (ns.map V.int) ∧ Q (.int (List.sum ns)) H
theorem ksum (hc : X.calm = true) : CallR X (.builtin "sum") (rSum K) := by subst hK; exact call_sum hc
theorem kpi_list {tg l : Expr} {tl : TE} (hl : PE X l tl) : PI X tg l (iList K tl) := by subst hK; exact pi_list hl
theorem kpi_enum {es : List Expr} {k1 : Nat} {tp : Pos} {e : Expr} {ta : TA} {p pos : Pos} (hg : Gl X "enumerate") (hm : X.mg "enumerate" = none) (ha : PA X [e] ta) (hs : starEach [e] X.env = (false, eval e X.env) :: starEach [] X.env := by rfl) :
    PI X (.Tuple es k1 tp) (.Call (.Name "enumerate" p) [e] [] pos) (iEnum K ta) := by subst hK; exact pi_enum hg hm ha hs
theorem kpg_tup {es : List Expr} {k : Nat} {t : TGs} {n : Nat} {pos : Pos} (hc : X.calm = true) (h : PGs X es t) (hn : (assignEach es X.env).length = n := by rfl) (hst : (assignEach es X.env).findIdx? (·.1) = none := by rfl) :
    PG X (.Tuple es k pos) (gTup K n t) := by subst hK; exact pg_tup hc h hn hst
theorem kpe_bm {o e : Expr} {es : List Expr} {to : TE} {t : TA} {name : Str} {apos cpos : Pos} {T id : String} {r : V → List V → Hp → VK → Prop} (pa : PlainAttrs T) (slot : Slot T name id) (hty : typeOf (.builtin id) = pure (.type "method_descriptor")) (hm : MtR X id r) (ho : PE X o to) (ha : PA X (e :: es) t)
    (hbase : attributeBase o name X.env (eval o X.env) = eval o X.env := by rfl)
    (hfew : ((backTo cpos (starEach (e :: es) X.env)).all (fun x => !x.1) && (backToKw cpos (keywordEach [] X.env)).all (fun x => x.1.isSome)
      && decide ((e :: es).length + ([] : List Keyword).length + (if ([] : List Keyword).isEmpty then 0 else 1) < 30)) = true := by rfl)
    (hline : (apos.endLine == cpos.line) = true := by rfl) (hs : starEach (e :: es) X.env = (false, eval e X.env) :: starEach es X.env := by rfl) (hplain : (backTo cpos (starEach es X.env)).any (·.1) = false := by rfl) :
    PE X (.Call (.Attribute o name apos) (e :: es) [] cpos) (tBM K T r to t) := by subst hK; exact pe_bm pa slot hty hm ho ha hbase hfew hline hs hplain
end
section
variable {X : Cx}
end
end L2
namespace Mt
open PySem
def has (t o : Int) : Bool := decide (∀ k : Nat, k < 7 → o / 2 ^ k % 2 ≤ t / 2 ^ k % 2)
end Mt
namespace Mt
open PySem L2
def optV : Option Nat → V
  | none => .non
  | some i => .int i
end Mt
namespace Mt
open PySem L2
end Mt
namespace Mt
open PySem L2
end Mt
namespace Mt
open PySem L2
end Mt
namespace L2
open PySem PySem.Spec PyProof.Rows
section
variable {X : Cx} {pins : List (Addr × Obj)} {σ : St} {H : Hp} {s : Shared} {h' : Heap}
end
section
variable {X : Cx} {k : Nat} {f : Addr} {fd : FuncData} {ps : List Str} {sp : Sp}
theorem vals_back : ∀ {xs : List V} {us : List Value} {j : Nat} {u : Value}, Vals xs us → us[j]? = some u → ∃ v, xs[j]? = some v ∧ RelV v u
  | _, _, _, _, .nil, e => by simp at e
  | _, _, 0, _, .cons r _, e => by simp at e; subst e; exact ⟨_, rfl, r⟩
  | _, _, j + 1, u, .cons _ t, e => by
    obtain ⟨v, h1, h2⟩ := vals_back (j := j) (u := u) t (by simpa using e)
    exact ⟨v, by simpa using h1, h2⟩
end
end L2
namespace L2
open PySem PySem.Spec PyProof.Rows
section
variable {X : Cx} (K : PySem.W.Frag) (hK : X.K = K)
include hK
end
end L2
namespace L2
open PySem PySem.Spec PyProof.Rows
end L2
namespace L2
open PySem PySem.Spec PyProof.Rows
section
variable {X : Cx}
end
section
variable {X : Cx} (K : PySem.W.Frag) (hK : X.K = K)
include hK
end
end L2
namespace L2
open PySem PySem.Spec PyProof.Rows
end L2
namespace Mt
open PySem L2
end Mt
namespace L2
open PySem PySem.Spec PyProof.Rows
def sg (c : Nat) : Str := ⟨#[c]⟩
def Its (x : Str) : It := ⟨fun i _ => i < x.cps.size, fun i H v H' => H' = H ∧ ∃ c, x.cps[i]? = some c ∧ v = .str (sg c), fun i _ => x.cps.size ≤ i⟩
theorem turn_str {P : Program} {w : World} {K : PySem.W.Frag} {tg : Expr} {ty : String} (it : Addr) (x : Str) (t : Tok) (hty : ty = "str_ascii_iterator" ∨ ty = "str_iterator") :
    Turn P w K tg (Its x) [it] it (fun i h => h.IsStrIter it ty x t i) where
  mem := by simp
  obj := fun i h st b hb => by
    obtain rfl : b = it := by simpa using hb
    obtain ⟨o, e, c, d⟩ := st
    exact ⟨o, e, fun v z => by rw [d] at z; cases z⟩
  keep := fun i h h' st k => by
    obtain ⟨o, e, r⟩ := st
    exact ⟨o, k it (by simp) o e, r⟩
  item := by
    intro X hP hw hK hc i pins s σ H E I hf st hg
    subst hP hw hK
    obtain ⟨f0, f1, f2, f3, f4, f5⟩ := hf it (by simp)
    have W : ∀ (Q : Option Value → Shared → Prop), (∀ v h' tk, SignAt x i v → h'.IsStrIter it ty x t (i + 1) → (∀ b o, b ∉ [it] → s.heap.get? b = some o → h'.get? b = some o) → Q (some v) { s with heap := h', toks := tk }) →
        wpAny (model X.prog X.w) X.A (pyNext (.ref it)) Q E s := by
      intro Q hQ
      rcases hty with rfl | rfl
      · exact (Walks.strAscii (prog := X.prog) (w := X.w) (I.ok.hd hc) it x t).item i s Q E hg st hQ
      · exact (Walks.strWide (prog := X.prog) (w := X.w) (I.ok.hd hc) it x t).item i s Q E hg st hQ
    refine W _ fun v h' tk hv st' kk => ?_
    obtain ⟨c, u, hcx, rfl⟩ := hv
    have I1 : Inv X pins σ H { s with heap := h', toks := tk } := I.turned (fun b o hb e => kk b o (by simpa using hb) e) f0 f1 f3 f4 f5
    obtain ⟨o, e, c', d⟩ := id st'
    exact ⟨_, rfl, go_of (s := { s with heap := h', toks := tk }) e c' d (by rcases hty with rfl | rfl <;> decide) ⟨.str (sg c), H, I1, ⟨u, rfl⟩, ⟨rfl, c, hcx, rfl⟩, st', fun b hb => (hf b hb).1⟩⟩
  done := by
    intro X hP hw hK hc i pins s σ H E I hf st hg
    subst hP hw hK
    obtain ⟨f0, f1, f2, f3, f4, f5⟩ := hf it (by simp)
    have hi : x.cps.size ≤ i := hg
    rcases hty with rfl | rfl
    · exact wpAny_pyNext_ascii_end (I.ok.hd hc) st (by simpa using hi) fun h' eb => ⟨rfl, I.turned (t' := s.toks) (fun b o hb e => eb b o hb e) f0 f1 f3 f4 f5⟩
    · exact wpAny_pyNext_wide_end (I.ok.hd hc) st (by simpa using hi) fun h' eb => ⟨rfl, I.turned (t' := s.toks) (fun b o hb e => eb b o hb e) f0 f1 f3 f4 f5⟩
  self := fun A i s Q E st h => by
    rcases hty with rfl | rfl
    · exact wpAny_pyIter_striter_ascii st h
    · exact wpAny_pyIter_striter_wide st h
section
variable {X : Cx} {tg : Expr}
def iStr (tl : TE) : TI := fun σ H R => tl σ H fun v H1 => ∃ x, v = .str x ∧ R (Its x) H1
theorem pi_str {l : Expr} {tl : TE} (hl : PE X l tl) : PI X tg l (iStr tl) := by
  intro pins s σ H R I h
  refine thn (hl pins s σ H _ I h) fun v s1 ⟨y, H1, I1, r1, q1⟩ => ?_
  obtain ⟨x, rfl, q⟩ := q1
  obtain ⟨t, rfl⟩ := r1
  have fin : ∀ (ty : String) (hty : ty = "str_ascii_iterator" ∨ ty = "str_iterator"), PIE X pins σ tg R (.ref s1.heap.objs.size) { s1 with heap := s1.heap.push { cls := .type ty, data := .fields #[.str x t, .int 0 0] } } := by
    intro ty hty
    refine ⟨s1.heap.objs.size, [s1.heap.objs.size], _, _, H1, rfl, I1.kept (t' := s1.toks) fun b o e => Heap.get?_push_of_some _ e, turn_str _ x t hty, ⟨_, Heap.get?_push_size _ rfl, rfl, rfl⟩, fun b hb => ?_, q⟩
    obtain rfl : b = s1.heap.objs.size := by simpa using hb
    exact I1.fpOk (Nat.le_refl _) (I1.hok.fresh (Nat.le_refl _))
  refine wpAny_pyIter_strU ?_
  unfold strIterType
  split
  · exact fin _ (.inl rfl)
  · exact fin _ (.inr rfl)
end
theorem for_str {x : Str} {g : TG} {tb : TS} {D : Ends} {σ : St} {H : Hp} (Pv : Nat → St → Hp → Prop) (h0 : Pv 0 σ H)
    (hs : ∀ i c σ H, x.cps[i]? = some c → i < x.cps.size → Pv i σ H → g (.str (sg c)) σ H fun σ2 H2 => tb { D with nx := Pv (i + 1), ct := Pv (i + 1), bk := D.nx } σ2 H2) (hd : ∀ σ H, Pv x.cps.size σ H → D.nx σ H) :
    ∃ W : Nat → Nat → St → Hp → Prop, (∃ m, W 0 m σ H) ∧ ∀ i m σ H, W i m σ H →
      ((Its x).stop i H ∧ D.nx σ H) ∨ ((Its x).go i H ∧ ∃ N : St → Hp → Prop, (∀ σ' H', N σ' H' → ∃ m', m' < m ∧ W (i + 1) m' σ' H') ∧ ∀ v H', (Its x).yld i H v H' → g v σ H' fun σ2 H2 => tb { D with nx := N, ct := N, bk := D.nx } σ2 H2) := by
  refine ⟨fun i m σ H => m = x.cps.size - i ∧ i ≤ x.cps.size ∧ Pv i σ H, ⟨x.cps.size, by simp, Nat.zero_le _, h0⟩, ?_⟩
  rintro i m σ H ⟨rfl, hi, p⟩
  by_cases hlt : i < x.cps.size
  · refine .inr ⟨hlt, Pv (i + 1), fun σ' H' p' => ⟨x.cps.size - (i + 1), by omega, rfl, hlt, p'⟩, fun v H' y => ?_⟩
    obtain ⟨rfl, c, hc, rfl⟩ := y
    exact hs i c σ _ hc hlt p
  · have e : i = x.cps.size := by omega
    subst e
    exact .inl ⟨Nat.le_refl _, hd σ H p⟩
theorem comp_str {x : Str} {g : TG} {tc : TT} {te : TE} {D : Addr} {σ : St} {H : Hp} {Q : VK} (Pv : Nat → List V → St → Hp → Prop) (h0 : Pv 0 [] σ (upd H D (.lst [])))
    (hs : ∀ i c ys σ H, x.cps[i]? = some c → i < x.cps.size → Pv i ys σ H → g (.str (sg c)) σ H fun σ2 H4 => tc σ2 H4 fun b H5 => if b = true then te σ2 H5 (CNext D x.cps.size i Pv σ2) else CSkip x.cps.size i Pv σ2 H5)
    (hd : ∀ ys σ H, Pv x.cps.size ys σ H → Q (.ref D) H) : CompW (Its x) g tc te D Q σ H := by
  refine ⟨fun i m σ H => m = x.cps.size - i ∧ i ≤ x.cps.size ∧ ∃ ys, Pv i ys σ H, ⟨x.cps.size, by simp, Nat.zero_le _, [], h0⟩, ?_⟩
  rintro i m σ H ⟨rfl, hi, ys, p⟩
  by_cases hlt : i < x.cps.size
  · refine .inr ⟨hlt, fun v H' y => ?_⟩
    obtain ⟨rfl, c, hc, rfl⟩ := y
    exact hs i c ys σ _ hc hlt p
  · have e : i = x.cps.size := by omega
    subst e
    exact .inl ⟨Nat.le_refl _, hd ys σ H p⟩
section
variable {X : Cx}
end
section
variable {X : Cx} (K : PySem.W.Frag) (hK : X.K = K)
include hK
end
end L2
namespace Cs
open PySem L2
structure Row where
  s : Str
  w : Int
  t : Int
  n : Int
abbrev rowV (r : Row) : List V := [.str r.s, .int r.w, .int r.t, .int r.n]
def RowAt (H : Hp) (v : V) (r : Row) : Prop := ∃ a, v = .ref a ∧ H a = some (.tup (rowV r))
theorem RowAt.same {H H' : Hp} {v : V} {r : Row} (h : RowAt H v r) (s : Same H H') : RowAt H' v r := let ⟨a, e, h⟩ := h; ⟨a, e, s _ _ h⟩
theorem rows_same {H H' : Hp} {xs : List V} {rs : List Row} (h : Paired (RowAt H) xs rs) (s : Same H H') : Paired (RowAt H') xs rs := Paired.mapP h fun _ _ z => z.same s
theorem rows_upd {H : Hp} {l : Addr} {o ys : HO} {xs : List V} {rs : List Row} (h : Paired (RowAt H) xs rs) (hl : H l = some ys) (hn : ∀ z, ys ≠ .tup z) : Paired (RowAt (upd H l o)) xs rs :=
  Paired.mapP h fun x p ⟨t, e, ht⟩ => ⟨t, e, by rw [upd_ne (ne_of ht hl fun z => hn _ z.symm)]; exact ht⟩
theorem rows_len {H : Hp} {xs : List V} {rs : List Row} (h : Paired (RowAt H) xs rs) : xs.length = rs.length := Paired.length h
theorem pd_get {α β : Type} {F : α → β → Prop} : ∀ {xs : List α} {ys : List β} {i : Nat} {x : α}, Paired F xs ys → xs[i]? = some x → ∃ y, ys[i]? = some y ∧ F x y
  | _, _, _, _, .nil, e => by simp at e
  | _, _, 0, _, .cons r _, e => by simp at e; subst e; exact ⟨_, rfl, r⟩
  | _, _, i + 1, x, .cons _ t, e => by
    obtain ⟨p, h1, h2⟩ := pd_get (i := i) (x := x) t (by simpa using e)
    exact ⟨p, by simpa using h1, h2⟩
theorem pd_back {α β : Type} {F : α → β → Prop} : ∀ {xs : List α} {ys : List β} {i : Nat} {y : β}, Paired F xs ys → ys[i]? = some y → ∃ x, xs[i]? = some x ∧ F x y
  | _, _, _, _, .nil, e => by simp at e
  | _, _, 0, _, .cons r _, e => by simp at e; subst e; exact ⟨_, rfl, r⟩
  | _, _, i + 1, x, .cons _ t, e => by
    obtain ⟨p, h1, h2⟩ := pd_back (i := i) (y := x) t (by simpa using e)
    exact ⟨p, by simpa using h1, h2⟩
def CaseAt (K : PySem.W.Frag) (H : Hp) (l : Addr) (rs : List Row) : Prop := ∃ xs, SqL K H l xs ∧ Paired (RowAt H) xs rs
theorem CaseAt.same {K : PySem.W.Frag} {H H' : Hp} {l : Addr} {rs : List Row} (h : CaseAt K H l rs) (s : Same H H') : CaseAt K H' l rs := let ⟨xs, h1, h2⟩ := h; ⟨xs, s.seq h1, rows_same h2 s⟩
def place (rs : List Row) (x : Str) : Option Nat := rs.findIdx? fun r => decide (r.s = x)
theorem place_some {rs : List Row} {x : Str} {i : Nat} {r : Row} (h : rs[i]? = some r) (hx : r.s = x) (hj : ∀ (j : Nat) r', j < i → rs[j]? = some r' → r'.s ≠ x) : place rs x = some i := by
  obtain ⟨hi, e⟩ := List.getElem?_eq_some_iff.mp h
  unfold place
  rw [List.findIdx?_eq_some_iff_getElem]
  refine ⟨hi, by rw [e]; exact decide_eq_true hx, fun j hji => ?_⟩
  have := hj j rs[j] hji (List.getElem?_eq_getElem (by omega))
  rw [decide_eq_false this]
  exact Bool.false_ne_true
theorem place_none {rs : List Row} {x : Str} (hj : ∀ (j : Nat) r, j < rs.length → rs[j]? = some r → r.s ≠ x) : place rs x = none := by
  unfold place
  rw [List.findIdx?_eq_none_iff]
  intro r hr
  obtain ⟨j, hjl, e⟩ := List.getElem_of_mem hr
  exact decide_eq_false (hj j r hjl (by rw [List.getElem?_eq_getElem hjl, e]))
theorem place_spec {rs : List Row} {x : Str} {i : Nat} (h : place rs x = some i) : i < rs.length := by
  unfold place at h
  obtain ⟨hi, _⟩ := List.findIdx?_eq_some_iff_getElem.mp h
  exact hi
theorem strV {x y : Str} : decide (V.str x = V.str y) = decide (x = y) := by
  rw [decide_eq_decide]
  exact ⟨fun h => V.str.inj h, fun h => by rw [h]⟩
def wideAt (rs : List Row) (x : Str) : Int := match place rs x with
  | some i => match rs[i]? with
    | some r => r.w
    | none => 0
  | none => 0
def wideOf (rs : List Row) (x : Str) : Int := List.sum (x.cps.toList.map fun c => wideAt rs (sg c))
theorem wideAt_eq {rs : List Row} {x : Str} {k : Nat} (h : place rs x = some k) (hk : k < rs.length) : wideAt rs x = rs[k].w := by
  unfold wideAt
  rw [h]
  show (match rs[k]? with | some r => r.w | none => 0) = _
  rw [List.getElem?_eq_getElem hk]
theorem cut_any (zs : List Int) (lo hi : Option Int) : ∃ ms : List Int, cutV (zs.map V.int) lo hi = ms.map V.int ∧ ms.length ≤ zs.length := by
  unfold cutV
  rw [← List.map_drop, ← List.map_take]
  exact ⟨_, rfl, by rw [List.length_take, List.length_drop]; omega⟩
end Cs
namespace L2
open PySem PySem.Spec PyProof.Rows
section
variable {X : Cx}
end
end L2
namespace Mt
open PySem L2
end Mt
namespace Mt
open PySem L2
def upto (n : Nat) : List Int := (List.range n).map fun (k : Nat) => (k : Int)
theorem upto_len (n : Nat) : (upto n).length = n := by
  unfold upto
  rw [List.length_map, List.length_range]
def subs (own : Int) : List Int := (upto (own.toNat + 1)).filter fun b => has own b
theorem subs_len {own : Int} (h : own < 128) : (subs own).length ≤ 128 := by
  have h1 : (subs own).length ≤ (upto (own.toNat + 1)).length := List.length_filter_le _ _
  rw [upto_len] at h1
  omega
end Mt
namespace Mt
open PySem L2
def optI : Option Int → V
  | none => .non
  | some i => .int i
end Mt
namespace Mt
open PySem L2
def sb (p : Bool) : Int := if p then 1 else 0
end Mt
namespace L2
open PySem PySem.Spec PyProof.Rows
section
variable {κ : Type} [DecidableEq κ]
def valV (kvs : List (κ × V)) (k : κ) : Option V := (kvs.find? fun kv => decide (kv.1 = k)).map (·.2)
def putK (kvs : List (κ × V)) (k : κ) (v : V) : List (κ × V) :=
  if (kvs.any fun kv => decide (kv.1 = k)) = true then kvs.map (fun kv => if kv.1 = k then (kv.1, v) else kv) else kvs ++ [(k, v)]
theorem valV_pos {p : κ × V} {r : List (κ × V)} {k : κ} (e : p.1 = k) : valV (p :: r) k = some p.2 := by simp [valV, List.find?_cons, e]
theorem valV_neg {p : κ × V} {r : List (κ × V)} {k : κ} (e : ¬ p.1 = k) : valV (p :: r) k = valV r k := by simp [valV, List.find?_cons, e]
theorem valV_any (k : κ) : ∀ kvs : List (κ × V), (kvs.any fun kv => decide (kv.1 = k)) = (valV kvs k).isSome
  | [] => rfl
  | p :: r => by
    rw [List.any_cons]
    by_cases e : p.1 = k
    · simp only [valV_pos e, decide_eq_true e, Bool.true_or, Option.isSome_some]
    · rw [valV_neg e, decide_eq_false e, Bool.false_or]; exact valV_any k r
theorem valV_map (k j : κ) (y : V) : ∀ kvs : List (κ × V), valV (kvs.map fun kv => if kv.1 = k then (kv.1, y) else kv) j = (valV kvs j).map fun x => if j = k then y else x
  | [] => rfl
  | p :: r => by
    have ih := valV_map k j y r
    rw [List.map_cons]
    by_cases h : p.1 = k
    · rw [if_pos h]
      by_cases e : p.1 = j
      · rw [valV_pos (p := (p.1, y)) e, valV_pos e, Option.map_some, if_pos (e.symm.trans h)]
      · rw [valV_neg (p := (p.1, y)) e, valV_neg e, ih]
    · rw [if_neg h]
      by_cases e : p.1 = j
      · rw [valV_pos (p := p) e, valV_pos e, Option.map_some, if_neg (fun z => h (e.trans z))]
      · rw [valV_neg (p := p) e, valV_neg e, ih]
theorem valV_snoc (k j : κ) (y : V) : ∀ kvs : List (κ × V), valV kvs k = none → valV (kvs ++ [(k, y)]) j = if j = k then some y else valV kvs j
  | [], _ => by
    by_cases e : k = j
    · rw [if_pos e.symm]; exact valV_pos (p := (k, y)) e
    · rw [if_neg (fun z => e z.symm)]; exact valV_neg (p := (k, y)) e
  | p :: r, hn => by
    rw [List.cons_append]
    have hk : ¬ p.1 = k := fun z => by rw [valV_pos z] at hn; cases hn
    rw [valV_neg hk] at hn
    have ih := valV_snoc k j y r hn
    by_cases e : p.1 = j
    · rw [valV_pos e, valV_pos e, if_neg (fun z => hk (e.trans z))]
    · rw [valV_neg e, valV_neg e, ih]
theorem valV_put (kvs : List (κ × V)) (k j : κ) (y : V) : valV (putK kvs k y) j = if j = k then some y else valV kvs j := by
  unfold putK
  by_cases a : (kvs.any fun kv => decide (kv.1 = k)) = true
  · rw [if_pos a, valV_map]
    rw [valV_any] at a
    by_cases e : j = k
    · obtain ⟨x, hx⟩ := Option.isSome_iff_exists.mp a
      rw [if_pos e, e, hx, Option.map_some, if_pos rfl]
    · rw [if_neg e]
      cases valV kvs j with
      | none => rfl
      | some x => rw [Option.map_some, if_neg e]
  · rw [if_neg a]
    refine valV_snoc k j y kvs ?_
    rw [valV_any] at a
    cases q : valV kvs k with
    | none => rfl
    | some x => rw [q] at a; exact (a rfl).elim
theorem length_putK (kvs : List (κ × V)) (k : κ) (v : V) : (putK kvs k v).length ≤ kvs.length + 1 := by
  unfold putK
  split
  · rw [List.length_map]; omega
  · rw [List.length_append, List.length_cons, List.length_nil]; omega
theorem RelO.isSome_eq {o : Option V} {u : Option Value} (r : RelO o u) : o.isSome = u.isSome := by
  cases o with
  | none => cases u with
    | none => rfl
    | some _ => exact (show False from r).elim
  | some _ => cases u with
    | none => exact (show False from r).elim
    | some _ => rfl
theorem RelO.getD {o : Option V} {u : Option Value} {d : V} {d' : Value} (r : RelO o u) (rd : RelV d d') : RelV (o.getD d) (u.getD d') := by
  cases o with
  | none => cases u with
    | none => exact rd
    | some _ => exact (show False from r).elim
  | some _ => cases u with
    | none => exact (show False from r).elim
    | some _ => exact r
theorem KV.val {kvs : List (κ × V)} {vs : List (κ × Value)} (r : KV kvs vs) (k : κ) : RelO (valV kvs k) (valueAt vs k) := by
  unfold KV at r
  induction r with
  | nil => exact True.intro
  | @cons p q ps qs h t ih =>
    obtain ⟨h1, h2⟩ := h
    by_cases e : p.1 = k
    · have e' : q.1 = k := h1.symm.trans e
      have b : valueAt (q :: qs) k = some q.2 := by simp [valueAt, List.find?_cons, e']
      rw [valV_pos e, b]; exact h2
    · have e' : ¬ q.1 = k := fun z => e (h1.trans z)
      have b : valueAt (q :: qs) k = valueAt qs k := by simp [valueAt, List.find?_cons, e']
      rw [valV_neg e, b]; exact ih
theorem KV.any {kvs : List (κ × V)} {vs : List (κ × Value)} (r : KV kvs vs) (k : κ) : (kvs.any fun kv => decide (kv.1 = k)) = vs.any fun kv => decide (kv.1 = k) := by
  unfold KV at r
  induction r with
  | nil => rfl
  | cons h t ih => rw [List.any_cons, List.any_cons, ih, h.1]
theorem KV.repl {kvs : List (κ × V)} {vs : List (κ × Value)} (r : KV kvs vs) (k : κ) {y : V} {u : Value} (ry : RelV y u) :
    KV (kvs.map fun kv => if kv.1 = k then (kv.1, y) else kv) (vs.map fun kv => if kv.1 = k then (kv.1, u) else kv) := by
  unfold KV at r ⊢
  induction r with
  | nil => exact .nil
  | @cons p q ps qs h t ih =>
    rw [List.map_cons, List.map_cons]
    refine .cons ?_ ih
    obtain ⟨h1, h2⟩ := h
    by_cases e : p.1 = k
    · rw [if_pos e, if_pos (h1.symm.trans e)]; exact ⟨h1, ry⟩
    · rw [if_neg e, if_neg (fun z => e (h1.trans z))]; exact ⟨h1, h2⟩
theorem KV.put {kvs : List (κ × V)} {vs : List (κ × Value)} (r : KV kvs vs) (k : κ) {y : V} {u : Value} (ry : RelV y u) : KV (putK kvs k y) (stored vs k u) := by
  unfold putK stored
  rw [r.any k]
  by_cases e : (vs.any fun kv => decide (kv.1 = k)) = true
  · rw [if_pos e, if_pos e]; exact r.repl k ry
  · rw [if_neg e, if_neg e]; exact Paired.snoc r ⟨rfl, ry⟩
theorem KV.keys {kvs : List (κ × V)} {vs : List (κ × Value)} (r : KV kvs vs) : kvs.map (·.1) = vs.map (·.1) := by
  unfold KV at r
  induction r with
  | nil => rfl
  | cons h t ih => rw [List.map_cons, List.map_cons, ih, h.1]
theorem KV.length {kvs : List (κ × V)} {vs : List (κ × Value)} (r : KV kvs vs) : kvs.length = vs.length := Paired.length r
end
theorem kV_is {P : Program} {w : World} {k : Key} {u : Value} (r : RelV (kV k) u) : (mixKind P w).is k u = true := by
  cases k with
  | inl i => obtain ⟨t, e⟩ := (show ∃ t, u = Value.int i t from r); subst e; exact mixKind_int P w i t
  | inr x => obtain ⟨t, e⟩ := (show ∃ t, u = Value.str x t from r); subst e; exact mixKind_str P w x t
theorem items_are {P : Program} {w : World} : ∀ {ks : List Key} {us : List Value}, Vals (ks.map kV) us → ItemsAre (mixKind P w) ks us
  | [], _, r => by rw [List.map_nil] at r; cases r; exact .nil
  | k :: ks, _, r => by
    rw [List.map_cons] at r
    cases r with
    | cons h t => exact .cons (kV_is h) (items_are t)
abbrev KT (H : Hp) : List (List Key × V) → List (List Key × Addr × Value) → Prop := Paired fun p q => p.1 = q.1 ∧ H q.2.1 = some (.tup (p.1.map kV)) ∧ RelV p.2 q.2.2
theorem KT.val {H : Hp} {kvs : List (List Key × V)} {xs : List (List Key × Addr × Value)} (r : KT H kvs xs) (k : List Key) : RelO (valV kvs k) ((atKey xs k).map (·.2)) := by
  induction r with
  | nil => exact True.intro
  | @cons p q ps qs h t ih =>
    obtain ⟨h1, _, h2⟩ := h
    by_cases e : p.1 = k
    · have e' : q.1 = k := h1.symm.trans e
      have b : atKey (q :: qs) k = some q.2 := by simp [atKey, List.find?_cons, e']
      rw [valV_pos e, b]; exact h2
    · have e' : ¬ q.1 = k := fun z => e (h1.trans z)
      have b : atKey (q :: qs) k = atKey qs k := by simp [atKey, List.find?_cons, e']
      rw [valV_neg e, b]; exact ih
theorem KT.repl {H : Hp} {kvs : List (List Key × V)} {xs : List (List Key × Addr × Value)} (r : KT H kvs xs) (k : List Key) {y : V} {u : Value} (ry : RelV y u) :
    KT H (kvs.map fun kv => if kv.1 = k then (kv.1, y) else kv) (xs.map (putAt k u)) := by
  induction r with
  | nil => exact .nil
  | @cons p q ps qs h t ih =>
    rw [List.map_cons, List.map_cons]
    refine .cons ?_ ih
    obtain ⟨h1, h2, h3⟩ := h
    unfold putAt
    by_cases e : p.1 = k
    · rw [if_pos e, if_pos (h1.symm.trans e)]; exact ⟨h1, h2, ry⟩
    · rw [if_neg e, if_neg (fun z => e (h1.trans z))]; exact ⟨h1, h2, h3⟩
theorem KT.put {H : Hp} {kvs : List (List Key × V)} {xs : List (List Key × Addr × Value)} (r : KT H kvs xs) (k : List Key) {b : Addr} {y : V} {u : Value} (hb : H b = some (.tup (k.map kV))) (ry : RelV y u) :
    KT H (putK kvs k y) (storedH xs k b u) := by
  have e : (kvs.any fun kv => decide (kv.1 = k)) = (atKey xs k).isSome := by
    rw [valV_any, (r.val k).isSome_eq, Option.isSome_map]
  unfold putK storedH
  rw [e]
  by_cases q : (atKey xs k).isSome = true
  · rw [if_pos q, if_pos q]; exact r.repl k ry
  · rw [if_neg q, if_neg q]; exact Paired.snoc r ⟨rfl, hb, ry⟩
theorem KT.keeps {H H' : Hp} {kvs : List (List Key × V)} {xs : List (List Key × Addr × Value)} (r : KT H kvs xs) (ht : ∀ b ys, H b = some (.tup ys) → H' b = some (.tup ys)) : KT H' kvs xs :=
  Paired.mapP r fun _ _ z => ⟨z.1, ht _ _ z.2.1, z.2.2⟩
section
variable {P : Program} {w : World} {H : Hp} {h : Heap} {a : Addr}
theorem rd_of {u : HO} (ok : HOk P w H h) (e : Rd H a u) : ObjOk P w H h a u := e.ok ok
theorem dk_rd {kvs : List (Key × V)} (ok : HOk P w H h) (e : Rd H a (.dK kvs)) : kvs.length ≤ sizeLine ∧ (a == sysModules) = false ∧ ∃ vs, KV kvs vs ∧ h.DictOf (mixKind P w) a vs :=
  show ObjOk P w H h a (.dK kvs) from rd_of ok e
theorem dk_of {kvs : List (Key × V)} (ok : HOk P w H h) (e : H a = some (.dK kvs)) : kvs.length ≤ sizeLine ∧ (a == sysModules) = false ∧ ∃ vs, KV kvs vs ∧ h.DictOf (mixKind P w) a vs := dk_rd ok (.inl e)
theorem key_of {ks : List Key} (ok : HOk P w H h) (e : H a = some (.tup (ks.map kV))) : (tupleKind (mixKind P w)).is h ks a := by
  obtain ⟨_, its, r, o, h1, h2, n, h3⟩ := (show ObjOk P w H h a (.tup (ks.map kV)) from ok a _ e)
  exact ⟨o, its.toArray, n, h1, h2, h3, by simpa using items_are r⟩
theorem dt_rd {kvs : List (List Key × V)} (ok : HOk P w H h) (e : Rd H a (.dT kvs)) : kvs.length ≤ sizeLine ∧ (a == sysModules) = false ∧
    ∃ xs, KT H kvs xs ∧ h.DictOfH (tupleKind (mixKind P w)) a xs := by
  obtain ⟨z, y, xs, r, o, es, ep, h1, h2, h3, h4, h5⟩ := (show ObjOk P w H h a (.dT kvs) from rd_of ok e)
  refine ⟨z, y, xs, r, o, es, ep, h1, h2, h3, h4, fun x hx => ?_, h5⟩
  have all : ∀ {l : List (List Key × V)} {m : List (List Key × Addr × Value)}, KT H l m → ∀ x ∈ m, (tupleKind (mixKind P w)).is h x.1 x.2.1 := by
    intro l m q
    induction q with
    | nil => intro x hx; exact nomatch hx
    | @cons p q ps qs hq t ih =>
      intro x hx
      rcases List.mem_cons.mp hx with e | hx
      · subst e
        exact key_of ok (by rw [← hq.1]; exact hq.2.1)
      · exact ih x hx
  exact all r x hx
theorem dt_of {kvs : List (List Key × V)} (ok : HOk P w H h) (e : H a = some (.dT kvs)) : kvs.length ≤ sizeLine ∧ (a == sysModules) = false ∧
    ∃ xs, KT H kvs xs ∧ h.DictOfH (tupleKind (mixKind P w)) a xs := dt_rd ok (.inl e)
end
def DGet (H : Hp) (a : Addr) (y : V) (r : Option V) : Prop :=
  (∃ kvs k, Rd H a (.dK kvs) ∧ y = kV k ∧ r = valV kvs k) ∨ ∃ kvs k b, Rd H a (.dT kvs) ∧ y = .ref b ∧ H b = some (.tup (k.map kV)) ∧ r = valV kvs k
def DPut (H : Hp) (a : Addr) (y v : V) (H' : Hp) : Prop :=
  (∃ kvs k, H a = some (.dK kvs) ∧ y = kV k ∧ kvs.length < sizeLine ∧ H' = upd H a (.dK (putK kvs k v))) ∨
  ∃ kvs k b, H a = some (.dT kvs) ∧ y = .ref b ∧ H b = some (.tup (k.map kV)) ∧ kvs.length < sizeLine ∧ H' = upd H a (.dT (putK kvs k v))
theorem DGet.k {H : Hp} {a : Addr} {kvs : List (Key × V)} {k : Key} (e : H a = some (.dK kvs)) : DGet H a (kV k) (valV kvs k) := .inl ⟨kvs, k, .inl e, rfl, rfl⟩
theorem DGet.t {H : Hp} {a b : Addr} {kvs : List (List Key × V)} {k : List Key} (e : H a = some (.dT kvs)) (eb : H b = some (.tup (k.map kV))) : DGet H a (.ref b) (valV kvs k) := .inr ⟨kvs, k, b, .inl e, rfl, eb, rfl⟩
theorem DPut.k {H : Hp} {a : Addr} {kvs : List (Key × V)} {k : Key} {v : V} (e : H a = some (.dK kvs)) (hl : kvs.length < sizeLine) : DPut H a (kV k) v (upd H a (.dK (putK kvs k v))) := .inl ⟨kvs, k, e, rfl, hl, rfl⟩
theorem DPut.t {H : Hp} {a b : Addr} {kvs : List (List Key × V)} {k : List Key} {v : V} (e : H a = some (.dT kvs)) (eb : H b = some (.tup (k.map kV))) (hl : kvs.length < sizeLine) :
    DPut H a (.ref b) v (upd H a (.dT (putK kvs k v))) := .inr ⟨kvs, k, b, e, rfl, eb, hl, rfl⟩
section
variable {X : Cx} {pins : List (Addr × Obj)} {σ : St} {H : Hp} {s : Shared} {a : Addr} {y v : V} {u r : Value} {o : Option V} {A : Around} {E : Value → Shared → Prop}
theorem Inv.big (I : Inv X pins σ H s) : sysModules < s.heap.objs.size := by
  have h : mainGlobals < s.heap.objs.size := (I.mod.glob.keeps I.bk).lt
  exact Nat.lt_trans (by decide) h
theorem d_getItem {Q : Value → Shared → Prop} (hu : A.units + 1 < cLine) (I : Inv X pins σ H s) (g : DGet H a y (some v)) (ry : RelV y u) (h : ∀ w' s', Inv X pins σ H s' → RelV v w' → Q w' s') :
    wpAny (model X.prog X.w) A (getItem (.ref a) u) Q E s := by
  rcases g with ⟨kvs, k, e, ey, l⟩ | ⟨kvs, k, b, e, ey, eb, l⟩
  · subst ey
    obtain ⟨z, hd, vs, rel, dd⟩ := dk_rd I.hok e
    obtain ⟨w', hw, rw'⟩ := RelO.some_of (v := v) (o := valueAt vs k) (by rw [l]; exact rel.val k)
    exact wpAny_getItem_of (kV_is ry) dd.mapOf hw (h w' _ (I.tok _) rw')
  · subst ey
    cases (show u = Value.ref b from ry)
    obtain ⟨z, hd, xs, rel, dd⟩ := dt_rd I.hok e
    obtain ⟨w', hw, rw'⟩ := RelO.some_of (v := v) (o := (atKey xs k).map (·.2)) (by rw [l]; exact rel.val k)
    obtain ⟨p, hp, hp2⟩ := Option.map_eq_some_iff.mp hw
    refine wpAny_getItem_heap (tupleKind_room_in1 hu) (key_of I.hok eb) dd hp ?_
    rw [hp2]
    exact h w' _ (I.tok _) rw'
theorem d_in {Q : Value → Shared → Prop} (hu : A.units + 1 < cLine) (I : Inv X pins σ H s) (g : DGet H a y o) (ry : RelV y u) (h : ∀ s', Inv X pins σ H s' → Q (.bool o.isSome) s') :
    wpAny (model X.prog X.w) A (compareOp .In u (.ref a)) Q E s := by
  rcases g with ⟨kvs, k, e, ey, l⟩ | ⟨kvs, k, b, e, ey, eb, l⟩
  · subst ey
    obtain ⟨z, hd, vs, rel, dd⟩ := dk_rd I.hok e
    refine wpAny_in_of (kV_is ry) hd dd.mapOf ?_
    rw [← (rel.val k).isSome_eq, ← l]
    exact h _ (I.tok _)
  · subst ey
    cases (show u = Value.ref b from ry)
    obtain ⟨z, hd, xs, rel, dd⟩ := dt_rd I.hok e
    refine wpAny_in_heap (tupleKind_room_in1 hu) (key_of I.hok eb) hd dd ?_
    have q := (rel.val k).isSome_eq
    rw [Option.isSome_map] at q
    rw [← q, ← l]
    exact h _ (I.tok _)
theorem d_write {h' : Heap} {t' : Nat} {ob : HO} (I : Inv X pins σ H s) (mu : Mut (H a)) (hs : Heap.SameBut a s.heap h') (he : ∃ q, h'.get? a = some q) (new : ObjOk X.prog X.w (upd H a ob) h' a ob) :
    Inv X pins σ (upd H a ob) { s with heap := h', toks := t' } :=
  I.write (x := a) (e := a) mu (.inl rfl) (fun b q hb z => (hs.2 b hb).trans z) he new
theorem dk_new {P : Program} {w : World} {H' : Hp} {h' : Heap} {kvs : List (Key × V)} {vs : List (Key × Value)} (z : kvs.length ≤ sizeLine) (hd : (a == sysModules) = false) (rel : KV kvs vs) (dd : h'.DictOf (mixKind P w) a vs) :
    ObjOk P w H' h' a (.dK kvs) := ⟨z, hd, vs, rel, dd⟩
theorem d_setItem {H' : Hp} {Q : Unit → Shared → Prop} (hu : A.units + 1 < cLine) (I : Inv X pins σ H s) (g : DPut H a y v H') (ry : RelV y u) (rv : RelV v r) (h : ∀ s', Inv X pins σ H' s' → Q () s') :
    wpAny (model X.prog X.w) A (setItem (.ref a) u r) Q E s := by
  rcases g with ⟨kvs, k, e, ey, l, eH⟩ | ⟨kvs, k, b, e, ey, eb, l, eH⟩
  · subst ey eH
    obtain ⟨z, hd, vs, rel, dd⟩ := dk_of I.hok e
    have hz : vs.length ≤ sizeLine := by rw [← rel.length]; exact z
    have hl : (putK kvs k v).length ≤ sizeLine := by have := length_putK kvs k v; omega
    refine wpAny_setItem_pairs (hsz := hz) (kV_is ry) dd fun h' dd' hs => h _ ?_
    have he : ∃ q, h'.get? a = some q := let ⟨q, _, _, hq, _⟩ := dd'; ⟨q, hq⟩
    exact d_write I (by rw [e]; exact True.intro) hs he (dk_new hl hd (rel.put k rv) dd')
  · subst ey eH
    cases (show u = Value.ref b from ry)
    obtain ⟨z, hd, xs, rel, dd⟩ := dt_of I.hok e
    have hz : xs.length ≤ sizeLine := by rw [← Paired.length rel]; exact z
    have hl : (putK kvs k v).length ≤ sizeLine := by have := length_putK kvs k v; omega
    refine wpAny_setItem_heap (hsz := hz) (tupleKind_room_in1 hu) (key_of I.hok eb) dd fun h' dd' hs => h _ ?_
    obtain ⟨q, es, ep, hq, h2, h3, h4, _, h5⟩ := dd'
    refine d_write I (by rw [e]; exact True.intro) hs ⟨q, hq⟩ ⟨hl, hd, _, (rel.put k eb rv).keeps fun c ys ec => ?_, q, es, ep, hq, h2, h3, h4, h5⟩
    rw [upd_ne (ne_of ec e (fun z => nomatch z))]
    exact ec
end
section
variable {X : Cx} {pins : List (Addr × Obj)} {σ : St} {H : Hp} {s : Shared} {a : Addr} {kvs : List (Key × V)} {k : Key} {u : Value} {A : Around} {E : Value → Shared → Prop}
end
def NoSl (i : Expr) : Prop := ∀ ov iv, subscripted i false ov iv = operate [ov, iv] (getItem ov iv)
theorem subD_of {prog : Program} {w : World} {A : Around} {E : Value → Shared → Prop} {s : Shared} {env : Env} {value slice : Expr} {pos : Pos} {T id : String} {Q : Value → Shared → Prop}
    (hl : typeLookup (.type T) "__getitem__" = pure (some (.builtin id))) (hs : NoSl slice)
    (h : wpAny (model prog w) A (eval value env) (fun o s₁ => wpAny (model prog w) A (eval slice env) (fun i s₂ => s₂.TypeIs o T ∧ wpAny (model prog w) A (getItem o i) Q E s₂) E s₁) E s) :
    wpAny (model prog w) A (eval (.Subscript value slice pos) env) Q E s := by
  refine Subscript_ (wpAny_mono h (fun o s₁ h₁ => wpAny_mono h₁ (fun i s₂ h₂ => ?_) fun _ _ x => x) fun _ _ x => x)
  obtain ⟨hT, h₂⟩ := h₂
  unfold subscriptTail
  refine wpAny_bind ?_
  rw [getitemInPython_of_ne hT.not_modules]
  refine wpAny_bind (wpAny_specialOf hT hl ?_)
  have fin : wpAny (model prog w) A (subscripted slice false o i) (fun r s₃ => wpAny (model prog w) A (letTemporaryGo value o r >>= fun _ => pure r) Q E s₃) E s₂ := by
    rw [hs o i]
    exact wpAny_operating (wpAny_mono h₂ (fun r s₃ h₃ => wpAny_bind (wpAny_letTemporaryGo (wpAny_pure h₃))) fun _ _ x => x)
  first
    | exact wpAny_pure (wpAny_bind fin)
    | exact wpAny_bind (wpAny_pure (wpAny_bind fin))
    | exact wpAny_bind fin
theorem dict_typeIs {X : Cx} {pins : List (Addr × Obj)} {σ : St} {H : Hp} {s : Shared} {a : Addr} {y : V} {o : Option V} (I : Inv X pins σ H s) (g : DGet H a y o) : s.TypeIs (.ref a) "dict" := by
  rcases g with ⟨kvs, k, e, _, _⟩ | ⟨kvs, k, b, e, _, _, _⟩
  · obtain ⟨_, _, vs, _, dd⟩ := dk_rd I.hok e
    exact dd.typeIs
  · obtain ⟨_, _, xs, _, dd⟩ := dt_rd I.hok e
    exact dd.typeIs
def tDGet (td ty : TE) : TE := fun σ H Q => td σ H fun x H1 => ty σ H1 fun y H2 => ∃ a v, x = .ref a ∧ DGet H2 a y (some v) ∧ Q v H2
def tDIn (ty td : TE) : TE := fun σ H Q => ty σ H fun y H1 => td σ H1 fun x H2 => ∃ a o, x = .ref a ∧ DGet H2 a y o ∧ Q (.bl o.isSome) H2
def sDPut (td ty tv : TE) : TS := fun D σ H => tv σ H fun v H1 => td σ H1 fun x H2 => ty σ H2 fun y H3 => ∃ a H4, x = .ref a ∧ DPut H3 a y v H4 ∧ D.nx σ H4
section
variable {X : Cx} {o i e value : Expr} {pos pos' tpos : Pos} {td ty tv : TE}
theorem pe_dget (hu : X.A.units + 1 < cLine) (ho : PE X o td) (hi : PE X i ty) (hs : NoSl i) : PE X (.Subscript o i pos) (tDGet td ty) := by
  intro pins s σ H Q I h
  refine subD_of PySem.F.slot_dict_getitem.lookup hs (thn (ho pins s σ H _ I h) fun u s1 ⟨x, H1, I1, rx, q1⟩ => thn (hi pins s1 σ H1 _ I1 q1) fun iv s2 ⟨y, H2, I2, ry, a, v, ex, g, q2⟩ => ?_)
  subst ex
  obtain rfl : u = Value.ref a := rx
  exact ⟨dict_typeIs I2 g, d_getItem hu I2 g ry fun w' s3 I3 rw' => ⟨v, H2, I3, rw', q2⟩⟩
theorem pc_din (hu : X.A.units + 1 < cLine) (hi : PE X i ty) (ho : PE X o td) : PC X .In i o (tDIn ty td) := by
  intro pins s σ H Q I h
  refine thn (hi pins s σ H _ I h) fun iv s1 ⟨y, H1, I1, ry, q1⟩ => thn (ho pins s1 σ H1 _ I1 q1) fun u s2 ⟨x, H2, I2, rx, a, ov, ex, g, q2⟩ => ?_
  subst ex
  obtain rfl : u = Value.ref a := rx
  exact d_in hu I2 g ry fun s3 I3 => ⟨.bl ov.isSome, H2, I3, rfl, q2⟩
theorem ps_dput (hu : X.A.units + 1 < cLine) (ho : PE X o td) (hi : PE X i ty) (hv : PE X value tv) (hs : swapsWith value (some (.Subscript o i pos')) pos.line X.env = pure false) :
    PS X (.Assign [.Subscript o i pos'] value pos) (sDPut td ty tv) := by
  intro pins s σ H D I h
  refine wpAny_Assign_Subscript (thn (hv pins s σ H _ I h) fun r s1 ⟨v, H1, I1, rv, q1⟩ => thn (ho pins s1 σ H1 _ I1 q1) fun u s2 ⟨x, H2, I2, rx, q2⟩ => thn (hi pins s2 σ H2 _ I2 q2) fun iv s3 ⟨y, H3, I3, ry, a, H4, ex, g, q3⟩ => ?_) hs
  subst ex
  obtain rfl : u = Value.ref a := rx
  exact d_setItem hu I3 g ry rv fun s4 I4 => ⟨σ, H4, I4, q3⟩
end
theorem dk_empty {P : Program} {w : World} {H : Hp} (h : Heap) (hb : sysModules < h.objs.size) : ObjOk P w H (h.push { cls := .type "dict", data := .dict #[] }) h.objs.size (.dK []) :=
  ⟨Nat.zero_le _, beq_eq_false_iff_ne.mpr (Ne.symm (Nat.ne_of_lt hb)), [], .nil, Heap.DictOf.new h⟩
theorem dt_empty {P : Program} {w : World} {H : Hp} (h : Heap) (hb : sysModules < h.objs.size) : ObjOk P w H (h.push { cls := .type "dict", data := .dict #[] }) h.objs.size (.dT []) :=
  ⟨Nat.zero_le _, beq_eq_false_iff_ne.mpr (Ne.symm (Nat.ne_of_lt hb)), [], .nil, _, #[], 0, Heap.get?_push_size _ rfl, ⟨rfl, rfl, rfl⟩, rfl, rfl, List.nodup_nil⟩
def tDNewK : TE := fun _ H Q => ∀ p, H p = none → Q (.ref p) (upd H p (.dK []))
def tDNewT : TE := fun _ H Q => ∀ p, H p = none → Q (.ref p) (upd H p (.dT []))
section
variable {X : Cx} {pos : Pos}
theorem pe_dnewK : PE X (.Dict [] [] pos) tDNewK := fun pins s σ H Q I h =>
  wpAny_Dict_empty ⟨.ref s.heap.objs.size, _, I.laid (a := s.heap.objs.size) (o := .dK []) (t' := s.toks) (fun _ _ q => Heap.get?_push_of_some _ q) (Nat.le_refl _) (dk_empty s.heap I.big), rfl, h _ (I.hok.fresh (Nat.le_refl _))⟩
theorem pe_dnewT : PE X (.Dict [] [] pos) tDNewT := fun pins s σ H Q I h =>
  wpAny_Dict_empty ⟨.ref s.heap.objs.size, _, I.laid (a := s.heap.objs.size) (o := .dT []) (t' := s.toks) (fun _ _ q => Heap.get?_push_of_some _ q) (Nat.le_refl _) (dt_empty s.heap I.big), rfl, h _ (I.hok.fresh (Nat.le_refl _))⟩
end
section
variable {X : Cx} {pins : List (Addr × Obj)} {σ : St} {H : Hp} {s : Shared} {a : Addr} {y d : V} {u r : Value} {o : Option V} {A : Around} {E : Value → Shared → Prop}
end
section
variable {X : Cx} {o e f : Expr} {apos cpos : Pos} {td ty tx : TE}
end
section
variable {X : Cx} {pins : List (Addr × Obj)} {σ : St} {H : Hp} {s : Shared} {a : Addr} {kvs : List (Key × V)} {A : Around} {E : Value → Shared → Prop}
end
section
variable {X : Cx} {pins : List (Addr × Obj)} {σ : St} {H : Hp} {s : Shared} {a : Addr} {y : V} {u : Value} {A : Around} {E : Value → Shared → Prop}
end
end L2
namespace L2
open PySem PySem.Spec PyProof.Rows
section
variable {X : Cx}
end
section
variable {κ : Type} [DecidableEq κ]
end
end L2
namespace Cs
open PySem L2
def wdict (rs : List Row) : List (Key × V) := rs.foldl (fun kvs r => putK kvs (.inr r.s) (.int r.w)) []
theorem wdict_snoc (rs : List Row) (r : Row) : wdict (rs ++ [r]) = putK (wdict rs) (.inr r.s) (.int r.w) := by
  unfold wdict
  rw [List.foldl_append]
  rfl
theorem wdict_at : ∀ (n : Nat) (rs : List Row), rs.length = n → (rs.map fun r => r.s).Nodup → ∀ r ∈ rs, valV (wdict rs) (.inr r.s) = some (.int r.w)
  | 0, rs, hn, _, r, hr => by
    rw [List.eq_nil_of_length_eq_zero hn] at hr
    cases hr
  | n + 1, rs, hn, hnd, r, hr => by
    obtain ⟨ys, y, rfl⟩ : ∃ ys y, rs = ys ++ [y] := ⟨rs.dropLast, rs.getLast (fun z => by rw [z] at hn; cases hn), (List.dropLast_concat_getLast _).symm⟩
    rw [List.map_append] at hnd
    have hd := List.nodup_append.mp hnd
    rw [wdict_snoc, valV_put]
    rcases List.mem_append.mp hr with h | h
    · have hne : (Sum.inr r.s : Key) ≠ Sum.inr y.s := fun z => by
        have e : r.s = y.s := Sum.inr.inj z
        exact hd.2.2 r.s (List.mem_map_of_mem h) y.s (by simp) e
      rw [if_neg hne]
      exact wdict_at n ys (by rw [List.length_append] at hn; exact Nat.succ.inj hn) hd.1 r h
    · rw [List.mem_singleton.mp h, if_pos rfl]
theorem wdict_len (rs : List Row) : (wdict rs).length ≤ rs.length := by
  have h : ∀ (n : Nat) (rs : List Row), rs.length = n → (wdict rs).length ≤ rs.length := by
    intro n
    induction n with
    | zero =>
      intro rs hn
      rw [List.eq_nil_of_length_eq_zero hn]
      exact Nat.le_refl _
    | succ n ih =>
      intro rs hn
      obtain ⟨ys, y, rfl⟩ : ∃ ys y, rs = ys ++ [y] := ⟨rs.dropLast, rs.getLast (fun z => by rw [z] at hn; cases hn), (List.dropLast_concat_getLast _).symm⟩
      have h1 := ih ys (by rw [List.length_append] at hn; exact Nat.succ.inj hn)
      rw [wdict_snoc, List.length_append]
      have h2 := length_putK (wdict ys) (Sum.inr y.s : Key) (V.int y.w)
      show _ ≤ ys.length + 1
      omega
  exact h rs.length rs rfl
def bodyOf (rs : List Row) (ws : List Str) : Int := List.sum (ws.map fun x => wideOf rs x)
theorem place_row {rs : List Row} {x : Str} {k : Nat} (h : place rs x = some k) : ∃ r, rs[k]? = some r ∧ r.s = x := by
  unfold place at h
  obtain ⟨hi, h1, _⟩ := List.findIdx?_eq_some_iff_getElem.mp h
  exact ⟨rs[k], List.getElem?_eq_getElem hi, of_decide_eq_true h1⟩
theorem wdict_wide {rs : List Row} (hnd : (rs.map fun r => r.s).Nodup) {x : Str} (h : (place rs x).isSome = true) : valV (wdict rs) (.inr x) = some (.int (wideAt rs x)) := by
  obtain ⟨k, hk⟩ := Option.isSome_iff_exists.mp h
  obtain ⟨r, hr, e⟩ := place_row hk
  obtain ⟨hkl, er⟩ := List.getElem?_eq_some_iff.mp hr
  rw [wideAt_eq hk hkl, er, ← e]
  exact wdict_at rs.length rs rfl hnd r (List.mem_of_getElem? hr)
end Cs
namespace L2
open PySem
theorem bt_min : bootBuiltins "min" = some (.builtin "min") := by decide +kernel
theorem bt_max : bootBuiltins "max" = some (.builtin "max") := by decide +kernel
end L2
namespace L2
open PySem PySem.Spec PyProof.Rows
def Least (g : Nat → Int) (n : Nat) (m : Int) : Prop := (∃ i, i < n ∧ g i = m) ∧ ∀ i, i < n → m ≤ g i
theorem Least.one {g : Nat → Int} : Least g 1 (g 0) := ⟨⟨0, by omega, rfl⟩, fun i hi => by
  have e : i = 0 := by omega
  subst e
  exact Int.le_refl _⟩
theorem Least.yes {g : Nat → Int} {n : Nat} {m : Int} (h : Least g n m) (hl : g n < m) : Least g (n + 1) (g n) := ⟨⟨n, by omega, rfl⟩, fun i hi => by
  by_cases e : i = n
  · subst e; exact Int.le_refl _
  · have := h.2 i (by omega)
    omega⟩
theorem Least.no {g : Nat → Int} {n : Nat} {m : Int} (h : Least g n m) (hl : ¬ g n < m) : Least g (n + 1) m := ⟨by obtain ⟨i, hi, e⟩ := h.1; exact ⟨i, by omega, e⟩, fun i hi => by
  by_cases e : i = n
  · subst e; omega
  · exact h.2 i (by omega)⟩
def Held (g : Nat → Int) (j : Nat) (arr : Array Value) : Prop := (j = 0 ∧ arr = #[]) ∨ ∃ m t, arr = #[.int m t, .int m t] ∧ Least g j m
def Told (g : Nat → Int) (n : Nat) (d v : Value) : Prop := (n = 0 ∧ v = d) ∨ ∃ m t, v = .int m t ∧ Least g n m
def bestObj (arr : Array Value) (c : Nat) : Obj := { cls := .type "list", dict := none, data := .seq arr c, slots := #[] }
section
variable {P : Program} {w : World} {A : Around} {R : Result → Shared → Prop} {it : Addr} {fp wr : List Addr} {n : Nat} {Pr : Nat → Value → Prop} {St : Nat → Heap → Prop}
theorem mnd_end (W : Walks P w A.in1 it fp wr n Pr St) (g : Nat → Int) (B : Addr) (hB : B ∉ fp) (d : Value) (s : Shared) (arr : Array Value) (c : Nat) (st : St n s.heap) (ho : s.heap.get? B = some (bestObj arr c)) (hh : Held g n arr)
    (q : ∀ v h' tk, Told g n d v → (∀ b o, b ∉ wr → b ≠ B → s.heap.get? b = some o → h'.get? b = some o) → R (.ok (.ret v)) { s with heap := h', toks := tk }) :
    codeAny (model P w) A (.builtin "min.loop" ⟨[.ref it, .none, .ref B], [(Str.ofString "default", d)]⟩) R s := by
  have hBw : B ∉ wr := fun h => hB (W.sub _ h)
  refine codeAny_builtin F.entry_min_loop ?_
  rw [Around.under_plainId F.plain_min_loop _]
  refine wpAny_bind (m := seqItems? (.ref B)) (wpAny_seqItems ho rfl ?_)
  rcases hh with ⟨rfl, rfl⟩ | ⟨m, t, rfl, hl⟩
  · refine wpAny_bind (m := tryCatch (pyNext (.ref it)) _) (wpAny_tryCatch (W.done s _ _ st fun h' tk hk => ?_))
    refine wpAny_bind (m := rule _) (wpAny_rule ?_)
    exact wpAny_pure (q d h' tk (.inl ⟨rfl, rfl⟩) fun b o hbw _ e => hk b o hbw e)
  · refine wpAny_bind (m := tryCatch (pyNext (.ref it)) _) (wpAny_tryCatch (W.done s _ _ st fun h' tk hk => ?_))
    have hB' := hk B _ hBw ho
    refine wpAny_bind (m := updateSeq B (fun _ => #[])) (wpAny_updateSeq hB' rfl (wpAny_bind (wpAny_letGo (wpAny_pure ?_))))
    exact q _ _ tk (.inr ⟨m, t, rfl, hl⟩) fun b o hbw hbS e => (Heap.get?_update_other _ _ (Ne.symm hbS)).trans (hk b o hbw e)
theorem mnd_loop (W : Walks P w A.in1 it fp wr n Pr St) (g : Nat → Int) (hg : ∀ (i : Nat) (v : Value), Pr i v → ∃ t, v = Value.int (g i) t) (B : Addr) (hB : B ∉ fp) (d : Value) :
    ∀ (k j : Nat) (s : Shared) (arr : Array Value) (c : Nat), n - j = k → j ≤ n → St j s.heap → s.heap.get? B = some (bestObj arr c) → Held g j arr →
    (∀ v h' tk, Told g n d v → (∀ b o, b ∉ wr → b ≠ B → s.heap.get? b = some o → h'.get? b = some o) → R (.ok (.ret v)) { s with heap := h', toks := tk }) →
    codeAny (model P w) A (.builtin "min.loop" ⟨[.ref it, .none, .ref B], [(Str.ofString "default", d)]⟩) R s := by
  have hBw : B ∉ wr := fun h => hB (W.sub _ h)
  have hnm : (toString "min" ++ toString ".loop" : String) = "min.loop" := by decide
  have hcmp := CmpOf.ints_lt (prog := P) (w := w) (A := A.in1) g hg
  intro k
  induction k with
  | zero =>
    intro j s arr c hk hj st ho hh q
    have e : j = n := by omega
    subst e
    exact mnd_end W g B hB d s arr c st ho hh q
  | succ k ih =>
    intro j s arr c hk hj st ho hh q
    have hlt : j < n := by omega
    refine codeAny_builtin F.entry_min_loop ?_
    rw [Around.under_plainId F.plain_min_loop _]
    refine wpAny_bind (m := seqItems? (.ref B)) (wpAny_seqItems ho rfl ?_)
    rcases hh with ⟨rfl, rfl⟩ | ⟨m, t, rfl, hl⟩
    · refine wpAny_bind (m := tryCatch (pyNext (.ref it)) _) (wpAny_tryCatch (W.item 0 s _ _ hlt st fun v h' tk hP st' hk' => ?_))
      have hB' := hk' B _ hBw ho
      obtain ⟨t, rfl⟩ := hg 0 v hP
      refine wpAny_bind (m := updateSeq B (fun _ => #[.int (g 0) t, .int (g 0) t])) (wpAny_updateSeq hB' rfl ?_)
      rw [hnm]
      refine wpAny_pure ⟨plainId_quiet F.plain_min_loop _, ih 1 _ _ _ (by omega) hlt (W.frame _ _ _ st' fun b hbf o e => ?_) (Heap.get?_update_self _ hB' rfl) (.inr ⟨g 0, t, rfl, .one⟩) fun v h2 tk2 ht2 hk2 => ?_⟩
      · exact (Heap.get?_update_other _ _ (fun h : B = b => hB (h ▸ hbf))).trans e
      · exact q v h2 tk2 ht2 fun b o hbw hbS e => hk2 b o hbw hbS ((Heap.get?_update_other _ _ (Ne.symm hbS)).trans (hk' b o hbw e))
    · refine wpAny_bind (m := tryCatch (pyNext (.ref it)) _) (wpAny_tryCatch (W.item j s _ _ hlt st fun v h' tk hP st' hk' => ?_))
      have hB' := hk' B _ hBw ho
      obtain ⟨t2, rfl⟩ := hg j v hP
      have cmp : ∀ (s1 : Shared) (Q : Value → Shared → Prop) (E : Value → Shared → Prop), Q (.bool (decide (g j < m))) s1 → wpAny (model P w) A.in1 (richCompare .Lt (.int (g j) t2) (.int m t)) Q E s1 := fun s1 Q E h =>
        richCompare_gives (op := .Lt) (typeIs_int s1 _ t2) (typeIs_int s1 _ t) F.slot_int_lt F.entry_int_lt (F.args_int_lt_2 _ _) (gives_int_lt _ _ t2 t) (fun x => nomatch x) h
      refine wpAny_bind (m := tryCatch (holding [_, _] (richCompare .Lt (.int (g j) t2) (.int m t) >>= _)) _) (wpAny_tryCatch (wpAny_holding (wpAny_bind (cmp _ _ _ ?_))))
      refine wpAny_bind (wpAny_holding (wpAny_truthy_bool ?_))
      refine wpAny_bind (wpAny_letGo (wpAny_pure ?_))
      by_cases hb : g j < m
      · rw [decide_eq_true hb]
        simp only [if_true]
        refine wpAny_bind (m := updateSeq B (fun _ => #[.int (g j) t2, .int (g j) t2])) (wpAny_updateSeq hB' rfl (wpAny_bind (wpAny_letGo ?_)))
        rw [hnm]
        refine wpAny_pure ⟨plainId_quiet F.plain_min_loop _, ih (j + 1) _ _ _ (by omega) hlt (W.frame _ _ _ st' fun b hbf o e => ?_) (Heap.get?_update_self _ hB' rfl) (.inr ⟨g j, t2, rfl, hl.yes hb⟩) fun v h2 tk2 ht2 hk2 => ?_⟩
        · exact (Heap.get?_update_other _ _ (fun h : B = b => hB (h ▸ hbf))).trans e
        · exact q v h2 tk2 ht2 fun b o hbw hbS e => hk2 b o hbw hbS ((Heap.get?_update_other _ _ (Ne.symm hbS)).trans (hk' b o hbw e))
      · rw [decide_eq_false hb]
        simp only [Bool.false_eq_true, if_false]
        refine wpAny_bind (wpAny_letGo ?_)
        rw [hnm]
        refine wpAny_pure ⟨plainId_quiet F.plain_min_loop _, ih (j + 1) _ _ _ (by omega) hlt st' hB' (.inr ⟨m, t, rfl, hl.no hb⟩) fun v h2 tk2 ht2 hk2 => ?_⟩
        exact q v h2 tk2 ht2 fun b o hbw hbS e => hk2 b o hbw hbS (hk' b o hbw e)
end
section
variable {P : Program} {w : World} {A : Around} {E : Value → Shared → Prop} {s : Shared}
theorem args_mnd (a d : Value) : argsOk "min" ⟨[a], [(Str.ofString "default", d)]⟩ := by unfold argsOk; kernel_rfl
theorem fn_tree_kw {id : String} {f : Builtin} {xs : List Value} {kw : List (Str × Value)} {Q : Value → Shared → Prop} (k1 : builtinKind id = none) (k2 : plainId id = true) (k3 : entryFor table id = some f) (k4 : argsOk id ⟨xs, kw⟩)
    (k5 : wpAny (model P w) A.in1 (f ⟨xs, kw⟩) (fun z s1 => match z with
      | .done y => (match (Except.ok y : Result) with | .ok (.ret v) => Q v s1 | .ok _ => False | .error e => E e s1)
      | .again y => y.quiet = true ∧ codeAny (model P w) A y (fun r s1 => match r with | .ok (.ret v) => Q v s1 | .ok _ => False | .error e => E e s1) s1) E s) :
    wpAny (model P w) A (call (.builtin id) xs kw) Q E s := by
  refine wpAny_call (codeAny_call_builtin k2 k3 ?_)
  simp only [checkBuiltinCall, k1]
  cases e : Manifest.signature? id with
  | none => exact wpAny_pure k5
  | some sg =>
    have k6 : Bind.checkArgs id sg ⟨xs, kw⟩ = pure () := by simpa only [argsOk, e] using k4
    simp only [k6]
    exact wpAny_pure k5
theorem mnd_call {l : Addr} {its : Array Value} {g : Nat → Int} {d : Value} {Q : Value → Shared → Prop} (hh : A.handled = none) (hl : s.heap.IsList l its) (hg : ∀ (i : Nat) (v : Value), its[i]? = some v → ∃ t, v = Value.int (g i) t)
    (q : ∀ v h' tk, Told g its.size d v → (∀ b o, s.heap.get? b = some o → h'.get? b = some o) → Q v { s with heap := h', toks := tk }) :
    wpAny (model P w) A (call (.builtin "min") [.ref l] [(Str.ofString "default", d)]) Q E s := by
  have hnm : (toString "min" ++ toString ".loop" : String) = "min.loop" := by decide
  have hlt : l < s.heap.objs.size := by obtain ⟨_, e, _⟩ := hl; exact Heap.lt_size e
  refine fn_tree_kw F.kind_min F.plain_min F.entry_min (args_mnd _ _) ?_
  refine wpAny_bind (m := Builtin.Builtins.bindParams "min" ["key", "default"] 0 ⟨[], [(Str.ofString "default", d)]⟩) (wpAny_of_eq (show Builtin.Builtins.bindParams "min" ["key", "default"] 0 ⟨[], [(Str.ofString "default", d)]⟩ = pure [none, some d] from rfl) ?_)
  refine wpAny_bind (wpAny_pure ?_)
  refine wpAny_bind (m := pyIter (.ref l)) (wpAny_pyIter_list hl ?_)
  refine wpAny_bind (wpAny_newObj_type ?_)
  rw [hnm]
  have hsz : (s.heap.push { cls := .type "list_iterator", data := .fields #[.ref l, .int 0 0] }).objs.size = s.heap.objs.size + 1 := Heap.size_push ..
  have W := Walks.list (prog := P) (w := w) (A := A.in1) hh s.heap.objs.size l (Nat.ne_of_lt hlt) its
  refine wpAny_pure ⟨plainId_quiet F.plain_min_loop _, mnd_loop W g hg _ ?_ d its.size 0 _ #[] 0 rfl (Nat.zero_le _) ?_ (Heap.get?_push_size _ rfl) (.inl ⟨rfl, rfl⟩) fun v h' tk ht hk => ?_⟩
  · rw [hsz]
    intro hm
    rcases List.mem_cons.mp hm with e | hm
    · exact Nat.succ_ne_self _ e
    · rcases List.mem_cons.mp hm with e | hm
      · exact absurd hlt (Nat.not_lt_of_le (Nat.le_trans (Nat.le_succ _) (Nat.le_of_eq e)))
      · cases hm
  · exact ⟨⟨_, Heap.get?_push_of_some _ (Heap.get?_push_size _ rfl), rfl, rfl⟩, (hl.push _).push _⟩
  · refine q v h' tk ht fun b o e => hk b o ?_ ?_ (Heap.get?_push_of_some _ (Heap.get?_push_of_some _ e))
    · intro hm
      rcases List.mem_cons.mp hm with e1 | hm
      · exact absurd (e1 ▸ Heap.lt_size e) (Nat.lt_irrefl _)
      · cases hm
    · rw [hsz]
      exact Nat.ne_of_lt (Nat.lt_succ_of_lt (Heap.lt_size e))
end
def leastO : List Int → Option Int
  | [] => none
  | x :: r => some (r.foldl (fun a b => if b < a then b else a) x)
theorem least_fold : ∀ (r : List Int) (x : Int), (r.foldl (fun a b => if b < a then b else a) x = x ∨ r.foldl (fun a b => if b < a then b else a) x ∈ r) ∧ r.foldl (fun a b => if b < a then b else a) x ≤ x ∧ ∀ y ∈ r, r.foldl (fun a b => if b < a then b else a) x ≤ y
  | [], x => ⟨.inl rfl, Int.le_refl _, fun _ h => nomatch h⟩
  | z :: r, x => by
    obtain ⟨h1, h2, h3⟩ := least_fold r (if z < x then z else x)
    rw [List.foldl_cons]
    have hle : (if z < x then z else x) ≤ x ∧ (if z < x then z else x) ≤ z := by split <;> constructor <;> omega
    have heq : (if z < x then z else x) = x ∨ (if z < x then z else x) = z := by split <;> simp
    refine ⟨?_, by omega, fun y hy => ?_⟩
    · rcases h1 with h1 | h1
      · rcases heq with e | e
        · exact .inl (h1.trans e)
        · exact .inr (by rw [h1, e]; exact List.mem_cons_self)
      · exact .inr (List.mem_cons_of_mem _ h1)
    · rcases List.mem_cons.mp hy with rfl | hy
      · omega
      · exact h3 y hy
theorem leastO_some {xs : List Int} {m : Int} : leastO xs = some m ↔ m ∈ xs ∧ ∀ y ∈ xs, m ≤ y := by
  cases xs with
  | nil => exact ⟨fun h => (by cases h), fun h => absurd h.1 List.not_mem_nil⟩
  | cons x r =>
    obtain ⟨h1, h2, h3⟩ := least_fold r x
    have hmem : r.foldl (fun a b => if b < a then b else a) x ∈ x :: r := by
      rcases h1 with e | e
      · rw [e]; exact List.mem_cons_self
      · exact List.mem_cons_of_mem _ e
    have hall : ∀ y ∈ x :: r, r.foldl (fun a b => if b < a then b else a) x ≤ y := fun y hy => by
      rcases List.mem_cons.mp hy with rfl | hy
      · exact h2
      · exact h3 y hy
    constructor
    · intro h
      cases h
      exact ⟨hmem, hall⟩
    · intro ⟨h4, h5⟩
      have a1 := h5 _ hmem
      have a2 := hall _ h4
      show some _ = some m
      rw [show r.foldl (fun a b => if b < a then b else a) x = m by omega]
theorem leastO_none {xs : List Int} : leastO xs = none ↔ xs = [] := by
  cases xs with
  | nil => exact ⟨fun _ => rfl, fun _ => rfl⟩
  | cons x r => exact ⟨fun h => (by cases h), fun h => (by cases h)⟩
section
variable {X : Cx}
def rMinD (K : PySem.W.Frag) : V → Hp → VK → Prop := fun v H Q => ∃ a ns, v = .ref a ∧ SqL K H a (ns.map V.int) ∧ Q (Mt.optI (leastO ns)) H
theorem bt_min' : bootBuiltins "min" = some (.builtin "min") := by decide +kernel
theorem bt_max' : bootBuiltins "max" = some (.builtin "max") := by decide +kernel
theorem pe_minD {e : Expr} {te : TE} {p p2 pos kpos : Pos} {p0 : _} (hc : X.calm = true) (hg : Gl X "min") (hm : X.mg "min" = none) (he : PE X e te)
    (h1 : backTo pos (starEach [e] X.env) = (false, eval e X.env) :: backTo pos (starEach [] X.env) := by rfl) (h2 : (backTo pos (starEach [e] X.env)).any (·.1) = false := by rfl) (h3 : starEach [e] X.env = (false, eval e X.env) :: starEach [] X.env := by rfl) :
    PE X (.Call (.Name "min" p) [e] [⟨some "default", .Constant .none p0 p2, kpos⟩] pos) (fun σ H Q => te σ H fun v H1 => rMinD X.K v H1 Q) := by
  intro pins s σ H Q I h
  refine wpAny_Call_Name_kw (ld_blt I hg hm bt_min' ?_ (by decide) (by decide))
  refine callWith_kw (thn ((pa_cons he pa_nil h3) pos pins s σ H (fun vs H1 => match vs with | [v] => rMinD X.K v H1 Q | _ => False) I h) fun us s1 ⟨vs, H1, I1, r1, q1⟩ => ?_) h1 h2
  match vs, r1, q1 with
  | [], _, q1 => exact q1.elim
  | _ :: _ :: _, _, q1 => exact q1.elim
  | [v], r1, q1 =>
  obtain ⟨u, rfl, ru⟩ := vals1 r1
  refine thn ((pk_cons pe_non pk_nil) pos pins s1 σ H1 (fun zs H2 => zs = [.non] ∧ H2 = H1) I1 ⟨rfl, rfl⟩) fun ws s2 ⟨zs, H2, I2, rz, e1, e2⟩ => ?_
  subst e1 e2
  obtain ⟨w', rfl, rw'⟩ := vals1 rz
  cases rw'
  obtain ⟨a, ns, rfl, hq, q⟩ := q1
  cases ru
  obtain ⟨its, rv, pl, hz⟩ := I2.list hq
  have hi : IntsAre its ns := intsAre_of rv
  have hil := hi.length
  have at_ : ∀ (i : Nat) (v : Value), its.toArray[i]? = some v → ∃ t, v = Value.int (ns.getD i 0) t := fun i v e => by
    rw [List.getElem?_toArray] at e
    obtain ⟨x, h4, h5⟩ := vals_back rv e
    obtain ⟨z, rfl, h6⟩ := map_int_get h4
    rw [List.getD_eq_getElem?_getD, h6]
    exact h5
  refine mnd_call (g := fun i => ns.getD i 0) (d := .none) (I2.ok.hd hc) pl.isList at_ fun v h' tk ht hk => ?_
  rw [List.size_toArray, hil] at ht
  have val : ∃ v', RelV v' v ∧ v' = Mt.optI (leastO ns) := by
    rcases ht with ⟨e, rfl⟩ | ⟨m, t, rfl, ⟨i, hi', e⟩, hl⟩
    · have : ns = [] := List.length_eq_zero_iff.mp e
      subst this
      exact ⟨.non, rfl, rfl⟩
    · refine ⟨.int m, ⟨t, rfl⟩, ?_⟩
      have : leastO ns = some m := leastO_some.mpr ⟨?_, fun y hy => ?_⟩
      · rw [this]; rfl
      · have e : ns.getD i 0 = m := e
        rw [← e, List.getD_eq_getElem?_getD, List.getElem?_eq_getElem hi']
        exact List.getElem_mem hi'
      · obtain ⟨j, hj, rfl⟩ := List.getElem_of_mem hy
        have this : m ≤ ns.getD j 0 := hl j hj
        rw [List.getD_eq_getElem?_getD, List.getElem?_eq_getElem hj] at this
        exact this
  obtain ⟨v', rv', rfl⟩ := val
  exact ⟨_, H2, I2.kept hk, rv', q⟩
def greatO : List Int → Option Int
  | [] => none
  | x :: r => some (r.foldl (fun a b => if b > a then b else a) x)
theorem great_fold : ∀ (r : List Int) (x : Int), (r.foldl (fun a b => if b > a then b else a) x = x ∨ r.foldl (fun a b => if b > a then b else a) x ∈ r) ∧ x ≤ r.foldl (fun a b => if b > a then b else a) x ∧ ∀ y ∈ r, y ≤ r.foldl (fun a b => if b > a then b else a) x
  | [], x => ⟨.inl rfl, Int.le_refl _, fun _ h => nomatch h⟩
  | z :: r, x => by
    obtain ⟨h1, h2, h3⟩ := great_fold r (if z > x then z else x)
    rw [List.foldl_cons]
    have hle : x ≤ (if z > x then z else x) ∧ z ≤ (if z > x then z else x) := by split <;> constructor <;> omega
    have heq : (if z > x then z else x) = x ∨ (if z > x then z else x) = z := by split <;> simp
    refine ⟨?_, by omega, fun y hy => ?_⟩
    · rcases h1 with h1 | h1
      · rcases heq with e | e
        · exact .inl (h1.trans e)
        · exact .inr (by rw [h1, e]; exact List.mem_cons_self)
      · exact .inr (List.mem_cons_of_mem _ h1)
    · rcases List.mem_cons.mp hy with rfl | hy
      · omega
      · exact h3 y hy
theorem greatO_some {xs : List Int} {m : Int} : greatO xs = some m ↔ m ∈ xs ∧ ∀ y ∈ xs, y ≤ m := by
  cases xs with
  | nil => exact ⟨fun h => (by cases h), fun h => absurd h.1 List.not_mem_nil⟩
  | cons x r =>
    obtain ⟨h1, h2, h3⟩ := great_fold r x
    have hmem : r.foldl (fun a b => if b > a then b else a) x ∈ x :: r := by
      rcases h1 with e | e
      · rw [e]; exact List.mem_cons_self
      · exact List.mem_cons_of_mem _ e
    have hall : ∀ y ∈ x :: r, y ≤ r.foldl (fun a b => if b > a then b else a) x := fun y hy => by
      rcases List.mem_cons.mp hy with rfl | hy
      · exact h2
      · exact h3 y hy
    constructor
    · intro h
      cases h
      exact ⟨hmem, hall⟩
    · intro ⟨h4, h5⟩
      have a1 := h5 _ hmem
      have a2 := hall _ h4
      show some _ = some m
      rw [show r.foldl (fun a b => if b > a then b else a) x = m by omega]
theorem call_maxL (hc : X.calm = true) : CallR X (.builtin "max") (fun xs H Q => ∃ p ns m, xs = [.ref p] ∧ SqL X.K H p (ns.map V.int) ∧ greatO ns = some m ∧ Q (.int m) H) := by
  intro pins s σ H xs us Q I r h
  obtain ⟨p, ns, m, rfl, hq, hgr, q⟩ := h
  obtain ⟨u, rfl, ru⟩ := vals1 r
  cases ru
  obtain ⟨its, rv, pl, hz⟩ := I.list hq
  have hi : IntsAre its ns := intsAre_of rv
  obtain ⟨xs, e⟩ := hi.allInts.items
  have hns : ns = xs.toList.map (·.1) := by rw [← hi.numsOf, ← nums_intItems, ← e]
  obtain ⟨hm, hall⟩ := greatO_some.mp hgr
  have hsz : 0 < xs.size := by
    have h3 : 0 < ns.length := List.length_pos_of_mem hm
    rw [hns, List.length_map, Array.length_toList] at h3
    exact h3
  have pl2 := pl.isList
  rw [e] at pl2
  refine max_intList (I.ok.hd hc) pl2 hsz fun v h' tk hv hk => ?_
  obtain ⟨t, rfl⟩ := intItems_at hv
  obtain ⟨g1, g2⟩ := argBest_gt (numAt xs) (xs.size - 1)
  have e3 : numAt xs (argBest (fun i j => decide (numAt xs i > numAt xs j)) (xs.size - 1)) = m := by
    have a1 : numAt xs (argBest (fun i j => decide (numAt xs i > numAt xs j)) (xs.size - 1)) ∈ ns := by
      rw [hns, numAt_eq]; exact getD_mem (by rw [List.length_map, Array.length_toList]; omega)
    have a2 := hall _ a1
    have hm2 := hm
    rw [hns] at hm2
    obtain ⟨j, hj, ej⟩ := mem_getD hm2
    rw [List.length_map, Array.length_toList] at hj
    have a3 := g2 j (by omega)
    rw [numAt_eq, ej] at a3
    omega
  rw [e3]
  exact ⟨.int m, H, I.kept hk, ⟨t, rfl⟩, q⟩
end
section
variable {X : Cx} (K : PySem.W.Frag) (hK : X.K = K)
include hK
theorem kpe_minD {e : Expr} {te : TE} {p p2 pos kpos : Pos} {p0 : _} (hc : X.calm = true) (hg : Gl X "min") (hm : X.mg "min" = none) (he : PE X e te)
    (h1 : backTo pos (starEach [e] X.env) = (false, eval e X.env) :: backTo pos (starEach [] X.env) := by rfl) (h2 : (backTo pos (starEach [e] X.env)).any (·.1) = false := by rfl) (h3 : starEach [e] X.env = (false, eval e X.env) :: starEach [] X.env := by rfl) :
    PE X (.Call (.Name "min" p) [e] [⟨some "default", .Constant .none p0 p2, kpos⟩] pos) (fun σ H Q => te σ H fun v H1 => rMinD K v H1 Q) := by subst hK; exact pe_minD hc hg hm he h1 h2 h3
theorem kcall_maxL (hc : X.calm = true) : CallR X (.builtin "max") (fun xs H Q => ∃ p ns m, xs = [.ref p] ∧ SqL K H p (ns.map V.int) ∧ greatO ns = some m ∧ Q (.int m) H) := by subst hK; exact call_maxL hc
end
end L2
namespace L2
open PySem PySem.Spec PyProof.Rows
section
variable {X : Cx} {a b : Expr} {rest : List Expr} {pos : Pos} {ta tb : TE}
def tOrL (K : PySem.W.Frag) (ta tb : TE) : TE := fun σ H Q => ta σ H fun x H1 => ∃ l xs, x = .ref l ∧ SqL K H1 l xs ∧ ∃ M : V → Hp → Prop, (xs ≠ [] → M (.ref l) H1) ∧ (xs = [] → tb σ H1 M) ∧ ∀ v H2, M v H2 → Q v H2
theorem pe_orL (ha : PE X a ta) (hb : PE X (.BoolOp .Or (b :: rest) pos) tb) : PE X (.BoolOp .Or (a :: b :: rest) pos) (tOrL X.K ta tb) := by
  intro pins s σ H Q I h
  refine BoolOp_or (thn (ha pins s σ H _ I h) fun v s1 ⟨x, H1, I1, r1, q1⟩ => ?_)
  obtain ⟨l, xs, rfl, hq, M, y1, y2, y3⟩ := q1
  cases r1
  obtain ⟨its, rv, pl, hz⟩ := I1.list hq
  have hlen := rv.length
  have hl63 := line63
  refine wpAny_truthy_list pl.isList (by rw [List.size_toArray]; omega) ?_
  cases xs with
  | nil =>
    have e : its = [] := List.eq_nil_of_length_eq_zero (by rw [← hlen]; rfl)
    subst e
    exact thn (hb pins _ σ H1 M (I1.tok _) (y2 rfl)) fun v s2 ⟨x, H2, I2, r2, q2⟩ => ⟨x, H2, I2, r2, y3 _ _ q2⟩
  | cons z zs =>
    have e : its.toArray.isEmpty = false := by
      cases its with
      | nil => cases hlen
      | cons u us => rfl
    rw [e]
    exact ⟨.ref l, H1, I1.tok _, rfl, y3 _ _ (y1 (fun z => nomatch z))⟩
end
section
variable {X : Cx} {a b : Expr} {rest : List Expr} {pos : Pos} {ta tb : TE} (K : PySem.W.Frag) (hK : X.K = K)
include hK
theorem kpe_orL (ha : PE X a ta) (hb : PE X (.BoolOp .Or (b :: rest) pos) tb) : PE X (.BoolOp .Or (a :: b :: rest) pos) (tOrL K ta tb) := by subst hK; exact pe_orL ha hb
end
theorem map_str_get {ws : List Str} {i : Nat} {y : V} (h : (ws.map V.str)[i]? = some y) : ∃ x, y = .str x ∧ ws[i]? = some x := by
  rw [List.getElem?_map] at h
  cases e : ws[i]? with
  | none => rw [e] at h; cases h
  | some z => rw [e] at h; exact ⟨z, (Option.some.inj h).symm, rfl⟩
theorem cut_map {α : Type} (f : α → V) (xs : List α) (a b : Nat) (h : b ≤ xs.length) : cutV (xs.map f) (some (a : Int)) (some (b : Int)) = ((xs.take b).drop a).map f := by
  unfold cutV
  rw [HT.sIx_nat, HT.sIx_nat, List.length_map, Nat.min_eq_left h, ← List.map_drop, ← List.map_take, List.drop_take]
  by_cases ha : a ≤ xs.length
  · rw [Nat.min_eq_left ha]
  · rw [Nat.min_eq_right (by omega), List.drop_of_length_le (Nat.le_refl _), List.drop_of_length_le (show xs.length ≤ a by omega)]
    simp
end L2
namespace Ln
open PySem L2
def misfit (sp m lo hi : Int) : Int := if m * hi < sp then sp - m * hi else if 0 < sp - m * lo then 0 else sp - m * lo
def cost (sp m lo ideal hi : Int) (last : Bool) : Option Int := if last = true ∧ 0 ≤ sp - m * ideal then some 0 else if misfit sp m lo hi = 0 then some ((sp - m * ideal) * (sp - m * ideal)) else none
theorem cost_zero {sp m lo ideal hi : Int} {last : Bool} (h1 : last = true) (h2 : 0 ≤ sp - m * ideal) : cost sp m lo ideal hi last = some 0 := if_pos ⟨h1, h2⟩
theorem cost_set {sp m lo ideal hi : Int} {last : Bool} (h : ¬ (last = true ∧ 0 ≤ sp - m * ideal)) (h2 : misfit sp m lo hi = 0) : cost sp m lo ideal hi last = some ((sp - m * ideal) * (sp - m * ideal)) := by
  unfold cost
  rw [if_neg h, if_pos h2]
theorem cost_not {sp m lo ideal hi : Int} {last : Bool} (h : ¬ (last = true ∧ 0 ≤ sp - m * ideal)) (h2 : ¬ misfit sp m lo hi = 0) : cost sp m lo ideal hi last = none := by
  unfold cost
  rw [if_neg h, if_neg h2]
theorem mul_le' {m a : Int} (hm : 0 ≤ m) (hm2 : m ≤ 1000) (ha : 0 ≤ a) (ha2 : a ≤ 1000) : 0 ≤ m * a ∧ m * a ≤ 1000000 := by
  refine ⟨Int.mul_nonneg hm ha, ?_⟩
  have h1 : m * a ≤ m * 1000 := Int.mul_le_mul_of_nonneg_left ha2 hm
  omega
def costW (zs : List Int) (ms lo ideal hi : Int) (last : Bool) : Option Int := cost (ms - List.sum zs) ((zs.length : Int) - 1) lo ideal hi last
def abc : List Nat := [97, 98, 99, 100, 101, 102]
theorem abc_cps : (Str.ofString "abcdef").cps.toList = abc := by decide +kernel
theorem abc_nd : (abc.map sg).Nodup := by decide +kernel
theorem abc_at {i : Int} (h0 : 0 ≤ i) (h1 : i < 6) : ∃ c, c ∈ abc ∧ abc[i.toNat]? = some c ∧ atI (Str.ofString "abcdef").cps.toList i = some c := by
  rw [abc_cps]
  have hl : abc.length = 6 := rfl
  have hk : i.toNat < abc.length := by omega
  have ek : i = ((i.toNat : Nat) : Int) := by omega
  have q : atI abc ((i.toNat : Nat) : Int) = some abc[i.toNat] := atI_nat (List.getElem?_eq_getElem hk)
  rw [← ek] at q
  exact ⟨abc[i.toNat], List.getElem_mem hk, List.getElem?_eq_getElem hk, q⟩
structure AbcCase (rs : List Cs.Row) : Prop where
  sg : (rs.map fun r => r.s) = abc.map sg
  wd : ∀ r ∈ rs, 1 ≤ r.w ∧ r.w ≤ 100
theorem AbcCase.len {rs : List Cs.Row} (h : AbcCase rs) : rs.length = 6 := by
  have := congrArg List.length h.sg
  rwa [List.length_map, List.length_map] at this
theorem AbcCase.nd {rs : List Cs.Row} (h : AbcCase rs) : (rs.map fun r => r.s).Nodup := by rw [h.sg]; exact abc_nd
theorem AbcCase.place {rs : List Cs.Row} (h : AbcCase rs) {c : Nat} (hc : c ∈ abc) : (Cs.place rs (L2.sg c)).isSome = true := by
  have h1 : L2.sg c ∈ rs.map fun r => r.s := by rw [h.sg]; exact List.mem_map_of_mem hc
  obtain ⟨r, hr, e⟩ := List.mem_map.mp h1
  unfold Cs.place
  rw [List.findIdx?_isSome, List.any_eq_true]
  exact ⟨r, hr, decide_eq_true e⟩
theorem AbcCase.wide {rs : List Cs.Row} (h : AbcCase rs) (x : Str) : 0 ≤ Cs.wideAt rs x ∧ Cs.wideAt rs x ≤ 100 := by
  unfold Cs.wideAt
  split
  · rename_i i _
    split
    · rename_i r hr
      have := h.wd r (List.mem_of_getElem? hr)
      omega
    · omega
  · omega
def AbcWord (x : Str) : Prop := 1 ≤ x.length ∧ x.length ≤ 6 ∧ ∀ c ∈ x.cps.toList, c ∈ abc
theorem sum_bd : ∀ {zs : List Int} {B : Int}, 0 ≤ B → (∀ z ∈ zs, 0 ≤ z ∧ z ≤ B) → 0 ≤ List.sum zs ∧ List.sum zs ≤ zs.length * B
  | [], B, _, _ => ⟨Int.le_refl _, by simp⟩
  | z :: zs, B, h0, h => by
    obtain ⟨h1, h2⟩ := sum_bd (zs := zs) h0 fun y hy => h y (List.mem_cons_of_mem _ hy)
    obtain ⟨h3, h4⟩ := h z List.mem_cons_self
    rw [List.sum_cons, List.length_cons]
    refine ⟨by omega, ?_⟩
    have e : (((zs.length + 1 : Nat) : Int)) * B = zs.length * B + B := by
      rw [Int.natCast_add, Int.add_mul]
      show _ + 1 * B = _
      rw [Int.one_mul]
    omega
theorem wide_bd {rs : List Cs.Row} (h : AbcCase rs) {x : Str} (hx : AbcWord x) : 0 ≤ Cs.wideOf rs x ∧ Cs.wideOf rs x ≤ 600 := by
  unfold Cs.wideOf
  obtain ⟨h1, h2⟩ := sum_bd (zs := x.cps.toList.map fun c => Cs.wideAt rs (L2.sg c)) (B := 100) (by omega) fun z hz => by
    obtain ⟨c, _, rfl⟩ := List.mem_map.mp hz
    exact h.wide _
  have h3 : x.cps.size ≤ 6 := hx.2.1
  rw [List.length_map] at h2
  have h4 : x.cps.toList.length = x.cps.size := Array.length_toList
  omega
theorem abc_ok {rs : List Cs.Row} (h : AbcCase rs) {ws : List Str} (hw : ∀ x ∈ ws, AbcWord x) : ∀ x ∈ ws, x.length ≤ 1000 ∧ ∀ c ∈ x.cps.toList, (Cs.place rs (L2.sg c)).isSome = true := fun x hx =>
  ⟨by have := (hw x hx).2.1; omega, fun c hc => h.place ((hw x hx).2.2 c hc)⟩
structure Dr (H : Hp) (t : Addr) (xs : List V) (rs : List Cs.Row) (ws : List Str) (c p g : Addr) (ms lo ideal hi : Int) : Prop where
  tup : H t = some (.tup [.ref c, .ref p, .int ms, .ref g])
  cas : H c = some (.lst xs)
  row : Paired (Cs.RowAt H) xs rs
  abc : AbcCase rs
  wrd : H p = some (.lst (ws.map V.str))
  wok : ∀ x ∈ ws, AbcWord x
  wl1 : 1 ≤ ws.length
  wl2 : ws.length ≤ 63
  gap : H g = some (.tup [.int lo, .int ideal, .int hi])
  g0 : 0 ≤ lo
  g1 : lo ≤ ideal
  g2 : ideal ≤ hi
  g3 : hi ≤ 99
  m1 : 1 ≤ ms
  m2 : ms ≤ 2000
end Ln
namespace L2
open PySem PySem.Spec PyProof.Rows
def Its3 (lo st : Int) (n : Nat) : It := ⟨fun i _ => i < n, fun i H x H' => H' = H ∧ x = .int (lo + i * st), fun i _ => n ≤ i⟩
theorem turn_range3 {P : Program} {w : World} {K : PySem.W.Frag} {tg : Expr} (it : Addr) (lo st : Int) (n : Nat) : Turn P w K tg (Its3 lo st n) [it] it (fun i h => IsRangeIter h it (lo + (i : Nat) * st) ((n : Int) - (i : Nat)) st) where
  mem := by simp
  obj := fun i h q b hb => by
    have e : b = it := by simpa using hb
    subst e
    exact ⟨_, q, fun v z => by
      have z' : Data.fields _ = Data.cell v := z
      cases z'⟩
  keep := fun i h h' q k => k it (by simp) _ q
  item := by
    intro X hP hw hK hc i pins s σ H E I hf q hg
    subst hP hw hK
    obtain ⟨f0, f1, f2, f3, f4, f5⟩ := hf it (by simp)
    have W := Walks.range (prog := X.prog) (w := X.w) (I.ok.hd hc) it lo st n
    refine W.item i s _ _ hg q fun v h' tk hv q' kk => ?_
    obtain ⟨t, rfl⟩ := hv
    have I1 : Inv X pins σ H { s with heap := h', toks := tk } := I.turned (fun b o hb e => kk b o (by simpa using hb) e) f0 f1 f3 f4 f5
    exact ⟨_, rfl, go_of (s := { s with heap := h', toks := tk }) (n := "range_iterator") q' rfl rfl (by decide) ⟨.int (lo + i * st), H, I1, ⟨t, rfl⟩, ⟨rfl, rfl⟩, q', fun b hb => (hf b hb).1⟩⟩
  done := by
    intro X hP hw hK hc i pins s σ H E I hf q hg
    subst hP hw hK
    obtain ⟨f0, f1, f2, f3, f4, f5⟩ := hf it (by simp)
    exact wpAny_pyNext_range_end (I.ok.hd hc) q (by have : n ≤ i := hg; omega) fun h' eb => ⟨rfl, I.turned (t' := s.toks) (fun b o hb e => eb b o hb e) f0 f1 f3 f4 f5⟩
  self := fun _ _ _ _ _ q h => wpAny_pyIter_rangeiter q h
section
variable {X : Cx} {tg : Expr}
def size3 (a b c : Int) : Nat := (Builtin.Range.rangeSize a b c).toNat
theorem size3_nonneg (a b c : Int) (h : c ≠ 0) : 0 ≤ Builtin.Range.rangeSize a b c := by
  unfold Builtin.Range.rangeSize
  split
  · split
    · have := Int.ediv_nonneg (show 0 ≤ b - a - 1 by omega) (show 0 ≤ c by omega)
      omega
    · omega
  · split
    · have := Int.ediv_nonneg (show 0 ≤ a - b - 1 by omega) (show 0 ≤ -c by omega)
      omega
    · omega
theorem size3_down (n : Nat) : size3 ((n : Int) - 1) (-1) (-1) = n := by
  unfold size3 Builtin.Range.rangeSize
  rw [if_neg (by decide)]
  split
  · rw [show (-(-1) : Int) = 1 from rfl, Int.ediv_one]
    omega
  · omega
def iRng3 (ta : TA) : TI := fun σ H R => ta σ H fun vs H1 => ∃ i j k : Int, vs = [.int i, .int j, .int k] ∧ (-1000000 ≤ i ∧ i ≤ 1000000 ∧ -1000000 ≤ j ∧ j ≤ 1000000) ∧ (k ≠ 0 ∧ -1000 ≤ k ∧ k ≤ 1000) ∧ R (Its3 i k (size3 i j k)) H1
theorem small3 {i j k : Int} (h1 : -1000000 ≤ i) (h2 : i ≤ 1000000) (h3 : -1000000 ≤ j) (h4 : j ≤ 1000000) (h5 : k ≠ 0) (h6 : -1000 ≤ k) (h7 : k ≤ 1000) : Builtin.Range.small i j k = true := by
  have hn := size3_nonneg i j k h5
  have hu : Builtin.Range.rangeSize i j k ≤ 2000001 := by
    unfold Builtin.Range.rangeSize
    split
    · split
      · have := Int.ediv_le_self (b := k) (show 0 ≤ j - i - 1 by omega)
        omega
      · omega
    · split
      · have := Int.ediv_le_self (b := -k) (show 0 ≤ i - j - 1 by omega)
        omega
      · omega
  unfold Builtin.Range.small
  generalize Builtin.Range.rangeSize i j k = r at hn hu ⊢
  have e : (if k > 0 then Builtin.Range.rangeFitsLong (j + (k - 1)) else Builtin.Range.rangeFitsLong (j + (k + 1))) = true := by
    split <;> simp only [Builtin.Range.rangeFitsLong, Bool.and_eq_true, decide_eq_true_eq] <;> omega
  rw [e]
  simp only [Builtin.Range.rangeFitsLong, Bool.and_eq_true, Bool.or_true, decide_eq_true_eq, and_true]
  omega
theorem range_it3 {pins : List (Addr × Obj)} {σ : St} {H : Hp} {s : Shared} {R : It → Hp → Prop} {E : Value → Shared → Prop} {i j k : Int} {t u v : Tok} {tk : Nat} (I : Inv X pins σ H s) (hsm : Builtin.Range.small i j k = true) (hk : k ≠ 0)
    (q : R (Its3 i k (size3 i j k)) H) : wpAny (model X.prog X.w) X.A (pyIter (.ref s.heap.objs.size)) (PIE X pins σ tg R) E { s with heap := s.heap.push { cls := .type "range", data := .fields #[.int i t, .int j u, .int k v] }, toks := tk } := by
  refine wpAny_pyIter_range (IsRange.new ..) hsm ?_
  generalize hg : s.heap.push { cls := .type "range", data := .fields #[.int i t, .int j u, .int k v] } = g
  have I1 : Inv X pins σ H { s with heap := g, toks := tk } := I.kept fun b o e => by rw [← hg]; exact Heap.get?_push_of_some _ e
  refine ⟨g.objs.size, [g.objs.size], _, _, H, rfl, I1.kept (t' := tk) fun b o e => Heap.get?_push_of_some _ e, turn_range3 _ i k (size3 i j k), ?_, fun b hb => ?_, q⟩
  · have e1 : i + ((0 : Nat) : Int) * k = i := by simp
    have e2 : ((size3 i j k : Nat) : Int) - ((0 : Nat) : Int) = Builtin.Range.rangeSize i j k := by
      have := size3_nonneg i j k hk
      unfold size3
      omega
    show IsRangeIter _ _ (i + ((0 : Nat) : Int) * k) (((size3 i j k : Nat) : Int) - ((0 : Nat) : Int)) k
    rw [e1, e2]
    exact Heap.get?_push_size _ rfl
  · have e : b = g.objs.size := by simpa using hb
    subst e
    exact I1.fpOk (Nat.le_refl _) (I1.hok.fresh (Nat.le_refl _))
theorem pi_range3 {a b c : Expr} {ta : TA} {p pos : Pos} (hg : Gl X "range") (hm : X.mg "range" = none) (ha : PA X [a, b, c] ta) (hs : starEach [a, b, c] X.env = [(false, eval a X.env), (false, eval b X.env), (false, eval c X.env)] := by rfl) (hs2 : starEach [b, c] X.env = [(false, eval b X.env), (false, eval c X.env)] := by rfl) :
    PI X tg (.Call (.Name "range" p) [a, b, c] [] pos) (iRng3 ta) := by
  intro pins s σ H R I h
  refine Call_ (ld_blt I hg hm boot_range (PyProof.Rows.callWith_type1 (thn (ha pos pins s σ H _ I h) fun us s1 ⟨vs, H1, I1, r1, q1⟩ => ?_) (by rw [hs, hs2]) (by rw [hs2]; rfl)))
  obtain ⟨i, j, k, e, ⟨h1, h2, h3, h4⟩, ⟨h5, h6, h7⟩, q⟩ := q1
  subst e
  cases r1 with
  | cons r rr =>
    cases rr with
    | cons r' rr =>
      cases rr with
      | cons r'' rr =>
        cases rr
        obtain ⟨t, rfl⟩ := r
        obtain ⟨t', rfl⟩ := r'
        obtain ⟨t'', rfl⟩ := r''
        exact call_range_3 h5 (range_it3 I1 (small3 h1 h2 h3 h4 h5 h6 h7) h5 q) (Or.inl (PyProof.noPylong_small (by omega)))
end
theorem for_range3 {lo st : Int} {n : Nat} {g : TG} {tb : TS} {D : Ends} {σ : St} {H : Hp} (Pv : Nat → St → Hp → Prop) (h0 : Pv 0 σ H)
    (hs : ∀ i σ H, i < n → Pv i σ H → g (.int (lo + i * st)) σ H fun σ2 H2 => tb { D with nx := Pv (i + 1), ct := Pv (i + 1), bk := D.nx } σ2 H2) (hd : ∀ σ H, Pv n σ H → D.nx σ H) :
    ∃ W : Nat → Nat → St → Hp → Prop, (∃ m, W 0 m σ H) ∧ ∀ i m σ H, W i m σ H →
      ((Its3 lo st n).stop i H ∧ D.nx σ H) ∨ ((Its3 lo st n).go i H ∧ ∃ N : St → Hp → Prop, (∀ σ' H', N σ' H' → ∃ m', m' < m ∧ W (i + 1) m' σ' H') ∧ ∀ x H', (Its3 lo st n).yld i H x H' → g x σ H' fun σ2 H2 => tb { D with nx := N, ct := N, bk := D.nx } σ2 H2) := by
  refine ⟨fun i m σ H => m = n - i ∧ i ≤ n ∧ Pv i σ H, ⟨n, by simp, Nat.zero_le _, h0⟩, ?_⟩
  rintro i m σ H ⟨rfl, hi, p⟩
  by_cases hlt : i < n
  · refine .inr ⟨hlt, Pv (i + 1), fun σ' H' p' => ⟨n - (i + 1), by omega, rfl, hlt, p'⟩, fun x H' y => ?_⟩
    obtain ⟨e, y⟩ := y
    subst e y
    exact hs i σ _ hlt p
  · have e : i = n := by omega
    subst e
    exact .inl ⟨Nat.le_refl _, hd σ H p⟩
end L2
namespace Br
open PySem L2
structure Par where
  zs : List Int
  ms : Int
  lo : Int
  ideal : Int
  hi : Int
abbrev Par.n (p : Par) : Nat := p.zs.length
def seg (zs : List Int) (i j : Nat) : List Int := (zs.take j).drop i
theorem seg_len {zs : List Int} {i j : Nat} (h : j ≤ zs.length) : (seg zs i j).length = j - i := by
  unfold seg
  rw [List.length_drop, List.length_take, Nat.min_eq_left h]
theorem seg_snoc {zs : List Int} {i j : Nat} {z : Int} (hij : i ≤ j) (h : zs[j]? = some z) : seg zs i (j + 1) = seg zs i j ++ [z] := by
  obtain ⟨hj, e⟩ := List.getElem?_eq_some_iff.mp h
  unfold seg
  rw [List.take_add_one, h, List.drop_append]
  have e2 : i - (zs.take j).length = 0 := by
    rw [List.length_take]
    omega
  rw [e2]
  rfl
theorem seg_self (zs : List Int) (i : Nat) : seg zs i i = [] := by
  unfold seg
  rw [List.drop_eq_nil_iff, List.length_take]
  omega
def lc (p : Par) (i j : Nat) : Option Int := Ln.costW (seg p.zs i j) p.ms p.lo p.ideal p.hi (decide (j = p.n))
def addO : Option Int → Option Int → Option Int
  | some a, some b => some (a + b)
  | _, _ => none
def cands (p : Par) (f : Nat → Option Int) (i m : Nat) : List Int := (List.range m).filterMap fun k => addO (lc p i (i + 1 + k)) (f (i + 1 + k))
def best (p : Par) (f : Nat → Option Int) (i : Nat) : Option Int := leastO (cands p f i (p.n - i))
theorem fm_succ {α : Type} (g : Nat → Option α) (m : Nat) : (List.range (m + 1)).filterMap g = (List.range m).filterMap g ++ (g m).toList := by
  rw [List.range_succ, List.filterMap_append]
  congr 1
theorem cands_succ (p : Par) (f : Nat → Option Int) (i m : Nat) : cands p f i (m + 1) = cands p f i m ++ (addO (lc p i (i + 1 + m)) (f (i + 1 + m))).toList := fm_succ _ m
theorem cands_eq {p : Par} {f g : Nat → Option Int} {i m : Nat} (h : ∀ k, k < m → f (i + 1 + k) = g (i + 1 + k)) : cands p f i m = cands p g i m := by
  induction m with
  | zero => rfl
  | succ m ih => rw [cands_succ, cands_succ, ih fun k hk => h k (by omega), h m (by omega)]
theorem best_eq {p : Par} {f g : Nat → Option Int} {i : Nat} (h : ∀ k, k < p.n - i → f (i + 1 + k) = g (i + 1 + k)) : best p f i = best p g i := congrArg leastO (cands_eq h)
structure Tab (p : Par) (f : Nat → Option Int) (k : Nat) : Prop where
  last : f p.n = some 0
  rest : ∀ i, k ≤ i → i < p.n → f i = best p f i
theorem Tab.uniq {p : Par} {f g : Nat → Option Int} {k : Nat} (hf : Tab p f k) (hg : Tab p g k) : ∀ d i, p.n - i = d → k ≤ i → i ≤ p.n → f i = g i := by
  intro d
  induction d using Nat.strongRecOn with
  | ind d ih =>
    intro i hd hk hi
    by_cases e : i = p.n
    · subst e
      rw [hf.last, hg.last]
    · rw [hf.rest i hk (by omega), hg.rest i hk (by omega)]
      exact best_eq fun j hj => ih (p.n - (i + 1 + j)) (by omega) (i + 1 + j) rfl (by omega) (by omega)
theorem Tab.congr {p : Par} {f g : Nat → Option Int} {k : Nat} (hf : Tab p f k) (h : ∀ i, k ≤ i → i ≤ p.n → f i = g i) (hk : k ≤ p.n) : Tab p g k := by
  refine ⟨by rw [← h p.n hk (Nat.le_refl _)]; exact hf.last, fun i hi hn => ?_⟩
  rw [← h i hi (by omega), hf.rest i hi hn]
  exact best_eq fun j hj => h (i + 1 + j) (by omega) (by omega)
def Cst (p : Par) (kvs : List (List Key × V)) (D : Nat → Nat → Prop) : Prop := ∀ i j : Nat, i < j → j ≤ p.n → (D i j → valV kvs [.inl (i : Int), .inl (j : Int)] = (lc p i j).map V.int) ∧ (¬ D i j → valV kvs [.inl (i : Int), .inl (j : Int)] = none)
def CostI (p : Par) (kvs : List (List Key × V)) : Prop := ∀ i j : Nat, i < j → j ≤ p.n → valV kvs [.inl (i : Int), .inl (j : Int)] = (lc p i j).map V.int
theorem Cst.all {p : Par} {kvs : List (List Key × V)} (h : Cst p kvs fun a _ => a < p.n) : CostI p kvs := fun i j hij hj => (h i j hij hj).1 (by omega)
theorem Cst.nil (p : Par) : Cst p [] fun a _ => a < 0 := fun i j _ _ => ⟨fun h => absurd h (Nat.not_lt_zero _), fun _ => rfl⟩
theorem Cst.iff {p : Par} {kvs : List (List Key × V)} {D E : Nat → Nat → Prop} (h : Cst p kvs D) (e : ∀ i j, i < j → j ≤ p.n → (D i j ↔ E i j)) : Cst p kvs E := fun i j hij hj => by
  have h1 := h i j hij hj
  have h2 := e i j hij hj
  exact ⟨fun z => h1.1 (h2.mpr z), fun z => h1.2 fun y => z (h2.mp y)⟩
theorem key_inj {i j a b : Nat} : ([Sum.inl (i : Int), Sum.inl (j : Int)] : List Key) = [Sum.inl (a : Int), Sum.inl (b : Int)] ↔ i = a ∧ j = b := by
  constructor
  · intro h
    have h1 := List.cons.inj h
    have h2 := List.cons.inj h1.2
    have e1 : (i : Int) = a := Sum.inl.inj h1.1
    have e2 : (j : Int) = b := Sum.inl.inj h2.1
    omega
  · rintro ⟨rfl, rfl⟩
    rfl
theorem Cst.put {p : Par} {kvs : List (List Key × V)} {i k : Nat} {c : Int} (h : Cst p kvs fun a b => a < i ∨ (a = i ∧ b < i + 1 + k)) (hc : lc p i (i + 1 + k) = some c) :
    Cst p (putK kvs [.inl (i : Int), .inl ((i + 1 + k : Nat) : Int)] (.int c)) fun a b => a < i ∨ (a = i ∧ b < i + 1 + (k + 1)) := fun a b hab hb => by
  have h1 := h a b hab hb
  by_cases e : a = i ∧ b = i + 1 + k
  · obtain ⟨rfl, rfl⟩ := e
    refine ⟨fun _ => ?_, fun z => absurd (.inr ⟨rfl, by omega⟩) z⟩
    rw [valV_put, if_pos rfl, hc]
    rfl
  · have ne : ¬ ([Sum.inl (a : Int), Sum.inl (b : Int)] : List Key) = [Sum.inl (i : Int), Sum.inl ((i + 1 + k : Nat) : Int)] := fun z => e (key_inj.mp z)
    rw [valV_put, if_neg ne]
    exact ⟨fun z => h1.1 (by omega), fun z => h1.2 (by omega)⟩
theorem Cst.skip {p : Par} {kvs : List (List Key × V)} {i k : Nat} (h : Cst p kvs fun a b => a < i ∨ (a = i ∧ b < i + 1 + k)) (hc : lc p i (i + 1 + k) = none) :
    Cst p kvs fun a b => a < i ∨ (a = i ∧ b < i + 1 + (k + 1)) := fun a b hab hb => by
  have h1 := h a b hab hb
  by_cases e : a = i ∧ b = i + 1 + k
  · obtain ⟨rfl, rfl⟩ := e
    refine ⟨fun _ => ?_, fun z => absurd (.inr ⟨rfl, by omega⟩) z⟩
    rw [h1.2 (by omega), hc]
    rfl
  · exact ⟨fun z => h1.1 (by omega), fun z => h1.2 (by omega)⟩
theorem lc_step {p : Par} {i k : Nat} {z : Int} (hz : p.zs[i + k]? = some z) : Ln.cost (p.ms - List.sum (seg p.zs i (i + k)) - z) (k : Int) p.lo p.ideal p.hi (decide (i + 1 + k = p.n)) = lc p i (i + 1 + k) := by
  obtain ⟨hl, _⟩ := List.getElem?_eq_some_iff.mp hz
  unfold lc Ln.costW
  have e : i + 1 + k = i + k + 1 := by omega
  rw [e, seg_len (by omega), seg_snoc (by omega) hz, List.sum_append]
  have e2 : (((i + k + 1 - i : Nat) : Int)) - 1 = k := by omega
  rw [e2]
  have e3 : p.ms - (List.sum (seg p.zs i (i + k)) + List.sum [z]) = p.ms - List.sum (seg p.zs i (i + k)) - z := by
    rw [List.sum_cons, List.sum_nil]
    omega
  rw [e3]
def chs (p : Par) (f : Nat → Option Int) (i m : Nat) : List (Int × Nat) := (List.range m).filterMap fun k => (addO (lc p i (i + 1 + k)) (f (i + 1 + k))).map fun c => (c, i + 1 + k)
def ends (p : Par) (f : Nat → Option Int) (i m : Nat) : List Nat := (List.range m).filterMap fun k => (addO (lc p i (i + 1 + k)) (f (i + 1 + k))).map fun _ => i + 1 + k
theorem fm_len {α : Type} (g : Nat → Option α) (m : Nat) : ((List.range m).filterMap g).length ≤ m := by
  have := List.length_filterMap_le g (List.range m)
  rwa [List.length_range] at this
theorem chs_costs (p : Par) (f : Nat → Option Int) (i m : Nat) : (chs p f i m).map (·.1) = cands p f i m := by
  induction m with
  | zero => rfl
  | succ m ih =>
    unfold chs cands at ih ⊢
    rw [fm_succ, fm_succ, List.map_append, ih]
    congr 1
    cases addO (lc p i (i + 1 + m)) (f (i + 1 + m)) <;> rfl
theorem chs_ends (p : Par) (f : Nat → Option Int) (i m : Nat) : (chs p f i m).map (·.2) = ends p f i m := by
  induction m with
  | zero => rfl
  | succ m ih =>
    unfold chs ends at ih ⊢
    rw [fm_succ, fm_succ, List.map_append, ih]
    congr 1
    cases addO (lc p i (i + 1 + m)) (f (i + 1 + m)) <;> rfl
theorem chs_mem {p : Par} {f : Nat → Option Int} {i m : Nat} {x : Int × Nat} (h : x ∈ chs p f i m) : i < x.2 ∧ x.2 ≤ i + m ∧ ∃ a b, lc p i x.2 = some a ∧ f x.2 = some b ∧ x.1 = a + b := by
  unfold chs at h
  obtain ⟨k, hk, e⟩ := List.mem_filterMap.mp h
  have hk := List.mem_range.mp hk
  cases h1 : lc p i (i + 1 + k) with
  | none => rw [h1] at e; cases e
  | some a =>
    cases h2 : f (i + 1 + k) with
    | none => rw [h1, h2] at e; cases e
    | some b =>
      rw [h1, h2] at e
      have e : (a + b, i + 1 + k) = x := Option.some.inj e
      subst e
      exact ⟨by show i < i + 1 + k; omega, by show i + 1 + k ≤ i + m; omega, a, b, h1, h2, rfl⟩
def PairAt (H : Hp) (v : V) (x : Int × Nat) : Prop := ∃ a, v = .ref a ∧ H a = some (.tup [.int x.1, .int (x.2 : Int)])
theorem pairs_same {H H' : Hp} {xs : List V} {ys : List (Int × Nat)} (h : Paired (PairAt H) xs ys) (s : Same H H') : Paired (PairAt H') xs ys := Paired.mapP h fun _ _ ⟨a, e, z⟩ => ⟨a, e, s _ _ z⟩
theorem pairs_upd {H : Hp} {l : Addr} {o ys : HO} {xs : List V} {zs : List (Int × Nat)} (h : Paired (PairAt H) xs zs) (hl : H l = some ys) (hn : ∀ z, ys ≠ .tup z) : Paired (PairAt (upd H l o)) xs zs :=
  Paired.mapP h fun x p ⟨t, e, ht⟩ => ⟨t, e, by rw [upd_ne (ne_of ht hl fun z => hn _ z.symm)]; exact ht⟩
theorem getD_set {tb : List (Option Int)} {i j : Nat} {v : Option Int} (hi : i < tb.length) : (tb.set i v).getD j none = if j = i then v else tb.getD j none := by
  rw [List.getD_eq_getElem?_getD, List.getD_eq_getElem?_getD, List.getElem?_set]
  by_cases e : i = j
  · subst e
    rw [if_pos rfl, if_pos rfl, if_pos hi]
    rfl
  · rw [if_neg e, if_neg (fun z => e z.symm)]
theorem Tab.set {p : Par} {tb : List (Option Int)} {i : Nat} (h : Tab p (fun j => tb.getD j none) (i + 1)) (hl : tb.length = p.n + 1) (hi : i < p.n) : Tab p (fun j => (tb.set i (best p (fun j => tb.getD j none) i)).getD j none) i := by
  have e : ∀ j, i < j → (tb.set i (best p (fun j => tb.getD j none) i)).getD j none = tb.getD j none := fun j hj => by
    rw [getD_set (by omega), if_neg (by omega)]
  refine ⟨?_, fun j hj hn => ?_⟩
  · show (tb.set i _).getD p.n none = some 0
    rw [e p.n (by omega)]
    exact h.last
  · show (tb.set i _).getD j none = _
    by_cases ej : j = i
    · subst ej
      rw [getD_set (by omega), if_pos rfl]
      exact best_eq fun k hk => (e (j + 1 + k) (by omega)).symm
    · rw [e j (by omega), h.rest j (by omega) hn]
      exact best_eq fun k hk => (e (j + 1 + k) (by omega)).symm
theorem Tab.cons {p : Par} {tb : List (Option Int)} {c : Nat} (h : Tab p (fun i => tb.getD (i - (p.n - c)) none) (p.n - c)) (hc : c < p.n) (hl : tb.length = c + 1) :
    Tab p (fun i => (best p (fun i => tb.getD (i - (p.n - c)) none) (p.n - (c + 1)) :: tb).getD (i - (p.n - (c + 1))) none) (p.n - (c + 1)) := by
  have e : ∀ j x, p.n - (c + 1) < j → (x :: tb).getD (j - (p.n - (c + 1))) none = tb.getD (j - (p.n - c)) none := fun j x hj => by
    have e1 : j - (p.n - (c + 1)) = (j - (p.n - c)) + 1 := by omega
    rw [e1]
    rfl
  refine ⟨?_, fun j hj hn => ?_⟩
  · show (_ :: tb).getD (p.n - _) none = some 0
    rw [e p.n _ (by omega)]
    exact h.last
  · show (_ :: tb).getD (j - _) none = _
    by_cases ej : j = p.n - (c + 1)
    · subst ej
      rw [Nat.sub_self]
      show best p _ _ = best p _ _
      exact best_eq fun k hk => (e (p.n - (c + 1) + 1 + k) _ (by omega)).symm
    · rw [e j _ (by omega)]
      have h2 := h.rest j (by omega) hn
      show tb.getD (j - (p.n - c)) none = _
      rw [h2]
      exact best_eq fun k hk => (e (j + 1 + k) _ (by omega)).symm
theorem Tab.one (p : Par) : Tab p (fun i => ([some 0] : List (Option Int)).getD (i - (p.n - 0)) none) (p.n - 0) := by
  refine ⟨?_, fun i hi hn => by omega⟩
  show ([some 0] : List (Option Int)).getD (p.n - (p.n - 0)) none = some 0
  rw [show p.n - (p.n - 0) = 0 by omega]
  rfl
def Good (p : Par) (f : Nat → Option Int) (i e : Nat) : Prop := i < e ∧ e ≤ p.n ∧ ∃ a b, lc p i e = some a ∧ f e = some b ∧ f i = some (a + b)
def Great (p : Par) (f : Nat → Option Int) (i e : Nat) : Prop := Good p f i e ∧ ∀ e', Good p f i e' → e' ≤ e
theorem Great.uniq {p : Par} {f : Nat → Option Int} {i e e' : Nat} (h : Great p f i e) (h' : Great p f i e') : e = e' := Nat.le_antisymm (h'.2 e h.1) (h.2 e' h'.1)
theorem good_some {p : Par} {f : Nat → Option Int} {k i : Nat} (hf : Tab p f k) (hk : k ≤ i) (hi : i < p.n) (hs : f i ≠ none) : ∃ e, Good p f i e := by
  have h1 := hf.rest i hk hi
  cases h2 : best p f i with
  | none => rw [h2] at h1; exact absurd h1 hs
  | some m =>
    rw [h2] at h1
    obtain ⟨h3, _⟩ := leastO_some.mp h2
    unfold cands at h3
    obtain ⟨j, hj, e⟩ := List.mem_filterMap.mp h3
    have hj := List.mem_range.mp hj
    cases h4 : lc p i (i + 1 + j) with
    | none => rw [h4] at e; cases e
    | some a =>
      cases h5 : f (i + 1 + j) with
      | none => rw [h4, h5] at e; cases e
      | some b =>
        rw [h4, h5] at e
        have e : a + b = m := Option.some.inj e
        exact ⟨i + 1 + j, by omega, by omega, a, b, h4, h5, by rw [h1, e]⟩
inductive Brks (p : Par) (f : Nat → Option Int) : Nat → List Nat → Prop
  | done : Brks p f p.n []
  | step {i e : Nat} {bs : List Nat} : i < p.n → Great p f i e → Brks p f e bs → Brks p f i (e :: bs)
theorem Brks.uniq {p : Par} {f : Nat → Option Int} {i : Nat} {bs : List Nat} (h : Brks p f i bs) : ∀ {cs : List Nat}, Brks p f i cs → bs = cs := by
  induction h with
  | done =>
    intro cs h
    cases h with
    | done => rfl
    | step h1 _ _ => exact absurd h1 (Nat.lt_irrefl _)
  | step h1 h2 _ ih =>
    intro cs h
    cases h with
    | done => exact absurd h1 (Nat.lt_irrefl _)
    | step g1 g2 g3 =>
      have e := h2.uniq g2
      subst e
      rw [ih g3]
theorem Good.congr {p : Par} {f g : Nat → Option Int} (h : ∀ i, i ≤ p.n → f i = g i) {i e : Nat} (hi : i ≤ p.n) (x : Good p f i e) : Good p g i e := by
  obtain ⟨h1, h2, a, b, h3, h4, h5⟩ := x
  exact ⟨h1, h2, a, b, h3, by rw [← h e h2]; exact h4, by rw [← h i hi]; exact h5⟩
theorem Great.congr {p : Par} {f g : Nat → Option Int} (h : ∀ i, i ≤ p.n → f i = g i) {i e : Nat} (hi : i ≤ p.n) (x : Great p f i e) : Great p g i e :=
  ⟨x.1.congr h hi, fun e' y => x.2 e' (y.congr (fun j hj => (h j hj).symm) hi)⟩
theorem Brks.congr {p : Par} {f g : Nat → Option Int} (h : ∀ i, i ≤ p.n → f i = g i) {i : Nat} {bs : List Nat} (x : Brks p f i bs) : Brks p g i bs := by
  induction x with
  | done => exact .done
  | step h1 h2 _ ih => exact .step h1 (h2.congr h (Nat.le_of_lt h1)) ih
theorem Brks.mem {p : Par} {f : Nat → Option Int} {i : Nat} {bs : List Nat} (x : Brks p f i bs) : ∀ e ∈ bs, e ≤ p.n := by
  induction x with
  | done => intro e h; cases h
  | step h1 h2 _ ih =>
    intro e' h
    rcases List.mem_cons.mp h with rfl | h
    · exact h2.1.2.1
    · exact ih e' h
theorem Brks.len {p : Par} {f : Nat → Option Int} {i : Nat} {bs : List Nat} (x : Brks p f i bs) : bs.length + i ≤ p.n := by
  induction x with
  | done => simp
  | step h1 h2 _ ih =>
    have := h2.1.1
    rw [List.length_cons]
    omega
theorem chs_good {p : Par} {f : Nat → Option Int} {i : Nat} {x : Int × Nat} : (x ∈ chs p f i (p.n - i) ∧ f i = some x.1) → Good p f i x.2 := by
  rintro ⟨h1, h2⟩
  obtain ⟨m1, m2, a, b, e1, e2, e3⟩ := chs_mem h1
  exact ⟨m1, by omega, a, b, e1, e2, by rw [h2, e3]⟩
theorem good_chs {p : Par} {f : Nat → Option Int} {i e : Nat} (h : Good p f i e) : ∃ c, (c, e) ∈ chs p f i (p.n - i) ∧ f i = some c := by
  obtain ⟨h1, h2, a, b, h3, h4, h5⟩ := h
  refine ⟨a + b, ?_, h5⟩
  unfold chs
  refine List.mem_filterMap.mpr ⟨e - i - 1, List.mem_range.mpr (by omega), ?_⟩
  have e1 : i + 1 + (e - i - 1) = e := by omega
  rw [e1, h3, h4]
  rfl
end Br
namespace L2
open PySem PySem.Spec PyProof.Rows
section
variable {X : Cx} {pins : List (Addr × Obj)} {σ : St} {H : Hp} {s : Shared} {h' : Heap}
end
section
variable {X : Cx} {es : List Expr} {k1 : Nat} {tp : Pos}
end
end L2
namespace L2
open PySem PySem.Spec PyProof.Rows
section
variable {X : Cx} (K : PySem.W.Frag) (hK : X.K = K)
include hK
end
end L2
namespace Lns
open PySem L2
def LineN (no : Addr) (H : Hp) (v : V) (ws : List Str) : Prop := ∃ p, v = .ref p ∧ p ≠ no ∧ H p = some (.lst (ws.map V.str))
end Lns
namespace L2
open PySem PySem.Spec PyProof.Rows PySem.Builtin PySem.Builtin.Str
section
variable {X : Cx}
end
end L2
namespace Lns
open PySem L2
theorem at_end {α : Type} (ini : List α) (last : α) : atI (ini ++ [last]) (-1) = some last := by
  have h : ixN (ini.length + 1) (-1) = some ini.length := by
    unfold ixN
    rw [if_neg (by omega), if_pos (by omega)]
    congr 1
    omega
  unfold atI
  rw [List.length_append]
  show ((ixN (ini.length + 1) (-1)).bind _) = _
  rw [h]
  show (ini ++ [last])[ini.length]? = _
  rw [List.getElem?_append_right (Nat.le_refl _), Nat.sub_self]
  rfl
def LineF (H0 : Hp) (no : Addr) (H : Hp) (v : V) (ws : List Str) : Prop := ∃ p, v = .ref p ∧ p ≠ no ∧ H0 p = none ∧ H p = some (.lst (ws.map V.str))
theorem LineF.n {H0 : Hp} {no : Addr} {H : Hp} {xs : List V} {ls : List (List Str)} (h : Paired (LineF H0 no H) xs ls) : Paired (LineN no H) xs ls := Paired.mapP h fun _ _ ⟨p, e, n, _, z⟩ => ⟨p, e, n, z⟩
def isS (c : Nat) : Bool := !decide (c = 32) && !decide (c = 47)
def Settable (rs : List Cs.Row) (x : Str) : Prop := 1 ≤ x.length ∧ ∀ c ∈ x.cps.toList, isS c = true ∧ (Cs.place rs (sg c)).isSome = true
theorem Settable.ne {rs : List Cs.Row} {x : Str} (h : Settable rs x) : (!x.cps.toList.isEmpty) = true := by
  have h1 := h.1
  unfold Str.length at h1
  cases e : x.cps.toList with
  | nil =>
    have : x.cps.toList.length = 0 := by rw [e]; rfl
    rw [Array.length_toList] at this
    omega
  | cons a b => rfl
end Lns
namespace L2
open PySem PySem.Spec PyProof.Rows
section
variable {M : Model} {A : Around} {E : Value → Shared → Prop} {s : Shared}
def Stays (S : List Addr) (ch : List Addr) (h h' : Heap) : Prop := ∀ b o, h.get? b = some o → b ∉ ch → (b ∉ S → h'.get? b = some o) ∧ ∃ sl, h'.get? b = some { o with slots := sl }
theorem dict_mapFields (o : Obj) (f) : (o.mapFields f).dict = o.dict := by
  obtain ⟨c, d, dt, sl⟩ := o
  cases dt <;> rfl
def ExcAt (P : Heap → Value → Prop) (h : Heap) (e : Addr) (cls : Value) (dx : Option Addr) : Prop :=
  ∃ oe vs hd, h.get? e = some oe ∧ oe.cls = cls ∧ oe.dict = dx ∧ oe.data = .fields vs ∧ vs[1]? = some hd ∧ P h hd
def TbAt (F : Addr → Prop) (e : Addr) (x : Value) (h : Heap) (hd : Value) : Prop := ∃ T oT ts, hd = .ref T ∧ F T ∧ T ≠ e ∧ h.get? T = some oT ∧ oT.data = .fields ts ∧ ts[3]? = some x
theorem note_new {base : Heap} {env : Env} {outer : List Env} {L e : Addr} {oe : Obj} {vs : Array Value} {head : Value} {hadNext : Bool} {Q : Unit → Shared → Prop}
    (hfr : A.frames = some (env :: outer)) (hl : s.heap.FunFrames base (env :: outer)) (hf : env.frame = some L)
    (he : s.heap.get? e = some oe) (hd : oe.data = .fields vs) (hsz : 1 < vs.size)
    (h : ∀ h', s.heap.objs.size ≤ h'.objs.size → Stays ((env :: outer).filterMap (·.frame)) [e] s.heap h' → ExcAt (TbAt (fun b => s.heap.objs.size ≤ b) e (rawInt L)) h' e oe.cls oe.dict → Q () { s with heap := h' }) :
    wpAny M A (do let a ← frameOf env; let pl ← entryPlaceOf L hadNext; let b ← EntryCells.newEntry head a .none (rawInt L) .none pl; setField (.ref e) 1 b) Q E s := by
  have hene : e ∉ (env :: outer).filterMap (·.frame) := fun hm => by
    obtain ⟨_, o, ho, hnf⟩ := hl.mem hm
    rw [he] at ho; injection ho with ho; subst ho; exact hnf vs hd
  refine wpAny_bind (wpAny_frameOf_fun hfr hl hf fun h₁ hs₁ => ?_)
  refine wpAny_bind (wpAny_entryPlaceOf fun pl hpl => ?_)
  unfold EntryCells.newEntry newFields
  refine wpAny_bind (wpAny_newObj_type ?_ (hpl.sizeOk5 _ _ _ _ _))
  have he₁ : h₁.get? e = some oe := (hs₁.2.1 e hene).trans he
  have he₂ := Heap.get?_push_of_some (h := h₁) { cls := .type "traceback", dict := none, data := .fields ([head, .ref L, .none, rawInt L, .none] ++ (if pl.isEmpty then List.replicate 6 Value.none else pl)).toArray } he₁
  refine wpAny_setField he₂ hd hsz ?_
  have hTe : h₁.objs.size ≠ e := Nat.ne_of_gt (Heap.lt_size he₁)
  have hd₃ := Obj.data_mapFields hd (·.setIfInBounds 1 (Value.ref h₁.objs.size))
  have he₃ := Heap.get?_update_self (Obj.mapFields (·.setIfInBounds 1 (Value.ref h₁.objs.size))) he₂ (Obj.isFreed_of_fields hd₃)
  have hT₃ := (Heap.get?_update_other (h₁.push { cls := .type "traceback", dict := none, data := .fields ([head, .ref L, .none, rawInt L, .none] ++ (if pl.isEmpty then List.replicate 6 Value.none else pl)).toArray })
    (Obj.mapFields (·.setIfInBounds 1 (Value.ref h₁.objs.size))) (Ne.symm hTe)).trans (Heap.get?_push_size h₁ rfl)
  have hsz1 : h₁.objs.size = s.heap.objs.size := hs₁.1
  refine h _ ?_ ?_ ?_
  · rw [Heap.size_after_update, Heap.size_push, hsz1]
    exact Nat.le_succ _
  · intro b o hb hn
    have hbe : b ≠ e := fun q => hn (List.mem_singleton.mpr q)
    have keep : ∀ o, h₁.get? b = some o → ((h₁.push { cls := .type "traceback", dict := none, data := .fields ([head, .ref L, .none, rawInt L, .none] ++ (if pl.isEmpty then List.replicate 6 Value.none else pl)).toArray }).update e (Obj.mapFields (·.setIfInBounds 1 (Value.ref h₁.objs.size)))).get? b = some o := fun o hb => by
      rw [Heap.get?_update_other _ _ (Ne.symm hbe)]
      exact Heap.get?_push_of_some _ hb
    refine ⟨fun hS => keep o ((hs₁.2.1 b hS).trans hb), ?_⟩
    obtain ⟨sl, hs⟩ := hs₁.2.2 b o hb
    exact ⟨sl, keep _ hs⟩
  · exact ⟨_, _, .ref h₁.objs.size, he₃, Obj.cls_mapFields _ _, dict_mapFields _ _, hd₃, by simp [hsz], h₁.objs.size, _, _, rfl, Nat.le_of_eq hsz1.symm, hTe, hT₃, rfl, by simp⟩
theorem ExcAt.mono {P P' : Heap → Value → Prop} {h : Heap} {e : Addr} {cls : Value} {dx : Option Addr} (x : ExcAt P h e cls dx) (f : ∀ hd, P h hd → P' h hd) : ExcAt P' h e cls dx :=
  let ⟨oe, vs, hd, a, b, c, d, g, p⟩ := x
  ⟨oe, vs, hd, a, b, c, d, g, f hd p⟩
theorem TbAt.mono {F F' : Addr → Prop} {e : Addr} {x : Value} {h : Heap} {hd : Value} (t : TbAt F e x h hd) (f : ∀ b, F b → F' b) : TbAt F' e x h hd :=
  let ⟨T, oT, ts, a, b, c⟩ := t
  ⟨T, oT, ts, a, f T b, c⟩
def HdOk (F : Addr → Prop) (e L : Addr) (h : Heap) (hd : Value) : Prop := hd = .none ∨ TbAt F e .none h hd ∨ TbAt F e (rawInt L) h hd
def Recs (F : Addr → Prop) (h : Heap) (ch : List Addr) : Prop := ∀ b ∈ ch, F b ∧ ∃ o vs, h.get? b = some o ∧ o.data = .fields vs
theorem stays_refl (S ch : List Addr) (h : Heap) : Stays S ch h h := fun _ o e _ => ⟨fun _ => e, o.slots, e⟩
theorem note_any {F : Addr → Prop} {base : Heap} {env : Env} {outer : List Env} {L e : Addr} {cls : Value} {dx : Option Addr} {Q : Unit → Shared → Prop}
    (hfr : A.frames = some (env :: outer)) (hl : s.heap.FunFrames base (env :: outer)) (hf : env.frame = some L) (hF : ∀ b, s.heap.objs.size ≤ b → F b) (hFe : F e)
    (hx : ExcAt (HdOk F e L) s.heap e cls dx)
    (h : ∀ h' ch, Recs F s.heap ch → s.heap.objs.size ≤ h'.objs.size → Stays ((env :: outer).filterMap (·.frame)) ch s.heap h' → ExcAt (TbAt F e (rawInt L)) h' e cls dx → Q () { s with heap := h' }) :
    wpAny M A (noteFrame (.ref e) env) Q E s := by
  obtain ⟨oe, vs, hd, he, rfl, rfl, hdt, h1, hp⟩ := hx
  have hsz : 1 < vs.size := (Array.getElem?_eq_some_iff.mp h1).1
  unfold noteFrame
  simp only [hf]
  refine wpAny_bind (wpAny_field he hdt h1 ?_)
  rcases hp with rfl | ⟨T, oT, ts, rfl, hFT, hTe, hT, hdT, h3⟩ | ⟨T, oT, ts, rfl, hFT, hTe, hT, hdT, h3⟩
  · rw [if_neg (by decide)]
    exact note_new hfr hl hf he hdt hsz fun h' hs hst hx => h h' [e] (fun b hb => by rw [List.mem_singleton.mp hb]; exact ⟨hFe, _, _, he, hdt⟩) hs hst (hx.mono fun hd t => t.mono hF)
  · rw [if_pos (show (Value.ref T != Value.none) = true from by simp)]
    refine wpAny_bind (wpAny_field hT hdT h3 ?_)
    rw [if_neg (show ¬ ((Value.none == rawInt L) = true) from by simp [rawInt])]
    refine wpAny_bind (wpAny_setField hT hdT (Array.getElem?_eq_some_iff.mp h3).1 ?_)
    have other : ∀ b, b ≠ T → (s.heap.update T (Obj.mapFields (·.setIfInBounds 3 Value.none))).get? b = s.heap.get? b := fun b hb => Heap.get?_update_other _ _ (Ne.symm hb)
    have noRecord : ∀ b o, s.heap.get? b = some o → (∀ vs, o.data ≠ .fields vs) → b ≠ T := fun b o hb hnf q => by
      rw [q, hT] at hb; injection hb with hb; subst hb; exact hnf ts hdT
    have hsz0 : (s.heap.update T (Obj.mapFields (·.setIfInBounds 3 Value.none))).objs.size = s.heap.objs.size := Heap.size_after_update ..
    refine note_new (s := { s with heap := s.heap.update T (Obj.mapFields (·.setIfInBounds 3 Value.none)) }) hfr (hl.of_keeps fun b o hb hnf => ⟨o, (other b (noRecord b o hb hnf)).trans hb, rfl⟩) hf ((other e (Ne.symm hTe)).trans he) hdt hsz fun h' hs hst hx => ?_
    refine h h' [e, T] (fun b hb => ?_) (Nat.le_trans (Nat.le_of_eq hsz0.symm) hs) (fun b o hb hn => ?_) (hx.mono fun hd t => t.mono fun b hb => hF b (Nat.le_trans (Nat.le_of_eq hsz0.symm) hb))
    · rcases List.mem_cons.mp hb with rfl | hb
      · exact ⟨hFe, _, _, he, hdt⟩
      · rw [List.mem_singleton.mp hb]
        exact ⟨hFT, _, _, hT, hdT⟩
    · have hbT : b ≠ T := fun q => hn (by rw [q]; exact List.mem_cons_of_mem _ List.mem_cons_self)
      exact hst b o ((other b hbT).trans hb) fun q => hn (by rw [List.mem_singleton.mp q]; exact List.mem_cons_self)
  · rw [if_pos (show (Value.ref T != Value.none) = true from by simp)]
    refine wpAny_bind (wpAny_field hT hdT h3 ?_)
    rw [if_pos (by simp)]
    exact wpAny_pure (h s.heap [] (fun b hb => nomatch hb) (Nat.le_refl _) (stays_refl _ _ _) ⟨oe, vs, _, he, rfl, rfl, hdt, h1, T, oT, ts, rfl, hFT, hTe, hT, hdT, h3⟩)
theorem flight_any {F : Addr → Prop} {S : List Addr} {e : Addr} {cls x : Value} {dx : Option Addr} {fr : Option Addr} {Q : Unit → Shared → Prop} (hFe : F e) (hx : ExcAt (TbAt F e x) s.heap e cls dx)
    (h : ∀ h' ch, Recs F s.heap ch → s.heap.objs.size ≤ h'.objs.size → Stays S ch s.heap h' → ExcAt (TbAt F e (fr.elim .none fun f => rawInt f)) h' e cls dx → Q () { s with heap := h' }) :
    wpAny M A (setFlight (.ref e) fr) Q E s := by
  obtain ⟨oe, vs, hd, he, rfl, rfl, hdt, h1, T, oT, ts, rfl, hFT, hTe, hT, hdT, h3⟩ := hx
  unfold setFlight
  refine wpAny_bind (wpAny_field he hdt h1 ?_)
  rw [if_pos (show (Value.ref T != Value.none) = true from by simp)]
  have h3s := (Array.getElem?_eq_some_iff.mp h3).1
  refine wpAny_setField hT hdT h3s (h _ [T] (fun b hb => by rw [List.mem_singleton.mp hb]; exact ⟨hFT, _, _, hT, hdT⟩) (Nat.le_of_eq (Heap.size_after_update ..).symm) (fun b o hb hn => ?_) ?_)
  · have hbT : T ≠ b := fun q => hn (by rw [q]; exact List.mem_cons_self)
    have k := (Heap.get?_update_other s.heap (Obj.mapFields (·.setIfInBounds 3 (fr.elim Value.none fun f => rawInt f))) hbT).trans hb
    exact ⟨fun _ => k, o.slots, k⟩
  · have hdT3 := Obj.data_mapFields hdT (·.setIfInBounds 3 (fr.elim Value.none fun f => rawInt f))
    exact ⟨oe, vs, _, (Heap.get?_update_other _ _ hTe).trans he, rfl, rfl, hdt, h1, T, _, _, rfl, hFT, hTe, Heap.get?_update_self _ hT (Obj.isFreed_of_fields hdT3), hdT3, by simp [h3s]⟩
end
def Fr0 (X : Cx) (H : Hp) (b : Addr) : Prop := X.s₀.heap.objs.size ≤ b ∧ H b = none ∧ ∀ p ∈ X.pn, p.1 ≠ b
section
variable {X : Cx} {pins : List (Addr × Obj)} {σ : St} {H : Hp} {s : Shared}
theorem hok_ex {P : Program} {w : World} {H : Hp} {h h' : Heap} (hok : HOk P w H h) (k : ∀ b o, h.get? b = some o → H b ≠ none → h'.get? b = some o) : HOk P w H h' := fun a o e =>
  (hok a o e).stay (fun b u hb q => k b u q (by
    rcases hb with rfl | hb
    · rw [e]; exact fun z => nomatch z
    · rw [hb]; exact fun z => nomatch z)) (fun _ q => q) fun _ _ q => q
theorem Inv.exc {h' : Heap} {ch : List Addr} (I : Inv X [] σ H s) (hr : Recs (Fr0 X H) s.heap ch) (st : Stays (frs X.stack) ch s.heap h') : Inv X [] σ H { s with heap := h' } := by
  have nch : ∀ b, H b ≠ none → b ∉ ch := fun b hb q => hb (hr b q).1.2.1
  have nfr : ∀ b, H b ≠ none → b ∉ frs X.stack := fun b hb q => hb (I.stkFree b q)
  refine Inv.call' (ch := ch) I rfl ⟨fun b o q _ hb hx => (st b o q hx).1 hb, fun b o q _ _ hx => (st b o q hx).2, fun _ _ _ q _ => q, fun b o q hx => ?_, fun _ _ q => q, fun _ _ _ q => q, fun b ps q => ⟨#[], by rw [Array.append_empty]; exact q⟩⟩
    (hok_ex I.hok fun b o q hb => (st b o q (nch b hb)).1 (nfr b hb)) I.bare fun b hb => ?_
  · obtain ⟨sl, z⟩ := (st b o q hx).2
    exact ⟨_, z⟩
  · obtain ⟨⟨h1, h2, h3⟩, o, vs, ho, hd⟩ := hr b hb
    refine ⟨.inr h1, fun q => ?_, fun x c hc q => ?_, fun p hp => ?_⟩
    · obtain ⟨m, ⟨o2, es, ep, ho2, hd2, _⟩, _⟩ := I.loc
      rw [← q, ho] at ho2
      cases ho2
      rw [hd] at hd2
      cases hd2
    · obtain ⟨v, o2, ho2, hd2⟩ := I.cell x c hc
      rw [q, ho] at ho2
      cases ho2
      rw [hd] at hd2
      cases hd2
    · rw [List.append_nil] at hp
      exact h3 p hp
end
def Fly (X : Cx) (E : St → XK) (ev : Value) (s : Shared) : Prop := ∃ e cls dx σ H L, ev = .ref e ∧ X.env.frame = some L ∧ Inv X [] σ H s ∧ Fr0 X H e ∧ ExcAt (HdOk (Fr0 X H) e L) s.heap e cls dx ∧ E σ cls dx H
abbrev CX1 (P : Program) (w : World) : CXT := fun outer H s E ev s' => ∃ e cls dx H', ev = .ref e ∧ s'.os = s.os ∧ AllBare s'.gens ∧ Un (frs outer) [] H H' s.heap s'.heap ∧ HOk P w H' s'.heap ∧
  (s.heap.objs.size ≤ e ∧ H' e = none) ∧ ExcAt (TbAt (fun b => s.heap.objs.size ≤ b ∧ H' b = none) e .none) s'.heap e cls dx ∧ E cls dx H'
section
variable {X : Cx} {pins : List (Addr × Obj)} {σ : St} {H : Hp} {s : Shared}
theorem Inv.nopins (I : Inv X pins σ H s) : Inv X [] σ H s := ⟨I.ok, I.os, I.bare, I.base, I.loc, I.cell, I.free, I.freeC, fun p hp => I.pin p (List.mem_append_left _ (by rwa [List.append_nil] at hp)), I.hok, I.len⟩
theorem Inv.pnlt (I : Inv X pins σ H s) {b : Addr} (h : s.heap.objs.size ≤ b) : ∀ p ∈ X.pn, p.1 ≠ b := fun p hp q => by
  have := Heap.lt_size (I.pin p (List.mem_append_left _ hp)).1
  exact absurd (Nat.lt_of_lt_of_le this h) (by rw [q]; exact Nat.lt_irrefl _)
theorem Inv.fr0 (I : Inv X pins σ H s) {b : Addr} (h : s.heap.objs.size ≤ b) : Fr0 X H b := ⟨Nat.le_trans I.sz h, I.hok.fresh h, I.pnlt h⟩
theorem fly_note {E : St → XK} {A : Around} {M : Model} {ev : Value} {N : Value → Shared → Prop} {Q : Unit → Shared → Prop} (hA : A.frames = some X.stack) (hst : X.stack = X.env :: X.outer) (h : Fly X E ev s)
    (q : ∀ h' e cls dx σ H L, ev = .ref e → X.env.frame = some L → Inv X [] σ H { s with heap := h' } → Fr0 X H e → ExcAt (TbAt (Fr0 X H) e (rawInt L)) h' e cls dx → E σ cls dx H → Q () { s with heap := h' }) :
    wpAny M A (noteFrame ev X.env) Q N s := by
  obtain ⟨e, cls, dx, σ, H, L, rfl, hL, I, he, hx, hE⟩ := h
  have hl := I.stack
  rw [hst] at hA hl
  refine note_any hA hl hL (fun b hb => I.fr0 hb) he hx fun h' ch hr hs st hx' => ?_
  exact q h' e cls dx σ H L rfl hL (I.exc hr (by rw [hst]; exact st)) he hx' hE
theorem fly_mark {A : Around} {M : Model} {N : Value → Shared → Prop} {Q : Unit → Shared → Prop} {e : Addr} {cls x : Value} {dx fr : Option Addr} (I : Inv X [] σ H s) (he : Fr0 X H e)
    (hx : ExcAt (TbAt (Fr0 X H) e x) s.heap e cls dx) (q : ∀ h', Inv X [] σ H { s with heap := h' } → ExcAt (TbAt (Fr0 X H) e (fr.elim .none fun f => rawInt f)) h' e cls dx → Q () { s with heap := h' }) :
    wpAny M A (setFlight (.ref e) fr) Q N s :=
  flight_any (S := frs X.stack) he hx fun h' _ hr _ st hx' => q h' (I.exc hr st) hx'
theorem fly_own {E : St → XK} {M : Model} (hst : X.stack = X.env :: X.outer) : PassesOwn M X.A X.env (Fly X E) := by
  intro ev s h
  have hA : X.A.frames = some X.stack := let ⟨_, _, _, _, _, _, _, _, I, _⟩ := h; I.ok.frames
  refine fly_note hA hst h fun h' e cls dx σ H L hev hL I he hx hE => ?_
  subst hev
  obtain ⟨oe, vs, hd, ho, hc, hdi, hdt, h1, T, oT, ts, rfl, r⟩ := id hx
  unfold cameBackBy
  refine wpAny_bind (wpAny_field (s := { s with heap := h' }) ho hdt h1 ?_)
  rw [if_neg (show ¬ ((Value.ref T == Value.none) = true) from by simp)]
  rw [hL]
  exact fly_mark (s := { s with heap := h' }) (fr := some L) I he hx fun h2 I2 hx2 => ⟨e, cls, dx, σ, H, L, rfl, hL, I2, he, hx2.mono fun hd t => .inr (.inr t), hE⟩
theorem PSs.wishTo {E' : Value → Shared → Prop} {st : List Stmt} {t : TS} (h : PSs (X.wish E') st t) (hE : ∀ e s, E' e s → X.xe e s) : PSs X st t := fun pins s σ H D I hw =>
  wpAny_mono (h pins s σ H D (I.wish _) hw) (fun _ _ q => q.unwish) hE
end
def tCallS (sp : Sp) (E : St → XK) (t : TA) : TE := fun σ H Q => t σ H fun vs H1 => sp vs H1 Q (E σ)
section
variable {X : Cx} {k : Nat} {f L : Addr} {fd : FuncData} {ps : List Str} {sp : Sp} {E : St → XK} {x : Str} {p pos : Pos} {e : Expr} {es : List Expr} {t : TA}
theorem run_fnX {pins : List (Addr × Obj)} {σ : St} {H : Hp} {s : Shared} {Q : VK} {us : List Value} {vs : List V} (hL : X.env.frame = some L) (F : FnOk X.prog X.w X.K X.mg X.base (CX1 X.prog X.w) k f fd ps sp) (hr : Room k X.A) (hb : Binds X.K fd ps [])
    (I : Inv (X.wish (Fly X E)) pins σ H s) (r : Vals vs us) (h : sp vs H Q (E σ)) : wpAny (model X.prog X.w) X.A (call (.ref f) us) (EP (X.wish (Fly X E)) pins σ Q) (Fly X E) s := by
  have hl : (us ++ []).length = ps.length := by rw [List.append_nil, ← r.length]; exact F.len _ _ _ _ h
  have hb0 := hb s us I.kIn hl
  rw [List.append_nil] at hb0
  refine wpAny_call (codeAny_mono (F.run X.A X.stack s H ⟨us, []⟩ us vs Q (E σ) hr I.env0 hb0 r h) fun r s' hq => ?_)
  cases r with
  | error ev =>
    have hq : CX1 X.prog X.w X.stack H s (E σ) ev s' := hq
    obtain ⟨e, cls, dx, H', rfl, os, bare, un, hok, ⟨h1, h2⟩, hx, hE⟩ := hq
    have I0 := I.unwish
    have I1 : Inv X pins σ H' s' := I0.call' (ch := []) os un hok bare fun b z => absurd z (by simp)
    exact ⟨e, cls, dx, σ, H', L, rfl, hL, I1.nopins, ⟨Nat.le_trans I0.sz h1, h2, I0.pnlt h1⟩, hx.mono fun hd t => .inr (.inl (t.mono fun b hb => ⟨Nat.le_trans I0.sz hb.1, hb.2, I0.pnlt hb.1⟩)), hE⟩
  | ok fl =>
    cases fl with
    | ret u => exact I.after hq
    | next => exact False.elim hq
    | brk => exact False.elim hq
    | cont => exact False.elim hq
theorem pe_callX (hL : X.env.frame = some L) (F : FnOk X.prog X.w X.K X.mg X.base (CX1 X.prog X.w) k f fd ps sp) (hr : Room k X.A) (hg : Gl X x) (hm : X.mg x = some (.ref f)) (hk : PySem.W.keepIn X.K (.ref f) = true) (hb : Binds X.K fd ps [])
    (ha : PA (X.wish (Fly X E)) (e :: es) t) (hdb : (x == ("__debug__" : Str)) = false := by decide) (he : starEach (e :: es) X.env = (false, eval e X.env) :: starEach es X.env := by rfl) (hpl : (backTo pos (starEach es X.env)).any (·.1) = false := by rfl) :
    PE (X.wish (Fly X E)) (.Call (.Name x p) (e :: es) [] pos) (tCallS sp E t) := by
  intro pins s σ H Q I h
  refine wpAny_Call_Name_kw (ld_glob I hg hm ?_ hdb)
  refine PySem.W.callWith_K (h₀ := X.base) I.ok.mod.kin hk (thn (ha pos pins s σ H _ I h) fun us s1 ⟨vs, H1, I1, r, q⟩ => ⟨I1.kIn, ?_⟩) he hpl
  exact run_fnX hL F hr hb I1 r q
end
section
variable {P : Program} {w : World} {K : PySem.W.Frag} {mg : Str → Option Value} {base : Heap}
abbrev cxF (P : Program) (w : World) (K : PySem.W.Frag) (mg : Str → Option Value) (base : Heap) (N : List Str) (qual : Str) (scope : Scope) (f : Addr) (cd : Value) (A : Around) (outer : List Env) (s : Shared) (H : Hp) (E : XK) : Cx :=
  (cxOf (CX1 P w) P w K mg base N qual scope f cd A outer s H E).wish (Fly (cxOf (CX1 P w) P w K mg base N qual scope f cd A outer s H E) fun _ => E)
theorem fly_leaves {N : List Str} {qual : Str} {scope : Scope} {f : Addr} {cd : Value} {A : Around} {outer : List Env} {s : Shared} {H : Hp} {E : XK} :
    ∀ ev s', Fly (cxOf (CX1 P w) P w K mg base N qual scope f cd A outer s H E) (fun _ => E) ev s' → (cxOf (CX1 P w) P w K mg base N qual scope f cd A outer s H E).xe ev s' := by
  intro ev s' h
  show wpAny (model P w) (A.deeper (envOfC qual scope s.heap.objs.size f cd)) (leaving (envOfC qual scope s.heap.objs.size f cd) ev) _ _ s'
  unfold leaving
  refine wpAny_bind (fly_note (X := cxOf (CX1 P w) P w K mg base N qual scope f cd A outer s H E) (let ⟨_, _, _, _, _, _, _, _, I, _⟩ := h; I.ok.frames) rfl h fun h' e cls dx σ H1 L hev hL I he hx hE => ?_)
  subst hev
  refine fly_mark (s := { s' with heap := h' }) (fr := none) I he hx fun h2 I2 hx2 => ?_
  exact ⟨e, cls, dx, H1, rfl, I2.os, I2.bare, I2.base, I2.hok, ⟨he.1, he.2.1⟩, hx2.mono fun hd t => t.mono fun b hb => ⟨hb.1, hb.2.1⟩, hE⟩
theorem Fun.okX {x qual : Str} {st : Stmt} {f : Addr} {fd : FuncData} {N ps : List Str} {k : Nat} {sp : Sp} (F : Fun K x qual st f fd) (S : FnScope N ps (defScope st)) (len : ∀ vs H Q E, sp vs H Q E → vs.length = ps.length)
    (hbody : ∀ (cdv : Value) (A : Around) (outer : List Env) (s : Shared) (H : Hp) (vs : List V) (Q : VK) (E : XK), Room k (A.deeper (envOfC qual (defScope st) s.heap.objs.size f cdv)) → sp vs H Q E →
      ∃ t, PSs (cxF P w K mg base N qual (defScope st) f cdv A outer s H E) (defBody st) t ∧ t { nx := fun _ H' => Q .non H', rt := Q } (start N vs) H) : FnOk P w K mg base (CX1 P w) (k + 1) f fd ps sp := by
  obtain ⟨oc, od, kV, doc, pm, an, cdv, ct, osl, rfl, lk, hcd⟩ := F.ex
  refine fn_of lk hcd S len fun A outer s H vs Q E hr hsp => ?_
  obtain ⟨t, h, q⟩ := hbody cdv A outer s H vs Q E hr hsp
  exact ⟨t, h.wishTo fly_leaves, q⟩
end
end L2
namespace L2
open PySem PySem.Spec PyProof.Rows PySem.W PySem.Calls
abbrev bmV : List Value := [.type "ValueError", .type "Exception", .type "BaseException", .type "object"]
section
variable {prog : Program} {w : World} {A : Around} {R : Result → Shared → Prop} {h : Heap} {g : Array GenState} {d : Drawn} {t : Nat} {os : OsState}
variable {nm q : Str} {C N : Addr} {bs bm : List Value} {hdct : Bool} {sn : List Str} {sub : List Value} {ab : Bool} {col : Option Bool} {dd : Option Addr} {k0 k1 k2 k3 k5 : Option Value}
abbrev excObj (C : Addr) (t : Addr) (dx : Option Addr) : Obj := { cls := .ref C, dict := dx, data := .fields #[.ref t, .none, .none, .none, .bool false, .none] }
theorem exc_type_call {E : Value → Shared → Prop} {f : Addr} {mN : Str → Option Value} {rest : List Value} {Q : Fin → Shared → Prop} (T : OwnTail h bmV bm) (hC : h.get? C = some (excClassObj nm q C N bs bm hdct sn sub ab col dd k0 k1 k2 k3 k5 "ValueError.__new__")) (hn : h.Ns N mN)
    (hni : mN "__init__" = some (.ref f)) (hb : ∀ self, Looks (model prog w) h (bindSpecial (.ref f) self) (.ref f, [self])) (hrest : rest.length ≤ sizeLine)
    (hq : codeAny (model prog w) A (.call (.ref f) ⟨.ref (h.objs.size + 1) :: rest, []⟩) (fun r s' => match r with | .ok (.ret v) => v = .none ∧ Q (.done (.ret (.ref (h.objs.size + 1)))) s' | .ok _ => False | .error x => E x s')
      ⟨(h.push { cls := .type "tuple", data := .seq rest.toArray }).push (excObj C h.objs.size none), g, d, t, os⟩) :
    wpAny (model prog w) A (Builtin.«type.__call__» ⟨.ref C :: rest, []⟩) Q E ⟨h, g, d, t, os⟩ := by
  have F := PySem.F.excBase_ValueError
  have hBn : bmV.contains (.type "ValueError") = true := by decide
  repeat (first | with_reducible refine wpAny_loadPart_at hC ?_ | with_reducible refine wpAny_madeBy_exc hC ?_ | wp_step)
  refine codeAny_call_builtin_code (Code.quiet_builtin _ F.quiet) (wpAny_check_new_subU F hBn T hC ?_)
  refine codeAny_exc_new_subU F hBn F T hC ?_ hrest
  show wpAny _ _ _ _ _ _
  have hC₁ := Heap.get?_push_of_some { cls := .ref C, data := .fields #[.ref h.objs.size, .none, .none, .none, .bool false, .none] }
    (Heap.get?_push_of_some { cls := .type "tuple", data := .seq rest.toArray } hC)
  have hn₁ : ((h.push { cls := .type "tuple", data := .seq rest.toArray }).push { cls := .ref C, data := .fields #[.ref h.objs.size, .none, .none, .none, .bool false, .none] }).Ns N mN :=
    let ⟨o, es, ep, e, r⟩ := hn; ⟨o, es, ep, Heap.get?_push_of_some _ (Heap.get?_push_of_some _ e), r⟩
  have hget : ((h.push { cls := .type "tuple", data := .seq rest.toArray }).push
      { cls := .ref C, data := .fields #[.ref h.objs.size, .none, .none, .none, .bool false, .none] }).get? (h.objs.size + 1) = some
      { cls := .ref C, data := .fields #[.ref h.objs.size, .none, .none, .none, .bool false, .none] } := by heap_get
  have hcC : (Value.ref C :: bm).contains (.ref C) = true := by simp
  have T₁ := T.keeps (h' := (h.push { cls := .type "tuple", data := .seq rest.toArray }).push { cls := .ref C, data := .fields #[.ref h.objs.size, .none, .none, .none, .bool false, .none] })
    fun b o e => Heap.get?_push_of_some _ (Heap.get?_push_of_some _ e)
  have b1 := (hb (.ref (h.objs.size + 1))).keeps (h' := (h.push { cls := .type "tuple", data := .seq rest.toArray }).push { cls := .ref C, data := .fields #[.ref h.objs.size, .none, .none, .none, .bool false, .none] })
    fun b o e => Heap.get?_push_of_some _ (Heap.get?_push_of_some _ e)
  unfold isInstance
  repeat (first | with_reducible refine wpAny_loadPart_at hget ?_ | (with_reducible refine wpAny_isSubtype_exc hC₁ ?_; rw [hcC]) | wp_step)
  show wpAny _ _ (typeLookup (.ref C) _) _ _ _
  refine wpAny_typeLookup_tail hC₁ hn₁ T₁ F.mroIs F.init.lookup ?_
  rw [hni]
  refine wpAny_holding (wpAny_bind (b1.here ?_))
  refine wpAny_bind (wpAny_call ?_)
  refine codeAny_mono hq fun r s' z => ?_
  rcases r with e | (v | _ | _ | _) <;> first | exact z | exact z.elim | skip
  obtain ⟨rfl, z⟩ := z
  exact wpAny_pure (wpAny_pure z)
theorem exc_core {f : Addr} {mN : Str → Option Value} {rest : List Value} (T : OwnTail h bmV bm) (hC : h.get? C = some (excClassObj nm q C N bs bm hdct sn sub ab col dd k0 k1 k2 k3 k5 "ValueError.__new__")) (hn : h.Ns N mN)
    (hni : mN "__init__" = some (.ref f)) (hb : ∀ self, Looks (model prog w) h (bindSpecial (.ref f) self) (.ref f, [self])) (hrest : rest.length ≤ sizeLine)
    (hq : codeAny (model prog w) (A.under (.builtin "type.__call__" ⟨.ref C :: rest, []⟩)) (.call (.ref f) ⟨.ref (h.objs.size + 1) :: rest, []⟩) (InitBack (h.objs.size + 1) R)
      ⟨(h.push { cls := .type "tuple", data := .seq rest.toArray }).push (excObj C h.objs.size none), g, d, t, os⟩) :
    codeAny (model prog w) A (.call (.ref C) ⟨rest, []⟩) R ⟨h, g, d, t, os⟩ := by
  have f1 := tc_lookup
  have f2 := PySem.tc_bind (.ref C)
  have hT : (⟨h, g, d, t, os⟩ : Shared).TypeIs (.ref C) "type" := ⟨_, hC, rfl⟩
  refine codeAny_of_tree ?_
  show wpAny _ _ (callAny (.ref C) _) _ _ _
  repeat (any_goals (first | assumption | with_reducible refine wpAny_loadPart_at hC ?_ | wp_step))
  refine ⟨rfl, ?_⟩
  refine codeAny_call_builtin_at (Code.quiet_builtin _ (by decide +kernel)) entry_typeCall (wpAny_check_type_call_sub hC ?_)
  exact exc_type_call T hC hn hni hb hrest (codeAny_mono hq fun r s' z => by
    rcases r with e | (v | _ | _ | _) <;> first | exact z | exact z.elim)
end
theorem ns_some_of {K : PySem.W.Frag} {h : Heap} {N : Addr} {mg : Str → Option Value} {n : Str} {v : Value} (X : K.In h) (G : h.Ns N mg) (e : nsIn K N n = some (some v)) : mg n = some v := by
  obtain ⟨o, es, ep, ho, hd, _, hf⟩ := G
  unfold nsIn at e
  split at e
  · rename_i c d es' n' sl q
    have := X _ _ q
    rw [ho] at this
    cases this
    cases hd
    split at e
    · rename_i en he
      cases e
      rw [← hf]
      unfold nsFind findBy
      rw [← Array.find?_toList, he]
      rfl
    · split at e <;> cases e
  · cases e
def xclsIn (K : PySem.W.Frag) (C : Addr) (init : Option Addr) : Bool := match K.lookup C with
  | some ⟨.type "type", _, .cls cd, sl⟩ => (match cd.mro, sl.toList with
    | .ref C' :: bm, [_, _, _, _, some (.builtin n), _] => C' == C && n == "ValueError.__new__" && !cd.hasDel && tailIn K bmV bm && nsOkIn K cd.ns && nsIn K cd.ns "__init__" == some (init.map Value.ref)
    | _, _ => false)
  | _ => false
theorem xcls_of {K : PySem.W.Frag} {h : Heap} {C : Addr} {init : Option Addr} (X : K.In h) (q : xclsIn K C init = true) :
    ∃ bm N nm qn bs hd sn sub ab col dd k0 k1 k2 k3 k5 mN, h.get? C = some (excClassObj nm qn C N bs bm hd sn sub ab col dd k0 k1 k2 k3 k5 "ValueError.__new__") ∧ h.Ns N mN ∧ mN "__init__" = init.map Value.ref ∧ OwnTail h bmV bm := by
  unfold xclsIn at q
  split at q
  · rename_i dd cd sl ho
    split at q
    · rename_i C' bm k0 k1 k2 k3 n k5 hm hs
      simp only [Bool.and_eq_true, beq_iff_eq, Bool.not_eq_true'] at q
      obtain ⟨⟨⟨⟨⟨rfl, rfl⟩, hdel⟩, ht⟩, hok⟩, hni⟩ := q
      obtain ⟨nm, bs, mro, ns, qn, hd, sn, sub, ab, col, del⟩ := cd
      dsimp only at hm hdel hok hni
      subst hm hdel
      have hsl : sl = #[k0, k1, k2, k3, some (.builtin "ValueError.__new__"), k5] := by
        obtain ⟨l⟩ := sl
        simp only at hs
        rw [hs]
      subst hsl
      have G : h.Ns ns (h.nsMap ns) := .of_isNs (isNs_of_in X hok)
      refine ⟨bm, ns, nm, qn, bs, hd, sn, sub, ab, col, dd, k0, k1, k2, k3, k5, _, X _ _ ho, G, ?_, tail_of_in X ht⟩
      cases init with
      | none => exact ns_none_of X G hni
      | some f => exact ns_some_of X G hni
    · cases q
  · cases q
theorem xcls_same {K : PySem.W.Frag} {h h' : Heap} {C : Addr} {init : Option Addr} (X : K.In h) (X' : K.In h') (q : xclsIn K C init = true) : h'.get? C = h.get? C := by
  unfold xclsIn at q
  split at q
  · rename_i ho
    rw [X _ _ ho, X' _ _ ho]
  · cases q
abbrev XO (e C : Addr) (dx : Option Addr) : HO := .ext fun h => ∃ t, h.get? e = some (excObj C t dx)
structure MkX (K : PySem.W.Frag) (C f : Addr) : Prop where
  cls : xclsIn K C (some f) = true
  fn : PySem.W.isFn K (.ref f) = true
  kp : PySem.W.keepIn K (.ref C) = true
section
variable {X : Cx} {CX : CXT} {k : Nat} {f C : Addr} {fd : FuncData} {ps : List Str} {sp : Sp} {x m : Str} {p pos apos : Pos} {e o : Expr} {es : List Expr} {ta : TE} {t : TA} {pins : List (Addr × Obj)} {σ : St} {H : Hp} {s : Shared}
theorem Inv.exmade {vs : List Value} (I : Inv X pins σ H s) : Inv X pins σ (upd H (s.heap.objs.size + 1) (XO (s.heap.objs.size + 1) C none))
    { s with heap := (s.heap.push { cls := .type "tuple", data := .seq vs.toArray }).push (excObj C s.heap.objs.size none) } := by
  have e2 : ((s.heap.push { cls := .type "tuple", data := .seq vs.toArray }).push (excObj C s.heap.objs.size none)).get? (s.heap.objs.size + 1) = some (excObj C s.heap.objs.size none) := by
    have := Heap.get?_push_size (s.heap.push { cls := .type "tuple", data := .seq vs.toArray }) (o := excObj C s.heap.objs.size none) rfl
    rwa [Heap.size_push] at this
  refine I.laid (t' := s.toks) (fun b u q => Heap.get?_push_of_some _ (Heap.get?_push_of_some _ q)) (Nat.le_succ _) ⟨⟨_, e2⟩, ⟨_, e2⟩, ?_⟩
  rintro h1 h2 ⟨t, e⟩ k
  exact ⟨t, k _ e⟩
theorem run_excAt {Q : VK} {us : List Value} {vs : List V} (M : MkX X.K C f) (F : FnOk X.prog X.w X.K X.mg X.base CX0 k f fd ps sp) (hr : Room (k + 1) X.A) (hb : Binds X.K fd ps []) (I : Inv X pins σ H s) (r : Vals vs us) (hlen : vs.length ≤ 10)
    (hq : sp (.ref (s.heap.objs.size + 1) :: vs) (upd H (s.heap.objs.size + 1) (XO (s.heap.objs.size + 1) C none)) (fun v H2 => v = .non ∧ Q (.ref (s.heap.objs.size + 1)) H2) E0) :
    wpAny (model X.prog X.w) X.A (call (.ref C) us) (EP X pins σ Q) X.xe s := by
  have I2 := Inv.exmade (C := C) (vs := us) I
  have r2 : Vals (V.ref (s.heap.objs.size + 1) :: vs) (Value.ref (s.heap.objs.size + 1) :: us) := .cons rfl r
  have hl : (Value.ref (s.heap.objs.size + 1) :: us ++ []).length = ps.length := by
    have e := r2.length
    rw [F.len _ _ _ _ hq] at e
    rw [List.append_nil]
    exact e.symm
  obtain ⟨bm, N, nm, qn, bs, hd, sn, sub, ab, col, dd, k0, k1, k2, k3, k5, mN, hC, hn, hni, T⟩ := xcls_of I.kIn M.cls
  have hus : us.length ≤ sizeLine := smallL (by have := r.length; omega)
  have hb0 := hb { s with heap := (s.heap.push { cls := .type "tuple", data := .seq us.toArray }).push (excObj C s.heap.objs.size none) } (Value.ref (s.heap.objs.size + 1) :: us) I2.kIn hl
  rw [List.append_nil] at hb0
  obtain ⟨hp, g, d, tk, os⟩ := s
  refine wpAny_call (exc_core T hC hn hni (fun self => bind_fn I.kIn self (beq_iff_eq.mp M.fn)) hus (codeAny_mono (F.run _ X.stack _ _ ⟨Value.ref (hp.objs.size + 1) :: us, []⟩ (Value.ref (hp.objs.size + 1) :: us) _ _ E0 (hr.make C us [])
    (I2.env0.make C us []) hb0 r2 hq) fun r s' hq' => ?_))
  cases r with
  | error e => exact False.elim hq'
  | ok fl =>
    cases fl with
    | ret u =>
      obtain ⟨v, H', I3, rv, ev, q3⟩ := I2.after hq'
      subst ev
      exact ⟨rv, ⟨V.ref (hp.objs.size + 1), H', I3, rfl, q3⟩⟩
    | next => exact False.elim hq'
    | brk => exact False.elim hq'
    | cont => exact False.elim hq'
end
end L2
namespace L2
open PySem PySem.Spec PyProof.Rows PySem.W PySem.Calls Builtin Builtin.ObjectAttr
theorem get_push_lt {h : Heap} {o : Obj} {b : Addr} (hb : b < h.objs.size) : (h.push o).get? b = h.get? b := by
  have e : (h.push o).objs[b]? = h.objs[b]? := by
    cases h
    simp [Heap.push, Array.getElem?_push]
    intro q
    exact absurd q (Nat.ne_of_lt hb)
  unfold Heap.get?
  rw [e]
def xTail : List Value → Bool
  | [] => false
  | .ref c :: r => xTail r
  | v :: r => (v :: r) == bmV
theorem refuse_x (self : Value) : ∀ {l : List Value}, xTail l = true → refuseLoop self "__setattr__" l = pure () ∧ l.contains (.type "object") = true
  | [], e => by cases e
  | v :: r, e => by
    cases v with
    | ref c =>
      have ih := refuse_x self (l := r) e
      rw [refuseLoop_ref, List.contains_cons, ih.2]
      exact ⟨ih.1, Bool.or_true _⟩
    | _ =>
      have e2 := beq_iff_eq.mp (show ((_ :: r) == bmV) = true from e)
      rw [e2]
      exact ⟨PySem.F.store_ValueError.passes self, by decide⟩
section
variable {prog : Program} {w : World} {A : Around} {K : PySem.W.Frag} {C x : Addr} {s : Shared} {R : Result → Shared → Prop}
theorem osx_open {ox : Obj} {od : Option Obj} {name : Str} {tk : Tok} {v : Value} {cd : ClassData} (X : K.In s.heap) (I : PySem.W.InstAt s.heap x ox C od) (hc : clsIn K C = some cd) (ho : xTail cd.mro = true) (ha : findIn K (.ref C) name = some none)
    (h : wpAny (model prog w) A.in1 (storeInOwnDict (.ref x) (.ref C) (.str name tk) name v false)
      (fun fin s' => match fin with | .done f => R (.ok f) s' | .again c' => c'.quiet = true ∧ codeAny (model prog w) A c' R s') (fun e s' => R (.error e) s') s) :
    codeAny (model prog w) A (.call (.builtin "object.__setattr__") ⟨[.ref x, .str name tk, v], []⟩) R s := by
  have SF := PySem.F.store_object
  have ne : cd.mro.isEmpty = false := by cases q : cd.mro with | nil => rw [q] at ho; cases ho | cons _ _ => rfl
  have sub : Looks (model prog w) s.heap (isInstance (.ref x) (.type "object")) true := I.type.andThen (looks_mroIn X (by unfold mroIn; rw [hc, Option.bind_some, if_neg (by rw [ne]; decide), (refuse_x (.ref x) ho).2]))
  refine codeAny_call_builtin SF.slot.plain SF.entry (@check_slot (model prog w) _ _ s "object.__setattr__" "object" "__setattr__" (.ref x) [.str name tk, v] [] _ SF.kind SF.split sub (SF.args (.ref x) (.str name tk) v) ?_)
  have hm : Looks (model prog w) s.heap (mroOf (.ref C)) cd.mro := (looks_clsIn X hc).andThen .now
  rw [osa_eq, refuse_eq]
  refine wpAny_bind (wpAny_bind (I.type.here (wpAny_bind (hm.here ?_))))
  rw [(refuse_x (.ref x) ho).1]
  refine wpAny_pure (wpAny_bind (I.type.here (wpAny_bind ((looks_findIn X ha).here (wpAny_bind ?_)))))
  exact wpAny_pure h
structure XF (K : PySem.W.Frag) (C : Addr) (f : Str) : Prop where
  cd : ∃ cd, clsIn K C = some cd ∧ xTail cd.mro = true ∧ cd.hasDict = true
  sa : findIn K (.ref C) "__setattr__" = some (some (.builtin "object.__setattr__"))
  no : findIn K (.ref C) f = some none
theorem set_exc {E : Value → Shared → Prop} {t : Addr} {name : Str} {v : Value} {Q : Unit → Shared → Prop} (X : K.In s.heap) (hx : s.heap.get? x = some (excObj C t none)) (F : XF K C name)
    (h : ∀ h' k, s.heap.objs.size ≤ h'.objs.size → (∀ b o, b ≠ x → s.heap.get? b = some o → h'.get? b = some o) → h'.get? x = some (excObj C t (some s.heap.objs.size)) → h'.Ns1 s.heap.objs.size (fun y => if y = name then some v else none) → Q () { s with heap := h', toks := k }) :
    wpAny (model prog w) A (setAttr (.ref x) name v) Q E s := by
  obtain ⟨⟨cd, hc, ht, hd⟩, hsa, hno⟩ := F
  have J : PySem.W.InstAt s.heap x (excObj C t none) C none := ⟨hx, rfl, rfl, True.intro⟩
  refine set_plain X J hsa (osx_open (s := { s with toks := s.toks + 1 }) X J hc ht hno ?_)
  have hxd : x ≠ s.heap.objs.size := Nat.ne_of_lt (Heap.lt_size hx)
  refine wpAny_bind (wpAny_pure (wpAny_bind (wpAny_bind (wpAny_loadPart (s := { s with toks := s.toks + 1 }) hx (wpAny_bind (PySem.W.Looks.here (s := { s with toks := s.toks + 1 }) (looks_clsIn X hc) ?_))))))
  rw [hd]
  show wpAny _ _ (do
    let d ← alloc { cls := Value.type "dict", data := Data.dict #[] }
    update x fun o => { o with dict := some d }
    dictMade (.ref C) x d) _ _ _
  refine wpAny_bind (wpAny_alloc (wpAny_bind ?_))
  have hx1 := Heap.get?_push_of_some (h := s.heap) emptyDict hx
  refine wpAny_update (o := excObj C t none) (s := { s with heap := s.heap.push emptyDict, toks := s.toks + 1 }) hx1 ?_
  show wpAny _ _ (pure (some s.heap.objs.size)) _ _ _
  refine wpAny_pure ?_
  have e1 : (s.heap.push emptyDict).get? s.heap.objs.size = some emptyDict := Heap.get?_push_size s.heap rfl
  have e2 : ((s.heap.push emptyDict).update x fun o => { o with dict := some s.heap.objs.size }).get? s.heap.objs.size = some emptyDict := (Heap.get?_update_other _ _ hxd).trans e1
  have e3 : ((s.heap.push emptyDict).update x fun o => { o with dict := some s.heap.objs.size }).get? x = some (excObj C t (some s.heap.objs.size)) := Heap.get?_update_self _ hx1 rfl
  have n1 : ((s.heap.push emptyDict).update x fun o => { o with dict := some s.heap.objs.size }).Ns1 s.heap.objs.size (fun _ => none) := Heap.Ns1.of_empty ⟨emptyDict, #[], _, e2, rfl, (fun e he => absurd he (by simp)), fun _ => rfl⟩
  have k1 : ∀ b o, b ≠ x → s.heap.get? b = some o → ((s.heap.push emptyDict).update x fun o => { o with dict := some s.heap.objs.size }).get? b = some o := fun b o hb q => (Heap.get?_update_other _ _ (Ne.symm hb)).trans (Heap.get?_push_of_some _ q)
  have z1 : ((s.heap.push emptyDict).update x fun o => { o with dict := some s.heap.objs.size }).objs.size = s.heap.objs.size + 1 := by rw [Heap.size_after_update, Heap.size_push]
  generalize ((s.heap.push emptyDict).update x fun o => { o with dict := some s.heap.objs.size }) = h1 at e2 e3 n1 k1 z1 ⊢
  refine wpAny_bind (wpAny_pure (wpAny_bind ?_))
  refine wpAny_nsSet1 (s := { s with heap := h1, toks := s.toks + 1 }) n1 fun h' hn2 hs2 => ?_
  obtain ⟨oD, esD, epD, hoD, hdD, hcD⟩ := hn2.count (PySem.Within.cons (ns := []) name v (fun y hy => absurd rfl hy))
  refine wpAny_bind (wpAny_lookBehind hoD (by rw [hdD]; exact pastItsLine_dict (Nat.le_trans hcD (Nat.le_trans (smallL (show 1 ≤ 100000 by decide)) (Nat.le_succ _)))) ?_)
  refine wpAny_pure (h h' _ ?_ (fun b o hb q => ?_) ?_ hn2)
  · rw [hs2.1]
    show s.heap.objs.size ≤ h1.objs.size
    omega
  · have hbd : b ≠ s.heap.objs.size := Nat.ne_of_lt (Heap.lt_size q)
    exact (hs2.2 b hbd).trans (k1 b o hb q)
  · exact (hs2.2 x hxd).trans e3
end
section
variable {X : Cx} {pins : List (Addr × Obj)} {σ : St} {H : Hp} {s : Shared}
theorem Inv.exset {e C t : Addr} {y : V} {u : Value} {f : Str} {h' : Heap} {k : Nat} (I : Inv X pins σ H s) (he : H e = some (XO e C none)) (ry : RelV y u)
    (k1 : ∀ b o, b ≠ e → s.heap.get? b = some o → h'.get? b = some o) (e3 : h'.get? e = some (excObj C t (some s.heap.objs.size))) (n1 : h'.Ns1 s.heap.objs.size (fun z => if z = f then some u else none)) :
    Inv X pins σ (upd (upd H s.heap.objs.size (.xd [(f, y)])) e (XO e C (some s.heap.objs.size))) { s with heap := h', toks := k } := by
  obtain ⟨oD, es, ep, hoD, r⟩ := id n1
  have hfr : oD.isFreed = false := (Heap.get?_some_iff.mp hoD).2
  have g1 : (s.heap.push oD).get? s.heap.objs.size = some oD := Heap.get?_push_size s.heap hfr
  have hed : e ≠ s.heap.objs.size := Nat.ne_of_lt (I.hok.lt he)
  have I1 := I.laid (a := s.heap.objs.size) (o := .xd [(f, y)]) (h' := s.heap.push oD) (t' := s.toks) (fun b u q => Heap.get?_push_of_some _ q) (Nat.le_refl _) ⟨_, ⟨oD, es, ep, g1, r⟩, fun g => by
    show RelO (List.lookup g [(f, y)]) (if g = f then some u else none)
    by_cases q : g = f
    · rw [if_pos q, q]
      simp
      exact ry
    · rw [if_neg q]
      have : List.lookup g [(f, y)] = none := by simp [q]
      rw [this]
      exact True.intro⟩
  refine I1.write (x := e) (e := e) (h' := h') (o := XO e C (some s.heap.objs.size)) (t' := k) (by rw [upd_ne hed, he]; exact True.intro) (.inl rfl) (fun b v hb q => ?_) ⟨_, e3⟩ ⟨⟨_, e3⟩, ⟨_, e3⟩, ?_⟩
  · by_cases hbd : b = s.heap.objs.size
    · subst hbd
      rw [g1] at q
      cases q
      exact hoD
    · refine k1 b v hb ?_
      have hlt := Heap.lt_size q
      rw [Heap.size_push] at hlt
      have hlt2 : b < s.heap.objs.size := Nat.lt_of_le_of_ne (Nat.lt_succ_iff.mp hlt) hbd
      rwa [get_push_lt hlt2] at q
  · rintro h1 h2 ⟨t, q⟩ kk
    exact ⟨t, kk _ q⟩
def sXF (K : PySem.W.Frag) (ta tv : TE) (f : Str) : TS := fun D σ H => tv σ H fun y H1 => ta σ H1 fun x H2 => ∃ e C, x = .ref e ∧ H2 e = some (XO e C none) ∧ XF K C f ∧ ∀ dx, H2 dx = none → D.nx σ (upd (upd H2 dx (.xd [(f, y)])) e (XO e C (some dx)))
theorem ps_xfld {o value : Expr} {f : Str} {pos pos' : Pos} {ta tv : TE} (ha : PE X o ta) (hv : PE X value tv) (hs : swapsWith value (some (.Attribute o f pos')) pos.line X.env = pure false) : PS X (.Assign [.Attribute o f pos'] value pos) (sXF X.K ta tv f) := by
  intro pins s σ H D I h
  refine plainObj_wpAny_Assign_Attribute (thn (hv pins s σ H _ I h) fun u s1 ⟨y, H1, I1, ry, q⟩ => thn (ha pins s1 σ H1 _ I1 q) fun ov s2 ⟨x, H2, I2, rx, e, C, ex, ea, F, q2⟩ => ?_) hs
  subst ex
  obtain rfl : ov = Value.ref e := rx
  obtain ⟨⟨t, he⟩, _⟩ := I2.hok e _ ea
  refine set_exc I2.kIn he F fun h' k _ k1 e3 n1 => ?_
  exact ⟨σ, _, I2.exset ea ry k1 e3 n1, q2 _ I2.fresh⟩
end
end L2
namespace L2
open PySem PySem.Spec PyProof.Rows PySem.W PySem.Calls
structure BI (K : PySem.W.Frag) (CB : Addr) : Prop where
  reads : readsIn K CB (.type "type") = true
  find : findCls K (.ref CB) (.type "type") "__init__" = some (.val (.builtin "ValueError.__init__"))
  ga : specialIn K (.ref CB) "__getattribute__" = some (some (.builtin "type.__getattribute__"))
section
variable {X : Cx} {pins : List (Addr × Obj)} {σ : St} {H : Hp} {s : Shared}
theorem run_binit {e C : Addr} {dx init : Option Addr} {u : Value} {Q : VK} (I : Inv X pins σ H s) (he : H e = some (XO e C dx)) (hC : xclsIn X.K C init = true) (q : Q .non H) :
    wpAny (model X.prog X.w) X.A (call (.builtin "ValueError.__init__") [.ref e, u]) (EP X pins σ Q) X.xe s := by
  obtain ⟨⟨t0, hx⟩, _⟩ := I.hok e _ he
  obtain ⟨bm, N, nm, qn, bs, hd, sn, sub, ab, col, dd, k0, k1, k2, k3, k5, mN, hC, hn, hni, T⟩ := xcls_of I.kIn hC
  have F := PySem.F.excBase_ValueError
  obtain ⟨hp, g, d, tk, os⟩ := s
  refine wpAny_call (codeAny_call_builtin F.init.plain F.initEntry (wpAny_check_init_subU F T hC hx rfl ?_))
  wp_walk
  have hx : hp.get? e = some (excObj C t0 dx) := hx
  have I1 := I.kept (h' := hp.push { cls := Value.type "tuple", data := Data.seq #[u] }) (t' := tk) (fun b u q => Heap.get?_push_of_some _ q)
  have g2 : ((hp.push { cls := Value.type "tuple", data := Data.seq #[u] }).update e (Obj.mapFields fun x => x.setIfInBounds 0 (Value.ref hp.objs.size))).get? e = some (excObj C hp.objs.size dx) :=
    Heap.get?_update_self _ (Heap.get?_push_of_some _ hx) rfl
  have I2 := I1.write (x := e) (e := e) (o := XO e C dx) (h' := (hp.push { cls := Value.type "tuple", data := Data.seq #[u] }).update e (Obj.mapFields fun x => x.setIfInBounds 0 (Value.ref hp.objs.size))) (t' := tk)
    (by rw [he]; exact True.intro) (.inl rfl) (fun b v hb q => (Heap.get?_update_other _ _ (Ne.symm hb)).trans q) ⟨_, g2⟩ ⟨⟨_, g2⟩, ⟨_, g2⟩, fun h1 h2 ⟨t, z⟩ kk => ⟨t, kk _ z⟩⟩
  have eH : upd H e (XO e C dx) = H := by
    funext b
    by_cases hb : b = e
    · subst hb
      rw [upd_same, he]
    · rw [upd_ne hb]
  rw [eH] at I2
  exact ⟨.non, H, I2, rfl, q⟩
def tBI (K : PySem.W.Frag) (t : TA) : TE := fun σ H Q => t σ H fun vs H1 => ∃ e C dx init x, vs = [.ref e, .str x] ∧ H1 e = some (XO e C dx) ∧ xclsIn K C init = true ∧ Q .non H1
theorem pe_binit {CB : Addr} {x : Str} {np apos pos : Pos} {e : Expr} {es : List Expr} {t : TA} {pl : Sem Bool} (F : BI X.K CB) (hg : Gl X x) (hm : X.mg x = some (.ref CB)) (ha : PA X (e :: es) t) (hdb : (x == ("__debug__" : Str)) = false := by decide)
    (hst : starEach (e :: es) X.env = (false, eval e X.env) :: starEach es X.env := by rfl) (hpl : (backTo pos (starEach es X.env)).any (·.1) = false := by rfl)
    (ht : eval (.Call (.Attribute (.Name x np) "__init__" apos) (e :: es) [] pos) X.env = (do
      let ov ← eval (.Name x np) X.env
      standAt apos.atName
      let (f, first) ← holding [ov] (getMethod ov "__init__" pl)
      callWith pos f first (backTo pos (starEach (e :: es) X.env)) (backToKw pos (keywordEach [] X.env))) := by rfl) :
    PE X (.Call (.Attribute (.Name x np) "__init__" apos) (e :: es) [] pos) (tBI X.K t) := by
  intro pins s σ H Q I h
  refine PySem.W.methodCall_KW (pl := pl) (ld_glob I hg hm ?_ hdb) ht
  refine method_cls I.kIn F.ga (cls_value I.kIn F.reads F.find rfl ?_)
  have hA := ha pos pins { s with toks := s.toks + 1 } σ H _ (I.tok _) h
  rw [hst] at hA ⊢
  refine Calls.callWith_builtin (by show (false || (backTo pos (starEach es X.env)).any (·.1)) = false; rw [hpl] <;> rfl) (Calls.evalArgs_plain ?_)
  refine thn hA fun us s2 ⟨vs, H2, I2, r2, ex, C, dx, init, z, evs, he, hC, q⟩ => ?_
  subst evs
  cases r2 with
  | cons r1 r2 =>
    cases r2 with
    | cons r2 r3 =>
      cases r3
      obtain rfl := (show _ = Value.ref ex from r1)
      exact run_binit I2 he hC q
def tFmt (tv : TE) : TE := fun σ H Q => tv σ H fun v H1 => ∃ i : Int, v = .int i ∧ i.natAbs ≤ 1000000000 ∧ ∀ x : Str, x.length ≤ 2000 → Q (.str x) H1
theorem log_small {n : Nat} (h : n ≤ 1000000000) : n.log2 < 1920 := by
  by_cases h0 : n = 0
  · subst h0
    decide
  · have h1 : n < 2 ^ 30 := Nat.lt_of_le_of_lt h (by decide)
    exact Nat.lt_trans ((Nat.log2_lt h0).mpr h1) (by decide)
theorem pe_fmt {value : Expr} {pos : Pos} {tv : TE} (hv : PE X value tv) : PE X (.FormattedValue value (-1) none pos) (tFmt tv) := by
  intro pins s σ H Q I h
  refine wpAny_FormattedValue_plain (thn (hv pins s σ H _ I h) fun v s1 ⟨y, H1, I1, ry, i, ey, hi, q⟩ => ?_)
  subst ey
  obtain ⟨t, rfl⟩ := ry
  have hl : (Str.ofString (toString i)).length ≤ 2000 := by
    have e := int_text_length_le (k := 1920) (by decide) (log_small hi)
    rw [PySem.ofString_length]
    omega
  exact wpAny_formatField_int (log_small hi) ⟨.str _, H1, I1.tok _, ⟨_, rfl⟩, q _ hl⟩
def tJ2 (t1 t2 : TE) : TE := fun σ H Q => t1 σ H fun a H1 => ∃ x1 : Str, a = .str x1 ∧ x1.length ≤ 2000 ∧ t2 σ H1 fun b H2 => ∃ x2 : Str, b = .str x2 ∧ x2.length ≤ 2000 ∧ ∀ x, Q (.str x) H2
theorem pe_j2 {v1 v2 : Expr} {pos : Pos} {t1 t2 : TE} (h1 : PE X v1 t1) (h2 : PE X v2 t2) : PE X (.JoinedStr [v1, v2] pos) (tJ2 t1 t2) := by
  intro pins s σ H Q I h
  refine wpAny_JoinedStr ?_
  show wpAny _ _ (eval v1 X.env) _ _ _
  refine thn (h1 pins s σ H _ I h) fun a s1 ⟨y1, H1, I1, r1, x1, e1, l1, q1⟩ => ?_
  subst e1
  obtain ⟨t1', rfl⟩ := r1
  have z0 : (Str.empty ++ x1).length = x1.length := by rw [Str.length_append]; show 0 + _ = _; omega
  refine ⟨x1, t1', rfl, by rw [z0]; exact smallL (by omega), ?_⟩
  show wpAny _ _ (eval v2 X.env) _ _ _
  refine thn (h2 pins s1 σ H1 _ I1 q1) fun b s2 ⟨y2, H2, I2, r2, x2, e2, l2, q2⟩ => ?_
  subst e2
  obtain ⟨t2', rfl⟩ := r2
  have z1 : (Str.empty ++ x1 ++ x2).length ≤ sizeLine := by rw [Str.length_append, z0]; exact smallL (by omega)
  exact ⟨x2, t2', rfl, z1, z1, .str _, H2, I2.tok _, ⟨_, rfl⟩, q2 _⟩
def tJ3 (t1 t2 t3 : TE) : TE := fun σ H Q => t1 σ H fun a H1 => ∃ x1 : Str, a = .str x1 ∧ x1.length ≤ 2000 ∧ t2 σ H1 fun b H2 => ∃ x2 : Str, b = .str x2 ∧ x2.length ≤ 2000 ∧ t3 σ H2 fun c H3 => ∃ x3 : Str, c = .str x3 ∧ x3.length ≤ 2000 ∧ ∀ x, Q (.str x) H3
theorem pe_j3 {v1 v2 v3 : Expr} {pos : Pos} {t1 t2 t3 : TE} (h1 : PE X v1 t1) (h2 : PE X v2 t2) (h3 : PE X v3 t3) : PE X (.JoinedStr [v1, v2, v3] pos) (tJ3 t1 t2 t3) := by
  intro pins s σ H Q I h
  refine wpAny_JoinedStr ?_
  show wpAny _ _ (eval v1 X.env) _ _ _
  refine thn (h1 pins s σ H _ I h) fun a s1 ⟨y1, H1, I1, r1, x1, e1, l1, q1⟩ => ?_
  subst e1
  obtain ⟨t1', rfl⟩ := r1
  have z0 : (Str.empty ++ x1).length = x1.length := by rw [Str.length_append]; show 0 + _ = _; omega
  refine ⟨x1, t1', rfl, by rw [z0]; exact smallL (by omega), ?_⟩
  show wpAny _ _ (eval v2 X.env) _ _ _
  refine thn (h2 pins s1 σ H1 _ I1 q1) fun b s2 ⟨y2, H2, I2, r2, x2, e2, l2, q2⟩ => ?_
  subst e2
  obtain ⟨t2', rfl⟩ := r2
  have z1 : (Str.empty ++ x1 ++ x2).length = x1.length + x2.length := by rw [Str.length_append, z0]
  refine ⟨x2, t2', rfl, by rw [z1]; exact smallL (by omega), ?_⟩
  show wpAny _ _ (eval v3 X.env) _ _ _
  refine thn (h3 pins s2 σ H2 _ I2 q2) fun c s3 ⟨y3, H3, I3, r3, x3, e3, l3, q3⟩ => ?_
  subst e3
  obtain ⟨t3', rfl⟩ := r3
  have z2 : (Str.empty ++ x1 ++ x2 ++ x3).length ≤ sizeLine := by rw [Str.length_append, z1]; exact smallL (by omega)
  exact ⟨x3, t3', rfl, z2, z2, .str _, H3, I3.tok _, ⟨_, rfl⟩, q3 _⟩
end
end L2
namespace L2
open PySem PySem.Spec PyProof.Rows PySem.W PySem.Calls
def unt (H : Hp) (e : Addr) : Hp := fun b => if b = e then none else H b
theorem unt_same {H : Hp} {e : Addr} : unt H e e = none := by unfold unt; rw [if_pos rfl]
theorem unt_ne {H : Hp} {e b : Addr} (h : b ≠ e) : unt H e b = H b := by unfold unt; rw [if_neg h]
section
variable {M : Model} {A : Around} {E : Value → Shared → Prop} {env : Env}
variable {nm q : Str} {C N : Addr} {bs bm : List Value} {hdct : Bool} {sn : List Str} {sub : List Value} {ab : Bool} {col : Option Bool} {dd : Option Addr} {k0 k1 k2 k3 k5 : Option Value} {newId : String}
theorem raise_made {s : Shared} {x : Sem Value} {Q : Flow → Shared → Prop} (hbase : bm.contains (.type "BaseException") = true) (hh : A.handled = none)
    (h : wpAny M A x (fun v s₁ => ∃ e t dx, v = .ref e ∧ s₁.heap.get? C = some (excClassObj nm q C N bs bm hdct sn sub ab col dd k0 k1 k2 k3 k5 newId) ∧ s₁.heap.get? e = some (excObj C t dx) ∧ E (.ref e) s₁) E s) :
    wpAny M A (raiseStmt env (some x) none) Q E s := by
  have hcB : (Value.ref C :: bm).contains (.type "BaseException") = true := by rw [List.contains_cons, hbase, Bool.or_true]
  unfold raiseStmt
  refine wpAny_bind (wpAny_mono h (fun v s₁ h₁ => ?_) fun _ _ x => x)
  obtain ⟨e, t, dx, rfl, hC, he, hE⟩ := h₁
  obtain ⟨hp, g, d, tk, os⟩ := s₁
  have he : hp.get? e = some { cls := .ref C, dict := dx, data := .fields #[.ref t, .none, .none, .none, .bool false, .none] } := he
  repeat (first | with_reducible refine wpAny_loadPart_at he ?_ | with_reducible refine wpAny_loadPart_at hC ?_ | (with_reducible refine wpAny_isSubtype_exc hC ?_; rw [hcB]) | wp_step)
  exact wpAny_raiseNew_none hh hE
end
section
variable {prog : Program} {w : World} {A : Around} {E : Value → Shared → Prop} {h : Heap} {g : Array GenState} {d : Drawn} {t : Nat} {os : OsState}
variable {nm q : Str} {C N : Addr} {bs bm : List Value} {hdct : Bool} {sn : List Str} {sub : List Value} {ab : Bool} {col : Option Bool} {dd : Option Addr} {k0 k1 k2 k3 k5 : Option Value}
end
section
variable {X : Cx} {pins : List (Addr × Obj)} {σ : St} {H : Hp} {s : Shared}
theorem Inv.unt {e : Addr} {φ : Heap → Prop} (I : Inv X pins σ H s) (he : H e = some (.ext φ)) : Inv X pins σ (unt H e) s := by
  have hn : ∀ b, H b = none → L2.unt H e b = none := fun b h => by
    by_cases q : b = e
    · rw [q, unt_same]
    · rw [unt_ne q]; exact h
  have hk : ∀ b o, H b = some o → (∀ φ, o ≠ .ext φ) → L2.unt H e b = some o := fun b o h ho => by
    rw [unt_ne (fun q => ?_)]
    · exact h
    · rw [q, he] at h
      cases h
      exact ho _ rfl
  refine ⟨I.ok, I.os, I.bare, ⟨I.base.keep, I.base.slot, fun b o q n hx => hn b (I.base.free b o q n hx), I.base.there, fun b xs q => hk b _ (I.base.tups b xs q) (fun φ z => nomatch z), fun b o u q => hk b _ (I.base.frzs b o u q) (fun φ z => nomatch z), fun b ps q => ?_⟩, I.loc, I.cell, hn _ I.free, fun x c h => hn _ (I.freeC x c h), fun p hp => ?_, fun b o q => ?_, I.len⟩
  · obtain ⟨more, z⟩ := I.base.tbls b ps q
    exact ⟨more, hk b _ z (fun φ w => nomatch w)⟩
  · obtain ⟨a, b, c⟩ := I.pin p hp
    exact ⟨a, hn _ b, c⟩
  · have hb : b ≠ e := fun z => by rw [z, unt_same] at q; cases q
    rw [unt_ne hb] at q
    exact (I.hok b o q).stay (fun _ _ _ z => z) (fun c z => hk c _ z (fun φ w => nomatch w)) fun c xs z => hk c _ z (fun φ w => nomatch w)
def RaiseX (C : Addr) (sp : Sp) (E : St → XK) (σ : St) (vs : List V) (H1 : Hp) : Prop := vs.length ≤ 10 ∧ ∀ e, H1 e = none → sp (.ref e :: vs) (upd H1 e (XO e C none)) (fun v H2 => v = .non ∧ V.ref e = .ref e ∧ ∃ dx, H2 e = some (XO e C dx) ∧ E σ (.ref C) dx (L2.unt H2 e)) E0
theorem ps_raiseX {E : St → XK} {R : St → List V → Hp → Prop} {k : Nat} {f C L : Addr} {fd : FuncData} {ps : List Str} {sp : Sp} {x : Str} {np cpos pos : Pos} {e : Expr} {es : List Expr} {t : TA} (hL : X.env.frame = some L) (hcm : X.calm = true)
    (M : MkX X.K C f) (F : FnOk X.prog X.w X.K X.mg X.base CX0 k f fd ps sp) (hr : Room (k + 1) X.A) (hg : Gl X x) (hm : X.mg x = some (.ref C)) (hb : Binds X.K fd ps []) (hR : ∀ σ vs H1, R σ vs H1 → RaiseX C sp E σ vs H1)
    (ha : PA (X.wish (Fly X E)) (e :: es) t) (hdb : (x == ("__debug__" : Str)) = false := by decide) (he : starEach (e :: es) X.env = (false, eval e X.env) :: starEach es X.env := by rfl) (hpl : (backTo cpos (starEach es X.env)).any (·.1) = false := by rfl) :
    PS (X.wish (Fly X E)) (.Raise (some (.Call (.Name x np) (e :: es) [] cpos)) none pos) (fun _ σ H => t σ H (R σ)) := by
  intro pins s σ H D I h
  obtain ⟨bm, N, nm, qn, bs, hd, sn, sub, ab, col, dd, k0, k1, k2, k3, k5, mN, hC, hn, hni, T⟩ := xcls_of I.kIn M.cls
  have hbase : bm.contains (.type "BaseException") = true := T.hasType (by decide)
  rw [arm_exec_Raise]
  refine wpAny_bind (wpAny_standAt (raise_made (C := C) (nm := nm) (q := qn) (N := N) (bs := bs) (bm := bm) (hdct := hd) (sn := sn) (sub := sub) (ab := ab) (col := col) (dd := dd) (k0 := k0) (k1 := k1) (k2 := k2) (k3 := k3) (k5 := k5) (newId := "ValueError.__new__") hbase (I.ok.hd hcm) ?_))
  show wpAny _ _ (do let v ← eval (.Call (.Name x np) (e :: es) [] cpos) X.env; standAt pos; pure v) _ _ _
  refine wpAny_bind (wpAny_mono (wpAny_Call_Name_kw (ld_glob I hg hm ?_ hdb)) (fun v s₃ h₃ => wpAny_bind (wpAny_standAt (wpAny_pure h₃))) fun _ _ z => z)
  refine PySem.W.callWith_K (h₀ := X.base) I.ok.mod.kin M.kp (thn (ha cpos pins s σ H _ I h) fun us s1 ⟨vs, H1, I1, r, q0⟩ => ⟨I1.kIn, ?_⟩) he hpl
  obtain ⟨hl, q⟩ := hR σ vs H1 q0
  refine thn (run_excAt (X := X.wish (Fly X E)) (Q := fun v H2 => v = .ref (s1.heap.objs.size + 1) ∧ ∃ dx, H2 (s1.heap.objs.size + 1) = some (XO (s1.heap.objs.size + 1) C dx) ∧ E σ (.ref C) dx (L2.unt H2 (s1.heap.objs.size + 1))) M F hr hb I1 r hl ?_) fun v s2 ⟨y, H2, I2, ry, ey, dx, he2, hE2⟩ => ?_
  · exact q (s1.heap.objs.size + 1) (I1.hok.fresh (Nat.le_succ _))
  · subst ey
    obtain rfl : v = Value.ref (s1.heap.objs.size + 1) := ry
    obtain ⟨⟨t2, ho2⟩, _⟩ := I2.hok _ _ he2
    refine ⟨_, t2, dx, rfl, (xcls_same I.kIn I2.kIn M.cls).trans hC, ho2, ?_⟩
    exact ⟨_, .ref C, dx, σ, _, L, rfl, hL, (I2.unwish.nopins).unt he2, ⟨Nat.le_trans I1.sz (Nat.le_succ _), unt_same, I1.unwish.pnlt (Nat.le_succ _)⟩, ⟨_, _, .none, ho2, rfl, rfl, rfl, rfl, .inl rfl⟩, hE2⟩
end
end L2
namespace L2
open PySem PySem.Spec PyProof.Rows PySem.W PySem.Calls
section
variable {M : Model} {A : Around} {E : Value → Shared → Prop} {s : Shared}
theorem find_erase {α : Type} {p : α → Bool} : ∀ {l : List α} {i : Nat}, (∀ x, l[i]? = some x → p x = false) → (l.eraseIdx i).find? p = l.find? p
  | [], _, _ => rfl
  | x :: l, 0, h => by
    have hx := h x rfl
    show l.find? p = (x :: l).find? p
    rw [List.find?_cons, hx]
  | x :: l, i + 1, h => by
    have ih := find_erase (l := l) (i := i) fun y hy => h y (by simpa using hy)
    show (x :: l.eraseIdx i).find? p = (x :: l).find? p
    rw [List.find?_cons, List.find?_cons, ih]
theorem nsDelX {a : Addr} {m} {name : Str} {Q : Bool → Shared → Prop} (hn : s.heap.Ns a m)
    (hQ : ∀ h' m', h'.Ns a m' → (∀ y, y ≠ name → m' y = m y) → Heap.SameBut a s.heap h' → Q (m name).isSome { s with heap := h' }) : wpAny M A (nsDel a name) Q E s := by
  obtain ⟨o, es, ep, ho, hd, hk, hm⟩ := id hn
  have hany : es.any (·.refKey) = false := by
    rw [Array.any_eq_false']; intro e he; obtain ⟨n, t, h⟩ := hk e he; simp [DictEntry.refKey, h]
  have hsome : (m name).isSome = es.any (·.key.isStr name) := by
    rw [← hm name]; simp only [nsFind, findBy, Option.isSome_map]
    rw [Bool.eq_iff_iff]; simp only [Array.find?_isSome, Array.any_eq_true]
    constructor
    · rintro ⟨x, hx, hp⟩; obtain ⟨i, hi, rfl⟩ := Array.mem_iff_getElem.mp hx; exact ⟨i, hi, hp⟩
    · rintro ⟨i, hi, hp⟩; exact ⟨_, Array.getElem_mem hi, hp⟩
  have hhas : nsHas name o = pure (es.any (·.key.isStr name)) := by
    rw [nsHas_eq]; unfold nsHasByArray; rw [hd]
    show (if (es.any fun x => x.key.isStr name) = true then _ else _) = _
    generalize (es.any fun x => x.key.isStr name) = b
    cases b <;> simp [hany]
  unfold nsDel
  refine wpAny_bind (wpAny_loadPart ho ?_)
  rw [hhas]
  refine wpAny_bind (wpAny_pure ?_)
  rw [← hsome]
  cases hmn : (m name).isSome
  · have := hQ s.heap m hn (fun _ _ => rfl) (.refl ..)
    rw [hmn] at this
    exact wpAny_pure this
  · refine wpAny_bind (wpAny_updatePart ho (wpAny_pure ?_))
    have key : ∃ m', (s.heap.update a (Obj.dropName name)).Ns a m' ∧ ∀ y, y ≠ name → m' y = m y := by
      obtain ⟨cl, d, dt, sl⟩ := o
      subst hd
      cases hi : es.findIdx? (·.key.isStr name) with
      | some i =>
        refine ⟨_, ⟨_, _, ep + 1, Heap.get?_update_self _ ho (by simp only [Obj.dropName_eq, Obj.dropNameByArray, hi] <;> rfl), (by simp only [Obj.dropName_eq, Obj.dropNameByArray, hi] <;> rfl), hk.erase i, fun _ => rfl⟩, fun y hy => ?_⟩
        rw [← hm y]
        show nsFind (es.eraseIdxIfInBounds i) y = nsFind es y
        obtain ⟨l⟩ := es
        simp only [nsFind, findBy, List.eraseIdxIfInBounds_toArray, List.find?_toArray, List.findIdx?_toArray] at hi ⊢
        rw [L2.find_erase fun x hx => ?_]
        obtain ⟨hil, hp, _⟩ := List.findIdx?_eq_some_iff_getElem.mp hi
        have ex : l[i] = x := by
          rw [List.getElem?_eq_getElem hil] at hx
          exact Option.some.inj hx
        rw [ex] at hp
        cases hk2 : x.key with
        | str z t =>
          rw [hk2] at hp
          have hz : z = name := by simpa [Value.isStr] using hp
          show (z == y) = false
          rw [hz, beq_eq_false_iff_ne]
          exact fun e => hy e.symm
        | _ => rfl
      | none => exact ⟨_, ⟨_, _, ep, Heap.get?_update_self _ ho (by simp only [Obj.dropName_eq, Obj.dropNameByArray, hi] <;> rfl), (by simp only [Obj.dropName_eq, Obj.dropNameByArray, hi] <;> rfl), hk, fun _ => rfl⟩, fun y _ => hm y⟩
    obtain ⟨m', hm', hy⟩ := key
    have := hQ _ m' hm' hy (Heap.SameBut.update ..)
    rw [hmn] at this
    exact this
theorem nameGoesX {env : Env} {n : Str} {pos : Pos} {m : Str → Option Value} {Q : Unit → Shared → Prop} (hl : env.kindOf n = some .local) (hn : s.heap.Ns env.locals m)
    (hp : (env.scope.kind == .class || (env.scope.kind == .module && env.locals != env.globals)) = false)
    (h : ∀ h' m', h'.Ns env.locals m' → (∀ y, y ≠ n → m' y = m y) → Heap.SameBut env.locals s.heap h' → Q () { s with heap := h', toks := s.toks + 1 }) :
    wpAny M A (do bindName env n .none; unbindBehindTheSuite env n pos) Q E s := by
  refine wpAny_bind (wpAny_bindName (wpAny_storeName_local hl hn (fun h₁ hn₁ hs₁ => ?_) hp))
  unfold unbindBehindTheSuite
  refine wpAny_onRaise ?_
  unfold unbindName
  refine wpAny_bind (wpAny_point (wpAny_bind ?_))
  unfold deleteName
  simp only [hl, hp]
  rw [if_neg (by decide)]
  refine wpAny_bind (nsDelX hn₁ fun h₂ m₂ hn₂ hy hs₂ => ?_)
  simp only [if_true, Option.isSome_some, Bool.not_true, Bool.false_eq_true, if_false]
  exact wpAny_pure (wpAny_point (h h₂ m₂ hn₂ (fun y hyn => by rw [hy y hyn, if_neg hyn]) (hs₁.trans hs₂)))
end
section
variable {X : Cx} {pins : List (Addr × Obj)} {σ : St} {H : Hp} {s : Shared}
theorem gone_ok {M : Model} {A : Around} {E : Value → Shared → Prop} {i : Nat} {x : Str} {pos : Pos} {Q : Unit → Shared → Prop} (I : Inv X pins σ H s) (hN : X.N.Nodup) (hi : X.N[i]? = some x) (hk : X.env.scope.names.lookup x = some .local)
    (h : ∀ s', Inv X pins (σ.set i none) H s' → Q () s') : wpAny M A (do bindName X.env x .none; unbindBehindTheSuite X.env x pos) Q E s := by
  obtain ⟨m, hn, hl⟩ := id I.loc
  have hcls : (X.env.scope.kind == .class || (X.env.scope.kind == .module && X.env.locals != X.env.globals)) = false := by rw [I.ok.kind]; rfl
  have hiσ : i < σ.length := by rw [I.len]; exact (List.getElem?_eq_some_iff.mp hi).1
  have cne := I.cne
  refine nameGoesX hk hn hcls fun h' m' hn' hy hs => ?_
  obtain ⟨oL, _, _, hoL, _⟩ := id hn
  refine h _ ⟨I.ok, I.os, I.bare, ⟨fun b o e n hb hx => ?_, fun b o e n hb hx => ?_, I.base.free, fun b o e hx => ?_, I.base.tups, I.base.frzs, I.base.tbls⟩, ⟨_, hn', fun j y v' e1 e2 e3 => ?_⟩, fun y c e => ?_, I.free, I.freeC, fun p hp => ?_, fun b ob e => ?_, by simpa using I.len⟩
  · exact (hs.2 b (Nat.ne_of_lt (Nat.lt_of_lt_of_le (Heap.lt_size e) I.ok.above))).trans (I.base.keep b o e n hb hx)
  · obtain ⟨sl, e1⟩ := I.base.slot b o e n hb hx
    exact ⟨sl, (hs.2 b (Nat.ne_of_lt (Nat.lt_of_lt_of_le (Heap.lt_size e) I.ok.above))).trans e1⟩
  · obtain ⟨o', e1⟩ := I.base.there b o e hx
    exact ⟨o', (hs.2 b (Nat.ne_of_lt (Nat.lt_of_lt_of_le (Heap.lt_size e) I.ok.above))).trans e1⟩
  · by_cases hj : j = i
    · subst hj
      rw [List.getElem?_set_self hiσ] at e2
      cases e2
    · rw [List.getElem?_set_ne (Ne.symm hj)] at e2
      obtain ⟨u', r', q⟩ := hl j y v' e1 e2 e3
      refine ⟨u', r', ?_⟩
      rcases q with ⟨k, e⟩ | ⟨k, c, e, z⟩
      · refine .inl ⟨k, ?_⟩
        have : y ≠ x := fun e => hj (nodup_ix hN e1 (e ▸ hi))
        rw [hy y this, e]
      · exact .inr ⟨k, c, e, z.sameBut hs (cne y c e)⟩
  · obtain ⟨w', z⟩ := I.cell y c e
    exact ⟨w', z.sameBut hs (cne y c e)⟩
  · obtain ⟨e, n, ne, nf, d⟩ := I.pin p hp
    exact ⟨(hs.2 p.1 ne).trans e, n, ne, nf, d⟩
  · refine (I.hok b ob e).stay (fun c w' hc q => (hs.2 c ?_).trans q) (fun _ q => q) fun _ _ q => q
    rintro rfl
    rcases hc with rfl | hc
    · rw [I.free] at e; cases e
    · rw [I.free] at hc; cases hc
abbrev Cx.suite (X : Cx) (e : Addr) : Cx := { X with A := X.A.mark (some (.ref e)), calm := false, xe := fun _ _ => False }
theorem Inv.suite (I : Inv X pins σ H s) (e : Addr) : Inv (X.suite e) pins σ H s :=
  ⟨⟨I.ok.mod, I.ok.kind, I.ok.glob, I.ok.blt, I.ok.above, I.ok.inj, I.ok.has, I.ok.cab, (fun z => nomatch z), I.ok.frames, I.ok.stk, I.ok.exf, I.ok.bs, I.ok.bsz, I.ok.noex, I.ok.exfs, I.ok.funs, I.ok.frf⟩, I.os, I.bare, I.base, I.loc, I.cell, I.free, I.freeC, I.pin, I.hok, I.len⟩
theorem Inv.unsuite {e : Addr} {A : Around} {c : Bool} {xe : Value → Shared → Prop} (hA : A.frames = some X.stack) (hd : c = true → A.handled = none) (I : Inv (X.suite e) pins σ H s) : Inv { X with A := A, calm := c, xe := xe } pins σ H s :=
  ⟨⟨I.ok.mod, I.ok.kind, I.ok.glob, I.ok.blt, I.ok.above, I.ok.inj, I.ok.has, I.ok.cab, hd, hA, I.ok.stk, I.ok.exf, I.ok.bs, I.ok.bsz, I.ok.noex, I.ok.exfs, I.ok.funs, I.ok.frf⟩, I.os, I.bare, I.base, I.loc, I.cell, I.free, I.freeC, I.pin, I.hok, I.len⟩
end
end L2
namespace L2
open PySem PySem.Spec PyProof.Rows PySem.W PySem.Calls
theorem xcls_mro {K : PySem.W.Frag} {h : Heap} {C : Addr} {init : Option Addr} {nm q : Str} {N : Addr} {bs bm : List Value} {hdct : Bool} {sn : List Str} {sub : List Value} {ab : Bool} {col : Option Bool} {dd : Option Addr} {k0 k1 k2 k3 k5 : Option Value} {newId : String}
    (X : K.In h) (hq : xclsIn K C init = true) (hC : h.get? C = some (excClassObj nm q C N bs bm hdct sn sub ab col dd k0 k1 k2 k3 k5 newId)) (v : Value) : mroIn K C v = some ((Value.ref C :: bm).contains v) := by
  unfold xclsIn at hq
  split at hq
  · rename_i ho
    have e := X _ _ ho
    rw [hC] at e
    cases e
    unfold mroIn clsIn
    rw [ho]
    rfl
  · cases hq
section
variable {M : Model} {A : Around} {E : Value → Shared → Prop} {h : Heap} {g : Array GenState} {d : Drawn} {t : Nat} {os : OsState}
theorem match_x {K : PySem.W.Frag} {e C B : Addr} {oe : Obj} {init initB : Option Addr} {b : Bool} {Q : Bool → Shared → Prop} (X : K.In h) (hC : xclsIn K C init = true) (hB : xclsIn K B initB = true) (he : h.get? e = some oe) (hcls : oe.cls = .ref C)
    (hm : mroIn K C (.ref B) = some b) (hq : Q b ⟨h, g, d, t, os⟩) : wpAny M A (excMatches (.ref e) (.ref B)) Q E ⟨h, g, d, t, os⟩ := by
  obtain ⟨bm, N, nm, qn, bs, hd, sn, sub, ab, col, dd, k0, k1, k2, k3, k5, mN, oC, _, _, T⟩ := xcls_of X hC
  obtain ⟨bm2, N2, nm2, qn2, bs2, hd2, sn2, sub2, ab2, col2, dd2, j0, j1, j2, j3, j5, mN2, oB, _, _, T2⟩ := xcls_of X hB
  have hcm : (Value.ref C :: bm).contains (.ref B) = b := by
    have := xcls_mro X hC oC (.ref B)
    rw [hm] at this
    exact (Option.some.inj this).symm
  have hbB : (Value.ref B :: bm2).contains (.type "BaseException") = true := by rw [List.contains_cons, T2.hasType (show bmV.contains (.type "BaseException") = true by decide), Bool.or_true]
  have f := tc_notTuple
  unfold excMatches
  repeat (first | (with_reducible refine wpAny_loadPart_at he ?_; rw [hcls]) | with_reducible refine wpAny_loadPart_at oB ?_ | with_reducible refine wpAny_loadPart_at oC ?_ | (with_reducible refine wpAny_isSubtype_exc oB ?_; rw [hbB]) | (with_reducible refine wpAny_isSubtype_exc oC ?_; rw [hcm]) | wp_step)
  cases b <;> (wp_walk; exact hq)
end
abbrev XE (e C : Addr) (dx : Option Addr) : HO := .ext fun h => ∃ o vs, h.get? e = some o ∧ o.cls = .ref C ∧ o.dict = dx ∧ o.data = .fields vs
abbrev THd := Ends → St → Value → Option Addr → Hp → Prop
def PHs (X : Cx) (hs : List ExceptHandler) (th : THd) : Prop := ∀ (e : Addr) (cls : Value) (dx : Option Addr) (σ : St) (H : Hp) (s : Shared) (D : Ends), Inv X [] σ H s → Fr0 X H e → ExcAt (TbAt (Fr0 X H) e .none) s.heap e cls dx → th D σ cls dx H →
  wpAny (model X.prog X.w) X.A (handleBy (.ref e) X.env hs) (SP X [] D) X.xe s
def tNoHd : THd := fun _ _ _ _ _ => False
theorem ph_nil {X : Cx} : PHs X [] tNoHd := fun _ _ _ _ _ _ _ _ _ _ h => h.elim
def Dg (i : Nat) (D : Ends) : Ends := { nx := fun σ H => D.nx (σ.set i none) H, rt := D.rt, bk := fun σ H => D.bk (σ.set i none) H, ct := fun σ H => D.ct (σ.set i none) H }
def tHd (K : PySem.W.Frag) (B : Addr) (i : Nat) (ts : TS) (tr : THd) : THd := fun D σ cls dx H => ∃ C init b, cls = .ref C ∧ xclsIn K C init = true ∧ mroIn K C (.ref B) = some b ∧
  (if b = true then ∀ e, H e = none → ts (Dg i D) (σ.set i (some (.ref e))) (upd H e (XE e C dx)) else tr D σ cls dx H)
section
variable {X : Cx} {σ : St} {H : Hp} {s : Shared}
theorem Inv.track {e C : Addr} {dx : Option Addr} {o : Obj} {vs : Array Value} (I : Inv X [] σ H s) (he : Fr0 X H e) (ho : s.heap.get? e = some o) (hc : o.cls = .ref C) (hdx : o.dict = dx) (hd : o.data = .fields vs) : Inv X [] σ (upd H e (XE e C dx)) s := by
  obtain ⟨h1, h2, h3⟩ := he
  have hk : ∀ b u, H b = some u → upd H e (XE e C dx) b = some u := fun b u q => by rw [upd_ne (ne_of_none q h2)]; exact q
  have hne : ∀ b, b ≠ e → H b = none → upd H e (XE e C dx) b = none := fun b hb q => by rw [upd_ne hb]; exact q
  have hl : X.env.locals ≠ e := fun q => by
    obtain ⟨m, ⟨o2, es, ep, ho2, hd2, _⟩, _⟩ := I.loc
    rw [q, ho] at ho2
    cases ho2
    rw [hd] at hd2
    cases hd2
  refine ⟨I.ok, I.os, I.bare, ⟨I.base.keep, I.base.slot, fun b u q n hx => hne b (fun z => ?_) (I.base.free b u q n hx), I.base.there, fun b xs q => hk b _ (I.base.tups b xs q), fun b u v q => hk b _ (I.base.frzs b u v q), fun b ps q => ?_⟩, I.loc, I.cell, hne _ hl I.free, fun x c h => hne _ (fun z => ?_) (I.freeC x c h), fun p hp => ?_, fun b u q => ?_, I.len⟩
  · rw [z] at q
    exact absurd (Heap.lt_size q) (Nat.not_lt.mpr h1)
  · obtain ⟨more, z⟩ := I.base.tbls b ps q
    exact ⟨more, hk b _ z⟩
  · obtain ⟨v, o2, ho2, hd2⟩ := I.cell x c h
    rw [z, ho] at ho2
    cases ho2
    rw [hd] at hd2
    cases hd2
  · obtain ⟨p1, p2, p3⟩ := I.pin p hp
    rw [List.append_nil] at hp
    exact ⟨p1, hne _ (h3 p hp) p2, p3⟩
  · by_cases hb : b = e
    · subst hb
      rw [upd_same] at q
      cases q
      refine ⟨⟨o, vs, ho, hc, hdx, hd⟩, ⟨o, ho⟩, ?_⟩
      rintro g1 g2 ⟨o', vs', a1, a2⟩ kk
      exact ⟨o', vs', kk _ a1, a2⟩
    · rw [upd_ne hb] at q
      exact (I.hok b u q).stay (fun _ _ _ z => z) (fun c z => hk c _ z) fun c xs z => hk c _ z
theorem ph_cons {B : Addr} {initB : Option Addr} {x n : Str} {i : Nat} {np hpos : Pos} {b₀ : Stmt} {suite : List Stmt} {rest : List ExceptHandler} {ts : TS} {tr : THd} (hg : Gl X x) (hm : X.mg x = some (.ref B)) (hB : xclsIn X.K B initB = true)
    (hN : X.N.Nodup) (hi : X.N[i]? = some n) (hk : X.env.scope.names.lookup n = some .local) (hsuite : ∀ e, PSs (X.suite e) (b₀ :: suite) ts) (hrest : PHs X rest tr) (hdb : (x == ("__debug__" : Str)) = false := by decide) :
    PHs X (.ExceptHandler (some (.Name x np)) (some n) (b₀ :: suite) hpos :: rest) (tHd X.K B i ts tr) := by
  rintro e cls dx σ H s D I he hx ⟨C, init, b, rfl, hC, hmr, hb⟩
  obtain ⟨oe, vs, hd, ho, hc, hdi, hdt, h1, hT⟩ := id hx
  refine wpAny_handleBy_cons (codeAny_handlers_test (ld_glob (X := X.suite e) (I.suite e) hg hm ?_ hdb)) (by intro q; cases q)
  obtain ⟨hp, g, d, tk, os⟩ := s
  refine match_x I.kIn hC hB ho hc hmr ?_
  cases b with
  | false => exact hrest e (.ref C) dx σ H _ D I he hx hb
  | true =>
    refine codeAny_handlers_suite_as ?_
    refine fly_mark (s := ⟨hp, g, d, tk, os⟩) (fr := none) I he hx fun h2 I2 hx2 => ?_
    obtain ⟨oe2, vs2, hd2, ho2, hc2, hdi2, hdt2, h12, hT2⟩ := id hx2
    have I3 := I2.track he ho2 hc2 hdi2 hdt2
    refine store_ok (v := .ref e) I3 hN hi (.inl hk) rfl (fun s' I4 => ?_) (.inr hk)
    have hb2 := hb e he.2.1
    refine wpAny_mono (hsuite e [] s' (σ.set i (some (.ref e))) _ (Dg i D) (I4.suite e) hb2) (fun f s3 q => ?_) fun _ _ z => z.elim
    cases f with
    | next =>
      obtain ⟨σ', H', I5, q⟩ := q
      exact gone_ok (X := X) (I5.unsuite (X := X) (A := X.A) (c := X.calm) (xe := X.xe) I.ok.frames I.ok.hd) hN hi hk fun s5 I6 => ⟨_, H', I6, q⟩
    | brk =>
      obtain ⟨σ', H', I5, q⟩ := q
      exact gone_ok (X := X) (I5.unsuite (X := X) (A := X.A) (c := X.calm) (xe := X.xe) I.ok.frames I.ok.hd) hN hi hk fun s5 I6 => ⟨_, H', I6, q⟩
    | cont =>
      obtain ⟨σ', H', I5, q⟩ := q
      exact gone_ok (X := X) (I5.unsuite (X := X) (A := X.A) (c := X.calm) (xe := X.xe) I.ok.frames I.ok.hd) hN hi hk fun s5 I6 => ⟨_, H', I6, q⟩
    | ret u =>
      obtain ⟨v, σ', H', I5, r5, q⟩ := q
      exact gone_ok (X := X) (I5.unsuite (X := X) (A := X.A) (c := X.calm) (xe := X.xe) I.ok.frames I.ok.hd) hN hi hk fun s5 I6 => ⟨v, _, H', I6, r5, q⟩
abbrev Cx.pinned (X : Cx) (pn : List (Addr × Obj)) : Cx := { X with pn := pn }
theorem Inv.heldP {pins : List (Addr × Obj)} (I : Inv X pins σ H s) : Inv (X.pinned (X.pn ++ pins)) [] σ H s :=
  ⟨⟨I.ok.mod, I.ok.kind, I.ok.glob, I.ok.blt, I.ok.above, I.ok.inj, I.ok.has, I.ok.cab, I.ok.hd, I.ok.frames, I.ok.stk, I.ok.exf, I.ok.bs, I.ok.bsz, I.ok.noex, I.ok.exfs, I.ok.funs, I.ok.frf⟩, I.os, I.bare, I.base, I.loc, I.cell, I.free, I.freeC, fun p hp => I.pin p (by rwa [List.append_nil] at hp), I.hok, I.len⟩
theorem Inv.unheldP {pins : List (Addr × Obj)} (I : Inv (X.pinned (X.pn ++ pins)) [] σ H s) : Inv X pins σ H s :=
  ⟨⟨I.ok.mod, I.ok.kind, I.ok.glob, I.ok.blt, I.ok.above, I.ok.inj, I.ok.has, I.ok.cab, I.ok.hd, I.ok.frames, I.ok.stk, I.ok.exf, I.ok.bs, I.ok.bsz, I.ok.noex, I.ok.exfs, I.ok.funs, I.ok.frf⟩, I.os, I.bare, I.base, I.loc, I.cell, I.free, I.freeC, fun p hp => I.pin p (by rw [List.append_nil]; exact hp), I.hok, I.len⟩
theorem SP.unheldP {pins : List (Addr × Obj)} {D : Ends} {f : Flow} {s' : Shared} (h : SP (X.pinned (X.pn ++ pins)) [] D f s') : SP X pins D f s' := by
  cases f with
  | next => obtain ⟨σ', H', I, q⟩ := h; exact ⟨σ', H', I.unheldP, q⟩
  | brk => obtain ⟨σ', H', I, q⟩ := h; exact ⟨σ', H', I.unheldP, q⟩
  | cont => obtain ⟨σ', H', I, q⟩ := h; exact ⟨σ', H', I.unheldP, q⟩
  | ret u => obtain ⟨v, σ', H', I, r, q⟩ := h; exact ⟨v, σ', H', I.unheldP, r, q⟩
theorem ps_try {body : List Stmt} {h₀ : ExceptHandler} {hs : List ExceptHandler} {pos : Pos} {tb : Ends → TS} {th : THd} (hst : X.stack = X.env :: X.outer) (hb : ∀ D pn, PSs ((X.pinned pn).wish (Fly (X.pinned pn) (th D))) body (tb D)) (hh : ∀ pn, PHs (X.pinned pn) (h₀ :: hs) th) :
    PS X (.Try body (h₀ :: hs) [] [] pos) (fun D σ H => tb D D σ H) := by
  intro pins s σ H D I h
  have I0 := I.heldP
  refine wpAny_Try_except (wpAny_mono (hb D (X.pn ++ pins) [] s σ H D (I0.wish _) h) (fun f s1 q => ?_) fun ev s1 q => ?_)
  · cases f with
    | next =>
      obtain ⟨σ', H', I', q⟩ := q
      exact wpAny_execs_nil ⟨σ', H', I'.unwish.unheldP, q⟩
    | ret v => exact SP.unheldP (SP.unwish q)
    | brk => exact SP.unheldP (SP.unwish q)
    | cont => exact SP.unheldP (SP.unwish q)
  · refine fly_note (X := X.pinned (X.pn ++ pins)) I0.ok.frames hst q fun h' e cls dx σ1 H1 L hev hL I1 he hx hE => ?_
    subst hev
    exact fly_mark (s := { s1 with heap := h' }) (fr := none) I1 he hx fun h2 I2 hx2 => thn (hh (X.pn ++ pins) e cls dx σ1 H1 _ D I2 he hx2 hE) fun f s3 q => SP.unheldP q
end
end L2
namespace L2
open PySem PySem.Spec PyProof.Rows PySem.W PySem.Calls Builtin Builtin.ObjectAttr
structure XG (K : PySem.W.Frag) (C : Addr) : Prop where
  ga : findIn K (.ref C) "__getattribute__" = some (some (.builtin "BaseException.__getattribute__"))
  gt : findIn K (.ref C) "__getattr__" = some none
  be : mroIn K C (.type "BaseException") = some true
  ob : mroIn K C (.type "object") = some true
  cc : findIn K (.ref C) "__class__" = some (some (.builtin "object.__class__"))
  hd : ∃ cd, clsIn K C = some cd ∧ cd.hasDict = true
section
variable {prog : Program} {w : World} {A : Around} {E : Value → Shared → Prop} {s : Shared} {K : PySem.W.Frag} {x C : Addr} {ox : Obj} {od : Option Obj} {name : Str}
theorem slot_bga : Slot "ValueError" "__getattribute__" "BaseException.__getattribute__" := PySem.F.excAttr_ValueError.ga
theorem getx_open {expr fill : Bool} {tk : Tok} {Q : Value → Shared → Prop} (X : K.In s.heap) (I : PySem.W.InstAt s.heap x ox C od) (G : XG K C)
    (h : wpAny (model prog w) A.in1 (Builtin.«object.__getattribute__» ⟨[.ref x, .str name tk], []⟩) (fun fin s' => match fin with | .done (.ret v) => wpAny (model prog w) A (handedOut v) Q E s' | _ => False) (fun _ _ => False) s) :
    wpAny (model prog w) A (getAttrBy (.ref x) (.str name tk) fill expr) Q E s := by
  have hf : (Value.builtin "BaseException.__getattribute__" == Value.builtin "object.__getattribute__") = false := by decide +kernel
  unfold getAttrBy
  refine wpAny_holding (wpAny_bind (I.type.here (wpAny_bind ((looks_findIn X G.ga).here ?_))))
  dsimp only
  rw [hf, Bool.and_false, if_neg (by decide)]
  unfold getAttrByItsOwn
  have hk : Looks (model prog w) s.heap (hookBefore (.ref C)) none := looks_hook X (by rw [if_pos (show onTheHeap (Value.ref C) = true from rfl)]; exact G.gt)
  refine wpAny_bind (hk.here (wpAny_bind (wpAny_attempt (wpAny_holding ?_))))
  unfold callGetattribute
  rw [show (expr && onTheHeap (Value.builtin "BaseException.__getattribute__")) = false from Bool.and_false _, if_neg (by decide)]
  unfold boundAndCalled
  rw [slot_bga.bind]
  refine wpAny_bind (wpAny_pure ?_)
  show wpAny _ _ (call (.builtin "BaseException.__getattribute__") [.ref x, .str name tk]) _ _ _
  refine wpAny_call (codeAny_call_builtin slot_bga.plain PySem.F.entry_bexc_ga ?_)
  refine @check_slot (model prog w) _ _ s "BaseException.__getattribute__" "BaseException" "__getattribute__" (.ref x) [.str name tk] [] _ (by decide +kernel) (by decide +kernel) (I.type.andThen (looks_mroIn X G.be)) (PySem.F.args_bexc_ga _ _) ?_
  refine wpAny_mono h (fun fin s' z => ?_) fun _ _ z => z.elim
  rcases fin with (_ | _ | _ | _) | _ <;> first | exact z | exact z.elim
theorem getx_value {expr : Bool} {v : Value} {Q : Value → Shared → Prop} (X : K.In s.heap) (I : PySem.W.InstAt s.heap x ox C od) (G : XG K C) (hf : findObj K C od name = some (.value v)) (hh : handedIn v = true) (h : Q v { s with toks := s.toks + 1 }) :
    wpAny (model prog w) A (getAttr (.ref x) name expr) Q E s := by
  unfold getAttr
  refine wpAny_bind (wpAny_mkText (getx_open (s := { s with toks := s.toks + 1 }) X I G ?_))
  unfold Builtin.«object.__getattribute__»
  refine wpAny_bind (wpAny_pure (wpAny_bind (wpAny_pure (wpAny_bind (PySem.W.Looks.here (s := { s with toks := s.toks + 1 }) I.type (wpAny_bind (PySem.W.Looks.here (s := { s with toks := s.toks + 1 }) (looks_find X I hf) ?_)))))))
  refine wpAny_pure ?_
  show wpAny _ _ (handedOut v) _ _ _
  rw [handedOut_of hh]
  exact wpAny_pure h
end
end L2
namespace L2
open PySem PySem.Spec PyProof.Rows PySem.W PySem.Calls
section
variable {X : Cx} {pins : List (Addr × Obj)} {σ : St} {H : Hp} {s : Shared}
def tXG (K : PySem.W.Frag) (ta : TE) (f : Str) : TE := fun σ H Q => ta σ H fun x H1 => ∃ e C dx fs v, x = .ref e ∧ H1 e = some (XE e C (some dx)) ∧ H1 dx = some (.xd fs) ∧ XG K C ∧ NoAttr K C f ∧ fs.lookup f = some v ∧ Q v H1
theorem pe_xg {e : Expr} {f : Str} {pos : Pos} {ta : TE} (he : PE X e ta) (hb : attributeBase e f X.env (eval e X.env) = eval e X.env) : PE X (.Attribute e f pos) (tXG X.K ta f) := by
  intro pins s σ H Q I h
  refine attr_of hb (thn (he pins s σ H _ I h) fun u s1 ⟨x, H1, I1, rx, ea, C, dx, fs, v, ex, h1, h2, G, n, l, q⟩ => ?_)
  subst ex
  obtain rfl : u = Value.ref ea := rx
  obtain ⟨⟨o, vs, ho, hc, hdx, hdt⟩, _⟩ := I1.hok ea _ h1
  obtain ⟨mA, n1, r⟩ := (show ObjOk X.prog X.w H1 s1.heap dx (.xd fs) from I1.hok dx _ h2)
  obtain ⟨od, hod, hl⟩ := lookIn_ns n1
  obtain ⟨u, hu, ru⟩ := RelO.some_of (v := v) (o := mA f) (by rw [← l]; exact r f)
  have J : PySem.W.InstAt s1.heap ea o C (some od) := ⟨ho, hc, by unfold notCls; rw [hdt], by rw [hdx]; exact hod⟩
  obtain ⟨cd, hcd, hhd⟩ := G.hd
  have hh : hasDictIn X.K C = true := by unfold hasDictIn; rw [hcd]; exact hhd
  exact getx_value I1.kIn J G (findObj_own hh n rfl (by rw [hl, hu])) (handed_of ru) ⟨v, H1, I1.tok _, ru, q⟩
variable {K : PySem.W.Frag} (hK : X.K = K)
include hK
theorem kpe_xg {e : Expr} {f : Str} {pos : Pos} {ta : TE} (he : PE X e ta) (hb : attributeBase e f X.env (eval e X.env) = eval e X.env := by rfl) : PE X (.Attribute e f pos) (tXG K ta f) := by subst hK; exact pe_xg he hb
end
end L2
namespace L2
open PySem PySem.Spec PyProof.Rows
structure RoomH (k : Nat) (A : Around) : Prop where
  dp : A.depth + 3 * k + 5 < recursionLimit
  un : A.units + 16 * k + 200 < cLine
theorem Room.h {k : Nat} {A : Around} (r : Room k A) (e : Option Value) : RoomH k (A.mark e) := ⟨r.dp, r.un⟩
theorem RoomH.units {k : Nat} {A : Around} (r : RoomH k A) : A.units + 64 < cLine := by have := r.un; omega
section
variable {P : Program} {w : World} {K : PySem.W.Frag} {mg : Str → Option Value} {base : Heap}
end
section
variable {X : Cx} {k : Nat} {f : Addr} {fd : FuncData} {ps : List Str} {sp : Sp} {x : Str} {p pos : Pos} {e : Expr} {es : List Expr} {t : TA}
end
end L2
namespace L2
open PySem PySem.Spec PyProof.Rows PySem.W PySem.Calls
structure NsF (K : PySem.W.Frag) (N : Addr) (init : Option Addr) : Prop where
  lk : ∃ oc od es n sl, K.lookup N = some ⟨oc, od, .dict es n, sl⟩ ∧ (es.all fun e => match e.key with | .str _ _ => true | _ => false) = true
  ni : nsIn K N "__init__" = some (init.map Value.ref)
theorem NsF.ok {K : PySem.W.Frag} {N : Addr} {init : Option Addr} (h : NsF K N init) : nsOkIn K N = true := by
  obtain ⟨oc, od, es, n, sl, e, q⟩ := h.lk
  unfold nsOkIn
  rw [e]
  exact q
theorem tail_mk {K : PySem.W.Frag} {R : Addr} {oc : Value} {od : Option Addr} {cd : ClassData} {sl : Array (Option Value)} (lk : K.lookup R = some ⟨oc, od, .cls cd, sl⟩) (n : NsF K cd.ns none) : tailIn K bmV (.ref R :: bmV) = true := by
  have hb : tailIn K bmV bmV = true := by
    unfold tailIn
    rw [Bool.or_eq_true]
    exact .inl (beq_self_eq_true _)
  unfold tailIn
  rw [Bool.or_eq_true]
  refine .inr ?_
  dsimp only
  rw [lk]
  dsimp only
  rw [n.ok, hb, n.ni]
  rfl
theorem xcls_mk {K : PySem.W.Frag} {C : Addr} {init od : Option Addr} {cd : ClassData} {sl : Array (Option Value)} {bm : List Value} {k0 k1 k2 k3 k5 : Option Value} (lk : K.lookup C = some ⟨.type "type", od, .cls cd, sl⟩) (cm : cd.mro = .ref C :: bm)
    (hs : sl.toList = [k0, k1, k2, k3, some (.builtin "ValueError.__new__"), k5]) (hdel : cd.hasDel = false) (ht : tailIn K bmV bm = true) (n : NsF K cd.ns init) : xclsIn K C init = true := by
  unfold xclsIn
  rw [lk]
  show (match cd.mro, sl.toList with
    | .ref C' :: bm, [_, _, _, _, some (.builtin n), _] => C' == C && n == "ValueError.__new__" && !cd.hasDel && tailIn K bmV bm && nsOkIn K cd.ns && nsIn K cd.ns "__init__" == some (init.map Value.ref)
    | _, _ => false) = true
  rw [cm, hs]
  show (C == C && "ValueError.__new__" == "ValueError.__new__" && !cd.hasDel && tailIn K bmV bm && nsOkIn K cd.ns && nsIn K cd.ns "__init__" == some (init.map Value.ref)) = true
  rw [hdel, ht, n.ok, n.ni]
  simp
structure CL (K : PySem.W.Frag) (mg : Str → Option Value) (x : Str) (C : Addr) : Prop where
  mg : mg x = some (.ref C)
  is : isClsIn K C = true
  ty : typeIn K (.ref C) = some (.type "type")
def xAsk (K : PySem.W.Frag) (C : Addr) : Bool :=
  findIn K (.ref C) "__getattribute__" == some (some (.builtin "BaseException.__getattribute__")) && findIn K (.ref C) "__getattr__" == some none && mroIn K C (.type "BaseException") == some true && mroIn K C (.type "object") == some true &&
  findIn K (.ref C) "__class__" == some (some (.builtin "object.__class__")) && (clsIn K C).any (·.hasDict) && PySem.W.keepIn K (.ref C) && typeIn K (.ref C) == some (.type "type") && mroIn K C (.type "ValueError") == some true
structure XQ (K : PySem.W.Frag) (C : Addr) : Prop where
  g : XG K C
  kp : PySem.W.keepIn K (.ref C) = true
  ty : typeIn K (.ref C) = some (.type "type")
  ve : mroIn K C (.type "ValueError") = some true
theorem xq_of {K : PySem.W.Frag} {C : Addr} (h : xAsk K C = true) : XQ K C := by
  simp only [xAsk, Bool.and_eq_true, beq_iff_eq] at h
  obtain ⟨⟨⟨⟨⟨⟨⟨⟨h1, h2⟩, h3⟩, h4⟩, h5⟩, h6⟩, h7⟩, h8⟩, h9⟩ := h
  obtain ⟨cd, hc, hd⟩ := any_some h6
  exact ⟨⟨h1, h2, h3, h4, h5, cd, hc, hd⟩, h7, h8, h9⟩
def xFld (K : PySem.W.Frag) (C f : Addr) (fld : Str) : Bool :=
  (clsIn K C).any (fun cd => xTail cd.mro && cd.hasDict) && findIn K (.ref C) "__setattr__" == some (some (.builtin "object.__setattr__")) && findIn K (.ref C) fld == some none && PySem.W.isFn K (.ref f)
theorem xf_of {K : PySem.W.Frag} {C f : Addr} {fld : Str} (h : xFld K C f fld = true) : XF K C fld ∧ PySem.W.isFn K (.ref f) = true := by
  simp only [xFld, Bool.and_eq_true, beq_iff_eq] at h
  obtain ⟨⟨⟨h1, h2⟩, h3⟩, h4⟩ := h
  obtain ⟨cd, hc, hd⟩ := any_some h1
  rw [Bool.and_eq_true] at hd
  exact ⟨⟨⟨cd, hc, hd.1, hd.2⟩, h2, h3⟩, h4⟩
theorem xq_mk {K : PySem.W.Frag} {C : Addr} (h1 : findIn K (.ref C) "__getattribute__" = some (some (.builtin "BaseException.__getattribute__"))) (h2 : findIn K (.ref C) "__getattr__" = some none) (h3 : mroIn K C (.type "BaseException") = some true) (h4 : mroIn K C (.type "object") = some true)
    (h5 : findIn K (.ref C) "__class__" = some (some (.builtin "object.__class__"))) (h6 : hasDictIn K C = true) (h7 : PySem.W.keepIn K (.ref C) = true) (h8 : typeIn K (.ref C) = some (.type "type")) (h9 : mroIn K C (.type "ValueError") = some true) : xAsk K C = true := by
  unfold xAsk
  have h6 : (clsIn K C).any (·.hasDict) = true := h6
  rw [h1, h2, h3, h4, h5, h6, h7, h8, h9]
  simp
theorem xf_mk {K : PySem.W.Frag} {C f : Addr} {fld : Str} {oc : Value} {od : Option Addr} {cd : ClassData} {sl : Array (Option Value)} (lk : K.lookup C = some ⟨oc, od, .cls cd, sl⟩) (cm : xTail cd.mro = true) (hd : cd.hasDict = true)
    (h2 : findIn K (.ref C) "__setattr__" = some (some (.builtin "object.__setattr__"))) (h3 : findIn K (.ref C) fld = some none) (h4 : PySem.W.isFn K (.ref f) = true) : xFld K C f fld = true := by
  have hc : clsIn K C = some cd := by
    unfold clsIn
    rw [lk]
  unfold xFld
  rw [hc, h2, h3, h4]
  show ((xTail cd.mro && cd.hasDict) && _ && _ && _) = true
  rw [cm, hd]
  simp
structure CI (K : PySem.W.Frag) (mg : Str → Option Value) (x qual : Str) (st : Stmt) (ps : List Str) (C f : Addr) (fd : FuncData) (fld : Str) : Prop where
  mg : mg x = some (.ref C)
  cls : xclsIn K C (some f) = true
  q : XQ K C
  xf : XF K C fld
  fn : PySem.W.isFn K (.ref f) = true
  fi : Fun K "__init__" qual st f fd
  ba : ∀ us : List Value, us.length = ps.length → bindArgs fd ⟨us, []⟩ = pure (ps.zip us)
def sp_init (C : Addr) (fld : Str) : Sp := fun vs H Q _ => ∃ (e : Addr) (i : Int), vs = [.ref e, .int i] ∧ H e = some (XO e C none) ∧ i.natAbs ≤ 1000000000 ∧ ∀ dx, H dx = none → Q .non (upd (upd H dx (.xd [(fld, .int i)])) e (XO e C (some dx)))
def tRz (C : Addr) (fld : Str) (E : St → XK) (t : TA) : TS := fun _ σ H => t σ H fun vs H1 => ∃ i : Int, vs = [.int i] ∧ i.natAbs ≤ 1000000000 ∧ ∀ dx, H1 dx = none → E σ (.ref C) (some dx) (upd H1 dx (.xd [(fld, .int i)]))
section
variable {X : Cx} {k j : Nat} {f C : Addr} {fd : FuncData} {ps : List Str} {sp : Sp} {x qual fld : Str} {st : Stmt} {p np cpos pos : Pos} {e : Expr} {es : List Expr} {t : TA} {E : St → XK} {L : Addr}
theorem unt_init {H1 : Hp} {ea dx : Addr} {o o' y : HO} (he : H1 ea = none) (hn : dx ≠ ea) : unt (upd (upd (upd H1 ea o) dx y) ea o') ea = upd H1 dx y := by
  funext b
  by_cases hb : b = ea
  · subst hb
    rw [unt_same, upd_ne hn.symm, he]
  · rw [unt_ne hb, upd_ne hb]
    by_cases hd : b = dx
    · subst hd
      rw [upd_same, upd_same]
    · rw [upd_ne hd, upd_ne hd, upd_ne hb]
theorem praiseX (d : CI X.K X.mg x qual st ps C f fd fld) (F : FnOk X.prog X.w X.K X.mg X.base CX0 j f fd ps (sp_init C fld)) (hr : Room k X.A) (hg : Gl X x) (hL : X.env.frame = some L) (hcm : X.calm = true) (ha : PA (X.wish (Fly X E)) (e :: es) t) (hjk : j + 1 ≤ k := by decide) (hdb : (x == ("__debug__" : Str)) = false := by decide)
    (he : starEach (e :: es) X.env = (false, eval e X.env) :: starEach es X.env := by rfl) (hpl : (backTo cpos (starEach es X.env)).any (·.1) = false := by rfl) :
    PS (X.wish (Fly X E)) (.Raise (some (.Call (.Name x np) (e :: es) [] cpos)) none pos) (tRz C fld E t) := by
  refine ps_raiseX (R := fun σ vs H1 => ∃ i : Int, vs = [.int i] ∧ i.natAbs ≤ 1000000000 ∧ ∀ dx, H1 dx = none → E σ (.ref C) (some dx) (upd H1 dx (.xd [(fld, .int i)]))) hL hcm ⟨d.cls, d.fn, d.q.kp⟩ F (hr.mono hjk) hg d.mg (.all d.ba) (fun σ vs H1 h1 => ?_) ha hdb he hpl
  obtain ⟨i, rfl, hi, q⟩ := h1
  refine ⟨by show 1 ≤ 10; decide, fun ea hea => ⟨ea, i, rfl, upd_same, hi, fun dx hdx => ⟨rfl, rfl, some dx, upd_same, ?_⟩⟩⟩
  have hne : dx ≠ ea := fun z => by rw [z, upd_same] at hdx; cases hdx
  rw [upd_ne hne] at hdx
  rw [unt_init hea hne]
  exact q dx hdx
theorem pcallX (d : D X.K X.mg x st ps f fd) (F : FnOk X.prog X.w X.K X.mg X.base (CX1 X.prog X.w) j f fd ps sp) (hr : Room k X.A) (hg : Gl X x) (hL : X.env.frame = some L) (ha : PA (X.wish (Fly X E)) (e :: es) t) (hjk : j ≤ k := by decide) (hdb : (x == ("__debug__" : Str)) = false := by decide)
    (he : starEach (e :: es) X.env = (false, eval e X.env) :: starEach es X.env := by rfl) (hpl : (backTo pos (starEach es X.env)).any (·.1) = false := by rfl) :
    PE (X.wish (Fly X E)) (.Call (.Name x p) (e :: es) [] pos) (tCallS sp E t) := pe_callX hL (F.mono hjk) hr hg d.mg d.fn.kp (.all d.ba) ha hdb he hpl
end
theorem kph_cons {X : Cx} (K : PySem.W.Frag) (hK : X.K = K) {B : Addr} {initB : Option Addr} {x n : Str} {i : Nat} {np hpos : Pos} {b₀ : Stmt} {suite : List Stmt} {rest : List ExceptHandler} {ts : TS} {tr : THd} (hg : Gl X x) (hm : X.mg x = some (.ref B)) (hB : xclsIn K B initB = true)
    (hN : X.N.Nodup) (hi : X.N[i]? = some n) (hk : X.env.scope.names.lookup n = some .local) (hsuite : ∀ e, PSs (X.suite e) (b₀ :: suite) ts) (hrest : PHs X rest tr) (hdb : (x == ("__debug__" : Str)) = false := by decide) :
    PHs X (.ExceptHandler (some (.Name x np)) (some n) (b₀ :: suite) hpos :: rest) (tHd K B i ts tr) := by subst hK; exact ph_cons hg hm hB hN hi hk hsuite hrest hdb
end L2
namespace L2
open PySem PySem.Spec PyProof.Rows PySem.W PySem.Calls
theorem bt_any : bootBuiltins "any" = some (.builtin "any") := by decide +kernel
def rAny (K : PySem.W.Frag) : List V → Hp → VK → Prop := fun xs H Q => ∃ (p : Addr) (bs : List Bool), xs = [.ref p] ∧ SqL K H p (bs.map V.bl) ∧ Q (.bl (bs.any id)) H
theorem call_any {X : Cx} (hc : X.calm = true) : CallR X (.builtin "any") (rAny X.K) := by
  intro pins s σ H xs us Q I r h
  obtain ⟨p, bs, rfl, hq, q⟩ := h
  obtain ⟨u, rfl, ru⟩ := vals1 r
  cases ru
  obtain ⟨its, rv, pl, hz⟩ := I.list hq
  have hl : its.length = bs.length := by rw [← rv.length, List.length_map]
  obtain ⟨ol, hol, hoc⟩ := id pl.isList
  have hlt : p < s.heap.objs.size := Heap.lt_size hol
  refine call_any_walk (wpAny_pyIter_list pl.isList ?_)
  refine ⟨s.heap.objs.size, _, _, _, _, _, fun i => bs.getD i false, rfl, Walks.list (A := X.A.in1) (I.ok.hd hc) s.heap.objs.size p (Nat.ne_of_lt hlt) its.toArray, ⟨⟨_, Heap.get?_push_size _ rfl, rfl, rfl⟩, ol, Heap.get?_push_of_some _ hol, hoc⟩, fun i v s' Q' E' hv hQ => ?_, fun h' tk hk => ?_⟩
  · have hv' : its[i]? = some v := by simpa using hv
    obtain ⟨y, hy, ry⟩ := vals_back rv hv'
    rw [List.getElem?_map] at hy
    cases e : bs[i]? with
    | none => rw [e] at hy; cases hy
    | some b =>
      rw [e] at hy
      have hy' : V.bl b = y := Option.some.inj hy
      subst hy'
      cases ry
      have hQ : Q' (bs.getD i false) s' := hQ
      rw [List.getD_eq_getElem?_getD, e] at hQ
      exact wpAny_truthy_bool hQ
  · have e : (List.range its.toArray.size).any (fun i => bs.getD i false) = bs.any id := by
      rw [List.size_toArray, hl, Bool.eq_iff_iff, List.any_eq_true, List.any_eq_true]
      constructor
      · rintro ⟨i, hi, h⟩
        have hi := List.mem_range.mp hi
        rw [List.getD_eq_getElem?_getD, List.getElem?_eq_getElem hi] at h
        exact ⟨_, List.getElem_mem hi, h⟩
      · rintro ⟨b, hb, h⟩
        obtain ⟨i, hi, e⟩ := List.getElem_of_mem hb
        refine ⟨i, List.mem_range.mpr hi, ?_⟩
        rw [List.getD_eq_getElem?_getD, List.getElem?_eq_getElem hi, e]
        exact h
    rw [e]
    exact ⟨.bl _, H, I.kept (fun b o e => hk b o (by simp; exact Nat.ne_of_lt (Heap.lt_size e)) (Heap.get?_push_of_some _ e)), rfl, q⟩
theorem kany {X : Cx} (K : PySem.W.Frag) (hK : X.K = K) (hc : X.calm = true) : CallR X (.builtin "any") (rAny K) := by subst hK; exact call_any hc
section
variable {prog : Program} {w : World} {A : Around} {env : Env} {R : Except Value Flow → Shared → Prop} {s : Shared}
end
section
variable {X : Cx}
end
end L2
namespace Br
open PySem L2
def lcF (p : Par) (i j : Nat) : Option Int := Ln.costW (seg p.zs i j) p.ms p.lo p.ideal p.hi false
inductive Rch (c : Nat → Nat → Option Int) : Nat → Prop
  | zero : Rch c 0
  | step {i j : Nat} : Rch c i → i < j → (c i j).isSome = true → Rch c j
structure Most (c : Nat → Nat → Option Int) (n m : Nat) : Prop where
  rch : Rch c m
  le : m ≤ n
  top : ∀ j, j ≤ n → Rch c j → j ≤ m
theorem lc_lcF {p : Par} {i j : Nat} (h : j ≠ p.n) : lc p i j = lcF p i j := by
  unfold lc lcF
  rw [decide_eq_false h]
theorem Rch.to {c d : Nat → Nat → Option Int} {n : Nat} (h : ∀ i j, i < j → j ≤ n → (c i j).isSome = true → (d i j).isSome = true) {j : Nat} (x : Rch c j) : j ≤ n → Rch d j := by
  induction x with
  | zero => exact fun _ => .zero
  | step _ hij hc ih => exact fun hj => .step (ih (by omega)) hij (h _ _ hij hj hc)
theorem last_some {p : Par} {i : Nat} (h : (lcF p i p.n).isSome = true) : (lc p i p.n).isSome = true := by
  unfold lcF Ln.costW Ln.cost at h
  unfold lc Ln.costW Ln.cost
  rw [if_neg (fun z => nomatch z.1)] at h
  split
  · rfl
  · exact h
theorem rch_none {p : Par} {f : Nat → Option Int} (ht : Tab p f 0) (h0 : f 0 = none) {j : Nat} (x : Rch (lc p) j) : j ≤ p.n → f j = none := by
  induction x with
  | zero => exact fun _ => h0
  | @step i j _ hij hc ih =>
    intro hj
    have hi := ih (by omega)
    cases hf : f j with
    | none => rfl
    | some b =>
      obtain ⟨a, ha⟩ := Option.isSome_iff_exists.mp hc
      have h1 := ht.rest i (Nat.zero_le _) (by omega)
      rw [hi] at h1
      unfold best at h1
      have hm : a + b ∈ cands p f i (p.n - i) := by
        unfold cands
        refine List.mem_filterMap.mpr ⟨j - i - 1, List.mem_range.mpr (by omega), ?_⟩
        have e1 : i + 1 + (j - i - 1) = j := by omega
        rw [e1, ha, hf]
        rfl
      cases hz : cands p f i (p.n - i) with
      | nil => rw [hz] at hm; exact absurd hm List.not_mem_nil
      | cons z zs => rw [hz] at h1; cases h1
end Br
namespace L2
open PySem PySem.Spec PyProof.Rows
section
open PySem.SeqAt
open PySem.AutoSeq1 (wpAny_loadPart')
open PySem.MeetsSeq PySem.MeetsSeq2 PySem.MeetsSeq3
theorem ints_get {vs : List Value} {ns : List Int} (h : IntsAre vs ns) : ∀ {i : Nat}, i < vs.length → ∃ n t, vs[i]? = some (.int n t) ∧ ns.drop i = n :: ns.drop (i + 1) := by
  induction h with
  | nil => intro i hi; exact absurd hi (Nat.not_lt_zero _)
  | cons n t _ ih =>
    intro i hi
    cases i with
    | zero => exact ⟨n, t, rfl, rfl⟩
    | succ i =>
      obtain ⟨m, u, h1, h2⟩ := ih (i := i) (Nat.lt_of_succ_lt_succ hi)
      exact ⟨m, u, h1, h2⟩
theorem lt_loop (l b : Addr) (items items2 : Array Value) (n n2 : Nat) (dd dd2 : Option Addr) (sl sl2 : Array (Option Value)) (ns ms : List Int) (hi : IntsAre items.toList ns) (hj : IntsAre items2.toList ms) (k : Nat) :
    ∀ i : Nat, items.size - i = k → Meets (Builtin.«list.__eq__.loop» ⟨[.ref l, .ref b, rawInt i, rawInt 0], []⟩)
      (fun _ R s => s.heap.get? l = some { cls := .type "list", dict := dd, data := .seq items n, slots := sl } ∧ s.heap.get? b = some { cls := .type "list", dict := dd2, data := .seq items2 n2, slots := sl2 } ∧ i ≤ items.size ∧ i ≤ items2.size ∧
        R (.ok (.ret (.bool (HT.lexLt (ns.drop i) (ms.drop i))))) s) := by
  have z1 : items.size = ns.length := by rw [← hi.length]; simp
  have z2 : items2.size = ms.length := by rw [← hj.length]; simp
  have short : ∀ i : Nat, i ≤ items.size → i ≤ items2.size → (i = items.size ∨ i = items2.size) → HT.lexLt (ns.drop i) (ms.drop i) = decide (items.size < items2.size) := fun i h1 h2 h => by
    by_cases e1 : i = items.size
    · rw [List.drop_of_length_le (show ns.length ≤ i by omega)]
      by_cases e2 : i = items2.size
      · rw [List.drop_of_length_le (show ms.length ≤ i by omega), HT.lexLt_nil_nil]
        exact (decide_eq_false (by omega)).symm
      · rw [List.drop_eq_getElem_cons (show i < ms.length by omega), HT.lexLt_nil_cons]
        exact (decide_eq_true (by omega)).symm
    · have e2 : i = items2.size := by rcases h with h | h; exact absurd h e1; exact h
      rw [List.drop_of_length_le (show ms.length ≤ i by omega), List.drop_eq_getElem_cons (show i < ns.length by omega), HT.lexLt_cons_nil]
      exact (decide_eq_false (by omega)).symm
  induction k with
  | zero =>
    intro i hk prog w A R s h
    obtain ⟨hp, g, d, tk, os⟩ := s; obtain ⟨hl, hb, hi1, hi2, h⟩ := h
    rw [short i hi1 hi2 (.inl (by omega))] at h
    wp_walk using wpAny_loadPart' hl, wpAny_loadPart' hb
    have g1 : items[((i : Nat) : Int).toNat]? = none := by simp; omega
    rw [g1]
    wp_walk using wpAny_loadPart' hl, wpAny_loadPart' hb
    exact h
  | succ k ih =>
    intro i hk prog w A R s h
    obtain ⟨hp, g, d, tk, os⟩ := s; obtain ⟨hl, hb, hi1, hi2, h⟩ := h
    wp_walk using wpAny_loadPart' hl, wpAny_loadPart' hb
    have hlt : i < items.size := by omega
    obtain ⟨x, t, ex, dx⟩ := ints_get hi (i := i) (by simpa using hlt)
    have g1 : items[((i : Nat) : Int).toNat]? = some (.int x t) := by rw [Int.toNat_natCast, ← Array.getElem?_toList]; exact ex
    by_cases hlt2 : i < items2.size
    · obtain ⟨y, u, ey, dy⟩ := ints_get hj (i := i) (by simpa using hlt2)
      have g2 : items2[((i : Nat) : Int).toNat]? = some (.int y u) := by rw [Int.toNat_natCast, ← Array.getElem?_toList]; exact ey
      have hc : ((i : Int) + 1) = ((i + 1 : Nat) : Int) := by push_cast; rfl
      rw [dx, dy, HT.lexLt_cons] at h
      rw [g1, g2]
      obtain ⟨e, he, hiff⟩ := HT.eqAt_int A.in1 ⟨hp, g, d, tk, os⟩ x t y u
      refine wpAny_bind (he prog w _ _ ?_)
      cases e with
      | true =>
        rw [if_pos (hiff.mp rfl)] at h
        wp_walk
        rw [hc]
        exact ⟨plainId_quiet plain_eq_loop _, codeAny_builtin entry_eq_loop (by
          rw [Around.under_plainId plain_eq_loop _]
          exact ih (i + 1) (by omega) prog w A R _ ⟨hl, hb, hlt, hlt2, h⟩)⟩
      | false =>
        rw [if_neg (fun q => absurd (hiff.mpr q) Bool.false_ne_true)] at h
        have hri := HT.rcLt_int A.in1 ⟨hp, g, d, tk, os⟩ x t y u prog w
        wp_walk using wpAny_loadPart' hl, wpAny_loadPart' hb
        rw [g1, g2]
        wp_walk using hri
        exact h
    · rw [short i hi1 hi2 (.inr (by omega))] at h
      have g2 : items2[((i : Nat) : Int).toNat]? = none := by simp; omega
      rw [g1, g2]
      wp_walk using wpAny_loadPart' hl, wpAny_loadPart' hb
      exact h
theorem list_lt (l b : Addr) (items items2 : Array Value) (n n2 : Nat) (dd dd2 : Option Addr) (sl sl2 : Array (Option Value)) (ns ms : List Int) (hi : IntsAre items.toList ns) (hj : IntsAre items2.toList ms) :
    Meets (Builtin.«list.__lt__» ⟨[.ref l, .ref b], []⟩)
      (fun _ R s => s.heap.get? l = some { cls := .type "list", dict := dd, data := .seq items n, slots := sl } ∧ s.heap.get? b = some { cls := .type "list", dict := dd2, data := .seq items2 n2, slots := sl2 } ∧
        R (.ok (.ret (.bool (HT.lexLt ns ms)))) s) := by
  intro prog w A R s h
  obtain ⟨hp, g, d, tk, os⟩ := s; obtain ⟨hl, hb, h⟩ := h
  have f3 := AutoSeq1.sub_list_list
  wp_walk using wpAny_loadPart' hl, wpAny_loadPart' hb
  exact ⟨plainId_quiet plain_eq_loop _, codeAny_builtin entry_eq_loop (by
    rw [Around.under_plainId plain_eq_loop _]
    exact lt_loop l b items items2 n n2 dd dd2 sl sl2 ns ms hi hj _ 0 rfl prog w A R _ ⟨hl, hb, Nat.zero_le _, Nat.zero_le _, h⟩)⟩
theorem tuple_lt_pair (l b p q : Addr) (n n2 : Nat) (dd dd2 : Option Addr) (sl sl2 : Array (Option Value)) (x y : Int) (t u : Tok) (e lt : Bool) :
    Meets (Builtin.«tuple.__lt__» ⟨[.ref l, .ref b], []⟩)
      (fun A R s => s.heap.get? l = some { cls := .type "tuple", dict := dd, data := .seq #[.int x t, .ref p] n, slots := sl } ∧ s.heap.get? b = some { cls := .type "tuple", dict := dd2, data := .seq #[.int y u, .ref q] n2, slots := sl2 } ∧
        EqAt A.in1 s (.ref p) (.ref q) e ∧ (∀ (prog : Program) (w : World) (E : Value → Shared → Prop) (Q : Value → Shared → Prop), Q (.bool lt) s → wpAny (model prog w) A.in1 (richCompare .Lt (.ref p) (.ref q)) Q E s) ∧
        R (.ok (.ret (.bool (if x = y then (if e = true then false else lt) else decide (x < y))))) s) :=
  .of_wp fun prog w A R s h => by
    obtain ⟨hp, g, d, tk, os⟩ := s; obtain ⟨hl, hb, he, hlt, h⟩ := h
    have f2 := AutoSeq1.sub_tuple_tuple
    wp_walk using wpAny_loadPart' hl, wpAny_loadPart' hb, wpAny_forIn_list _ (fun rest b s' => b.1 = none ∧ s' = ⟨hp, g, d, tk, os⟩ ∧ ((rest = [(.int x t, .int y u), (.ref p, .ref q)]) ∨ (rest = [(.ref p, .ref q)] ∧ x = y) ∨ (rest = [] ∧ x = y ∧ e = true))) _
    case turn =>
      rintro ⟨y', x'⟩ rest b s' ⟨hb', rfl, hz | ⟨hz, hxy⟩ | ⟨hz, _⟩⟩
      · injection hz with hyx hrest
        injection hyx with hy hx
        subst hy hx
        obtain ⟨e1, he1, hiff⟩ := HT.eqAt_int A.in1 ⟨hp, g, d, tk, os⟩ x t y u
        refine wpAny_bind (he1 prog w _ _ ?_)
        cases e1 with
        | true =>
          wp_walk
          exact ⟨rfl, rfl, .inr (.inl ⟨hrest, hiff.mp rfl⟩)⟩
        | false =>
          rw [if_neg (fun q => absurd (hiff.mpr q) Bool.false_ne_true)] at h
          have hri := HT.rcLt_int A.in1 ⟨hp, g, d, tk, os⟩ x t y u prog w
          wp_walk using hri
          exact ⟨_, rfl, by simpa using h⟩
      · injection hz with hyx hrest
        injection hyx with hy hx
        subst hy hx
        rw [if_pos hxy] at h
        refine wpAny_bind (he prog w _ _ ?_)
        cases e with
        | true =>
          wp_walk
          exact ⟨rfl, rfl, .inr (.inr ⟨hrest, hxy, rfl⟩)⟩
        | false =>
          have hri := hlt prog w
          wp_walk using hri
          exact ⟨_, rfl, by simpa using h⟩
      · cases hz
    case fin =>
      rintro ⟨b1, b2⟩ s' ⟨hb', rfl, hz | ⟨hz, _⟩ | ⟨hz, hxy, he⟩⟩
      · cases hz
      · cases hz
      · simp only at hb'
        subst hb'
        rw [if_pos hxy, if_pos he] at h
        wp_walk
        exact ⟨_, rfl, by simpa [Builtin.Tuple.tupleCompareSizes] using h⟩
    case h =>
      exact ⟨rfl, rfl, .inl rfl⟩
end
section
variable {prog : Program} {w : World} {A : Around} {E : Value → Shared → Prop} {s : Shared}
theorem lt_lists {l b : Addr} {items items2 : Array Value} {ns ms : List Int} {Q : Value → Shared → Prop} (hl : s.heap.IsList l items) (hb : s.heap.IsList b items2) (hi : IntsAre items.toList ns) (hj : IntsAre items2.toList ms)
    (hu : A.units < cLine) (h : Q (.bool (HT.lexLt ns ms)) s) : wpAny (model prog w) A (richCompare .Lt (.ref l) (.ref b)) Q E s := by
  obtain ⟨⟨cls, dd, data, sl⟩, ho, hc, n, hd⟩ := id hl
  obtain ⟨⟨cls2, dd2, data2, sl2⟩, ho2, hc2, n2, hd2⟩ := id hb
  simp only at hc hd hc2 hd2
  subst hc hd hc2 hd2
  exact richCompare_meets_room (op := .Lt) ⟨_, ho, rfl⟩ ⟨_, ho2, rfl⟩ PySem.F.slot_list_lt PySem.F.entry_list_lt (PySem.F.args_list_lt_2 _ _) (list_lt l b items items2 n n2 dd dd2 sl sl2 ns ms hi hj)
    ⟨ho, ho2, show Value.bool (HT.lexLt ns ms) ≠ Value.notImplemented ∧ Q (.bool (HT.lexLt ns ms)) s from ⟨(fun x => nomatch x), h⟩⟩ hu
theorem ints_eq : ∀ {vs ws : List Value} {ns ms : List Int}, IntsAre vs ns → IntsAre ws ms → vs.length = ws.length → (((List.range vs.length).all fun j => decide (ns[j]? = ms[j]?)) = true ↔ ns = ms) := fun {vs ws ns ms} h1 h2 hl => by
  have z1 := h1.length
  have z2 := h2.length
  rw [List.all_eq_true]
  constructor
  · intro h
    apply List.ext_getElem?
    intro i
    by_cases hi : i < vs.length
    · exact of_decide_eq_true (h i (List.mem_range.mpr hi))
    · rw [List.getElem?_eq_none (by omega), List.getElem?_eq_none (by omega)]
  · rintro rfl i _
    exact decide_eq_true rfl
theorem ints_uniq : ∀ {vs : List Value} {ns ms : List Int}, IntsAre vs ns → IntsAre vs ms → ns = ms := fun {vs ns ms} h => by
  induction h generalizing ms with
  | nil => intro h2; cases h2; rfl
  | cons n t _ ih => intro h2; cases h2 with | cons _ _ h3 => rw [ih h3]
theorem eq_lists {l b : Addr} {items items2 : Array Value} {ns ms : List Int} (hl : s.heap.IsList l items) (hb : s.heap.IsList b items2) (hi : IntsAre items.toList ns) (hj : IntsAre items2.toList ms) (hu : A.units < cLine) :
    ∃ e, SeqAt.EqAt A s (.ref l) (.ref b) e ∧ (e = true ↔ ns = ms) := by
  have z1 := hi.length
  have z2 := hj.length
  by_cases hlb : l = b
  · subst hlb
    refine ⟨true, SeqAt.EqAt.same _, fun _ => ?_, fun _ => rfl⟩
    obtain ⟨o, ho, _, n, hd⟩ := hl
    obtain ⟨o2, ho2, _, n2, hd2⟩ := hb
    rw [ho] at ho2
    cases ho2
    rw [hd] at hd2
    cases hd2
    exact ints_uniq hi hj
  · by_cases hs : items.size = items2.size
    · refine ⟨_, SeqAt.EqAt.of_refs hlb (SeqAt.RcAt.lists (e := fun j => decide (ns[j]? = ms[j]?)) hl hb hs hu fun j h1 h2 => ?_), ?_⟩
      · obtain ⟨x, t, ex, dx⟩ := ints_get hi (i := j) (by simpa using h1)
        obtain ⟨y, u, ey, dy⟩ := ints_get hj (i := j) (by simpa using h2)
        have e1 : items[j] = .int x t := by
          rw [Array.getElem?_toList, Array.getElem?_eq_getElem h1] at ex
          exact Option.some.inj ex
        have e2 : items2[j] = .int y u := by
          rw [Array.getElem?_toList, Array.getElem?_eq_getElem h2] at ey
          exact Option.some.inj ey
        have d1 : ns[j]? = some x := by
          rw [← List.head?_drop, dx]
          rfl
        have d2 : ms[j]? = some y := by
          rw [← List.head?_drop, dy]
          rfl
        have ee : decide (ns[j]? = ms[j]?) = (x == y) := by
          rw [d1, d2]
          by_cases q : x = y
          · subst q; simp
          · rw [decide_eq_false (fun z => q (Option.some.inj z))]
            exact (beq_eq_false_iff_ne.mpr q).symm
        rw [e1, e2]
        show SeqAt.EqAt _ _ _ _ (decide (ns[j]? = ms[j]?))
        rw [ee]
        exact SeqAt.EqAt.int_int x t y u
      · rw [← Array.length_toList]
        exact ints_eq hi hj (by rw [Array.length_toList, Array.length_toList]; exact hs)
    · refine ⟨false, SeqAt.EqAt.of_refs hlb (SeqAt.RcAt.lists_lengths hl hb (by simpa using hs) hu), fun z => (by cases z), fun z => ?_⟩
      exfalso
      apply hs
      rw [← Array.length_toList, ← Array.length_toList, z1, z2, z]
def TL (h : Heap) (v : Value) (k : List Int) : Prop := ∃ (a p : Addr) (its : Array Value) (c : Int) (t : Tok) (ns : List Int), v = .ref a ∧ IsTup h a #[.int c t, .ref p] ∧ h.IsList p its ∧ IntsAre its.toList ns ∧ k = c :: ns
theorem TL.keeps {h h' : Heap} {v : Value} {k : List Int} (x : TL h v k) (hk : ∀ b o, h.get? b = some o → h'.get? b = some o) : TL h' v k := by
  obtain ⟨a, p, its, c, t, ns, rfl, ⟨o, ho, r⟩, ⟨o2, ho2, r2⟩, h3, h4⟩ := x
  exact ⟨a, p, its, c, t, ns, rfl, ⟨o, hk _ _ ho, r⟩, ⟨o2, hk _ _ ho2, r2⟩, h3, h4⟩
theorem lt_TL {v u : Value} {k m : List Int} {Q : Value → Shared → Prop} (hv : TL s.heap v k) (hw : TL s.heap u m) (hu : A.units + 1 < cLine) (h : Q (.bool (HT.lexLt k m)) s) : wpAny (model prog w) A (richCompare .Lt v u) Q E s := by
  obtain ⟨l, p, its, x, t, ns, rfl, hl, hp, hi, rfl⟩ := hv
  obtain ⟨b, q, its2, y, t2, ms, rfl, hb, hq, hj, rfl⟩ := hw
  have hu1 : A.in1.units < cLine := hu
  obtain ⟨e, he, hiff⟩ := eq_lists hp hq hi hj hu1
  obtain ⟨⟨cls, dd, data, sl⟩, ho, hc, n, hd⟩ := id hl
  obtain ⟨⟨cls2, dd2, data2, sl2⟩, ho2, hc2, n2, hd2⟩ := id hb
  simp only at hc hd hc2 hd2
  subst hc hd hc2 hd2
  have val : (if x = y then (if e = true then false else HT.lexLt ns ms) else decide (x < y)) = HT.lexLt (x :: ns) (y :: ms) := by
    rw [HT.lexLt_cons]
    by_cases q : x = y
    · rw [if_pos q, if_pos q]
      by_cases q2 : e = true
      · rw [if_pos q2, hiff.mp q2, Sr.lex_irrefl]
      · rw [if_neg q2]
    · rw [if_neg q, if_neg q]
  refine richCompare_meets_room (op := .Lt) ⟨_, ho, rfl⟩ ⟨_, ho2, rfl⟩ PySem.F.slot_tuple_lt PySem.F.entry_tuple_lt (PySem.F.args_tuple_lt_2 _ _) (tuple_lt_pair l b p q n n2 dd dd2 sl sl2 x y t t2 e (HT.lexLt ns ms))
    ⟨ho, ho2, he, fun prog w E Q z => lt_lists hp hq hi hj hu1 z, ?_⟩ (by omega)
  rw [val]
  exact ⟨(fun x => nomatch x), h⟩
end
def LeastT (Pr : Nat → Value → Prop) (g : Nat → List Int) (j : Nat) (v : Value) : Prop := ∃ i, i < j ∧ Pr i v ∧ ∀ i', i' < j → HT.lexLt (g i') (g i) = false
theorem lex_le_trans {a b c : List Int} (h1 : HT.lexLt a b = false) (h2 : HT.lexLt b c = false) : HT.lexLt a c = false := by
  cases e : HT.lexLt a c with
  | false => rfl
  | true =>
    rcases Sr.lex_neg a b c e with h | h
    · rw [h1] at h; cases h
    · rw [h2] at h; cases h
theorem lex_asymm {a b : List Int} (h : HT.lexLt a b = true) : HT.lexLt b a = false := by
  cases e : HT.lexLt b a with
  | false => rfl
  | true =>
    have := Sr.lex_trans a b a h e
    rw [Sr.lex_irrefl] at this
    cases this
section
variable {P : Program} {w : World} {A : Around} {R : Result → Shared → Prop} {it : Addr} {fp wr : List Addr} {n : Nat} {Pr : Nat → Value → Prop} {St : Nat → Heap → Prop}
theorem mnt_loop (W : Walks P w A.in1 it fp wr n Pr St) (h0 : Heap) (g : Nat → List Int) (hg : ∀ (i : Nat) (v : Value), Pr i v → TL h0 v (g i)) (hu : A.in1.units + 1 < cLine) (B : Addr) (hB : B ∉ fp) (hf : ∀ b o, h0.get? b = some o → b ∉ wr ∧ b ≠ B) :
    ∀ (k j : Nat) (s : Shared) (vb : Value) (c : Nat), n - j = k → 1 ≤ j → j ≤ n → St j s.heap → (∀ b o, h0.get? b = some o → s.heap.get? b = some o) → s.heap.get? B = some (bestObj #[vb, vb] c) → LeastT Pr g j vb →
    (∀ v h' tk, LeastT Pr g n v → (∀ b o, h0.get? b = some o → h'.get? b = some o) → R (.ok (.ret v)) { s with heap := h', toks := tk }) →
    codeAny (model P w) A (.builtin "min.loop" ⟨[.ref it, .none, .ref B], []⟩) R s := by
  have hBw : B ∉ wr := fun h => hB (W.sub _ h)
  have hnm : (toString "min" ++ toString ".loop" : String) = "min.loop" := by decide
  intro k
  induction k with
  | zero =>
    intro j s vb c hk hj1 hj st h0k ho hl q
    have e : j = n := by omega
    subst e
    refine codeAny_builtin F.entry_min_loop ?_
    rw [Around.under_plainId F.plain_min_loop _]
    refine wpAny_bind (m := seqItems? (.ref B)) (wpAny_seqItems ho rfl ?_)
    refine wpAny_bind (m := tryCatch (pyNext (.ref it)) _) (wpAny_tryCatch (W.done s _ _ st fun h' tk hk => ?_))
    have hB' := hk B _ hBw ho
    refine wpAny_bind (m := updateSeq B (fun _ => #[])) (wpAny_updateSeq hB' rfl (wpAny_bind (wpAny_letGo (wpAny_pure ?_))))
    exact q _ _ tk hl fun b o e => (Heap.get?_update_other _ _ (Ne.symm (hf b o e).2)).trans (hk b o (hf b o e).1 (h0k b o e))
  | succ k ih =>
    intro j s vb c hk hj1 hj st h0k ho hl q
    have hlt : j < n := by omega
    refine codeAny_builtin F.entry_min_loop ?_
    rw [Around.under_plainId F.plain_min_loop _]
    refine wpAny_bind (m := seqItems? (.ref B)) (wpAny_seqItems ho rfl ?_)
    refine wpAny_bind (m := tryCatch (pyNext (.ref it)) _) (wpAny_tryCatch (W.item j s _ _ hlt st fun v h' tk hP st' hk' => ?_))
    have hB' := hk' B _ hBw ho
    have h0' : ∀ b o, h0.get? b = some o → h'.get? b = some o := fun b o e => hk' b o (hf b o e).1 (h0k b o e)
    obtain ⟨i, hi, hPi, hle⟩ := hl
    have t1 : TL h' v (g j) := (hg j v hP).keeps h0'
    have t2 : TL h' vb (g i) := (hg i vb hPi).keeps h0'
    refine wpAny_bind (m := tryCatch (holding [_, _] (richCompare .Lt v vb >>= _)) _) (wpAny_tryCatch (wpAny_holding (wpAny_bind (lt_TL t1 t2 hu ?_))))
    refine wpAny_bind (wpAny_holding (wpAny_truthy_bool ?_))
    refine wpAny_bind (wpAny_letGo (wpAny_pure ?_))
    cases hb : HT.lexLt (g j) (g i) with
    | true =>
      simp only [if_true]
      refine wpAny_bind (m := updateSeq B (fun _ => #[v, v])) (wpAny_updateSeq hB' rfl (wpAny_bind (wpAny_letGo ?_)))
      rw [hnm]
      refine wpAny_pure ⟨plainId_quiet F.plain_min_loop _, ih (j + 1) _ _ _ (by omega) (by omega) hlt (W.frame _ _ _ st' fun b hbf o e => ?_) (fun b o e => ?_) (Heap.get?_update_self _ hB' rfl) ⟨j, by omega, hP, fun i' hi' => ?_⟩ fun v h2 tk2 ht2 hk2 => q v h2 tk2 ht2 hk2⟩
      · exact (Heap.get?_update_other _ _ (fun h : B = b => hB (h ▸ hbf))).trans e
      · exact (Heap.get?_update_other _ _ (Ne.symm (hf b o e).2)).trans (h0' b o e)
      · by_cases e : i' = j
        · subst e; exact Sr.lex_irrefl _
        · exact lex_le_trans (hle i' (by omega)) (lex_asymm hb)
    | false =>
      simp only [Bool.false_eq_true, if_false]
      refine wpAny_bind (wpAny_letGo ?_)
      rw [hnm]
      refine wpAny_pure ⟨plainId_quiet F.plain_min_loop _, ih (j + 1) _ _ _ (by omega) (by omega) hlt st' h0' hB' ⟨i, by omega, hPi, fun i' hi' => ?_⟩ fun v h2 tk2 ht2 hk2 => q v h2 tk2 ht2 hk2⟩
      by_cases e : i' = j
      · subst e; exact hb
      · exact hle i' (by omega)
end
section
variable {P : Program} {w : World} {A : Around} {E : Value → Shared → Prop} {s : Shared}
theorem mnt_call {l : Addr} {its : Array Value} {g : Nat → List Int} {Q : Value → Shared → Prop} (hh : A.handled = none) (hl : s.heap.IsList l its) (hg : ∀ (i : Nat) (v : Value), its[i]? = some v → TL s.heap v (g i)) (hn : 0 < its.size) (hu : A.in1.units + 1 < cLine)
    (q : ∀ v h' tk, LeastT (fun i v => its[i]? = some v) g its.size v → (∀ b o, s.heap.get? b = some o → h'.get? b = some o) → Q v { s with heap := h', toks := tk }) :
    wpAny (model P w) A (call (.builtin "min") [.ref l]) Q E s := by
  have hnm : (toString "min" ++ toString ".loop" : String) = "min.loop" := by decide
  have hlt : l < s.heap.objs.size := by obtain ⟨_, e, _⟩ := hl; exact Heap.lt_size e
  refine call_function_tree F.kind_min F.plain_min F.entry_min (F.args_min1 _) ?_
  refine wpAny_bind (m := Builtin.Builtins.bindParams "min" ["key", "default"] 0 ⟨[], []⟩) (wpAny_of_eq (show Builtin.Builtins.bindParams "min" ["key", "default"] 0 ⟨[], []⟩ = pure [none, none] from rfl) ?_)
  refine wpAny_bind (wpAny_pure ?_)
  refine wpAny_bind (m := pyIter (.ref l)) (wpAny_pyIter_list hl ?_)
  refine wpAny_bind (wpAny_newObj_type ?_)
  rw [hnm]
  have hsz : (s.heap.push { cls := .type "list_iterator", data := .fields #[.ref l, .int 0 0] }).objs.size = s.heap.objs.size + 1 := Heap.size_push ..
  have W := Walks.list (prog := P) (w := w) (A := A.in1) hh s.heap.objs.size l (Nat.ne_of_lt hlt) its
  have hB : s.heap.objs.size + 1 ∉ [s.heap.objs.size, l] := fun hm => by
    rcases List.mem_cons.mp hm with e | hm
    · exact Nat.succ_ne_self _ e
    · rcases List.mem_cons.mp hm with e | hm
      · exact absurd hlt (Nat.not_lt_of_le (Nat.le_trans (Nat.le_succ _) (Nat.le_of_eq e)))
      · cases hm
  have hBw : s.heap.objs.size + 1 ∉ [s.heap.objs.size] := fun hm => by
    rcases List.mem_cons.mp hm with e | hm
    · exact Nat.succ_ne_self _ e
    · cases hm
  have hf : ∀ b o, s.heap.get? b = some o → b ∉ [s.heap.objs.size] ∧ b ≠ s.heap.objs.size + 1 := fun b o e => by
    have := Heap.lt_size e
    refine ⟨fun hm => ?_, Nat.ne_of_lt (Nat.lt_succ_of_lt this)⟩
    rcases List.mem_cons.mp hm with e1 | hm
    · exact absurd (e1 ▸ this) (Nat.lt_irrefl _)
    · cases hm
  rw [hsz]
  refine wpAny_pure ⟨plainId_quiet F.plain_min_loop _, ?_⟩
  refine codeAny_builtin F.entry_min_loop ?_
  rw [Around.under_plainId F.plain_min_loop _]
  refine wpAny_bind (m := seqItems? (.ref (s.heap.objs.size + 1))) (wpAny_seqItems (by rw [← hsz]; exact Heap.get?_push_size _ rfl) rfl ?_)
  refine wpAny_bind (m := tryCatch (pyNext (.ref s.heap.objs.size)) _) (wpAny_tryCatch (W.item 0 _ _ _ hn ⟨⟨_, Heap.get?_push_of_some _ (Heap.get?_push_size _ rfl), rfl, rfl⟩, (hl.push _).push _⟩ fun v h' tk hP st' hk' => ?_))
  have hB' := hk' (s.heap.objs.size + 1) _ hBw (by rw [← hsz]; exact Heap.get?_push_size _ rfl)
  have h0' : ∀ b o, s.heap.get? b = some o → h'.get? b = some o := fun b o e => hk' b o (hf b o e).1 (Heap.get?_push_of_some _ (Heap.get?_push_of_some _ e))
  refine wpAny_bind (m := updateSeq (s.heap.objs.size + 1) (fun _ => #[v, v])) (wpAny_updateSeq hB' rfl ?_)
  rw [hnm]
  refine wpAny_pure ⟨plainId_quiet F.plain_min_loop _, mnt_loop W s.heap g hg hu _ hB hf (its.size - 1) 1 _ _ _ rfl (Nat.le_refl _) hn (W.frame _ _ _ st' fun b hbf o e => ?_) (fun b o e => ?_) (Heap.get?_update_self _ hB' rfl) ⟨0, by omega, hP, fun i' hi' => ?_⟩ fun v h2 tk2 ht2 hk2 => q v h2 tk2 ht2 hk2⟩
  · exact (Heap.get?_update_other _ _ (fun h : s.heap.objs.size + 1 = b => hB (h ▸ hbf))).trans e
  · exact (Heap.get?_update_other _ _ (Ne.symm (hf b o e).2)).trans (h0' b o e)
  · have e : i' = 0 := by omega
    subst e
    exact Sr.lex_irrefl _
end
section
variable {X : Cx}
def TLat (H : Hp) (v : V) (k : List Int) : Prop := ∃ (a q : Addr) (c : Int) (ns : List Int), v = .ref a ∧ H a = some (.tup [.int c, .ref q]) ∧ H q = some (.lst (ns.map V.int)) ∧ k = c :: ns
theorem call_minT (hc : X.calm = true) (hu : X.A.units + 64 < cLine) : CallR X (.builtin "min") (fun xs H Q => ∃ p vs ks, xs = [.ref p] ∧ SqL X.K H p vs ∧ Paired (TLat H) vs ks ∧ vs ≠ [] ∧ ∀ v k, v ∈ vs → k ∈ ks → TLat H v k → (∀ k' ∈ ks, HT.lexLt k' k = false) → Q v H) := by
  intro pins s σ H xs us Q I r h
  obtain ⟨p, vs, ks, rfl, hq, hpd, hne, q⟩ := h
  obtain ⟨u, rfl, ru⟩ := vals1 r
  cases ru
  obtain ⟨its, rv, pl, hz⟩ := I.list hq
  have hlen := rv.length
  have hkl := Paired.length hpd
  have at_ : ∀ (i : Nat) (u : Value), its.toArray[i]? = some u → ∃ v, vs[i]? = some v ∧ RelV v u ∧ TLat H v (ks.getD i []) ∧ ks.getD i [] ∈ ks := fun i u e => by
    rw [List.getElem?_toArray] at e
    obtain ⟨v, h4, h5⟩ := vals_back rv e
    obtain ⟨k, hk, ht⟩ := Cs.pd_get hpd h4
    refine ⟨v, h4, h5, ?_, ?_⟩
    · rw [List.getD_eq_getElem?_getD, hk]; exact ht
    · rw [List.getD_eq_getElem?_getD, hk]; exact List.mem_of_getElem? hk
  have hpos : 0 < its.toArray.size := by
    rw [List.size_toArray, ← hlen]
    cases vs with
    | nil => exact absurd rfl hne
    | cons _ _ => exact Nat.succ_pos _
  refine mnt_call (g := fun i => ks.getD i []) (I.ok.hd hc) pl.isList (fun i u e => ?_) hpos (by show X.A.units + 1 + 1 < cLine; omega) fun v h' tk ht hk => ?_
  · obtain ⟨v, h1, h2, ⟨a, b, c, ns, rfl, ha, hb, hk⟩, _⟩ := at_ i u e
    cases h2
    obtain ⟨its1, rv1, pl1, _⟩ := I.tuple (SqT.of ha)
    obtain ⟨its2, rv2, pl2, _⟩ := I.list (SqL.of hb)
    cases rv1 with
    | cons r1 rv1 =>
      cases rv1 with
      | cons r2 rv1 =>
        cases rv1
        obtain ⟨t, rfl⟩ := r1
        cases r2
        exact ⟨a, b, its2.toArray, c, t, ns, rfl, pl1, pl2.isList, by simpa using intsAre_of rv2, hk⟩
  · obtain ⟨i, hi, hv, hle⟩ := ht
    obtain ⟨v', h1, h2, h3, h4⟩ := at_ i v hv
    refine ⟨v', H, I.kept hk, h2, q v' _ (List.mem_of_getElem? h1) h4 h3 fun k' hk' => ?_⟩
    obtain ⟨j, hj, ej⟩ := List.mem_iff_getElem.mp hk'
    have : HT.lexLt (ks.getD j []) (ks.getD i []) = false := hle j (by rw [List.size_toArray]; omega)
    rw [List.getD_eq_getElem?_getD (i := j), List.getElem?_eq_getElem hj, ej] at this
    exact this
end
section
variable {X : Cx} (K : PySem.W.Frag) (hK : X.K = K)
include hK
theorem kcall_minT (hc : X.calm = true) (hu : X.A.units + 64 < cLine) : CallR X (.builtin "min") (fun xs H Q => ∃ p vs ks, xs = [.ref p] ∧ SqL K H p vs ∧ Paired (TLat H) vs ks ∧ vs ≠ [] ∧ ∀ v k, v ∈ vs → k ∈ ks → TLat H v k → (∀ k' ∈ ks, HT.lexLt k' k = false) → Q v H) := by subst hK; exact call_minT hc hu
end
end L2
namespace Br
open PySem L2
def Path (n : Nat) : Nat → List Nat → Prop
  | i, [] => i = n
  | i, e :: r => i < e ∧ e ≤ n ∧ Path n e r
def subs : Nat → List (List Nat)
  | 0 => [[]]
  | k + 1 => subs k ++ (subs k).map (· ++ [k + 1])
def ways (n : Nat) : List (List Nat) := (subs (n - 1)).map (· ++ [n])
theorem subs_len (k : Nat) : (subs k).length = 2 ^ k := by
  induction k with
  | zero => rfl
  | succ k ih =>
    show (subs k ++ (subs k).map _).length = _
    rw [List.length_append, List.length_map, ih, Nat.pow_succ]
    omega
theorem mem_subs {m : Nat} : ∀ {w : List Nat}, w ∈ subs m ↔ w.Pairwise (· < ·) ∧ ∀ x ∈ w, 1 ≤ x ∧ x ≤ m := by
  induction m with
  | zero =>
    intro w
    constructor
    · intro h
      rw [List.mem_singleton.mp h]
      exact ⟨.nil, fun x hx => nomatch hx⟩
    · rintro ⟨_, h⟩
      cases w with
      | nil => exact List.mem_singleton.mpr rfl
      | cons x r =>
        have := h x List.mem_cons_self
        omega
  | succ m ih =>
    intro w
    show w ∈ subs m ++ (subs m).map _ ↔ _
    rw [List.mem_append, List.mem_map]
    constructor
    · rintro (h | ⟨v, hv, rfl⟩)
      · obtain ⟨h1, h2⟩ := ih.mp h
        exact ⟨h1, fun x hx => by have := h2 x hx; omega⟩
      · obtain ⟨h1, h2⟩ := ih.mp hv
        refine ⟨List.pairwise_append.mpr ⟨h1, List.pairwise_singleton _ _, fun a ha b hb => ?_⟩, fun x hx => ?_⟩
        · rw [List.mem_singleton.mp hb]
          have := h2 a ha
          omega
        · rcases List.mem_append.mp hx with h | h
          · have := h2 x h
            omega
          · rw [List.mem_singleton.mp h]
            omega
    · rintro ⟨h1, h2⟩
      rcases List.eq_nil_or_concat w with rfl | ⟨v, x, rfl⟩
      · exact .inl (ih.mpr ⟨.nil, fun x hx => nomatch hx⟩)
      · rw [List.concat_eq_append] at h1 h2 ⊢
        obtain ⟨p1, _, p3⟩ := List.pairwise_append.mp h1
        have hx := h2 x (List.mem_append_right _ (List.mem_singleton.mpr rfl))
        have hv : ∀ y ∈ v, 1 ≤ y ∧ y < x := fun y hy => ⟨(h2 y (List.mem_append_left _ hy)).1, p3 y hy x (List.mem_singleton.mpr rfl)⟩
        by_cases e : x = m + 1
        · subst e
          exact .inr ⟨v, ih.mpr ⟨p1, fun y hy => by have := hv y hy; omega⟩, rfl⟩
        · refine .inl (ih.mpr ⟨h1, fun y hy => ?_⟩)
          rcases List.mem_append.mp hy with h | h
          · have := hv y h
            omega
          · rw [List.mem_singleton.mp h]
            omega
theorem path_snoc {n : Nat} : ∀ {v : List Nat} {i : Nat}, v.Pairwise (· < ·) → (∀ x ∈ v, i < x ∧ x < n) → i < n → Path n i (v ++ [n])
  | [], i, _, _, hi => ⟨hi, Nat.le_refl _, rfl⟩
  | e :: r, i, hp, hb, _ => by
    have he := hb e List.mem_cons_self
    obtain ⟨h1, h2⟩ := List.pairwise_cons.mp hp
    exact ⟨he.1, by omega, path_snoc h2 (fun x hx => ⟨h1 x hx, (hb x (List.mem_cons_of_mem _ hx)).2⟩) he.2⟩
theorem snoc_path {n : Nat} : ∀ {w : List Nat} {i : Nat}, Path n i w → i < n → ∃ v, w = v ++ [n] ∧ v.Pairwise (· < ·) ∧ ∀ x ∈ v, i < x ∧ x < n
  | [], i, h, hi => by
    have : i = n := h
    omega
  | e :: r, i, ⟨h1, h2, h3⟩, hi => by
    by_cases he : e < n
    · obtain ⟨v, rfl, p, hb⟩ := snoc_path h3 he
      refine ⟨e :: v, rfl, List.pairwise_cons.mpr ⟨fun x hx => (hb x hx).1, p⟩, fun x hx => ?_⟩
      rcases List.mem_cons.mp hx with rfl | hx
      · exact ⟨h1, he⟩
      · have := hb x hx
        omega
    · have e1 : e = n := by omega
      subst e1
      cases r with
      | nil => exact ⟨[], rfl, .nil, fun x hx => nomatch hx⟩
      | cons y r =>
        obtain ⟨z1, z2, _⟩ := h3
        omega
theorem mem_ways {n : Nat} (hn : 1 ≤ n) {w : List Nat} : w ∈ ways n ↔ Path n 0 w := by
  unfold ways
  rw [List.mem_map]
  constructor
  · rintro ⟨v, hv, rfl⟩
    obtain ⟨h1, h2⟩ := mem_subs.mp hv
    exact path_snoc h1 (fun x hx => by have := h2 x hx; omega) hn
  · intro h
    obtain ⟨v, rfl, h1, h2⟩ := snoc_path h hn
    exact ⟨v, mem_subs.mpr ⟨h1, fun x hx => by have := h2 x hx; omega⟩, rfl⟩
theorem ways_mem {n : Nat} (hn : 1 ≤ n) {w : List Nat} (h : w ∈ ways n) : w.getLast? = some n ∧ (∀ x ∈ w, 1 ≤ x ∧ x ≤ n) ∧ w.length ≤ n := by
  have hp := (mem_ways hn).mp h
  obtain ⟨v, rfl, h1, h2⟩ := snoc_path hp hn
  refine ⟨by simp, fun x hx => ?_, ?_⟩
  · rcases List.mem_append.mp hx with h | h
    · have := h2 x h
      omega
    · rw [List.mem_singleton.mp h]
      omega
  · have : ∀ {w : List Nat} {i : Nat}, Path n i w → w.length + i ≤ n := fun {w} => by
      induction w with
      | nil => intro i h; have : i = n := h; simp; omega
      | cons e r ih =>
        intro i ⟨a1, a2, a3⟩
        have := ih a3
        rw [List.length_cons]
        omega
    have := this hp
    omega
def wcost (p : Par) : Nat → List Nat → Option Int
  | _, [] => some 0
  | i, e :: r => addO (lc p i e) (wcost p e r)
theorem addO_some {a b : Option Int} {c : Int} (h : addO a b = some c) : ∃ x y, a = some x ∧ b = some y ∧ c = x + y := by
  cases a with
  | none => cases h
  | some x =>
    cases b with
    | none => cases h
    | some y => exact ⟨x, y, rfl, rfl, (Option.some.inj h).symm⟩
theorem tab_le {p : Par} {f : Nat → Option Int} (ht : Tab p f 0) {i e : Nat} {a v : Int} (h1 : i < e) (h2 : e ≤ p.n) (ha : lc p i e = some a) (hv : f e = some v) : ∃ m, f i = some m ∧ m ≤ a + v := by
  have h3 := ht.rest i (Nat.zero_le _) (by omega)
  unfold best at h3
  have hm : a + v ∈ cands p f i (p.n - i) := by
    unfold cands
    refine List.mem_filterMap.mpr ⟨e - i - 1, List.mem_range.mpr (by omega), ?_⟩
    have e1 : i + 1 + (e - i - 1) = e := by omega
    rw [e1, ha, hv]
    rfl
  cases hl : leastO (cands p f i (p.n - i)) with
  | none =>
    rw [leastO_none.mp hl] at hm
    exact absurd hm List.not_mem_nil
  | some m =>
    rw [hl] at h3
    exact ⟨m, h3, (leastO_some.mp hl).2 _ hm⟩
theorem way_least {p : Par} {f : Nat → Option Int} (ht : Tab p f 0) : ∀ {w : List Nat} {i : Nat} {c : Int}, Path p.n i w → wcost p i w = some c → ∃ v, f i = some v ∧ v ≤ c
  | [], i, c, h, hc => by
    have e : i = p.n := h
    subst e
    cases hc
    exact ⟨0, ht.last, Int.le_refl _⟩
  | e :: r, i, c, ⟨h1, h2, h3⟩, hc => by
    obtain ⟨a, b, ha, hb, rfl⟩ := addO_some hc
    obtain ⟨v, hv, hle⟩ := way_least ht h3 hb
    obtain ⟨m, hm, hle2⟩ := tab_le ht h1 h2 ha hv
    exact ⟨m, hm, by omega⟩
theorem brks_way {p : Par} {f : Nat → Option Int} (ht : Tab p f 0) {i : Nat} {bs : List Nat} (h : Brks p f i bs) : Path p.n i bs ∧ wcost p i bs = f i := by
  induction h with
  | done => exact ⟨rfl, ht.last.symm⟩
  | step h1 h2 _ ih =>
    obtain ⟨⟨a1, a2, a, b, a3, a4, a5⟩, _⟩ := h2
    refine ⟨⟨a1, a2, ih.1⟩, ?_⟩
    show addO _ _ = _
    rw [a3, ih.2, a4, a5]
    rfl
abbrev negs (w : List Nat) : List Int := w.map fun e : Nat => 0 - (e : Int)
theorem brks_lex {p : Par} {f : Nat → Option Int} (ht : Tab p f 0) {i : Nat} {bs : List Nat} (h : Brks p f i bs) : ∀ {w : List Nat} {c : Int}, Path p.n i w → wcost p i w = some c → f i = some c → HT.lexLt (negs w) (negs bs) = false := by
  induction h with
  | done =>
    intro w c hw _ _
    cases w with
    | nil => rfl
    | cons e r => rfl
  | @step i e bs h1 h2 _ ih =>
    intro w c hw hc hf
    cases w with
    | nil =>
      have : i = p.n := hw
      omega
    | cons e' r =>
      obtain ⟨a1, a2, a3⟩ := hw
      obtain ⟨a, b, ha, hb, rfl⟩ := addO_some hc
      obtain ⟨v, hv, hle⟩ := way_least ht a3 hb
      obtain ⟨m, hm, hle2⟩ := tab_le ht a1 a2 ha hv
      rw [hf] at hm
      have hm : a + b = m := Option.some.inj hm
      have hvb : v = b := by omega
      subst hvb
      have hg : Good p f i e' := ⟨a1, a2, a, v, ha, hv, hf⟩
      have hge := h2.2 e' hg
      show HT.lexLt ((0 - (e' : Int)) :: negs r) ((0 - (e : Int)) :: negs bs) = false
      rw [HT.lexLt_cons]
      by_cases ee : e' = e
      · subst ee
        rw [if_pos rfl]
        exact ih a3 hb hv
      · rw [if_neg (by omega)]
        exact decide_eq_false (by omega)
def front (c : Nat → Nat → Option Int) : Nat → List Nat → Nat
  | i, [] => i
  | i, e :: r => if (c i e).isSome = true then front c e r else i
theorem front_rch {c : Nat → Nat → Option Int} {n : Nat} : ∀ {w : List Nat} {i : Nat}, Path n i w → Rch c i → i ≤ n → Rch c (front c i w) ∧ i ≤ front c i w ∧ front c i w ≤ n
  | [], i, _, h, hi => ⟨h, Nat.le_refl _, hi⟩
  | e :: r, i, ⟨h1, h2, h3⟩, h, hi => by
    unfold front
    split
    · rename_i hc
      obtain ⟨g1, g2, g3⟩ := front_rch h3 (.step h h1 hc) h2
      exact ⟨g1, by omega, g3⟩
    · exact ⟨h, Nat.le_refl _, hi⟩
theorem rch_front {c : Nat → Nat → Option Int} {n : Nat} {j : Nat} (h : Rch c j) : ∀ {v : List Nat}, Path n j v → j ≤ n → ∃ w, Path n 0 w ∧ front c 0 w = front c j v := by
  induction h with
  | zero => exact fun hv _ => ⟨_, hv, rfl⟩
  | @step i j _ hij hc ih =>
    intro v hv hj
    obtain ⟨w, h1, h2⟩ := ih (v := j :: v) ⟨hij, hj, hv⟩ (by omega)
    refine ⟨w, h1, ?_⟩
    rw [h2]
    show (if _ then _ else _) = _
    rw [if_pos hc]
theorem fronts_most {c : Nat → Nat → Option Int} {n m : Nat} (hn : 1 ≤ n) (h : Most c n m) : greatO ((ways n).map fun w => ((front c 0 w : Nat) : Int)) = some (m : Int) := by
  rw [greatO_some]
  constructor
  · rw [List.mem_map]
    by_cases e : m = n
    · obtain ⟨w, h1, h2⟩ := rch_front h.rch (v := []) (n := n) e h.le
      exact ⟨w, (mem_ways hn).mpr h1, by rw [h2]; rfl⟩
    · have hle := h.le
      have hp : Path n m [n] := ⟨by omega, Nat.le_refl _, rfl⟩
      obtain ⟨w, h1, h2⟩ := rch_front h.rch hp h.le
      obtain ⟨g1, g2, g3⟩ := front_rch hp h.rch h.le
      have g4 := h.top _ g3 g1
      exact ⟨w, (mem_ways hn).mpr h1, by rw [h2]; omega⟩
  · intro y hy
    obtain ⟨w, hw, rfl⟩ := List.mem_map.mp hy
    obtain ⟨g1, g2, g3⟩ := front_rch ((mem_ways hn).mp hw) (.zero (c := c)) (Nat.zero_le _)
    have := h.top _ g3 g1
    omega
def keysOf (p : Par) (n : Nat) : List (List Int) := (ways n).filterMap fun w => (wcost p 0 w).map fun c => c :: negs w
theorem keys_none {p : Par} {f : Nat → Option Int} (ht : Tab p f 0) (hn : 1 ≤ p.n) (h0 : f 0 = none) : keysOf p p.n = [] := by
  unfold keysOf
  rw [List.filterMap_eq_nil_iff]
  intro w hw
  cases hc : wcost p 0 w with
  | none => rfl
  | some c =>
    obtain ⟨v, hv, _⟩ := way_least ht ((mem_ways hn).mp hw) hc
    rw [h0] at hv
    cases hv
theorem keys_best {p : Par} {f : Nat → Option Int} {bs : List Nat} (ht : Tab p f 0) (hn : 1 ≤ p.n) (hb : Brks p f 0 bs) : ∃ c, f 0 = some c ∧ (c :: negs bs) ∈ keysOf p p.n ∧ ∀ k ∈ keysOf p p.n, HT.lexLt k (c :: negs bs) = false := by
  obtain ⟨h1, h2⟩ := brks_way ht hb
  have hex : ∃ c, f 0 = some c := by
    generalize h0 : 0 = z at hb
    cases hb with
    | done => omega
    | step a1 a2 _ =>
      obtain ⟨_, _, x, y, _, _, e⟩ := a2.1
      exact ⟨_, e⟩
  obtain ⟨c, hc⟩ := hex
  refine ⟨c, hc, ?_, fun k hk => ?_⟩
  · unfold keysOf
    refine List.mem_filterMap.mpr ⟨bs, (mem_ways hn).mpr h1, ?_⟩
    rw [h2, hc]
    rfl
  · unfold keysOf at hk
    obtain ⟨w, hw, e⟩ := List.mem_filterMap.mp hk
    have hw := (mem_ways hn).mp hw
    cases hwc : wcost p 0 w with
    | none => rw [hwc] at e; cases e
    | some cw =>
      rw [hwc] at e
      have e : cw :: negs w = k := Option.some.inj e
      subst e
      obtain ⟨v, hv, hle⟩ := way_least ht hw hwc
      rw [hc] at hv
      have hv : c = v := Option.some.inj hv
      subst hv
      rw [HT.lexLt_cons]
      by_cases ee : cw = c
      · subst ee
        rw [if_pos rfl]
        exact brks_lex ht hb hw hwc hc
      · rw [if_neg ee]
        exact decide_eq_false (by omega)
theorem keys_only {p : Par} {f : Nat → Option Int} {bs : List Nat} {k : List Int} (ht : Tab p f 0) (hn : 1 ≤ p.n) (hb : Brks p f 0 bs) (hk : k ∈ keysOf p p.n) (hl : ∀ k' ∈ keysOf p p.n, HT.lexLt k' k = false) : ∃ c, f 0 = some c ∧ k = c :: negs bs := by
  obtain ⟨c, h1, h2, h3⟩ := keys_best ht hn hb
  exact ⟨c, h1, Sr.lex_total _ _ (h3 k hk) (hl _ h2)⟩
end Br
namespace L2
open PySem PySem.Spec PyProof.Rows
def b2i (b : Bool) : Int := if b then 1 else 0
def nbIs : Int → Value → Bool
  | k, .int i _ => decide (i = k)
  | k, .bool b => decide (b2i b = k)
  | _, _ => false
theorem nbIs_shape {k : Int} {v : Value} (h : nbIs k v = true) : (∃ t, v = .int k t) ∨ ∃ b, v = .bool b ∧ k = b2i b := by
  cases v with
  | int i t => exact .inl ⟨t, by rw [of_decide_eq_true (show decide (i = k) = true from h)]⟩
  | bool b => exact .inr ⟨b, rfl, (of_decide_eq_true (show decide (b2i b = k) = true from h)).symm⟩
  | _ => cases h
theorem nb_int (k : Int) (t : Tok) : nbIs k (.int k t) = true := decide_eq_true rfl
theorem nb_bool (b : Bool) : nbIs (b2i b) (.bool b) = true := decide_eq_true rfl
theorem beq_dec (a b : Int) : (a == b) = decide (a = b) := by
  by_cases e : a = b
  · subst e; simp
  · rw [decide_eq_false e]
    exact beq_eq_false_iff_ne.mpr e
theorem bool_dec (a b : Bool) : (a == b) = decide (b2i a = b2i b) := by
  cases a <;> cases b <;> rfl
theorem nb_hash {prog : Program} {w : World} {A : Around} {E : Value → Shared → Prop} {s : Shared} {Q : Int → Shared → Prop} (b : Bool) (h : Q (hashInt (b2i b)) { s with toks := s.toks + 1 }) : wpAny (model prog w) A (PySem.pyHash (.bool b)) Q E s := by
  refine PySem.W.pyHash_slot (T := "bool") rfl F.slot_bool_hash entry_int_hash (args_int_hash _) (beq_builtin_none _) (.inl rfl) ?_
  cases b
  · exact (show wpAny _ _ (do ret (← mkInt 0)) _ _ s from wpAny_bind (wpAny_mkInt (wpAny_pure ⟨_, _, rfl, h⟩)))
  · exact (show wpAny _ _ (do ret (← mkInt 1)) _ _ s from wpAny_bind (wpAny_mkInt (wpAny_pure ⟨_, _, rfl, h⟩)))
def nbKind (prog : Program) (w : World) : PySem.KeyKind prog w Int where
  is := nbIs
  hash := hashInt
  inj := fun v a b ha hb => by
    rcases nbIs_shape ha with ⟨t, rfl⟩ | ⟨x, rfl, rfl⟩
    · rcases nbIs_shape hb with ⟨u, e⟩ | ⟨y, e, _⟩
      · injection e with e1 _
      · exact nomatch e
    · rcases nbIs_shape hb with ⟨u, e⟩ | ⟨y, e, rfl⟩
      · exact nomatch e
      · injection e with e1; rw [e1]
  byValue := fun k v h => by
    rcases nbIs_shape h with ⟨t, rfl⟩ | ⟨x, rfl, rfl⟩ <;> rfl
  pyHash := fun hv h => by
    rcases nbIs_shape hv with ⟨t, rfl⟩ | ⟨x, rfl, rfl⟩
    · exact wpAny_pyHash_int h
    · exact nb_hash x h
  eqBool := fun {A E s a b u v Q} hu hv h => by
    rcases nbIs_shape hu with ⟨t, rfl⟩ | ⟨x, rfl, rfl⟩
    · rcases nbIs_shape hv with ⟨t2, rfl⟩ | ⟨y, rfl, rfl⟩
      · refine SeqAt.EqAt.int_int _ t _ t2 _ _ _ _ ?_
        rw [beq_dec]; exact h
      · refine SeqAt.EqAt.int_bool _ t y _ _ _ _ ?_
        rw [beq_dec]; exact h
    · rcases nbIs_shape hv with ⟨t2, rfl⟩ | ⟨y, rfl, rfl⟩
      · refine SeqAt.EqAt.bool_int x _ t2 _ _ _ _ ?_
        rw [beq_dec]; exact h
      · refine SeqAt.EqAt.bool_bool x y _ _ _ _ ?_
        rw [bool_dec]; exact h
  «strs» := fun k x t v h => by cases h
abbrev BKey := Nat × Nat × Bool
def bkI (k : BKey) : List Int := [(k.1 : Int), (k.2.1 : Int), b2i k.2.2]
def bkV (k : BKey) : List V := [.int k.1, .int k.2.1, .bl k.2.2]
theorem bk_inj {k m : BKey} (h : bkI k = bkI m) : k = m := by
  obtain ⟨a, b, c⟩ := k
  obtain ⟨x, y, z⟩ := m
  unfold bkI at h
  injection h with h1 h2
  injection h2 with h2 h3
  injection h3 with h3 _
  have e1 : a = x := Int.ofNat.inj h1
  have e2 : b = y := Int.ofNat.inj h2
  have e3 : c = z := by
    have h3 : b2i c = b2i z := h3
    cases c <;> cases z <;> first | rfl | exact absurd h3 (by decide)
  rw [e1, e2, e3]
abbrev KB : List (BKey × Addr × V) → List (List Int × Addr × Value) → Prop := Paired fun p q => bkI p.1 = q.1 ∧ p.2.1 = q.2.1 ∧ RelV p.2.2 q.2.2
def valB (kvs : List (BKey × Addr × V)) (k : BKey) : Option V := (kvs.find? fun x => decide (x.1 = k)).map (·.2.2)
theorem KB.val {kvs : List (BKey × Addr × V)} {xs : List (List Int × Addr × Value)} (r : KB kvs xs) (k : BKey) : RelO (valB kvs k) ((atKey xs (bkI k)).map (·.2)) := by
  induction r with
  | nil => exact True.intro
  | @cons p q ps qs h t ih =>
    obtain ⟨h1, _, h2⟩ := h
    unfold valB atKey at ih ⊢
    by_cases e : p.1 = k
    · have e' : q.1 = bkI k := by rw [← h1, e]
      rw [List.find?_cons_of_pos (by exact decide_eq_true e), List.find?_cons_of_pos (by exact decide_eq_true e')]
      exact h2
    · have e' : ¬ q.1 = bkI k := fun z => e (bk_inj (h1.trans z))
      rw [List.find?_cons_of_neg (by rw [decide_eq_false e]; exact Bool.false_ne_true), List.find?_cons_of_neg (by rw [decide_eq_false e']; exact Bool.false_ne_true)]
      exact ih
theorem valB_snoc {kvs : List (BKey × Addr × V)} {k m : BKey} {b : Addr} {v : V} (h : valB kvs k = none) : valB (kvs ++ [(k, b, v)]) m = if m = k then some v else valB kvs m := by
  unfold valB at h ⊢
  rw [List.find?_append]
  by_cases e : m = k
  · subst e
    rw [if_pos rfl]
    have : (kvs.find? fun x => decide (x.1 = m)) = none := Option.map_eq_none_iff.mp h
    rw [this]
    simp
  · rw [if_neg e]
    have : ([(k, b, v)].find? fun x : BKey × Addr × V => decide (x.1 = m)) = none := by
      rw [List.find?_cons_of_neg (by rw [decide_eq_false (fun z => e z.symm)]; exact Bool.false_ne_true)]
      rfl
    rw [this, Option.or_none]
def dBok (P : Program) (w : World) (a : Addr) (kvs : List (BKey × Addr × V)) (h : Heap) : Prop := kvs.length ≤ sizeLine ∧ (a == sysModules) = false ∧ ∃ xs, KB kvs xs ∧
  ∃ o es ep, h.get? a = some o ∧ o.ExactDict ∧ o.data = .dict es ep ∧ es.toList = xs.map (entryOfKey (tupleKind (nbKind P w))) ∧ (xs.map (·.1)).Nodup
def dB (P : Program) (w : World) (a : Addr) (kvs : List (BKey × Addr × V)) : HO := .ext (dBok P w a kvs)
structure DB (P : Program) (w : World) (H : Hp) (a : Addr) (kvs : List (BKey × Addr × V)) : Prop where
  at_ : H a = some (dB P w a kvs)
  keys : ∀ x ∈ kvs, H x.2.1 = some (.tup (bkV x.1))
theorem DB.same {P : Program} {w : World} {H H' : Hp} {a : Addr} {kvs : List (BKey × Addr × V)} (h : DB P w H a kvs) (s : Same H H') : DB P w H' a kvs := ⟨s _ _ h.at_, fun x hx => s _ _ (h.keys x hx)⟩
theorem dB_objOk {P : Program} {w : World} {H : Hp} {h : Heap} {a : Addr} {kvs : List (BKey × Addr × V)} (x : dBok P w a kvs h) : ObjOk P w H h a (dB P w a kvs) := by
  refine ⟨x, ?_, fun h1 h2 y k => ?_⟩
  · obtain ⟨_, _, _, _, o, _, _, e, _⟩ := x
    exact ⟨o, e⟩
  · obtain ⟨z, yy, xs, r, o, es, ep, e, c⟩ := y
    exact ⟨z, yy, xs, r, o, es, ep, k _ e, c⟩
section
variable {X : Cx} {pins : List (Addr × Obj)} {σ : St} {H : Hp} {s : Shared} {a b : Addr} {kvs : List (BKey × Addr × V)} {k : BKey} {A : Around} {E : Value → Shared → Prop}
theorem keyB_of {P : Program} {w : World} {h : Heap} (ok : HOk P w H h) (e : H b = some (.tup (bkV k))) : (tupleKind (nbKind P w)).is h (bkI k) b := by
  obtain ⟨_, its, r, o, h1, h2, n, h3⟩ := (show ObjOk P w H h b (.tup (bkV k)) from ok b _ e)
  refine ⟨o, its.toArray, n, h1, h2, h3, ?_⟩
  unfold bkV at r
  cases r with
  | cons r1 r =>
    cases r with
    | cons r2 r =>
      cases r with
      | cons r3 r =>
        cases r
        obtain ⟨t1, rfl⟩ := r1
        obtain ⟨t2, rfl⟩ := r2
        cases r3
        exact .cons (nb_int _ t1) (.cons (nb_int _ t2) (.cons (nb_bool _) .nil))
theorem DB.rd {P : Program} {w : World} {h : Heap} (ok : HOk P w H h) (d : DB P w H a kvs) : kvs.length ≤ sizeLine ∧ (a == sysModules) = false ∧ ∃ xs, KB kvs xs ∧ h.DictOfH (tupleKind (nbKind P w)) a xs := by
  obtain ⟨⟨z, y, xs, r, o, es, ep, h1, h2, h3, h4, h5⟩, _⟩ := (show ObjOk P w H h a (dB P w a kvs) from ok a _ d.at_)
  refine ⟨z, y, xs, r, o, es, ep, h1, h2, h3, h4, fun x hx => ?_, h5⟩
  have all : ∀ {l : List (BKey × Addr × V)} {m : List (List Int × Addr × Value)}, KB l m → (∀ x ∈ l, H x.2.1 = some (.tup (bkV x.1))) → ∀ x ∈ m, (tupleKind (nbKind P w)).is h x.1 x.2.1 := by
    intro l m q
    induction q with
    | nil => intro _ x hx; exact nomatch hx
    | @cons p q ps qs hq t ih =>
      intro hl x hx
      rcases List.mem_cons.mp hx with e | hx
      · subst e
        rw [← hq.1, ← hq.2.1]
        exact keyB_of ok (hl p List.mem_cons_self)
      · exact ih (fun y hy => hl y (List.mem_cons_of_mem _ hy)) x hx
  exact all r d.keys x hx
theorem dB_getItem {v : V} {Q : Value → Shared → Prop} (hu : A.units + 1 < cLine) (I : Inv X pins σ H s) (d : DB X.prog X.w H a kvs) (eb : H b = some (.tup (bkV k))) (l : valB kvs k = some v) (h : ∀ w' s', Inv X pins σ H s' → RelV v w' → Q w' s') :
    wpAny (model X.prog X.w) A (getItem (.ref a) (.ref b)) Q E s := by
  obtain ⟨z, hd, xs, rel, dd⟩ := d.rd I.hok
  obtain ⟨w', hw, rw'⟩ := RelO.some_of (v := v) (o := (atKey xs (bkI k)).map (·.2)) (by rw [← l]; exact rel.val k)
  obtain ⟨p, hp, hp2⟩ := Option.map_eq_some_iff.mp hw
  refine wpAny_getItem_heap (tupleKind_room_in1 hu) (keyB_of I.hok eb) dd hp ?_
  rw [hp2]
  exact h w' _ (I.tok _) rw'
theorem dB_setItem {v : V} {r : Value} {Q : Unit → Shared → Prop} (hu : A.units + 1 < cLine) (I : Inv X pins σ H s) (d : DB X.prog X.w H a kvs) (eb : H b = some (.tup (bkV k))) (l : valB kvs k = none) (hl : kvs.length < sizeLine) (rv : RelV v r)
    (h : ∀ s', Inv X pins σ (upd H a (dB X.prog X.w a (kvs ++ [(k, b, v)]))) s' → Q () s') : wpAny (model X.prog X.w) A (setItem (.ref a) (.ref b) r) Q E s := by
  obtain ⟨z, hd, xs, rel, dd⟩ := d.rd I.hok
  have hz : xs.length ≤ sizeLine := by rw [← Paired.length rel]; exact z
  have hno : atKey xs (bkI k) = none := by
    have := rel.val k
    rw [l] at this
    cases e : atKey xs (bkI k) with
    | none => rfl
    | some p => rw [e] at this; exact this.elim
  refine wpAny_setItem_heap (hsz := hz) (tupleKind_room_in1 hu) (keyB_of I.hok eb) dd fun h' dd' hs => h _ ?_
  rw [storedH_new hno] at dd'
  obtain ⟨q, es, ep, hq, h2, h3, h4, _, h5⟩ := dd'
  refine d_write I (by rw [d.at_]; exact True.intro) hs ⟨q, hq⟩ (dB_objOk ⟨?_, hd, _, Paired.snoc rel ⟨rfl, rfl, rv⟩, q, es, ep, hq, h2, h3, h4, h5⟩)
  rw [List.length_append]
  exact hl
end
theorem DB.put {P : Program} {w : World} {H : Hp} {a b : Addr} {kvs : List (BKey × Addr × V)} {k : BKey} {v : V} (d : DB P w H a kvs) (eb : H b = some (.tup (bkV k))) : DB P w (upd H a (dB P w a (kvs ++ [(k, b, v)]))) a (kvs ++ [(k, b, v)]) := by
  have ne : ∀ {t : Addr} {ys : List V}, H t = some (.tup ys) → t ≠ a := fun ht => ne_of ht d.at_ (fun z => by cases z)
  refine ⟨upd_same, fun x hx => ?_⟩
  rcases List.mem_append.mp hx with h | h
  · rw [upd_ne (ne (d.keys x h))]
    exact d.keys x h
  · rw [List.mem_singleton.mp h, upd_ne (ne eb)]
    exact eb
def tDGetB (P : Program) (w : World) (td ty : TE) : TE := fun σ H Q => td σ H fun x H1 => ty σ H1 fun y H2 => ∃ a b kvs k v, x = .ref a ∧ y = .ref b ∧ DB P w H2 a kvs ∧ H2 b = some (.tup (bkV k)) ∧ valB kvs k = some v ∧ Q v H2
def sDPutB (P : Program) (w : World) (td ty tv : TE) : TS := fun D σ H => tv σ H fun v H1 => td σ H1 fun x H2 => ty σ H2 fun y H3 => ∃ a b kvs k, x = .ref a ∧ y = .ref b ∧ DB P w H3 a kvs ∧ H3 b = some (.tup (bkV k)) ∧ valB kvs k = none ∧ kvs.length < sizeLine ∧ D.nx σ (upd H3 a (dB P w a (kvs ++ [(k, b, v)])))
def tDNewB (P : Program) (w : World) : TE := fun _ H Q => ∀ p, H p = none → Q (.ref p) (upd H p (dB P w p []))
section
variable {X : Cx} {o i e value : Expr} {pos pos' tpos : Pos} {td ty tv : TE}
theorem pe_dgetB0 (hu : X.A.units + 1 < cLine) (ho : PE X o td) (hi : PE X i ty) (hs : NoSl i) : PE X (.Subscript o i pos) (tDGetB X.prog X.w td ty) := by
  intro pins s σ H Q I h
  refine subD_of PySem.F.slot_dict_getitem.lookup hs (thn (ho pins s σ H _ I h) fun u s1 ⟨x, H1, I1, rx, q1⟩ => thn (hi pins s1 σ H1 _ I1 q1) fun iv s2 ⟨y, H2, I2, ry, a, b, kvs, k, v, ex, ey, d, eb, l, q2⟩ => ?_)
  subst ex ey
  obtain rfl : u = Value.ref a := rx
  obtain rfl : iv = Value.ref b := ry
  obtain ⟨_, _, _, _, dd⟩ := d.rd I2.hok
  exact ⟨dd.typeIs, dB_getItem hu I2 d eb l fun w' s3 I3 rw' => ⟨v, H2, I3, rw', q2⟩⟩
theorem ps_dputB0 (hu : X.A.units + 1 < cLine) (ho : PE X o td) (hi : PE X i ty) (hv : PE X value tv) (hs : swapsWith value (some (.Subscript o i pos')) pos.line X.env = pure false) :
    PS X (.Assign [.Subscript o i pos'] value pos) (sDPutB X.prog X.w td ty tv) := by
  intro pins s σ H D I h
  refine wpAny_Assign_Subscript (thn (hv pins s σ H _ I h) fun r s1 ⟨v, H1, I1, rv, q1⟩ => thn (ho pins s1 σ H1 _ I1 q1) fun u s2 ⟨x, H2, I2, rx, q2⟩ => thn (hi pins s2 σ H2 _ I2 q2) fun iv s3 ⟨y, H3, I3, ry, a, b, kvs, k, ex, ey, d, eb, l, hl, q3⟩ => ?_) hs
  subst ex ey
  obtain rfl : u = Value.ref a := rx
  obtain rfl : iv = Value.ref b := ry
  exact dB_setItem hu I3 d eb l hl rv fun s4 I4 => ⟨σ, _, I4, q3⟩
theorem pe_dnewB0 : PE X (.Dict [] [] pos) (tDNewB X.prog X.w) := fun pins s σ H Q I h =>
  wpAny_Dict_empty ⟨.ref s.heap.objs.size, _, I.laid (a := s.heap.objs.size) (o := dB X.prog X.w s.heap.objs.size []) (t' := s.toks) (fun _ _ q => Heap.get?_push_of_some _ q) (Nat.le_refl _) (dB_objOk ⟨Nat.zero_le _, beq_eq_false_iff_ne.mpr (Ne.symm (Nat.ne_of_lt I.big)), [], .nil, _, #[], 0, Heap.get?_push_size _ rfl, ⟨rfl, rfl, rfl⟩, rfl, rfl, List.nodup_nil⟩), rfl, h _ (I.hok.fresh (Nat.le_refl _))⟩
variable (P : Program) (w : World) (hP : X.prog = P) (hw : X.w = w)
include hP hw
theorem pe_dgetB (hu : X.A.units + 1 < cLine) (ho : PE X o td) (hi : PE X i ty) (hs : NoSl i) : PE X (.Subscript o i pos) (tDGetB P w td ty) := by subst hP hw; exact pe_dgetB0 hu ho hi hs
theorem ps_dputB (hu : X.A.units + 1 < cLine) (ho : PE X o td) (hi : PE X i ty) (hv : PE X value tv) (hs : swapsWith value (some (.Subscript o i pos')) pos.line X.env = pure false) :
    PS X (.Assign [.Subscript o i pos'] value pos) (sDPutB P w td ty tv) := by subst hP hw; exact ps_dputB0 hu ho hi hv hs
theorem pe_dnewB : PE X (.Dict [] [] pos) (tDNewB P w) := by subst hP hw; exact pe_dnewB0
end
theorem DB.nil {P : Program} {w : World} {H : Hp} {p : Addr} : DB P w (upd H p (dB P w p [])) p [] := ⟨upd_same, fun x hx => nomatch hx⟩
end L2
namespace L2
open PySem
/-- behind a statement the rest and the names are lets: the proofs' terms stay small -/
theorem hideSeq {t u : TS} {D : Ends} {σ : St} {H : Hp} (h : let D' : Ends := { D with nx := u D }; t D' σ H) : tSeq t u D σ H := h
theorem hideAll {t u : TS} {D : Ends} {σ : St} {H : Hp} (h : let D' : Ends := { D with nx := u D }; let σ' : St := σ; t D' σ' H) : tSeq t u D σ H := h
theorem exE {α β : Type} {f : β} {g : α → β} {P : α → Prop} {w : α} (e : f = g w) (h : P w) : ∃ v, f = g v ∧ P v := ⟨w, e, h⟩
theorem gNameH {i : Nat} {v : V} {σ : St} {H : Hp} {Q : St → Hp → Prop} (h : Q (σ.set i (some v)) H) : gName i v σ H Q := h
end L2
namespace Lw
open PySem L2
set_option maxHeartbeats 4000000
section

def top (i : Nat) : Stmt := PySem.Challenge.pw_linecaster_k25_whole_none_cheaper.main.body.getD i (.Pass ⟨0, 0, 0, 0⟩)
abbrev s_channel_of : Stmt := top 4
theorem sc_channel_of : FnScope ["case", "sign", "number", "channel"] ["case", "sign"] (defScope s_channel_of) := ⟨rfl, rfl, rfl, by decide +kernel, rfl, by decide +kernel, by decide +kernel⟩
abbrev s_width_of : Stmt := top 5
theorem sc_width_of : FnScope ["case", "word"] ["case", "word"] (defScope s_width_of) := ⟨rfl, rfl, rfl, by decide +kernel, rfl, by decide +kernel, by decide +kernel⟩
abbrev s_body_of : Stmt := top 7
theorem sc_body_of : FnScope ["case", "line"] ["case", "line"] (defScope s_body_of) := ⟨rfl, rfl, rfl, by decide +kernel, rfl, by decide +kernel, by decide +kernel⟩
abbrev s_misfit : Stmt := top 8
theorem sc_misfit : FnScope ["spare", "many", "gaps", "low", "ideal", "high"] ["spare", "many", "gaps"] (defScope s_misfit) := ⟨rfl, rfl, rfl, by decide +kernel, rfl, by decide +kernel, by decide +kernel⟩
abbrev s_cost_of : Stmt := top 10
theorem sc_cost_of : FnScope ["spare", "many", "gaps", "last", "low", "ideal", "high", "off"] ["spare", "many", "gaps", "last"] (defScope s_cost_of) := ⟨rfl, rfl, rfl, by decide +kernel, rfl, by decide +kernel, by decide +kernel⟩
abbrev s_line_cost : Stmt := top 11
theorem sc_line_cost : FnScope ["case", "line", "measure", "gaps", "last"] ["case", "line", "measure", "gaps", "last"] (defScope s_line_cost) := ⟨rfl, rfl, rfl, by decide +kernel, rfl, by decide +kernel, by decide +kernel⟩
abbrev s_costs_of : Stmt := top 12
theorem sc_costs_of : FnScope ["case", "words", "measure", "gaps", "widths", "costs", "start", "spare", "end", "cost"] ["case", "words", "measure", "gaps"] (defScope s_costs_of) := ⟨rfl, rfl, rfl, by decide +kernel, rfl, by decide +kernel, by decide +kernel⟩
abbrev s_can_follow : Stmt := top 13
theorem sc_can_follow : FnScope ["costs", "table", "start", "end"] ["costs", "table", "start", "end"] (defScope s_can_follow) := ⟨rfl, rfl, rfl, by decide +kernel, rfl, by decide +kernel, by decide +kernel⟩
abbrev s_choices : Stmt := top 14
theorem sc_choices : FnScope ["costs", "table", "start", "ends"] ["costs", "table", "start"] (defScope s_choices) := ⟨rfl, rfl, rfl, by decide +kernel, rfl, by decide +kernel, by decide +kernel⟩
abbrev s_table_of : Stmt := top 15
theorem sc_table_of : FnScope ["costs", "many", "table", "start"] ["costs", "many"] (defScope s_table_of) := ⟨rfl, rfl, rfl, by decide +kernel, rfl, by decide +kernel, by decide +kernel⟩
abbrev s_most_in_full_lines : Stmt := top 16
theorem sc_most_in_full_lines : FnScope ["costs", "many", "reached", "end"] ["costs", "many"] (defScope s_most_in_full_lines) := ⟨rfl, rfl, rfl, by decide +kernel, rfl, by decide +kernel, by decide +kernel⟩
abbrev s_breaks_of : Stmt := top 17
theorem sc_breaks_of : FnScope ["case", "words", "measure", "gaps", "costs", "table", "breaks", "at"] ["case", "words", "measure", "gaps"] (defScope s_breaks_of) := ⟨rfl, rfl, rfl, by decide +kernel, rfl, by decide +kernel, by decide +kernel⟩
abbrev s_break_table : Stmt := top 18
theorem sc_break_table : FnScope ["case", "words", "measure", "gaps"] ["case", "words", "measure", "gaps"] (defScope s_break_table) := ⟨rfl, rfl, rfl, by decide +kernel, rfl, by decide +kernel, by decide +kernel⟩
abbrev s_law_cell : Stmt := top 20
theorem sc_law_cell : FnScope ["_law_script", "_law_k"] ["_law_script", "_law_k"] (defScope s_law_cell) := ⟨rfl, rfl, rfl, by decide +kernel, rfl, by decide +kernel, by decide +kernel⟩
abbrev s_law_stream : Stmt := top 21
theorem sc_law_stream : FnScope ["_law_cell_here", "_law_many", "_law_number", "_law_found", "_law_k"] ["_law_cell_here", "_law_many"] (defScope s_law_stream) := ⟨rfl, rfl, rfl, by decide +kernel, rfl, by decide +kernel, by decide +kernel⟩
abbrev s_law_case : Stmt := top 22
theorem sc_law_case : FnScope ["_law_cell_here", "_law_some", "_law_widths_here"] ["_law_cell_here"] (defScope s_law_case) := ⟨rfl, rfl, rfl, by decide +kernel, rfl, by decide +kernel, by decide +kernel⟩
abbrev s_law_words : Stmt := top 23
theorem sc_law_words : FnScope ["_law_cells", "_law_words_here", "_law_cell_here", "_law_some", "_law_word", "_law_k"] ["_law_cells"] (defScope s_law_words) := ⟨rfl, rfl, rfl, by decide +kernel, rfl, by decide +kernel, by decide +kernel⟩
abbrev s_law_widths : Stmt := top 24
theorem sc_law_widths : FnScope ["_law_case_here", "_law_words_here", "_law_width", "_law_sign", "_law_wide", "_law_teeth", "_law_many"] ["_law_case_here", "_law_words_here"] (defScope s_law_widths) := ⟨rfl, rfl, rfl, by decide +kernel, rfl, by decide +kernel, by decide +kernel⟩
abbrev s_law_drawn : Stmt := top 25
theorem sc_law_drawn : FnScope ["_law_script", "_law_most", "_law_case_here", "_law_words_here", "_law_widths_here", "_law_some", "_law_low", "_law_ideal", "_law_gaps", "_law_many", "_law_at", "_law_near", "_law_measure"] ["_law_script", "_law_most"] (defScope s_law_drawn) := ⟨rfl, rfl, rfl, by decide +kernel, rfl, by decide +kernel, by decide +kernel⟩
abbrev s_law_ways : Stmt := top 26
theorem sc_law_ways : FnScope ["_law_many", "_law_found", "_law_k"] ["_law_many"] (defScope s_law_ways) := ⟨rfl, rfl, rfl, by decide +kernel, rfl, by decide +kernel, by decide +kernel⟩
abbrev s_law_costs : Stmt := top 27
theorem sc_law_costs : FnScope ["_law_case_here", "_law_words_here", "_law_measure", "_law_gaps", "_law_costs_here", "_law_start", "_law_end", "_law_line"] ["_law_case_here", "_law_words_here", "_law_measure", "_law_gaps"] (defScope s_law_costs) := ⟨rfl, rfl, rfl, by decide +kernel, rfl, by decide +kernel, by decide +kernel⟩
abbrev s_law_whole : Stmt := top 28
theorem sc_law_whole : FnScope ["_law_costs_here", "_law_way", "_law_total", "_law_start", "_law_end", "_law_cost"] ["_law_costs_here", "_law_way"] (defScope s_law_whole) := ⟨rfl, rfl, rfl, by decide +kernel, rfl, by decide +kernel, by decide +kernel⟩
abbrev s_law_front : Stmt := top 29
theorem sc_law_front : FnScope ["_law_costs_here", "_law_way", "_law_start", "_law_end"] ["_law_costs_here", "_law_way"] (defScope s_law_front) := ⟨rfl, rfl, rfl, by decide +kernel, rfl, by decide +kernel, by decide +kernel⟩
abbrev s_law : Stmt := top 30
theorem sc_law : FnScope ["_law_script", "_law_case_here", "_law_words_here", "_law_measure", "_law_gaps", "_law_costs_here", "_law_ways_here", "_law_set_ones", "_law_way", "_law_total", "_law_breaks", "_law_made", "e", "_law_turned"] ["_law_script"] (defScope s_law) := ⟨rfl, rfl, rfl, by decide +kernel, rfl, by decide +kernel, by decide +kernel⟩
abbrev s_init_NoBreak : Stmt := inClass (top 2) 0
theorem sc_init_NoBreak : FnScope ["self", "words"] ["self", "words"] (defScope s_init_NoBreak) := ⟨rfl, rfl, rfl, by decide +kernel, rfl, by decide +kernel, by decide +kernel⟩
set_option genInjectivity false
set_option genSizeOf false
structure Ad where
  f_channel_of : Addr
  d_channel_of : FuncData
  f_width_of : Addr
  d_width_of : FuncData
  f_body_of : Addr
  d_body_of : FuncData
  f_misfit : Addr
  d_misfit : FuncData
  f_cost_of : Addr
  d_cost_of : FuncData
  f_line_cost : Addr
  d_line_cost : FuncData
  f_costs_of : Addr
  d_costs_of : FuncData
  f_can_follow : Addr
  d_can_follow : FuncData
  f_choices : Addr
  d_choices : FuncData
  f_table_of : Addr
  d_table_of : FuncData
  f_most_in_full_lines : Addr
  d_most_in_full_lines : FuncData
  f_breaks_of : Addr
  d_breaks_of : FuncData
  f_break_table : Addr
  d_break_table : FuncData
  f_law_cell : Addr
  d_law_cell : FuncData
  f_law_stream : Addr
  d_law_stream : FuncData
  f_law_case : Addr
  d_law_case : FuncData
  f_law_words : Addr
  d_law_words : FuncData
  f_law_widths : Addr
  d_law_widths : FuncData
  f_law_drawn : Addr
  d_law_drawn : FuncData
  f_law_ways : Addr
  d_law_ways : FuncData
  f_law_costs : Addr
  d_law_costs : FuncData
  f_law_whole : Addr
  d_law_whole : FuncData
  f_law_front : Addr
  d_law_front : FuncData
  f_law : Addr
  d_law : FuncData
  c_CasterError : Addr
  c_NoBreak : Addr
  f_init_NoBreak : Addr
  d_init_NoBreak : FuncData
structure Tx (K : PySem.W.Frag) (mg : Str → Option Value) (a : Ad) : Prop where
  channel_of : D K mg "channel_of" s_channel_of ["case", "sign"] a.f_channel_of a.d_channel_of
  width_of : D K mg "width_of" s_width_of ["case", "word"] a.f_width_of a.d_width_of
  body_of : D K mg "body_of" s_body_of ["case", "line"] a.f_body_of a.d_body_of
  misfit : D K mg "misfit" s_misfit ["spare", "many", "gaps"] a.f_misfit a.d_misfit
  cost_of : D K mg "cost_of" s_cost_of ["spare", "many", "gaps", "last"] a.f_cost_of a.d_cost_of
  line_cost : D K mg "line_cost" s_line_cost ["case", "line", "measure", "gaps", "last"] a.f_line_cost a.d_line_cost
  costs_of : D K mg "costs_of" s_costs_of ["case", "words", "measure", "gaps"] a.f_costs_of a.d_costs_of
  can_follow : D K mg "can_follow" s_can_follow ["costs", "table", "start", "end"] a.f_can_follow a.d_can_follow
  choices : D K mg "choices" s_choices ["costs", "table", "start"] a.f_choices a.d_choices
  table_of : D K mg "table_of" s_table_of ["costs", "many"] a.f_table_of a.d_table_of
  most_in_full_lines : D K mg "most_in_full_lines" s_most_in_full_lines ["costs", "many"] a.f_most_in_full_lines a.d_most_in_full_lines
  breaks_of : D K mg "breaks_of" s_breaks_of ["case", "words", "measure", "gaps"] a.f_breaks_of a.d_breaks_of
  break_table : D K mg "break_table" s_break_table ["case", "words", "measure", "gaps"] a.f_break_table a.d_break_table
  law_cell : D K mg "_law_cell" s_law_cell ["_law_script", "_law_k"] a.f_law_cell a.d_law_cell
  law_stream : D K mg "_law_stream" s_law_stream ["_law_cell_here", "_law_many"] a.f_law_stream a.d_law_stream
  law_case : D K mg "_law_case" s_law_case ["_law_cell_here"] a.f_law_case a.d_law_case
  law_words : D K mg "_law_words" s_law_words ["_law_cells"] a.f_law_words a.d_law_words
  law_widths : D K mg "_law_widths" s_law_widths ["_law_case_here", "_law_words_here"] a.f_law_widths a.d_law_widths
  law_drawn : D K mg "_law_drawn" s_law_drawn ["_law_script", "_law_most"] a.f_law_drawn a.d_law_drawn
  law_ways : D K mg "_law_ways" s_law_ways ["_law_many"] a.f_law_ways a.d_law_ways
  law_costs : D K mg "_law_costs" s_law_costs ["_law_case_here", "_law_words_here", "_law_measure", "_law_gaps"] a.f_law_costs a.d_law_costs
  law_whole : D K mg "_law_whole" s_law_whole ["_law_costs_here", "_law_way"] a.f_law_whole a.d_law_whole
  law_front : D K mg "_law_front" s_law_front ["_law_costs_here", "_law_way"] a.f_law_front a.d_law_front
  law : D K mg "law" s_law ["_law_script"] a.f_law a.d_law
  cl_CasterError : CL K mg "CasterError" a.c_CasterError
  cl_NoBreak : CI K mg "NoBreak" "NoBreak.__init__" s_init_NoBreak ["self", "words"] a.c_NoBreak a.f_init_NoBreak a.d_init_NoBreak "words"
  bi : BI K a.c_CasterError
  m_NoBreak_CasterError : PySem.W.mroIn K a.c_NoBreak (.ref a.c_CasterError) = some true
  m_NoBreak_NoBreak : PySem.W.mroIn K a.c_NoBreak (.ref a.c_NoBreak) = some true
  b_ValueError : mg "ValueError" = none
  b_any : mg "any" = none
  b_enumerate : mg "enumerate" = none
  b_len : mg "len" = none
  b_max : mg "max" = none
  b_min : mg "min" = none
  b_range : mg "range" = none
  b_sum : mg "sum" = none
abbrev lawLevel : Nat := 8
end
end Lw
namespace Lw
open PySem L2
set_option maxHeartbeats 4000000
section
variable {P : Program} {w : World} {K : PySem.W.Frag} {mg : Str → Option Value} {base : Heap} {a : Ad}
local macro_rules | `(tactic| walk_at "hk") => `(tactic| first | assumption | exact upd_same | exact same_new (by assumption) _ _ _ (by walk_at "hk"))
local macro_rules | `(tactic| walk_at "rd1") => `(tactic| first | (with_reducible refine hideSeq ?_; intro Dzz) | with_reducible refine gNameH ?_ | refine ⟨_, rfl, ?_⟩ | refine ⟨_, _, rfl, rfl, ?_⟩ | refine ⟨_, _, _, _, rfl, rfl, SqL.of (by walk_at "hk"), (by assumption), ?_⟩ | refine And.intro rfl ?_ | refine And.intro (Nat.le_of_ble_eq_true rfl) ?_ | refine And.intro (by first | decide | omega) ?_ | refine And.intro ⟨by first | decide | omega, by first | decide | omega⟩ ?_ | refine And.intro (.inl ⟨by first | decide | omega, by first | decide | omega⟩) ?_ | refine And.intro (.inr ⟨by first | decide | omega, by first | decide | omega⟩) ?_ | refine ⟨_, _, rfl, SqT.of (by first | exact upd_same | assumption), rfl, ?_⟩)
local macro_rules | `(tactic| walk_at "rd") => `(tactic| repeat (walk_at "rd1"))
local macro_rules | `(tactic| walk_at "tg") => `(tactic| refine ⟨_, _, rfl, ?_⟩)
theorem ok_init_NoBreak (T : Tx K mg a) : FnOk P w K mg base CX0 1 a.f_init_NoBreak a.d_init_NoBreak ["self", "words"] (sp_init a.c_NoBreak "words") := by
  refine T.cl_NoBreak.fi.ok sc_init_NoBreak (fun vs H Q E h => ?_) (fun cdv A outer s H vs Q E hr h => ?_)
  · obtain ⟨e, i, rfl, _⟩ := h
    rfl
  obtain ⟨e, i, rfl, he, hi, q⟩ := h
  refine ⟨_, (pss_cons (ps_expr (pe_binit T.bi rfl T.cl_CasterError.mg (pa_cons (pv 0) (pa_cons (pe_j3 pe_str (pe_fmt (pv 1)) pe_str) pa_nil)))) (pss_one (ps_xfld (pv 0) (pv 1) rfl))), ?_⟩
  refine ⟨_, rfl, ?_⟩
  refine ⟨_, rfl, by decide, ?_⟩
  refine ⟨_, rfl, ?_⟩
  refine ⟨i, rfl, hi, fun x hx => ?_⟩
  refine ⟨x, rfl, hx, ?_⟩
  refine ⟨_, rfl, by decide, fun y => ?_⟩
  refine ⟨e, a.c_NoBreak, none, some a.f_init_NoBreak, y, rfl, he, T.cl_NoBreak.cls, ?_⟩
  refine ⟨_, rfl, ?_⟩
  refine ⟨_, rfl, ?_⟩
  exact ⟨e, a.c_NoBreak, rfl, he, T.cl_NoBreak.xf, fun dx hdx => q dx hdx⟩
def sp_channel_of (K : PySem.W.Frag) : Sp := fun vs H Q _ => ∃ (l : Addr) (x : Str) (rs : List Cs.Row), vs = [.ref l, .str x] ∧ Cs.CaseAt K H l rs ∧ ∀ H', Same H H' → Q (Mt.optV (Cs.place rs x)) H'
theorem ok_channel_of (T : Tx K mg a) : FnOk P w K mg base CX0 1 a.f_channel_of a.d_channel_of ["case", "sign"] (sp_channel_of K) := by
  refine T.channel_of.fn.ok sc_channel_of (fun vs H Q E h => ?_) (fun cdv A outer s H vs Q E hr h => ?_)
  · obtain ⟨l, x, rs, rfl, _⟩ := h
    rfl
  obtain ⟨l, x, rs, rfl, ⟨xs, hS, hp⟩, q⟩ := h
  refine ⟨_, (pss_cons (ps_for PassesOwn.never rfl (kpi_enum K rfl rfl T.b_enumerate (pa_cons (pv 0) pa_nil)) (kpg_tup K rfl (n := 2) rfl (pgs_cons (pg_name (i := 2) sc_channel_of.nd rfl (Or.inl rfl)) (pgs_cons (pg_name (i := 3) sc_channel_of.nd rfl (Or.inl rfl)) pgs_nil))) (pss_one (ps_if (pt_cmpR op_eq (pe_ix (kix_tup K rfl) (pv 3) pe_int (fun _ _ => rfl)) (pv 1) (nomark _)) (pss_one (ps_ret (pv 2))) pss_nil)))
      (pss_one (ps_ret pe_non))), ?_⟩
  walk_at "rd"
  try refine ⟨⟨_, hS⟩, ?_⟩
  refine for_enum (a := l) (xs := xs) (fun i σ H2 => ∃ (v1 v2 : Option V), σ = [some (.ref l), some (.str x), v1, v2] ∧ Same H H2 ∧ ∀ (j : Nat) r, j < i → rs[j]? = some r → r.s ≠ x)
    ⟨none, none, rfl, Same.refl _, fun j _ h => absurd h (Nat.not_lt_zero _)⟩ (by rintro i σ H2 _ ⟨_, _, _, hs, _⟩; exact hs.seq hS) ?_ ?_
  · rintro i y p σ H2 hy ⟨v1, v2, rfl, hs, hb⟩ hpn
    obtain ⟨r, hri, t, rfl, ht⟩ := Cs.pd_get hp hy
    have hs2 := same_add (o := .tup [.int i, .ref t]) hs hpn
    have ht2 := hs2 _ _ ht
    walk_at "rd"
    walk_at "tg"
    walk_at "tg"
    walk_at "rd"
    refine ⟨t, _, _, _, rfl, rfl, SqT.of ht2, rfl, ?_⟩
    walk_at "rd"
    rw [Cs.strV]
    by_cases e : r.s = x
    · rw [decide_eq_true e]
      refine iteT ?_
      walk_at "rd"
      have := q _ hs2
      rw [Cs.place_some hri e hb] at this
      exact this
    · rw [decide_eq_false e]
      refine iteF ?_
      refine ⟨_, _, rfl, hs2, fun j r' hj hr' => ?_⟩
      by_cases z : j = i
      · subst z
        rw [hri] at hr'
        cases hr'
        exact e
      · exact hb j r' (by omega) hr'
  · rintro σ H2 ⟨v1, v2, rfl, hs, hb⟩
    have := q _ hs
    rw [Cs.place_none (fun j r hj => hb j r (by rw [Cs.rows_len hp]; exact hj))] at this
    exact this
def sp_width_of (K : PySem.W.Frag) : Sp := fun vs H Q _ => ∃ (l : Addr) (x : Str) (rs : List Cs.Row), vs = [.ref l, .str x] ∧ Cs.CaseAt K H l rs ∧ x.length ≤ 1000 ∧ (∀ c ∈ x.cps.toList, (Cs.place rs (sg c)).isSome = true) ∧ ∀ H', Same H H' → Q (.int (Cs.wideOf rs x)) H'
theorem ok_width_of (T : Tx K mg a) : FnOk P w K mg base CX0 2 a.f_width_of a.d_width_of ["case", "word"] (sp_width_of K) := by
  have G_channel_of := ok_channel_of (P := P) (w := w) (base := base) T
  refine T.width_of.fn.ok sc_width_of (fun vs H Q E h => ?_) (fun cdv A outer s H vs Q E hr h => ?_)
  · obtain ⟨l, x, rs, rfl, _⟩ := h
    rfl
  obtain ⟨l, x, rs, rfl, hC, hx, hall, q⟩ := h
  refine ⟨_, (pss_one (ps_ret (pe_callB (ksum K rfl rfl) rfl T.b_sum bt_sum (pa_cons (pe_compG rfl (pi_str (pv 1)) (BlkOk.of (N' := ["case", "word", "sign"]) (ms := []) (k := 1) (by rfl)) (fun _ _ _ _ _ => (pg_name (i := 2) (show List.Nodup (["case", "word", "sign"] : List Str) from by decide +kernel) rfl (Or.inl rfl))) (fun _ _ _ _ _ => pts_nil) (fun _ _ _ _ _ => (pe_ix (kix_tup K rfl) (pe_ix (kix_list K rfl) (pv 0) (pcall T.channel_of G_channel_of hr rfl (pa_cons (pv 0) (pa_cons (pv 2) pa_nil))) (fun _ _ => rfl)) pe_int (fun _ _ => rfl)))) pa_nil)))), ?_⟩
  have hxs : x.cps.size ≤ 1000 := hx
  walk_at "rd"
  intro D hD
  refine comp_str (x := x) (fun i ys σ H2 => ∃ (v2 : Option V), ys = ((x.cps.toList.take i).map fun c => Cs.wideAt rs (sg c)).map V.int ∧ σ = [some (.ref l), some (.str x), v2] ∧ Same H H2 ∧ H2 D = some (.lst ys))
    ?_ ?_ ?_
  · exact ⟨none, rfl, rfl, same_new hD _, upd_same⟩
  · rintro i c ys σ H2 hc hil ⟨v2, rfl, rfl, hs, hh⟩
    have hc' : x.cps.toList[i]? = some c := by simpa using hc
    obtain ⟨k, hk⟩ := Option.isSome_iff_exists.mp (hall c (List.mem_of_getElem? hc'))
    walk_at "rd"
    refine ⟨l, sg c, rs, rfl, hC.same hs, fun H3 hs3 => ?_⟩
    rw [hk]
    obtain ⟨xs, hS, hp⟩ := hC.same (hs.trans hs3)
    have hkl := Cs.place_spec hk
    obtain ⟨y, hy, t, et, ht⟩ := Cs.pd_back hp (List.getElem?_eq_getElem hkl)
    have hat : atI xs (k : Int) = some (.ref t) := by rw [← et]; exact atI_nat hy
    refine ⟨l, _, _, _, rfl, rfl, hS, hat, ?_⟩
    walk_at "rd"
    refine ⟨t, _, _, _, rfl, rfl, SqT.of ht, rfl, ?_⟩
    refine cnext hil (hs3 _ _ hh) ?_ ⟨_, ?_, rfl, same_upd (hs.trans hs3) hD, upd_same⟩
    · rw [List.length_map, List.length_map, List.length_take]
      omega
    · rw [List.take_add_one, hc', List.map_append, List.map_append]
      show _ = _ ++ [V.int (Cs.wideAt rs (sg c))]
      rw [Cs.wideAt_eq hk hkl]
  · rintro ys σ H2 ⟨v2, rfl, rfl, hs, hh⟩
    rw [List.take_of_length_le (by simp)] at hh
    refine ⟨D, _, rfl, SqL.of hh, ?_⟩
    exact q _ hs
def sp_body_of (K : PySem.W.Frag) : Sp := fun vs H Q _ => ∃ (l p : Addr) (rs : List Cs.Row) (ws : List Str), vs = [.ref l, .ref p] ∧ Cs.CaseAt K H l rs ∧ SqL K H p (ws.map V.str) ∧ ws.length ≤ 1000 ∧ (∀ x ∈ ws, x.length ≤ 1000 ∧ ∀ c ∈ x.cps.toList, (Cs.place rs (sg c)).isSome = true) ∧ ∀ H', Same H H' → Q (.int (Cs.bodyOf rs ws)) H'
theorem ok_body_of (T : Tx K mg a) : FnOk P w K mg base CX0 3 a.f_body_of a.d_body_of ["case", "line"] (sp_body_of K) := by
  have G_width_of := ok_width_of (P := P) (w := w) (base := base) T
  refine T.body_of.fn.ok sc_body_of (fun vs H Q E h => ?_) (fun cdv A outer s H vs Q E hr h => ?_)
  · obtain ⟨l, p, rs, ws, rfl, _⟩ := h
    rfl
  obtain ⟨l, p, rs, ws, rfl, hC, hL, hwl, hw, q⟩ := h
  refine ⟨_, (pss_one (ps_ret (pe_callB (ksum K rfl rfl) rfl T.b_sum bt_sum (pa_cons (pe_compG rfl (kpi_list K rfl (pv 1)) (BlkOk.of (N' := ["case", "line", "word"]) (ms := []) (k := 1) (by rfl)) (fun _ _ _ _ _ => (pg_name (i := 2) (show List.Nodup (["case", "line", "word"] : List Str) from by decide +kernel) rfl (Or.inl rfl))) (fun _ _ _ _ _ => pts_nil) (fun _ _ _ _ _ => (pcall T.width_of G_width_of hr rfl (pa_cons (pv 0) (pa_cons (pv 2) pa_nil))))) pa_nil)))), ?_⟩
  walk_at "rd"
  try refine ⟨⟨_, hL⟩, ?_⟩
  intro D hD
  refine comp_list (a := p) (xs := ws.map V.str) (fun i ys σ H2 => ∃ (v2 : Option V), ys = ((ws.take i).map fun x => Cs.wideOf rs x).map V.int ∧ σ = [some (.ref l), some (.ref p), v2] ∧ Same H H2 ∧ H2 D = some (.lst ys))
    ?_ ?_ ?_ ?_
  · exact ⟨none, rfl, rfl, same_new hD _, upd_same⟩
  · exact fun i ys σ H2 _ ⟨_, _, _, hs, _⟩ => hs.seq hL
  · rintro i y ys σ H2 hy hil ⟨v2, rfl, rfl, hs, hh⟩
    obtain ⟨x, rfl, hxi⟩ := map_str_get hy
    obtain ⟨h1, h2⟩ := hw x (List.mem_of_getElem? hxi)
    walk_at "rd"
    refine ⟨l, x, rs, rfl, hC.same hs, h1, h2, fun H3 hs3 => ?_⟩
    refine cnext hil (hs3 _ _ hh) ?_ ⟨_, ?_, rfl, same_upd (hs.trans hs3) hD, upd_same⟩
    · rw [List.length_map, List.length_map, List.length_take]
      omega
    · rw [List.take_add_one, hxi, List.map_append, List.map_append]
      rfl
  · rintro ys σ H2 ⟨v2, rfl, rfl, hs, hh⟩
    rw [List.length_map, List.take_of_length_le (Nat.le_refl _)] at hh
    refine ⟨D, _, rfl, SqL.of hh, ?_⟩
    exact q _ hs
def sp_misfit : Sp := fun vs H Q _ => ∃ (sp m lo ideal hi : Int) (g : Addr), vs = [.int sp, .int m, .ref g] ∧ H g = some (.tup [.int lo, .int ideal, .int hi]) ∧ 0 ≤ m ∧ m ≤ 1000 ∧ Q (.int (Ln.misfit sp m lo hi)) H
theorem ok_misfit (T : Tx K mg a) : FnOk P w K mg base CX0 1 a.f_misfit a.d_misfit ["spare", "many", "gaps"] sp_misfit := by
  refine T.misfit.fn.ok sc_misfit (fun vs H Q E h => ?_) (fun cdv A outer s H vs Q E hr h => ?_)
  · obtain ⟨sp, m, lo, ideal, hi, g, rfl, _⟩ := h
    rfl
  obtain ⟨sp, m, lo, ideal, hi, g, rfl, hG, hm0, hm1, q⟩ := h
  unfold Ln.misfit at q
  refine ⟨_, (pss_cons (ps_asg (pv 2) (kpg_tup K rfl (n := 3) rfl (pgs_cons (pg_name (i := 3) sc_misfit.nd rfl (Or.inl rfl)) (pgs_cons (pg_name (i := 4) sc_misfit.nd rfl (Or.inl rfl)) (pgs_cons (pg_name (i := 5) sc_misfit.nd rfl (Or.inl rfl)) pgs_nil)))))
      (pss_cons (ps_if (pt_cmpR op_gt (pv 0) (pe_op op_mul (pv 1) (pv 5)) (nomark _)) (pss_one (ps_ret (pe_op op_sub (pv 0) (pe_op op_mul (pv 1) (pv 5))))) pss_nil)
      (pss_one (ps_ret (pe_callB (call_min2 rfl) rfl T.b_min bt_min (pa_cons (pe_op op_sub (pv 0) (pe_op op_mul (pv 1) (pv 3))) (pa_cons pe_int pa_nil))))))), ?_⟩
  walk_at "rd"
  try refine ⟨_, _, rfl, SqT.of hG, rfl, ?_⟩
  walk_at "tg"
  walk_at "tg"
  walk_at "tg"
  walk_at "rd"
  refine ite2 (fun c => ?_) (fun c => ?_)
  · rw [if_pos (of_decide_eq_true c)] at q
    walk_at "rd"
    exact q
  · rw [if_neg (fun z => c (decide_eq_true z))] at q
    walk_at "rd"
    exact ⟨_, _, rfl, q⟩
def sp_cost_of : Sp := fun vs H Q _ => ∃ (sp m lo ideal hi : Int) (g : Addr) (last : Bool), vs = [.int sp, .int m, .ref g, .bl last] ∧ H g = some (.tup [.int lo, .int ideal, .int hi]) ∧ 0 ≤ m ∧ m ≤ 1000 ∧ -1000000000 ≤ sp ∧ sp ≤ 1000000000 ∧ 0 ≤ ideal ∧ ideal ≤ 1000 ∧ ∀ H', Same H H' → Q (Mt.optI (Ln.cost sp m lo ideal hi last)) H'
theorem ok_cost_of (T : Tx K mg a) : FnOk P w K mg base CX0 2 a.f_cost_of a.d_cost_of ["spare", "many", "gaps", "last"] sp_cost_of := by
  have G_misfit := ok_misfit (P := P) (w := w) (base := base) T
  refine T.cost_of.fn.ok sc_cost_of (fun vs H Q E h => ?_) (fun cdv A outer s H vs Q E hr h => ?_)
  · obtain ⟨sp, m, lo, ideal, hi, g, last, rfl, _⟩ := h
    rfl
  obtain ⟨sp, m, lo, ideal, hi, g, last, rfl, hG, hm0, hm1, hs0, hs1, hi0, hi1, q⟩ := h
  obtain ⟨hb0, hb1⟩ := Ln.mul_le' hm0 hm1 hi0 hi1
  refine ⟨_, (pss_cons (ps_asg (pv 2) (kpg_tup K rfl (n := 3) rfl (pgs_cons (pg_name (i := 4) sc_cost_of.nd rfl (Or.inl rfl)) (pgs_cons (pg_name (i := 5) sc_cost_of.nd rfl (Or.inl rfl)) (pgs_cons (pg_name (i := 6) sc_cost_of.nd rfl (Or.inl rfl)) pgs_nil)))))
      (pss_cons (ps_set (i := 7) sc_cost_of.nd rfl (Or.inl rfl) (pe_op op_sub (pv 0) (pe_op op_mul (pv 1) (pv 5))))
      (pss_cons (ps_if (PW.pt (pw_and (pt_val (pv 3)) (pw_and1 (pt_cmpR op_ge (pv 7) pe_int (nomark _))))) (pss_one (ps_ret pe_int)) pss_nil)
      (pss_one (ps_ret (pe_ifExp (pt_cmpR op_eq (pcall T.misfit G_misfit hr rfl (pa_cons (pv 0) (pa_cons (pv 1) (pa_cons (pv 2) pa_nil)))) pe_int (nomark _)) (pe_op op_mul (pv 7) (pv 7)) pe_non)))))), ?_⟩
  walk_at "rd"
  try refine ⟨_, _, rfl, SqT.of hG, rfl, ?_⟩
  walk_at "tg"
  walk_at "tg"
  walk_at "tg"
  have rest : ∀ Q' : V → Hp → Prop, (∀ H', Same H H' → Q' (Mt.optI (Ln.cost sp m lo ideal hi last)) H') → ¬ (last = true ∧ 0 ≤ sp - m * ideal) →
      (if Ln.misfit sp m lo hi = 0 then Q' (.int ((sp - m * ideal) * (sp - m * ideal))) H else Q' .non H) := fun Q' q' hn => by
    have q2 := q' H (Same.refl _)
    split
    · rename_i hz
      rw [Ln.cost_set hn hz] at q2
      exact q2
    · rename_i hz
      rw [Ln.cost_not hn hz] at q2
      exact q2
  cases last with
  | false =>
    walk_at "rd"
    try refine iteF ?_
    try refine iteF ?_
    walk_at "rd"
    refine ⟨_, _, lo, ideal, hi, g, rfl, hG, hm0, hm1, ?_⟩
    walk_at "rd"
    have r := rest _ q (fun z => by cases z.1)
    refine ite2 (fun c => ?_) (fun c => ?_)
    · rw [if_pos (V.int.inj (of_decide_eq_true c))] at r
      walk_at "rd"
      exact r
    · rw [if_neg (fun z => c (decide_eq_true (congrArg V.int z)))] at r
      exact r
  | true =>
    walk_at "rd"
    try refine iteT ?_
    walk_at "rd"
    refine ite2 (fun c => ?_) (fun c => ?_)
    · have q2 := q H (Same.refl _)
      rw [Ln.cost_zero rfl (of_decide_eq_true c)] at q2
      exact q2
    · walk_at "rd"
      refine ⟨_, _, lo, ideal, hi, g, rfl, hG, hm0, hm1, ?_⟩
      walk_at "rd"
      have r := rest _ q (fun z => c (decide_eq_true z.2))
      refine ite2 (fun c => ?_) (fun c => ?_)
      · rw [if_pos (V.int.inj (of_decide_eq_true c))] at r
        walk_at "rd"
        exact r
      · rw [if_neg (fun z => c (decide_eq_true (congrArg V.int z)))] at r
        exact r
def sp_line_cost (K : PySem.W.Frag) : Sp := fun vs H Q _ => ∃ (l p g : Addr) (rs : List Cs.Row) (ws : List Str) (ms lo ideal hi : Int) (last : Bool), vs = [.ref l, .ref p, .int ms, .ref g, .bl last] ∧ Cs.CaseAt K H l rs ∧ SqL K H p (ws.map V.str) ∧ 1 ≤ ws.length ∧ ws.length ≤ 1000 ∧ (∀ x ∈ ws, x.length ≤ 1000 ∧ ∀ c ∈ x.cps.toList, (Cs.place rs (sg c)).isSome = true) ∧
  H g = some (.tup [.int lo, .int ideal, .int hi]) ∧ 0 ≤ ideal ∧ ideal ≤ 1000 ∧ 0 ≤ ms ∧ ms ≤ 1000000 ∧ 0 ≤ Cs.bodyOf rs ws ∧ Cs.bodyOf rs ws ≤ 100000000 ∧ ∀ H', Same H H' → Q (Mt.optI (Ln.cost (ms - Cs.bodyOf rs ws) ((ws.length : Int) - 1) lo ideal hi last)) H'
theorem ok_line_cost (T : Tx K mg a) : FnOk P w K mg base CX0 4 a.f_line_cost a.d_line_cost ["case", "line", "measure", "gaps", "last"] (sp_line_cost K) := by
  have G_body_of := ok_body_of (P := P) (w := w) (base := base) T
  have G_cost_of := ok_cost_of (P := P) (w := w) (base := base) T
  refine T.line_cost.fn.ok sc_line_cost (fun vs H Q E h => ?_) (fun cdv A outer s H vs Q E hr h => ?_)
  · obtain ⟨l, p, g, rs, ws, ms, lo, ideal, hi, last, rfl, _⟩ := h
    rfl
  obtain ⟨l, p, g, rs, ws, ms, lo, ideal, hi, last, rfl, hC, hL, hw1, hw2, hw, hG, hi0, hi1, hm0, hm1, hb0, hb1, q⟩ := h
  refine ⟨_, (pss_one (ps_ret (pcall T.cost_of G_cost_of hr rfl (pa_cons (pe_op op_sub (pv 2) (pcall T.body_of G_body_of hr rfl (pa_cons (pv 0) (pa_cons (pv 1) pa_nil)))) (pa_cons (pe_op op_sub (pe_callB (klen_seq K rfl) rfl T.b_len bt_len (pa_cons (pv 1) pa_nil)) pe_int) (pa_cons (pv 3) (pa_cons (pv 4) pa_nil))))))), ?_⟩
  walk_at "rd"
  refine ⟨l, p, rs, ws, rfl, hC, hL, hw2, hw, fun H1 hs1 => ?_⟩
  walk_at "rd"
  refine ⟨p, _, rfl, .inl (hs1.seq hL), ?_⟩
  rw [List.length_map]
  walk_at "rd"
  refine ⟨_, _, lo, ideal, hi, g, last, rfl, hs1 _ _ hG, by omega, by omega, by omega, by omega, hi0, hi1, fun H2 hs2 => ?_⟩
  exact q _ (hs1.trans hs2)
abbrev parOf (rs : List Cs.Row) (ws : List Str) (ms lo ideal hi : Int) : Br.Par := ⟨ws.map fun x => Cs.wideOf rs x, ms, lo, ideal, hi⟩
def sp_costs_of (K : PySem.W.Frag) : Sp := fun vs H Q _ => ∃ (l p g : Addr) (rs : List Cs.Row) (ws : List Str) (ms lo ideal hi : Int), vs = [.ref l, .ref p, .int ms, .ref g] ∧ Cs.CaseAt K H l rs ∧ SqL K H p (ws.map V.str) ∧ ws.length ≤ 63 ∧ (∀ x ∈ ws, x.length ≤ 1000 ∧ ∀ c ∈ x.cps.toList, (Cs.place rs (sg c)).isSome = true) ∧ (∀ x ∈ ws, 0 ≤ Cs.wideOf rs x ∧ Cs.wideOf rs x ≤ 100000) ∧
  H g = some (.tup [.int lo, .int ideal, .int hi]) ∧ 0 ≤ ideal ∧ ideal ≤ 1000 ∧ 0 ≤ ms ∧ ms ≤ 1000000 ∧ ∀ (d : Addr) (kvs : List (List Key × V)) (H' : Hp), H d = none → Same H H' → H' d = some (.dT kvs) → Br.CostI (parOf rs ws ms lo ideal hi) kvs → Q (.ref d) H'
theorem ok_costs_of (T : Tx K mg a) : FnOk P w K mg base CX0 3 a.f_costs_of a.d_costs_of ["case", "words", "measure", "gaps"] (sp_costs_of K) := by
  have G_width_of := ok_width_of (P := P) (w := w) (base := base) T
  have G_cost_of := ok_cost_of (P := P) (w := w) (base := base) T
  refine T.costs_of.fn.ok sc_costs_of (fun vs H Q E h => ?_) (fun cdv A outer s H vs Q E hr h => ?_)
  · obtain ⟨l, p, g, rs, ws, ms, lo, ideal, hi, rfl, _⟩ := h
    rfl
  obtain ⟨l, p, g, rs, ws, ms, lo, ideal, hi, rfl, hC, hL, hwl, hw, hwb, hG, hi0, hi1, hm0, hm1, q⟩ := h
  refine ⟨_, (pss_cons (ps_setC (i := 4) sc_costs_of.nd rfl (Or.inl rfl) rfl (kpi_list K rfl (pv 1)) (BlkOk.of (N' := ["case", "words", "measure", "gaps", "widths", "costs", "start", "spare", "end", "cost", "word"]) (ms := []) (k := 1) (by rfl)) (fun _ _ _ _ _ => (pg_name (i := 10) (show List.Nodup (["case", "words", "measure", "gaps", "widths", "costs", "start", "spare", "end", "cost", "word"] : List Str) from by decide +kernel) rfl (Or.inl rfl))) (fun _ _ _ _ _ => pts_nil) (fun _ _ _ _ _ => (pcall T.width_of G_width_of hr rfl (pa_cons (pv 0) (pa_cons (pv 10) pa_nil)))))
      (pss_cons (ps_set (i := 5) sc_costs_of.nd rfl (Or.inl rfl) pe_dnewT)
      (pss_cons (ps_for PassesOwn.never rfl (pi_range1 rfl T.b_range (pa_cons (pe_callB (klen_seq K rfl) rfl T.b_len bt_len (pa_cons (pv 1) pa_nil)) pa_nil)) (pg_name (i := 6) sc_costs_of.nd rfl (Or.inl rfl)) (pss_cons (ps_set (i := 7) sc_costs_of.nd rfl (Or.inl rfl) (pv 2))
      (pss_one (ps_for PassesOwn.never rfl (pi_range2 rfl T.b_range (pa_cons (pe_op op_add (pv 6) pe_int) (pa_cons (pe_op op_add (pe_callB (klen_seq K rfl) rfl T.b_len bt_len (pa_cons (pv 1) pa_nil)) pe_int) pa_nil))) (pg_name (i := 8) sc_costs_of.nd rfl (Or.inl rfl)) (pss_cons (ps_set (i := 7) sc_costs_of.nd rfl (Or.inl rfl) (pe_op op_sub (pv 7) (pe_ix (kix_list K rfl) (pv 4) (pe_op op_sub (pv 8) pe_int) (fun _ _ => rfl))))
      (pss_cons (ps_set (i := 9) sc_costs_of.nd rfl (Or.inl rfl) (pcall T.cost_of G_cost_of hr rfl (pa_cons (pv 7) (pa_cons (pe_op op_sub (pe_op op_sub (pv 8) (pv 6)) pe_int) (pa_cons (pv 3) (pa_cons (pe_cmpR op_eq (pv 8) (pe_callB (klen_seq K rfl) rfl T.b_len bt_len (pa_cons (pv 1) pa_nil)) (nomark _)) pa_nil))))))
      (pss_one (ps_if (pt_cmp (pc_notN (pv 9))) (pss_one (ps_dput (hu_of hr) (pv 5) (pe_tup (pa_cons (pv 6) (pa_cons (pv 8) pa_nil))) (pv 9) rfl)) pss_nil))))))))
      (pss_one (ps_ret (pv 5)))))), ?_⟩
  generalize hpr : parOf rs ws ms lo ideal hi = pr at q
  have hzs : pr.zs = ws.map fun x => Cs.wideOf rs x := by rw [← hpr]
  have hzl : pr.zs.length = ws.length := by rw [hzs, List.length_map]
  have hnn : pr.n = ws.length := hzl
  have ems : pr.ms = ms := by rw [← hpr]
  have elo : pr.lo = lo := by rw [← hpr]
  have eid : pr.ideal = ideal := by rw [← hpr]
  have ehi : pr.hi = hi := by rw [← hpr]
  have hzb : ∀ z ∈ pr.zs, 0 ≤ z ∧ z ≤ 100000 := fun z hz => by
    rw [hzs] at hz
    obtain ⟨x, hx, rfl⟩ := List.mem_map.mp hz
    exact hwb x hx
  have segb : ∀ i j, j ≤ pr.zs.length → 0 ≤ List.sum (Br.seg pr.zs i j) ∧ List.sum (Br.seg pr.zs i j) ≤ 6300000 := fun i j hj => by
    have h1 := Ln.sum_bd (zs := Br.seg pr.zs i j) (B := 100000) (by decide) fun z hz => hzb z (List.mem_of_mem_take (List.mem_of_mem_drop hz))
    have h2 := Br.seg_len (i := i) hj
    have h3 : ((Br.seg pr.zs i j).length : Int) ≤ 63 := by omega
    have h4 : ((Br.seg pr.zs i j).length : Int) * 100000 ≤ 6300000 := by omega
    omega
  walk_at "rd"
  try refine ⟨⟨_, hL⟩, ?_⟩
  intro D hD
  refine comp_list (a := p) (xs := ws.map V.str) (fun i ys σ H2 => ∃ (v10 : Option V), ys = ((ws.take i).map fun x => Cs.wideOf rs x).map V.int ∧ σ = [some (.ref l), some (.ref p), some (.int ms), some (.ref g), none, none, none, none, none, none, v10] ∧ Same H H2 ∧ H2 D = some (.lst ys))
    ?_ ?_ ?_ ?_
  · exact ⟨none, rfl, rfl, same_new hD _, upd_same⟩
  · exact fun i ys σ H2 _ ⟨_, _, _, hs, _⟩ => hs.seq hL
  · rintro i y ys σ H2 hy hil ⟨v2, rfl, rfl, hs, hh⟩
    obtain ⟨x, rfl, hxi⟩ := map_str_get hy
    obtain ⟨h1, h2⟩ := hw x (List.mem_of_getElem? hxi)
    walk_at "rd"
    refine ⟨l, x, rs, rfl, hC.same hs, h1, h2, fun H3 hs3 => ?_⟩
    refine cnext hil (hs3 _ _ hh) ?_ ⟨_, ?_, rfl, same_upd (hs.trans hs3) hD, upd_same⟩
    · rw [List.length_map, List.length_map, List.length_take]
      omega
    · rw [List.take_add_one, hxi, List.map_append, List.map_append]
      rfl
  · rintro ys σ H2 ⟨v2, rfl, rfl, hs2, hh2⟩
    rw [List.length_map, List.take_of_length_le (Nat.le_refl _), ← hzs] at hh2
    walk_at "rd"
    intro d hd
    have hd0 : H d = none := hs2.free hd
    walk_at "rd"
    refine ⟨p, _, rfl, .inl ((same_add hs2 hd).seq hL), ?_⟩
    rw [List.length_map]
    refine ⟨_, rfl, by omega, by omega, ?_⟩
    refine for_range (n := ws.length) (fun i σ H3 => ∃ (kvs : List (List Key × V)) (v6 v7 v8 v9 : Option V), σ = [some (.ref l), some (.ref p), some (.int ms), some (.ref g), some (.ref D), some (.ref d), v6, v7, v8, v9] ∧ Same H2 H3 ∧ H3 d = some (.dT kvs) ∧ kvs.length ≤ i * 100 ∧ Br.Cst pr kvs fun a _ => a < i)
      ⟨[], none, none, none, none, rfl, same_new hd _, upd_same, Nat.zero_le _, Br.Cst.nil pr⟩ ?_ ?_
    · rintro i σ H3 hin ⟨kvs, v6, v7, v8, v9, rfl, hs3, hd3, hkl, hcs⟩
      walk_at "rd"
      refine ⟨p, _, rfl, .inl ((hs2.trans hs3).seq hL), ?_⟩
      rw [List.length_map]
      refine ⟨_, _, rfl, rfl, ?_⟩
      refine ⟨_, _, rfl, ⟨by omega, by omega, by omega, by omega⟩, ?_⟩
      refine for_range (n := ((ws.length : Int) + 1 - (0 + (i : Int) + 1)).toNat) (fun k σ H4 => ∃ (kvs : List (List Key × V)) (v8 v9 : Option V), σ = [some (.ref l), some (.ref p), some (.int ms), some (.ref g), some (.ref D), some (.ref d), some (.int (0 + (i : Int))), some (.int (ms - List.sum (Br.seg pr.zs i (i + k)))), v8, v9] ∧ Same H2 H4 ∧ H4 d = some (.dT kvs) ∧ kvs.length ≤ i * 100 + k ∧ Br.Cst pr kvs fun a b => a < i ∨ (a = i ∧ b < i + 1 + k))
        ⟨kvs, v8, v9, ?_, hs3, hd3, hkl, hcs.iff fun a b hab hb => ?_⟩ ?_ ?_
      · rw [Nat.add_zero, Br.seg_self]
        show _ = [_, _, _, _, _, _, _, some (V.int (ms - 0)), _, _]
        rw [Int.sub_zero]
        rfl
      · constructor <;> intro z <;> omega
      · rintro k σ H4 hk ⟨kvs, v8, v9, rfl, hs4, hd4, hkl4, hcs4⟩
        have hik : i + k < pr.zs.length := by omega
        have hzk : pr.zs[i + k]? = some pr.zs[i + k] := List.getElem?_eq_getElem hik
        have hat : atI (pr.zs.map V.int) (0 + (i : Int) + 1 + (k : Int) - 1) = some (.int pr.zs[i + k]) := by
          rw [show 0 + (i : Int) + 1 + (k : Int) - 1 = ((i + k : Nat) : Int) by omega]
          exact atI_nat (by rw [List.getElem?_map, hzk] <;> rfl)
        have hzkb := hzb _ (List.getElem_mem hik)
        have hsb := segb i (i + k) (by omega)
        have hst := Br.lc_step hzk
        rw [ems, elo, eid, ehi] at hst
        generalize pr.zs[i + k] = z at hzk hat hzkb hst
        have hD4 : H4 D = some (.lst (pr.zs.map V.int)) := hs4 _ _ hh2
        have hG4 : H4 g = some (.tup [.int lo, .int ideal, .int hi]) := (hs2.trans hs4) _ _ hG
        have hP4 := (hs2.trans hs4).seq hL
        have e3 : 0 + (i : Int) + 1 + (k : Int) - (0 + (i : Int)) - 1 = (k : Int) := by omega
        have e4 : decide (V.int (0 + (i : Int) + 1 + (k : Int)) = V.int (ws.length : Int)) = decide (i + 1 + k = pr.n) := by
          rw [decV, decide_eq_decide]
          omega
        have e5 : ms - List.sum (Br.seg pr.zs i (i + k)) - z = ms - List.sum (Br.seg pr.zs i (i + (k + 1))) := by
          rw [show i + (k + 1) = i + k + 1 by omega, Br.seg_snoc (by omega) hzk, List.sum_append, List.sum_cons, List.sum_nil]
          omega
        have ek : ([Sum.inl (0 + (i : Int)), Sum.inl (0 + (i : Int) + 1 + (k : Int))] : List Key) = [Sum.inl (i : Int), Sum.inl ((i + 1 + k : Nat) : Int)] := by
          rw [show 0 + (i : Int) = (i : Int) by omega, show (i : Int) + 1 + (k : Int) = ((i + 1 + k : Nat) : Int) by omega]
        walk_at "rd"
        refine ⟨p, _, rfl, .inl hP4, ?_⟩
        rw [List.length_map]
        walk_at "rd"
        refine ⟨_, _, lo, ideal, hi, g, _, rfl, hG4, by omega, by omega, by omega, by omega, hi0, hi1, fun H5 hs5 => ?_⟩
        rw [e3, e4, hst]
        cases hlc : Br.lc pr i (i + 1 + k) with
        | none =>
          walk_at "rd"
          try refine iteF ?_
          exact ⟨kvs, _, _, by rw [← e5]; rfl, hs4.trans hs5, hs5 _ _ hd4, by omega, hcs4.skip hlc⟩
        | some c =>
          walk_at "rd"
          try refine iteT ?_
          walk_at "rd"
          intro b hb
          have hd5 := same_new hb (.tup [.int (0 + (i : Int)), .int (0 + (i : Int) + 1 + (k : Int))]) _ _ (hs5 _ _ hd4)
          refine ⟨d, _, rfl, DPut.t (k := [Sum.inl (0 + (i : Int)), Sum.inl (0 + (i : Int) + 1 + (k : Int))]) hd5 upd_same (smallLt (by omega)), ?_⟩
          rw [ek]
          have hlen := length_putK kvs [Sum.inl (i : Int), Sum.inl ((i + 1 + k : Nat) : Int)] (V.int c)
          have hlen2 : (putK kvs [Sum.inl (i : Int), Sum.inl ((i + 1 + k : Nat) : Int)] (V.int c)).length ≤ i * 100 + (k + 1) := by omega
          exact ⟨_, _, _, by rw [← e5]; rfl, same_upd (same_add (hs4.trans hs5) hb) hd, upd_same, hlen2, hcs4.put hlc⟩
      · rintro σ H4 ⟨kvs, v8, v9, rfl, hs4, hd4, hkl4, hcs4⟩
        refine ⟨kvs, _, _, _, _, rfl, hs4, hd4, by omega, hcs4.iff fun a b hab hb => ?_⟩
        constructor <;> intro z <;> omega
    · rintro σ H3 ⟨kvs, v6, v7, v8, v9, rfl, hs3, hd3, hkl, hcs⟩
      walk_at "rd"
      exact q d kvs H3 hd0 (hs2.trans hs3) hd3 (Br.Cst.all (hcs.iff fun a b _ _ => by rw [hnn]))
def sp_can_follow (K : PySem.W.Frag) : Sp := fun vs H Q _ => ∃ (d t : Addr) (kvs : List (List Key × V)) (tb : List (Option Int)) (i j : Nat), vs = [.ref d, .ref t, .int (i : Int), .int (j : Int)] ∧ H d = some (.dT kvs) ∧ SqL K H t (tb.map Mt.optI) ∧ j < tb.length ∧
  ∀ H', Same H H' → Q (.bl ((valV kvs [.inl (i : Int), .inl (j : Int)]).isSome && (tb.getD j none).isSome)) H'
theorem ok_can_follow (T : Tx K mg a) : FnOk P w K mg base CX0 1 a.f_can_follow a.d_can_follow ["costs", "table", "start", "end"] (sp_can_follow K) := by
  refine T.can_follow.fn.ok sc_can_follow (fun vs H Q E h => ?_) (fun cdv A outer s H vs Q E hr h => ?_)
  · obtain ⟨d, t, kvs, tb, i, j, rfl, _⟩ := h
    rfl
  obtain ⟨d, t, kvs, tb, i, j, rfl, hd, hT, hj, q⟩ := h
  refine ⟨_, (pss_one (ps_ret (pe_and (pe_cmp (pc_din (hu_of hr) (pe_tup (pa_cons (pv 2) (pa_cons (pv 3) pa_nil))) (pv 0))) (pe_one (pe_cmp (pc_notN (pe_ix (kix_list K rfl) (pv 1) (pv 3) (fun _ _ => rfl)))))))), ?_⟩
  have hat : atI (tb.map Mt.optI) (j : Int) = some (Mt.optI (tb.getD j none)) := atI_nat (by rw [List.getElem?_map, List.getElem?_eq_getElem hj, List.getD_eq_getElem?_getD, List.getElem?_eq_getElem hj] <;> rfl)
  walk_at "rd"
  intro b hb
  have hdb := same_new hb (.tup [.int (i : Int), .int (j : Int)]) _ _ hd
  walk_at "rd"
  refine ⟨d, _, rfl, DGet.t (k := [Sum.inl (i : Int), Sum.inl (j : Int)]) hdb upd_same, ?_⟩
  have q2 := q _ (same_new hb (.tup [.int (i : Int), .int (j : Int)]))
  generalize valV kvs [Sum.inl (i : Int), Sum.inl (j : Int)] = vv at q2 ⊢
  generalize tb.getD j none = tv at q2 hat ⊢
  cases vv with
  | none =>
    refine ⟨_, rfl, ?_⟩
    exact iteF q2
  | some c =>
    refine ⟨_, rfl, ?_⟩
    refine iteT ?_
    refine ⟨_, rfl, ?_⟩
    refine ⟨_, rfl, ?_⟩
    refine ⟨t, _, _, _, rfl, rfl, (same_new hb _).seq hT, hat, ?_⟩
    cases tv with
    | none => exact q2
    | some c2 => exact q2
def sp_choices (K : PySem.W.Frag) : Sp := fun vs H Q _ => ∃ (d t : Addr) (kvs : List (List Key × V)) (tb : List (Option Int)) (pr : Br.Par) (i : Nat), vs = [.ref d, .ref t, .int (i : Int)] ∧ H d = some (.dT kvs) ∧ Br.CostI pr kvs ∧ SqL K H t (tb.map Mt.optI) ∧ tb.length = pr.n + 1 ∧ i < pr.n ∧ pr.n ≤ 63 ∧
  ∀ (r : Addr) (xs : List V) (H' : Hp), H r = none → Same H H' → H' r = some (.lst xs) → Paired (Br.PairAt H') xs (Br.chs pr (fun j => tb.getD j none) i (pr.n - i)) → Q (.ref r) H'
theorem ok_choices (T : Tx K mg a) : FnOk P w K mg base CX0 2 a.f_choices a.d_choices ["costs", "table", "start"] (sp_choices K) := by
  have G_can_follow := ok_can_follow (P := P) (w := w) (base := base) T
  refine T.choices.fn.ok sc_choices (fun vs H Q E h => ?_) (fun cdv A outer s H vs Q E hr h => ?_)
  · obtain ⟨d, t, kvs, tb, pr, i, rfl, _⟩ := h
    rfl
  obtain ⟨d, t, kvs, tb, pr, i, rfl, hd, hcs, hT, htl, hi, hn, q⟩ := h
  refine ⟨_, (pss_cons (ps_setC (i := 3) sc_choices.nd rfl (Or.inl rfl) rfl (pi_range2 rfl T.b_range (pa_cons (pe_op op_add (pv 2) pe_int) (pa_cons (pe_callB (klen_seq K rfl) rfl T.b_len bt_len (pa_cons (pv 1) pa_nil)) pa_nil))) (BlkOk.of (N' := ["costs", "table", "start", "ends", "end"]) (ms := []) (k := 1) (by rfl)) (fun _ _ _ _ _ => (pg_name (i := 4) (show List.Nodup (["costs", "table", "start", "ends", "end"] : List Str) from by decide +kernel) rfl (Or.inl rfl))) (fun _ _ _ _ _ => (pts_one (pt_val (pcall T.can_follow G_can_follow hr rfl (pa_cons (pv 0) (pa_cons (pv 1) (pa_cons (pv 2) (pa_cons (pv 4) pa_nil)))))))) (fun _ _ _ _ _ => (pv 4)))
      (pss_one (ps_ret (pe_compG rfl (kpi_list K rfl (pv 3)) (BlkOk.of (N' := ["costs", "table", "start", "ends", "end"]) (ms := []) (k := 1) (by rfl)) (fun _ _ _ _ _ => (pg_name (i := 4) (show List.Nodup (["costs", "table", "start", "ends", "end"] : List Str) from by decide +kernel) rfl (Or.inl rfl))) (fun _ _ _ _ _ => pts_nil) (fun _ _ _ _ _ => (pe_tup (pa_cons (pe_op op_add (pe_dget (hu_of hr) (pv 0) (pe_tup (pa_cons (pv 2) (pa_cons (pv 4) pa_nil))) (fun _ _ => rfl)) (pe_ix (kix_list K rfl) (pv 1) (pv 4) (fun _ _ => rfl))) (pa_cons (pv 4) pa_nil)))))))), ?_⟩
  have htl2 : (tb.map Mt.optI).length = pr.n + 1 := by rw [List.length_map, htl]
  walk_at "rd"
  refine ⟨t, _, rfl, .inl hT, ?_⟩
  rw [htl2]
  refine ⟨_, _, rfl, ⟨by omega, by omega, by omega, by omega⟩, fun D hD => ?_⟩
  generalize hfe : (fun j => tb.getD j none) = f at q
  have hf : ∀ j, tb.getD j none = f j := fun j => by rw [← hfe]
  refine comp_range (n := (((pr.n + 1 : Nat) : Int) - ((i : Int) + 1)).toNat) (fun k ys σ H2 => ∃ (v4 : Option V), ys = (Br.ends pr f i k).map (fun e : Nat => V.int (e : Int)) ∧ σ = [some (.ref d), some (.ref t), some (.int (i : Int)), none, v4] ∧ Same H H2 ∧ H2 D = some (.lst ys))
    ?_ ?_ ?_
  · exact ⟨none, rfl, rfl, same_new hD _, upd_same⟩
  · rintro k ys σ H2 hk ⟨v4, rfl, rfl, hs, hh⟩
    have hel := Br.fm_len (fun k => (Br.addO (Br.lc pr i (i + 1 + k)) (f (i + 1 + k))).map fun _ => i + 1 + k) k
    have hel : (Br.ends pr f i k).length ≤ k := hel
    have hst : Br.ends pr f i (k + 1) = Br.ends pr f i k ++ ((Br.addO (Br.lc pr i (i + 1 + k)) (f (i + 1 + k))).map fun _ => i + 1 + k).toList := Br.fm_succ _ k
    have ej : (i : Int) + 1 + (k : Int) = ((i + 1 + k : Nat) : Int) := by omega
    rw [ej]
    walk_at "rd"
    refine ⟨d, t, kvs, tb, i, i + 1 + k, rfl, hs _ _ hd, hs.seq hT, by omega, fun H3 hs3 => ?_⟩
    rw [hcs i (i + 1 + k) (by omega) (by omega), hf]
    walk_at "rd"
    cases h1 : Br.lc pr i (i + 1 + k) with
    | none =>
      rw [h1] at hst
      refine iteF ?_
      refine cskip hk ⟨_, ?_, rfl, hs.trans hs3, hs3 _ _ hh⟩
      rw [hst]
      show _ = (_ ++ []).map _
      rw [List.append_nil]
    | some c =>
      cases h2 : f (i + 1 + k) with
      | none =>
        rw [h1, h2] at hst
        refine iteF ?_
        refine cskip hk ⟨_, ?_, rfl, hs.trans hs3, hs3 _ _ hh⟩
        rw [hst]
        show _ = (_ ++ []).map _
        rw [List.append_nil]
      | some c2 =>
        rw [h1, h2] at hst
        refine iteT ?_
        walk_at "rd"
        refine cnext hk (hs3 _ _ hh) (by rw [List.length_map]; omega) ⟨_, ?_, rfl, same_upd (hs.trans hs3) hD, upd_same⟩
        rw [hst, List.map_append]
        rfl
  · rintro ys σ H2 ⟨v4, rfl, rfl, hs2, hh2⟩
    have en : (((pr.n + 1 : Nat) : Int) - ((i : Int) + 1)).toNat = pr.n - i := by omega
    rw [en] at hh2
    have hD0 := hD
    walk_at "rd"
    try refine ⟨⟨_, SqL.of hh2⟩, ?_⟩
    intro D2 hD2
    have hel : (Br.ends pr f i (pr.n - i)).length ≤ pr.n - i := Br.fm_len _ _
    have hlen : (Br.chs pr f i (pr.n - i)).length = (Br.ends pr f i (pr.n - i)).length := by rw [← Br.chs_ends, List.length_map]
    refine comp_list (a := D) (xs := (Br.ends pr f i (pr.n - i)).map (fun e : Nat => V.int (e : Int))) (fun k ys σ H3 => ∃ (v4 : Option V), σ = [some (.ref d), some (.ref t), some (.int (i : Int)), some (.ref D), v4] ∧ Same H2 H3 ∧ H3 D2 = some (.lst ys) ∧ Paired (Br.PairAt H3) ys ((Br.chs pr f i (pr.n - i)).take k))
      ?_ ?_ ?_ ?_
    · exact ⟨none, rfl, same_new hD2 _, upd_same, .nil⟩
    · exact fun k ys σ H3 _ ⟨_, _, hs3, _⟩ => SqL.of (hs3 _ _ hh2)
    · rintro k y ys σ H3 hy hkl ⟨v4, rfl, hs3, hh3, hpd⟩
      have hkl0 := hkl
      rw [List.length_map, ← hlen] at hkl
      obtain ⟨x, hx⟩ : ∃ x, (Br.chs pr f i (pr.n - i))[k]? = some x := ⟨_, List.getElem?_eq_getElem hkl⟩
      obtain ⟨m1, m2, c1, c2, e1, e2, e3⟩ := Br.chs_mem (List.mem_of_getElem? hx)
      have hye : y = .int ((x.2 : Nat) : Int) := by
        rw [← Br.chs_ends, List.map_map, List.getElem?_map, hx] at hy
        exact (Option.some.inj hy).symm
      subst hye
      have htk : (Br.chs pr f i (pr.n - i)).take (k + 1) = (Br.chs pr f i (pr.n - i)).take k ++ [x] := by rw [List.take_add_one, hx]; rfl
      have hyl : ys.length ≤ 63 := by
        rw [Paired.length hpd, List.length_take]
        omega
      have hs03 := hs2.trans hs3
      have hat : atI (tb.map Mt.optI) ((x.2 : Nat) : Int) = some (.int c2) := by
        have hxl : x.2 < tb.length := by omega
        have e4 := hf x.2
        rw [e2, List.getD_eq_getElem?_getD, List.getElem?_eq_getElem hxl] at e4
        have e4 : tb[x.2] = some c2 := e4
        exact atI_nat (by rw [List.getElem?_map, List.getElem?_eq_getElem hxl, e4] <;> rfl)
      walk_at "rd"
      intro b hb
      have hg := DGet.t (k := [Sum.inl (i : Int), Sum.inl ((x.2 : Nat) : Int)]) (same_new hb (.tup [.int (i : Int), .int ((x.2 : Nat) : Int)]) _ _ (hs03 _ _ hd)) upd_same
      rw [hcs i x.2 m1 (by omega), e1] at hg
      walk_at "rd"
      refine ⟨d, _, rfl, hg, ?_⟩
      have hsb := same_add (o := .tup [.int (i : Int), .int ((x.2 : Nat) : Int)]) hs03 hb
      walk_at "rd"
      refine ⟨t, _, _, _, rfl, rfl, hsb.seq hT, hat, ?_⟩
      walk_at "rd"
      intro b2 hb2
      have hh4 := same_new hb2 (.tup [.int (c1 + c2), .int ((x.2 : Nat) : Int)]) _ _ (same_new hb (.tup [.int (i : Int), .int ((x.2 : Nat) : Int)]) _ _ hh3)
      refine cnext (ys := ys) hkl0 hh4 (by omega) ⟨_, rfl, same_upd (same_add (same_add hs3 hb) hb2) hD2, upd_same, ?_⟩
      rw [htk]
      refine Paired.snoc (Br.pairs_upd (Br.pairs_same (Br.pairs_same hpd (same_new hb _)) (same_new hb2 _)) hh4 (fun z e => by cases e)) ⟨b2, rfl, ?_⟩
      rw [upd_ne (ne_of upd_same hh4 (fun e => by cases e)), upd_same, e3]
    · rintro ys σ H3 ⟨v4, rfl, hs3, hh3, hpd⟩
      rw [List.length_map, ← hlen, List.take_of_length_le (Nat.le_refl _)] at hpd
      exact q D2 ys H3 (hs2.free hD2) (hs2.trans hs3) hh3 hpd
theorem ix_in {n k : Nat} (h : k < n) : ixN n (k : Int) = some k := by
  unfold ixN
  rw [if_pos (by omega), if_pos (by omega)]
  congr 1
theorem none_rep (n : Nat) : (List.replicate n [V.non]).flatten ++ [V.int 0] = ((List.replicate n (none : Option Int)) ++ [some 0]).map Mt.optI := by
  induction n with
  | zero => rfl
  | succ n ih =>
    rw [List.replicate_succ, List.flatten_cons, List.replicate_succ]
    show V.non :: ((List.replicate n [V.non]).flatten ++ [V.int 0]) = Mt.optI none :: _
    rw [ih]
    rfl
theorem tab_start (pr : Br.Par) : Br.Tab pr (fun j => ((List.replicate pr.n (none : Option Int)) ++ [some 0]).getD j none) pr.n := by
  refine ⟨?_, fun i h1 h2 => absurd h1 (Nat.not_le_of_lt h2)⟩
  show ((List.replicate pr.n (none : Option Int)) ++ [some 0]).getD pr.n none = some 0
  rw [List.getD_eq_getElem?_getD, List.getElem?_append_right (by rw [List.length_replicate]; exact Nat.le_refl _), List.length_replicate, Nat.sub_self]
  rfl
theorem map_set {tb : List (Option Int)} {i : Nat} {v : Option Int} : (tb.map Mt.optI).set i (Mt.optI v) = (tb.set i v).map Mt.optI := by rw [List.map_set]
def sp_table_of (K : PySem.W.Frag) : Sp := fun vs H Q _ => ∃ (d : Addr) (kvs : List (List Key × V)) (pr : Br.Par), vs = [.ref d, .int (pr.n : Int)] ∧ H d = some (.dT kvs) ∧ Br.CostI pr kvs ∧ pr.n ≤ 63 ∧
  ∀ (r : Addr) (tb : List (Option Int)) (H' : Hp), H r = none → Same H H' → H' r = some (.lst (tb.map Mt.optI)) → tb.length = pr.n + 1 → Br.Tab pr (fun j => tb.getD j none) 0 → Q (.ref r) H'
theorem ok_table_of (T : Tx K mg a) : FnOk P w K mg base CX0 3 a.f_table_of a.d_table_of ["costs", "many"] (sp_table_of K) := by
  have G_choices := ok_choices (P := P) (w := w) (base := base) T
  refine T.table_of.fn.ok sc_table_of (fun vs H Q E h => ?_) (fun cdv A outer s H vs Q E hr h => ?_)
  · obtain ⟨d, kvs, pr, rfl, _⟩ := h
    rfl
  obtain ⟨d, kvs, pr, rfl, hd, hcs, hn, q⟩ := h
  refine ⟨_, (pss_cons (ps_set (i := 2) sc_table_of.nd rfl (Or.inl rfl) (pe_op op_cat (pe_op op_rep (pe_lst (pa_cons pe_non pa_nil)) (pv 1)) (pe_lst (pa_cons pe_int pa_nil))))
      (pss_cons (ps_for PassesOwn.never rfl (pi_range3 rfl T.b_range (pa_cons (pe_op op_sub (pv 1) pe_int) (pa_cons (pe_un un_neg pe_int) (pa_cons (pe_un un_neg pe_int) pa_nil)))) (pg_name (i := 3) sc_table_of.nd rfl (Or.inl rfl)) (pss_one (ps_asg (kpe_minD K rfl rfl rfl T.b_min (pe_compG rfl (kpi_list K rfl (pcall T.choices G_choices hr rfl (pa_cons (pv 0) (pa_cons (pv 2) (pa_cons (pv 3) pa_nil))))) (BlkOk.of (N' := ["costs", "many", "table", "start", "cost", "end"]) (ms := []) (k := 2) (by rfl)) (fun _ _ _ _ _ => (kpg_tup K rfl (n := 2) rfl (pgs_cons (pg_name (i := 4) (show List.Nodup (["costs", "many", "table", "start", "cost", "end"] : List Str) from by decide +kernel) rfl (Or.inl rfl)) (pgs_cons (pg_name (i := 5) (show List.Nodup (["costs", "many", "table", "start", "cost", "end"] : List Str) from by decide +kernel) rfl (Or.inl rfl)) pgs_nil)))) (fun _ _ _ _ _ => pts_nil) (fun _ _ _ _ _ => (pv 4)))) (pg_sub (pv 2) (pv 3) set_list))))
      (pss_one (ps_ret (pv 2))))), ?_⟩
  walk_at "rd"
  intro p1 hp1
  refine ⟨_, rfl, ?_⟩
  refine ⟨p1, _, _, rfl, rfl, upd_same, by omega, by omega, smallL (by show 1 * _ ≤ _; omega), fun p2 hp2 => ?_⟩
  walk_at "rd"
  intro p3 hp3
  have hrl : ((List.replicate ((pr.n : Int)).toNat [V.non]).flatten).length ≤ 63 := by
    rw [len_rep]
    show _ * 1 ≤ _
    omega
  refine ⟨p2, p3, _, _, rfl, rfl, by walk_at "hk", upd_same, smallL (by show _ + 1 ≤ _; omega), fun p4 hp4 => ?_⟩
  rw [show ((pr.n : Int)).toNat = pr.n by omega, none_rep pr.n] at *
  have hs4 := same_add (o := .lst ((List.replicate pr.n (none : Option Int) ++ [some 0]).map Mt.optI)) (same_add (o := .lst [.int 0]) (same_add (o := .lst (List.replicate pr.n [V.non]).flatten) (same_new hp1 (.lst [V.non])) hp2) hp3) hp4
  have h0 : H p4 = none := (same_add (o := .lst [.int 0]) (same_add (o := .lst (List.replicate pr.n [V.non]).flatten) (same_new hp1 (.lst [V.non])) hp2) hp3).free hp4
  walk_at "rd"
  refine ⟨_, _, _, rfl, ⟨by omega, by omega, by omega, by omega⟩, ⟨by decide, by decide, by decide⟩, ?_⟩
  refine  for_range3 (lo := (pr.n : Int) - 1) (st := -1) (n := size3 ((pr.n : Int) - 1) (-1) (-1)) (fun c σ H5 => ∃ (tb : List (Option Int)) (v3 : Option V), σ = [some (.ref d), some (.int (pr.n : Int)), some (.ref p4), v3] ∧ Same H H5 ∧ H5 p4 = some (.lst (tb.map Mt.optI)) ∧ tb.length = pr.n + 1 ∧ Br.Tab pr (fun j => tb.getD j none) (pr.n - c))
    ⟨_, none, rfl, hs4, upd_same, by rw [List.length_append, List.length_replicate]; rfl, tab_start pr⟩ ?_ ?_
  · rintro c σ H5 hc ⟨tb, v3, rfl, hs5, h5, htl, htab⟩
    rw [size3_down] at hc
    have ev : (pr.n : Int) - 1 + (c : Int) * -1 = ((pr.n - (c + 1) : Nat) : Int) := by omega
    rw [ev]
    have hst : pr.n - (c + 1) < pr.n := by omega
    have htab : Br.Tab pr (fun j => tb.getD j none) (pr.n - (c + 1) + 1) := by rw [show pr.n - (c + 1) + 1 = pr.n - c by omega]; exact htab
    generalize pr.n - (c + 1) = st at hst htab ⊢
    walk_at "rd"
    refine ⟨d, p4, kvs, tb, pr, st, rfl, hs5 _ _ hd, hcs, SqL.of h5, htl, hst, hn, fun r xs H6 hr0 hs6 hr6 hpd => ?_⟩
    refine ⟨r, rfl, ⟨_, SqL.of hr6⟩, fun D hD => ?_⟩
    have hcl := Paired.length hpd
    have hcl2 : (Br.chs pr (fun j => tb.getD j none) st (pr.n - st)).length ≤ pr.n - st := Br.fm_len _ _
    refine comp_list (a := r) (xs := xs) (fun k ys σ H7 => ∃ (v4 v5 : Option V), ys = (((Br.chs pr (fun j => tb.getD j none) st (pr.n - st)).take k).map fun x => x.1).map V.int ∧ σ = [some (.ref d), some (.int (pr.n : Int)), some (.ref p4), some (.int (st : Int)), v4, v5] ∧ Same H6 H7 ∧ H7 D = some (.lst ys))
      ?_ ?_ ?_ ?_
    · exact ⟨none, none, rfl, rfl, same_new hD _, upd_same⟩
    · exact fun k ys σ H7 _ ⟨_, _, _, _, hs7, _⟩ => SqL.of (hs7 _ _ hr6)
    · rintro k y ys σ H7 hy hkl ⟨v4, v5, rfl, rfl, hs7, hh7⟩
      obtain ⟨x, hxk, t, rfl, ht⟩ := Cs.pd_get hpd hy
      refine ⟨_, _, rfl, SqT.of (hs7 _ _ ht), rfl, ?_⟩
      walk_at "tg"
      walk_at "tg"
      walk_at "rd"
      refine cnext hkl hh7 ?_ ⟨_, _, ?_, rfl, same_upd hs7 hD, upd_same⟩
      · rw [List.length_map, List.length_map, List.length_take]
        omega
      · rw [List.take_add_one, hxk, List.map_append, List.map_append]
        rfl
    · rintro ys σ H7 ⟨v4, v5, rfl, rfl, hs7, hh7⟩
      rw [hcl, List.take_of_length_le (Nat.le_refl _), Br.chs_costs] at hh7
      have hs67 := hs6.trans hs7
      refine ⟨D, _, rfl, SqL.of hh7, ?_⟩
      walk_at "rd"
      refine ⟨p4, _, _, st, rfl, rfl, hs67 _ _ h5, ix_in (by rw [List.length_map]; omega), ?_⟩
      refine ⟨tb.set st (Br.best pr (fun j => tb.getD j none) st), _, rfl, same_upd (hs5.trans hs67) h0, ?_, by rw [List.length_set]; exact htl, ?_⟩
      · rw [upd_same]
        exact congrArg (fun z => some (HO.lst z)) map_set
      · exact htab.set htl hst
  · rintro σ H5 ⟨tb, v3, rfl, hs5, h5, htl, htab⟩
    rw [size3_down, Nat.sub_self] at htab
    walk_at "rd"
    exact q p4 tb H5 h0 hs5 h5 htl htab
abbrev natV : Nat → V := fun b => V.int (b : Int)
def sp_most_in_full_lines (K : PySem.W.Frag) : Sp := fun vs H Q _ => ∃ (d : Addr) (kvs : List (List Key × V)) (pr : Br.Par), vs = [.ref d, .int (pr.n : Int)] ∧ H d = some (.dT kvs) ∧ pr.n ≤ 63 ∧ Br.CostI pr kvs ∧ ∀ (m : Nat) (H' : Hp), Br.Most (Br.lc pr) pr.n m → Same H H' → Q (.int (m : Int)) H'
theorem ok_most_in_full_lines (T : Tx K mg a) : FnOk P w K mg base CX0 1 a.f_most_in_full_lines a.d_most_in_full_lines ["costs", "many"] (sp_most_in_full_lines K) := by
  refine T.most_in_full_lines.fn.ok sc_most_in_full_lines (fun vs H Q E h => ?_) (fun cdv A outer s H vs Q E hr h => ?_)
  · obtain ⟨d, kvs, pr, rfl, _⟩ := h
    rfl
  obtain ⟨d, kvs, pr, rfl, hd, hn, hcs, q⟩ := h
  refine ⟨_, (pss_cons (ps_set (i := 2) sc_most_in_full_lines.nd rfl (Or.inl rfl) (pe_lst (pa_cons pe_int pa_nil)))
      (pss_cons (ps_for PassesOwn.never rfl (pi_range2 rfl T.b_range (pa_cons pe_int (pa_cons (pe_op op_add (pv 1) pe_int) pa_nil))) (pg_name (i := 3) sc_most_in_full_lines.nd rfl (Or.inr rfl)) (pss_one (ps_if (pt_val (pe_callB (kany K rfl rfl) rfl T.b_any bt_any (pa_cons (pe_compG rfl (kpi_list K rfl (pv 2)) (BlkOk.of (N' := ["costs", "many", "reached", "end", "start"]) (ms := []) (k := 1) (by rfl)) (fun _ _ _ _ _ => (pg_name (i := 4) (show List.Nodup (["costs", "many", "reached", "end", "start"] : List Str) from by decide +kernel) rfl (Or.inl rfl))) (fun _ _ _ _ _ => pts_nil) (fun _ _ _ _ _ => (pe_cmp (pc_din (hu_of hr) (pe_tup (pa_cons (pv 4) (pa_cons (pv 3) pa_nil))) (pv 0))))) pa_nil))) (pss_one (ps_expr (kpe_bm K rfl PySem.F.plainAttrs_list PySem.F.slot_list_append PySem.F.type_list_append mt_append (pv 2) (pa_cons (pv 3) pa_nil)))) pss_nil)))
      (pss_one (ps_ret (pe_ix (kix_list K rfl) (pv 2) (pe_un un_neg pe_int) (fun _ _ => rfl)))))), ?_⟩
  have hcs : ∀ i j : Nat, i < j → j ≤ pr.n → valV kvs [.inl (i : Int), .inl (j : Int)] = (Br.lc pr i j).map V.int := hcs
  generalize pr.n = n at hn hcs q ⊢
  generalize Br.lc pr = lc at hcs q
  walk_at "rd"
  intro p1 hp1
  have hs1 := same_new hp1 (.lst [V.int 0])
  have h11 : upd H p1 (.lst [V.int 0]) p1 = some (.lst (([] ++ [0]).map natV)) := upd_same
  generalize upd H p1 (.lst [V.int 0]) = H1 at hs1 h11 ⊢
  walk_at "rd"
  refine ⟨_, _, rfl, ⟨by omega, by omega, by omega, by omega⟩, ?_⟩
  refine for_range (lo := 1) (n := ((n : Int) + 1 - 1).toNat) (fun i σ H5 => ∃ (v3 : Option V) (ini : List Nat) (m : Nat), σ = [some (.ref d), some (.int (n : Int)), some (.ref p1), v3] ∧ Same H H5 ∧ H5 p1 = some (.lst ((ini ++ [m]).map natV)) ∧ ini.length ≤ i ∧ (∀ j ∈ ini ++ [m], j ≤ i ∧ j ≤ m ∧ Br.Rch lc j) ∧ ∀ j, j ≤ i → Br.Rch lc j → j ∈ ini ++ [m])
    ⟨none, [], 0, rfl, hs1, h11, Nat.zero_le _, fun j hj => by rw [List.mem_singleton.mp hj]; exact ⟨Nat.le_refl _, Nat.le_refl _, .zero⟩, fun j hj _ => by rw [Nat.le_zero.mp hj]; exact List.mem_singleton.mpr rfl⟩ ?_ ?_
  · rintro i σ H5 hi ⟨v3, ini, m, rfl, hs5, h5, hil, hjn, hall⟩
    have ev : (1 : Int) + (i : Int) = ((i + 1 : Nat) : Int) := by omega
    rw [ev]
    have hi1 : i + 1 ≤ n := by omega
    walk_at "rd"
    refine ⟨⟨_, SqL.of h5⟩, fun D hD => ?_⟩
    refine comp_list (a := p1) (xs := (ini ++ [m]).map natV) (fun j zs σ H6 => ∃ (v4 : Option V) (bs : List Bool), zs = bs.map V.bl ∧ σ = [some (.ref d), some (.int (n : Int)), some (.ref p1), some (.int ((i + 1 : Nat) : Int)), v4] ∧ Same H5 H6 ∧ H6 D = some (.lst zs) ∧ bs = ((ini ++ [m]).take j).map fun y => (lc y (i + 1)).isSome)
      ?_ ?_ ?_ ?_
    · exact ⟨none, [], rfl, rfl, same_new hD _, upd_same, rfl⟩
    · rintro j zs σ H6 hj ⟨_, _, _, _, hs, _⟩
      exact hs.seq (SqL.of h5)
    · rintro j x zs σ H6 hx hjl ⟨v4, bs, rfl, rfl, hs6, hh6, hbl⟩
      rw [List.getElem?_map] at hx
      obtain ⟨y, hy, rfl⟩ := Option.map_eq_some_iff.mp hx
      have hbn : bs.length ≤ 64 := by
        rw [hbl, List.length_map, List.length_take, List.length_append]
        show min _ (_ + 1) ≤ 64
        omega
      have hyi : y ≤ i := (hjn y (List.mem_of_getElem? hy)).1
      have hval := hcs y (i + 1) (by omega) hi1
      walk_at "rd"
      intro b hb
      have hst := same_new hb (.tup [.int (y : Int), .int ((i + 1 : Nat) : Int)])
      have hdb := hst _ _ ((hs5.trans hs6) _ _ hd)
      walk_at "rd"
      refine ⟨d, _, rfl, DGet.t (k := [Sum.inl (y : Int), Sum.inl ((i + 1 : Nat) : Int)]) hdb upd_same, ?_⟩
      generalize upd H6 b (.tup [.int (y : Int), .int ((i + 1 : Nat) : Int)]) = H7 at hst ⊢
      refine cnext hjl (hst _ _ hh6) (by rw [List.length_map]; omega) ⟨_, bs ++ [(valV kvs [Sum.inl (y : Int), Sum.inl ((i + 1 : Nat) : Int)]).isSome], ?_, rfl, same_upd (hs6.trans hst) hD, upd_same, ?_⟩
      · rw [List.map_append]
        rfl
      · rw [hval, Option.isSome_map, hbl, List.take_add_one, hy, List.map_append]
        rfl
    · rintro zs σ H6 ⟨v4, bs, rfl, rfl, hs6, hh6, hbl⟩
      rw [List.length_map, List.take_of_length_le (Nat.le_refl _)] at hbl
      refine ⟨D, bs, rfl, SqL.of hh6, ?_⟩
      refine ⟨_, rfl, ?_⟩
      have h6 := hs6 _ _ h5
      have hs06 := hs5.trans hs6
      have hany : bs.any id = true ↔ ∃ y ∈ ini ++ [m], (lc y (i + 1)).isSome = true := by
        rw [hbl, List.any_map, List.any_eq_true]
        rfl
      refine ite2 (fun c => ?_) (fun c => ?_)
      · obtain ⟨y, hy, hc⟩ := hany.mp c
        have hyr := hjn y hy
        walk_at "rd"
        refine ⟨.inl ⟨rfl, _, SqL.of h6⟩, ?_⟩
        walk_at "rd"
        refine ⟨p1, _, _, rfl, rfl, h6, smallLt (by rw [List.length_map, List.length_append]; show _ + 1 ≤ _; omega), ?_⟩
        refine ⟨_, ini ++ [m], i + 1, rfl, same_upd hs06 hp1, ?_, ?_, ?_, ?_⟩
        · rw [upd_same, List.map_append (l₁ := ini ++ [m])]
          rfl
        · rw [List.length_append]
          show ini.length + 1 ≤ i + 1
          omega
        · intro j hj
          rcases List.mem_append.mp hj with h | h
          · have := hjn j h
            exact ⟨by omega, by omega, this.2.2⟩
          · rw [List.mem_singleton.mp h]
            exact ⟨Nat.le_refl _, Nat.le_refl _, .step hyr.2.2 (by omega) hc⟩
        · intro j hj hr
          by_cases e : j = i + 1
          · exact List.mem_append_right _ (List.mem_singleton.mpr e)
          · exact List.mem_append_left _ (hall j (by omega) hr)
      · refine ⟨_, ini, m, rfl, hs06, h6, by omega, fun j hj => ?_, fun j hj hr => ?_⟩
        · have := hjn j hj
          exact ⟨by omega, this.2⟩
        · by_cases e : j = i + 1
          · subst e
            refine absurd (hany.mpr ?_) c
            cases hr with
            | step hr' hlt hc => exact ⟨_, hall _ (by omega) hr', hc⟩
          · exact hall j (by omega) hr
  · rintro σ H5 ⟨v3, ini, m, rfl, hs5, h5, hil, hjn, hall⟩
    have eat : atI ((ini ++ [m]).map natV) (-1) = some (natV m) := by rw [List.map_append]; exact Lns.at_end (ini.map natV) (natV m)
    refine ⟨_, rfl, ?_⟩
    refine ⟨_, rfl, ?_⟩
    refine ⟨p1, _, _, _, rfl, rfl, SqL.of h5, eat, ?_⟩
    have hmm := hjn m (List.mem_append_right _ (List.mem_singleton.mpr rfl))
    exact q m H5 ⟨hmm.2.2, by omega, fun j hj hr => (hjn j (hall j (by omega) hr)).2.1⟩ hs5
/-- the greatest end among the choices that cost as the table tells -/
theorem great_of {pr : Br.Par} {f : Nat → Option Int} {i : Nat} {c : Int} (hc : f i = some c) {e : Nat} (he : Br.Good pr f i e) :
    ∃ m : Nat, Br.Great pr f i m ∧ greatO ((((Br.chs pr f i (pr.n - i)).filter fun x => decide (x.1 = c)).map fun x => ((x.2 : Nat) : Int))) = some (m : Int) := by
  have mem : ∀ z : Int, z ∈ (((Br.chs pr f i (pr.n - i)).filter fun x => decide (x.1 = c)).map fun x => ((x.2 : Nat) : Int)) ↔ ∃ e : Nat, z = (e : Int) ∧ Br.Good pr f i e := fun z => by
    constructor
    · intro h
      obtain ⟨x, hx, rfl⟩ := List.mem_map.mp h
      obtain ⟨h1, h2⟩ := List.mem_filter.mp hx
      exact ⟨x.2, rfl, Br.chs_good ⟨h1, by rw [hc, of_decide_eq_true h2]⟩⟩
    · rintro ⟨e, rfl, hg⟩
      obtain ⟨c2, h1, h2⟩ := Br.good_chs hg
      have e2 : c2 = c := by rw [hc] at h2; exact (Option.some.inj h2).symm
      subst e2
      exact List.mem_map.mpr ⟨(c2, e), List.mem_filter.mpr ⟨h1, decide_eq_true rfl⟩, rfl⟩
  generalize (((Br.chs pr f i (pr.n - i)).filter fun x => decide (x.1 = c)).map fun x => ((x.2 : Nat) : Int)) = zs at mem
  cases hz : greatO zs with
  | none =>
    cases zs with
    | nil => exact absurd ((mem e).mpr ⟨e, rfl, he⟩) List.not_mem_nil
    | cons z r => cases hz
  | some m =>
    obtain ⟨h1, h2⟩ := greatO_some.mp hz
    obtain ⟨e1, rfl, hg⟩ := (mem m).mp h1
    exact ⟨e1, ⟨hg, fun e' he' => by
      have := h2 (e' : Int) ((mem _).mpr ⟨e', rfl, he'⟩)
      omega⟩, rfl⟩
def sp_breaks_of (K : PySem.W.Frag) (C : Addr) : Sp := fun vs H Q E => ∃ (l p g : Addr) (rs : List Cs.Row) (ws : List Str) (ms lo ideal hi : Int), vs = [.ref l, .ref p, .int ms, .ref g] ∧ Cs.CaseAt K H l rs ∧ SqL K H p (ws.map V.str) ∧ ws.length ≤ 63 ∧ (∀ x ∈ ws, x.length ≤ 1000 ∧ ∀ c ∈ x.cps.toList, (Cs.place rs (sg c)).isSome = true) ∧ (∀ x ∈ ws, 0 ≤ Cs.wideOf rs x ∧ Cs.wideOf rs x ≤ 100000) ∧
  H g = some (.tup [.int lo, .int ideal, .int hi]) ∧ 0 ≤ ideal ∧ ideal ≤ 1000 ∧ 0 ≤ ms ∧ ms ≤ 1000000 ∧ 
  (∀ H' dx (m : Nat) f, Same H H' → H' dx = none → Br.Tab (parOf rs ws ms lo ideal hi) f 0 → f 0 = none → Br.Most (Br.lc (parOf rs ws ms lo ideal hi)) (parOf rs ws ms lo ideal hi).n m → E (.ref C) (some dx) (upd H' dx (.xd [("words", .int (m : Int))]))) ∧
  ∀ (r : Addr) (bs : List Nat) (f : Nat → Option Int) (H' : Hp), H r = none → Same H H' → H' r = some (.lst (bs.map fun b : Nat => V.int (b : Int))) → Br.Tab (parOf rs ws ms lo ideal hi) f 0 → Br.Brks (parOf rs ws ms lo ideal hi) f 0 bs → Q (.ref r) H'
theorem ok_breaks_of (T : Tx K mg a) : FnOk P w K mg base (CX1 P w) 4 a.f_breaks_of a.d_breaks_of ["case", "words", "measure", "gaps"] (sp_breaks_of K a.c_NoBreak) := by
  have G_costs_of := ok_costs_of (P := P) (w := w) (base := base) T
  have G_table_of := ok_table_of (P := P) (w := w) (base := base) T
  have G_choices := ok_choices (P := P) (w := w) (base := base) T
  have G_most_in_full_lines := ok_most_in_full_lines (P := P) (w := w) (base := base) T
  have G_init_NoBreak := ok_init_NoBreak (P := P) (w := w) (base := base) T
  refine T.breaks_of.fn.okX sc_breaks_of (fun vs H Q E h => ?_) (fun cdv A outer s H vs Q E hr h => ?_)
  · obtain ⟨l, p, g, rs, ws, ms, lo, ideal, hi, rfl, _⟩ := h
    rfl
  obtain ⟨l, p, g, rs, ws, ms, lo, ideal, hi, rfl, hC, hL, hwl, hw, hwb, hG, hi0, hi1, hm0, hm1, qx, q⟩ := h
  refine ⟨_, (pss_cons (ps_set (i := 4) sc_breaks_of.nd rfl (Or.inl rfl) (pcall T.costs_of G_costs_of hr rfl (pa_cons (pv 0) (pa_cons (pv 1) (pa_cons (pv 2) (pa_cons (pv 3) pa_nil))))))
      (pss_cons (ps_set (i := 5) sc_breaks_of.nd rfl (Or.inr rfl) (pcall T.table_of G_table_of hr rfl (pa_cons (pv 4) (pa_cons (pe_callB (klen_seq K rfl) rfl T.b_len bt_len (pa_cons (pv 1) pa_nil)) pa_nil))))
      (pss_cons (ps_if (pt_cmp (pc_isN (pe_ix (kix_list K rfl) (pv 5) pe_int (fun _ _ => rfl)))) (pss_one (praiseX T.cl_NoBreak G_init_NoBreak hr rfl rfl rfl (pa_cons (pcall T.most_in_full_lines G_most_in_full_lines hr rfl (pa_cons (pv 4) (pa_cons (pe_callB (klen_seq K rfl) rfl T.b_len bt_len (pa_cons (pv 1) pa_nil)) pa_nil))) pa_nil))) pss_nil)
      (pss_cons (ps_set (i := 6) sc_breaks_of.nd rfl (Or.inl rfl) (pe_lst pa_nil))
      (pss_cons (ps_set (i := 7) sc_breaks_of.nd rfl (Or.inr rfl) pe_int)
      (pss_cons (ps_while (fly_own rfl) (pt_cmpR op_lt (pv 7) (pe_callB (klen_seq K rfl) rfl T.b_len bt_len (pa_cons (pv 1) pa_nil)) (nomark _)) (pss_cons (ps_set (i := 7) sc_breaks_of.nd rfl (Or.inr rfl) (pe_callB (kcall_maxL K rfl rfl) rfl T.b_max bt_max' (pa_cons (pe_compG rfl (kpi_list K rfl (pcall T.choices G_choices hr rfl (pa_cons (pv 4) (pa_cons (pv 5) (pa_cons (pv 7) pa_nil))))) (BlkOk.of (N' := ["case", "words", "measure", "gaps", "costs", "table", "breaks", "at", "cost", "end"]) (ms := []) (k := 2) (by rfl)) (fun _ _ _ _ _ => (kpg_tup K rfl (n := 2) rfl (pgs_cons (pg_name (i := 8) (show List.Nodup (["case", "words", "measure", "gaps", "costs", "table", "breaks", "at", "cost", "end"] : List Str) from by decide +kernel) rfl (Or.inl rfl)) (pgs_cons (pg_name (i := 9) (show List.Nodup (["case", "words", "measure", "gaps", "costs", "table", "breaks", "at", "cost", "end"] : List Str) from by decide +kernel) rfl (Or.inl rfl)) pgs_nil)))) (fun _ _ _ _ _ => (pts_one (pt_cmpR op_eq (pv 8) (pe_ix (kix_list K rfl) (pv 5) (pv 7) (fun _ _ => rfl)) (nomark _)))) (fun _ _ _ _ _ => (pv 9))) pa_nil)))
      (pss_one (ps_expr (kpe_bm K rfl PySem.F.plainAttrs_list PySem.F.slot_list_append PySem.F.type_list_append mt_append (pv 6) (pa_cons (pv 7) pa_nil))))))
      (pss_one (ps_ret (pv 6))))))))), ?_⟩
  have hnl : (parOf rs ws ms lo ideal hi).n = ws.length := List.length_map _
  walk_at "rd"
  refine ⟨l, p, g, rs, ws, ms, lo, ideal, hi, rfl, hC, hL, hwl, hw, hwb, hG, hi0, hi1, hm0, hm1, fun d kvs H1 hd0 hs1 hd1 hcs => ?_⟩
  walk_at "rd"
  refine ⟨p, _, rfl, .inl (hs1.seq hL), ?_⟩
  rw [List.length_map]
  refine ⟨d, kvs, parOf rs ws ms lo ideal hi, by rw [hnl]; rfl, hd1, hcs, by omega, fun r tb H2 hr0 hs2 hr2 htl htab => ?_⟩
  have hs02 := hs1.trans hs2
  generalize hpr : parOf rs ws ms lo ideal hi = pr at q qx hnl hcs htl htab
  have hat0 : atI (tb.map Mt.optI) 0 = some (Mt.optI (tb.getD 0 none)) := by
    have h1 : 0 < tb.length := by omega
    have h2 : atI (tb.map Mt.optI) ((0 : Nat) : Int) = some (Mt.optI (tb.getD 0 none)) := atI_nat (by rw [List.getElem?_map, List.getElem?_eq_getElem h1, List.getD_eq_getElem?_getD, List.getElem?_eq_getElem h1] <;> rfl)
    exact h2
  refine ⟨_, rfl, ?_⟩
  refine ⟨r, _, _, _, rfl, rfl, SqL.of hr2, hat0, ?_⟩
  cases h00 : tb.getD 0 none with
  | none =>
    refine ⟨_, rfl, ?_⟩
    refine iteT ?_
    walk_at "rd"
    refine ⟨p, _, rfl, .inl (hs02.seq hL), ?_⟩
    rw [List.length_map]
    walk_at "rd"
    refine ⟨d, kvs, pr, by rw [hnl]; rfl, hs2 _ _ hd1, by omega, hcs, fun m H3 hm hs3 => ?_⟩
    have hml := hm.le
    walk_at "rd"
    exact fun dx hdx => qx H3 dx m _ (hs02.trans hs3) hdx htab h00 hm
  | some c0 =>
  refine ⟨_, rfl, ?_⟩
  refine iteF ?_
  walk_at "rd"
  intro br hbr
  have hbr0 : H br = none := hs02.free hbr
  have hs2b := same_new hbr (.lst [])
  refine ⟨fun m σ H3 => ∃ (k : Nat) (bs : List Nat), m = pr.n - k ∧ k ≤ pr.n ∧ σ = [some (.ref l), some (.ref p), some (.int ms), some (.ref g), some (.ref d), some (.ref r), some (.ref br), some (.int (k : Int))] ∧ Same H2 H3 ∧ H3 br = some (.lst (bs.map fun b : Nat => V.int (b : Int))) ∧ bs.length ≤ k ∧ tb.getD k none ≠ none ∧ ∀ rest, Br.Brks pr (fun j => tb.getD j none) k rest → Br.Brks pr (fun j => tb.getD j none) 0 (bs ++ rest),
    ⟨_, 0, [], rfl, Nat.zero_le _, rfl, hs2b, upd_same, Nat.le_refl _, by rw [h00]; exact fun z => (by cases z), fun rest h => h⟩, ?_⟩
  rintro m σ H3 ⟨k, bs, rfl, hk, rfl, hs3, hb3, hbl, hkn, hrest⟩
  walk_at "rd"
  refine ⟨p, _, rfl, .inl ((hs02.trans hs3).seq hL), ?_⟩
  rw [List.length_map]
  walk_at "rd"
  refine ite2 (fun hlt => ?_) (fun hlt => ?_)
  · have hlt : (k : Int) < (ws.length : Int) := of_decide_eq_true hlt
    have hkl : k < pr.n := by omega
    have hktb : k < tb.length := by omega
    cases hkc : tb.getD k none with
    | none => exact absurd hkc hkn
    | some c =>
    have hat : atI (tb.map Mt.optI) (k : Int) = some (.int c) := atI_nat (by
      rw [List.getD_eq_getElem?_getD, List.getElem?_eq_getElem hktb] at hkc
      have hkc : tb[k] = some c := hkc
      rw [List.getElem?_map, List.getElem?_eq_getElem hktb, hkc] <;> rfl)
    obtain ⟨e0, he0⟩ := Br.good_some htab (Nat.zero_le k) hkl hkn
    obtain ⟨gm, hgm, hgo⟩ := great_of (f := fun j => tb.getD j none) hkc he0
    refine ⟨_, fun σ' H' h => h, ?_⟩
    walk_at "rd"
    refine ⟨d, r, kvs, tb, pr, k, rfl, (hs2.trans hs3) _ _ hd1, hcs, SqL.of (hs3 _ _ hr2), htl, hkl, by omega, fun rc xs H4 hrc0 hs4 hrc hpd => ?_⟩
    refine ⟨rc, rfl, ⟨_, SqL.of hrc⟩, fun D hD => ?_⟩
    have hcl := Paired.length hpd
    have hcl2 : (Br.chs pr (fun j => tb.getD j none) k (pr.n - k)).length ≤ pr.n - k := Br.fm_len _ _
    refine comp_list (a := rc) (xs := xs) (fun j ys σ H5 => ∃ (v8 v9 : Option V), ys = ((((Br.chs pr (fun j => tb.getD j none) k (pr.n - k)).take j).filter fun x => decide (x.1 = c)).map fun x => ((x.2 : Nat) : Int)).map V.int ∧ σ = [some (.ref l), some (.ref p), some (.int ms), some (.ref g), some (.ref d), some (.ref r), some (.ref br), some (.int (k : Int)), v8, v9] ∧ Same H4 H5 ∧ H5 D = some (.lst ys))
      ?_ ?_ ?_ ?_
    · exact ⟨none, none, rfl, rfl, same_new hD _, upd_same⟩
    · exact fun j ys σ H5 _ ⟨_, _, _, _, hs5, _⟩ => SqL.of (hs5 _ _ hrc)
    · rintro j y ys σ H5 hy hjl ⟨v8, v9, rfl, rfl, hs5, hh5⟩
      obtain ⟨x, hxj, t, rfl, ht⟩ := Cs.pd_get hpd hy
      have hr5 : H5 r = some (.lst (tb.map Mt.optI)) := ((hs3.trans hs4).trans hs5) _ _ hr2
      have htk : (Br.chs pr (fun j => tb.getD j none) k (pr.n - k)).take (j + 1) = (Br.chs pr (fun j => tb.getD j none) k (pr.n - k)).take j ++ [x] := by rw [List.take_add_one, hxj]; rfl
      have hfl := List.length_filter_le (fun x : Int × Nat => decide (x.1 = c)) ((Br.chs pr (fun j => tb.getD j none) k (pr.n - k)).take j)
      rw [List.length_take] at hfl
      refine ⟨_, _, rfl, SqT.of (hs5 _ _ ht), rfl, ?_⟩
      walk_at "tg"
      walk_at "tg"
      walk_at "rd"
      rw [decV]
      refine ite2 (fun c1 => ?_) (fun c1 => ?_)
      · walk_at "rd"
        refine cnext hjl hh5 (by rw [List.length_map, List.length_map]; omega) ⟨_, _, ?_, rfl, same_upd hs5 hD, upd_same⟩
        rw [htk, List.filter_append, List.map_append, List.map_append]
        congr 1
        rw [List.filter_cons, if_pos c1]
        rfl
      · refine cskip hjl ⟨_, _, ?_, rfl, hs5, hh5⟩
        rw [htk, List.filter_append, List.filter_cons, if_neg c1]
        show _ = List.map V.int (List.map _ (_ ++ []))
        rw [List.append_nil]
    · rintro ys σ H5 ⟨v8, v9, rfl, rfl, hs5, hh5⟩
      rw [hcl, List.take_of_length_le (Nat.le_refl _)] at hh5
      have hs35 := hs4.trans hs5
      have hb5 := hs35 _ _ hb3
      refine ⟨D, _, _, rfl, SqL.of hh5, hgo, ?_⟩
      walk_at "rd"
      refine ⟨.inl ⟨rfl, _, SqL.of hb5⟩, ?_⟩
      walk_at "rd"
      refine ⟨br, _, _, rfl, rfl, hb5, smallLt (by rw [List.length_map]; omega), ?_⟩
      obtain ⟨g1, g2, ga, gb, g3, g4, g5⟩ := hgm.1
      refine ⟨pr.n - gm, by omega, gm, bs ++ [gm], rfl, g2, rfl, same_upd (hs3.trans hs35) hbr, by rw [upd_same, List.map_append]; rfl, by rw [List.length_append]; show _ + 1 ≤ _; omega, ?_, fun rest h => ?_⟩
      · have g4 : tb.getD gm none = some gb := g4
        rw [g4]
        exact fun z => (by cases z)
      · rw [List.append_assoc]
        exact hrest _ (.step hkl hgm h)
  · have hkn2 : k = pr.n := by
      have : ¬ (k : Int) < (ws.length : Int) := fun z => hlt (decide_eq_true z)
      omega
    subst hkn2
    walk_at "rd"
    have hb := hrest [] .done
    rw [List.append_nil] at hb
    subst hpr
    exact q br bs _ H3 hbr0 (hs02.trans hs3) hb3 htab hb
def sp_break_table (K : PySem.W.Frag) : Sp := fun vs H Q _ => ∃ (l p g : Addr) (rs : List Cs.Row) (ws : List Str) (ms lo ideal hi : Int), vs = [.ref l, .ref p, .int ms, .ref g] ∧ Cs.CaseAt K H l rs ∧ SqL K H p (ws.map V.str) ∧ ws.length ≤ 63 ∧ (∀ x ∈ ws, x.length ≤ 1000 ∧ ∀ c ∈ x.cps.toList, (Cs.place rs (sg c)).isSome = true) ∧ (∀ x ∈ ws, 0 ≤ Cs.wideOf rs x ∧ Cs.wideOf rs x ≤ 100000) ∧
  H g = some (.tup [.int lo, .int ideal, .int hi]) ∧ 0 ≤ ideal ∧ ideal ≤ 1000 ∧ 0 ≤ ms ∧ ms ≤ 1000000 ∧ ∀ (r : Addr) (tb : List (Option Int)) (H' : Hp), H r = none → Same H H' → H' r = some (.lst (tb.map Mt.optI)) → tb.length = ws.length + 1 → Br.Tab (parOf rs ws ms lo ideal hi) (fun j => tb.getD j none) 0 → Q (.ref r) H'
theorem ok_break_table (T : Tx K mg a) : FnOk P w K mg base CX0 4 a.f_break_table a.d_break_table ["case", "words", "measure", "gaps"] (sp_break_table K) := by
  have G_costs_of := ok_costs_of (P := P) (w := w) (base := base) T
  have G_table_of := ok_table_of (P := P) (w := w) (base := base) T
  refine T.break_table.fn.ok sc_break_table (fun vs H Q E h => ?_) (fun cdv A outer s H vs Q E hr h => ?_)
  · obtain ⟨l, p, g, rs, ws, ms, lo, ideal, hi, rfl, _⟩ := h
    rfl
  obtain ⟨l, p, g, rs, ws, ms, lo, ideal, hi, rfl, hC, hL, hwl, hw, hwb, hG, hi0, hi1, hm0, hm1, q⟩ := h
  refine ⟨_, (pss_one (ps_ret (pcall T.table_of G_table_of hr rfl (pa_cons (pcall T.costs_of G_costs_of hr rfl (pa_cons (pv 0) (pa_cons (pv 1) (pa_cons (pv 2) (pa_cons (pv 3) pa_nil))))) (pa_cons (pe_callB (klen_seq K rfl) rfl T.b_len bt_len (pa_cons (pv 1) pa_nil)) pa_nil))))), ?_⟩
  have hnl : (parOf rs ws ms lo ideal hi).n = ws.length := List.length_map _
  walk_at "rd"
  refine ⟨l, p, g, rs, ws, ms, lo, ideal, hi, rfl, hC, hL, hwl, hw, hwb, hG, hi0, hi1, hm0, hm1, fun d kvs H1 hd0 hs1 hd1 hcs => ?_⟩
  walk_at "rd"
  refine ⟨p, _, rfl, .inl (hs1.seq hL), ?_⟩
  rw [List.length_map]
  refine ⟨d, kvs, parOf rs ws ms lo ideal hi, by rw [hnl]; rfl, hd1, hcs, by omega, fun r tb H2 hr0 hs2 hr2 htl htab => ?_⟩
  exact q r tb H2 (hs1.free hr0) (hs1.trans hs2) hr2 (by rw [htl, hnl]) htab
def sp_law_cell (K : PySem.W.Frag) : Sp := fun vs H Q _ => ∃ (l : Addr) (k : Int) (ns : List Int), vs = [.ref l, .int k] ∧ SqL K H l (ns.map V.int) ∧ 0 ≤ k ∧ ∀ z, Q (.int z) H
theorem ok_law_cell (T : Tx K mg a) : FnOk P w K mg base CX0 1 a.f_law_cell a.d_law_cell ["_law_script", "_law_k"] (sp_law_cell K) := by
  refine T.law_cell.fn.ok sc_law_cell (fun vs H Q E h => ?_) (fun cdv A outer s H vs Q E hr h => ?_)
  · obtain ⟨l, k, ns, rfl, _⟩ := h
    rfl
  obtain ⟨l, k, ns, rfl, hS, h0, q⟩ := h
  refine ⟨_, (pss_cons (ps_if (pt_cmpR op_lt (pv 1) (pe_callB (klen_seq K rfl) rfl T.b_len bt_len (pa_cons (pv 0) pa_nil)) (nomark _)) (pss_one (ps_ret (pe_ix (kix_list K rfl) (pv 0) (pv 1) (fun _ _ => rfl)))) pss_nil)
      (pss_one (ps_ret pe_int))), ?_⟩
  walk_at "rd"
  refine ⟨l, _, rfl, .inl hS, ?_⟩
  walk_at "rd"
  refine ite2 (fun c => ?_) (fun c => ?_)
  · have c' := of_decide_eq_true c
    rw [List.length_map] at c'
    walk_at "rd"
    exact ⟨l, _, _, _, rfl, rfl, hS, atI_getD h0 c', q _⟩
  · exact q _
def sp_law_stream : Sp := fun vs H Q _ => ∃ c n : Int, vs = [.int c, .int n] ∧ 0 ≤ n ∧ n ≤ 1000 ∧
  ∀ (zs : List Int) (r : Addr) (H' : Hp), (zs.length : Int) = n → (∀ z ∈ zs, 0 ≤ z ∧ z < 33554432) → H r = none → Same H H' → H' r = some (.lst (zs.map V.int)) → Q (.ref r) H'
theorem ok_law_stream (T : Tx K mg a) : FnOk P w K mg base CX0 1 a.f_law_stream a.d_law_stream ["_law_cell_here", "_law_many"] sp_law_stream := by
  refine T.law_stream.fn.ok sc_law_stream (fun vs H Q E h => ?_) (fun cdv A outer s H vs Q E hr h => ?_)
  · obtain ⟨c, n, rfl, _⟩ := h
    rfl
  obtain ⟨c, n, rfl, h0, h1, q⟩ := h
  refine ⟨_, (pss_cons (ps_set (i := 2) sc_law_stream.nd rfl (Or.inl rfl) (pe_op op_add (pe_op op_mod (pv 0) pe_int) pe_int))
      (pss_cons (ps_set (i := 3) sc_law_stream.nd rfl (Or.inl rfl) (pe_lst pa_nil))
      (pss_cons (ps_for PassesOwn.never rfl (pi_range1 rfl T.b_range (pa_cons (pv 1) pa_nil)) (pg_name (i := 4) sc_law_stream.nd rfl (Or.inl rfl)) (pss_cons (ps_set (i := 2) sc_law_stream.nd rfl (Or.inl rfl) (pe_op op_mod (pe_op op_add (pe_op op_add (pe_op op_add (pe_op op_mul (pv 2) (pv 2)) (pe_op op_mul pe_int (pv 2))) (pe_op op_mul pe_int (pv 4))) pe_int) pe_int))
      (pss_one (ps_expr (kpe_bm K rfl PySem.F.plainAttrs_list PySem.F.slot_list_append PySem.F.type_list_append mt_append (pv 3) (pa_cons (pe_op op_fdiv (pv 2) pe_int) pa_nil))))))
      (pss_one (ps_ret (pv 3)))))), ?_⟩
  walk_at "rd"
  intro r hr'
  walk_at "rd"
  have hc0 := Int.emod_nonneg c (show (2147483647 : Int) ≠ 0 by decide)
  have hc1 := Int.emod_lt_of_pos c (show (0 : Int) < 2147483647 by decide)
  refine for_range (n := n.toNat) (fun i σ H2 => ∃ (x : Int) (zs : List Int) (v : Option V), σ = [some (.int c), some (.int n), some (.int x), some (.ref r), v] ∧ 0 ≤ x ∧ x < 2147600000 ∧ zs.length = i ∧ (∀ z ∈ zs, 0 ≤ z ∧ z < 33554432) ∧ Same H H2 ∧ H2 r = some (.lst (zs.map V.int)))
    ⟨_, [], none, rfl, by omega, by omega, rfl, (fun z hz => nomatch hz), same_new hr' _, upd_same⟩ ?_ ?_
  · rintro i σ H2 hi ⟨x, zs, v, rfl, hx0, hx1, hl, hz, hs, hh⟩
    walk_at "rd"
    refine ⟨.inl ⟨rfl, _, SqL.of hh⟩, ?_⟩
    walk_at "rd"
    refine ⟨_, _, _, rfl, rfl, hh, smallLt (by rw [List.length_map]; omega), ?_⟩
    have hm0 := Int.emod_nonneg (x * x + 48271 * x + 7 * (0 + (i : Int)) + 1) (show (2147483647 : Int) ≠ 0 by decide)
    have hm1 := Int.emod_lt_of_pos (x * x + 48271 * x + 7 * (0 + (i : Int)) + 1) (show (0 : Int) < 2147483647 by decide)
    refine ⟨_, zs ++ [((x * x + 48271 * x + 7 * (0 + (i : Int)) + 1) % 2147483647) / 64], _, rfl, hm0, by omega, by rw [List.length_append, hl]; rfl, fun z hz' => ?_, same_upd hs hr', ?_⟩
    · rcases List.mem_append.mp hz' with q | q
      · exact hz z q
      · rw [List.mem_singleton.mp q]
        omega
    · rw [upd_same, List.map_append]; rfl
  · rintro σ H2 ⟨x, zs, v, rfl, hx0, hx1, hl, hz, hs, hh⟩
    walk_at "rd"
    exact q zs r H2 (by omega) hz hr' hs hh
def wideI : List (List Int) := [[1, 2, 3], [5, 7, 9], [1, 9, 30], [4, 4, 5]]
theorem wideI_b : ∀ ns ∈ wideI, ns.length = 3 ∧ ∀ n ∈ ns, 1 ≤ n ∧ n ≤ 30 := by decide
def sp_law_case : Sp := fun vs H Q _ => ∃ c : Int, vs = [.int c] ∧
  ∀ (r : Addr) (xs : List V) (rs : List Cs.Row) (H' : Hp), H r = none → Same H H' → H' r = some (.lst xs) → Paired (Cs.RowAt H') xs rs → Ln.AbcCase rs → Q (.ref r) H'
theorem ok_law_case (T : Tx K mg a) : FnOk P w K mg base CX0 2 a.f_law_case a.d_law_case ["_law_cell_here"] sp_law_case := by
  have G_law_stream := ok_law_stream (P := P) (w := w) (base := base) T
  refine T.law_case.fn.ok sc_law_case (fun vs H Q E h => ?_) (fun cdv A outer s H vs Q E hr h => ?_)
  · obtain ⟨c, rfl, _⟩ := h
    rfl
  obtain ⟨c, rfl, q⟩ := h
  refine' ⟨_, pss_cons ?A ?B, ?R⟩
  case A => exact (ps_set (i := 1) sc_law_case.nd rfl (Or.inr rfl) (pcall T.law_stream G_law_stream hr rfl (pa_cons (pv 0) (pa_cons pe_int pa_nil))))
  case B => 
    refine' pss_cons ?A ?B
    case A =>
      refine' ps_set (i := 2) ?z ?a ?b ?E ?F ?G
      case z => exact sc_law_case.nd
      case a => exact rfl
      case b => exact Or.inr rfl
      case F => rfl
      case G => first | exact .inl rfl | exact .inr rfl
      case E =>
        refine' pe_ix ?p ?q ?r ?s
        case p => exact kix_list K rfl
        case s => exact (fun _ _ => rfl)
        case r => exact (pe_op op_mod (pe_ix (kix_list K rfl) (pv 1) pe_int (fun _ _ => rfl)) pe_int)
        case q =>
          refine' pe_lst ?l
          case l =>
            refine' pa_cons ?x ?y ?h
            case h => rfl
            case x =>
              refine' pe_lst ?l
              case l => exact (pa_cons pe_int (pa_cons pe_int (pa_cons pe_int pa_nil)))
            case y =>
              refine' pa_cons ?x ?y ?h
              case h => rfl
              case x =>
                refine' pe_lst ?l
                case l => exact (pa_cons pe_int (pa_cons pe_int (pa_cons pe_int pa_nil)))
              case y =>
                refine' pa_cons ?x ?y ?h
                case h => rfl
                case x =>
                  refine' pe_lst ?l
                  case l => exact (pa_cons pe_int (pa_cons pe_int (pa_cons pe_int pa_nil)))
                case y =>
                  refine' pa_cons ?x ?y ?h
                  case h => rfl
                  case x =>
                    refine' pe_lst ?l
                    case l => exact (pa_cons pe_int (pa_cons pe_int (pa_cons pe_int pa_nil)))
                  case y =>
                    exact pa_nil
    case B => exact (pss_one (ps_ret (pe_compG rfl (pi_range1 rfl T.b_range (pa_cons pe_int pa_nil)) (BlkOk.of (N' := ["_law_cell_here", "_law_some", "_law_widths_here", "_law_k"]) (ms := []) (k := 1) (by rfl)) (fun _ _ _ _ _ => (pg_name (i := 3) (show List.Nodup (["_law_cell_here", "_law_some", "_law_widths_here", "_law_k"] : List Str) from by decide +kernel) rfl (Or.inl rfl))) (fun _ _ _ _ _ => pts_nil) (fun _ _ _ _ _ => (pe_tup (pa_cons (pe_ix ix_str pe_str (pv 3) (fun _ _ => rfl)) (pa_cons (pe_op op_add (pe_ix (kix_list K rfl) (pv 2) (pe_op op_mod (pe_ix (kix_list K rfl) (pv 1) (pv 3) (fun _ _ => rfl)) pe_int) (fun _ _ => rfl)) (pe_op op_mod (pe_op op_fdiv (pe_ix (kix_list K rfl) (pv 1) (pv 3) (fun _ _ => rfl)) pe_int) pe_int)) (pa_cons (pe_op op_add pe_int (pv 3)) (pa_cons (pe_op op_mod (pe_op op_fdiv (pe_ix (kix_list K rfl) (pv 1) (pv 3) (fun _ _ => rfl)) pe_int) pe_int) pa_nil)))))))))
  walk_at "rd"
  refine ⟨_, _, rfl, by decide, by decide, fun zs r H1 hzl hz hr1 hs1 hh1 => ?_⟩
  obtain ⟨z7, e7, h70, _⟩ := ints_at hz (i := 7) (by decide) (by omega)
  walk_at "rd"
  intro p1 hp1
  walk_at "rd"
  intro p2 hp2
  walk_at "rd"
  intro p3 hp3
  walk_at "rd"
  intro p4 hp4
  walk_at "rd"
  intro p5 hp5
  walk_at "rd"
  have hs5 := same_add (o := .lst [.ref p1, .ref p2, .ref p3, .ref p4]) (same_add (o := .lst [.int 4, .int 4, .int 5]) (same_add (o := .lst [.int 1, .int 9, .int 30]) (same_add (o := .lst [.int 5, .int 7, .int 9]) (same_new hp1 (.lst [.int 1, .int 2, .int 3])) hp2) hp3) hp4) hp5
  have pick : ∃ (b : Addr) (ns : List Int), atI [V.ref p1, V.ref p2, V.ref p3, V.ref p4] (z7 % 4) = some (.ref b) ∧ ns ∈ wideI ∧ (upd (upd (upd (upd (upd H1 p1 (.lst [.int 1, .int 2, .int 3])) p2 (.lst [.int 5, .int 7, .int 9])) p3 (.lst [.int 1, .int 9, .int 30])) p4 (.lst [.int 4, .int 4, .int 5])) p5 (.lst [.ref p1, .ref p2, .ref p3, .ref p4])) b = some (.lst (ns.map V.int)) := by
    have hx : z7 % 4 = 0 ∨ z7 % 4 = 1 ∨ z7 % 4 = 2 ∨ z7 % 4 = 3 := by omega
    rcases hx with e | e | e | e <;> rw [e]
    · exact ⟨p1, [1, 2, 3], rfl, by decide, by walk_at "hk"⟩
    · exact ⟨p2, [5, 7, 9], rfl, by decide, by walk_at "hk"⟩
    · exact ⟨p3, [1, 9, 30], rfl, by decide, by walk_at "hk"⟩
    · exact ⟨p4, [4, 4, 5], rfl, by decide, by walk_at "hk"⟩
  obtain ⟨b, ns, eb, hns, hb⟩ := pick
  have h5r := hs5 _ _ hh1
  obtain ⟨hnl, hnb⟩ := wideI_b ns hns
  refine ⟨_, _, _, _, rfl, rfl, SqL.of upd_same, eb, ?_⟩
  generalize upd (upd (upd (upd (upd H1 p1 (.lst [.int 1, .int 2, .int 3])) p2 (.lst [.int 5, .int 7, .int 9])) p3 (.lst [.int 1, .int 9, .int 30])) p4 (.lst [.int 4, .int 4, .int 5])) p5 (.lst [.ref p1, .ref p2, .ref p3, .ref p4]) = H5 at hb hs5 h5r ⊢
  walk_at "rd"
  intro D hD
  refine comp_range (n := 6) (fun i ys σ H2 => ∃ (rs : List Cs.Row) (v3 : Option V), σ = [some (.int c), some (.ref r), some (.ref b), v3] ∧ Same H5 H2 ∧ H2 D = some (.lst ys) ∧ Paired (Cs.RowAt H2) ys rs ∧ (rs.map fun x => x.s) = (Ln.abc.take i).map sg ∧ ∀ x ∈ rs, 1 ≤ x.w ∧ x.w ≤ 100)
    ?_ ?_ ?_
  · exact ⟨[], none, rfl, same_new hD _, upd_same, .nil, rfl, fun x h => nomatch h⟩
  · rintro i ys σ H2 hi ⟨rs, v3, rfl, hs2, hh2, hpd, hsg, hwb⟩
    obtain ⟨ch, hcm, hci, ec⟩ := Ln.abc_at (i := 0 + (i : Int)) (by omega) (by omega)
    rw [show (0 + (i : Int)).toNat = i by omega] at hci
    obtain ⟨zk, ek, hk0, _⟩ := ints_at hz (i := 0 + (i : Int)) (by omega) (by omega)
    obtain ⟨wv, hwv, ew⟩ := ints_mem (zs := ns) (i := zk % 3) (by omega) (by rw [hnl]; omega)
    have hwv' := hnb wv hwv
    have hr2 := hs2 _ _ h5r
    have hb2 := hs2 _ _ hb
    have hyl : ys.length ≤ 6 := by
      have h1 := congrArg List.length hsg
      rw [List.length_map, List.length_map, List.length_take] at h1
      rw [Cs.rows_len hpd, h1]
      omega
    walk_at "rd"
    refine ⟨_, _, _, rfl, rfl, by decide, ec, ?_⟩
    walk_at "rd"
    intro t ht
    refine cnext (ys := ys) hi (same_new ht _ _ _ hh2) (by omega) ⟨rs ++ [⟨sg ch, wv + zk / 8 % 2, 10 + (0 + (i : Int)), zk / 16 % 6⟩], _, rfl, same_upd (same_add hs2 ht) hD, upd_same, ?_, ?_, ?_⟩
    · refine Paired.snoc (Cs.rows_upd (Cs.rows_same hpd (same_new ht _)) (same_new ht _ _ _ hh2) (fun z e => by cases e)) ⟨t, rfl, ?_⟩
      rw [upd_ne (ne_of (H := upd H2 t (.tup (Cs.rowV ⟨sg ch, wv + zk / 8 % 2, 10 + (0 + (i : Int)), zk / 16 % 6⟩))) upd_same (same_new ht _ _ _ hh2) (fun e => by cases e)), upd_same]
      rfl
    · rw [List.map_append, hsg, List.take_add_one, hci, List.map_append]
      rfl
    · intro x hx
      rcases List.mem_append.mp hx with h | h
      · exact hwb x h
      · rw [List.mem_singleton.mp h]
        show 1 ≤ wv + zk / 8 % 2 ∧ wv + zk / 8 % 2 ≤ 100
        omega
  · rintro ys σ H2 ⟨rs, v3, rfl, hs2, hh2, hpd, hsg, hwb⟩
    exact q D ys rs H2 ((hs1.trans hs5).free hD) ((hs1.trans hs5).trans hs2) hh2 hpd ⟨hsg, hwb⟩
def sp_law_words (K : PySem.W.Frag) : Sp := fun vs H Q _ => ∃ (p : Addr) (ms : List Int), vs = [.ref p] ∧ SqL K H p (ms.map V.int) ∧ ms.length ≤ 100 ∧
  ∀ (r : Addr) (ws : List Str) H', H r = none → Same H H' → H' r = some (.lst (ws.map V.str)) → ws.length = ms.length → (∀ x ∈ ws, Ln.AbcWord x) → Q (.ref r) H'
theorem ok_law_words (T : Tx K mg a) : FnOk P w K mg base CX0 2 a.f_law_words a.d_law_words ["_law_cells"] (sp_law_words K) := by
  have G_law_stream := ok_law_stream (P := P) (w := w) (base := base) T
  refine T.law_words.fn.ok sc_law_words (fun vs H Q E h => ?_) (fun cdv A outer s H vs Q E hr h => ?_)
  · obtain ⟨p, ms, rfl, _⟩ := h
    rfl
  obtain ⟨p, ms, rfl, hS, hml, q⟩ := h
  refine ⟨_, (pss_cons (ps_set (i := 1) sc_law_words.nd rfl (Or.inl rfl) (pe_lst pa_nil))
      (pss_cons (ps_for PassesOwn.never rfl (kpi_list K rfl (pv 0)) (pg_name (i := 2) sc_law_words.nd rfl (Or.inl rfl)) (pss_cons (ps_set (i := 3) sc_law_words.nd rfl (Or.inl rfl) (pcall T.law_stream G_law_stream hr rfl (pa_cons (pv 2) (pa_cons pe_int pa_nil))))
      (pss_cons (ps_set (i := 4) sc_law_words.nd rfl (Or.inl rfl) pe_str)
      (pss_cons (ps_for PassesOwn.never rfl (pi_range1 rfl T.b_range (pa_cons (pe_op op_add pe_int (pe_op op_mod (pe_ix (kix_list K rfl) (pv 3) pe_int (fun _ _ => rfl)) (pe_ix (kix_list K rfl) (pe_lst (pa_cons pe_int (pa_cons pe_int (pa_cons pe_int pa_nil)))) (pe_op op_mod (pv 2) pe_int) (fun _ _ => rfl)))) pa_nil)) (pg_name (i := 5) sc_law_words.nd rfl (Or.inl rfl)) (pss_one (ps_set (i := 4) sc_law_words.nd rfl (Or.inl rfl) (pe_op op_add_str (pv 4) (pe_ix ix_str pe_str (pe_op op_mod (pe_ix (kix_list K rfl) (pv 3) (pv 5) (fun _ _ => rfl)) pe_int) (fun _ _ => rfl))))))
      (pss_one (ps_expr (kpe_bm K rfl PySem.F.plainAttrs_list PySem.F.slot_list_append PySem.F.type_list_append mt_append (pv 1) (pa_cons (pv 4) pa_nil))))))))
      (pss_one (ps_ret (pv 1))))), ?_⟩
  walk_at "rd"
  intro r hr'
  refine ⟨_, rfl, ?_⟩
  refine ⟨p, rfl, ⟨_, (same_new hr' _).seq hS⟩, ?_⟩
  refine for_list (a := p) (xs := ms.map V.int) (fun i σ H2 => ∃ (ws : List Str) (v2 v3 v4 v5 : Option V), σ = [some (.ref p), some (.ref r), v2, v3, v4, v5] ∧ Same H H2 ∧ H2 r = some (.lst (ws.map V.str)) ∧ ws.length = i ∧ ∀ x ∈ ws, Ln.AbcWord x)
    ⟨[], none, none, none, none, rfl, same_new hr' _, upd_same, rfl, fun x h => nomatch h⟩ (fun i σ H2 _ ⟨_, _, _, _, _, _, hs, _⟩ => hs.seq hS) ?_ ?_
  · rintro i y σ H2 hy ⟨ws, v2, v3, v4, v5, rfl, hs, hh, hwl, hw⟩
    have hil : i < ms.length := by
      obtain ⟨h1, _⟩ := List.getElem?_eq_some_iff.mp hy
      rwa [List.length_map] at h1
    obtain ⟨c, rfl, _⟩ := map_int_get hy
    walk_at "rd"
    refine ⟨_, _, rfl, by decide, by decide, fun zs rz H3 hzl hz hrz hs3 hh3 => ?_⟩
    obtain ⟨z6, e6, h60, _⟩ := ints_at hz (i := 6) (by decide) (by omega)
    obtain ⟨m, hm, em⟩ := ints_mem (zs := [1, 3, 6]) (i := c % 3) (by omega) (by show c % 3 < 3; omega)
    have hm' : 1 ≤ m ∧ m ≤ 6 := by simp at hm; omega
    have hx0 := Int.emod_nonneg z6 (show m ≠ 0 by omega)
    have hx1 := Int.emod_lt_of_pos z6 (show 0 < m by omega)
    walk_at "rd"
    intro p1 hp1
    walk_at "rd"
    have h4r : (upd H3 p1 (.lst (([1, 3, 6] : List Int).map V.int))) r = some (.lst (ws.map V.str)) := same_new hp1 _ _ _ (hs3 _ _ hh)
    refine for_range (n := (1 + z6 % m).toNat) (fun j σ H4 => ∃ (x : Str) (v5 : Option V), σ = [some (.ref p), some (.ref r), some (.int c), some (.ref rz), some (.str x), v5] ∧ H4 = upd H3 p1 (.lst (([1, 3, 6] : List Int).map V.int)) ∧ x.length = j ∧ ∀ d ∈ x.cps.toList, d ∈ Ln.abc)
      ⟨"", _, rfl, rfl, by decide, fun d h => by rw [show (Str.ofString "").cps.toList = [] by decide] at h; cases h⟩ ?_ ?_
    · rintro j σ H4 hj ⟨x, v5, rfl, rfl, hxl, hxc⟩
      obtain ⟨zk, ek, hk0, _⟩ := ints_at hz (i := 0 + (j : Int)) (by omega) (by omega)
      obtain ⟨ch, hcm, _, ec⟩ := Ln.abc_at (i := zk % 6) (by omega) (by omega)
      walk_at "rd"
      refine ⟨_, _, _, rfl, rfl, by decide, ec, ?_⟩
      refine ⟨_, _, rfl, rfl, smallL (by show x.length + 1 ≤ _; omega), ?_⟩
      refine ⟨x ++ sg ch, _, rfl, rfl, ?_, fun d hd => ?_⟩
      · rw [Str.length_append, hxl]
        rfl
      · rw [Str.cps_append, Array.toList_append] at hd
        rcases List.mem_append.mp hd with h | h
        · exact hxc d h
        · have : d = ch := by simpa [sg] using h
          rw [this]
          exact hcm
    · rintro σ H4 ⟨x, v5, rfl, rfl, hxl, hxc⟩
      walk_at "rd"
      refine ⟨.inl ⟨rfl, _, SqL.of h4r⟩, ?_⟩
      walk_at "rd"
      refine ⟨_, _, _, rfl, rfl, h4r, smallLt (by rw [List.length_map]; omega), ?_⟩
      refine ⟨ws ++ [x], _, _, _, _, rfl, same_upd (same_add (hs.trans hs3) hp1) hr', by rw [upd_same, List.map_append]; rfl, by rw [List.length_append, hwl]; rfl, fun y hy' => ?_⟩
      rcases List.mem_append.mp hy' with h | h
      · exact hw y h
      · rw [List.mem_singleton.mp h]
        exact ⟨by omega, by omega, hxc⟩
  · rintro σ H2 ⟨ws, v2, v3, v4, v5, rfl, hs, hh, hwl, hw⟩
    walk_at "rd"
    rw [List.length_map] at hwl
    exact q r ws H2 hr' hs hh hwl hw
def sp_law_widths (K : PySem.W.Frag) : Sp := fun vs H Q _ => ∃ (l p : Addr) (rs : List Cs.Row) (ws : List Str), vs = [.ref l, .ref p] ∧ Cs.CaseAt K H l rs ∧ (rs.map fun r => r.s).Nodup ∧ rs.length ≤ 1000 ∧ SqL K H p (ws.map V.str) ∧ ws.length ≤ 1000 ∧ (∀ x ∈ ws, x.length ≤ 1000 ∧ ∀ c ∈ x.cps.toList, (Cs.place rs (sg c)).isSome = true) ∧
  ∀ (r : Addr) H', H r = none → Same H H' → H' r = some (.lst ((ws.map fun x => Cs.wideOf rs x).map V.int)) → Q (.ref r) H'
theorem ok_law_widths (T : Tx K mg a) : FnOk P w K mg base CX0 1 a.f_law_widths a.d_law_widths ["_law_case_here", "_law_words_here"] (sp_law_widths K) := by
  refine T.law_widths.fn.ok sc_law_widths (fun vs H Q E h => ?_) (fun cdv A outer s H vs Q E hr h => ?_)
  · obtain ⟨l, p, rs, ws, rfl, _⟩ := h
    rfl
  obtain ⟨l, p, rs, ws, rfl, hC, hnd, hl, hL, hwl, hw, q⟩ := h
  obtain ⟨xs, hS, hp⟩ := hC
  refine ⟨_, (pss_cons (ps_set (i := 2) sc_law_widths.nd rfl (Or.inr rfl) pe_dnewK)
      (pss_cons (ps_for PassesOwn.never rfl (kpi_list K rfl (pv 0)) (kpg_tup K rfl (n := 4) rfl (pgs_cons (pg_name (i := 3) sc_law_widths.nd rfl (Or.inl rfl)) (pgs_cons (pg_name (i := 4) sc_law_widths.nd rfl (Or.inl rfl)) (pgs_cons (pg_name (i := 5) sc_law_widths.nd rfl (Or.inl rfl)) (pgs_cons (pg_name (i := 6) sc_law_widths.nd rfl (Or.inl rfl)) pgs_nil))))) (pss_one (ps_dput (hu_of hr) (pv 2) (pv 3) (pv 4) rfl)))
      (pss_one (ps_ret (pe_compG rfl (kpi_list K rfl (pv 1)) (BlkOk.of (N' := ["_law_case_here", "_law_words_here", "_law_width", "_law_sign", "_law_wide", "_law_teeth", "_law_many", "_law_word"]) (ms := []) (k := 1) (by rfl)) (fun _ _ _ _ _ => (pg_name (i := 7) (show List.Nodup (["_law_case_here", "_law_words_here", "_law_width", "_law_sign", "_law_wide", "_law_teeth", "_law_many", "_law_word"] : List Str) from by decide +kernel) rfl (Or.inl rfl))) (fun _ _ _ _ _ => pts_nil) (fun _ _ _ _ _ => (pe_callB (ksum K rfl rfl) rfl T.b_sum bt_sum (pa_cons (pe_compG rfl (pi_str (pv 7)) (BlkOk.of (N' := ["_law_case_here", "_law_words_here", "_law_width", "_law_sign", "_law_wide", "_law_teeth", "_law_many", "_law_word"]) (ms := [3]) (k := 0) (by rfl)) (fun _ _ _ _ _ => (pg_name (i := 3) (show List.Nodup (["_law_case_here", "_law_words_here", "_law_width", "_law_sign", "_law_wide", "_law_teeth", "_law_many", "_law_word"] : List Str) from by decide +kernel) rfl (Or.inl rfl))) (fun _ _ _ _ _ => pts_nil) (fun _ _ _ _ _ => (pe_dget (hu_of hr) (pv 2) (pv 3) (fun _ _ => rfl)))) pa_nil)))))))), ?_⟩
  have hxl := Cs.rows_len hp
  walk_at "rd"
  intro d hd
  refine ⟨_, rfl, ?_⟩
  refine ⟨l, rfl, ⟨_, (same_new hd _).seq hS⟩, ?_⟩
  refine for_list (a := l) (xs := xs) (fun i σ H2 => ∃ (v3 v4 v5 v6 : Option V), σ = [some (.ref l), some (.ref p), some (.ref d), v3, v4, v5, v6] ∧ Same H H2 ∧ H2 d = some (.dK (Cs.wdict (rs.take i))))
    ⟨none, none, none, none, rfl, same_new hd _, upd_same⟩ (fun i σ H2 _ ⟨_, _, _, _, _, hs, _⟩ => hs.seq hS) ?_ ?_
  · rintro i y σ H2 hy ⟨v3, v4, v5, v6, rfl, hs, hh⟩
    obtain ⟨r, hri, t, rfl, ht⟩ := Cs.pd_get hp hy
    refine ⟨_, _, rfl, SqT.of (hs _ _ ht), rfl, ?_⟩
    walk_at "tg"
    walk_at "tg"
    walk_at "tg"
    walk_at "tg"
    refine And.intro rfl ?_
    refine ⟨_, rfl, ?_⟩
    refine ⟨_, rfl, ?_⟩
    refine ⟨_, rfl, ?_⟩
    have hwl := Cs.wdict_len (rs.take i)
    rw [List.length_take] at hwl
    refine ⟨d, _, rfl, DPut.k (k := Sum.inr r.s) hh (smallLt (by omega)), ?_⟩
    refine ⟨_, _, _, _, rfl, same_upd hs hd, ?_⟩
    rw [upd_same, List.take_add_one, hri]
    show _ = some (HO.dK (Cs.wdict (rs.take i ++ [r])))
    rw [Cs.wdict_snoc]
  · rintro σ H2 ⟨v3, v4, v5, v6, rfl, hs, hh⟩
    rw [hxl, List.take_of_length_le (Nat.le_refl _)] at hh
    refine ⟨_, rfl, ?_⟩
    refine ⟨p, rfl, ⟨_, hs.seq hL⟩, fun D hD => ?_⟩
    have hD0 := hs.free hD
    refine comp_list (a := p) (xs := ws.map V.str) (fun i ys σ H3 => ∃ (w3 v7 : Option V), ys = ((ws.take i).map fun x => Cs.wideOf rs x).map V.int ∧ σ = [some (.ref l), some (.ref p), some (.ref d), w3, v4, v5, v6, v7] ∧ Same H2 H3 ∧ H3 D = some (.lst ys))
      ?_ ?_ ?_ ?_
    · exact ⟨_, none, rfl, rfl, same_new hD _, upd_same⟩
    · exact fun i ys σ H3 _ ⟨_, _, _, _, hs3, _⟩ => (hs.trans hs3).seq hL
    · rintro i y ys σ H3 hy hil ⟨w3, v7, rfl, rfl, hs3, hh3⟩
      obtain ⟨x, rfl, hxi⟩ := map_str_get hy
      obtain ⟨hxl', hxp⟩ := hw x (List.mem_of_getElem? hxi)
      have hxs : x.cps.size ≤ 1000 := hxl'
      have hil2 : i < ws.length := by rwa [List.length_map] at hil
      walk_at "rd"
      intro D2 hD2
      refine comp_str (x := x) (fun j zs σ H4 => ∃ (v3 : Option V), zs = ((x.cps.toList.take j).map fun c => Cs.wideAt rs (sg c)).map V.int ∧ σ = [some (.ref l), some (.ref p), some (.ref d), v3, v4, v5, v6, some (.str x)] ∧ Same H3 H4 ∧ H4 D2 = some (.lst zs))
        ?_ ?_ ?_
      · exact ⟨_, rfl, rfl, same_new hD2 _, upd_same⟩
      · rintro j c zs σ H4 hc hjl ⟨u3, rfl, rfl, hs4, hh4⟩
        have hc' : x.cps.toList[j]? = some c := by simpa using hc
        refine ⟨_, rfl, ?_⟩
        refine ⟨_, rfl, ?_⟩
        have hg := DGet.k (k := Sum.inr (sg c)) (hs4 _ _ (hs3 _ _ hh))
        rw [Cs.wdict_wide hnd (hxp c (List.mem_of_getElem? hc'))] at hg
        refine ⟨d, _, rfl, hg, ?_⟩
        refine cnext hjl hh4 ?_ ⟨_, ?_, rfl, same_upd hs4 hD2, upd_same⟩
        · rw [List.length_map, List.length_map, List.length_take]
          omega
        · rw [List.take_add_one, hc', List.map_append, List.map_append]
          rfl
      · rintro zs σ H4 ⟨u3, rfl, rfl, hs4, hh4⟩
        rw [List.take_of_length_le (by simp)] at hh4
        refine ⟨D2, _, rfl, SqL.of hh4, ?_⟩
        refine cnext hil (hs4 _ _ hh3) ?_ ⟨_, _, ?_, rfl, same_upd (hs3.trans hs4) hD, upd_same⟩
        · rw [List.length_map, List.length_map, List.length_take]
          omega
        · rw [List.take_add_one, hxi, List.map_append, List.map_append]
          rfl
    · rintro ys σ H3 ⟨w3, v7, rfl, rfl, hs3, hh3⟩
      rw [List.length_map, List.take_of_length_le (Nat.le_refl _)] at hh3
      exact q D H3 hD0 (hs.trans hs3) hh3
theorem cut_most (xs : List V) {m : Int} (h : 0 ≤ m) : ((cutV xs (some 3) (some (3 + m))).length : Int) ≤ m := by
  unfold cutV
  rw [List.length_take, List.length_drop]
  have e1 : HT.sIx xs.length 0 (some (3 : Int)) = min 3 xs.length := HT.sIx_nat xs.length 0 3
  have e2 : (3 : Int) + m = ((3 + m.toNat : Nat) : Int) := by omega
  rw [e1, e2, HT.sIx_nat]
  omega
def sp_law_drawn (K : PySem.W.Frag) : Sp := fun vs H Q _ => ∃ (l : Addr) (ns : List Int) (most : Int), vs = [.ref l, .int most] ∧ SqL K H l (ns.map V.int) ∧ ns.length ≤ 63 ∧ 1 ≤ most ∧ most ≤ 60 ∧
  ∀ (H' : Hp) (t : Addr) (xs : List V) (rs : List Cs.Row) (ws : List Str) (c p g : Addr) (ms lo ideal hi : Int), Same H H' → Ln.Dr H' t xs rs ws c p g ms lo ideal hi → (ws.length : Int) ≤ most → Q (.ref t) H'
theorem ok_law_drawn (T : Tx K mg a) : FnOk P w K mg base CX0 3 a.f_law_drawn a.d_law_drawn ["_law_script", "_law_most"] (sp_law_drawn K) := by
  have G_law_cell := ok_law_cell (P := P) (w := w) (base := base) T
  have G_law_stream := ok_law_stream (P := P) (w := w) (base := base) T
  have G_law_case := ok_law_case (P := P) (w := w) (base := base) T
  have G_law_words := ok_law_words (P := P) (w := w) (base := base) T
  have G_law_widths := ok_law_widths (P := P) (w := w) (base := base) T
  refine T.law_drawn.fn.ok sc_law_drawn (fun vs H Q E h => ?_) (fun cdv A outer s H vs Q E hr h => ?_)
  · obtain ⟨l, ns, most, rfl, _⟩ := h
    rfl
  obtain ⟨l, ns, most, rfl, hS, hnl, hm1, hm2, q⟩ := h
  refine ⟨_, (pss_cons (ps_set (i := 2) sc_law_drawn.nd rfl (Or.inl rfl) (pcall T.law_case G_law_case hr rfl (pa_cons (pcall T.law_cell G_law_cell hr rfl (pa_cons (pv 0) (pa_cons pe_int pa_nil))) pa_nil)))
      (pss_cons (ps_set (i := 3) sc_law_drawn.nd rfl (Or.inl rfl) (pcall T.law_words G_law_words hr rfl (pa_cons (kpe_orL K rfl (pe_slice (ksl_list K rfl) (pv 0) (po_some pe_int) (po_some (pe_op op_add pe_int (pv 1)))) (pe_one (pe_lst (pa_cons pe_int pa_nil)))) pa_nil)))
      (pss_cons (ps_set (i := 4) sc_law_drawn.nd rfl (Or.inl rfl) (pcall T.law_widths G_law_widths hr rfl (pa_cons (pv 2) (pa_cons (pv 3) pa_nil))))
      (pss_cons (ps_set (i := 5) sc_law_drawn.nd rfl (Or.inl rfl) (pcall T.law_stream G_law_stream hr rfl (pa_cons (pcall T.law_cell G_law_cell hr rfl (pa_cons (pv 0) (pa_cons pe_int pa_nil))) (pa_cons pe_int pa_nil))))
      (pss_cons (ps_set (i := 6) sc_law_drawn.nd rfl (Or.inl rfl) (pe_op op_mod (pe_ix (kix_list K rfl) (pv 5) pe_int (fun _ _ => rfl)) pe_int))
      (pss_cons (ps_set (i := 7) sc_law_drawn.nd rfl (Or.inl rfl) (pe_op op_add (pv 6) (pe_op op_mod (pe_ix (kix_list K rfl) (pv 5) pe_int (fun _ _ => rfl)) pe_int)))
      (pss_cons (ps_set (i := 8) sc_law_drawn.nd rfl (Or.inl rfl) (pe_tup (pa_cons (pv 6) (pa_cons (pv 7) (pa_cons (pe_op op_add (pv 7) (pe_ix (kix_list K rfl) (pe_lst (pa_cons pe_int (pa_cons pe_int (pa_cons pe_int (pa_cons pe_int (pa_cons pe_int pa_nil)))))) (pe_op op_mod (pe_ix (kix_list K rfl) (pv 5) pe_int (fun _ _ => rfl)) pe_int) (fun _ _ => rfl))) pa_nil)))))
      (pss_cons (ps_set (i := 9) sc_law_drawn.nd rfl (Or.inl rfl) (pe_op op_add pe_int (pe_op op_mod (pe_ix (kix_list K rfl) (pv 5) pe_int (fun _ _ => rfl)) (pe_callB (klen_seq K rfl) rfl T.b_len bt_len (pa_cons (pv 3) pa_nil)))))
      (pss_cons (ps_set (i := 10) sc_law_drawn.nd rfl (Or.inl rfl) (pe_op op_mod (pe_op op_fdiv (pe_ix (kix_list K rfl) (pv 5) pe_int (fun _ _ => rfl)) pe_int) (pe_op op_add (pe_op op_sub (pe_callB (klen_seq K rfl) rfl T.b_len bt_len (pa_cons (pv 3) pa_nil)) (pv 9)) pe_int)))
      (pss_cons (ps_set (i := 11) sc_law_drawn.nd rfl (Or.inl rfl) (pe_op op_add (pe_callB (ksum K rfl rfl) rfl T.b_sum bt_sum (pa_cons (pe_slice (ksl_list K rfl) (pv 4) (po_some (pv 10)) (po_some (pe_op op_add (pv 10) (pv 9)))) pa_nil)) (pe_op op_mul (pv 7) (pe_op op_sub (pv 9) pe_int))))
      (pss_cons (ps_set (i := 12) sc_law_drawn.nd rfl (Or.inl rfl) (pe_callB (call_max2 rfl) rfl T.b_max bt_max (pa_cons pe_int (pa_cons (pe_callB (call_min2 rfl) rfl T.b_min bt_min (pa_cons pe_int (pa_cons (pe_op op_add (pv 11) (pe_op op_mod (pcall T.law_cell G_law_cell hr rfl (pa_cons (pv 0) (pa_cons pe_int pa_nil))) (pe_ix (kix_list K rfl) (pe_lst (pa_cons pe_int (pa_cons pe_int (pa_cons pe_int (pa_cons pe_int pa_nil))))) (pe_op op_mod (pe_ix (kix_list K rfl) (pv 5) pe_int (fun _ _ => rfl)) pe_int) (fun _ _ => rfl)))) pa_nil))) pa_nil))))
      (pss_one (ps_ret (pe_tup (pa_cons (pv 2) (pa_cons (pv 3) (pa_cons (pv 12) (pa_cons (pv 8) pa_nil)))))))))))))))))), ?_⟩
  walk_at "rd"
  refine ⟨l, 0, ns, rfl, hS, by decide, fun z0 => ?_⟩
  refine ⟨_, rfl, fun c xs rs H1 hc0 hs1 hc1 hpd habc => ?_⟩
  walk_at "rd"
  refine ⟨l, _, rfl, hs1.seq hS, fun p1 hp1 => ?_⟩
  obtain ⟨ms, ecut, hms⟩ := Cs.cut_any ns (some 3) (some (3 + most))
  have hmm : (ms.length : Int) ≤ most := by
    have h1 := congrArg List.length ecut
    have h2 := cut_most (ns.map V.int) (by omega : 0 ≤ most)
    rw [List.length_map] at h1
    omega
  rw [ecut]
  refine ⟨p1, _, rfl, SqL.of upd_same, fun v H2 => ∃ (pp : Addr) (ks : List Int), v = .ref pp ∧ Same H1 H2 ∧ H2 pp = some (.lst (ks.map V.int)) ∧ 1 ≤ ks.length ∧ ks.length ≤ 63 ∧ (ks.length : Int) ≤ most, fun hne => ?_, fun he => ?_, ?_⟩
  · refine ⟨p1, ms, rfl, same_new hp1 _, upd_same, ?_, by omega, hmm⟩
    cases ms with
    | nil => exact absurd rfl hne
    | cons z zs => exact Nat.succ_le_succ (Nat.zero_le _)
  · walk_at "rd"
    intro p2 hp2
    exact ⟨p2, [7], rfl, same_add (same_new hp1 _) hp2, upd_same, by decide, by decide, by show (1 : Int) ≤ most; omega⟩
  rintro v H2 ⟨pp, ks, rfl, hs2, hpp, hk1, hk2, hk3⟩
  refine ⟨pp, ks, rfl, SqL.of hpp, by omega, fun p ws H3 hp0 hs3 hp3 hwl hwok => ?_⟩
  have hs13 := hs2.trans hs3
  have hs03 := hs1.trans hs13
  walk_at "rd"
  refine ⟨c, p, rs, ws, rfl, ⟨xs, SqL.of (hs13 _ _ hc1), Cs.rows_same hpd hs13⟩, habc.nd, by rw [habc.len]; decide, SqL.of hp3, by omega, Ln.abc_ok habc hwok, fun pw H4 hq0 hs4 hq4 => ?_⟩
  walk_at "rd"
  refine ⟨l, 1, ns, rfl, (hs03.trans hs4).seq hS, by decide, fun z1 => ?_⟩
  refine ⟨_, _, rfl, by decide, by decide, fun zs r5 H5 hzl hz hr5 hs5 hh5 => ?_⟩
  obtain ⟨w0, e0, h00, _⟩ := ints_at hz (i := 0) (by decide) (by omega)
  obtain ⟨w1, e1, h10, _⟩ := ints_at hz (i := 1) (by decide) (by omega)
  obtain ⟨w2, e2, h20, _⟩ := ints_at hz (i := 2) (by decide) (by omega)
  obtain ⟨w3, e3, h30, h31⟩ := ints_at hz (i := 3) (by decide) (by omega)
  obtain ⟨hv, hhv, ehv⟩ := ints_mem (zs := [0, 1, 3, 9, 40]) (i := w2 % 5) (by omega) (by show w2 % 5 < 5; omega)
  have hhv' : 0 ≤ hv ∧ hv ≤ 40 := by simp at hhv; omega
  walk_at "rd"
  intro p6 hp6
  walk_at "rd"
  intro g hg
  dsimp only
  have hs6 : Same H5 (upd (upd H5 p6 (.lst [.int 0, .int 1, .int 3, .int 9, .int 40])) g (.tup [.int (w0 % 4), .int (w0 % 4 + w1 % 4), .int (w0 % 4 + w1 % 4 + hv)])) := same_add (same_new hp6 _) hg
  have hG6 : (upd (upd H5 p6 (.lst [.int 0, .int 1, .int 3, .int 9, .int 40])) g (.tup [.int (w0 % 4), .int (w0 % 4 + w1 % 4), .int (w0 % 4 + w1 % 4 + hv)])) g = some (.tup [.int (w0 % 4), .int (w0 % 4 + w1 % 4), .int (w0 % 4 + w1 % 4 + hv)]) := upd_same
  revert hs6 hG6
  generalize hH6 : upd (upd H5 p6 (.lst [.int 0, .int 1, .int 3, .int 9, .int 40])) g (.tup [.int (w0 % 4), .int (w0 % 4 + w1 % 4), .int (w0 % 4 + w1 % 4 + hv)]) = H6
  intro hs6 hG6
  have hh6 := hs6 _ _ hh5
  have hs36 := hs4.trans (hs5.trans hs6)
  have hs06 := hs03.trans hs36
  have hp6' := hs36 _ _ hp3
  have hw6 := (hs5.trans hs6) _ _ hq4
  have hwp : (0 : Int) < ws.length := by omega
  have hx0 := Int.emod_nonneg w3 (show (ws.length : Int) ≠ 0 by omega)
  have hx1 := Int.emod_lt_of_pos w3 hwp
  have hy0 : (0 : Int) < (ws.length : Int) - (1 + w3 % ws.length) + 1 := by omega
  have hmn : 0 ≤ 1 + w3 % (ws.length : Int) - 1 ∧ 1 + w3 % (ws.length : Int) - 1 ≤ 1000 := by omega
  walk_at "rd"
  refine ⟨p, _, rfl, .inl (SqL.of hp6'), ?_⟩
  rw [List.length_map]
  refine ⟨_, _, rfl, rfl, hwp, ?_⟩
  walk_at "rd"
  refine ⟨p, _, rfl, .inl (SqL.of hp6'), ?_⟩
  rw [List.length_map]
  walk_at "rd"
  refine ⟨pw, _, rfl, SqL.of hw6, fun p7 hp7 => ?_⟩
  obtain ⟨ys, ecut2, _⟩ := Cs.cut_any (ws.map fun x => Cs.wideOf rs x) (some (w3 / 64 % ((ws.length : Int) - (1 + w3 % ws.length) + 1))) (some (w3 / 64 % ((ws.length : Int) - (1 + w3 % ws.length) + 1) + (1 + w3 % (ws.length : Int))))
  dsimp only
  rw [ecut2]
  refine ⟨p7, ys, rfl, SqL.of upd_same, ?_⟩
  have hs7 := same_new hp7 (.lst (ys.map V.int))
  have hr7 := hs7 _ _ hh6
  have hS7 := (hs06.trans hs7).seq hS
  generalize upd H6 p7 (.lst (ys.map V.int)) = H7 at hs7 hr7 hS7 ⊢
  obtain ⟨nv, hnv, env⟩ := ints_mem (zs := [1, 3, 9, 30]) (i := w3 % 4) (by omega) (by show w3 % 4 < 4; omega)
  have hnv' : 1 ≤ nv ∧ nv ≤ 30 := by simp at hnv; omega
  walk_at "rd"
  refine ⟨l, 2, ns, rfl, hS7, by decide, fun z2 => ?_⟩
  walk_at "rd"
  intro p8 hp8
  walk_at "rd"
  refine ⟨_, _, rfl, ?_⟩
  refine ⟨_, _, rfl, ?_⟩
  dsimp only
  generalize List.sum ys + (w0 % 4 + w1 % 4) * (1 + w3 % (ws.length : Int) - 1) + z2 % nv = near
  walk_at "rd"
  intro t ht
  have hsF := same_add (o := .tup [.ref c, .ref p, .int (if (if near < 2000 then near else 2000) > 1 then (if near < 2000 then near else 2000) else 1), .ref g]) (same_add (o := .lst [.int 1, .int 3, .int 9, .int 30]) hs7 hp8) ht
  have hs1F := (hs13.trans hs36).trans hsF
  refine q _ t xs rs ws c p g _ _ _ _ (hs06.trans hsF) ⟨upd_same, hs1F _ _ hc1, Cs.rows_same hpd hs1F, habc, (hs36.trans hsF) _ _ hp3, hwok, by omega, by omega, hsF _ _ hG6, by omega, by omega, by omega, by omega, ?_, ?_⟩ (by rw [hwl]; exact hk3)
  · split <;> omega
  · split <;> (try split) <;> omega
/-- a list of numbers, elsewhere than D -/
def NlAt (D : Addr) (H : Hp) (v : V) (w : List Nat) : Prop := ∃ a, v = .ref a ∧ a ≠ D ∧ H a = some (.lst (w.map natV))
theorem nls_same {D : Addr} {H H' : Hp} {xs : List V} {ws : List (List Nat)} (h : Paired (NlAt D H) xs ws) (s : Same H H') : Paired (NlAt D H') xs ws := Paired.mapP h fun _ _ ⟨a, e, n, z⟩ => ⟨a, e, n, s _ _ z⟩
theorem nls_upd {D : Addr} {H : Hp} {o : HO} {xs : List V} {ws : List (List Nat)} (h : Paired (NlAt D H) xs ws) : Paired (NlAt D (upd H D o)) xs ws := Paired.mapP h fun _ _ ⟨a, e, n, z⟩ => ⟨a, e, n, by rw [upd_ne n]; exact z⟩
theorem nls_new {D p : Addr} {H : Hp} {o : HO} {xs : List V} {ws : List (List Nat)} (h : Paired (NlAt D H) xs ws) (hp : H p = none) : Paired (NlAt p (upd H p o)) xs ws := Paired.mapP h fun _ _ ⟨a, e, n, z⟩ => ⟨a, e, ne_of_none z hp, by rw [upd_ne (ne_of_none z hp)]; exact z⟩
theorem paired_app {α β : Type} {F : α → β → Prop} : ∀ {xs ys : List α} {us ws : List β}, Paired F xs us → Paired F ys ws → Paired F (xs ++ ys) (us ++ ws)
  | _, _, _, _, .nil, s => s
  | _, _, _, _, .cons r t, s => .cons r (paired_app t s)
theorem subs_wlen : ∀ (m : Nat) (w : List Nat), w ∈ Br.subs m → w.length ≤ m
  | 0, w, h => by rw [List.mem_singleton.mp h]; exact Nat.le_refl _
  | m + 1, w, h => by
    have h : w ∈ Br.subs m ++ (Br.subs m).map (· ++ [m + 1]) := h
    rcases List.mem_append.mp h with h | h
    · have := subs_wlen m w h
      omega
    · obtain ⟨v, hv, rfl⟩ := List.mem_map.mp h
      have := subs_wlen m v hv
      rw [List.length_append]
      show v.length + 1 ≤ _
      omega
def sp_law_ways : Sp := fun vs H Q _ => ∃ n : Nat, vs = [.int (n : Int)] ∧ 1 ≤ n ∧ n ≤ 9 ∧ ∀ (r : Addr) (xs : List V) (H' : Hp), Same H H' → H' r = some (.lst xs) → Paired (NlAt r H') xs (Br.ways n) → Q (.ref r) H'
theorem ok_law_ways (T : Tx K mg a) : FnOk P w K mg base CX0 1 a.f_law_ways a.d_law_ways ["_law_many"] sp_law_ways := by
  refine T.law_ways.fn.ok sc_law_ways (fun vs H Q E h => ?_) (fun cdv A outer s H vs Q E hr h => ?_)
  · obtain ⟨n, rfl, _⟩ := h
    rfl
  obtain ⟨n, rfl, hn1, hn2, q⟩ := h
  have hsub : ∀ {i : Nat}, i ≤ 8 → (Br.subs i).length ≤ 256 := fun {i} hi => by
    rw [Br.subs_len]
    have : 2 ^ i ≤ 2 ^ 8 := Nat.pow_le_pow_right (by decide) hi
    exact this
  refine ⟨_, (pss_cons (ps_set (i := 1) sc_law_ways.nd rfl (Or.inl rfl) (pe_lst (pa_cons (pe_lst pa_nil) pa_nil)))
      (pss_cons (ps_for PassesOwn.never rfl (pi_range2 rfl T.b_range (pa_cons pe_int (pa_cons (pv 0) pa_nil))) (pg_name (i := 2) sc_law_ways.nd rfl (Or.inr rfl)) (pss_one (ps_set (i := 1) sc_law_ways.nd rfl (Or.inl rfl) (pe_op op_cat (pv 1) (pe_compG rfl (kpi_list K rfl (pv 1)) (BlkOk.of (N' := ["_law_many", "_law_found", "_law_k", "_law_way"]) (ms := []) (k := 1) (by rfl)) (fun _ _ _ _ _ => (pg_name (i := 3) (show List.Nodup (["_law_many", "_law_found", "_law_k", "_law_way"] : List Str) from by decide +kernel) rfl (Or.inl rfl))) (fun _ _ _ _ _ => pts_nil) (fun _ _ _ _ _ => (pe_op op_cat (pv 3) (pe_lst (pa_cons (pv 2) pa_nil)))))))))
      (pss_one (ps_ret (pe_compG rfl (kpi_list K rfl (pv 1)) (BlkOk.of (N' := ["_law_many", "_law_found", "_law_k", "_law_way"]) (ms := []) (k := 1) (by rfl)) (fun _ _ _ _ _ => (pg_name (i := 3) (show List.Nodup (["_law_many", "_law_found", "_law_k", "_law_way"] : List Str) from by decide +kernel) rfl (Or.inl rfl))) (fun _ _ _ _ _ => pts_nil) (fun _ _ _ _ _ => (pe_op op_cat (pv 3) (pe_lst (pa_cons (pv 0) pa_nil))))))))), ?_⟩
  walk_at "rd"
  intro p0 hp0
  walk_at "rd"
  intro p1 hp1
  walk_at "rd"
  refine ⟨_, _, rfl, ⟨by omega, by omega, by omega, by omega⟩, ?_⟩
  refine for_range (lo := 1) (n := ((n : Int) - 1).toNat) (fun i σ H5 => ∃ (r : Addr) (xs : List V) (v2 : Option V), σ = [some (.int (n : Int)), some (.ref r), v2] ∧ Same H H5 ∧ H5 r = some (.lst xs) ∧ Paired (NlAt r H5) xs (Br.subs i))
    ⟨p1, _, none, rfl, same_add (same_new hp0 _) hp1, upd_same, .cons ⟨p0, rfl, ne_of_none upd_same hp1, by rw [upd_ne (ne_of_none upd_same hp1)]; exact upd_same⟩ .nil⟩ ?_ ?_
  · rintro i σ H5 hi ⟨r, xs, v2, rfl, hs5, hr5, hpd⟩
    have ev : (1 : Int) + (i : Int) = ((i + 1 : Nat) : Int) := by omega
    rw [ev]
    have hxl := Paired.length hpd
    have hsl := hsub (i := i) (by omega)
    walk_at "rd"
    refine ⟨⟨_, SqL.of hr5⟩, fun D hD => ?_⟩
    refine comp_list (a := r) (xs := xs) (fun j ys σ H6 => ∃ (v3 : Option V), σ = [some (.int (n : Int)), some (.ref r), some (.int ((i + 1 : Nat) : Int)), v3] ∧ Same H5 H6 ∧ H6 D = some (.lst ys) ∧ Paired (NlAt D H6) ys (((Br.subs i).take j).map (· ++ [i + 1])))
      ?_ ?_ ?_ ?_
    · exact ⟨none, rfl, same_new hD _, upd_same, .nil⟩
    · exact fun j ys σ H6 _ ⟨_, _, hs, _⟩ => SqL.of (hs _ _ hr5)
    · rintro j y ys σ H6 hy hjl ⟨v3, rfl, hs6, hh6, hpy⟩
      obtain ⟨wy, hwj, aw, rfl, haD, haw⟩ := Cs.pd_get hpd hy
      have hyl := Paired.length hpy
      rw [List.length_map, List.length_take] at hyl
      have hwl : wy.length ≤ 8 := by
        have := subs_wlen i _ (List.mem_of_getElem? hwj)
        omega
      have haw6 := hs6 _ _ haw
      walk_at "rd"
      intro pk hpk
      refine ⟨aw, pk, _, _, rfl, rfl, same_new hpk _ _ _ haw6, upd_same, smallL (by rw [List.length_map]; show _ + 1 ≤ _; omega), fun pn hpn => ?_⟩
      have hs7 : Same H6 (upd (upd H6 pk (.lst [V.int ((i + 1 : Nat) : Int)])) pn (.lst (wy.map natV ++ [V.int ((i + 1 : Nat) : Int)]))) := same_add (same_new hpk _) hpn
      have hn7 : upd (upd H6 pk (.lst [V.int ((i + 1 : Nat) : Int)])) pn (.lst (wy.map natV ++ [V.int ((i + 1 : Nat) : Int)])) pn = some (.lst ((wy ++ [i + 1]).map natV)) := by rw [upd_same, List.map_append]; rfl
      have hnD : pn ≠ D := fun z => by
        have h1 := same_new hpk (.lst [V.int ((i + 1 : Nat) : Int)]) _ _ hh6
        rw [← z, hpn] at h1
        cases h1
      generalize upd (upd H6 pk (.lst [V.int ((i + 1 : Nat) : Int)])) pn (.lst (wy.map natV ++ [V.int ((i + 1 : Nat) : Int)])) = H7 at hs7 hn7 ⊢
      refine cnext hjl (hs7 _ _ hh6) (by omega) ⟨_, rfl, same_upd (hs6.trans hs7) hD, upd_same, ?_⟩
      rw [List.take_add_one, hwj, List.map_append]
      exact paired_app (nls_upd (nls_same hpy hs7)) (.cons ⟨pn, rfl, hnD, by rw [upd_ne hnD]; exact hn7⟩ .nil)
    · rintro ys σ H6 ⟨v3, rfl, hs6, hh6, hpy⟩
      rw [hxl, List.take_of_length_le (Nat.le_refl _)] at hpy
      have hyl := Paired.length hpy
      rw [List.length_map] at hyl
      refine ⟨r, D, xs, ys, rfl, rfl, hs6 _ _ hr5, hh6, smallL (by omega), fun pn hpn => ?_⟩
      refine ⟨pn, _, _, rfl, same_add (hs5.trans hs6) hpn, upd_same, ?_⟩
      exact paired_app (nls_new (nls_same hpd hs6) hpn) (nls_new hpy hpn)
  · rintro σ H5 ⟨r, xs, v2, rfl, hs5, hr5, hpd⟩
    have en : ((n : Int) - 1).toNat = n - 1 := by omega
    rw [en] at hpd
    have hxl := Paired.length hpd
    have hsl := hsub (i := n - 1) (by omega)
    walk_at "rd"
    refine ⟨⟨_, SqL.of hr5⟩, fun D hD => ?_⟩
    refine comp_list (a := r) (xs := xs) (fun j ys σ H6 => ∃ (v3 : Option V), σ = [some (.int (n : Int)), some (.ref r), v2, v3] ∧ Same H5 H6 ∧ H6 D = some (.lst ys) ∧ Paired (NlAt D H6) ys (((Br.subs (n - 1)).take j).map (· ++ [n])))
      ?_ ?_ ?_ ?_
    · exact ⟨none, rfl, same_new hD _, upd_same, .nil⟩
    · exact fun j ys σ H6 _ ⟨_, _, hs, _⟩ => SqL.of (hs _ _ hr5)
    · rintro j y ys σ H6 hy hjl ⟨v3, rfl, hs6, hh6, hpy⟩
      obtain ⟨wy, hwj, aw, rfl, haD, haw⟩ := Cs.pd_get hpd hy
      have hyl := Paired.length hpy
      rw [List.length_map, List.length_take] at hyl
      have hwl : wy.length ≤ 8 := by
        have := subs_wlen (n - 1) _ (List.mem_of_getElem? hwj)
        omega
      have haw6 := hs6 _ _ haw
      walk_at "rd"
      intro pk hpk
      refine ⟨aw, pk, _, _, rfl, rfl, same_new hpk _ _ _ haw6, upd_same, smallL (by rw [List.length_map]; show _ + 1 ≤ _; omega), fun pn hpn => ?_⟩
      have hs7 : Same H6 (upd (upd H6 pk (.lst [V.int (n : Int)])) pn (.lst (wy.map natV ++ [V.int (n : Int)]))) := same_add (same_new hpk _) hpn
      have hn7 : upd (upd H6 pk (.lst [V.int (n : Int)])) pn (.lst (wy.map natV ++ [V.int (n : Int)])) pn = some (.lst ((wy ++ [n]).map natV)) := by rw [upd_same, List.map_append]; rfl
      have hnD : pn ≠ D := fun z => by
        have h1 := same_new hpk (.lst [V.int (n : Int)]) _ _ hh6
        rw [← z, hpn] at h1
        cases h1
      generalize upd (upd H6 pk (.lst [V.int (n : Int)])) pn (.lst (wy.map natV ++ [V.int (n : Int)])) = H7 at hs7 hn7 ⊢
      refine cnext hjl (hs7 _ _ hh6) (by omega) ⟨_, rfl, same_upd (hs6.trans hs7) hD, upd_same, ?_⟩
      rw [List.take_add_one, hwj, List.map_append]
      exact paired_app (nls_upd (nls_same hpy hs7)) (.cons ⟨pn, rfl, hnD, by rw [upd_ne hnD]; exact hn7⟩ .nil)
    · rintro ys σ H6 ⟨v3, rfl, hs6, hh6, hpy⟩
      rw [hxl, List.take_of_length_le (Nat.le_refl _)] at hpy
      exact q D ys H6 (hs5.trans hs6) hh6 hpy
/-- words that may be broken, with what they are set by -/
structure BrkIn (K : PySem.W.Frag) (H : Hp) (l p g : Addr) (rs : List Cs.Row) (ws : List Str) (ms lo ideal hi : Int) : Prop where
  cas : Cs.CaseAt K H l rs
  wrd : SqL K H p (ws.map V.str)
  few : ws.length ≤ 9
  ok : ∀ x ∈ ws, x.length ≤ 1000 ∧ ∀ c ∈ x.cps.toList, (Cs.place rs (sg c)).isSome = true
  wid : ∀ x ∈ ws, 0 ≤ Cs.wideOf rs x ∧ Cs.wideOf rs x ≤ 100000
  gap : H g = some (.tup [.int lo, .int ideal, .int hi])
  i0 : 0 ≤ ideal
  i1 : ideal ≤ 1000
  m0 : 0 ≤ ms
  m1 : ms ≤ 1000000
theorem BrkIn.same {K : PySem.W.Frag} {H H' : Hp} {l p g : Addr} {rs : List Cs.Row} {ws : List Str} {ms lo ideal hi : Int} (h : BrkIn K H l p g rs ws ms lo ideal hi) (s : Same H H') : BrkIn K H' l p g rs ws ms lo ideal hi :=
  ⟨h.cas.same s, s.seq h.wrd, h.few, h.ok, h.wid, s _ _ h.gap, h.i0, h.i1, h.m0, h.m1⟩
/-- what a line costs, as a full or as a last one -/
def cw (pr : Br.Par) (i j : Nat) (b : Bool) : Option Int := Ln.costW (Br.seg pr.zs i j) pr.ms pr.lo pr.ideal pr.hi b
/-- the dict holds the costs of the lines done so far -/
def CbD (pr : Br.Par) (kvs : List (BKey × Addr × V)) (D : Nat → Nat → Prop) : Prop := ∀ i j b, i < j → j ≤ pr.n → (D i j → valB kvs (i, j, b) = some (Mt.optI (cw pr i j b))) ∧ (¬ D i j → valB kvs (i, j, b) = none)
theorem CbD.iff {pr : Br.Par} {kvs : List (BKey × Addr × V)} {D E : Nat → Nat → Prop} (h : CbD pr kvs D) (e : ∀ i j, i < j → j ≤ pr.n → (D i j ↔ E i j)) : CbD pr kvs E := fun i j b hij hj =>
  ⟨fun z => (h i j b hij hj).1 ((e i j hij hj).mpr z), fun z => (h i j b hij hj).2 fun y => z ((e i j hij hj).mp y)⟩
theorem cb_ne {i j : Nat} {b : Bool} {i' j' : Nat} {b' : Bool} (h : ¬ (i = i' ∧ j = j')) : ¬ ((i, j, b) : BKey) = (i', j', b') := fun e => by
  injection e with e1 e2
  injection e2 with e2 _
  exact h ⟨e1, e2⟩
theorem CbD.put {pr : Br.Par} {kvs : List (BKey × Addr × V)} {i k : Nat} {a1 a2 : Addr} (h : CbD pr kvs fun a b => a < i ∨ (a = i ∧ b < i + 1 + k)) (hk : i + 1 + k ≤ pr.n) :
    valB kvs (i, i + 1 + k, true) = none ∧ valB (kvs ++ [((i, i + 1 + k, true), a1, Mt.optI (cw pr i (i + 1 + k) true))]) (i, i + 1 + k, false) = none ∧
    CbD pr ((kvs ++ [((i, i + 1 + k, true), a1, Mt.optI (cw pr i (i + 1 + k) true))]) ++ [((i, i + 1 + k, false), a2, Mt.optI (cw pr i (i + 1 + k) false))]) fun a b => a < i ∨ (a = i ∧ b < i + 1 + (k + 1)) := by
  have n1 : valB kvs (i, i + 1 + k, true) = none := (h i (i + 1 + k) true (by omega) hk).2 (by omega)
  have n2 : valB kvs (i, i + 1 + k, false) = none := (h i (i + 1 + k) false (by omega) hk).2 (by omega)
  have tf : ¬ ((i, i + 1 + k, false) : BKey) = (i, i + 1 + k, true) := fun e => by
    injection e with _ e2
    injection e2 with _ e3
    cases e3
  have n3 : valB (kvs ++ [((i, i + 1 + k, true), a1, Mt.optI (cw pr i (i + 1 + k) true))]) (i, i + 1 + k, false) = none := by
    rw [valB_snoc n1, if_neg tf]
    exact n2
  refine ⟨n1, n3, fun a b l hab hb => ?_⟩
  rw [valB_snoc n3, valB_snoc n1]
  have h0 := h a b l hab hb
  by_cases e : a = i ∧ b = i + 1 + k
  · obtain ⟨rfl, rfl⟩ := e
    refine ⟨fun _ => ?_, fun z => absurd (.inr ⟨rfl, by omega⟩) z⟩
    cases l with
    | false => rw [if_pos rfl]
    | true => rw [if_neg (fun z => tf z.symm), if_pos rfl]
  · rw [if_neg (cb_ne e), if_neg (cb_ne e)]
    exact ⟨fun z => h0.1 (by omega), fun z => h0.2 (by omega)⟩
def CbAll (pr : Br.Par) (kvs : List (BKey × Addr × V)) : Prop := ∀ i j b, i < j → j ≤ pr.n → valB kvs (i, j, b) = some (Mt.optI (cw pr i j b))
def sp_law_costs (P : Program) (w : World) (K : PySem.W.Frag) : Sp := fun vs H Q _ => ∃ (l p g : Addr) (rs : List Cs.Row) (ws : List Str) (ms lo ideal hi : Int), vs = [.ref l, .ref p, .int ms, .ref g] ∧ BrkIn K H l p g rs ws ms lo ideal hi ∧
  ∀ (d : Addr) (kvs : List (BKey × Addr × V)) (H' : Hp), Same H H' → DB P w H' d kvs → CbAll (parOf rs ws ms lo ideal hi) kvs → Q (.ref d) H'
theorem ok_law_costs (T : Tx K mg a) : FnOk P w K mg base CX0 5 a.f_law_costs a.d_law_costs ["_law_case_here", "_law_words_here", "_law_measure", "_law_gaps"] (sp_law_costs P w K) := by
  have G_line_cost := ok_line_cost (P := P) (w := w) (base := base) T
  refine T.law_costs.fn.ok sc_law_costs (fun vs H Q E h => ?_) (fun cdv A outer s H vs Q E hr h => ?_)
  · obtain ⟨l, p, g, rs, ws, ms, lo, ideal, hi, rfl, _⟩ := h
    rfl
  obtain ⟨l, p, g, rs, ws, ms, lo, ideal, hi, rfl, B, q⟩ := h
  have hfew := B.few
  have hnl : (parOf rs ws ms lo ideal hi).n = ws.length := List.length_map _
  have hcost : ∀ i j b, Ln.cost (ms - Cs.bodyOf rs ((ws.take j).drop i)) ((((ws.take j).drop i).length : Int) - 1) lo ideal hi b = cw (parOf rs ws ms lo ideal hi) i j b := fun i j b => by
    unfold cw Ln.costW Br.seg Cs.bodyOf
    rw [← List.map_take, ← List.map_drop, List.length_map]
  have hbody : ∀ i j, 0 ≤ Cs.bodyOf rs ((ws.take j).drop i) ∧ Cs.bodyOf rs ((ws.take j).drop i) ≤ 100000000 := fun i j => by
    unfold Cs.bodyOf
    have h1 := Ln.sum_bd (zs := ((ws.take j).drop i).map fun x => Cs.wideOf rs x) (B := 100000) (by decide) fun z hz => by
      obtain ⟨x, hx, rfl⟩ := List.mem_map.mp hz
      exact B.wid x (List.mem_of_mem_take (List.mem_of_mem_drop hx))
    have h2 : (((ws.take j).drop i).map fun x => Cs.wideOf rs x).length ≤ 9 := by rw [List.length_map, List.length_drop, List.length_take]; omega
    omega
  generalize hpr : parOf rs ws ms lo ideal hi = pr at q hnl hcost
  refine ⟨_, (pss_cons (ps_set (i := 4) sc_law_costs.nd rfl (Or.inl rfl) (pe_dnewB P w rfl rfl))
      (pss_cons (ps_for PassesOwn.never rfl (pi_range1 rfl T.b_range (pa_cons (pe_callB (klen_seq K rfl) rfl T.b_len bt_len (pa_cons (pv 1) pa_nil)) pa_nil)) (pg_name (i := 5) sc_law_costs.nd rfl (Or.inl rfl)) (pss_one (ps_for PassesOwn.never rfl (pi_range2 rfl T.b_range (pa_cons (pe_op op_add (pv 5) pe_int) (pa_cons (pe_op op_add (pe_callB (klen_seq K rfl) rfl T.b_len bt_len (pa_cons (pv 1) pa_nil)) pe_int) pa_nil))) (pg_name (i := 6) sc_law_costs.nd rfl (Or.inl rfl)) (pss_cons (ps_set (i := 7) sc_law_costs.nd rfl (Or.inl rfl) (pe_slice (ksl_list K rfl) (pv 1) (po_some (pv 5)) (po_some (pv 6))))
      (pss_cons (ps_dputB P w rfl rfl (hu_of hr) (pv 4) (pe_tup (pa_cons (pv 5) (pa_cons (pv 6) (pa_cons pe_bl pa_nil)))) (pcall T.line_cost G_line_cost hr rfl (pa_cons (pv 0) (pa_cons (pv 7) (pa_cons (pv 2) (pa_cons (pv 3) (pa_cons pe_bl pa_nil)))))) rfl)
      (pss_one (ps_dputB P w rfl rfl (hu_of hr) (pv 4) (pe_tup (pa_cons (pv 5) (pa_cons (pv 6) (pa_cons pe_bl pa_nil)))) (pcall T.line_cost G_line_cost hr rfl (pa_cons (pv 0) (pa_cons (pv 7) (pa_cons (pv 2) (pa_cons (pv 3) (pa_cons pe_bl pa_nil)))))) rfl)))))))
      (pss_one (ps_ret (pv 4))))), ?_⟩
  walk_at "rd"
  intro d hd
  have D0 : DB P w (upd H d (dB P w d [])) d [] := DB.nil
  have hs0 := same_new hd (dB P w d [])
  generalize upd H d (dB P w d []) = H0 at D0 hs0 ⊢
  walk_at "rd"
  refine ⟨p, _, rfl, .inl (hs0.seq B.wrd), ?_⟩
  rw [List.length_map]
  walk_at "rd"
  refine for_range (n := ws.length) (fun i σ H3 => ∃ (kvs : List (BKey × Addr × V)) (v5 v6 v7 : Option V), σ = [some (.ref l), some (.ref p), some (.int ms), some (.ref g), some (.ref d), v5, v6, v7] ∧ Same H H3 ∧ DB P w H3 d kvs ∧ kvs.length ≤ i * 100 ∧ CbD pr kvs fun a _ => a < i)
    ⟨[], none, none, none, rfl, hs0, D0, Nat.zero_le _, fun i j b _ _ => ⟨fun z => absurd z (Nat.not_lt_zero _), fun _ => rfl⟩⟩ ?_ ?_
  · rintro i σ H3 hin ⟨kvs, v5, v6, v7, rfl, hs3, D3, hkl, hcb⟩
    have ei : (0 : Int) + (i : Int) = (i : Int) := Int.zero_add _
    rw [ei]
    walk_at "rd"
    refine ⟨p, _, rfl, .inl (hs3.seq B.wrd), ?_⟩
    rw [List.length_map]
    walk_at "rd"
    refine ⟨_, _, rfl, ⟨by omega, by omega, by omega, by omega⟩, ?_⟩
    refine for_range (lo := (i : Int) + 1) (n := ((ws.length : Int) + 1 - ((i : Int) + 1)).toNat) (fun k σ H4 => ∃ (kvs : List (BKey × Addr × V)) (v6 v7 : Option V), σ = [some (.ref l), some (.ref p), some (.int ms), some (.ref g), some (.ref d), some (.int (i : Int)), v6, v7] ∧ Same H H4 ∧ DB P w H4 d kvs ∧ kvs.length ≤ i * 100 + 2 * k ∧ CbD pr kvs fun a b => a < i ∨ (a = i ∧ b < i + 1 + k))
      ⟨kvs, v6, v7, rfl, hs3, D3, hkl, hcb.iff fun a b hab hb => by omega⟩ ?_ ?_
    · rintro k σ H4 hk ⟨kvs, v6, v7, rfl, hs4, D4, hkl, hcb⟩
      have ek : (i : Int) + 1 + (k : Int) = ((i + 1 + k : Nat) : Int) := by omega
      rw [ek]
      have hkn : i + 1 + k ≤ ws.length := by omega
      walk_at "rd"
      refine ⟨p, _, rfl, hs4.seq B.wrd, fun p4 hp4 => ?_⟩
      rw [cut_map V.str ws i (i + 1 + k) hkn]
      have hs5 := same_new hp4 (.lst (((ws.take (i + 1 + k)).drop i).map V.str))
      have hp5 : upd H4 p4 (.lst (((ws.take (i + 1 + k)).drop i).map V.str)) p4 = some (.lst (((ws.take (i + 1 + k)).drop i).map V.str)) := upd_same
      generalize upd H4 p4 (.lst (((ws.take (i + 1 + k)).drop i).map V.str)) = H5 at hs5 hp5 ⊢
      have hs05 := hs4.trans hs5
      have hll : ((ws.take (i + 1 + k)).drop i).length = k + 1 := by rw [List.length_drop, List.length_take]; omega
      have hok : ∀ x ∈ (ws.take (i + 1 + k)).drop i, x.length ≤ 1000 ∧ ∀ c ∈ x.cps.toList, (Cs.place rs (sg c)).isSome = true := fun x hx => B.ok x (List.mem_of_mem_take (List.mem_of_mem_drop hx))
      have hbd := hbody i (i + 1 + k)
      walk_at "rd"
      have B5 := B.same hs05
      refine ⟨l, p4, g, rs, (ws.take (i + 1 + k)).drop i, ms, lo, ideal, hi, true, rfl, B5.cas, SqL.of hp5, by omega, by omega, hok, B5.gap, B.i0, B.i1, B.m0, B.m1, hbd.1, hbd.2, fun H6 hs6 => ?_⟩
      rw [hcost]
      walk_at "rd"
      intro b1 hb1
      have hs7 := same_new hb1 (.tup [.int (i : Int), .int ((i + 1 + k : Nat) : Int), .bl true])
      have hb7 : upd H6 b1 (.tup [.int (i : Int), .int ((i + 1 + k : Nat) : Int), .bl true]) b1 = some (.tup (bkV (i, i + 1 + k, true))) := upd_same
      generalize upd H6 b1 (.tup [.int (i : Int), .int ((i + 1 + k : Nat) : Int), .bl true]) = H7 at hs7 hb7 ⊢
      have D7 := D4.same (hs5.trans (hs6.trans hs7))
      obtain ⟨n1, n2, _⟩ := hcb.put (a1 := b1) (a2 := b1) (by rw [hnl]; exact hkn)
      refine ⟨d, b1, kvs, (i, i + 1 + k, true), rfl, rfl, D7, hb7, n1, smallLt (by omega), ?_⟩
      have hs07 := hs05.trans (hs6.trans hs7)
      have D8 := D7.put (v := Mt.optI (cw pr i (i + 1 + k) true)) hb7
      have hs8 : Same H (upd H7 d (dB P w d (kvs ++ [((i, i + 1 + k, true), b1, Mt.optI (cw pr i (i + 1 + k) true))]))) := same_upd hs07 hd
      have hp8 : (upd H7 d (dB P w d (kvs ++ [((i, i + 1 + k, true), b1, Mt.optI (cw pr i (i + 1 + k) true))]))) p4 = some (.lst (((ws.take (i + 1 + k)).drop i).map V.str)) := by
        have h1 := (hs6.trans hs7) _ _ hp5
        rw [upd_ne (ne_of h1 D7.at_ (fun z => by cases z))]
        exact h1
      generalize upd H7 d (dB P w d (kvs ++ [((i, i + 1 + k, true), b1, Mt.optI (cw pr i (i + 1 + k) true))])) = H8 at D8 hs8 hp8 ⊢
      have B8 := B.same hs8
      walk_at "rd"
      refine ⟨l, p4, g, rs, (ws.take (i + 1 + k)).drop i, ms, lo, ideal, hi, false, rfl, B8.cas, SqL.of hp8, by omega, by omega, hok, B8.gap, B.i0, B.i1, B.m0, B.m1, hbd.1, hbd.2, fun H9 hs9 => ?_⟩
      rw [hcost]
      walk_at "rd"
      intro b2 hb2
      have hs10 := same_new hb2 (.tup [.int (i : Int), .int ((i + 1 + k : Nat) : Int), .bl false])
      have hb10 : upd H9 b2 (.tup [.int (i : Int), .int ((i + 1 + k : Nat) : Int), .bl false]) b2 = some (.tup (bkV (i, i + 1 + k, false))) := upd_same
      generalize upd H9 b2 (.tup [.int (i : Int), .int ((i + 1 + k : Nat) : Int), .bl false]) = H10 at hs10 hb10 ⊢
      have D10 := D8.same (hs9.trans hs10)
      refine ⟨d, b2, _, (i, i + 1 + k, false), rfl, rfl, D10, hb10, n2, smallLt (by rw [List.length_append]; show _ + 1 ≤ _; omega), ?_⟩
      have hs010 := hs8.trans (hs9.trans hs10)
      refine ⟨_, _, _, rfl, same_upd hs010 hd, D10.put hb10, by rw [List.length_append, List.length_append]; show _ + 1 + 1 ≤ _; omega, (hcb.put (by rw [hnl]; exact hkn)).2.2⟩
    · rintro σ H4 ⟨kvs, v6, v7, rfl, hs4, D4, hkl, hcb⟩
      refine ⟨kvs, _, _, _, rfl, hs4, D4, by omega, hcb.iff fun a b hab hb => by omega⟩
  · rintro σ H3 ⟨kvs, v5, v6, v7, rfl, hs3, D3, hkl, hcb⟩
    walk_at "rd"
    exact q d kvs H3 hs3 D3 fun i j b hij hj => (hcb i j b hij hj).1 (by omega)
theorem drop_at {u : List Nat} {i e : Nat} (h : u[i]? = some e) : u.drop i = e :: u.drop (i + 1) := by
  obtain ⟨hi, rfl⟩ := List.getElem?_eq_some_iff.mp h
  exact List.drop_eq_getElem_cons hi
theorem dec_nat (a b : Nat) : decide (V.int (a : Int) = V.int (b : Int)) = decide (a = b) := by
  rw [decide_eq_decide]
  exact ⟨fun h => by injection h with h; omega, fun h => by rw [h]⟩
theorem last_nat {u : List Nat} {n : Nat} (h : u.getLast? = some n) : atI (u.map natV) (-1) = some (natV n) := by
  rcases List.eq_nil_or_concat u with rfl | ⟨v, x, rfl⟩
  · cases h
  · rw [List.concat_eq_append] at h ⊢
    have e : x = n := by simpa using h
    subst e
    rw [List.map_append]
    exact atI_last _ _
/-- a way as the law has it -/
structure WayAt (H : Hp) (wy : Addr) (n : Nat) (u : List Nat) : Prop where
  at_ : H wy = some (.lst (u.map natV))
  path : Br.Path n 0 u
  last : u.getLast? = some n
def sp_law_whole (P : Program) (w : World) : Sp := fun vs H Q _ => ∃ (d wy : Addr) (kvs : List (BKey × Addr × V)) (pr : Br.Par) (u : List Nat), vs = [.ref d, .ref wy] ∧ DB P w H d kvs ∧ CbAll pr kvs ∧ WayAt H wy pr.n u ∧ ∀ H', Same H H' → Q (Mt.optI (Br.wcost pr 0 u)) H'
theorem ok_law_whole (T : Tx K mg a) : FnOk P w K mg base CX0 1 a.f_law_whole a.d_law_whole ["_law_costs_here", "_law_way"] (sp_law_whole P w) := by
  refine T.law_whole.fn.ok sc_law_whole (fun vs H Q E h => ?_) (fun cdv A outer s H vs Q E hr h => ?_)
  · obtain ⟨d, wy, kvs, pr, u, rfl, _⟩ := h
    rfl
  obtain ⟨d, wy, kvs, pr, u, rfl, D, hcb, W, q⟩ := h
  refine ⟨_, (pss_cons (ps_set (i := 2) sc_law_whole.nd rfl (Or.inl rfl) pe_int)
      (pss_cons (ps_set (i := 3) sc_law_whole.nd rfl (Or.inl rfl) pe_int)
      (pss_cons (ps_for PassesOwn.never rfl (kpi_list K rfl (pv 1)) (pg_name (i := 4) sc_law_whole.nd rfl (Or.inl rfl)) (pss_cons (ps_set (i := 5) sc_law_whole.nd rfl (Or.inl rfl) (pe_dgetB P w rfl rfl (hu_of hr) (pv 0) (pe_tup (pa_cons (pv 3) (pa_cons (pv 4) (pa_cons (pe_cmpR op_eq (pv 4) (pe_ix (kix_list K rfl) (pv 1) (pe_un un_neg pe_int) (fun _ _ => rfl)) (nomark _)) pa_nil)))) (fun _ _ => rfl)))
      (pss_cons (ps_if (pt_cmp (pc_isN (pv 5))) (pss_one (ps_ret pe_non)) pss_nil)
      (pss_cons (ps_set (i := 2) sc_law_whole.nd rfl (Or.inl rfl) (pe_op op_add (pv 2) (pv 5)))
      (pss_one (ps_set (i := 3) sc_law_whole.nd rfl (Or.inl rfl) (pv 4)))))))
      (pss_one (ps_ret (pv 2)))))), ?_⟩
  walk_at "rd"
  refine ⟨⟨_, SqL.of W.at_⟩, ?_⟩
  refine for_list (a := wy) (xs := u.map natV) (fun i σ H2 => ∃ (tot : Int) (st : Nat) (v4 v5 : Option V), σ = [some (.ref d), some (.ref wy), some (.int tot), some (.int (st : Int)), v4, v5] ∧ Same H H2 ∧ Br.Path pr.n st (u.drop i) ∧ Br.wcost pr 0 u = (Br.wcost pr st (u.drop i)).map (tot + ·))
    ⟨0, 0, none, none, rfl, Same.refl _, W.path, ?_⟩ (fun i σ H2 _ ⟨_, _, _, _, _, hs, _⟩ => SqL.of (hs _ _ W.at_)) ?_ ?_
  · show _ = (Br.wcost pr 0 u).map _
    cases Br.wcost pr 0 u with
    | none => rfl
    | some c => exact congrArg some (Int.zero_add c).symm
  · rintro i y σ H2 hy ⟨tot, st, v4, v5, rfl, hs, hp, hw⟩
    rw [List.getElem?_map] at hy
    obtain ⟨e, he, rfl⟩ := Option.map_eq_some_iff.mp hy
    rw [drop_at he] at hp hw
    obtain ⟨h1, h2, h3⟩ := hp
    have hlast := last_nat W.last
    have hw : Br.wcost pr 0 u = (Br.addO (Br.lc pr st e) (Br.wcost pr e (u.drop (i + 1)))).map (tot + ·) := hw
    walk_at "rd"
    refine ⟨wy, _, _, _, rfl, rfl, SqL.of (hs _ _ W.at_), hlast, ?_⟩
    clear hlast
    walk_at "rd"
    rw [dec_nat]
    intro b hb
    have hs3 := same_new hb (.tup [.int (st : Int), .int (e : Int), .bl (decide (e = pr.n))])
    have hb3 : upd H2 b (.tup [.int (st : Int), .int (e : Int), .bl (decide (e = pr.n))]) b = some (.tup (bkV (st, e, decide (e = pr.n)))) := upd_same
    have hs03 := hs.trans hs3
    have hv : valB kvs (st, e, decide (e = pr.n)) = some (Mt.optI (Br.lc pr st e)) := hcb st e _ h1 h2
    generalize upd H2 b (.tup [.int (st : Int), .int (e : Int), .bl (decide (e = pr.n))]) = H3 at hs3 hb3 hs03 ⊢
    refine ⟨d, b, kvs, (st, e, decide (e = pr.n)), _, rfl, rfl, D.same hs03, hb3, hv, ?_⟩
    clear hv
    cases hc : Br.lc pr st e with
    | none =>
      rw [hc] at hw
      have q2 := q H3 hs03
      rw [hw] at q2
      walk_at "rd"
      try refine iteT ?_
      walk_at "rd"
      exact q2
    | some c =>
      rw [hc] at hw
      walk_at "rd"
      try refine iteF ?_
      walk_at "rd"
      refine ⟨tot + c, e, _, _, rfl, hs03, h3, ?_⟩
      rw [hw]
      cases Br.wcost pr e (u.drop (i + 1)) with
      | none => rfl
      | some c2 => exact congrArg some (by show tot + (c + c2) = tot + c + c2; omega)
  · rintro σ H2 ⟨tot, st, v4, v5, rfl, hs, hp, hw⟩
    rw [List.length_map, List.drop_of_length_le (Nat.le_refl _)] at hw
    have q2 := q H2 hs
    rw [hw] at q2
    have e : (tot + 0 : Int) = tot := Int.add_zero _
    have q2 : Q (.int (tot + 0)) H2 := q2
    rw [e] at q2
    walk_at "rd"
    exact q2
def sp_law_front (P : Program) (w : World) : Sp := fun vs H Q _ => ∃ (d wy : Addr) (kvs : List (BKey × Addr × V)) (pr : Br.Par) (u : List Nat), vs = [.ref d, .ref wy] ∧ DB P w H d kvs ∧ CbAll pr kvs ∧ WayAt H wy pr.n u ∧ ∀ H', Same H H' → Q (.int ((Br.front (Br.lcF pr) 0 u : Nat) : Int)) H'
theorem ok_law_front (T : Tx K mg a) : FnOk P w K mg base CX0 1 a.f_law_front a.d_law_front ["_law_costs_here", "_law_way"] (sp_law_front P w) := by
  refine T.law_front.fn.ok sc_law_front (fun vs H Q E h => ?_) (fun cdv A outer s H vs Q E hr h => ?_)
  · obtain ⟨d, wy, kvs, pr, u, rfl, _⟩ := h
    rfl
  obtain ⟨d, wy, kvs, pr, u, rfl, D, hcb, W, q⟩ := h
  refine ⟨_, (pss_cons (ps_set (i := 2) sc_law_front.nd rfl (Or.inl rfl) pe_int)
      (pss_cons (ps_for PassesOwn.never rfl (kpi_list K rfl (pv 1)) (pg_name (i := 3) sc_law_front.nd rfl (Or.inl rfl)) (pss_cons (ps_if (pt_cmp (pc_isN (pe_dgetB P w rfl rfl (hu_of hr) (pv 0) (pe_tup (pa_cons (pv 2) (pa_cons (pv 3) (pa_cons pe_bl pa_nil)))) (fun _ _ => rfl)))) (pss_one (ps_ret (pv 2))) pss_nil)
      (pss_one (ps_set (i := 2) sc_law_front.nd rfl (Or.inl rfl) (pv 3)))))
      (pss_one (ps_ret (pv 2))))), ?_⟩
  walk_at "rd"
  refine ⟨⟨_, SqL.of W.at_⟩, ?_⟩
  refine for_list (a := wy) (xs := u.map natV) (fun i σ H2 => ∃ (st : Nat) (v3 : Option V), σ = [some (.ref d), some (.ref wy), some (.int (st : Int)), v3] ∧ Same H H2 ∧ Br.Path pr.n st (u.drop i) ∧ Br.front (Br.lcF pr) 0 u = Br.front (Br.lcF pr) st (u.drop i))
    ⟨0, none, rfl, Same.refl _, W.path, rfl⟩ (fun i σ H2 _ ⟨_, _, _, hs, _⟩ => SqL.of (hs _ _ W.at_)) ?_ ?_
  · rintro i y σ H2 hy ⟨st, v3, rfl, hs, hp, hw⟩
    rw [List.getElem?_map] at hy
    obtain ⟨e, he, rfl⟩ := Option.map_eq_some_iff.mp hy
    rw [drop_at he] at hp hw
    obtain ⟨h1, h2, h3⟩ := hp
    have hw : Br.front (Br.lcF pr) 0 u = if (Br.lcF pr st e).isSome = true then Br.front (Br.lcF pr) e (u.drop (i + 1)) else st := hw
    walk_at "rd"
    intro b hb
    have hs3 := same_new hb (.tup [.int (st : Int), .int (e : Int), .bl false])
    have hb3 : upd H2 b (.tup [.int (st : Int), .int (e : Int), .bl false]) b = some (.tup (bkV (st, e, false))) := upd_same
    have hs03 := hs.trans hs3
    have hv : valB kvs (st, e, false) = some (Mt.optI (Br.lcF pr st e)) := hcb st e _ h1 h2
    generalize upd H2 b (.tup [.int (st : Int), .int (e : Int), .bl false]) = H3 at hs3 hb3 hs03 ⊢
    refine ⟨d, b, kvs, (st, e, false), _, rfl, rfl, D.same hs03, hb3, hv, ?_⟩
    clear hv
    cases hc : Br.lcF pr st e with
    | none =>
      rw [hc] at hw
      have hw := hw.trans (if_neg (fun z => nomatch z))
      have q2 := q H3 hs03
      rw [hw] at q2
      walk_at "rd"
      try refine iteT ?_
      walk_at "rd"
      exact q2
    | some c =>
      rw [hc] at hw
      have hw := hw.trans (if_pos rfl)
      walk_at "rd"
      try refine iteF ?_
      walk_at "rd"
      exact ⟨e, _, rfl, hs03, h3, hw⟩
  · rintro σ H2 ⟨st, v3, rfl, hs, hp, hw⟩
    rw [List.length_map, List.drop_of_length_le (Nat.le_refl _)] at hw
    have q2 := q H2 hs
    rw [hw] at q2
    walk_at "rd"
    exact q2
theorem most_full {p : Br.Par} {f : Nat → Option Int} {m : Nat} (ht : Br.Tab p f 0) (h0 : f 0 = none) (h : Br.Most (Br.lc p) p.n m) : Br.Most (Br.lcF p) p.n m := by
  have no : ¬ Br.Rch (Br.lc p) p.n := fun x => by
    have := Br.rch_none ht h0 x (Nat.le_refl _)
    rw [ht.last] at this
    cases this
  have hm : m ≠ p.n := fun e => no (by rw [← e]; exact h.rch)
  have hm2 := h.le
  refine ⟨h.rch.to (n := m) (fun i k _ hk hc => ?_) (Nat.le_refl _), h.le, fun j hj x => h.top j hj (x.to (n := p.n) (fun i k _ hk hc => ?_) hj)⟩
  · rw [← Br.lc_lcF (show k ≠ p.n by omega)]
    exact hc
  · by_cases e : k = p.n
    · subst e
      exact Br.last_some hc
    · rw [Br.lc_lcF e]
      exact hc
/-- the tuples of the ways that can be set, none of their lists at D -/
def TLs (D : Addr) (H : Hp) (v : V) (k : List Int) : Prop := ∃ (a q : Addr) (c : Int) (ns : List Int), v = .ref a ∧ H a = some (.tup [.int c, .ref q]) ∧ q ≠ D ∧ H q = some (.lst (ns.map V.int)) ∧ k = c :: ns
theorem tls_same {D : Addr} {H H' : Hp} {vs : List V} {ks : List (List Int)} (h : Paired (TLs D H) vs ks) (s : Same H H') : Paired (TLs D H') vs ks := Paired.mapP h fun _ _ ⟨a, q, c, ns, e, h1, n, h2, z⟩ => ⟨a, q, c, ns, e, s _ _ h1, n, s _ _ h2, z⟩
theorem tls_upd {D : Addr} {H : Hp} {ys zs : List V} {vs : List V} {ks : List (List Int)} (h : Paired (TLs D H) vs ks) (hD : H D = some (.lst ys)) : Paired (TLs D (upd H D (.lst zs))) vs ks := Paired.mapP h fun _ _ ⟨a, q, c, ns, e, h1, n, h2, z⟩ =>
  ⟨a, q, c, ns, e, by rw [upd_ne (ne_of h1 hD (fun z => by cases z))]; exact h1, n, by rw [upd_ne n]; exact h2, z⟩
theorem tls_tl {D : Addr} {H : Hp} {vs : List V} {ks : List (List Int)} (h : Paired (TLs D H) vs ks) : Paired (TLat H) vs ks := Paired.mapP h fun _ _ ⟨a, q, c, ns, e, h1, n, h2, z⟩ => ⟨a, q, c, ns, e, h1, h2, z⟩
def dKey : List Int → PyData
  | c :: ns => .tuple [.int c, dInts ns]
  | [] => .none
theorem denL_keys {K : PySem.W.Frag} {H : Hp} {vs : List V} {ks : List (List Int)} (h : Paired (TLat H) vs ks) : DenL K H vs (ks.map dKey) := by
  induction h with
  | nil => exact .nil
  | cons r _ ih =>
    obtain ⟨a, q, c, ns, rfl, h1, h2, rfl⟩ := r
    exact .cons (.tup (SqT.of h1) (.cons (.int c) (.cons (den_ints (SqL.of h2)) .nil))) ih
theorem eqv_nil : ∀ ks : List (List Int), PyData.eqv (.list (ks.map dKey)) (dInts []) = decide (ks = [])
  | [] => rfl
  | _ :: _ => rfl
theorem key_depth (d : PyData) : min d.depth (dInts []).depth ≤ 64 := by
  have : (dInts []).depth = 1 := rfl
  omega
def keysTo (pr : Br.Par) (ws : List (List Nat)) : List (List Int) := ws.filterMap fun w => (Br.wcost pr 0 w).map fun c => c :: Br.negs w
theorem keys_snoc (pr : Br.Par) (ws : List (List Nat)) (w : List Nat) : keysTo pr (ws ++ [w]) = keysTo pr ws ++ ((Br.wcost pr 0 w).map fun c => c :: Br.negs w).toList := by
  unfold keysTo
  rw [List.filterMap_append]
  congr 1
def sp_law (K : PySem.W.Frag) : Sp := fun vs H Q _ => ∃ (a : Addr) (ns : List Int), vs = [.ref a] ∧ SqL K H a (ns.map V.int) ∧ ns.length ≤ 63 ∧ ∀ H', Q (.bl true) H'
theorem ok_law (T : Tx K mg a) : FnOk P w K mg base CX0 lawLevel a.f_law a.d_law ["_law_script"] (sp_law K) := by
  have G_law_drawn := ok_law_drawn (P := P) (w := w) (base := base) T
  have G_law_costs := ok_law_costs (P := P) (w := w) (base := base) T
  have G_law_ways := ok_law_ways (P := P) (w := w) (base := base) T
  have G_law_whole := ok_law_whole (P := P) (w := w) (base := base) T
  have G_law_front := ok_law_front (P := P) (w := w) (base := base) T
  have G_breaks_of := ok_breaks_of (P := P) (w := w) (base := base) T
  have G_break_table := ok_break_table (P := P) (w := w) (base := base) T
  refine T.law.fn.ok sc_law (fun vs H Q E h => ?_) (fun cdv A outer s H vs Q E hr h => ?_)
  · obtain ⟨l, ns, rfl, _⟩ := h
    rfl
  obtain ⟨l, ns, rfl, hS, hl, q⟩ := h
  refine ⟨_, (pss_cons (ps_asg (pcall T.law_drawn G_law_drawn hr rfl (pa_cons (pv 0) (pa_cons pe_int pa_nil))) (kpg_tup K rfl (n := 4) rfl (pgs_cons (pg_name (i := 1) sc_law.nd rfl (Or.inl rfl)) (pgs_cons (pg_name (i := 2) sc_law.nd rfl (Or.inl rfl)) (pgs_cons (pg_name (i := 3) sc_law.nd rfl (Or.inl rfl)) (pgs_cons (pg_name (i := 4) sc_law.nd rfl (Or.inl rfl)) pgs_nil))))))
      (pss_cons (ps_set (i := 5) sc_law.nd rfl (Or.inr rfl) (pcall T.law_costs G_law_costs hr rfl (pa_cons (pv 1) (pa_cons (pv 2) (pa_cons (pv 3) (pa_cons (pv 4) pa_nil))))))
      (pss_cons (ps_set (i := 6) sc_law.nd rfl (Or.inl rfl) (pcall T.law_ways G_law_ways hr rfl (pa_cons (pe_callB (klen_seq K rfl) rfl T.b_len bt_len (pa_cons (pv 2) pa_nil)) pa_nil)))
      (pss_cons (ps_set (i := 7) sc_law.nd rfl (Or.inl rfl) (pe_lst pa_nil))
      (pss_cons (ps_for PassesOwn.never rfl (kpi_list K rfl (pv 6)) (pg_name (i := 8) sc_law.nd rfl (Or.inl rfl)) (pss_cons (ps_set (i := 9) sc_law.nd rfl (Or.inl rfl) (pcall T.law_whole G_law_whole hr rfl (pa_cons (pv 5) (pa_cons (pv 8) pa_nil))))
      (pss_one (ps_if (pt_cmp (pc_notN (pv 9))) (pss_one (ps_expr (kpe_bm K rfl PySem.F.plainAttrs_list PySem.F.slot_list_append PySem.F.type_list_append mt_append (pv 7) (pa_cons (pe_tup (pa_cons (pv 9) (pa_cons (pe_compG rfl (kpi_list K rfl (pv 8)) (BlkOk.of (N' := ["_law_script", "_law_case_here", "_law_words_here", "_law_measure", "_law_gaps", "_law_costs_here", "_law_ways_here", "_law_set_ones", "_law_way", "_law_total", "_law_breaks", "_law_made", "e", "_law_turned", "_law_end"]) (ms := []) (k := 1) (by rfl)) (fun _ _ _ _ _ => (pg_name (i := 14) (show List.Nodup (["_law_script", "_law_case_here", "_law_words_here", "_law_measure", "_law_gaps", "_law_costs_here", "_law_ways_here", "_law_set_ones", "_law_way", "_law_total", "_law_breaks", "_law_made", "e", "_law_turned", "_law_end"] : List Str) from by decide +kernel) rfl (Or.inl rfl))) (fun _ _ _ _ _ => pts_nil) (fun _ _ _ _ _ => (pe_op op_sub pe_int (pv 14)))) pa_nil))) pa_nil)))) pss_nil))))
      (pss_cons (ps_set (i := 10) sc_law.nd rfl (Or.inl rfl) (pe_lst pa_nil))
      (pss_cons (ps_set (i := 11) sc_law.nd rfl (Or.inl rfl) pe_non)
      (pss_cons (ps_cut (ps_try rfl (fun _ _ => (pss_one (ps_set (i := 10) sc_law.nd rfl (Or.inl rfl) (pcallX T.breaks_of G_breaks_of hr rfl rfl (pa_cons (pv 1) (pa_cons (pv 2) (pa_cons (pv 3) (pa_cons (pv 4) pa_nil)))))))) (fun _ => (kph_cons K rfl (i := 12) rfl T.cl_NoBreak.mg T.cl_NoBreak.cls sc_law.nd rfl rfl (fun _ => (pss_one (ps_set (i := 11) sc_law.nd rfl (Or.inl rfl) (kpe_xg (K := K) rfl (pv 12))))) ph_nil))))
      (pss_cons (ps_if (pt_cmpR (keqD K rfl hr.units) (pv 7) (pe_lst pa_nil) (nomark _)) (pss_cons (ps_if (pt_cmp (pc_notN (pe_ix (kix_list K rfl) (pcall T.break_table G_break_table hr rfl (pa_cons (pv 1) (pa_cons (pv 2) (pa_cons (pv 3) (pa_cons (pv 4) pa_nil))))) pe_int (fun _ _ => rfl)))) (pss_one (ps_ret pe_bl)) pss_nil)
      (pss_one (ps_ret (pe_cmpR op_eq (pv 11) (pe_callB (kcall_maxL K rfl rfl) rfl T.b_max bt_max' (pa_cons (pe_compG rfl (kpi_list K rfl (pv 6)) (BlkOk.of (N' := ["_law_script", "_law_case_here", "_law_words_here", "_law_measure", "_law_gaps", "_law_costs_here", "_law_ways_here", "_law_set_ones", "_law_way", "_law_total", "_law_breaks", "_law_made", "e", "_law_turned"]) (ms := [8]) (k := 0) (by rfl)) (fun _ _ _ _ _ => (pg_name (i := 8) (show List.Nodup (["_law_script", "_law_case_here", "_law_words_here", "_law_measure", "_law_gaps", "_law_costs_here", "_law_ways_here", "_law_set_ones", "_law_way", "_law_total", "_law_breaks", "_law_made", "e", "_law_turned"] : List Str) from by decide +kernel) rfl (Or.inl rfl))) (fun _ _ _ _ _ => pts_nil) (fun _ _ _ _ _ => (pcall T.law_front G_law_front hr rfl (pa_cons (pv 5) (pa_cons (pv 8) pa_nil))))) pa_nil)) (nomark _))))) pss_nil)
      (pss_cons (ps_asg (pe_callB (kcall_minT K rfl rfl hr.units) rfl T.b_min bt_min' (pa_cons (pv 7) pa_nil)) (kpg_tup K rfl (n := 2) rfl (pgs_cons (pg_name (i := 9) sc_law.nd rfl (Or.inl rfl)) (pgs_cons (pg_name (i := 13) sc_law.nd rfl (Or.inl rfl)) pgs_nil))))
      (pss_cons (ps_if (PW.pt (pw_or (pt_cmp (pc_notN (pv 11))) (pw_or1 (pt_cmpR op_ne (pe_ix (kix_list K rfl) (pcall T.break_table G_break_table hr rfl (pa_cons (pv 1) (pa_cons (pv 2) (pa_cons (pv 3) (pa_cons (pv 4) pa_nil))))) pe_int (fun _ _ => rfl)) (pv 9) (nomark _))))) (pss_one (ps_ret pe_bl)) pss_nil)
      (pss_one (ps_ret (pe_cmpR (keqD K rfl hr.units) (pv 10) (pe_compG rfl (kpi_list K rfl (pv 13)) (BlkOk.of (N' := ["_law_script", "_law_case_here", "_law_words_here", "_law_measure", "_law_gaps", "_law_costs_here", "_law_ways_here", "_law_set_ones", "_law_way", "_law_total", "_law_breaks", "_law_made", "e", "_law_turned", "_law_end"]) (ms := []) (k := 1) (by rfl)) (fun _ _ _ _ _ => (pg_name (i := 14) (show List.Nodup (["_law_script", "_law_case_here", "_law_words_here", "_law_measure", "_law_gaps", "_law_costs_here", "_law_ways_here", "_law_set_ones", "_law_way", "_law_total", "_law_breaks", "_law_made", "e", "_law_turned", "_law_end"] : List Str) from by decide +kernel) rfl (Or.inl rfl))) (fun _ _ _ _ _ => pts_nil) (fun _ _ _ _ _ => (pe_op op_sub pe_int (pv 14)))) (nomark _))))))))))))))), ?_⟩
  walk_at "rd"
  refine ⟨l, ns, _, rfl, hS, hl, by decide, by decide, fun H1 t xs rs ws c p g ms lo ideal hi hs1 D hw9 => ?_⟩
  refine ⟨_, _, rfl, SqT.of D.tup, rfl, ?_⟩
  walk_at "tg"
  walk_at "tg"
  walk_at "tg"
  walk_at "tg"
  refine And.intro rfl ?_
  have hw1 := D.wl1
  have hwok := D.wok
  have hnl : (parOf rs ws ms lo ideal hi).n = ws.length := List.length_map _
  have B : BrkIn K H1 c p g rs ws ms lo ideal hi := ⟨⟨xs, SqL.of D.cas, D.row⟩, SqL.of D.wrd, by omega, Ln.abc_ok D.abc hwok, fun x hx => by
    have := Ln.wide_bd D.abc (hwok x hx)
    omega, D.gap, by have := D.g0; have := D.g1; omega, by have := D.g2; have := D.g3; omega, by have := D.m1; omega, by have := D.m2; omega⟩
  clear D hwok hs1
  have hfew := B.few
  walk_at "rd"
  refine ⟨c, p, g, rs, ws, ms, lo, ideal, hi, rfl, B, fun d kvs H2 hs2 DD hcb => ?_⟩
  have B2 := B.same hs2
  walk_at "rd"
  refine ⟨p, _, rfl, .inl B2.wrd, ?_⟩
  rw [List.length_map]
  refine ⟨ws.length, rfl, hw1, hfew, fun r vr H3 hs3 hr3 hpr => ?_⟩
  have B3 := B2.same hs3
  have D3 := DD.same hs3
  clear DD B2 B hs2 hs3
  generalize hpe : parOf rs ws ms lo ideal hi = pr at hnl hcb
  rw [← hnl] at hpr
  have hn1 : 1 ≤ pr.n := by omega
  have hn9 : pr.n ≤ 9 := by omega
  have hvl := Paired.length hpr
  have hwl : (Br.ways pr.n).length ≤ 256 := by
    unfold Br.ways
    rw [List.length_map, Br.subs_len]
    have : 2 ^ (pr.n - 1) ≤ 2 ^ 8 := Nat.pow_le_pow_right (by decide) (by omega)
    exact this
  have hway : ∀ {H' : Hp} {v : V} {u : List Nat}, u ∈ Br.ways pr.n → NlAt r H' v u → ∃ wy, v = .ref wy ∧ WayAt H' wy pr.n u := fun {H' v u} hu ⟨aw, e, _, haw⟩ => ⟨aw, e, haw, (Br.mem_ways hn1).mp hu, (Br.ways_mem hn1 hu).1⟩
  walk_at "rd"
  intro so hso
  have hs4 := same_new hso (.lst [])
  have hso4 : upd H3 so (.lst []) so = some (.lst []) := upd_same
  generalize upd H3 so (.lst []) = H4 at hs4 hso4 ⊢
  walk_at "rd"
  refine ⟨⟨_, SqL.of (hs4 _ _ hr3)⟩, ?_⟩
  refine for_list (a := r) (xs := vr) (fun i σ H5 => ∃ (vs : List V) (v8 v9 : Option V), σ = [some (.ref l), some (.ref c), some (.ref p), some (.int ms), some (.ref g), some (.ref d), some (.ref r), some (.ref so), v8, v9, none, none, none, none] ∧ Same H3 H5 ∧ H5 so = some (.lst vs) ∧ Paired (TLs so H5) vs (keysTo pr ((Br.ways pr.n).take i)))
    ⟨[], none, none, rfl, hs4, hso4, .nil⟩ (fun i σ H5 _ ⟨_, _, _, _, hs, _⟩ => SqL.of (hs _ _ hr3)) ?_ ?_
  · rintro i y σ H5 hy ⟨vs, v8, v9, rfl, hs5, hso5, hpd⟩
    obtain ⟨u, hui, hnl2⟩ := Cs.pd_get hpr hy
    have hum := List.mem_of_getElem? hui
    obtain ⟨wy, rfl, W⟩ := hway hum hnl2
    have hul := (Br.ways_mem hn1 hum).2.2
    have htk : (Br.ways pr.n).take (i + 1) = (Br.ways pr.n).take i ++ [u] := by rw [List.take_add_one, hui]; rfl
    have hks := keys_snoc pr ((Br.ways pr.n).take i) u
    rw [← htk] at hks
    have hpl := Paired.length hpd
    have hkl : (keysTo pr ((Br.ways pr.n).take i)).length ≤ 256 := by
      unfold keysTo
      have h1 := List.length_filterMap_le (fun w => (Br.wcost pr 0 w).map fun c => c :: Br.negs w) ((Br.ways pr.n).take i)
      rw [List.length_take] at h1
      omega
    have W5 : WayAt H5 wy pr.n u := ⟨hs5 _ _ W.at_, W.path, W.last⟩
    walk_at "rd"
    refine ⟨d, wy, kvs, pr, u, rfl, D3.same hs5, hcb, W5, fun H6 hs6 => ?_⟩
    have hso6 := hs6 _ _ hso5
    have hs36 := hs5.trans hs6
    have hpd6 := tls_same hpd hs6
    cases hc : Br.wcost pr 0 u with
    | none =>
      rw [hc] at hks
      have hks : keysTo pr ((Br.ways pr.n).take (i + 1)) = keysTo pr ((Br.ways pr.n).take i) := hks.trans (List.append_nil _)
      walk_at "rd"
      try refine iteF ?_
      try refine iteF ?_
      exact ⟨vs, _, _, rfl, hs36, hso6, by rw [hks]; exact hpd6⟩
    | some cu =>
      rw [hc] at hks
      have hks : keysTo pr ((Br.ways pr.n).take (i + 1)) = keysTo pr ((Br.ways pr.n).take i) ++ [cu :: Br.negs u] := hks
      walk_at "rd"
      try refine iteT ?_
      walk_at "rd"
      refine ⟨.inl ⟨rfl, _, SqL.of hso6⟩, ?_⟩
      walk_at "rd"
      have hw6 := hs36 _ _ W.at_
      refine ⟨⟨_, SqL.of hw6⟩, fun Dn hDn => ?_⟩
      refine comp_list (a := wy) (xs := u.map natV) (fun j ys σ H7 => ∃ (v14 : Option V), ys = ((u.take j).map fun e : Nat => 0 - (e : Int)).map V.int ∧ σ = [some (.ref l), some (.ref c), some (.ref p), some (.int ms), some (.ref g), some (.ref d), some (.ref r), some (.ref so), some (.ref wy), some (.int cu), none, none, none, none, v14] ∧ Same H6 H7 ∧ H7 Dn = some (.lst ys))
        ?_ ?_ ?_ ?_
      · exact ⟨none, rfl, rfl, same_new hDn _, upd_same⟩
      · exact fun j ys σ H7 _ ⟨_, _, _, hs, _⟩ => SqL.of (hs _ _ hw6)
      · rintro j y ys σ H7 hy hjl ⟨v14, rfl, rfl, hs7, hh7⟩
        rw [List.getElem?_map] at hy
        obtain ⟨e, he, rfl⟩ := Option.map_eq_some_iff.mp hy
        walk_at "rd"
        refine cnext hjl hh7 (by rw [List.length_map, List.length_map, List.length_take]; omega) ⟨_, ?_, rfl, same_upd hs7 hDn, upd_same⟩
        rw [List.take_add_one, he, List.map_append, List.map_append]
        rfl
      · rintro ys σ H7 ⟨v14, rfl, rfl, hs7, hh7⟩
        rw [List.length_map, List.take_of_length_le (Nat.le_refl _)] at hh7
        walk_at "rd"
        intro tt htt
        have hs8 := same_new htt (.tup [Mt.optI (some cu), .ref Dn])
        have ht8 : upd H7 tt (.tup [Mt.optI (some cu), .ref Dn]) tt = some (.tup [.int cu, .ref Dn]) := upd_same
        generalize upd H7 tt (.tup [Mt.optI (some cu), .ref Dn]) = H8 at hs8 ht8 ⊢
        have hs68 := hs7.trans hs8
        have hso8 := hs68 _ _ hso6
        have hDso : Dn ≠ so := fun z => by rw [z, hso6] at hDn; cases hDn
        refine ⟨so, _, _, rfl, rfl, hso8, smallLt (by omega), ?_⟩
        refine ⟨vs ++ [.ref tt], _, _, rfl, same_upd (hs36.trans hs68) hso, upd_same, ?_⟩
        rw [hks]
        exact paired_app (tls_upd (tls_same hpd6 hs68) hso8) (.cons ⟨tt, Dn, cu, Br.negs u, rfl, by rw [upd_ne (ne_of ht8 hso8 (fun z => by cases z))]; exact ht8, hDso, by rw [upd_ne hDso]; exact hs8 _ _ hh7, rfl⟩ .nil)
  · rintro σ H5 ⟨vs, v8, v9, rfl, hs5, hso5, hpd⟩
    rw [hvl, List.take_of_length_le (Nat.le_refl _)] at hpd
    have hpd : Paired (TLs so H5) vs (Br.keysOf pr pr.n) := hpd
    have B5 := B3.same hs5
    have D5 := D3.same hs5
    have hr5 := hs5 _ _ hr3
    have hpr5 := nls_same hpr hs5
    clear B3 D3 hr3 hpr hs4 hso4 hs5 hso
    walk_at "rd"
    intro pb hpb
    have hs6 := same_new hpb (.lst [])
    generalize upd H5 pb (.lst []) = H6 at hs6 ⊢
    have B6 := B5.same hs6
    walk_at "rd"
    refine ⟨fun σ' H' => ∃ (vb vm : V) (v12 : Option V), σ' = [some (.ref l), some (.ref c), some (.ref p), some (.int ms), some (.ref g), some (.ref d), some (.ref r), some (.ref so), v8, v9, some vb, some vm, v12, none] ∧ Same H5 H' ∧ ((∃ (f : Nat → Option Int) (m : Nat), Br.Tab pr f 0 ∧ f 0 = none ∧ Br.Most (Br.lc pr) pr.n m ∧ vm = .int (m : Int)) ∨
      ∃ (bs : List Nat) (f : Nat → Option Int) (rb : Addr), vm = .non ∧ vb = .ref rb ∧ H' rb = some (.lst (bs.map natV)) ∧ Br.Tab pr f 0 ∧ Br.Brks pr f 0 bs), ?_, ?_⟩
    · walk_at "rd"
      refine ⟨c, p, g, rs, ws, ms, lo, ideal, hi, rfl, B6.cas, B6.wrd, by omega, B6.ok, B6.wid, B6.gap, B6.i0, B6.i1, B6.m0, B6.m1, fun H7 dx m f hs7 hdx htab h0 hmost => ?_, fun rb bs f H7 hr0 hs7 hr7 htab hbrk => ?_⟩
      · rw [hpe] at htab hmost
        refine ⟨a.c_NoBreak, some a.f_init_NoBreak, true, rfl, T.cl_NoBreak.cls, T.m_NoBreak_NoBreak, iteT ?_⟩
        intro e he0
        have hde : dx ≠ e := fun z => by rw [← z, upd_same] at he0; cases he0
        have he1 : upd (upd H7 dx (.xd [("words", .int (m : Int))])) e (XE e a.c_NoBreak (some dx)) e = some (XE e a.c_NoBreak (some dx)) := upd_same
        have hd1 : upd (upd H7 dx (.xd [("words", .int (m : Int))])) e (XE e a.c_NoBreak (some dx)) dx = some (.xd [("words", .int (m : Int))]) := by rw [upd_ne hde, upd_same]
        have hs8 : Same H6 (upd (upd H7 dx (.xd [("words", .int (m : Int))])) e (XE e a.c_NoBreak (some dx))) := same_add (same_add hs7 hdx) he0
        generalize upd (upd H7 dx (.xd [("words", .int (m : Int))])) e (XE e a.c_NoBreak (some dx)) = H8 at he1 hd1 hs8 ⊢
        have hg := T.cl_NoBreak.q.g
        walk_at "rd"
        refine ⟨e, a.c_NoBreak, dx, _, _, rfl, he1, hd1, hg, (T.cl_NoBreak).xf.no, rfl, ?_⟩
        exact ⟨_, _, _, rfl, hs6.trans hs8, .inl ⟨f, m, htab, h0, hmost, rfl⟩⟩
      · rw [hpe] at htab hbrk
        walk_at "rd"
        exact ⟨_, _, _, rfl, hs6.trans hs7, .inr ⟨bs, f, rb, rfl, rfl, hr7, htab, hbrk⟩⟩
    rintro σ' H7 ⟨vb, vm, v12, rfl, hs7, hcase⟩
    have B7 := B5.same hs7
    have D7 := D5.same hs7
    have hr7 := hs7 _ _ hr5
    have hpr7 := nls_same hpr5 hs7
    have hso7 := hs7 _ _ hso5
    have hpd7 := tls_tl (tls_same hpd hs7)
    clear B5 D5 hr5 hpr5 hso5 hpd hs6 hpb B6
    walk_at "rd"
    intro pz hpz
    have hs8 := same_new hpz (.lst [])
    have hz8 : upd H7 pz (.lst []) pz = some (.lst (([] : List Int).map V.int)) := upd_same
    generalize upd H7 pz (.lst []) = H8 at hs8 hz8 ⊢
    have hpd8 : Paired (TLat H8) vs (Br.keysOf pr pr.n) := Paired.mapP hpd7 fun _ _ ⟨a, q, c, ns, e, h1, h2, z⟩ => ⟨a, q, c, ns, e, hs8 _ _ h1, hs8 _ _ h2, z⟩
    refine ⟨_, dInts [], .lst (SqL.of (hs8 _ _ hso7)) (denL_keys hpd8), den_ints (SqL.of hz8), key_depth _, ?_⟩
    rw [eqv_nil]
    have B8 := B7.same hs8
    have hat : ∀ {tb : List (Option Int)}, tb.length = ws.length + 1 → atI (tb.map Mt.optI) 0 = some (Mt.optI (tb.getD 0 none)) := fun {tb} h => by
      have h1 : 0 < tb.length := by omega
      have h2 : atI (tb.map Mt.optI) ((0 : Nat) : Int) = some (Mt.optI (tb.getD 0 none)) := atI_nat (by rw [List.getElem?_map, List.getElem?_eq_getElem h1, List.getD_eq_getElem?_getD, List.getElem?_eq_getElem h1] <;> rfl)
      exact h2
    rcases hcase with ⟨f, m, htab, h0, hmost, rfl⟩ | ⟨bs, f, rb, rfl, rfl, hrb, htab, hbrk⟩
    · have hk0 := Br.keys_none htab hn1 h0
      rw [hk0]
      refine ⟨_, rfl, ?_⟩
      refine iteT ?_
      walk_at "rd"
      refine ⟨c, p, g, rs, ws, ms, lo, ideal, hi, rfl, B8.cas, B8.wrd, by omega, B8.ok, B8.wid, B8.gap, B8.i0, B8.i1, B8.m0, B8.m1, fun td tb H9 htd0 hs9 htd htl htab2 => ?_⟩
      rw [hpe] at htab2
      have hat0 := hat htl
      have e00 : tb.getD 0 none = none := by
        have := Br.Tab.uniq htab2 htab _ 0 rfl (Nat.le_refl _) (Nat.zero_le _)
        rw [h0] at this
        exact this
      rw [e00] at hat0
      refine ⟨td, _, _, _, rfl, rfl, SqL.of htd, hat0, ?_⟩
      clear hat0
      refine ⟨_, rfl, ?_⟩
      refine iteF ?_
      have hs79 := hs8.trans hs9
      have hr9 := hs79 _ _ hr7
      have hpr9 := nls_same hpr7 hs79
      have D9 := D7.same hs79
      have hgr := Br.fronts_most hn1 (most_full htab h0 hmost)
      walk_at "rd"
      refine ⟨⟨_, SqL.of hr9⟩, fun Dn hDn => ?_⟩
      refine comp_list (a := r) (xs := vr) (fun j ys σ H10 => ∃ (v8' : Option V), ys = (((Br.ways pr.n).take j).map fun u => ((Br.front (Br.lcF pr) 0 u : Nat) : Int)).map V.int ∧ σ = [some (.ref l), some (.ref c), some (.ref p), some (.int ms), some (.ref g), some (.ref d), some (.ref r), some (.ref so), v8', v9, some vb, some (.int (m : Int)), v12, none] ∧ Same H9 H10 ∧ H10 Dn = some (.lst ys))
        ?_ ?_ ?_ ?_
      · exact ⟨none, rfl, rfl, same_new hDn _, upd_same⟩
      · exact fun j ys σ H10 _ ⟨_, _, _, hs, _⟩ => SqL.of (hs _ _ hr9)
      · rintro j y ys σ H10 hy hjl ⟨v8', rfl, rfl, hs10, hh10⟩
        obtain ⟨u, hui, hnl2⟩ := Cs.pd_get hpr9 hy
        obtain ⟨wy, rfl, W⟩ := hway (List.mem_of_getElem? hui) hnl2
        have W10 : WayAt H10 wy pr.n u := ⟨hs10 _ _ W.at_, W.path, W.last⟩
        walk_at "rd"
        refine ⟨d, wy, kvs, pr, u, rfl, D9.same hs10, hcb, W10, fun H11 hs11 => ?_⟩
        refine cnext hjl (hs11 _ _ hh10) (by rw [List.length_map, List.length_map, List.length_take]; omega) ⟨_, ?_, rfl, same_upd (hs10.trans hs11) hDn, upd_same⟩
        rw [List.take_add_one, hui, List.map_append, List.map_append]
        rfl
      · rintro ys σ H10 ⟨v8', rfl, rfl, hs10, hh10⟩
        rw [hvl, List.take_of_length_le (Nat.le_refl _)] at hh10
        refine ⟨Dn, _, _, rfl, SqL.of hh10, hgr, ?_⟩
        walk_at "rd"
        have q := q H10
        rw [← decide_eq_true (show V.int (m : Int) = V.int (m : Int) from rfl)] at q
        exact q
    · obtain ⟨cb, hcb0, hcm, _⟩ := Br.keys_best htab hn1 hbrk
      have hne : Br.keysOf pr pr.n ≠ [] := fun z => by rw [z] at hcm; cases hcm
      rw [decide_eq_false hne]
      refine ⟨_, rfl, ?_⟩
      refine iteF ?_
      have hvne : vs ≠ [] := fun z => by
        have := Paired.length hpd8
        rw [z] at this
        exact hne (List.length_eq_zero_iff.mp this.symm)
      walk_at "rd"
      refine ⟨so, vs, _, rfl, SqL.of (hs8 _ _ hso7), hpd8, hvne, fun v k hv hk ht hmin => ?_⟩
      obtain ⟨c', hc', rfl⟩ := Br.keys_only htab hn1 hbrk hk hmin
      obtain ⟨ta, tq, c2, ns2, rfl, hta, htq, hkk⟩ := ht
      injection hkk with e1 e2
      subst e1 e2
      refine ⟨_, _, rfl, SqT.of hta, rfl, ?_⟩
      walk_at "tg"
      walk_at "tg"
      refine And.intro rfl ?_
      walk_at "rd"
      try refine iteF ?_
      walk_at "rd"
      refine ⟨c, p, g, rs, ws, ms, lo, ideal, hi, rfl, B8.cas, B8.wrd, by omega, B8.ok, B8.wid, B8.gap, B8.i0, B8.i1, B8.m0, B8.m1, fun td tb H9 htd0 hs9 htd htl htab2 => ?_⟩
      rw [hpe] at htab2
      have hat0 := hat htl
      have e00 : tb.getD 0 none = some c' := by
        have := Br.Tab.uniq htab2 htab _ 0 rfl (Nat.le_refl _) (Nat.zero_le _)
        rw [hc'] at this
        exact this
      rw [e00] at hat0
      refine ⟨td, _, _, _, rfl, rfl, SqL.of htd, hat0, ?_⟩
      clear hat0
      walk_at "rd"
      refine ite2 (fun z => absurd z ?_) (fun _ => ?_)
      · have : decide (Mt.optI (some c') = V.int c') = true := decide_eq_true rfl
        rw [this]
        exact Bool.false_ne_true
      have htq9 := hs9 _ _ htq
      have hrb9 := (hs8.trans hs9) _ _ hrb
      walk_at "rd"
      refine ⟨⟨_, SqL.of htq9⟩, fun Dn hDn => ?_⟩
      have hbl := (Br.brks_way htab hbrk).1
      have hbm := (Br.ways_mem hn1 ((Br.mem_ways hn1).mpr hbl)).2.2
      refine comp_list (a := tq) (xs := (Br.negs bs).map V.int) (fun j ys σ H10 => ∃ (v14 : Option V), ys = ((bs.take j).map fun e : Nat => (e : Int)).map V.int ∧ σ = [some (.ref l), some (.ref c), some (.ref p), some (.int ms), some (.ref g), some (.ref d), some (.ref r), some (.ref so), v8, some (.int c'), some (.ref rb), some .non, v12, some (.ref tq), v14] ∧ Same H9 H10 ∧ H10 Dn = some (.lst ys))
        ?_ ?_ ?_ ?_
      · exact ⟨none, rfl, rfl, same_new hDn _, upd_same⟩
      · exact fun j ys σ H10 _ ⟨_, _, _, hs, _⟩ => SqL.of (hs _ _ htq9)
      · rintro j y ys σ H10 hy hjl ⟨v14, rfl, rfl, hs10, hh10⟩
        obtain ⟨z, rfl, hzj⟩ := map_int_get hy
        rw [List.getElem?_map] at hzj
        obtain ⟨e, he, rfl⟩ := Option.map_eq_some_iff.mp hzj
        walk_at "rd"
        refine cnext hjl hh10 (by rw [List.length_map, List.length_map, List.length_take]; omega) ⟨_, ?_, rfl, same_upd hs10 hDn, upd_same⟩
        have e0 : (0 : Int) - (0 - (e : Int)) = (e : Int) := by omega
        rw [List.take_add_one, he, List.map_append, List.map_append]
        show _ ++ [V.int ((0 : Int) - (0 - (e : Int)))] = _
        rw [e0]
        rfl
      · rintro ys σ H10 ⟨v14, rfl, rfl, hs10, hh10⟩
        rw [List.length_map, List.length_map, List.take_of_length_le (Nat.le_refl _)] at hh10
        have eN : bs.map natV = (bs.map fun e : Nat => (e : Int)).map V.int := by rw [List.map_map]; rfl
        have hrb10 := hs10 _ _ hrb9
        rw [eN] at hrb10
        refine ⟨dInts (bs.map fun e : Nat => (e : Int)), dInts (bs.map fun e : Nat => (e : Int)), den_ints (SqL.of hrb10), den_ints (SqL.of hh10), dints_depth _ _, ?_⟩
        have q := q H10
        rw [← eqv_refl (d := dInts (bs.map fun e : Nat => (e : Int))) (nb_ints _)] at q
        exact q
theorem txt_mk {K : PySem.W.Frag} {h : Heap} {mg : Str → Option Value} (X : K.In h) (G : h.Ns mainGlobals mg)
    {f0 : Addr} {od0 an0 : Option Addr} {sl0 : Array (Option Value)} {oc0 kV0 dc0 pm0 cd0 ct0 : Value} {f1 : Addr} {od1 an1 : Option Addr} {sl1 : Array (Option Value)} {oc1 kV1 dc1 pm1 cd1 ct1 : Value} {f2 : Addr} {od2 an2 : Option Addr} {sl2 : Array (Option Value)} {oc2 kV2 dc2 pm2 cd2 ct2 : Value} {f3 : Addr} {od3 an3 : Option Addr} {sl3 : Array (Option Value)} {oc3 kV3 dc3 pm3 cd3 ct3 : Value} {f4 : Addr} {od4 an4 : Option Addr} {sl4 : Array (Option Value)} {oc4 kV4 dc4 pm4 cd4 ct4 : Value} {f5 : Addr} {od5 an5 : Option Addr} {sl5 : Array (Option Value)} {oc5 kV5 dc5 pm5 cd5 ct5 : Value} {f6 : Addr} {od6 an6 : Option Addr} {sl6 : Array (Option Value)} {oc6 kV6 dc6 pm6 cd6 ct6 : Value} {f7 : Addr} {od7 an7 : Option Addr} {sl7 : Array (Option Value)} {oc7 kV7 dc7 pm7 cd7 ct7 : Value} {f8 : Addr} {od8 an8 : Option Addr} {sl8 : Array (Option Value)} {oc8 kV8 dc8 pm8 cd8 ct8 : Value} {f9 : Addr} {od9 an9 : Option Addr} {sl9 : Array (Option Value)} {oc9 kV9 dc9 pm9 cd9 ct9 : Value} {f10 : Addr} {od10 an10 : Option Addr} {sl10 : Array (Option Value)} {oc10 kV10 dc10 pm10 cd10 ct10 : Value} {f11 : Addr} {od11 an11 : Option Addr} {sl11 : Array (Option Value)} {oc11 kV11 dc11 pm11 cd11 ct11 : Value} {f12 : Addr} {od12 an12 : Option Addr} {sl12 : Array (Option Value)} {oc12 kV12 dc12 pm12 cd12 ct12 : Value} {f13 : Addr} {od13 an13 : Option Addr} {sl13 : Array (Option Value)} {oc13 kV13 dc13 pm13 cd13 ct13 : Value} {f14 : Addr} {od14 an14 : Option Addr} {sl14 : Array (Option Value)} {oc14 kV14 dc14 pm14 cd14 ct14 : Value} {f15 : Addr} {od15 an15 : Option Addr} {sl15 : Array (Option Value)} {oc15 kV15 dc15 pm15 cd15 ct15 : Value} {f16 : Addr} {od16 an16 : Option Addr} {sl16 : Array (Option Value)} {oc16 kV16 dc16 pm16 cd16 ct16 : Value} {f17 : Addr} {od17 an17 : Option Addr} {sl17 : Array (Option Value)} {oc17 kV17 dc17 pm17 cd17 ct17 : Value} {f18 : Addr} {od18 an18 : Option Addr} {sl18 : Array (Option Value)} {oc18 kV18 dc18 pm18 cd18 ct18 : Value} {f19 : Addr} {od19 an19 : Option Addr} {sl19 : Array (Option Value)} {oc19 kV19 dc19 pm19 cd19 ct19 : Value} {f20 : Addr} {od20 an20 : Option Addr} {sl20 : Array (Option Value)} {oc20 kV20 dc20 pm20 cd20 ct20 : Value} {f21 : Addr} {od21 an21 : Option Addr} {sl21 : Array (Option Value)} {oc21 kV21 dc21 pm21 cd21 ct21 : Value} {f22 : Addr} {od22 an22 : Option Addr} {sl22 : Array (Option Value)} {oc22 kV22 dc22 pm22 cd22 ct22 : Value} {f23 : Addr} {od23 an23 : Option Addr} {sl23 : Array (Option Value)} {oc23 kV23 dc23 pm23 cd23 ct23 : Value}
    (a0 : PySem.W.nsIn K mainGlobals "channel_of" = some (some (.ref f0))) (l0 : K.lookup f0 = some ⟨oc0, od0, .func (PySem.W.fnOf "channel_of" "channel_of" (defArgs s_channel_of) (defBody s_channel_of) (defScope s_channel_of) .none kV0 dc0 pm0 an0 cd0 ct0), sl0⟩) (c0 : PySem.W.codeIn K cd0 "channel_of" = true) (k0 : PySem.W.keepIn K (.ref f0) = true)
    (a1 : PySem.W.nsIn K mainGlobals "width_of" = some (some (.ref f1))) (l1 : K.lookup f1 = some ⟨oc1, od1, .func (PySem.W.fnOf "width_of" "width_of" (defArgs s_width_of) (defBody s_width_of) (defScope s_width_of) .none kV1 dc1 pm1 an1 cd1 ct1), sl1⟩) (c1 : PySem.W.codeIn K cd1 "width_of" = true) (k1 : PySem.W.keepIn K (.ref f1) = true)
    (a2 : PySem.W.nsIn K mainGlobals "body_of" = some (some (.ref f2))) (l2 : K.lookup f2 = some ⟨oc2, od2, .func (PySem.W.fnOf "body_of" "body_of" (defArgs s_body_of) (defBody s_body_of) (defScope s_body_of) .none kV2 dc2 pm2 an2 cd2 ct2), sl2⟩) (c2 : PySem.W.codeIn K cd2 "body_of" = true) (k2 : PySem.W.keepIn K (.ref f2) = true)
    (a3 : PySem.W.nsIn K mainGlobals "misfit" = some (some (.ref f3))) (l3 : K.lookup f3 = some ⟨oc3, od3, .func (PySem.W.fnOf "misfit" "misfit" (defArgs s_misfit) (defBody s_misfit) (defScope s_misfit) .none kV3 dc3 pm3 an3 cd3 ct3), sl3⟩) (c3 : PySem.W.codeIn K cd3 "misfit" = true) (k3 : PySem.W.keepIn K (.ref f3) = true)
    (a4 : PySem.W.nsIn K mainGlobals "cost_of" = some (some (.ref f4))) (l4 : K.lookup f4 = some ⟨oc4, od4, .func (PySem.W.fnOf "cost_of" "cost_of" (defArgs s_cost_of) (defBody s_cost_of) (defScope s_cost_of) .none kV4 dc4 pm4 an4 cd4 ct4), sl4⟩) (c4 : PySem.W.codeIn K cd4 "cost_of" = true) (k4 : PySem.W.keepIn K (.ref f4) = true)
    (a5 : PySem.W.nsIn K mainGlobals "line_cost" = some (some (.ref f5))) (l5 : K.lookup f5 = some ⟨oc5, od5, .func (PySem.W.fnOf "line_cost" "line_cost" (defArgs s_line_cost) (defBody s_line_cost) (defScope s_line_cost) .none kV5 dc5 pm5 an5 cd5 ct5), sl5⟩) (c5 : PySem.W.codeIn K cd5 "line_cost" = true) (k5 : PySem.W.keepIn K (.ref f5) = true)
    (a6 : PySem.W.nsIn K mainGlobals "costs_of" = some (some (.ref f6))) (l6 : K.lookup f6 = some ⟨oc6, od6, .func (PySem.W.fnOf "costs_of" "costs_of" (defArgs s_costs_of) (defBody s_costs_of) (defScope s_costs_of) .none kV6 dc6 pm6 an6 cd6 ct6), sl6⟩) (c6 : PySem.W.codeIn K cd6 "costs_of" = true) (k6 : PySem.W.keepIn K (.ref f6) = true)
    (a7 : PySem.W.nsIn K mainGlobals "can_follow" = some (some (.ref f7))) (l7 : K.lookup f7 = some ⟨oc7, od7, .func (PySem.W.fnOf "can_follow" "can_follow" (defArgs s_can_follow) (defBody s_can_follow) (defScope s_can_follow) .none kV7 dc7 pm7 an7 cd7 ct7), sl7⟩) (c7 : PySem.W.codeIn K cd7 "can_follow" = true) (k7 : PySem.W.keepIn K (.ref f7) = true)
    (a8 : PySem.W.nsIn K mainGlobals "choices" = some (some (.ref f8))) (l8 : K.lookup f8 = some ⟨oc8, od8, .func (PySem.W.fnOf "choices" "choices" (defArgs s_choices) (defBody s_choices) (defScope s_choices) .none kV8 dc8 pm8 an8 cd8 ct8), sl8⟩) (c8 : PySem.W.codeIn K cd8 "choices" = true) (k8 : PySem.W.keepIn K (.ref f8) = true)
    (a9 : PySem.W.nsIn K mainGlobals "table_of" = some (some (.ref f9))) (l9 : K.lookup f9 = some ⟨oc9, od9, .func (PySem.W.fnOf "table_of" "table_of" (defArgs s_table_of) (defBody s_table_of) (defScope s_table_of) .none kV9 dc9 pm9 an9 cd9 ct9), sl9⟩) (c9 : PySem.W.codeIn K cd9 "table_of" = true) (k9 : PySem.W.keepIn K (.ref f9) = true)
    (a10 : PySem.W.nsIn K mainGlobals "most_in_full_lines" = some (some (.ref f10))) (l10 : K.lookup f10 = some ⟨oc10, od10, .func (PySem.W.fnOf "most_in_full_lines" "most_in_full_lines" (defArgs s_most_in_full_lines) (defBody s_most_in_full_lines) (defScope s_most_in_full_lines) .none kV10 dc10 pm10 an10 cd10 ct10), sl10⟩) (c10 : PySem.W.codeIn K cd10 "most_in_full_lines" = true) (k10 : PySem.W.keepIn K (.ref f10) = true)
    (a11 : PySem.W.nsIn K mainGlobals "breaks_of" = some (some (.ref f11))) (l11 : K.lookup f11 = some ⟨oc11, od11, .func (PySem.W.fnOf "breaks_of" "breaks_of" (defArgs s_breaks_of) (defBody s_breaks_of) (defScope s_breaks_of) .none kV11 dc11 pm11 an11 cd11 ct11), sl11⟩) (c11 : PySem.W.codeIn K cd11 "breaks_of" = true) (k11 : PySem.W.keepIn K (.ref f11) = true)
    (a12 : PySem.W.nsIn K mainGlobals "break_table" = some (some (.ref f12))) (l12 : K.lookup f12 = some ⟨oc12, od12, .func (PySem.W.fnOf "break_table" "break_table" (defArgs s_break_table) (defBody s_break_table) (defScope s_break_table) .none kV12 dc12 pm12 an12 cd12 ct12), sl12⟩) (c12 : PySem.W.codeIn K cd12 "break_table" = true) (k12 : PySem.W.keepIn K (.ref f12) = true)
    (a13 : PySem.W.nsIn K mainGlobals "_law_cell" = some (some (.ref f13))) (l13 : K.lookup f13 = some ⟨oc13, od13, .func (PySem.W.fnOf "_law_cell" "_law_cell" (defArgs s_law_cell) (defBody s_law_cell) (defScope s_law_cell) .none kV13 dc13 pm13 an13 cd13 ct13), sl13⟩) (c13 : PySem.W.codeIn K cd13 "_law_cell" = true) (k13 : PySem.W.keepIn K (.ref f13) = true)
    (a14 : PySem.W.nsIn K mainGlobals "_law_stream" = some (some (.ref f14))) (l14 : K.lookup f14 = some ⟨oc14, od14, .func (PySem.W.fnOf "_law_stream" "_law_stream" (defArgs s_law_stream) (defBody s_law_stream) (defScope s_law_stream) .none kV14 dc14 pm14 an14 cd14 ct14), sl14⟩) (c14 : PySem.W.codeIn K cd14 "_law_stream" = true) (k14 : PySem.W.keepIn K (.ref f14) = true)
    (a15 : PySem.W.nsIn K mainGlobals "_law_case" = some (some (.ref f15))) (l15 : K.lookup f15 = some ⟨oc15, od15, .func (PySem.W.fnOf "_law_case" "_law_case" (defArgs s_law_case) (defBody s_law_case) (defScope s_law_case) .none kV15 dc15 pm15 an15 cd15 ct15), sl15⟩) (c15 : PySem.W.codeIn K cd15 "_law_case" = true) (k15 : PySem.W.keepIn K (.ref f15) = true)
    (a16 : PySem.W.nsIn K mainGlobals "_law_words" = some (some (.ref f16))) (l16 : K.lookup f16 = some ⟨oc16, od16, .func (PySem.W.fnOf "_law_words" "_law_words" (defArgs s_law_words) (defBody s_law_words) (defScope s_law_words) .none kV16 dc16 pm16 an16 cd16 ct16), sl16⟩) (c16 : PySem.W.codeIn K cd16 "_law_words" = true) (k16 : PySem.W.keepIn K (.ref f16) = true)
    (a17 : PySem.W.nsIn K mainGlobals "_law_widths" = some (some (.ref f17))) (l17 : K.lookup f17 = some ⟨oc17, od17, .func (PySem.W.fnOf "_law_widths" "_law_widths" (defArgs s_law_widths) (defBody s_law_widths) (defScope s_law_widths) .none kV17 dc17 pm17 an17 cd17 ct17), sl17⟩) (c17 : PySem.W.codeIn K cd17 "_law_widths" = true) (k17 : PySem.W.keepIn K (.ref f17) = true)
    (a18 : PySem.W.nsIn K mainGlobals "_law_drawn" = some (some (.ref f18))) (l18 : K.lookup f18 = some ⟨oc18, od18, .func (PySem.W.fnOf "_law_drawn" "_law_drawn" (defArgs s_law_drawn) (defBody s_law_drawn) (defScope s_law_drawn) .none kV18 dc18 pm18 an18 cd18 ct18), sl18⟩) (c18 : PySem.W.codeIn K cd18 "_law_drawn" = true) (k18 : PySem.W.keepIn K (.ref f18) = true)
    (a19 : PySem.W.nsIn K mainGlobals "_law_ways" = some (some (.ref f19))) (l19 : K.lookup f19 = some ⟨oc19, od19, .func (PySem.W.fnOf "_law_ways" "_law_ways" (defArgs s_law_ways) (defBody s_law_ways) (defScope s_law_ways) .none kV19 dc19 pm19 an19 cd19 ct19), sl19⟩) (c19 : PySem.W.codeIn K cd19 "_law_ways" = true) (k19 : PySem.W.keepIn K (.ref f19) = true)
    (a20 : PySem.W.nsIn K mainGlobals "_law_costs" = some (some (.ref f20))) (l20 : K.lookup f20 = some ⟨oc20, od20, .func (PySem.W.fnOf "_law_costs" "_law_costs" (defArgs s_law_costs) (defBody s_law_costs) (defScope s_law_costs) .none kV20 dc20 pm20 an20 cd20 ct20), sl20⟩) (c20 : PySem.W.codeIn K cd20 "_law_costs" = true) (k20 : PySem.W.keepIn K (.ref f20) = true)
    (a21 : PySem.W.nsIn K mainGlobals "_law_whole" = some (some (.ref f21))) (l21 : K.lookup f21 = some ⟨oc21, od21, .func (PySem.W.fnOf "_law_whole" "_law_whole" (defArgs s_law_whole) (defBody s_law_whole) (defScope s_law_whole) .none kV21 dc21 pm21 an21 cd21 ct21), sl21⟩) (c21 : PySem.W.codeIn K cd21 "_law_whole" = true) (k21 : PySem.W.keepIn K (.ref f21) = true)
    (a22 : PySem.W.nsIn K mainGlobals "_law_front" = some (some (.ref f22))) (l22 : K.lookup f22 = some ⟨oc22, od22, .func (PySem.W.fnOf "_law_front" "_law_front" (defArgs s_law_front) (defBody s_law_front) (defScope s_law_front) .none kV22 dc22 pm22 an22 cd22 ct22), sl22⟩) (c22 : PySem.W.codeIn K cd22 "_law_front" = true) (k22 : PySem.W.keepIn K (.ref f22) = true)
    (a23 : PySem.W.nsIn K mainGlobals "law" = some (some (.ref f23))) (l23 : K.lookup f23 = some ⟨oc23, od23, .func (PySem.W.fnOf "law" "law" (defArgs s_law) (defBody s_law) (defScope s_law) .none kV23 dc23 pm23 an23 cd23 ct23), sl23⟩) (c23 : PySem.W.codeIn K cd23 "law" = true) (k23 : PySem.W.keepIn K (.ref f23) = true)
    {c_CasterError : Addr} (ca_CasterError : PySem.W.nsIn K mainGlobals "CasterError" = some (some (.ref c_CasterError)))
    (ci_CasterError : PySem.W.isClsIn K c_CasterError = true) (ct_CasterError : PySem.W.typeIn K (.ref c_CasterError) = some (.type "type"))
    {c_NoBreak : Addr} (ca_NoBreak : PySem.W.nsIn K mainGlobals "NoBreak" = some (some (.ref c_NoBreak)))
    {od_CasterError : Option Addr} {cd_CasterError : ClassData} {sl_CasterError : Array (Option Value)} (lk_CasterError : K.lookup c_CasterError = some ⟨.type "type", od_CasterError, .cls cd_CasterError, sl_CasterError⟩)
    {N_CasterError : Addr} (cN_CasterError : cd_CasterError.ns = N_CasterError) {noc_CasterError : Value} {nod_CasterError : Option Addr} {nes_CasterError : Array DictEntry} {nn_CasterError : Nat} {nsl_CasterError : Array (Option Value)} (ln_CasterError : K.lookup N_CasterError = some ⟨noc_CasterError, nod_CasterError, .dict nes_CasterError nn_CasterError, nsl_CasterError⟩)
    (le_CasterError : (nes_CasterError.toList.all fun e => match e.key with | .str _ _ => true | _ => false) = true) (ni_CasterError : PySem.W.nsIn K N_CasterError "__init__" = some none)
    {fi_NoBreak : Addr} (cn_NoBreak : PySem.W.findIn K (.ref c_NoBreak) "__init__" = some (some (.ref fi_NoBreak)))
    {iod_NoBreak ian_NoBreak : Option Addr} {isl_NoBreak : Array (Option Value)} {ioc_NoBreak ikV_NoBreak idc_NoBreak ipm_NoBreak icd_NoBreak ict_NoBreak : Value}
    (cl_NoBreak : K.lookup fi_NoBreak = some ⟨ioc_NoBreak, iod_NoBreak, .func (PySem.W.fnOf "__init__" "NoBreak.__init__" (defArgs s_init_NoBreak) (defBody s_init_NoBreak) (defScope s_init_NoBreak) .none ikV_NoBreak idc_NoBreak ipm_NoBreak ian_NoBreak icd_NoBreak ict_NoBreak), isl_NoBreak⟩) (cc_NoBreak : PySem.W.codeIn K icd_NoBreak "NoBreak.__init__" = true) (ck_NoBreak : PySem.W.keepIn K (.ref fi_NoBreak) = true)
    {od_NoBreak : Option Addr} {cd_NoBreak : ClassData} {sl_NoBreak : Array (Option Value)} (lk_NoBreak : K.lookup c_NoBreak = some ⟨.type "type", od_NoBreak, .cls cd_NoBreak, sl_NoBreak⟩)
    {N_NoBreak : Addr} (cN_NoBreak : cd_NoBreak.ns = N_NoBreak) {noc_NoBreak : Value} {nod_NoBreak : Option Addr} {nes_NoBreak : Array DictEntry} {nn_NoBreak : Nat} {nsl_NoBreak : Array (Option Value)} (ln_NoBreak : K.lookup N_NoBreak = some ⟨noc_NoBreak, nod_NoBreak, .dict nes_NoBreak nn_NoBreak, nsl_NoBreak⟩)
    (le_NoBreak : (nes_NoBreak.toList.all fun e => match e.key with | .str _ _ => true | _ => false) = true) (ni_NoBreak : PySem.W.nsIn K N_NoBreak "__init__" = some (some (.ref fi_NoBreak)))
    {k0_NoBreak k1_NoBreak k2_NoBreak k3_NoBreak k5_NoBreak : Option Value} (cs_NoBreak : sl_NoBreak.toList = [k0_NoBreak, k1_NoBreak, k2_NoBreak, k3_NoBreak, some (.builtin "ValueError.__new__"), k5_NoBreak]) (cm_NoBreak : cd_NoBreak.mro = .ref c_NoBreak :: .ref c_CasterError :: bmV) (ch_NoBreak : cd_NoBreak.hasDel = false)
    (q1_NoBreak : PySem.W.findIn K (.ref c_NoBreak) "__getattribute__" = some (some (.builtin "BaseException.__getattribute__"))) (q2_NoBreak : PySem.W.findIn K (.ref c_NoBreak) "__getattr__" = some none) (q3_NoBreak : PySem.W.mroIn K c_NoBreak (.type "BaseException") = some true) (q4_NoBreak : PySem.W.mroIn K c_NoBreak (.type "object") = some true) (q5_NoBreak : PySem.W.findIn K (.ref c_NoBreak) "__class__" = some (some (.builtin "object.__class__"))) (q6_NoBreak : PySem.W.hasDictIn K c_NoBreak = true) (q7_NoBreak : PySem.W.keepIn K (.ref c_NoBreak) = true) (q8_NoBreak : PySem.W.typeIn K (.ref c_NoBreak) = some (.type "type")) (q9_NoBreak : PySem.W.mroIn K c_NoBreak (.type "ValueError") = some true)
    (w1_NoBreak : cd_NoBreak.hasDict = true) (w2_NoBreak : PySem.W.findIn K (.ref c_NoBreak) "__setattr__" = some (some (.builtin "object.__setattr__"))) (w3_NoBreak : PySem.W.findIn K (.ref c_NoBreak) "words" = some none) (w4_NoBreak : PySem.W.isFn K (.ref fi_NoBreak) = true)
    (b1 : PySem.W.readsIn K c_CasterError (.type "type") = true) (b2 : PySem.W.findCls K (.ref c_CasterError) (.type "type") "__init__" = some (.val (.builtin "ValueError.__init__"))) (b3 : PySem.W.specialIn K (.ref c_CasterError) "__getattribute__" = some (some (.builtin "type.__getattribute__")))
    (m_NoBreak_CasterError : PySem.W.mroIn K c_NoBreak (.ref c_CasterError) = some true)
    (m_NoBreak_NoBreak : PySem.W.mroIn K c_NoBreak (.ref c_NoBreak) = some true)
    (z_ValueError : PySem.W.nsIn K mainGlobals "ValueError" = some none)
    (z_any : PySem.W.nsIn K mainGlobals "any" = some none)
    (z_enumerate : PySem.W.nsIn K mainGlobals "enumerate" = some none)
    (z_len : PySem.W.nsIn K mainGlobals "len" = some none)
    (z_max : PySem.W.nsIn K mainGlobals "max" = some none)
    (z_min : PySem.W.nsIn K mainGlobals "min" = some none)
    (z_range : PySem.W.nsIn K mainGlobals "range" = some none)
    (z_sum : PySem.W.nsIn K mainGlobals "sum" = some none)
    : ∃ a : Ad, Tx K mg a := by
  have D0 : D K mg "channel_of" s_channel_of ["case", "sign"] f0 _ := ⟨fun_mk l0 c0 k0, fun us hl => match us, hl with | [_, _], _ => rfl, PySem.W.mg_of X G a0⟩
  have D1 : D K mg "width_of" s_width_of ["case", "word"] f1 _ := ⟨fun_mk l1 c1 k1, fun us hl => match us, hl with | [_, _], _ => rfl, PySem.W.mg_of X G a1⟩
  have D2 : D K mg "body_of" s_body_of ["case", "line"] f2 _ := ⟨fun_mk l2 c2 k2, fun us hl => match us, hl with | [_, _], _ => rfl, PySem.W.mg_of X G a2⟩
  have D3 : D K mg "misfit" s_misfit ["spare", "many", "gaps"] f3 _ := ⟨fun_mk l3 c3 k3, fun us hl => match us, hl with | [_, _, _], _ => rfl, PySem.W.mg_of X G a3⟩
  have D4 : D K mg "cost_of" s_cost_of ["spare", "many", "gaps", "last"] f4 _ := ⟨fun_mk l4 c4 k4, fun us hl => match us, hl with | [_, _, _, _], _ => rfl, PySem.W.mg_of X G a4⟩
  have D5 : D K mg "line_cost" s_line_cost ["case", "line", "measure", "gaps", "last"] f5 _ := ⟨fun_mk l5 c5 k5, fun us hl => match us, hl with | [_, _, _, _, _], _ => rfl, PySem.W.mg_of X G a5⟩
  have D6 : D K mg "costs_of" s_costs_of ["case", "words", "measure", "gaps"] f6 _ := ⟨fun_mk l6 c6 k6, fun us hl => match us, hl with | [_, _, _, _], _ => rfl, PySem.W.mg_of X G a6⟩
  have D7 : D K mg "can_follow" s_can_follow ["costs", "table", "start", "end"] f7 _ := ⟨fun_mk l7 c7 k7, fun us hl => match us, hl with | [_, _, _, _], _ => rfl, PySem.W.mg_of X G a7⟩
  have D8 : D K mg "choices" s_choices ["costs", "table", "start"] f8 _ := ⟨fun_mk l8 c8 k8, fun us hl => match us, hl with | [_, _, _], _ => rfl, PySem.W.mg_of X G a8⟩
  have D9 : D K mg "table_of" s_table_of ["costs", "many"] f9 _ := ⟨fun_mk l9 c9 k9, fun us hl => match us, hl with | [_, _], _ => rfl, PySem.W.mg_of X G a9⟩
  have D10 : D K mg "most_in_full_lines" s_most_in_full_lines ["costs", "many"] f10 _ := ⟨fun_mk l10 c10 k10, fun us hl => match us, hl with | [_, _], _ => rfl, PySem.W.mg_of X G a10⟩
  have D11 : D K mg "breaks_of" s_breaks_of ["case", "words", "measure", "gaps"] f11 _ := ⟨fun_mk l11 c11 k11, fun us hl => match us, hl with | [_, _, _, _], _ => rfl, PySem.W.mg_of X G a11⟩
  have D12 : D K mg "break_table" s_break_table ["case", "words", "measure", "gaps"] f12 _ := ⟨fun_mk l12 c12 k12, fun us hl => match us, hl with | [_, _, _, _], _ => rfl, PySem.W.mg_of X G a12⟩
  have D13 : D K mg "_law_cell" s_law_cell ["_law_script", "_law_k"] f13 _ := ⟨fun_mk l13 c13 k13, fun us hl => match us, hl with | [_, _], _ => rfl, PySem.W.mg_of X G a13⟩
  have D14 : D K mg "_law_stream" s_law_stream ["_law_cell_here", "_law_many"] f14 _ := ⟨fun_mk l14 c14 k14, fun us hl => match us, hl with | [_, _], _ => rfl, PySem.W.mg_of X G a14⟩
  have D15 : D K mg "_law_case" s_law_case ["_law_cell_here"] f15 _ := ⟨fun_mk l15 c15 k15, fun us hl => match us, hl with | [_], _ => rfl, PySem.W.mg_of X G a15⟩
  have D16 : D K mg "_law_words" s_law_words ["_law_cells"] f16 _ := ⟨fun_mk l16 c16 k16, fun us hl => match us, hl with | [_], _ => rfl, PySem.W.mg_of X G a16⟩
  have D17 : D K mg "_law_widths" s_law_widths ["_law_case_here", "_law_words_here"] f17 _ := ⟨fun_mk l17 c17 k17, fun us hl => match us, hl with | [_, _], _ => rfl, PySem.W.mg_of X G a17⟩
  have D18 : D K mg "_law_drawn" s_law_drawn ["_law_script", "_law_most"] f18 _ := ⟨fun_mk l18 c18 k18, fun us hl => match us, hl with | [_, _], _ => rfl, PySem.W.mg_of X G a18⟩
  have D19 : D K mg "_law_ways" s_law_ways ["_law_many"] f19 _ := ⟨fun_mk l19 c19 k19, fun us hl => match us, hl with | [_], _ => rfl, PySem.W.mg_of X G a19⟩
  have D20 : D K mg "_law_costs" s_law_costs ["_law_case_here", "_law_words_here", "_law_measure", "_law_gaps"] f20 _ := ⟨fun_mk l20 c20 k20, fun us hl => match us, hl with | [_, _, _, _], _ => rfl, PySem.W.mg_of X G a20⟩
  have D21 : D K mg "_law_whole" s_law_whole ["_law_costs_here", "_law_way"] f21 _ := ⟨fun_mk l21 c21 k21, fun us hl => match us, hl with | [_, _], _ => rfl, PySem.W.mg_of X G a21⟩
  have D22 : D K mg "_law_front" s_law_front ["_law_costs_here", "_law_way"] f22 _ := ⟨fun_mk l22 c22 k22, fun us hl => match us, hl with | [_, _], _ => rfl, PySem.W.mg_of X G a22⟩
  have D23 : D K mg "law" s_law ["_law_script"] f23 _ := ⟨fun_mk l23 c23 k23, fun us hl => match us, hl with | [_], _ => rfl, PySem.W.mg_of X G a23⟩
  have F_CasterError : NsF K cd_CasterError.ns none := by rw [cN_CasterError]; exact ⟨⟨_, _, _, _, _, ln_CasterError, by rw [← Array.all_toList]; exact le_CasterError⟩, ni_CasterError⟩
  have F_NoBreak : NsF K cd_NoBreak.ns (some fi_NoBreak) := by rw [cN_NoBreak]; exact ⟨⟨_, _, _, _, _, ln_NoBreak, by rw [← Array.all_toList]; exact le_NoBreak⟩, ni_NoBreak⟩
  have TL : PySem.W.tailIn K bmV (.ref c_CasterError :: bmV) = true := tail_mk lk_CasterError F_CasterError
  have E_CasterError : CL K mg "CasterError" c_CasterError := ⟨PySem.W.mg_of X G ca_CasterError, ci_CasterError, ct_CasterError⟩
  have X_NoBreak := xcls_mk lk_NoBreak cm_NoBreak cs_NoBreak ch_NoBreak TL F_NoBreak
  have Q_NoBreak := xq_of (xq_mk q1_NoBreak q2_NoBreak q3_NoBreak q4_NoBreak q5_NoBreak q6_NoBreak q7_NoBreak q8_NoBreak q9_NoBreak)
  have W_NoBreak := xf_of (xf_mk (f := fi_NoBreak) lk_NoBreak (by rw [cm_NoBreak]; rfl) w1_NoBreak w2_NoBreak w3_NoBreak w4_NoBreak)
  have E_NoBreak : CI K mg "NoBreak" "NoBreak.__init__" s_init_NoBreak ["self", "words"] c_NoBreak fi_NoBreak _ "words" := ⟨PySem.W.mg_of X G ca_NoBreak, X_NoBreak, Q_NoBreak, W_NoBreak.1, W_NoBreak.2, fun_mk cl_NoBreak cc_NoBreak ck_NoBreak, fun us hl => match us, hl with | [_, _], _ => rfl⟩
  exact ⟨⟨f0, _, f1, _, f2, _, f3, _, f4, _, f5, _, f6, _, f7, _, f8, _, f9, _, f10, _, f11, _, f12, _, f13, _, f14, _, f15, _, f16, _, f17, _, f18, _, f19, _, f20, _, f21, _, f22, _, f23, _, c_CasterError, c_NoBreak, fi_NoBreak, _⟩, ⟨D0, D1, D2, D3, D4, D5, D6, D7, D8, D9, D10, D11, D12, D13, D14, D15, D16, D17, D18, D19, D20, D21, D22, D23, E_CasterError, E_NoBreak, ⟨b1, b2, b3⟩, m_NoBreak_CasterError, m_NoBreak_NoBreak, PySem.W.mg_none_of X G z_ValueError, PySem.W.mg_none_of X G z_any, PySem.W.mg_none_of X G z_enumerate, PySem.W.mg_none_of X G z_len, PySem.W.mg_none_of X G z_max, PySem.W.mg_none_of X G z_min, PySem.W.mg_none_of X G z_range, PySem.W.mg_none_of X G z_sum⟩⟩
end
end Lw
open PySem PySem.W PyProof.Rows
set_option maxRecDepth 100000 in
set_option maxHeartbeats 0 in
theorem PySem.Challenge.cw_linecaster_k25_whole_none_cheaper_holds : PySem.Challenge.rw_linecaster_k25_whole_none_cheaper.Holds := by
  w_on; o_law; k_head; (case hw => w_witness2)
  k_fill
  refine L2.walk_ofK (l := PySem.Challenge.rw_linecaster_k25_whole_none_cheaper) (n := 63) (k := Lw.lawLevel) (x := "_law_script") (CX := L2.CX0) (sp := Lw.sp_law) rfl (by decide) rfl ⟨rfl, by decide, by decide⟩ (fun w h Y => PySem.W.kIn_of Y) ?F ?S ?C
  case F =>
    intro w mg fa h KX G hmg
    have T : ∃ a : Lw.Ad, Lw.Tx (L2.KOf KX) mg a := by
      dsimp only [L2.KOf]
      refine' Lw.txt_mk KX G ?a0 ?l0 ?c0 ?k0 ?a1 ?l1 ?c1 ?k1 ?a2 ?l2 ?c2 ?k2 ?a3 ?l3 ?c3 ?k3 ?a4 ?l4 ?c4 ?k4 ?a5 ?l5 ?c5 ?k5 ?a6 ?l6 ?c6 ?k6 ?a7 ?l7 ?c7 ?k7 ?a8 ?l8 ?c8 ?k8 ?a9 ?l9 ?c9 ?k9 ?a10 ?l10 ?c10 ?k10 ?a11 ?l11 ?c11 ?k11 ?a12 ?l12 ?c12 ?k12 ?a13 ?l13 ?c13 ?k13 ?a14 ?l14 ?c14 ?k14 ?a15 ?l15 ?c15 ?k15 ?a16 ?l16 ?c16 ?k16 ?a17 ?l17 ?c17 ?k17 ?a18 ?l18 ?c18 ?k18 ?a19 ?l19 ?c19 ?k19 ?a20 ?l20 ?c20 ?k20 ?a21 ?l21 ?c21 ?k21 ?a22 ?l22 ?c22 ?k22 ?a23 ?l23 ?c23 ?k23 ?ca_CasterError ?ci_CasterError ?ct_CasterError ?ca_NoBreak ?lk_CasterError ?cN_CasterError ?ln_CasterError ?le_CasterError ?ni_CasterError ?cn_NoBreak ?cl_NoBreak ?cc_NoBreak ?ck_NoBreak ?lk_NoBreak ?cN_NoBreak ?ln_NoBreak ?le_NoBreak ?ni_NoBreak ?cs_NoBreak ?cm_NoBreak ?ch_NoBreak ?q1_NoBreak ?q2_NoBreak ?q3_NoBreak ?q4_NoBreak ?q5_NoBreak ?q6_NoBreak ?q7_NoBreak ?q8_NoBreak ?q9_NoBreak ?w1_NoBreak ?w2_NoBreak ?w3_NoBreak ?w4_NoBreak ?b1 ?b2 ?b3 ?m_NoBreak_CasterError ?m_NoBreak_NoBreak ?z_ValueError ?z_any ?z_enumerate ?z_len ?z_max ?z_min ?z_range ?z_sum
      (case a0 => k_is)
      (case l0 => k_is)
      (case c0 => k_is)
      (case k0 => k_is)
      (case a1 => k_is)
      (case l1 => k_is)
      (case c1 => k_is)
      (case k1 => k_is)
      (case a2 => k_is)
      (case l2 => k_is)
      (case c2 => k_is)
      (case k2 => k_is)
      (case a3 => k_is)
      (case l3 => k_is)
      (case c3 => k_is)
      (case k3 => k_is)
      (case a4 => k_is)
      (case l4 => k_is)
      (case c4 => k_is)
      (case k4 => k_is)
      (case a5 => k_is)
      (case l5 => k_is)
      (case c5 => k_is)
      (case k5 => k_is)
      (case a6 => k_is)
      (case l6 => k_is)
      (case c6 => k_is)
      (case k6 => k_is)
      (case a7 => k_is)
      (case l7 => k_is)
      (case c7 => k_is)
      (case k7 => k_is)
      (case a8 => k_is)
      (case l8 => k_is)
      (case c8 => k_is)
      (case k8 => k_is)
      (case a9 => k_is)
      (case l9 => k_is)
      (case c9 => k_is)
      (case k9 => k_is)
      (case a10 => k_is)
      (case l10 => k_is)
      (case c10 => k_is)
      (case k10 => k_is)
      (case a11 => k_is)
      (case l11 => k_is)
      (case c11 => k_is)
      (case k11 => k_is)
      (case a12 => k_is)
      (case l12 => k_is)
      (case c12 => k_is)
      (case k12 => k_is)
      (case a13 => k_is)
      (case l13 => k_is)
      (case c13 => k_is)
      (case k13 => k_is)
      (case a14 => k_is)
      (case l14 => k_is)
      (case c14 => k_is)
      (case k14 => k_is)
      (case a15 => k_is)
      (case l15 => k_is)
      (case c15 => k_is)
      (case k15 => k_is)
      (case a16 => k_is)
      (case l16 => k_is)
      (case c16 => k_is)
      (case k16 => k_is)
      (case a17 => k_is)
      (case l17 => k_is)
      (case c17 => k_is)
      (case k17 => k_is)
      (case a18 => k_is)
      (case l18 => k_is)
      (case c18 => k_is)
      (case k18 => k_is)
      (case a19 => k_is)
      (case l19 => k_is)
      (case c19 => k_is)
      (case k19 => k_is)
      (case a20 => k_is)
      (case l20 => k_is)
      (case c20 => k_is)
      (case k20 => k_is)
      (case a21 => k_is)
      (case l21 => k_is)
      (case c21 => k_is)
      (case k21 => k_is)
      (case a22 => k_is)
      (case l22 => k_is)
      (case c22 => k_is)
      (case k22 => k_is)
      (case a23 => k_is)
      (case l23 => k_is)
      (case c23 => k_is)
      (case k23 => k_is)
      (case ca_CasterError => k_is)
      (case ci_CasterError => k_is)
      (case ct_CasterError => k_is)
      (case ca_NoBreak => k_is)
      (case lk_CasterError => k_is)
      (case cN_CasterError => rfl)
      (case ln_CasterError => k_is)
      (case le_CasterError => rfl)
      (case ni_CasterError => k_is)
      (case cn_NoBreak => k_is)
      (case cl_NoBreak => k_is)
      (case cc_NoBreak => k_is)
      (case ck_NoBreak => k_is)
      (case lk_NoBreak => k_is)
      (case cN_NoBreak => rfl)
      (case ln_NoBreak => k_is)
      (case le_NoBreak => rfl)
      (case ni_NoBreak => k_is)
      (case cs_NoBreak => rfl)
      (case cm_NoBreak => rfl)
      (case ch_NoBreak => rfl)
      (case q1_NoBreak => k_is)
      (case q2_NoBreak => k_is)
      (case q3_NoBreak => k_is)
      (case q4_NoBreak => k_is)
      (case q5_NoBreak => k_is)
      (case q6_NoBreak => k_is)
      (case q7_NoBreak => k_is)
      (case q8_NoBreak => k_is)
      (case q9_NoBreak => k_is)
      (case w1_NoBreak => rfl)
      (case w2_NoBreak => k_is)
      (case w3_NoBreak => k_is)
      (case w4_NoBreak => k_is)
      (case b1 => k_is)
      (case b2 => k_is)
      (case b3 => k_is)
      (case m_NoBreak_CasterError => k_is)
      (case m_NoBreak_NoBreak => k_is)
      (case z_ValueError => k_is)
      (case z_any => k_is)
      (case z_enumerate => k_is)
      (case z_len => k_is)
      (case z_max => k_is)
      (case z_min => k_is)
      (case z_range => k_is)
      (case z_sum => k_is)
    obtain ⟨a, T⟩ := T
    have e0 := hmg.symm.trans T.law.mg
    cases e0
    exact ⟨_, fun s u => .of_eq (T.law.ba [u] rfl), fun base kb nb => Lw.ok_law T⟩
  case S => exact fun K H a ns hl hO hS => ⟨a, ns, rfl, hS, hl, fun _ => rfl⟩
  case C => exact fun _ _ _ _ z => z
