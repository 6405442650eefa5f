import PyProof.Rows.All
import Wide.All
import OpenK.AllK
import Wide.FinOn
import Lean
import PyProof.EqAt
import PyProof.EqKinds
import PyProof.TupleCall
import PyProof.P3Eq
import PyProof.NeData
import PyProof.Rows.SortShellK
import PySem.Challenge.RW_linecaster_k42_broken_and_wrong_codes
set_option Elab.async false
set_option linter.all false
set_option maxRecDepth 100000
namespace L2
open PySem PySem.Spec PyProof.Rows
abbrev Key:=Sum Int Str
def zjW : Key -> Value -> Bool
 | .inl k,v=>Value.isInt k v
 | .inr x,v=>Value.isStrOf x v
def keyH (w : World) : Key -> Int
 | .inl k=>hashInt k
 | .inr x=>hashStr w x
theorem zba : ∀ {k : Key} {v : Value},zjW k v = true -> (∃ i t,k = Sum.inl i /\ v = Value.int i t) \/ (∃ x t,k = Sum.inr x /\ v = Value.str x t)
 | .inl i,v,h=>by
   obtain ⟨t,e⟩:=Value.isInt_shape (k:=i) (v:=v) h
   exact .inl ⟨i,t,rfl,e⟩
 | .inr x,v,h=>by
   obtain ⟨t,e⟩:=Value.isStrOf_shape (x:=x) (v:=v) h
   exact .inr ⟨x,t,rfl,e⟩
theorem zla (i : Int) (t : Tok) : zjW (.inl i) (.int i t) = true:=by simp [zjW,Value.isInt]
theorem zlu (x : Str) (t : Tok) : zjW (.inr x) (.str x t) = true:=by simp [zjW,Value.isStrOf]
theorem zqT (a b : Int) : decide ((Sum.inl a : Key) = Sum.inl b) = (a == b):=by
 by_cases e : a = b
 ·subst e; simp
 ·have h : ¬ (Sum.inl a : Key) = Sum.inl b:=fun q=>e (Sum.inl.inj q)
  rw [decide_eq_false h]
  exact (beq_eq_false_iff_ne.mpr e).symm
theorem zof (a b : Str) : decide ((Sum.inr a : Key) = Sum.inr b) = decide (a = b):=by
 by_cases e : a = b
 ·subst e; simp
 ·have h : ¬ (Sum.inr a : Key) = Sum.inr b:=fun q=>e (Sum.inr.inj q)
  rw [decide_eq_false h,decide_eq_false e]
theorem zsB (a : Int) (b : Str) : decide ((Sum.inl a : Key) = Sum.inr b) = false:=decide_eq_false (fun q=>nomatch q)
theorem zsN (a : Str) (b : Int) : decide ((Sum.inr a : Key) = Sum.inl b) = false:=decide_eq_false (fun q=>nomatch q)
def zbu (prog : Program) (w : World) : PySem.KeyKind prog w Key where
 is:=zjW
 hash:=keyH w
 inj:=fun v a b ha hb=>by
  rcases zba ha with ⟨i,t,rfl,rfl⟩ | ⟨x,t,rfl,rfl⟩
  ·rcases zba hb with ⟨j,u,rfl,e⟩ | ⟨y,u,rfl,e⟩
   ·injection e with e1 _; rw [e1]
   ·exact nomatch e
  ·rcases zba hb with ⟨j,u,rfl,e⟩ | ⟨y,u,rfl,e⟩
   ·exact nomatch e
   ·injection e with e1 _; rw [e1]
 byValue:=fun k v h=>by
  rcases zba h with ⟨i,t,rfl,rfl⟩ | ⟨x,t,rfl,rfl⟩ <;> rfl
 pyHash:=fun hv h=>by
  rcases zba hv with ⟨i,t,rfl,rfl⟩ | ⟨x,t,rfl,rfl⟩
  ·exact wpAny_pyHash_int h
  ·exact wpAny_pyHash_str h
 eqBool:=fun hu hv h=>by
  rcases zba hu with ⟨i,t,rfl,rfl⟩ | ⟨x,t,rfl,rfl⟩
  ·rcases zba hv with ⟨j,u,rfl,rfl⟩ | ⟨y,u,rfl,rfl⟩
   ·rw [zqT] at h; exact wpAny_eqBool_int h
   ·rw [zsB] at h; exact SeqAt.EqAt.int_str i t y u _ _ _ _ h
  ·rcases zba hv with ⟨j,u,rfl,rfl⟩ | ⟨y,u,rfl,rfl⟩
   ·rw [zsN] at h; exact SeqAt.EqAt.str_int x t j u _ _ _ _ h
   ·rw [zof] at h; exact wpAny_eqBool_str h
 «strs»:=fun k x t v h=>by
  rcases zba h with ⟨i,u,rfl,e⟩ | ⟨y,u,rfl,e⟩
  ·exact nomatch e
  ·injection e with e1 _
   subst e1
   cases v <;> rfl
theorem ziE (prog : Program) (w : World) (i : Int) (t : Tok) : (zbu prog w).is (.inl i) (.int i t) = true:=zla i t
theorem zim (prog : Program) (w : World) (x : Str) (t : Tok) : (zbu prog w).is (.inr x) (.str x t) = true:=zlu x t
end L2
namespace L2
open PySem PySem.Spec PyProof.Rows
inductive V where
 | non | bl (b : Bool) | int (i : Int) | str (x : Str) | byt (b : Array UInt8) | flt (b : UInt64) | ref (a : Addr) | ty (n : String)
 deriving DecidableEq
def RelV : V -> Value -> Prop
 | .non,u=>u = Value.none
 | .bl b,u=>u = Value.bool b
 | .int i,u=>∃ t,u = Value.int i t
 | .str x,u=>∃ t,u = Value.str x t
 | .byt b,u=>∃ t,u = Value.bytes b t
 | .flt b,u=>∃ t,u = Value.float b t
 | .ref a,u=>u = Value.ref a
 | .ty n,u=>u = Value.type n
abbrev Vals : List V -> List Value -> Prop:=Paired RelV
theorem Vals.length {xs : List V} {us : List Value} (r : Vals xs us) : xs.length = us.length:=Paired.length r
theorem Vals.get : ∀ {xs : List V} {us : List Value} {i : Nat} {x : V},Vals xs us -> xs[i]? = some x -> ∃ u,us[i]? = some u /\ RelV x u
 | _,_,_,_,.nil,e=>by simp at e
 | _,_,0,_,.cons r _,e=>by simp at e; subst e; exact ⟨_,rfl,r⟩
 | _,_,i + 1,x,.cons _ t,e=>by
   obtain ⟨u,h1,h2⟩:=Vals.get (i:=i) (x:=x) t (by simpa using e)
   exact ⟨u,by simpa using h1,h2⟩
theorem Vals.set {x : V} {u : Value} (r : RelV x u) : ∀ {xs : List V} {us : List Value} (i : Nat),Vals xs us -> Vals (xs.set i x) (us.set i u)
 | _,_,_,.nil=>.nil
 | _,_,0,.cons _ t=>.cons r t
 | _,_,i + 1,.cons q t=>.cons q (Vals.set r i t)
theorem Vals.append : ∀ {xs ys : List V} {us ws : List Value},Vals xs us -> Vals ys ws -> Vals (xs ++ ys) (us ++ ws)
 | _,_,_,_,.nil,s=>s
 | _,_,_,_,.cons r t,s=>.cons r (Vals.append t s)
theorem Vals.take : ∀ {xs : List V} {us : List Value} (n : Nat),Vals xs us -> Vals (xs.take n) (us.take n)
 | _,_,0,_=>.nil
 | _,_,_ + 1,.nil=>.nil
 | _,_,n + 1,.cons r t=>.cons r (Vals.take n t)
theorem Vals.drop : ∀ {xs : List V} {us : List Value} (n : Nat),Vals xs us -> Vals (xs.drop n) (us.drop n)
 | _,_,0,r=>r
 | _,_,_ + 1,.nil=>.nil
 | _,_,n + 1,.cons _ t=>Vals.drop n t
def RelO : Option V -> Option Value -> Prop
 | some v,some u=>RelV v u
 | none,none=>True
 | _,_=>False
def KV {κ : Type} : List (κ × V) -> List (κ × Value) -> Prop:=Paired fun (p : κ × V) (q : κ × Value)=>p.1 = q.1 /\ RelV p.2 q.2
def kV : Key -> V
 | .inl i=>.int i
 | .inr x=>.str x
inductive HO where
 | lst (xs : List V)
 | tup (xs : List V)
 | dK (kvs : List (Key × V)) | dT (kvs : List (List Key × V))
 | set (S : Int -> Bool) (n : Nat)
 | ins (C dx : Addr) (fs : List (Str × V))
 | own (x : Addr)
 | xd (fs : List (Str × V))
 | met (f x : Addr)
 | rng (lo hi : Int)
 | frz (o : Obj) (u : HO)
 | tbl (ps : Array Value)
 | ext (φ : Heap -> Prop)
abbrev Hp:=Addr -> Option HO
def upd (H : Hp) (a : Addr) (o : HO) : Hp:=fun b=>if b = a then some o else H b
theorem upd_same {H : Hp} {a : Addr} {o : HO} : upd H a o a = some o:=by unfold upd; rw [if_pos rfl]
theorem zai {H : Hp} {a b : Addr} {o : HO} (h : b ≠ a) : upd H a o b = H b:=by unfold upd; rw [if_neg h]
theorem zbi {H : Hp} {a b : Addr} {o u : HO} (h : H a = some o) (h' : H b = some u) (d : o ≠ u) : a ≠ b:=by
 intro e; subst e; rw [h] at h'; exact d (Option.some.inj h')
theorem zay {H : Hp} {a b : Addr} {o : HO} (h : H a = some o) (h' : H b = none) : a ≠ b:=by
 intro e; subst e; rw [h] at h'; cases h'
section
variable (P : Program) (w : World)
def zbV (H : Hp) (h : Heap) (a : Addr) : HO -> Prop
 | .lst xs=>xs.length <= sizeLine /\ ∃ (its : List Value) (n : Nat),Vals xs its /\ h.get? a = some { cls:=.type "list",data:=.seq its.toArray n }
 | .tup xs=>xs.length <= sizeLine /\ ∃ its : List Value,Vals xs its /\ IsTup h a its.toArray
 | .dK kvs=>kvs.length <= sizeLine /\ (a == sysModules) = false /\ ∃ vs,KV kvs vs /\ h.DictOf (zbu P w) a vs
 | .dT kvs=>kvs.length <= sizeLine /\ (a == sysModules) = false /\ ∃ xs : List (List Key × Addr × Value),
    Paired (fun (p : List Key × V) (q : List Key × Addr × Value)=>p.1 = q.1 /\ H q.2.1 = some (.tup (p.1.map kV)) /\ RelV p.2 q.2.2) kvs xs /\
    ∃ o es ep,h.get? a = some o /\ o.ExactDict /\ o.data = .dict es ep /\ es.toList = xs.map (entryOfKey (tupleKind (zbu P w))) /\ (xs.map (·.1)).Nodup
 | .set S n=>h.SetOf (intKind P w) a S n
 | .ins C dx fs=>H dx = some (.own a) /\ fs.length <= 1000 /\ dx ≠ a /\ h.get? a = some (PySem.W.instObj C dx) /\
    ∃ mA,h.Ns1 dx mA /\ (∀ f,RelO (fs.lookup f) (mA f)) /\ PySem.Within mA (fs.map (·.1))
 | .own _=>∃ o,h.get? a = some o
 | .xd fs=>∃ mA,h.Ns1 a mA /\ ∀ f,RelO (fs.lookup f) (mA f)
 | .rng lo hi=>∃ t u v,h.get? a = some { cls:=.type "range",data:=.fields #[.int lo t,.int hi u,.int 1 v] }
 | .frz o u=>h.get? a = some o /\ zbV H h a u
 | .tbl ps=>h.get? a = some { cls:=.none,data:=.fields ps }
 | .met f x=>h.get? a = some (PySem.W.methodObj (.ref f) (.ref x))
 | .ext φ=>φ h /\ (∃ o,h.get? a = some o) /\ ∀ h1 h2 : Heap,φ h1 -> (∀ o,h1.get? a = some o -> h2.get? a = some o) -> φ h2
def HOk (H : Hp) (h : Heap) : Prop:=∀ a o,H a = some o -> zbV P w H h a o
end
section
variable {P : Program} {w : World} {H H' : Hp} {h h' : Heap} {a : Addr} {o : HO}
theorem zbV.lt (x : zbV P w H h a o) : a < h.objs.size:=by
 cases o with
 | lst xs=>obtain ⟨_,_,_,_,e⟩:=x; exact Heap.lt_size e
 | tup xs=>obtain ⟨_,_,_,p⟩:=x; exact p.lt
 | dK kvs=>obtain ⟨_,_,_,_,o,_,_,e,_⟩:=x; exact Heap.lt_size e
 | dT kvs=>obtain ⟨_,_,_,_,o,_,_,e,_⟩:=x; exact Heap.lt_size e
 | set S n=>obtain ⟨o,_,_,_,e,_⟩:=x; exact Heap.lt_size e
 | ins C dx fs=>obtain ⟨_,_,_,e,_⟩:=x; exact Heap.lt_size e
 | own y=>obtain ⟨_,e⟩:=x; exact Heap.lt_size e
 | xd fs=>obtain ⟨_,⟨_,_,_,e,_⟩,_⟩:=x; exact Heap.lt_size e
 | rng lo hi=>obtain ⟨_,_,_,e⟩:=x; exact Heap.lt_size e
 | frz ob u=>obtain ⟨e,_⟩:=x; exact Heap.lt_size e
 | tbl ps=>exact Heap.lt_size (show h.get? a = some _ from x)
 | met f y=>exact Heap.lt_size (show h.get? a = some _ from x)
 | ext φ=>obtain ⟨_,⟨_,e⟩,_⟩:=x; exact Heap.lt_size e
theorem Paired.mapP {α β : Type} {F G : α -> β -> Prop} : ∀ {l₁ : List α} {l₂ : List β},Paired F l₁ l₂ -> (∀ a b,F a b -> G a b) -> Paired G l₁ l₂
 | _,_,.nil,_=>.nil
 | _,_,.cons r t,f=>.cons (f _ _ r) (Paired.mapP t f)
theorem zbV.stay (x : zbV P w H h a o) (k : ∀ b u,(b = a \/ H b = some (.own a)) -> h.get? b = some u -> h'.get? b = some u)
 (ho : ∀ b,H b = some (.own a) -> H' b = some (.own a)) (ht : ∀ b xs,H b = some (.tup xs) -> H' b = some (.tup xs)) : zbV P w H' h' a o:=by
 induction o with
 | lst xs=>obtain ⟨z,its,n,r,e⟩:=x; exact ⟨z,its,n,r,k _ _ (.inl rfl) e⟩
 | tup xs=>obtain ⟨z,its,r,ob,e,c⟩:=x; exact ⟨z,its,r,ob,k _ _ (.inl rfl) e,c⟩
 | dK kvs=>obtain ⟨z,y,vs,r,ob,es,ep,e,c⟩:=x; exact ⟨z,y,vs,r,ob,es,ep,k _ _ (.inl rfl) e,c⟩
 | dT kvs =>
   obtain ⟨z,y,xs,r,ob,es,ep,e,c⟩:=x
   exact ⟨z,y,xs,Paired.mapP r fun p q z=>⟨z.1,ht _ _ z.2.1,z.2.2⟩,ob,es,ep,k _ _ (.inl rfl) e,c⟩
 | set S n=>obtain ⟨ob,es,ep,t,e,c⟩:=x; exact ⟨ob,es,ep,t,k _ _ (.inl rfl) e,c⟩
 | ins C dx fs =>
   obtain ⟨d,z,ne,e,mA,⟨od,es,ep,e2,c⟩,r⟩:=x
   exact ⟨ho _ d,z,ne,k _ _ (.inl rfl) e,mA,⟨od,es,ep,k _ _ (.inr d) e2,c⟩,r⟩
 | own y=>obtain ⟨ob,e⟩:=x; exact ⟨ob,k _ _ (.inl rfl) e⟩
 | xd fs=>obtain ⟨mA,⟨od,es,ep,e,c⟩,r⟩:=x; exact ⟨mA,⟨od,es,ep,k _ _ (.inl rfl) e,c⟩,r⟩
 | rng lo hi=>obtain ⟨t,u,v,e⟩:=x; exact ⟨t,u,v,k _ _ (.inl rfl) e⟩
 | frz ob u ih=>obtain ⟨e,q⟩:=x; exact ⟨k _ _ (.inl rfl) e,ih q⟩
 | tbl ps =>
   have e : h.get? a = some { cls:=.none,data:=.fields ps }:=x
   show h'.get? a = some { cls:=.none,data:=.fields ps }
   exact k a _ (.inl rfl) e
 | met f y =>
   have e : h.get? a = some (PySem.W.methodObj (.ref f) (.ref y)):=x
   show h'.get? a = some (PySem.W.methodObj (.ref f) (.ref y))
   exact k a _ (.inl rfl) e
 | ext φ=>obtain ⟨p,⟨o,e⟩,st⟩:=x; exact ⟨st _ _ p fun o q=>k _ _ (.inl rfl) q,⟨o,k _ _ (.inl rfl) e⟩,st⟩
theorem HOk.lt (x : HOk P w H h) (e : H a = some o) : a < h.objs.size:=(x a o e).lt
theorem HOk.fresh (x : HOk P w H h) (e : h.objs.size <= a) : H a = none:=by
 cases q : H a with
 | none=>rfl
 | some u=>exact absurd (Nat.lt_of_lt_of_le (x.lt q) e) (Nat.lt_irrefl _)
theorem HOk.kept (x : HOk P w H h) (k : ∀ b u,h.get? b = some u -> h'.get? b = some u) : HOk P w H h':=fun a o e =>
 (x a o e).stay (fun b u _ q=>k b u q) (fun _ q=>q) fun _ _ q=>q
theorem HOk.laid (x : HOk P w H h) (k : ∀ b u,h.get? b = some u -> h'.get? b = some u) (hp : h.objs.size <= a) (new : zbV P w (upd H a o) h' a o) : HOk P w (upd H a o) h':=fun b u e=>by
 have hn:=x.fresh hp
 by_cases hb : b = a
 ·subst hb; rw [upd_same] at e; cases e; exact new
 ·rw [zai hb] at e
  exact (x b u e).stay (fun c v _ q=>k c v q) (fun c q=>by rw [zai (zay q hn)]; exact q) fun c xs q=>by rw [zai (zay q hn)]; exact q
end
def Rd (H : Hp) (a : Addr) (u : HO) : Prop:=H a = some u \/ ∃ o,H a = some (.frz o u)
theorem Rd.of {H : Hp} {a : Addr} {u : HO} (h : H a = some u) : Rd H a u:=.inl h
theorem Rd.ok {P : Program} {w : World} {H : Hp} {h : Heap} {a : Addr} {u : HO} (r : Rd H a u) (x : HOk P w H h) : zbV P w H h a u:=by
 rcases r with r | ⟨o,r⟩
 ·exact x a u r
 ·obtain ⟨_,q⟩:=x a _ r
  exact q
def Mut : Option HO -> Prop
 | some (.lst _)=>True
 | some (.dK _)=>True
 | some (.dT _)=>True
 | some (.set _ _)=>True
 | some (.ins _ _ _)=>True
 | some (.ext _)=>True
 | _=>False
section
variable {P : Program} {w : World} {H : Hp} {h h' : Heap} {x e : Addr} {o' : HO}
theorem HOk.write (ok : HOk P w H h) (mu : Mut (H x)) (he : e = x \/ H e = some (.own x)) (k : ∀ b u,b ≠ e -> h.get? b = some u -> h'.get? b = some u) (heo : ∃ u,h'.get? e = some u)
 (new : zbV P w (upd H x o') h' x o') : HOk P w (upd H x o') h':=fun b u q=>by
 have nown : ∀ c y,H c = some (.own y) -> c ≠ x:=fun c y r z=>by subst z; rw [r] at mu; exact mu
 have ntup : ∀ c xs,H c = some (.tup xs) -> c ≠ x:=fun c xs r z=>by subst z; rw [r] at mu; exact mu
 by_cases hb : b = x
 ·subst hb; rw [upd_same] at q; cases q; exact new
 ·rw [zai hb] at q
  by_cases hbe : b = e
  ·have q' : H b = some (.own x):=by
    rcases he with z | z
    ·exact absurd (hbe.trans z) hb
    ·rw [hbe]; exact z
   rw [q] at q'; cases q'
   obtain ⟨v,hv⟩:=heo
   exact ⟨v,by rw [hbe]; exact hv⟩
  ·refine (ok b u q).stay (fun c v hc r=>k c v ?_ r) (fun c r=>by rw [zai (nown c b r)]; exact r) fun c xs r=>by rw [zai (ntup c xs r)]; exact r
   rcases hc with rfl | hc
   ·exact hbe
   ·rintro rfl
    rcases he with z | z
    ·exact nown c b hc z
    ·rw [hc] at z; cases z; exact hb rfl
end
structure Un (fs ex : List Addr) (H H' : Hp) (h h' : Heap) : Prop where
 keep : ∀ b o,h.get? b = some o -> H b = none -> b ∉ fs -> b ∉ ex -> h'.get? b = some o
 slot : ∀ b o,h.get? b = some o -> H b = none -> b ∈ fs -> b ∉ ex -> ∃ sl,h'.get? b = some { o with slots:=sl }
 free : ∀ b o,h.get? b = some o -> H b = none -> b ∉ ex -> H' b = none
 there : ∀ b o,h.get? b = some o -> b ∉ ex -> ∃ o',h'.get? b = some o'
 tups : ∀ b xs,H b = some (.tup xs) -> H' b = some (.tup xs)
 frzs : ∀ b o u,H b = some (.frz o u) -> H' b = some (.frz o u)
 tbls : ∀ b ps,H b = some (.tbl ps) -> ∃ more,H' b = some (.tbl (ps ++ more))
section
variable {fs fs' ex ex' : List Addr} {H H1 H2 : Hp} {h h1 h2 h' : Heap} {a x e : Addr} {o : HO}
theorem Un.any (u : Un fs ex H H1 h h1) {b : Addr} {ob : Obj} (q : h.get? b = some ob) (n : H b = none) (hx : b ∉ ex) : ∃ sl,h1.get? b = some { ob with slots:=sl }:=by
 by_cases hb : b ∈ fs
 ·exact u.slot b ob q n hb hx
 ·exact ⟨ob.slots,u.keep b ob q n hb hx⟩
theorem Un.trans (a : Un fs ex H H1 h h1) (b : Un fs ex H1 H2 h1 h2) : Un fs ex H H2 h h2 where
 keep:=fun c ob q n hc hx=>b.keep c ob (a.keep c ob q n hc hx) (a.free c ob q n hx) hc hx
 slot:=fun c ob q n hc hx=>by
  obtain ⟨sl,e1⟩:=a.slot c ob q n hc hx
  obtain ⟨sl',e2⟩:=b.slot c _ e1 (a.free c ob q n hx) hc hx
  exact ⟨sl',e2⟩
 free:=fun c ob q n hx=>by
  obtain ⟨o',e1⟩:=a.there c ob q hx
  exact b.free c o' e1 (a.free c ob q n hx) hx
 there:=fun c ob q hx=>by
  obtain ⟨o',e1⟩:=a.there c ob q hx
  exact b.there c o' e1 hx
 tups:=fun c xs q=>b.tups c xs (a.tups c xs q)
 frzs:=fun c ob xs q=>b.frzs c ob xs (a.frzs c ob xs q)
 tbls:=fun c ps q=>by
  obtain ⟨m1,e1⟩:=a.tbls c ps q
  obtain ⟨m2,e2⟩:=b.tbls c _ e1
  exact ⟨m1 ++ m2,by rw [e2,Array.append_assoc]⟩
theorem Un.kept (k : ∀ b u,h.get? b = some u -> h'.get? b = some u) : Un fs ex H H h h' :=
 ⟨fun b ob q _ _ _=>k b ob q,fun b ob q _ _ _=>⟨ob.slots,k b ob q⟩,fun _ _ _ n _=>n,fun b ob q _=>⟨ob,k b ob q⟩,fun _ _ q=>q,fun _ _ _ q=>q,fun _ ps q=>⟨#[],by rw [q]; simp⟩⟩
theorem Un.refl : Un fs ex H H h h:=Un.kept fun _ _ q=>q
theorem Un.laid (k : ∀ b u,h.get? b = some u -> h'.get? b = some u) (hp : h.objs.size <= a) (hn : H a = none) : Un fs ex H (upd H a o) h h' where
 keep:=fun b u q _ _ _=>k b u q
 slot:=fun b u q _ _ _=>⟨u.slots,k b u q⟩
 free:=fun b u q n _=>by rw [zai (Nat.ne_of_lt (Nat.lt_of_lt_of_le (Heap.lt_size q) hp))]; exact n
 there:=fun b u q _=>⟨u,k b u q⟩
 tups:=fun b xs q=>by rw [zai (zay q hn)]; exact q
 frzs:=fun b u xs q=>by rw [zai (zay q hn)]; exact q
 tbls:=fun b ps q=>⟨#[],by rw [zai (zay q hn),q]; simp⟩
theorem Un.write (mu : Mut (H x)) (he : e = x \/ H e = some (.own x)) (k : ∀ b u,b ≠ e -> h.get? b = some u -> h'.get? b = some u) (heo : ∃ u,h'.get? e = some u) : Un fs ex H (upd H x o) h h':=by
 have hx : ∀ b,H b = none -> b ≠ x:=fun b n z=>by subst z; rw [n] at mu; exact mu
 have hb : ∀ b,H b = none -> b ≠ e:=fun b n z=>by
  subst z
  rcases he with r | r
  ·exact hx b n r
  ·rw [n] at r; cases r
 have hm : ∀ b u,H b = some u -> ¬ Mut (some u) -> b ≠ x:=fun b u q nm z=>by subst z; rw [q] at mu; exact nm mu
 refine ⟨fun b u q n _ _=>k b u (hb b n) q,fun b u q n _ _=>⟨u.slots,k b u (hb b n) q⟩,fun b u q n _=>by rw [zai (hx b n)]; exact n,fun b u q _=>?_,
  fun b xs q=>by rw [zai (hm b _ q fun z=>z)]; exact q,fun b u xs q=>by rw [zai (hm b _ q fun z=>z)]; exact q,fun b ps q=>⟨#[],by rw [zai (hm b _ q fun z=>z),q]; simp⟩⟩
 by_cases hbe : b = e
 ·subst hbe; exact heo
 ·exact ⟨u,k b u hbe q⟩
end
def trk (h : Heap) (H : Hp) : List Addr:=(List.range h.objs.size).filter fun a=>(H a).isSome
def hidT (h : Heap) (H : Hp) : Heap:=PySem.W.hideAll h (trk h H)
theorem zkr (h : Heap) (H : Hp) : (hidT h H).objs.size = h.objs.size:=PySem.W.hideAll_size _ _
theorem zmc {h : Heap} {H : Hp} {b : Addr} {o : Obj} (e : h.get? b = some o) (n : H b = none) : (hidT h H).get? b = some o :=
 PySem.W.hideAll_get _ e fun hm=>by
  have q : (H b).isSome = true:=(List.mem_filter.mp hm).2
  rw [n] at q; simp at q
theorem znD {h : Heap} {H : Hp} {b : Addr} {o : Obj} (e : (hidT h H).get? b = some o) : h.get? b = some o /\ H b = none:=by
 have e' : h.get? b = some o:=PySem.W.of_hideAll (trk h H) e
 refine ⟨e',?_⟩
 cases q : H b with
 | none=>rfl
 | some x =>
   have hm : b ∈ trk h H:=List.mem_filter.mpr ⟨List.mem_range.mpr (Heap.lt_size e'),by simp [q]⟩
   have z : (hidT h H).get? b = none:=PySem.W.hideAll_none (trk h H) hm
   rw [z] at e; cases e
def znv (g h : Heap) (L : Addr) : List (Addr × Obj):=(List.range h.objs.size).filterMap fun a=>if a = L \/ (g.get? a).isSome = true then none else (h.get? a).map fun o=>(a,o)
def rest (g h : Heap) (L d : Addr) : List (Addr × Obj):=(znv g h L).filter fun p=>decide (p.1 ≠ d)
end L2
namespace L2
open PySem PySem.Spec PyProof.Rows
structure Mod (K : PySem.W.Frag) (mg : Str -> Option Value) (base : Heap) : Prop where
 kin : K.In base
 glob : base.Ns mainGlobals mg
 blt : ∃ mb,base.Ns builtinsNs mb /\ ∀ x : Str,x ≠ "__name__" -> mb x = bootBuiltins x
 nolimit : base.NoLimit
structure Cx where
 prog : Program
 w : World
 K : PySem.W.Frag
 mg : Str -> Option Value
 base : Heap
 A : Around
 N : List Str
 s₀ : Shared
 H₀ : Hp
 env : Env
 outer : List Env
 stack : List Env
 ex : List Addr
 fn : Str -> Bool
 calm : Bool
 pn : List (Addr × Obj)
 xe : Value -> Shared -> Prop
def frs (l : List Env) : List Addr:=l.filterMap (·.frame)
abbrev Cx.fs (X : Cx) : List Addr:=frs X.outer
def Vis (sc : Scope) (x : Str) : Prop:=sc.names.lookup x = some .local \/ sc.names.lookup x = some .cell \/ sc.names.lookup x = some .free
def Loc (sc : Scope) (x : Str) : Prop:=sc.names.lookup x = some .local \/ sc.names.lookup x = some .cell
def Look (env : Env) (h : Heap) (m : Str -> Option Value) (x : Str) (u : Value) : Prop :=
 (env.kindOf x = some .local /\ m x = some u) \/ ((env.kindOf x = some .cell \/ env.kindOf x = some .free) /\ ∃ c,env.cells.lookup x = some c /\ h.IsCell c (some u))
structure Cx.Ok (X : Cx) : Prop where
 mod : Mod X.K X.mg X.base
 kind : X.env.scope.kind = .function
 glob : X.env.globals = mainGlobals
 blt : X.env.builtins = builtinsNs
 above : X.s₀.heap.objs.size <= X.env.locals
 inj : ∀ x y c,X.env.cells.lookup x = some c -> X.env.cells.lookup y = some c -> x = y
 has : ∀ x,(X.env.kindOf x = some .cell \/ X.env.kindOf x = some .free) -> ∃ c,X.env.cells.lookup x = some c
 cab : ∀ x c,X.fn x = true -> X.env.cells.lookup x = some c -> X.s₀.heap.objs.size <= c
 hd : X.calm = true -> X.A.handled = none
 frames : X.A.frames = some X.stack
 stk : X.stack = X.outer \/ (X.stack = X.env :: X.outer /\ X.env.frame = some X.env.locals)
 exf : ∀ b ∈ X.ex,b ≠ X.env.locals /\ ∀ x c,X.env.cells.lookup x = some c -> c ≠ b
 bs : ∀ b o,X.base.get? b = some o -> X.s₀.heap.get? b = some o /\ X.H₀ b = none
 bsz : X.base.objs.size <= X.s₀.heap.objs.size
 noex : ∀ b o,X.base.get? b = some o -> b ∉ X.ex
 exfs : ∀ b ∈ X.ex,b ∉ X.fs
 funs : X.s₀.heap.FunFrames X.base X.outer
 frf : ∀ b ∈ X.fs,X.H₀ b = none
structure Inv (X : Cx) (pins : List (Addr × Obj)) (σ : List (Option V)) (H : Hp) (s : Shared) : Prop where
 ok : X.Ok
 os : s.os = X.s₀.os
 bare : AllBare s.gens
 base : Un X.fs X.ex X.H₀ H X.s₀.heap s.heap
 loc : ∃ m,s.heap.Ns X.env.locals m /\ ∀ (i : Nat) (x : Str) (v : V),X.N[i]? = some x -> σ[i]? = some (some v) -> Vis X.env.scope x -> ∃ u,RelV v u /\ Look X.env s.heap m x u
 cell : ∀ x c,X.env.cells.lookup x = some c -> ∃ v,s.heap.IsCell c v
 free : H X.env.locals = none
 freeC : ∀ x c,X.env.cells.lookup x = some c -> H c = none
 pin : ∀ p ∈ X.pn ++ pins,s.heap.get? p.1 = some p.2 /\ H p.1 = none /\ p.1 ≠ X.env.locals /\ p.1 ∉ X.fs /\ ∀ v,p.2.data ≠ .cell v
 hok : HOk X.prog X.w H s.heap
 len : σ.length = X.N.length
section
variable {X : Cx} {pins : List (Addr × Obj)} {σ : List (Option V)} {H H' : Hp} {s : Shared} {h' : Heap}
theorem Cx.Ok.nofr (ok : X.Ok) {b : Addr} {o : Obj} (e : X.base.get? b = some o) : b ∉ X.fs:=fun hb=>by
 have:=(ok.funs.mem hb).1
 rw [e] at this; cases this
theorem Inv.bs (I : Inv X pins σ H s) : ∀ b o,X.base.get? b = some o -> s.heap.get? b = some o /\ H b = none:=fun b o e =>
 ⟨I.base.keep b o (I.ok.bs b o e).1 (I.ok.bs b o e).2 (I.ok.nofr e) (I.ok.noex b o e),I.base.free b o (I.ok.bs b o e).1 (I.ok.bs b o e).2 (I.ok.noex b o e)⟩
theorem Inv.bk (I : Inv X pins σ H s) : ∀ b o,X.base.get? b = some o -> s.heap.get? b = some o:=fun b o e=>(I.bs b o e).1
theorem Inv.mod (I : Inv X pins σ H s) : Mod X.K X.mg X.base:=I.ok.mod
theorem Inv.kIn (I : Inv X pins σ H s) : X.K.In s.heap:=I.ok.mod.kin.keeps I.bk
theorem Inv.nolimit (I : Inv X pins σ H s) : s.heap.NoLimit:=I.ok.mod.nolimit.keeps I.bk
theorem Inv.fr (I : Inv X pins σ H s) : ∃ m,Fr X.base X.env.locals s.heap m :=
 let ⟨m,hn,_⟩:=I.loc
 ⟨m,hn,I.bk,Nat.le_trans I.ok.bsz I.ok.above⟩
theorem Inv.lt (I : Inv X pins σ H s) : X.env.locals < s.heap.objs.size:=let ⟨_,hn,_⟩:=I.loc; hn.lt
theorem Inv.sz (I : Inv X pins σ H s) : X.s₀.heap.objs.size <= s.heap.objs.size:=Nat.le_trans I.ok.above (Nat.le_of_lt I.lt)
theorem Inv.nofs (I : Inv X pins σ H s) {a : Addr} (h : s.heap.objs.size <= a) : a ∉ X.fs:=fun hb=>by
 obtain ⟨_,o,ho,_⟩:=I.ok.funs.mem hb
 exact absurd (Nat.lt_of_lt_of_le (Heap.lt_size ho) (Nat.le_trans I.sz h)) (Nat.lt_irrefl _)
theorem Inv.cne (I : Inv X pins σ H s) : ∀ x c,X.env.cells.lookup x = some c -> c ≠ X.env.locals:=fun x c e z=>by
 obtain ⟨v,o,ho,hd⟩:=I.cell x c e
 obtain ⟨m,⟨o',es,ep,ho',hd',_⟩,_⟩:=I.loc
 rw [z,ho'] at ho; cases ho; rw [hd'] at hd; cases hd
theorem Inv.funs (I : Inv X pins σ H s) : s.heap.FunFrames X.base X.outer:=by
 have all : ∀ (l : List Env),(∀ b ∈ frs l,b ∈ X.fs) -> X.s₀.heap.FunFrames X.base l -> s.heap.FunFrames X.base l:=by
  intro l
  induction l with
  | nil=>intro _ _; trivial
  | cons env r ih =>
    intro hs hl
    obtain ⟨hk,⟨L,o,hf,hn,ho,hd⟩,hr⟩:=hl
    have hL : L ∈ X.fs:=hs L (by unfold frs; rw [List.filterMap_cons,hf]; exact List.mem_cons_self)
    obtain ⟨sl,e⟩:=I.base.slot L o ho (I.ok.frf L hL) hL fun z=>I.ok.exfs L z hL
    exact ⟨hk,⟨L,_,hf,hn,e,hd⟩,ih (fun b hb=>hs b (by unfold frs; rw [List.filterMap_cons,hf]; exact List.mem_cons_of_mem _ hb)) hr⟩
 exact all X.outer (fun _ hb=>hb) I.ok.funs
theorem Inv.stack (I : Inv X pins σ H s) : s.heap.FunFrames X.base X.stack:=by
 rcases I.ok.stk with e | ⟨e,hf⟩
 ·rw [e]; exact I.funs
 ·rw [e]
  obtain ⟨m,hn,_⟩:=I.loc
  refine .cons (by rw [I.ok.kind]; decide) hf hn ?_ I.funs
  exact Heap.get?_none_of_le (Nat.le_trans I.ok.bsz I.ok.above)
theorem Inv.stkSub (I : Inv X pins σ H s) : ∀ b ∈ frs X.stack,b ∈ X.env.locals :: X.fs:=fun b hb=>by
 rcases I.ok.stk with e | ⟨e,hf⟩
 ·rw [e] at hb; exact List.mem_cons_of_mem _ hb
 ·rw [e] at hb
  unfold frs at hb
  rw [List.filterMap_cons,hf] at hb
  exact hb
theorem Inv.stkFree (I : Inv X pins σ H s) : ∀ b ∈ frs X.stack,H b = none:=fun b hb=>by
 rcases List.mem_cons.mp (I.stkSub b hb) with e | hb
 ·rw [e]; exact I.free
 ·obtain ⟨_,o,ho,_⟩:=I.ok.funs.mem hb
  exact I.base.free b o ho (I.ok.frf b hb) fun z=>I.ok.exfs b z hb
theorem Inv.step {g' : Array GenState} {t' : Nat} {d' : Drawn} {ch : List Addr} (I : Inv X pins σ H s)
 (hch : ∀ b ∈ ch,(b ∈ X.ex \/ X.s₀.heap.objs.size <= b) /\ b ≠ X.env.locals /\ (∀ x c,X.env.cells.lookup x = some c -> c ≠ b) /\ ∀ p ∈ X.pn ++ pins,p.1 ≠ b)
 (keep : ∀ b o,b ≠ X.env.locals -> b ∉ X.fs -> b ∉ ch -> s.heap.get? b = some o -> H b = none -> h'.get? b = some o)
 (slot : ∀ b o,b ≠ X.env.locals -> b ∈ X.fs -> b ∉ ch -> s.heap.get? b = some o -> H b = none -> ∃ sl,h'.get? b = some { o with slots:=sl }) (free : ∀ b o,b ∉ ch -> s.heap.get? b = some o -> H b = none -> H' b = none)
 (there : ∀ b o,b ∉ ch -> s.heap.get? b = some o -> ∃ o',h'.get? b = some o')
 (tups : ∀ b xs,H b = some (.tup xs) -> H' b = some (.tup xs)) (frzs : ∀ b o u,H b = some (.frz o u) -> H' b = some (.frz o u)) (tbls : ∀ b ps,H b = some (.tbl ps) -> ∃ more,H' b = some (.tbl (ps ++ more)))
 (ns : ∀ m,s.heap.Ns X.env.locals m -> h'.Ns X.env.locals m) (hok : HOk X.prog X.w H' h') (hg : AllBare g') :
 Inv X pins σ H' { s with heap:=h',gens:=g',drawn:=d',toks:=t' }:=by
 have neL : ∀ b o,X.s₀.heap.get? b = some o -> b ≠ X.env.locals:=fun b o e=>Nat.ne_of_lt (Nat.lt_of_lt_of_le (Heap.lt_size e) I.ok.above)
 have neC : ∀ b o,X.s₀.heap.get? b = some o -> b ∉ X.ex -> b ∉ ch:=fun b o e hx hb=>by
  rcases (hch b hb).1 with z | z
  ·exact hx z
  ·exact absurd (Nat.lt_of_lt_of_le (Heap.lt_size e) z) (Nat.lt_irrefl _)
 have cellK : ∀ x c,X.env.cells.lookup x = some c -> ∀ v,s.heap.IsCell c v -> h'.IsCell c v:=fun x c e v ⟨o,ho,hd⟩=>by
  have nch : c ∉ ch:=fun z=>(hch c z).2.2.1 x c e rfl
  by_cases hc : c ∈ X.fs
  ·obtain ⟨sl,q⟩:=slot c o (I.cne x c e) hc nch ho (I.freeC x c e)
   exact ⟨_,q,hd⟩
  ·exact ⟨o,keep c o (I.cne x c e) hc nch ho (I.freeC x c e),hd⟩
 refine ⟨I.ok,I.os,hg,⟨fun b o e n hb hx=>?_,fun b o e n hb hx=>?_,fun b o e n hx=>?_,fun b o e hx=>?_,fun b xs e=>tups b xs (I.base.tups b xs e),fun b o xs e=>frzs b o xs (I.base.frzs b o xs e),fun b ps e=>?_⟩,?_,fun x c e=>?_,?_,fun x c e=>?_,fun p hp=>?_,hok,I.len⟩
 ·exact keep b o (neL b o e) hb (neC b o e hx) (I.base.keep b o e n hb hx) (I.base.free b o e n hx)
 ·obtain ⟨sl,e1⟩:=I.base.slot b o e n hb hx
  obtain ⟨sl',e2⟩:=slot b _ (neL b o e) hb (neC b o e hx) e1 (I.base.free b o e n hx)
  exact ⟨sl',e2⟩
 ·obtain ⟨o',e1⟩:=I.base.there b o e hx
  exact free b o' (neC b o e hx) e1 (I.base.free b o e n hx)
 ·obtain ⟨o',e1⟩:=I.base.there b o e hx
  exact there b o' (neC b o e hx) e1
 ·obtain ⟨m1,e1⟩:=I.base.tbls b ps e
  obtain ⟨m2,e2⟩:=tbls b _ e1
  exact ⟨m1 ++ m2,by rw [e2,Array.append_assoc]⟩
 ·obtain ⟨m,hn,hl⟩:=I.loc
  refine ⟨m,ns m hn,fun i x v e1 e2 e3=>?_⟩
  obtain ⟨u,r,l⟩:=hl i x v e1 e2 e3
  refine ⟨u,r,?_⟩
  rcases l with l | ⟨k,c,e,z⟩
  ·exact .inl l
  ·exact .inr ⟨k,c,e,cellK x c e _ z⟩
 ·obtain ⟨v,z⟩:=I.cell x c e
  exact ⟨v,cellK x c e v z⟩
 ·obtain ⟨m,⟨o,_,_,ho,_⟩,_⟩:=I.loc
  exact free _ o (fun z=>(hch _ z).2.1 rfl) ho I.free
 ·obtain ⟨v,o,ho,hd⟩:=I.cell x c e
  exact free c o (fun z=>(hch c z).2.2.1 x c e rfl) ho (I.freeC x c e)
 ·obtain ⟨e,n,ne,nf,d⟩:=I.pin p hp
  have nch : p.1 ∉ ch:=fun z=>(hch p.1 z).2.2.2 p hp rfl
  exact ⟨keep p.1 p.2 ne nf nch e n,free p.1 p.2 nch e n,ne,nf,d⟩
theorem Inv.un {t' : Nat} (I : Inv X pins σ H s) (u : Un X.fs [] H H' s.heap h') (hok : HOk X.prog X.w H' h') : Inv X pins σ H' { s with heap:=h',toks:=t' }:=by
 obtain ⟨m,⟨o,es,ep,ho,r⟩,_⟩:=id I.loc
 obtain ⟨sl,hL⟩:=u.any ho I.free (by simp)
 exact I.step (g':=s.gens) (d':=s.drawn) (ch:=[]) (fun _ z=>nomatch z) (fun b o _ hb _ e n=>u.keep b o e n hb (by simp)) (fun b o _ hb _ e n=>u.slot b o e n hb (by simp)) (fun b o _ e n=>u.free b o e n (by simp)) (fun b o _ e=>u.there b o e (by simp)) u.tups u.frzs u.tbls (fun m' hm=>by
  obtain ⟨o',es',ep',ho',r'⟩:=hm
  rw [ho] at ho'; cases ho'
  exact ⟨_,es',ep',hL,r'⟩) hok I.bare
theorem Inv.call {g' : Array GenState} {t' : Nat} {d' : Drawn} {ch : List Addr} (I : Inv X pins σ H s) (u : Un (frs X.stack) ch H H' s.heap h') (hok : HOk X.prog X.w H' h') (hg : AllBare g')
 (hch : ∀ b ∈ ch,(b ∈ X.ex \/ X.s₀.heap.objs.size <= b) /\ b ≠ X.env.locals /\ (∀ x c,X.env.cells.lookup x = some c -> c ≠ b) /\ ∀ p ∈ X.pn ++ pins,p.1 ≠ b) :
 Inv X pins σ H' { s with heap:=h',gens:=g',drawn:=d',toks:=t' }:=by
 obtain ⟨m,⟨o,es,ep,ho,r⟩,_⟩:=id I.loc
 obtain ⟨sl,hL⟩:=u.any ho I.free fun z=>(hch _ z).2.1 rfl
 exact I.step (ch:=ch) hch (fun b o hL hb hc e n=>u.keep b o e n (fun z=>(List.mem_cons.mp (I.stkSub b z)).elim hL hb) hc) (fun b o _ _ hc e n=>u.any e n hc) (fun b o hc e n=>u.free b o e n hc) (fun b o hc e=>u.there b o e hc) u.tups u.frzs u.tbls (fun m' hm=>by
  obtain ⟨o',es',ep',ho',r'⟩:=hm
  rw [ho] at ho'; cases ho'
  exact ⟨_,es',ep',hL,r'⟩) hok hg
theorem Inv.turned {t' : Nat} {it : Addr} (I : Inv X pins σ H s) (k : ∀ b o,b ≠ it -> s.heap.get? b = some o -> h'.get? b = some o) (hn : H it = none) (hL : it ≠ X.env.locals)
 (h1 : it ∈ X.ex \/ X.s₀.heap.objs.size <= it) (h2 : ∀ x c,X.env.cells.lookup x = some c -> c ≠ it) (h3 : ∀ p ∈ X.pn ++ pins,p.1 ≠ it) : Inv X pins σ H { s with heap:=h',toks:=t' }:=by
 have nit : ∀ b u,H b = some u -> b ≠ it:=fun b u e z=>by rw [z,hn] at e; cases e
 refine I.step (g':=s.gens) (d':=s.drawn) (ch:=[it]) (fun b hb=>?_) (fun b o _ _ hc e _=>k b o (fun z=>hc (by simp [z])) e) (fun b o _ _ hc e _=>⟨o.slots,k b o (fun z=>hc (by simp [z])) e⟩) (fun _ _ _ _ n=>n)
  (fun b o hc e=>⟨o,k b o (fun z=>hc (by simp [z])) e⟩) (fun _ _ e=>e) (fun _ _ _ e=>e) (fun b ps e=>⟨#[],by rw [e]; simp⟩) (fun m hm=>?_) (fun b u e=>?_) I.bare
 ·have e : b = it:=by simpa using hb
  subst e
  exact ⟨h1,hL,h2,h3⟩
 ·obtain ⟨o,es,ep,ho,r⟩:=hm
  exact ⟨o,es,ep,k _ o (Ne.symm hL) ho,r⟩
 ·refine (I.hok b u e).stay (fun c v hc q=>k c v ?_ q) (fun _ q=>q) fun _ _ q=>q
  rcases hc with z | z
  ·rw [z]; exact nit b u e
  ·exact nit c _ z
theorem Inv.tok (I : Inv X pins σ H s) (t : Nat) : Inv X pins σ H { s with toks:=t }:=I.un (h':=s.heap) (t':=t) Un.refl I.hok
theorem Inv.kept {t' : Nat} (I : Inv X pins σ H s) (k : ∀ b u,s.heap.get? b = some u -> h'.get? b = some u) : Inv X pins σ H { s with heap:=h',toks:=t' }:=I.un (Un.kept k) (I.hok.kept k)
theorem Inv.laid {a : Addr} {o : HO} {t' : Nat} (I : Inv X pins σ H s) (k : ∀ b u,s.heap.get? b = some u -> h'.get? b = some u) (hp : s.heap.objs.size <= a) (new : zbV X.prog X.w (upd H a o) h' a o) :
 Inv X pins σ (upd H a o) { s with heap:=h',toks:=t' }:=I.un (Un.laid k hp (I.hok.fresh hp)) (I.hok.laid k hp new)
theorem Inv.write {x e : Addr} {o : HO} {t' : Nat} (I : Inv X pins σ H s) (mu : Mut (H x)) (he : e = x \/ H e = some (.own x)) (k : ∀ b u,b ≠ e -> s.heap.get? b = some u -> h'.get? b = some u) (heo : ∃ u,h'.get? e = some u)
 (new : zbV X.prog X.w (upd H x o) h' x o) : Inv X pins σ (upd H x o) { s with heap:=h',toks:=t' }:=I.un (Un.write mu he k heo) (I.hok.write mu he k heo new)
theorem Inv.pins_of {pins' : List (Addr × Obj)} (I : Inv X pins σ H s) (h : ∀ p ∈ pins',s.heap.get? p.1 = some p.2 /\ H p.1 = none /\ p.1 ≠ X.env.locals /\ p.1 ∉ X.fs /\ ∀ v,p.2.data ≠ .cell v) : Inv X pins' σ H s :=
 ⟨I.ok,I.os,I.bare,I.base,I.loc,I.cell,I.free,I.freeC,fun p hp=>(List.mem_append.mp hp).elim (fun z=>I.pin p (List.mem_append_left _ z)) (h p),I.hok,I.len⟩
theorem zjt {N : List Str} (hN : N.Nodup) {i j : Nat} {x : Str} (a : N[i]? = some x) (b : N[j]? = some x) : i = j:=by
 obtain ⟨h1,e1⟩:=List.getElem?_eq_some_iff.mp a
 obtain ⟨h2,e2⟩:=List.getElem?_eq_some_iff.mp b
 exact (List.getElem_inj hN).mp (e1.trans e2.symm)
theorem zhM {M : Model} {A : Around} {E : Value -> Shared -> Prop} {i : Nat} {x : Str} {v : V} {u : Value} {Q : Unit -> Shared -> Prop} (I : Inv X pins σ H s) (hN : X.N.Nodup) (hi : X.N[i]? = some x) (hx : Loc X.env.scope x) (r : RelV v u)
 (h : ∀ s',Inv X pins (σ.set i (some v)) H s' -> (∃ a,Heap.SameBut a s.heap s'.heap /\ (a = X.env.locals \/ X.env.cells.lookup x = some a)) -> Q () s') (hf : X.fn x = true \/ X.env.scope.names.lookup x = some .local:=by first | exact .inl rfl | exact .inr rfl | assumption) : wpAny M A (storeName X.env x u) Q E s:=by
 obtain ⟨m,hn,hl⟩:=id I.loc
 have hcls : (X.env.scope.kind == .class || (X.env.scope.kind == .module && X.env.locals != X.env.globals)) = false:=by rw [I.ok.kind]; rfl
 have hiσ : i < σ.length:=by rw [I.len]; exact (List.getElem?_eq_some_iff.mp hi).1
 have cne:=I.cne
 have tracked : ∀ {a : Addr} {h' : Heap},(∃ o,s.heap.get? a = some o /\ H a = none) -> Heap.SameBut a s.heap h' -> HOk X.prog X.w H h':=fun {a h'} ha hs b ob e=>by
  obtain ⟨_,_,hfree⟩:=ha
  refine (I.hok b ob e).stay (fun c w' hc q=>(hs.2 c ?_).trans q) (fun _ q=>q) fun _ _ q=>q
  rintro rfl
  rcases hc with rfl | hc
  ·rw [hfree] at e; cases e
  ·rw [hfree] at hc; cases hc
 rcases hx with hk | hk
 ·refine wpAny_storeName_local hk hn (fun h' hn' hs=>?_) hcls
  obtain ⟨oL,_,_,hoL,_⟩:=id hn
  refine h _ ⟨I.ok,I.os,I.bare,⟨fun b o e n hb hx=>?_,fun b o e n hb hx=>?_,I.base.free,fun b o e hx=>?_,I.base.tups,I.base.frzs,I.base.tbls⟩,⟨_,hn',fun j y v' e1 e2 e3=>?_⟩,fun y c e=>?_,I.free,I.freeC,fun p hp=>?_,tracked ⟨oL,hoL,I.free⟩ hs,by simpa using I.len⟩ ⟨_,hs,.inl rfl⟩
  ·exact (hs.2 b (Nat.ne_of_lt (Nat.lt_of_lt_of_le (Heap.lt_size e) I.ok.above))).trans (I.base.keep b o e n hb hx)
  ·obtain ⟨sl,e1⟩:=I.base.slot b o e n hb hx
   exact ⟨sl,(hs.2 b (Nat.ne_of_lt (Nat.lt_of_lt_of_le (Heap.lt_size e) I.ok.above))).trans e1⟩
  ·obtain ⟨o',e1⟩:=I.base.there b o e hx
   exact ⟨o',(hs.2 b (Nat.ne_of_lt (Nat.lt_of_lt_of_le (Heap.lt_size e) I.ok.above))).trans e1⟩
  ·by_cases hj : j = i
   ·subst hj
    rw [hi] at e1; cases e1
    rw [List.getElem?_set_self hiσ] at e2
    cases e2
    exact ⟨u,r,.inl ⟨hk,by simp⟩⟩
   ·rw [List.getElem?_set_ne (Ne.symm hj)] at e2
    obtain ⟨u',r',q⟩:=hl j y v' e1 e2 e3
    refine ⟨u',r',?_⟩
    rcases q with ⟨k,e⟩ | ⟨k,c,e,z⟩
    ·refine .inl ⟨k,?_⟩
     have : y ≠ x:=fun e=>hj (zjt hN e1 (e ▸ hi))
     simp [this,e]
    ·exact .inr ⟨k,c,e,z.sameBut hs (cne y c e)⟩
  ·obtain ⟨w',z⟩:=I.cell y c e
   exact ⟨w',z.sameBut hs (cne y c e)⟩
  ·obtain ⟨e,n,ne,nf,d⟩:=I.pin p hp
   exact ⟨(hs.2 p.1 ne).trans e,n,ne,nf,d⟩
 ·have hfn : X.fn x = true:=by
   rcases hf with z | z
   ·exact z
   ·rw [z] at hk; cases hk
  obtain ⟨c,hc⟩:=I.ok.has x (.inl hk)
  obtain ⟨w',z⟩:=I.cell x c hc
  refine wpAny_storeName_cell I.ok.kind hk hc z (fun h' hc' hs=>?_)
  obtain ⟨oc,hoc,hocd⟩:=id z
  refine h { s with heap:=h' } ⟨I.ok,I.os,I.bare,⟨fun b o e n hb hx=>?_,fun b o e n hb hx=>?_,I.base.free,fun b o e hx=>?_,I.base.tups,I.base.frzs,I.base.tbls⟩,⟨m,hn.sameBut hs (Ne.symm (cne x c hc)),fun j y v' e1 e2 e3=>?_⟩,fun y c' e=>?_,I.free,I.freeC,fun p hp=>?_,tracked ⟨oc,hoc,I.freeC x c hc⟩ hs,by simpa using I.len⟩ ⟨c,hs,.inr hc⟩
  ·exact (hs.2 b (Nat.ne_of_lt (Nat.lt_of_lt_of_le (Heap.lt_size e) (I.ok.cab x c hfn hc)))).trans (I.base.keep b o e n hb hx)
  ·obtain ⟨sl,e1⟩:=I.base.slot b o e n hb hx
   exact ⟨sl,(hs.2 b (Nat.ne_of_lt (Nat.lt_of_lt_of_le (Heap.lt_size e) (I.ok.cab x c hfn hc)))).trans e1⟩
  ·obtain ⟨o',e1⟩:=I.base.there b o e hx
   exact ⟨o',(hs.2 b (Nat.ne_of_lt (Nat.lt_of_lt_of_le (Heap.lt_size e) (I.ok.cab x c hfn hc)))).trans e1⟩
  ·by_cases hj : j = i
   ·subst hj
    rw [hi] at e1; cases e1
    rw [List.getElem?_set_self hiσ] at e2
    cases e2
    exact ⟨u,r,.inr ⟨.inl hk,c,hc,hc'⟩⟩
   ·rw [List.getElem?_set_ne (Ne.symm hj)] at e2
    obtain ⟨u',r',q⟩:=hl j y v' e1 e2 e3
    refine ⟨u',r',?_⟩
    rcases q with q | ⟨k,c',e,z'⟩
    ·exact .inl q
    ·refine .inr ⟨k,c',e,z'.sameBut hs ?_⟩
     rintro rfl
     exact hj (zjt hN e1 (I.ok.inj _ _ _ e hc ▸ hi))
  ·by_cases hcc : c' = c
   ·subst hcc; exact ⟨_,hc'⟩
   ·obtain ⟨w2,z2⟩:=I.cell y c' e
    exact ⟨w2,z2.sameBut hs hcc⟩
  ·obtain ⟨e,n,ne,nf,d⟩:=I.pin p hp
   refine ⟨(hs.2 p.1 ?_).trans e,n,ne,nf,d⟩
   intro q
   rw [q,hoc] at e
   have q' : oc = p.2:=Option.some.inj e
   exact d w' (by rw [<- q']; exact hocd)
theorem zja {M : Model} {A : Around} {E : Value -> Shared -> Prop} {i : Nat} {x : Str} {v : V} {u : Value} {Q : Unit -> Shared -> Prop} (I : Inv X pins σ H s) (hN : X.N.Nodup) (hi : X.N[i]? = some x) (hx : Loc X.env.scope x) (r : RelV v u)
 (h : ∀ s',Inv X pins (σ.set i (some v)) H s' -> Q () s') (hf : X.fn x = true \/ X.env.scope.names.lookup x = some .local:=by first | exact .inl rfl | exact .inr rfl | assumption) : wpAny M A (storeName X.env x u) Q E s :=
 zhM I hN hi hx r (fun s' I' _=>h s' I') hf
theorem Inv.call' {s' : Shared} {ch : List Addr} (I : Inv X pins σ H s) (ho : s'.os = s.os) (u : Un (frs X.stack) ch H H' s.heap s'.heap) (hok : HOk X.prog X.w H' s'.heap) (hg : AllBare s'.gens)
 (hch : ∀ b ∈ ch,(b ∈ X.ex \/ X.s₀.heap.objs.size <= b) /\ b ≠ X.env.locals /\ (∀ x c,X.env.cells.lookup x = some c -> c ≠ b) /\ ∀ p ∈ X.pn ++ pins,p.1 ≠ b) : Inv X pins σ H' s':=by
 obtain ⟨h',g',d',t',o'⟩:=s'
 have e : o' = s.os:=ho
 subst e
 exact I.call (g':=g') (t':=t') (d':=d') u hok hg hch
end
abbrev XK:=Value -> Option Addr -> Hp -> Prop
abbrev St:=List (Option V)
abbrev VK:=V -> Hp -> Prop
abbrev TE:=St -> Hp -> VK -> Prop
abbrev TT:=St -> Hp -> (Bool -> Hp -> Prop) -> Prop
abbrev TA:=St -> Hp -> (List V -> Hp -> Prop) -> Prop
structure Ends where
 nx : St -> Hp -> Prop
 rt : VK
 bk : St -> Hp -> Prop:=fun _ _=>False
 ct : St -> Hp -> Prop:=fun _ _=>False
abbrev TS:=Ends -> St -> Hp -> Prop
def EP (X : Cx) (pins : List (Addr × Obj)) (σ : St) (Q : VK) (u : Value) (s' : Shared) : Prop:=∃ v H',Inv X pins σ H' s' /\ RelV v u /\ Q v H'
def TP (X : Cx) (pins : List (Addr × Obj)) (σ : St) (Q : Bool -> Hp -> Prop) (b : Bool) (s' : Shared) : Prop:=∃ H',Inv X pins σ H' s' /\ Q b H'
def AP (X : Cx) (pins : List (Addr × Obj)) (σ : St) (Q : List V -> Hp -> Prop) (us : List Value) (s' : Shared) : Prop:=∃ vs H',Inv X pins σ H' s' /\ Vals vs us /\ Q vs H'
def SP (X : Cx) (pins : List (Addr × Obj)) (D : Ends) (f : Flow) (s' : Shared) : Prop :=
 match f with
 | .next=>∃ σ' H',Inv X pins σ' H' s' /\ D.nx σ' H'
 | .brk=>∃ σ' H',Inv X pins σ' H' s' /\ D.bk σ' H'
 | .cont=>∃ σ' H',Inv X pins σ' H' s' /\ D.ct σ' H'
 | .ret u=>∃ v σ' H',Inv X pins σ' H' s' /\ RelV v u /\ D.rt v H'
def PE (X : Cx) (e : Expr) (t : TE) : Prop :=
 ∀ (pins : List (Addr × Obj)) (s : Shared) (σ : St) (H : Hp) (Q : VK),Inv X pins σ H s -> t σ H Q -> wpAny (model X.prog X.w) X.A (eval e X.env) (EP X pins σ Q) X.xe s
def PT (X : Cx) (e : Expr) (t : TT) : Prop :=
 ∀ (pins : List (Addr × Obj)) (s : Shared) (σ : St) (H : Hp) (Q : Bool -> Hp -> Prop),Inv X pins σ H s -> t σ H Q -> wpAny (model X.prog X.w) X.A (isTrue e X.env (eval e X.env)) (TP X pins σ Q) X.xe s
def PW (X : Cx) (e : Expr) (t : TT) : Prop :=
 ∀ (whole : Sem Value) (pins : List (Addr × Obj)) (s : Shared) (σ : St) (H : Hp) (Q : Bool -> Hp -> Prop),Inv X pins σ H s -> t σ H Q -> wpAny (model X.prog X.w) X.A (isTrue e X.env whole) (TP X pins σ Q) X.xe s
theorem PW.pt {X : Cx} {e : Expr} {t : TT} (h : PW X e t) : PT X e t:=h _
def PA (X : Cx) (es : List Expr) (t : TA) : Prop :=
 ∀ (pos : Pos) (pins : List (Addr × Obj)) (s : Shared) (σ : St) (H : Hp) (Q : List V -> Hp -> Prop),Inv X pins σ H s -> t σ H Q -> wpAny (model X.prog X.w) X.A (spliced (backTo pos (starEach es X.env))) (AP X pins σ Q) X.xe s
def PS (X : Cx) (st : Stmt) (t : TS) : Prop :=
 ∀ (pins : List (Addr × Obj)) (s : Shared) (σ : St) (H : Hp) (D : Ends),Inv X pins σ H s -> t D σ H -> wpAny (model X.prog X.w) X.A (exec st X.env) (SP X pins D) X.xe s
def PSs (X : Cx) (st : List Stmt) (t : TS) : Prop :=
 ∀ (pins : List (Addr × Obj)) (s : Shared) (σ : St) (H : Hp) (D : Ends),Inv X pins σ H s -> t D σ H -> wpAny (model X.prog X.w) X.A (execs st X.env) (SP X pins D) X.xe s
theorem thn {α : Type} {t : Sem α} {Q Q' : α -> Shared -> Prop} {M : Model} {A : Around} {E : Value -> Shared -> Prop} {s : Shared} (h : wpAny M A t Q E s) (hQ : ∀ a s,Q a s -> Q' a s) : wpAny M A t Q' E s:=wpAny_mono h hQ fun _ _ x=>x
end L2
namespace L2
open PySem PySem.Spec PyProof.Rows
section
variable {X : Cx}
theorem bin {a b : Expr} {ta tb : TE} (ha : PE X a ta) (hb : PE X b tb) {pins : List (Addr × Obj)} {s : Shared} {σ : St} {H : Hp} {R : V -> V -> Hp -> Prop} (I : Inv X pins σ H s) (h : ta σ H fun x H1=>tb σ H1 fun y H2=>R x y H2)
 {α : Type} {Q : α -> Shared -> Prop} {f : Value -> Value -> Sem α}
 (hf : ∀ v u s2 x y H2,Inv X pins σ H2 s2 -> RelV x v -> RelV y u -> R x y H2 -> wpAny (model X.prog X.w) X.A (f v u) Q X.xe s2) :
 wpAny (model X.prog X.w) X.A (eval a X.env) (fun v s₁=>wpAny (model X.prog X.w) X.A (eval b X.env) (fun u s₂=>wpAny (model X.prog X.w) X.A (f v u) Q X.xe s₂) X.xe s₁) X.xe s:=by
 refine thn (ha pins s σ H _ I h) fun v s1 ⟨x,H1,I1,r1,q1⟩=>?_
 refine thn (hb pins s1 σ H1 _ I1 q1) fun u s2 ⟨y,H2,I2,r2,q2⟩=>?_
 exact hf v u s2 x y H2 I2 r1 r2 q2
def tVar (i : Nat) : TE:=fun σ H Q=>∃ v,σ[i]? = some (some v) /\ Q v H
def tC (v : V) : TE:=fun _ H Q=>Q v H
theorem zqy {i : Nat} {x : Str} {pos : Pos} (hN : X.N[i]? = some x) (hv : Vis X.env.scope x) (hd : (x == ("__debug__" : Str)) = false:=by decide) (hcd : (x == ("__classdict__" : Str)) = false:=by decide) : PE X (.Name x pos) (tVar i):=by
 intro pins s σ H Q I h
 obtain ⟨v,e,h⟩:=h
 obtain ⟨m,hn,hl⟩:=I.loc
 obtain ⟨u,r,l⟩:=hl i x v hN e hv
 have fin : EP X pins σ Q u s:=⟨v,H,I,r,h⟩
 rcases l with ⟨hk,hm⟩ | ⟨hk,c,hc,hcell⟩
 ·exact wpAny_Name (wpAny_loadName_local I.ok.kind hk hn hm fin) hd
 ·rcases hk with hk | hk
  ·exact wpAny_Name (wpAny_loadName_cell I.ok.kind hk hc hcell fin) hd
  ·exact wpAny_Name (wpAny_loadName_free I.ok.kind hk hc hcell fin hcd) hd
theorem zag {i j pos} : PE X (.Constant (.int i) j pos) (tC (.int i)):=fun _ _ _ H _ I h=>wpAny_Constant_int ⟨.int i,H,I.tok _,⟨_,rfl⟩,h⟩
theorem zev {b j pos} : PE X (.Constant (.bool b) j pos) (tC (.bl b)):=fun _ _ _ H _ I h=>Constant_bool ⟨.bl b,H,I,rfl,h⟩
theorem zmL {j pos} : PE X (.Constant .none j pos) (tC .non):=fun _ _ _ H _ I h=>Constant_none ⟨.non,H,I,rfl,h⟩
theorem zaj {x j pos} : PE X (.Constant (.str x) j pos) (tC (.str x)):=fun _ _ _ H _ I h=>Calls.Constant_str ⟨.str x,H,I.tok _,⟨_,rfl⟩,h⟩
def Gl (X : Cx) (x : Str) : Prop:=X.env.kindOf x = some .globalImplicit
theorem zif {E : Value -> Shared -> Prop} {pins : List (Addr × Obj)} {s : Shared} {σ : St} {H : Hp} {x : Str} {u : Value} {pos : Pos} {Q : Value -> Shared -> Prop} (I : Inv X pins σ H s) (hg : Gl X x) (hm : X.mg x = some u) (h : Q u s)
 (hd : (x == ("__debug__" : Str)) = false:=by decide) : wpAny (model X.prog X.w) X.A (eval (.Name x pos) X.env) Q E s :=
 Calls.Name_function_global I.ok.kind hg (Calls.loadGlobal_global (by rw [I.ok.glob]; exact I.mod.glob.keeps I.bk) hm h) hd
theorem zhD {E : Value -> Shared -> Prop} {pins : List (Addr × Obj)} {s : Shared} {σ : St} {H : Hp} {x : Str} {u : Value} {pos : Pos} {Q : Value -> Shared -> Prop} (I : Inv X pins σ H s) (hg : Gl X x) (hm : X.mg x = none) (hv : bootBuiltins x = some u) (h : Q u s)
 (hn : x ≠ "__name__":=by decide) (hd : (x == ("__debug__" : Str)) = false:=by decide) : wpAny (model X.prog X.w) X.A (eval (.Name x pos) X.env) Q E s:=by
 obtain ⟨mb,h1,h2⟩:=I.mod.blt
 exact Calls.Name_function_global I.ok.kind hg (Calls.loadGlobal_builtin (by rw [I.ok.glob]; exact I.mod.glob.keeps I.bk) hm (by rw [I.ok.blt]; exact h1.keeps I.bk) ((h2 x hn).trans hv) h) hd
theorem zdv {x : Str} {v : V} {u : Value} {pos : Pos} (hg : Gl X x) (hm : X.mg x = some u) (r : RelV v u) (hd : (x == ("__debug__" : Str)) = false:=by decide) : PE X (.Name x pos) (tC v) :=
 fun _ _ _ H _ I h=>zif I hg hm ⟨v,H,I,r,h⟩ hd
theorem znE {x : Str} {v : V} {u : Value} {pos : Pos} (hg : Gl X x) (hm : X.mg x = none) (hv : bootBuiltins x = some u) (r : RelV v u) (hn : x ≠ "__name__":=by decide) (hd : (x == ("__debug__" : Str)) = false:=by decide) : PE X (.Name x pos) (tC v) :=
 fun _ _ _ H _ I h=>zhD I hg hm hv ⟨v,H,I,r,h⟩ hn hd
variable {a b : Expr} {ta tb : TE} {pos : Pos}
def PC (X : Cx) (op : CmpOp) (a b : Expr) (t : TE) : Prop :=
 ∀ (pins : List (Addr × Obj)) (s : Shared) (σ : St) (H : Hp) (Q : VK),Inv X pins σ H s -> t σ H Q ->
  wpAny (model X.prog X.w) X.A (eval a X.env) (fun v s₁=>wpAny (model X.prog X.w) X.A (eval b X.env) (fun u s₂=>wpAny (model X.prog X.w) X.A (compareOp op v u) (EP X pins σ Q) X.xe s₂) X.xe s₁) X.xe s
theorem zjv (b : Expr) {op : CmpOp} (h : op ≠ .In) (h2 : op ≠ .NotIn) : behindInMarks op b = false:=by
 have e1 : (op == CmpOp.In) = false:=by cases op <;> first | rfl | exact absurd rfl h
 have e2 : (op == CmpOp.NotIn) = false:=by cases op <;> first | rfl | exact absurd rfl h2
 cases b <;> simp [behindInMarks,e1,e2]
def tIsN (ta : TE) : TE:=fun σ H Q=>ta σ H fun x H1=>Q (.bl (decide (x = .non))) H1
def zti (ta : TE) : TE:=fun σ H Q=>ta σ H fun x H1=>Q (.bl (!decide (x = .non))) H1
theorem RelV.none_iff {x : V} {v : Value} (r : RelV x v) : (v == Value.none) = decide (x = .non):=by
 cases x with
 | non=>cases r; rfl
 | bl _=>cases r; rfl
 | int _=>obtain ⟨t,rfl⟩:=r; rfl
 | str _=>obtain ⟨t,rfl⟩:=r; rfl
 | byt _=>obtain ⟨t,rfl⟩:=r; rfl
 | flt _=>obtain ⟨t,rfl⟩:=r; rfl
 | ref _=>cases r; rfl
 | ty _=>cases r; rfl
theorem zpl {j pos'} (ha : PE X a ta) : PC X .Is a (.Constant .none j pos') (tIsN ta):=by
 intro pins s σ H Q I h
 refine thn (ha pins s σ H _ I h) fun v s1 ⟨x,H1,I1,r1,q1⟩=>?_
 exact Constant_none (is_none_gen ⟨.bl _,H1,I1,by rw [r1.none_iff]; rfl,q1⟩)
theorem zlq {j pos'} (ha : PE X a ta) : PC X .IsNot a (.Constant .none j pos') (zti ta):=by
 intro pins s σ H Q I h
 refine thn (ha pins s σ H _ I h) fun v s1 ⟨x,H1,I1,r1,q1⟩=>?_
 exact Constant_none (isnot_none_gen ⟨.bl _,H1,I1,by rw [r1.none_iff]; rfl,q1⟩)
def tB (t : TE) : TT:=fun σ H Q=>t σ H fun x H1=>∃ c,x = .bl c /\ Q c H1
theorem zlE {op : CmpOp} {t : TE} (h : PC X op a b t) (h1 : behindInMarks op b = false:=by first | exact zjv _ (by decide) (by decide) | rfl) : PE X (.Compare a [op] [b] pos) t:=fun pins s σ H Q I hw=>wpAny_Compare1 (h pins s σ H Q I hw) h1
theorem zmJ {op : CmpOp} {t : TE} (h : PC X op a b t) (h1 : behindInMarks op b = false:=by first | exact zjv _ (by decide) (by decide) | rfl) : PT X (.Compare a [op] [b] pos) (tB t):=by
 intro pins s σ H Q I hw
 refine wpAny_isTrue_Compare1 (thn (h pins s σ H _ I hw) fun v s1 h1=>thn h1 fun u s2 h2=>thn h2 fun c s3 ⟨x,H1,I1,r1,q1⟩=>?_) h1
 obtain ⟨d,rfl,q⟩:=q1
 cases r1
 exact wpAny_truthy_bool ⟨H1,I1,q⟩
theorem zcq {e : Expr} {t : TE} (h : PE X e t) (he : ∀ whole,isTrue e X.env whole = (do let v <- whole; standAt e.pos; holding [v] (truthy v)):=by intro _; rfl) : PT X e (tB t):=by
 intro pins s σ H Q I hw
 refine isTrue_plain (thn (h pins s σ H _ I hw) fun v s1 ⟨x,H1,I1,r1,q1⟩=>?_) (he _)
 obtain ⟨d,rfl,q⟩:=q1
 cases r1
 exact wpAny_truthy_bool ⟨H1,I1,q⟩
variable {tA tB' : TT} {rest : List Expr}
def tAnd (t u : TT) : TT:=fun σ H Q=>t σ H fun c H1=>if c = true then u σ H1 Q else Q false H1
def tOr (t u : TT) : TT:=fun σ H Q=>t σ H fun c H1=>if c = true then Q true H1 else u σ H1 Q
def tNot (t : TT) : TT:=fun σ H Q=>t σ H fun c H1=>Q (!c) H1
theorem zko (ha : PT X a tA) : PW X (.BoolOp .And [a] pos) tA:=by
 intro wh pins s σ H Q I h
 refine isTrue_and (thn (ha pins s σ H Q I h) fun c s1 e=>?_)
 cases c with
 | true=>exact isTrue_and_nil e
 | false=>exact e
theorem zeO (ha : PT X a tA) : PW X (.BoolOp .Or [a] pos) tA:=by
 intro wh pins s σ H Q I h
 refine isTrue_or (thn (ha pins s σ H Q I h) fun c s1 e=>?_)
 cases c with
 | false=>exact isTrue_or_nil e
 | true=>exact e
theorem zmE (ha : PT X a tA) (hb : PW X (.BoolOp .And (b :: rest) pos) tB') : PW X (.BoolOp .And (a :: b :: rest) pos) (tAnd tA tB'):=by
 intro wh pins s σ H Q I h
 refine isTrue_and (thn (ha pins s σ H _ I h) fun c s1 ⟨H1,I1,q1⟩=>?_)
 cases c with
 | true=>exact hb wh pins s1 σ H1 Q I1 q1
 | false=>exact ⟨H1,I1,q1⟩
theorem zgs (ha : PT X a tA) (hb : PW X (.BoolOp .Or (b :: rest) pos) tB') : PW X (.BoolOp .Or (a :: b :: rest) pos) (tOr tA tB'):=by
 intro wh pins s σ H Q I h
 refine isTrue_or (thn (ha pins s σ H _ I h) fun c s1 ⟨H1,I1,q1⟩=>?_)
 cases c with
 | true=>exact ⟨H1,I1,q1⟩
 | false=>exact hb wh pins s1 σ H1 Q I1 q1
theorem zfC (ha : PT X a tA) : PT X (.UnaryOp .Not a pos) (tNot tA):=by
 intro pins s σ H Q I h
 exact isTrue_not (ha pins s σ H (fun c H1=>Q (!c) H1) I h)
def ztC (ta tb : TE) : TE:=fun σ H Q=>ta σ H fun x H1=>∃ c,x = .bl c /\ if c = true then tb σ H1 Q else Q (.bl false) H1
theorem zdt {op} {t : TE} (h : PE X a t) : PE X (.BoolOp op [a] pos) t:=fun pins s σ H Q I hw=>BoolOp_one (h pins s σ H Q I hw)
theorem zca (ha : PE X a ta) (hb : PE X (.BoolOp .And (b :: rest) pos) tb) : PE X (.BoolOp .And (a :: b :: rest) pos) (ztC ta tb):=by
 intro pins s σ H Q I h
 refine BoolOp_and (thn (ha pins s σ H _ I h) fun v s1 ⟨x,H1,I1,r1,q1⟩=>?_)
 obtain ⟨c,rfl,q1⟩:=q1
 cases r1
 refine wpAny_truthy_bool ?_
 cases c with
 | true=>exact hb pins s1 σ H1 Q I1 q1
 | false=>exact ⟨.bl false,H1,I1,rfl,q1⟩
def tIf (t : TT) (ta tb : TE) : TE:=fun σ H Q=>t σ H fun c H1=>if c = true then ta σ H1 Q else tb σ H1 Q
theorem zgD {c : Expr} (hc : PT X c tA) (ha : PE X a ta) (hb : PE X b tb) : PE X (.IfExp c a b pos) (tIf tA ta tb):=by
 intro pins s σ H Q I h
 refine wpAny_IfExp (thn (hc pins s σ H _ I h) fun d s1 ⟨H1,I1,q1⟩=>?_)
 cases d with
 | true=>exact ha pins s1 σ H1 Q I1 q1
 | false=>exact hb pins s1 σ H1 Q I1 q1
end
end L2
namespace L2
open PySem PySem.Spec PyProof.Rows
def SqL (K : PySem.W.Frag) (H : Hp) (a : Addr) (xs : List V) : Prop :=
 Rd H a (.lst xs) \/
  ∃ (o : Obj) (its : Array Value) (n : Nat),K.lookup a = some o /\ o.cls = .type "list" /\ o.dict = none /\ o.data = .seq its n /\ its.size <= sizeLine /\ Vals xs its.toList
def SqT (K : PySem.W.Frag) (H : Hp) (a : Addr) (xs : List V) : Prop :=
 Rd H a (.tup xs) \/
  ∃ (o : Obj) (its : Array Value) (n : Nat),K.lookup a = some o /\ o.cls = .type "tuple" /\ o.data = .seq its n /\ its.size <= sizeLine /\ Vals xs its.toList
def absV : Value -> Option V
 | .none=>some .non
 | .bool b=>some (.bl b)
 | .int i _=>some (.int i)
 | .str x _=>some (.str x)
 | .bytes b _=>some (.byt b)
 | .float b _=>some (.flt b)
 | .ref a=>some (.ref a)
 | .type n=>some (.ty n)
 | _=>none
theorem RelV.abs {x : V} {u : Value} (r : RelV x u) : absV u = some x:=by
 cases x with
 | non=>cases r; rfl
 | bl _=>cases r; rfl
 | int _=>obtain ⟨t,rfl⟩:=r; rfl
 | str _=>obtain ⟨t,rfl⟩:=r; rfl
 | byt _=>obtain ⟨t,rfl⟩:=r; rfl
 | flt _=>obtain ⟨t,rfl⟩:=r; rfl
 | ref _=>cases r; rfl
 | ty _=>cases r; rfl
theorem RelV.inj {x y : V} {u : Value} (r : RelV x u) (q : RelV y u) : x = y:=Option.some.inj (r.abs.symm.trans q.abs)
theorem Vals.inj : ∀ {xs ys : List V} {us : List Value},Vals xs us -> Vals ys us -> xs = ys
 | _,_,_,.nil,.nil=>rfl
 | _,_,_,.cons r t,.cons r' t'=>by rw [r.inj r',Vals.inj t t']
section
variable {X : Cx} {pins : List (Addr × Obj)} {σ : St} {H : Hp} {s : Shared} {a : Addr} {xs ys : List V}
theorem SqL.of {K : PySem.W.Frag} (h : H a = some (.lst xs)) : SqL K H a xs:=.inl (.inl h)
theorem SqT.of {K : PySem.W.Frag} (h : H a = some (.tup xs)) : SqT K H a xs:=.inl (.inl h)
theorem Inv.list (I : Inv X pins σ H s) (h : SqL X.K H a xs) : ∃ its : List Value,Vals xs its /\ PlainL s.heap a its.toArray /\ xs.length <= sizeLine:=by
 rcases h with h | ⟨o,its,n,hk,hc,hd,hs,hz,r⟩
 ·obtain ⟨z,its,n,r,e⟩:=h.ok I.hok
  exact ⟨its,r,⟨_,n,e,rfl,rfl,rfl⟩,z⟩
 ·refine ⟨its.toList,r,⟨o,n,I.kIn a o hk,hc,hd,by simpa using hs⟩,?_⟩
  have e:=r.length
  simp only [Array.length_toList] at e
  omega
theorem Inv.tuple (I : Inv X pins σ H s) (h : SqT X.K H a xs) : ∃ its : List Value,Vals xs its /\ IsTup s.heap a its.toArray /\ xs.length <= sizeLine:=by
 rcases h with h | ⟨o,its,n,hk,hc,hs,hz,r⟩
 ·obtain ⟨z,its,r,p⟩:=h.ok I.hok
  exact ⟨its,r,p,z⟩
 ·refine ⟨its.toList,r,⟨o,I.kIn a o hk,hc,n,by simpa using hs⟩,?_⟩
  have e:=r.length
  simp only [Array.length_toList] at e
  omega
theorem Inv.list_inj (I : Inv X pins σ H s) (h : SqL X.K H a xs) (h' : SqL X.K H a ys) : xs = ys:=by
 obtain ⟨its,r,⟨o,n,e,_,_,d⟩,_⟩:=I.list h
 obtain ⟨its',r',⟨o',n',e',_,_,d'⟩,_⟩:=I.list h'
 rw [e] at e'; cases e'
 rw [d] at d'
 injection d' with d1 _
 have : its = its':=by simpa using congrArg Array.toList d1
 subst this
 exact r.inj r'
end
abbrev Cx.wish (X : Cx) (E : Value -> Shared -> Prop) : Cx:={ X with xe:=E }
abbrev Cx.nox (X : Cx) : Cx:=X.wish fun _ _=>False
theorem Cx.Ok.wish {X : Cx} (ok : X.Ok) (E : Value -> Shared -> Prop) : (X.wish E).Ok :=
 ⟨ok.mod,ok.kind,ok.glob,ok.blt,ok.above,ok.inj,ok.has,ok.cab,ok.hd,ok.frames,ok.stk,ok.exf,ok.bs,ok.bsz,ok.noex,ok.exfs,ok.funs,ok.frf⟩
theorem Cx.Ok.unwish {X : Cx} {E : Value -> Shared -> Prop} (ok : (X.wish E).Ok) : X.Ok :=
 ⟨ok.mod,ok.kind,ok.glob,ok.blt,ok.above,ok.inj,ok.has,ok.cab,ok.hd,ok.frames,ok.stk,ok.exf,ok.bs,ok.bsz,ok.noex,ok.exfs,ok.funs,ok.frf⟩
section
variable {X : Cx} {pins : List (Addr × Obj)} {σ : St} {H : Hp} {s : Shared} {E : Value -> Shared -> Prop}
theorem Inv.wish (I : Inv X pins σ H s) (E : Value -> Shared -> Prop) : Inv (X.wish E) pins σ H s:=⟨I.ok.wish E,I.os,I.bare,I.base,I.loc,I.cell,I.free,I.freeC,I.pin,I.hok,I.len⟩
theorem Inv.unwish (I : Inv (X.wish E) pins σ H s) : Inv X pins σ H s:=⟨I.ok.unwish,I.os,I.bare,I.base,I.loc,I.cell,I.free,I.freeC,I.pin,I.hok,I.len⟩
theorem SP.unwish {D : Ends} {f : Flow} {s' : Shared} (h : SP (X.wish E) pins D f s') : SP X pins D f s':=by
 cases f with
 | next=>obtain ⟨σ',H',I,q⟩:=h; exact ⟨σ',H',I.unwish,q⟩
 | brk=>obtain ⟨σ',H',I,q⟩:=h; exact ⟨σ',H',I.unwish,q⟩
 | cont=>obtain ⟨σ',H',I,q⟩:=h; exact ⟨σ',H',I.unwish,q⟩
 | ret u=>obtain ⟨v,σ',H',I,r,q⟩:=h; exact ⟨v,σ',H',I.unwish,r,q⟩
theorem PSs.nox {st : List Stmt} {t : TS} (h : PSs X.nox st t) : PSs X st t:=fun pins s σ H D I hw =>
 wpAny_mono (h pins s σ H D (I.wish _) hw) (fun _ _ q=>q.unwish) fun _ _ z=>False.elim z
end
section
variable {X : Cx} {st : Stmt} {rest : List Stmt} {t u : TS} {e : Expr} {te : TE} {pos : Pos}
def zuj : TS:=fun D σ H=>D.nx σ H
def tSeq (t u : TS) : TS:=fun D σ H=>t { D with nx:=u D } σ H
theorem zaB : PSs X [] zuj:=fun _ _ σ H _ I h=>wpAny_execs_nil ⟨σ,H,I,h⟩
theorem zab (h1 : PS X st t) (h2 : PSs X rest u) : PSs X (st :: rest) (tSeq t u):=by
 intro pins s σ H D I h
 refine wpAny_execs_cons (thn (h1 pins s σ H { D with nx:=u D } I h) fun f s1 q=>?_)
 cases f with
 | next =>
   obtain ⟨σ',H',I',q⟩:=q
   exact h2 pins s1 σ' H' D I' q
 | ret v=>exact q
 | brk=>exact q
 | cont=>exact q
theorem zaf (h1 : PS X st t) : PSs X [st] t:=by
 intro pins s σ H D I h
 refine wpAny_execs_cons (thn (h1 pins s σ H D I h) fun f s1 q=>?_)
 cases f with
 | next=>exact wpAny_execs_nil q
 | ret v=>exact q
 | brk=>exact q
 | cont=>exact q
theorem Inv.quiet {pins : List (Addr × Obj)} {σ : St} {H : Hp} {s : Shared} (I : Inv X pins σ H s) : interactive X.env = false:=by simp [interactive,I.ok.kind]
def ztD (te : TE) : TS:=fun D σ H=>te σ H fun _ H1=>D.nx σ H1
theorem zaH (he : PE X e te) (hs : swapsWith e none pos.line X.env = pure false:=by rfl) : PS X (.Expr e pos) (ztD te):=by
 intro pins s σ H D I h
 exact wpAny_Expr_any (thn (he pins s σ H _ I h) fun v s1 ⟨x,H1,I1,r1,q1⟩=>⟨σ,H1,I1,q1⟩) I.quiet hs
def tRet (te : TE) : TS:=fun D σ H=>te σ H D.rt
theorem zat (he : PE X e te) : PS X (.Return (some e) pos) (tRet te):=by
 intro pins s σ H D I h
 exact wpAny_Return_some (thn (he pins s σ H _ I h) fun v s1 ⟨x,H1,I1,r1,q1⟩=>⟨x,σ,H1,I1,r1,q1⟩)
def zsV : TS:=fun D _ H=>D.rt .non H
theorem zfV : PS X (.Return none pos) zsV:=fun _ _ σ H _ I h=>wpAny_Return_none ⟨.non,σ,H,I,rfl,h⟩
def tIfS (c : TT) (t u : TS) : TS:=fun D σ H=>c σ H fun b H1=>if b = true then t D σ H1 else u D σ H1
theorem zbe {c : Expr} {a b : List Stmt} {tc : TT} (hc : PT X c tc) (ha : PSs X a t) (hb : PSs X b u) : PS X (.If c a b pos) (tIfS tc t u):=by
 intro pins s σ H D I h
 refine wpAny_If (thn (hc pins s σ H _ I h) fun d s1 ⟨H1,I1,q1⟩=>?_)
 cases d with
 | true=>exact ha pins s1 σ H1 D I1 q1
 | false=>exact hb pins s1 σ H1 D I1 q1
def zqX : TS:=fun _ _ _=>False
theorem zgA : PS X st zqX:=fun _ _ _ _ _ _ h=>h.elim
end
abbrev TG:=V -> St -> Hp -> (St -> Hp -> Prop) -> Prop
abbrev TGs:=List V -> St -> Hp -> (St -> Hp -> Prop) -> Prop
def PG (X : Cx) (target : Expr) (t : TG) : Prop :=
 ∀ (pins : List (Addr × Obj)) (s : Shared) (σ : St) (H : Hp) (v : V) (u : Value) (Q : St -> Hp -> Prop),Inv X pins σ H s -> RelV v u -> t v σ H Q ->
  wpAny (model X.prog X.w) X.A (assign target X.env u) (fun _ s'=>∃ σ' H',Inv X pins σ' H' s' /\ Q σ' H') X.xe s
def PGs (X : Cx) (ts : List Expr) (t : TGs) : Prop :=
 ∀ (pins : List (Addr × Obj)) (s : Shared) (σ : St) (H : Hp) (vs : List V) (us : List Value) (Q : St -> Hp -> Prop),Inv X pins σ H s -> Vals vs us -> t vs σ H Q ->
  wpAny (model X.prog X.w) X.A (assignInOrder ((assignEach ts X.env).map (·.2)) us) (fun _ s'=>∃ σ' H',Inv X pins σ' H' s' /\ Q σ' H') X.xe s
abbrev TSet:=V -> V -> V -> Hp -> (Hp -> Prop) -> Prop
def PSet (X : Cx) (t : TSet) : Prop :=
 ∀ (pins : List (Addr × Obj)) (s : Shared) (σ : St) (H : Hp) (o i v : V) (ov iv u : Value) (Q : Hp -> Prop),Inv X pins σ H s -> RelV o ov -> RelV i iv -> RelV v u -> t o i v H Q ->
  wpAny (model X.prog X.w) X.A (setItem ov iv u) (fun _ s'=>∃ H',Inv X pins σ H' s' /\ Q H') X.xe s
section
variable {X : Cx} {pos : Pos}
def zlT (i : Nat) : TG:=fun v σ H Q=>Q (σ.set i (some v)) H
theorem zam {i : Nat} {x : Str} (hN : X.N.Nodup) (hi : X.N[i]? = some x) (hx : Loc X.env.scope x) (hf : X.fn x = true \/ X.env.scope.names.lookup x = some .local:=by first | exact .inl rfl | exact .inr rfl | assumption) : PG X (.Name x pos) (zlT i):=by
 intro pins s σ H v u Q I r h
 exact wpAny_assign_Name (zja I hN hi hx r (fun s' I'=>⟨_,H,I',h⟩) hf)
def gNil : TGs:=fun vs σ H Q=>vs = [] /\ Q σ H
def ztm (t : TG) (u : TGs) : TGs:=fun vs σ H Q=>∃ v r,vs = v :: r /\ t v σ H fun σ' H'=>u r σ' H' Q
theorem zbs : PGs X [] gNil:=by
 intro pins s σ H vs us Q I r h
 obtain ⟨e,h⟩:=h
 subst e
 cases r
 exact assignInOrder_nil ⟨σ,H,I,h⟩
theorem zan {e : Expr} {es : List Expr} {t : TG} {u : TGs} (h1 : PG X e t) (h2 : PGs X es u)
 (hs : (assignEach (e :: es) X.env).map (·.2) = assign e X.env :: (assignEach es X.env).map (·.2):=by rfl) : PGs X (e :: es) (ztm t u):=by
 intro pins s σ H vs us Q I r h
 obtain ⟨v,vr,e1,h⟩:=h
 subst e1
 cases r with
 | cons r rr =>
   rw [hs]
   refine assignInOrder_cons (thn (h1 pins s σ H _ _ _ I r h) fun _ s1 ⟨σ1,H1,I1,q1⟩=>?_)
   exact h2 pins s1 σ1 H1 _ _ Q I1 rr q1
def gTup (K : PySem.W.Frag) (n : Nat) (t : TGs) : TG:=fun v σ H Q=>∃ a xs,v = .ref a /\ SqT K H a xs /\ xs.length = n /\ t xs σ H Q
theorem zqO {es : List Expr} {k : Nat} {t : TGs} {n : Nat} (hc : X.calm = true) (h : PGs X es t)
 (hn : (assignEach es X.env).length = n:=by rfl) (hst : (assignEach es X.env).findIdx? (·.1) = none:=by rfl) : PG X (.Tuple es k pos) (gTup X.K n t):=by
 intro pins s σ H v u Q I r hw
 obtain ⟨a,xs,e1,hq,hl,hw⟩:=hw
 subst e1
 cases r
 obtain ⟨its,rv,ht,hz⟩:=I.tuple hq
 refine assign_Tuple_tuple (I.ok.hd hc) ht (by simp [hn,<- hl,rv.length]) hst fun h' hx=>?_
 have I1 : Inv X pins σ H { s with heap:=h' }:=I.kept (t':=s.toks) fun b o e=>hx b o (Nat.ne_of_lt (Heap.lt_size e)) e
 exact h pins _ σ H xs _ Q I1 (by simpa using rv) hw
def gSub (to ti : TE) (t : TSet) : TG:=fun v σ H Q=>to σ H fun o H1=>ti σ H1 fun i H2=>t o i v H2 fun H3=>Q σ H3
theorem zjk {o i : Expr} {to ti : TE} {t : TSet} (ho : PE X o to) (hi : PE X i ti) (hs : PSet X t)
 (ha : ∀ v,assign (.Subscript o i pos) X.env v = (do
   let ov <- holding [v] (eval o X.env)
   let iv <- holding [v,ov] (eval i X.env)
   standAt pos
   holding [v,ov,iv] (setItem ov iv v)
   release [v,ov,iv] []):=by intro _; rfl) : PG X (.Subscript o i pos) (gSub to ti t):=by
 intro pins s σ H v u Q I r h
 rw [ha]
 refine wpAny_bind (wpAny_holding (thn (ho pins s σ H _ I h) fun ov s1 ⟨x,H1,I1,r1,q1⟩=>?_))
 refine wpAny_bind (wpAny_holding (thn (hi pins s1 σ H1 _ I1 q1) fun iv s2 ⟨y,H2,I2,r2,q2⟩=>?_))
 refine wpAny_bind (wpAny_standAt (wpAny_bind (wpAny_holding (thn (hs pins s2 σ H2 x y v ov iv u _ I2 r1 r2 r q2) fun _ s3 ⟨H3,I3,q3⟩=>?_))))
 exact wpAny_release ⟨σ,H3,I3,q3⟩
def tAsg (te : TE) (g : TG) : TS:=fun D σ H=>te σ H fun x H1=>g x σ H1 D.nx
theorem zeo {tg e : Expr} {te : TE} {g : TG} (he : PE X e te) (hg : PG X tg g) (hs : swapsWithSole [tg] e pos.line X.env = pure false:=by rfl) (hw : swappedStores [tg] e X.env = pure none:=by rfl)
 (h1 : (assignEach [tg] X.env).map (·.2) = [assign tg X.env]:=by rfl) : PS X (.Assign [tg] e pos) (tAsg te g):=by
 intro pins s σ H D I h
 refine wpAny_Assign_stores (thn (he pins s σ H _ I h) fun v s1 ⟨x,H1,I1,r1,q1⟩=>?_) hs hw
 rw [h1]
 exact thn (hg pins s1 σ H1 x v _ I1 r1 q1) fun _ s2 q=>q
theorem zaC {i : Nat} {x : Str} {e : Expr} {te : TE} {pos' : Pos} (hN : X.N.Nodup) (hi : X.N[i]? = some x) (hx : Loc X.env.scope x) (he : PE X e te) (hs : swapsWith e (some (.Name x pos')) pos.line X.env = pure false:=by rfl) (hf : X.fn x = true \/ X.env.scope.names.lookup x = some .local:=by first | exact .inl rfl | exact .inr rfl | assumption) :
 PS X (.Assign [.Name x pos'] e pos) (tAsg te (zlT i)):=by
 intro pins s σ H D I h
 refine wpAny_Assign_Name (thn (he pins s σ H _ I h) fun v s1 ⟨y,H1,I1,r1,q1⟩=>?_) hs
 exact zja I1 hN hi hx r1 (fun s2 I2=>⟨_,H1,I2,q1⟩) hf
end
section
variable {X : Cx} {pos : Pos}
def zrq (c : TT) (tb : TS) : TS:=fun D σ H=>∃ W : Nat -> St -> Hp -> Prop,(∃ m,W m σ H) /\ ∀ m σ H,W m σ H ->
 c σ H fun b H1=>if b = true then ∃ N : St -> Hp -> Prop,(∀ σ' H',N σ' H' -> ∃ m',m' < m /\ W m' σ' H') /\ tb { D with nx:=N,ct:=N,bk:=D.nx } σ H1 else D.nx σ H1
theorem zgG {c : Expr} {body : List Stmt} {tc : TT} {tb : TS} (hp : PassesOwn (model X.prog X.w) X.A X.env X.xe) (hc : PT X c tc) (hb : PSs X body tb) : PS X (.While c body [] pos) (zrq tc tb):=by
 intro pins s σ H D I h
 obtain ⟨W,⟨m0,w0⟩,turn⟩:=h
 refine wpAny_While (codeAny_whileLoop (fun n s'=>∃ σ' H',Inv X pins σ' H' s' /\ W n σ' H') ?_ m0 ⟨σ,H,I,w0⟩)
 rintro n s1 ⟨σ1,H1,I1,w1⟩
 refine wpAny_passesOwn hp (thn (hc pins s1 σ1 H1 _ I1 (turn n σ1 H1 w1)) fun b s2 ⟨H2,I2,q2⟩=>?_)
 cases b with
 | true =>
   obtain ⟨N,hN,q2⟩:=q2
   rw [if_pos rfl]
   refine wpAny_passesOwn hp (thn (hb pins s2 σ1 H2 _ I2 q2) fun f s3 q3=>?_)
   cases f with
   | next =>
     obtain ⟨σ3,H3,I3,n3⟩:=q3
     obtain ⟨m',hm,w3⟩:=hN σ3 H3 n3
     exact ⟨m',hm,σ3,H3,I3,w3⟩
   | cont =>
     obtain ⟨σ3,H3,I3,n3⟩:=q3
     obtain ⟨m',hm,w3⟩:=hN σ3 H3 n3
     exact ⟨m',hm,σ3,H3,I3,w3⟩
   | brk=>exact q3
   | ret v=>exact q3
 | false =>
   rw [if_neg Bool.false_ne_true]
   exact wpAny_execs_nil ⟨σ1,H2,I2,q2⟩
end
structure It where
 go : Nat -> Hp -> Prop
 yld : Nat -> Hp -> V -> Hp -> Prop
 stop : Nat -> Hp -> Prop
def FpOk (X : Cx) (pins : List (Addr × Obj)) (H : Hp) (b : Addr) : Prop :=
 H b = none /\ b ≠ X.env.locals /\ b ∉ X.fs /\ (b ∈ X.ex \/ X.s₀.heap.objs.size <= b) /\ (∀ x c,X.env.cells.lookup x = some c -> c ≠ b) /\ ∀ p ∈ X.pn ++ pins,p.1 ≠ b
theorem Inv.fpOk {X : Cx} {pins : List (Addr × Obj)} {σ : St} {H H' : Hp} {s : Shared} {b : Addr} (I : Inv X pins σ H s) (hb : s.heap.objs.size <= b) (hn : H' b = none) : FpOk X pins H' b:=by
 refine ⟨hn,Nat.ne_of_gt (Nat.lt_of_lt_of_le I.lt hb),I.nofs hb,.inr (Nat.le_trans I.sz hb),fun x c e z=>?_,fun p hp z=>?_⟩
 ·obtain ⟨v,q⟩:=I.cell x c e
  exact absurd (Nat.lt_of_lt_of_le q.lt (by rw [z]; exact hb)) (Nat.lt_irrefl _)
 ·exact absurd (Nat.lt_of_lt_of_le (Heap.lt_size (I.pin p hp).1) (by rw [z]; exact hb)) (Nat.lt_irrefl _)
structure Turn (P : Program) (w : World) (K : PySem.W.Frag) (tg : Expr) (J : It) (fp : List Addr) (it : Addr) (tn : Nat -> Heap -> Prop) : Prop where
 mem : it ∈ fp
 obj : ∀ i h,tn i h -> ∀ b ∈ fp,∃ o,h.get? b = some o /\ ∀ v,o.data ≠ .cell v
 keep : ∀ i h h',tn i h -> (∀ b ∈ fp,∀ o,h.get? b = some o -> h'.get? b = some o) -> tn i h'
 item : ∀ (X : Cx),X.prog = P -> X.w = w -> X.K = K -> X.calm = true -> ∀ (i : Nat) (pins : List (Addr × Obj)) (s : Shared) (σ : St) (H : Hp) (E : Value -> Shared -> Prop),Inv X pins σ H s -> (∀ b ∈ fp,FpOk X pins H b) -> tn i s.heap -> J.go i H ->
  wpAny (model P w) X.A (pyNext (.ref it)) (fun r s1=>∃ u,r = some u /\
   wpAny (model P w) X.A (letOwnedTupleGo tg (.ref it) u) (fun _ s2=>∃ x H',Inv X pins σ H' s2 /\ RelV x u /\ J.yld i H x H' /\ tn (i + 1) s2.heap /\ ∀ b ∈ fp,H' b = none) E s1) E s
 done : ∀ (X : Cx),X.prog = P -> X.w = w -> X.K = K -> X.calm = true -> ∀ (i : Nat) (pins : List (Addr × Obj)) (s : Shared) (σ : St) (H : Hp) (E : Value -> Shared -> Prop),Inv X pins σ H s -> (∀ b ∈ fp,FpOk X pins H b) -> tn i s.heap -> J.stop i H ->
  wpAny (model P w) X.A (pyNext (.ref it)) (fun r s1=>r = none /\ Inv X pins σ H s1) E s
 self : ∀ (A : Around) (i : Nat) (s : Shared) (Q : Value -> Shared -> Prop) (E : Value -> Shared -> Prop),tn i s.heap -> Q (.ref it) s -> wpAny (model P w) A (pyIter (.ref it)) Q E s
abbrev TI:=St -> Hp -> (It -> Hp -> Prop) -> Prop
def PIE (X : Cx) (pins : List (Addr × Obj)) (σ : St) (tg : Expr) (R : It -> Hp -> Prop) (itv : Value) (s2 : Shared) : Prop :=
 ∃ (it : Addr) (fp : List Addr) (tn : Nat -> Heap -> Prop) (J : It) (H' : Hp),itv = .ref it /\ Inv X pins σ H' s2 /\ Turn X.prog X.w X.K tg J fp it tn /\ tn 0 s2.heap /\ (∀ b ∈ fp,FpOk X pins H' b) /\ R J H'
def PI (X : Cx) (tg iter : Expr) (wi : TI) : Prop :=
 ∀ (pins : List (Addr × Obj)) (s : Shared) (σ : St) (H : Hp) (R : It -> Hp -> Prop),Inv X pins σ H s -> wi σ H R ->
  wpAny (model X.prog X.w) X.A (eval iter X.env) (fun v s1=>wpAny (model X.prog X.w) X.A (pyIter v) (PIE X pins σ tg R) X.xe s1) X.xe s
theorem zrz {M : Model} {A : Around} {E : Value -> Shared -> Prop} {s : Shared} {tg : Expr} {it : Addr} {u : Value} {o : Obj} {n : String} {vs : Array Value} {Q : Unit -> Shared -> Prop} (ho : s.heap.get? it = some o) (hc : o.cls = .type n) (hd : o.data = .fields vs)
 (hn : ["enumerate","zip","dict_itemiterator","dict_reverseitemiterator","odict_iterator","itertools.zip_longest","itertools.pairwise"].contains n = false) (hQ : Q () s) : wpAny M A (letOwnedTupleGo tg (.ref it) u) Q E s:=by
 unfold letOwnedTupleGo
 cases tg <;> first
  | exact wpAny_pure hQ
  | (cases u <;> first
      | exact wpAny_pure hQ
      | (refine wpAny_bind (wpAny_load ho ?_)
         rw [hc,hd]
         show wpAny M A (if (["enumerate","zip","dict_itemiterator","dict_reverseitemiterator","odict_iterator","itertools.zip_longest","itertools.pairwise"].contains n && vs[0]? == some (rawInt _)) = true then _ else _) Q E s
         rw [if_neg (by intro h; rw [hn,Bool.false_and] at h; cases h)]
         exact wpAny_pure hQ))
def Itl (K : PySem.W.Frag) (a : Addr) : It :=
 ⟨fun i H=>∃ xs x,SqL K H a xs /\ xs[i]? = some x,fun i H x H'=>H' = H /\ ∀ xs,SqL K H a xs -> xs[i]? = some x,fun i H=>∃ xs,SqL K H a xs /\ xs.length <= i⟩
def Itr (lo : Int) (n : Nat) : It:=⟨fun i _=>i < n,fun i H x H'=>H' = H /\ x = .int (lo + i),fun i _=>n <= i⟩
theorem zls {P : Program} {w : World} {K : PySem.W.Frag} {tg : Expr} (a it : Addr) : Turn P w K tg (Itl K a) [it] it (fun i h=>h.IsListIter it a i) where
 mem:=by simp
 obj:=fun i h st b hb=>by
  have e : b = it:=by simpa using hb
  subst e
  obtain ⟨o,e,c,d⟩:=st
  exact ⟨o,e,fun v z=>by rw [d] at z; cases z⟩
 keep:=fun i h h' st k=>st.at fun o e=>k it (by simp) o e
 item:=by
  intro X hP hw hK hc i pins s σ H E I hf st hg
  subst hP hw hK
  obtain ⟨xs,x,hq,hx⟩:=hg
  obtain ⟨its,rv,p,hz⟩:=I.list hq
  obtain ⟨u,hu,ru⟩:=rv.get hx
  obtain ⟨f0,f1,f2,f3,f4,f5⟩:=hf it (by simp)
  refine wpAny_pyNext_list_item st p.isList (x:=u) (by simpa using hu) fun h' st' sb=>?_
  have I1 : Inv X pins σ H { s with heap:=h' }:=I.turned (t':=s.toks) (fun b o hb e=>(sb.2 b hb).trans e) f0 f1 f3 f4 f5
  obtain ⟨o,e,c,d⟩:=id st'
  exact ⟨u,rfl,zrz (s:={ s with heap:=h' }) e c d (by decide) ⟨x,H,I1,ru,⟨rfl,fun ys hy=>by rw [I.list_inj hy hq]; exact hx⟩,st',fun b hb=>(hf b hb).1⟩⟩
 done:=by
  intro X hP hw hK hc i pins s σ H E I hf st hg
  subst hP hw hK
  obtain ⟨xs,hq,hx⟩:=hg
  obtain ⟨its,rv,p,hz⟩:=I.list hq
  obtain ⟨f0,f1,f2,f3,f4,f5⟩:=hf it (by simp)
  have hl:=rv.length
  exact wpAny_pyNext_list_end (I.ok.hd hc) st p.isList (by simp; omega) fun h' eb=>⟨rfl,I.turned (t':=s.toks) (fun b o hb e=>eb b o hb e) f0 f1 f3 f4 f5⟩
 self:=fun _ _ _ _ _ st h=>wpAny_pyIter_listiter st h
theorem zkb {P : Program} {w : World} {K : PySem.W.Frag} {tg : Expr} (it : Addr) (lo : Int) (n : Nat) : Turn P w K tg (Itr lo n) [it] it (fun i h=>IsRangeIter h it (lo + (i : Nat) * 1) ((n : Int) - (i : Nat)) 1) where
 mem:=by simp
 obj:=fun i h st b hb=>by
  have e : b = it:=by simpa using hb
  subst e
  exact ⟨_,st,fun v z=>by
   have z' : Data.fields _ = Data.cell v:=z
   cases z'⟩
 keep:=fun i h h' st k=>k it (by simp) _ st
 item:=by
  intro X hP hw hK hc i pins s σ H E I hf st hg
  subst hP hw hK
  obtain ⟨f0,f1,f2,f3,f4,f5⟩:=hf it (by simp)
  have W:=Walks.range (prog:=X.prog) (w:=X.w) (I.ok.hd hc) it lo 1 n
  refine W.item i s _ _ hg st fun v h' tk hv st' kk=>?_
  obtain ⟨t,rfl⟩:=hv
  have I1 : Inv X pins σ H { s with heap:=h',toks:=tk }:=I.turned (fun b o hb e=>kk b o (by simpa using hb) e) f0 f1 f3 f4 f5
  refine ⟨_,rfl,zrz (s:={ s with heap:=h',toks:=tk }) (n:="range_iterator") st' rfl rfl (by decide) ⟨.int (lo + i),H,I1,⟨t,?_⟩,⟨rfl,rfl⟩,st',fun b hb=>(hf b hb).1⟩⟩
  rw [Int.mul_one]
 done:=by
  intro X hP hw hK hc i pins s σ H E I hf st hg
  subst hP hw hK
  obtain ⟨f0,f1,f2,f3,f4,f5⟩:=hf it (by simp)
  exact wpAny_pyNext_range_end (I.ok.hd hc) st (by have : n <= i:=hg; omega) fun h' eb=>⟨rfl,I.turned (t':=s.toks) (fun b o hb e=>eb b o hb e) f0 f1 f3 f4 f5⟩
 self:=fun _ _ _ _ _ st h=>wpAny_pyIter_rangeiter st h
end L2
namespace L2
open PySem PySem.Spec PyProof.Rows
section
variable {X : Cx} {tg : Expr}
def zsx (K : PySem.W.Frag) (tl : TE) : TI:=fun σ H R=>tl σ H fun x H1=>∃ a,x = .ref a /\ (∃ xs,SqL K H1 a xs) /\ R (Itl K a) H1
theorem znn {l : Expr} {tl : TE} (hl : PE X l tl) : PI X tg l (zsx X.K tl):=by
 intro pins s σ H R I h
 refine thn (hl pins s σ H _ I h) fun v s1 ⟨x,H1,I1,r1,q1⟩=>?_
 obtain ⟨a,e,⟨xs,hq⟩,q⟩:=q1
 subst e
 cases r1
 obtain ⟨its,rv,p,hz⟩:=I1.list hq
 refine wpAny_pyIter_list p.isList ?_
 refine ⟨s1.heap.objs.size,[s1.heap.objs.size],_,_,H1,rfl,I1.kept (t':=s1.toks) fun b o e=>Heap.get?_push_of_some _ e,zls a _,⟨_,Heap.get?_push_size _ rfl,rfl,rfl⟩,fun b hb=>?_,q⟩
 have e : b = s1.heap.objs.size:=by simpa using hb
 subst e
 exact I1.fpOk (Nat.le_refl _) (I1.hok.fresh (Nat.le_refl _))
theorem zmv {pins : List (Addr × Obj)} {σ : St} {H : Hp} {s : Shared} {R : It -> Hp -> Prop} {E : Value -> Shared -> Prop} {lo hi : Int} {t u v : Tok} {tk : Nat} (I : Inv X pins σ H s) (h1 : -(2 ^ 62) <= lo) (h2 : lo < 2 ^ 62) (h3 : -(2 ^ 62) <= hi) (h4 : hi < 2 ^ 62)
 (q : R (Itr lo (hi - lo).toNat) H) : wpAny (model X.prog X.w) X.A (pyIter (.ref s.heap.objs.size)) (PIE X pins σ tg R) E { s with heap:=s.heap.push { cls:=.type "range",data:=.fields #[.int lo t,.int hi u,.int 1 v] },toks:=tk }:=by
 refine wpAny_pyIter_range (IsRange.new ..) (small_one h1 h2 h3 h4) ?_
 have I1 : Inv X pins σ H { s with heap:=s.heap.push { cls:=.type "range",data:=.fields #[.int lo t,.int hi u,.int 1 v] },toks:=tk }:=I.kept fun b o e=>Heap.get?_push_of_some _ e
 refine ⟨(s.heap.push { cls:=.type "range",data:=.fields #[.int lo t,.int hi u,.int 1 v] }).objs.size,[(s.heap.push { cls:=.type "range",data:=.fields #[.int lo t,.int hi u,.int 1 v] }).objs.size],_,_,H,rfl,
  I1.kept (t':=tk) fun b o e=>Heap.get?_push_of_some _ e,zkb _ lo (hi - lo).toNat,?_,fun b hb=>?_,q⟩
 ·have e1 : lo + ((0 : Nat) : Int) * 1 = lo:=by simp
  have e2 : (((hi - lo).toNat : Nat) : Int) - ((0 : Nat) : Int) = Builtin.Range.rangeSize lo hi 1:=by rw [rangeSize_one]; split <;> omega
  show IsRangeIter _ _ (lo + ((0 : Nat) : Int) * 1) ((((hi - lo).toNat : Nat) : Int) - ((0 : Nat) : Int)) 1
  rw [e1,e2]
  exact Heap.get?_push_size _ rfl
 ·have e : b = (s.heap.push { cls:=.type "range",data:=.fields #[.int lo t,.int hi u,.int 1 v] }).objs.size:=by simpa using hb
  subst e
  exact I1.fpOk (Nat.le_refl _) (I1.hok.fresh (Nat.le_refl _))
def ztj (ta : TA) : TI:=fun σ H R=>ta σ H fun vs H1=>∃ j : Int,vs = [.int j] /\ -(2 ^ 62) <= j /\ j < 2 ^ 62 /\ R (Itr 0 j.toNat) H1
theorem zcR {a : Expr} {ta : TA} {p pos : Pos} (hg : Gl X "range") (hm : X.mg "range" = none) (ha : PA X [a] ta) (hs : starEach [a] X.env = [(false,eval a X.env)]:=by rfl) : PI X tg (.Call (.Name "range" p) [a] [] pos) (ztj ta):=by
 intro pins s σ H R I h
 refine Call_ (zhD I hg hm boot_range (PyProof.Rows.callWith_type1 (thn (ha pos pins s σ H _ I h) fun us s1 ⟨vs,H1,I1,r1,q1⟩=>?_) hs rfl))
 obtain ⟨j,e,q1,q2,q⟩:=q1
 subst e
 cases r1 with
 | cons r rr =>
   cases rr
   obtain ⟨t,rfl⟩:=r
   exact call_range_1 (zmv I1 (by omega) (by omega) q1 q2 (by simpa using q))
def tFor (wi : TI) (g : TG) (tb : TS) : TS:=fun D σ H=>wi σ H fun J H1=>∃ W : Nat -> Nat -> St -> Hp -> Prop,(∃ m,W 0 m σ H1) /\ ∀ i m σ H,W i m σ H ->
 (J.stop i H /\ D.nx σ H) \/ (J.go i H /\ ∃ N : St -> Hp -> Prop,(∀ σ' H',N σ' H' -> ∃ m',m' < m /\ W (i + 1) m' σ' H') /\ ∀ x H',J.yld i H x H' -> g x σ H' fun σ2 H2=>tb { D with nx:=N,ct:=N,bk:=D.nx } σ2 H2)
def zhI (fp : List Addr) (h : Heap) : List (Addr × Obj):=fp.filterMap fun b=>(h.get? b).map fun o=>(b,o)
theorem zde {fp : List Addr} {h : Heap} {b : Addr} {o : Obj} (hb : b ∈ fp) (e : h.get? b = some o) : (b,o) ∈ zhI fp h:=List.mem_filterMap.mpr ⟨b,hb,by rw [e]; rfl⟩
theorem zlk {fp : List Addr} {h : Heap} {p : Addr × Obj} (hp : p ∈ zhI fp h) : p.1 ∈ fp /\ h.get? p.1 = some p.2:=by
 obtain ⟨b,hb,e⟩:=List.mem_filterMap.mp hp
 cases q : h.get? b with
 | none=>rw [q] at e; cases e
 | some o =>
   rw [q] at e
   have e' : (b,o) = p:=Option.some.inj e
   subst e'
   exact ⟨hb,q⟩
theorem Inv.pinned {pins : List (Addr × Obj)} {σ : St} {H : Hp} {s : Shared} {fp : List Addr} (I : Inv X pins σ H s) (hf : ∀ b ∈ fp,FpOk X pins H b) (ho : ∀ b ∈ fp,∃ o,s.heap.get? b = some o /\ ∀ v,o.data ≠ .cell v) : Inv X (pins ++ zhI fp s.heap) σ H s :=
 I.pins_of fun p hp=>(List.mem_append.mp hp).elim (fun z=>I.pin p (List.mem_append_right _ z)) fun z=>by
  obtain ⟨hb,e⟩:=zlk z
  obtain ⟨f0,f1,f2,_⟩:=hf p.1 hb
  obtain ⟨o,e',d⟩:=ho p.1 hb
  rw [e] at e'; cases e'
  exact ⟨e,f0,f1,f2,d⟩
theorem Inv.unpinned {pins pl : List (Addr × Obj)} {σ : St} {H : Hp} {s : Shared} (I : Inv X (pins ++ pl) σ H s) : Inv X pins σ H s:=I.pins_of fun p hp=>I.pin p (List.mem_append_right _ (List.mem_append_left _ hp))
theorem zcG {iter : Expr} {body : List Stmt} {wi : TI} {g : TG} {tb : TS} {pos : Pos} (hp : PassesOwn (model X.prog X.w) X.A X.env X.xe) (hc : X.calm = true) (hi : PI X tg iter wi) (hg : PG X tg g) (hb : PSs X body tb)
 (hs : ∀ x,foldedSetIterable iter X.env x = pure x:=by intro _; rfl) : PS X (.For tg iter body [] pos) (tFor wi g tb):=by
 intro pins s σ H D I h
 refine wpAny_For (thn (hi pins s σ H _ I h) fun v s1 h1=>thn h1 fun itv s2 h2=>?_) hs
 obtain ⟨it,fp,tn,J,H2,e,I2,T,st2,f2,W,⟨m0,w0⟩,turn⟩:=h2
 subst e
 have stat : ∀ {H' : Hp},(∀ b ∈ fp,H' b = none) -> ∀ b ∈ fp,FpOk X pins H' b:=fun hn b hb=>⟨hn b hb,(f2 b hb).2⟩
 refine codeAny_forLoop_any (fun n s'=>∃ i σ' H',Inv X pins σ' H' s' /\ tn i s'.heap /\ (∀ b ∈ fp,H' b = none) /\ W i n σ' H') ?_ m0 ⟨0,σ,H2,I2,st2,fun b hb=>(f2 b hb).1,w0⟩
 rintro n s3 ⟨i,σ3,H3,I3,st3,fr3,w3⟩
 rcases turn i n σ3 H3 w3 with ⟨stop,qn⟩ | ⟨go,N,hN,step⟩
 ·refine wpAny_passesOwn hp (thn (T.done X rfl rfl rfl hc i pins s3 σ3 H3 X.xe I3 (stat fr3) st3 stop) fun r s4 ⟨hr,I4⟩=>?_)
  subst hr
  exact wpAny_execs_nil ⟨σ3,H3,I4,qn⟩
 ·refine wpAny_passesOwn hp (thn (T.item X rfl rfl rfl hc i pins s3 σ3 H3 X.xe I3 (stat fr3) st3 go) fun r s4 ⟨u,hr,h4⟩=>?_)
  subst hr
  refine wpAny_passesOwn hp (thn h4 fun _ s5 ⟨x,H5,I5,r5,y5,st5,fr5⟩=>?_)
  have I5':=I5.pinned (stat fr5) (T.obj _ _ st5)
  refine wpAny_passesOwn hp (thn (hg _ s5 σ3 H5 x u _ I5' r5 (step x H5 y5)) fun _ s6 ⟨σ6,H6,I6,q6⟩=>?_)
  refine wpAny_passesOwn hp (thn (hb _ s6 σ6 H6 _ I6 q6) fun f s7 q7=>?_)
  have again : ∀ {σ7 : St} {H7 : Hp},Inv X (pins ++ zhI fp s5.heap) σ7 H7 s7 -> N σ7 H7 -> ∃ m,m < n /\ ∃ i σ' H',Inv X pins σ' H' s7 /\ tn i s7.heap /\ (∀ b ∈ fp,H' b = none) /\ W i m σ' H':=fun {σ7 H7} I7 n7=>by
   obtain ⟨m',hm,w7⟩:=hN σ7 H7 n7
   refine ⟨m',hm,i + 1,σ7,H7,I7.unpinned,T.keep _ _ _ st5 fun b hb o e=>(I7.pin (b,o) (List.mem_append_right _ (List.mem_append_right _ (zde hb e)))).1,fun b hb=>?_,w7⟩
   obtain ⟨o,e,d⟩:=T.obj _ _ st5 b hb
   exact (I7.pin (b,o) (List.mem_append_right _ (List.mem_append_right _ (zde hb e)))).2.1
  cases f with
  | next=>obtain ⟨σ7,H7,I7,n7⟩:=q7; exact again I7 n7
  | cont=>obtain ⟨σ7,H7,I7,n7⟩:=q7; exact again I7 n7
  | brk=>obtain ⟨σ7,H7,I7,q7⟩:=q7; exact ⟨σ7,H7,I7.unpinned,q7⟩
  | ret v=>obtain ⟨x7,σ7,H7,I7,r7,q7⟩:=q7; exact ⟨x7,σ7,H7,I7.unpinned,r7,q7⟩
end
theorem zjm {K : PySem.W.Frag} {a : Addr} {xs : List V} {g : TG} {tb : TS} {D : Ends} {σ : St} {H : Hp} (Pv : Nat -> St -> Hp -> Prop) (h0 : Pv 0 σ H) (hl : ∀ i σ H,i <= xs.length -> Pv i σ H -> SqL K H a xs)
 (hs : ∀ i x σ H,xs[i]? = some x -> Pv i σ H -> g x σ H fun σ2 H2=>tb { D with nx:=Pv (i + 1),ct:=Pv (i + 1),bk:=D.nx } σ2 H2) (hd : ∀ σ H,Pv xs.length σ H -> D.nx σ H) :
 ∃ W : Nat -> Nat -> St -> Hp -> Prop,(∃ m,W 0 m σ H) /\ ∀ i m σ H,W i m σ H ->
  ((Itl K a).stop i H /\ D.nx σ H) \/ ((Itl K a).go i H /\ ∃ N : St -> Hp -> Prop,(∀ σ' H',N σ' H' -> ∃ m',m' < m /\ W (i + 1) m' σ' H') /\ ∀ x H',(Itl K a).yld i H x H' -> g x σ H' fun σ2 H2=>tb { D with nx:=N,ct:=N,bk:=D.nx } σ2 H2):=by
 refine ⟨fun i m σ H=>m = xs.length - i /\ i <= xs.length /\ Pv i σ H,⟨xs.length,by simp,Nat.zero_le _,h0⟩,?_⟩
 rintro i m σ H ⟨rfl,hi,p⟩
 have q:=hl i σ H hi p
 by_cases hlt : i < xs.length
 ·refine .inr ⟨⟨xs,xs[i],q,by simp [hlt]⟩,Pv (i + 1),fun σ' H' p'=>⟨xs.length - (i + 1),by omega,rfl,hlt,p'⟩,fun x H' y=>?_⟩
  obtain ⟨e,y⟩:=y
  subst e
  exact hs i x σ _ (y xs q) p
 ·have e : i = xs.length:=by omega
  subst e
  exact .inl ⟨⟨xs,q,Nat.le_refl _⟩,hd σ H p⟩
theorem zdV {lo : Int} {n : Nat} {g : TG} {tb : TS} {D : Ends} {σ : St} {H : Hp} (Pv : Nat -> St -> Hp -> Prop) (h0 : Pv 0 σ H)
 (hs : ∀ i σ H,i < n -> Pv i σ H -> g (.int (lo + i)) σ H fun σ2 H2=>tb { D with nx:=Pv (i + 1),ct:=Pv (i + 1),bk:=D.nx } σ2 H2) (hd : ∀ σ H,Pv n σ H -> D.nx σ H) :
 ∃ W : Nat -> Nat -> St -> Hp -> Prop,(∃ m,W 0 m σ H) /\ ∀ i m σ H,W i m σ H ->
  ((Itr lo n).stop i H /\ D.nx σ H) \/ ((Itr lo n).go i H /\ ∃ N : St -> Hp -> Prop,(∀ σ' H',N σ' H' -> ∃ m',m' < m /\ W (i + 1) m' σ' H') /\ ∀ x H',(Itr lo n).yld i H x H' -> g x σ H' fun σ2 H2=>tb { D with nx:=N,ct:=N,bk:=D.nx } σ2 H2):=by
 refine ⟨fun i m σ H=>m = n - i /\ i <= n /\ Pv i σ H,⟨n,by simp,Nat.zero_le _,h0⟩,?_⟩
 rintro i m σ H ⟨rfl,hi,p⟩
 by_cases hlt : i < n
 ·refine .inr ⟨hlt,Pv (i + 1),fun σ' H' p'=>⟨n - (i + 1),by omega,rfl,hlt,p'⟩,fun x H' y=>?_⟩
  obtain ⟨e,y⟩:=y
  subst e y
  exact hs i σ _ hlt p
 ·have e : i = n:=by omega
  subst e
  exact .inl ⟨Nat.le_refl _,hd σ H p⟩
end L2
namespace L2
open PySem PySem.Spec PyProof.Rows
abbrev R2:=V -> V -> Hp -> VK -> Prop
def OpR (X : Cx) (f : Value -> Value -> Sem Value) (r : R2) : Prop :=
 ∀ (pins : List (Addr × Obj)) (s : Shared) (σ : St) (H : Hp) (x y : V) (v u : Value) (Q : VK),Inv X pins σ H s -> RelV x v -> RelV y u -> r x y H Q ->
  wpAny (model X.prog X.w) X.A (f v u) (EP X pins σ Q) X.xe s
def UnR (X : Cx) (f : Value -> Sem Value) (r : V -> Hp -> VK -> Prop) : Prop :=
 ∀ (pins : List (Addr × Obj)) (s : Shared) (σ : St) (H : Hp) (x : V) (v : Value) (Q : VK),Inv X pins σ H s -> RelV x v -> r x H Q ->
  wpAny (model X.prog X.w) X.A (f v) (EP X pins σ Q) X.xe s
def zeX (X : Cx) (f : Value) (r : List V -> Hp -> VK -> Prop) : Prop :=
 ∀ (pins : List (Addr × Obj)) (s : Shared) (σ : St) (H : Hp) (xs : List V) (us : List Value) (Q : VK),Inv X pins σ H s -> Vals xs us -> r xs H Q ->
  wpAny (model X.prog X.w) X.A (call f us) (EP X pins σ Q) X.xe s
def tOp (r : R2) (ta tb : TE) : TE:=fun σ H Q=>ta σ H fun x H1=>tb σ H1 fun y H2=>r x y H2 Q
def tUn (r : V -> Hp -> VK -> Prop) (ta : TE) : TE:=fun σ H Q=>ta σ H fun x H1=>r x H1 Q
def rI (C : Int -> Int -> Prop) (g : Int -> Int -> V) : R2:=fun x y H Q=>∃ i j,x = .int i /\ y = .int j /\ C i j /\ Q (g i j) H
def rI0 (g : Int -> Int -> V) : R2:=fun x y H Q=>∃ i j,x = .int i /\ y = .int j /\ Q (g i j) H
def rU (g : Int -> V) : V -> Hp -> VK -> Prop:=fun x H Q=>∃ i,x = .int i /\ Q (g i) H
section
variable {X : Cx} {a b c : Expr} {ta tb tc : TE} {pos : Pos}
theorem binT (ha : PE X a ta) (hb : PE X b tb) {pins : List (Addr × Obj)} {s : Shared} {σ : St} {H : Hp} {R : V -> V -> Hp -> Prop} (I : Inv X pins σ H s)
 (h : ta σ H fun x H1=>tb σ H1 fun y H2=>R x y H2) {Q : Value -> Shared -> Prop} {f : Value -> Value -> Sem Value}
 (hf : ∀ v u s2 x y H2,Inv X pins σ H2 s2 -> RelV x v -> RelV y u -> R x y H2 -> wpAny (model X.prog X.w) X.A (f v u) Q X.xe s2) :
 wpAny (model X.prog X.w) X.A (eval a X.env) (fun v s₁=>wpAny (model X.prog X.w) X.A (eval b X.env) (fun u s₂=>wpAny (model X.prog X.w) X.A (f v u) Q X.xe s₂) X.xe s₁) X.xe s:=by
 refine thn (ha pins s σ H _ I h) fun v s1 ⟨x,H1,I1,r1,q1⟩=>?_
 refine thn (hb pins s1 σ H1 _ I1 q1) fun u s2 ⟨y,H2,I2,r2,q2⟩=>?_
 exact hf v u s2 x y H2 I2 r1 r2 q2
theorem zaq {op : Operator} {r : R2} (ho : OpR X (binaryOp op) r) (ha : PE X a ta) (hb : PE X b tb) : PE X (.BinOp a op b pos) (tOp r ta tb):=by
 intro pins s σ H Q I h
 exact wpAny_BinOp (binT ha hb I h fun v u s2 x y H2 I2 rx ry q=>ho pins s2 σ H2 x y v u Q I2 rx ry q)
theorem znR {op : UnaryOp} {r : V -> Hp -> VK -> Prop} (ho : UnR X (unaryOp op) r) (ha : PE X a ta) : PE X (.UnaryOp op a pos) (tUn r ta):=by
 intro pins s σ H Q I h
 exact UnaryOp_ (thn (ha pins s σ H _ I h) fun v s1 ⟨x,H1,I1,r1,q1⟩=>ho pins s1 σ H1 x v Q I1 r1 q1)
theorem opI {f : Value -> Value -> Sem Value} {C : Int -> Int -> Prop} {g : Int -> Int -> Int}
 (rule : ∀ (i j : Int) (t u : Tok) (s : Shared) (Q : Value -> Shared -> Prop) (E : Value -> Shared -> Prop),C i j -> Q (.int (g i j) s.toks) { s with toks:=s.toks + 1 } -> wpAny (model X.prog X.w) X.A (f (.int i t) (.int j u)) Q E s) :
 OpR X f (rI C fun i j=>.int (g i j)):=by
 intro pins s σ H x y v u Q I rx ry h
 obtain ⟨i,j,rfl,rfl,hc,q⟩:=h
 obtain ⟨t,rfl⟩:=rx
 obtain ⟨t',rfl⟩:=ry
 exact rule i j t t' s _ _ hc ⟨.int (g i j),H,I.tok _,⟨_,rfl⟩,q⟩
theorem opI0 {f : Value -> Value -> Sem Value} {g : Int -> Int -> Int}
 (rule : ∀ (i j : Int) (t u : Tok) (s : Shared) (Q : Value -> Shared -> Prop) (E : Value -> Shared -> Prop),Q (.int (g i j) s.toks) { s with toks:=s.toks + 1 } -> wpAny (model X.prog X.w) X.A (f (.int i t) (.int j u)) Q E s) :
 OpR X f (rI0 fun i j=>.int (g i j)):=by
 intro pins s σ H x y v u Q I rx ry h
 obtain ⟨i,j,rfl,rfl,q⟩:=h
 obtain ⟨t,rfl⟩:=rx
 obtain ⟨t',rfl⟩:=ry
 exact rule i j t t' s _ _ ⟨.int (g i j),H,I.tok _,⟨_,rfl⟩,q⟩
theorem opB0 {f : Value -> Value -> Sem Value} {g : Int -> Int -> Bool}
 (rule : ∀ (i j : Int) (t u : Tok) (s : Shared) (Q : Value -> Shared -> Prop) (E : Value -> Shared -> Prop),Q (.bool (g i j)) s -> wpAny (model X.prog X.w) X.A (f (.int i t) (.int j u)) Q E s) :
 OpR X f (rI0 fun i j=>.bl (g i j)):=by
 intro pins s σ H x y v u Q I rx ry h
 obtain ⟨i,j,rfl,rfl,q⟩:=h
 obtain ⟨t,rfl⟩:=rx
 obtain ⟨t',rfl⟩:=ry
 exact rule i j t t' s _ _ ⟨.bl (g i j),H,I,rfl,q⟩
def CDiv (i j : Int) : Prop:=0 < j /\ j < 1073741824
def CMul (i j : Int) : Prop:=(-(2 ^ 64) < i /\ i < 2 ^ 64) \/ (-(2 ^ 64) < j /\ j < 2 ^ 64)
theorem CMul.ok {i j : Int} (h : CMul i j) : IntMulOk i j:=by
 rcases h with ⟨h1,h2⟩ | ⟨h1,h2⟩
 ·exact .of_left (intBits_le_64 h1 h2)
 ·exact .of_right (intBits_le_64 h1 h2)
theorem zaP : OpR X (binaryOp .Add) (rI0 fun i j=>.int (i + j)):=opI0 fun _ _ _ _ _ _ _ q=>add_int q
theorem zhy : OpR X (binaryOp .Sub) (rI0 fun i j=>.int (i - j)):=opI0 fun _ _ _ _ _ _ _ q=>sub_int q
theorem zen : OpR X (binaryOp .Mult) (rI CMul fun i j=>.int (i * j)):=opI fun _ _ _ _ _ _ _ hc q=>mul_int q hc.ok
theorem zcc : OpR X (binaryOp .FloorDiv) (rI CDiv fun i j=>.int (i / j)):=opI fun i j _ _ _ _ _ hc q=>by
 have h1 : (0 : Int) < j:=hc.1
 have h2 : j < 1073741824:=hc.2
 exact floordiv_int (by omega) (by rw [Int.fdiv_eq_ediv_of_nonneg i (by omega)]; exact q) (.inl (PyProof.noPylong_small (by omega)))
theorem zbm : OpR X (binaryOp .Mod) (rI (fun _ j=>0 < j) fun i j=>.int (i % j)):=opI fun i j _ _ _ _ _ hc q=>by
 have h1 : (0 : Int) < j:=hc
 exact mod_int' (by omega) (by rw [Int.fmod_eq_emod_of_nonneg i (by omega)]; exact q)
theorem zjb : OpR X (binaryOp .BitAnd) (rI0 fun i j=>.int (Builtin.bitAnd i j)):=opI0 fun _ _ _ _ _ _ _ q=>and_int q
theorem unI {f : Value -> Sem Value} {g : Int -> Int}
 (rule : ∀ (i : Int) (t : Tok) (s : Shared) (Q : Value -> Shared -> Prop) (E : Value -> Shared -> Prop),Q (.int (g i) s.toks) { s with toks:=s.toks + 1 } -> wpAny (model X.prog X.w) X.A (f (.int i t)) Q E s) :
 UnR X f (rU fun i=>.int (g i)):=by
 intro pins s σ H x v Q I rx h
 obtain ⟨i,rfl,q⟩:=h
 obtain ⟨t,rfl⟩:=rx
 exact rule i t s _ _ ⟨.int (g i),H,I.tok _,⟨_,rfl⟩,q⟩
theorem zle : UnR X (unaryOp .USub) (rU fun i=>.int (-i)):=unI fun _ _ _ _ _ q=>neg_int q
end
def scal : V -> V -> Bool
 | .non,.non=>true | .non,.int _=>true | .int _,.non=>true | .non,.bl _=>true | .bl _,.non=>true | .non,.str _=>true | .str _,.non=>true
 | .int _,.int _=>true | .bl _,.bl _=>true | .str _,.str _=>true | .byt _,.byt _=>true
 | .int _,.str _=>true | .str _,.int _=>true | .bl _,.str _=>true | .str _,.bl _=>true
 | _,_=>false
def rEq : R2:=fun x y H Q=>scal x y = true /\ Q (.bl (decide (x = y))) H
def rNe : R2:=fun x y H Q=>scal x y = true /\ Q (.bl (!decide (x = y))) H
theorem zli {i j : Int} : decide (V.int i = V.int j) = (i == j):=by
 rw [Bool.eq_iff_iff]
 simp
theorem zmB {i j : Bool} : decide (V.bl i = V.bl j) = (i == j):=by
 rw [Bool.eq_iff_iff]
 simp
theorem zkC {i j : Str} : decide (V.str i = V.str j) = (i == j):=by
 rw [Bool.eq_iff_iff]
 simp
theorem zld {i j : Array UInt8} : decide (V.byt i = V.byt j) = (i.toList == j.toList):=by
 rw [Bool.eq_iff_iff]
 cases i
 cases j
 simp
section
variable {X : Cx} {a b c : Expr} {ta tb tc : TE} {pos : Pos}
theorem zaJ {pins : List (Addr × Obj)} {σ : St} {H : Hp} {s : Shared} {Q : VK} {k k' : Bool} (I : Inv X pins σ H s) (q : Q (.bl k) H) (e : k = k') : EP X pins σ Q (.bool k') s:=by
 subst e
 exact ⟨.bl k,H,I,rfl,q⟩
theorem zcO : OpR X (compareOp .Eq) rEq:=by
 intro pins s σ H x y v u Q I rx ry h
 obtain ⟨hs,q⟩:=h
 cases x with
 | non =>
   cases rx
   cases y with
   | non=>cases ry; exact PySem.EqNone.eq_none_none (zaJ I q (by simp))
   | bl j=>cases ry; exact PySem.EqNone.eq_none_bool (zaJ I q (by simp))
   | int j=>obtain ⟨t',rfl⟩:=ry; exact PySem.EqNone.eq_none_int (zaJ I q (by simp))
   | str j=>obtain ⟨t',rfl⟩:=ry; exact PySem.EqNone.eq_none_str (zaJ I q (by simp))
   | _=>exact absurd (show false = true from hs) Bool.false_ne_true
 | bl i =>
   cases rx
   cases y with
   | non=>cases ry; exact PySem.EqNone.eq_bool_none (zaJ I q (by simp))
   | bl j=>cases ry; exact eq_bool (zaJ I q zmB)
   | str j=>obtain ⟨t',rfl⟩:=ry; exact PySem.EqMixed.eq_bool_str (zaJ I q (by simp))
   | _=>exact absurd (show false = true from hs) Bool.false_ne_true
 | int i =>
   obtain ⟨t,rfl⟩:=rx
   cases y with
   | non=>cases ry; exact PySem.EqNone.eq_int_none (zaJ I q (by simp))
   | int j=>obtain ⟨t',rfl⟩:=ry; exact eq_int (zaJ I q zli)
   | str j=>obtain ⟨t',rfl⟩:=ry; exact PySem.EqMixed.eq_int_str (zaJ I q (by simp))
   | _=>exact absurd (show false = true from hs) Bool.false_ne_true
 | str i =>
   obtain ⟨t,rfl⟩:=rx
   cases y with
   | non=>cases ry; exact PySem.EqNone.eq_str_none (zaJ I q (by simp))
   | bl j=>cases ry; exact PySem.EqMixed.eq_str_bool (zaJ I q (by simp))
   | int j=>obtain ⟨t',rfl⟩:=ry; exact PySem.EqMixed.eq_str_int (zaJ I q (by simp))
   | str j=>obtain ⟨t',rfl⟩:=ry; exact eq_str (zaJ I q zkC)
   | _=>exact absurd (show false = true from hs) Bool.false_ne_true
 | byt i =>
   obtain ⟨t,rfl⟩:=rx
   cases y with
   | byt j=>obtain ⟨t',rfl⟩:=ry; exact PySem.W.eq_bytes (zaJ I q zld)
   | _=>exact absurd (show false = true from hs) Bool.false_ne_true
 | _=>cases y <;> exact absurd (show false = true from hs) Bool.false_ne_true
theorem zlw : OpR X (compareOp .NotEq) rNe:=by
 intro pins s σ H x y v u Q I rx ry h
 obtain ⟨hs,q⟩:=h
 cases x with
 | non =>
   cases rx
   cases y with
   | non=>cases ry; exact PySem.EqNone.ne_none_none (zaJ I q (by simp))
   | bl j=>cases ry; exact PySem.EqNone.ne_none_bool (zaJ I q (by simp))
   | int j=>obtain ⟨t',rfl⟩:=ry; exact PySem.EqNone.ne_none_int (zaJ I q (by simp))
   | str j=>obtain ⟨t',rfl⟩:=ry; exact PySem.EqNone.ne_none_str (zaJ I q (by simp))
   | _=>exact absurd (show false = true from hs) Bool.false_ne_true
 | bl i =>
   cases rx
   cases y with
   | non=>cases ry; exact PySem.EqNone.ne_bool_none (zaJ I q (by simp))
   | bl j=>cases ry; exact ne_bool (zaJ I q (congrArg not zmB))
   | str j=>obtain ⟨t',rfl⟩:=ry; exact PySem.EqMixed.ne_bool_str (zaJ I q (by simp))
   | _=>exact absurd (show false = true from hs) Bool.false_ne_true
 | int i =>
   obtain ⟨t,rfl⟩:=rx
   cases y with
   | non=>cases ry; exact PySem.EqNone.ne_int_none (zaJ I q (by simp))
   | int j=>obtain ⟨t',rfl⟩:=ry; exact ne_int (zaJ I q (congrArg not zli))
   | str j=>obtain ⟨t',rfl⟩:=ry; exact PySem.EqMixed.ne_int_str (zaJ I q (by simp))
   | _=>exact absurd (show false = true from hs) Bool.false_ne_true
 | str i =>
   obtain ⟨t,rfl⟩:=rx
   cases y with
   | non=>cases ry; exact PySem.EqNone.ne_str_none (zaJ I q (by simp))
   | bl j=>cases ry; exact PySem.EqMixed.ne_str_bool (zaJ I q (by simp))
   | int j=>obtain ⟨t',rfl⟩:=ry; exact PySem.EqMixed.ne_str_int (zaJ I q (by simp))
   | str j=>obtain ⟨t',rfl⟩:=ry; exact ne_str (zaJ I q (congrArg not zkC))
   | _=>exact absurd (show false = true from hs) Bool.false_ne_true
 | byt i =>
   obtain ⟨t,rfl⟩:=rx
   cases y with
   | byt j=>obtain ⟨t',rfl⟩:=ry; exact PySem.W.ne_bytes (zaJ I q (congrArg not zld))
   | _=>exact absurd (show false = true from hs) Bool.false_ne_true
 | _=>cases y <;> exact absurd (show false = true from hs) Bool.false_ne_true
theorem zka : OpR X (compareOp .Lt) (rI0 fun i j=>.bl (decide (i < j))):=opB0 fun _ _ _ _ _ _ _ q=>lt_int q
theorem zqw : OpR X (compareOp .LtE) (rI0 fun i j=>.bl (decide (i <= j))):=opB0 fun _ _ _ _ _ _ _ q=>le_int q
theorem znw : OpR X (compareOp .Gt) (rI0 fun i j=>.bl (decide (j < i))):=opB0 fun _ _ _ _ _ _ _ q=>gt_int q
theorem zul : OpR X (compareOp .GtE) (rI0 fun i j=>.bl (decide (j <= i))):=opB0 fun _ _ _ _ _ _ _ q=>ge_int q
theorem zao (b : Expr) {op : CmpOp} (h : op ≠ .In:=by decide) (h2 : op ≠ .NotIn:=by decide) : behindInMarks op b = false:=by
 have e1 : (op == CmpOp.In) = false:=by cases op <;> first | rfl | exact absurd rfl h
 have e2 : (op == CmpOp.NotIn) = false:=by cases op <;> first | rfl | exact absurd rfl h2
 cases b <;> simp [behindInMarks,e1,e2]
theorem zaK {op : CmpOp} {r : R2} (ho : OpR X (compareOp op) r) (ha : PE X a ta) (hb : PE X b tb) (hm : behindInMarks op b = false) : PE X (.Compare a [op] [b] pos) (tOp r ta tb):=by
 intro pins s σ H Q I h
 exact wpAny_Compare1 (binT ha hb I h fun v u s2 x y H2 I2 rx ry q=>ho pins s2 σ H2 x y v u Q I2 rx ry q) hm
def zpn (t : TE) : TT:=fun σ H Q=>t σ H fun x H'=>∃ k,x = .bl k /\ Q k H'
theorem zar {op : CmpOp} {r : R2} (ho : OpR X (compareOp op) r) (ha : PE X a ta) (hb : PE X b tb) (hm : behindInMarks op b = false) : PT X (.Compare a [op] [b] pos) (zpn (tOp r ta tb)):=by
 intro pins s σ H Q I h
 refine wpAny_isTrue_Compare1 (thn (ha pins s σ H _ I h) fun v s1 ⟨x,H1,I1,r1,q1⟩=>thn (hb pins s1 σ H1 _ I1 q1) fun u s2 ⟨y,H2,I2,r2,q2⟩ =>
  thn (ho pins s2 σ H2 x y v u _ I2 r1 r2 q2) fun c s3 ⟨z,H3,I3,r3,k,e,q3⟩=>?_) hm
 subst e
 cases r3
 exact wpAny_truthy_bool ⟨H3,I3,q3⟩
def zqH (r r' : R2) (ta tb tc : TE) : TE:=fun σ H Q=>ta σ H fun x H1=>tb σ H1 fun y H2=>r x y H2 fun z H3=>∃ k,z = .bl k /\
 (if k = true then tc σ H3 fun w' H4=>r' y w' H4 Q else Q (.bl false) H3)
theorem zmu {op op' : CmpOp} {r r' : R2} (ho : OpR X (compareOp op) r) (ho' : OpR X (compareOp op') r') (ha : PE X a ta) (hb : PE X b tb) (hc : PE X c tc)
 (hm : lastMarks [op,op'] [b,c] = false:=by with_unfolding_all rfl) : PT X (.Compare a [op,op'] [b,c] pos) (zpn (zqH r r' ta tb tc)):=by
 intro pins s σ H Q I h
 refine isTrue_chain (thn (ha pins s σ H _ I h) fun v s1 ⟨x,H1,I1,r1,q1⟩=>test_link (thn (hb pins s1 σ H1 _ I1 q1) fun u s2 ⟨y,H2,I2,r2,q2⟩ =>
  thn (ho pins s2 σ H2 x y v u _ I2 r1 r2 q2) fun d s3 ⟨z,H3,I3,r3,k,e,q3⟩=>?_)) hm
 subst e
 cases r3
 refine wpAny_truthy_bool ?_
 cases k with
 | false =>
   obtain ⟨k',e',q'⟩:=q3
   cases e'
   exact ite_ff ⟨H3,I3,q'⟩
 | true =>
   refine ite_tt (test_last (thn (hc pins s3 σ H3 _ I3 q3) fun w' s4 ⟨z',H4,I4,r4,q4⟩=>thn (ho' pins s4 σ H4 y z' u w' _ I4 r2 r4 q4) fun d' s5 ⟨z2,H5,I5,r5,k2,e2,q5⟩=>?_))
   subst e2
   cases r5
   exact wpAny_truthy_bool ⟨H5,I5,q5⟩
theorem zfM : (sizeLine : Nat) < 2 ^ 63:=by rw [sizeLine_eq]; decide
theorem zfL : OpR X (binaryOp .Add) (fun x y H Q=>∃ i j,x = .str i /\ y = .str j /\ i.length + j.length <= sizeLine /\ Q (.str (i ++ j)) H):=by
 intro pins s σ H x y v u Q I rx ry h
 obtain ⟨i,j,rfl,rfl,hz,q⟩:=h
 obtain ⟨t,rfl⟩:=rx
 obtain ⟨t',rfl⟩:=ry
 exact add_str (fun t' tk=>⟨.str (i ++ j),H,I.tok _,⟨_,rfl⟩,q⟩) hz
theorem zkh {x : V} {us : List Value} (r : Vals [x] us) : ∃ u,us = [u] /\ RelV x u:=by
 cases r with
 | cons r1 r2=>cases r2; exact ⟨_,rfl,r1⟩
theorem zuc {x y : V} {us : List Value} (r : Vals [x,y] us) : ∃ u w',us = [u,w'] /\ RelV x u /\ RelV y w':=by
 cases r with
 | cons r1 r2 =>
   cases r2 with
   | cons r3 r4=>cases r4; exact ⟨_,_,rfl,r1,r3⟩
end
end L2
namespace L2
open PySem PySem.Spec PyProof.Rows
structure ObjM (h : Heap) (x dx C : Addr) (mA : Str -> Option Value) : Prop where
 obj : h.get? x = some (PySem.W.instObj C dx)
 ns : h.Ns1 dx mA
 ne : dx ≠ x
theorem zly {h : Heap} {dx : Addr} {mA : Str -> Option Value} (n : h.Ns1 dx mA) : ∃ od,h.get? dx = some od /\ ∀ name,PySem.W.lookIn name od = some (mA name):=by
 obtain ⟨o,es,ep,ho,hd,hk,_,hm⟩:=n
 refine ⟨o,ho,fun name=>?_⟩
 have e:=hm name
 unfold nsFind findBy at e
 rw [<- Array.find?_toList] at e
 unfold PySem.W.lookIn
 rw [hd]
 dsimp only
 split
 ·rename_i y q
  rw [q] at e
  exact congrArg some e
 ·rename_i q
  rw [q] at e
  have a : es.toList.any (·.refKey) = false:=by
   rw [List.any_eq_false]
   intro y hy
   obtain ⟨z,t,hkey⟩:=hk y (Array.mem_toList_iff.mp hy)
   simp [DictEntry.refKey,hkey]
  have a' : ¬ es.toList.any (·.refKey) = true:=by rw [a]; exact Bool.false_ne_true
  rw [if_neg a']
  exact congrArg some e
theorem ObjM.look {h : Heap} {x dx C : Addr} {mA : Str -> Option Value} (I : ObjM h x dx C mA) : ∃ od,PySem.W.InstAt h x (PySem.W.instObj C dx) C (some od) /\ ∀ name,PySem.W.lookIn name od = some (mA name) :=
 let ⟨od,ho,hl⟩:=zly I.ns
 ⟨od,⟨I.obj,rfl,rfl,ho⟩,hl⟩
section
variable {prog : Program} {w : World} {A : Around} {E : Value -> Shared -> Prop} {s : Shared} {K : PySem.W.Frag} {x dx C f : Addr} {mA : Str -> Option Value} {name : Str} {v : Value}
theorem znq {expr : Bool} {Q : Value -> Shared -> Prop} (X : K.In s.heap) (I : ObjM s.heap x dx C mA) (hg : PySem.W.plainGet K C name = true) (hh : PySem.W.hasDictIn K C = true)
 (ha : PySem.W.findIn K (.ref C) name = some none) (hv : mA name = some v) (hv' : PySem.W.handedIn v = true) (h : Q v { s with toks:=s.toks + 1 }) :
 wpAny (model prog w) A (getAttr (.ref x) name expr) Q E s:=by
 obtain ⟨od,J,hl⟩:=I.look
 exact PySem.W.get_value X J (PySem.W.plainGet_of hg).1 (PySem.W.findObj_own hh ha rfl (by rw [hl,hv])) hv' h
theorem zmi {pl : Sem Bool} {Q : Value × List Value -> Shared -> Prop} (X : K.In s.heap) (I : ObjM s.heap x dx C mA) (hg : PySem.W.plainGet K C name = true)
 (hf : PySem.W.findIn K (.ref C) name = some (some (.ref f))) (ht : PySem.W.isFn K (.ref f) = true) (hv : mA name = none) (h : Q (.ref f,[.ref x]) s) :
 wpAny (model prog w) A (getMethod (.ref x) name pl) Q E s:=by
 obtain ⟨od,J,hl⟩:=I.look
 exact PySem.W.method_fn X J (PySem.W.plainGet_of hg).1 (PySem.W.plainGet_of hg).2 hf (beq_iff_eq.mp ht) (by show (PySem.W.lookIn name od).map (·.isSome) = some false; rw [hl,hv]; rfl) h
theorem znU {ns : List Str} {Q : Unit -> Shared -> Prop} (X : K.In s.heap) (I : ObjM s.heap x dx C mA)
 (hs : PySem.W.findIn K (.ref C) "__setattr__" = some (some (.builtin "object.__setattr__"))) (hp : PySem.W.plainOver K C = true) (ht : PySem.W.takerIn K C name = some none) (hh : PySem.W.hasDictIn K C = true)
 (hw : PySem.Within mA ns) (hsz : ns.length <= sizeLine)
 (h : ∀ h',ObjM h' x dx C (fun y=>if y = name then some v else mA y) -> Heap.SameBut dx s.heap h' -> Q () { s with heap:=h',toks:=s.toks + 2 }) :
 wpAny (model prog w) A (setAttr (.ref x) name v) Q E s:=by
 obtain ⟨od,J,hl⟩:=I.look
 refine PySem.W.set_plain X J hs (PySem.W.osa_open (s:={ s with toks:=s.toks + 1 }) (r:=none) X J hp ht fun b=>?_)
 obtain ⟨cd,hc,hd'⟩:=PySem.W.any_some hh
 have hx : s.heap.get? x = some ⟨.ref C,some dx,.plain,#[]⟩:=I.obj
 refine wpAny_bind (wpAny_pure (wpAny_bind (wpAny_bind (wpAny_loadPart hx (wpAny_bind (PySem.W.Looks.here (s:={ s with toks:=s.toks + 1 }) (PySem.W.looks_clsIn X hc) ?_))))))
 rw [hd']
 refine wpAny_pure (a:=some dx) (wpAny_bind (wpAny_pure (wpAny_bind ?_)))
 refine wpAny_nsSet1 (s:={ s with toks:=s.toks + 1 }) I.ns fun h' hn2 hs2=>?_
 obtain ⟨oD,esD,epD,hoD,hdD,hcD⟩:=hn2.count (PySem.Within.cons name v hw)
 refine wpAny_bind (wpAny_lookBehind hoD (by rw [hdD]; exact pastItsLine_dict (Nat.le_trans hcD (by rw [List.length_cons]; omega))) ?_)
 exact wpAny_pure (h _ ⟨(hs2.2 _ (Ne.symm I.ne)).trans I.obj,hn2,I.ne⟩ hs2)
theorem zlO {R : Result -> Shared -> Prop} {vs : List Value} {kw : List (Str × Value)} (X : K.In s.heap) (hm : PySem.W.makesIn K C = true)
 (hi : PySem.W.findIn K (.ref C) "__init__" = some (some (.ref f))) (hf : PySem.W.typeIn K (.ref f) = some (.type "function"))
 (h : codeAny (model prog w) (A.under (.builtin "type.__call__" ⟨.ref C :: vs,kw⟩)) (.call (.ref f) ⟨.ref (s.heap.objs.size + 1) :: vs,kw⟩) (PySem.W.InitBack (s.heap.objs.size + 1) R)
   { s with heap:=(s.heap.push PySem.W.emptyDict).push (PySem.W.instObj C s.heap.objs.size) }) :
 codeAny (model prog w) A (.call (.ref C) ⟨vs,kw⟩) R s:=by
 obtain ⟨hh,g,d,t,os⟩:=s
 exact PySem.W.make_core (PySem.W.makes_of X hm) (PySem.W.looks_findIn X hi) (fun self=>PySem.W.bind_fn X self hf) (.inl rfl) h
end
def putF (f : Str) (v : V) : List (Str × V) -> List (Str × V)
 | []=>[(f,v)]
 | (g,x) :: r=>if g = f then (g,v) :: r else (g,x) :: putF f v r
theorem zdE (f g : Str) (v : V) : ∀ fs : List (Str × V),(putF f v fs).lookup g = if g = f then some v else fs.lookup g
 | []=>by
   show List.lookup g [(f,v)] = _
   by_cases h : g = f
   ·have hb : (g == f) = true:=beq_iff_eq.mpr h
    simp only [List.lookup,hb,if_pos h]
   ·have hb : (g == f) = false:=beq_eq_false_iff_ne.mpr h
    simp only [List.lookup,hb,if_neg h]
 | (k,x) :: r=>by
   have ih:=zdE f g v r
   rw [show putF f v ((k,x) :: r) = (if k = f then (k,v) :: r else (k,x) :: putF f v r) from rfl]
   by_cases hk : k = f
   ·rw [if_pos hk]
    by_cases h : g = k
    ·have hb : (g == k) = true:=beq_iff_eq.mpr h
     simp only [List.lookup,hb,if_pos (h.trans hk)]
    ·have hb : (g == k) = false:=beq_eq_false_iff_ne.mpr h
     simp only [List.lookup,hb,if_neg (fun e : g = f=>h (e.trans hk.symm))]
   ·rw [if_neg hk]
    by_cases h : g = k
    ·have hb : (g == k) = true:=beq_iff_eq.mpr h
     simp only [List.lookup,hb,if_neg (fun e : g = f=>hk (h.symm.trans e))]
    ·have hb : (g == k) = false:=beq_eq_false_iff_ne.mpr h
     simp only [List.lookup,hb]
     exact ih
theorem zeU (f : Str) (v : V) : ∀ fs : List (Str × V),f ∈ (putF f v fs).map (·.1) /\ ∀ g,g ∈ fs.map (·.1) -> g ∈ (putF f v fs).map (·.1)
 | []=>⟨by simp [putF],fun g h=>by simp at h⟩
 | (k,x) :: r=>by
   obtain ⟨i1,i2⟩:=zeU f v r
   rw [show putF f v ((k,x) :: r) = (if k = f then (k,v) :: r else (k,x) :: putF f v r) from rfl]
   by_cases hk : k = f
   ·rw [if_pos hk]
    subst hk
    exact ⟨by simp,fun g h=>by simpa using h⟩
   ·rw [if_neg hk]
    refine ⟨?_,fun g h=>?_⟩
    ·rw [List.map_cons]
     exact List.mem_cons_of_mem _ i1
    ·rw [List.map_cons] at h ⊢
     rcases List.mem_cons.mp h with e | e
     ·exact List.mem_cons.mpr (.inl e)
     ·exact List.mem_cons_of_mem _ (i2 g e)
theorem zfd (f : Str) (v : V) : ∀ fs : List (Str × V),(putF f v fs).length <= fs.length + 1
 | []=>by simp [putF]
 | (k,x) :: r=>by
   have ih:=zfd f v r
   rw [show putF f v ((k,x) :: r) = (if k = f then (k,v) :: r else (k,x) :: putF f v r) from rfl]
   by_cases hk : k = f
   ·rw [if_pos hk,List.length_cons,List.length_cons]; omega
   ·rw [if_neg hk,List.length_cons,List.length_cons]; omega
theorem RelO.some_of {v : V} {o : Option Value} (r : RelO (some v) o) : ∃ u,o = some u /\ RelV v u:=by
 cases o with
 | none=>exact (show False from r).elim
 | some u=>exact ⟨u,rfl,r⟩
theorem RelO.none_of {o : Option Value} (r : RelO none o) : o = none:=by
 cases o with
 | none=>rfl
 | some u=>exact (show False from r).elim
theorem zlf {v : V} {u : Value} (r : RelV v u) : PySem.W.handedIn u = true:=by
 cases v with
 | non=>cases (show u = Value.none from r); rfl
 | bl b=>cases (show u = Value.bool b from r); rfl
 | int i=>obtain ⟨t,e⟩:=(show ∃ t,u = Value.int i t from r); cases e; rfl
 | str x=>obtain ⟨t,e⟩:=(show ∃ t,u = Value.str x t from r); cases e; rfl
 | byt b=>obtain ⟨t,e⟩:=(show ∃ t,u = Value.bytes b t from r); cases e; rfl
 | flt b=>obtain ⟨t,e⟩:=(show ∃ t,u = Value.float b t from r); cases e; rfl
 | ref a=>cases (show u = Value.ref a from r); rfl
 | ty n=>cases (show u = Value.type n from r); rfl
section
variable {P : Program} {w : World} {H H' : Hp} {h h' : Heap} {a C dx : Addr} {fs fs' : List (Str × V)}
theorem zgH (hok : HOk P w H h) (e : H a = some (.ins C dx fs)) : ∃ mA,ObjM h a dx C mA /\ (∀ f,RelO (fs.lookup f) (mA f)) /\ PySem.Within mA (fs.map (·.1)) /\ fs.length <= 1000 /\ H dx = some (.own a):=by
 obtain ⟨d,z,ne,ob,mA,n,r,q⟩:=(show zbV P w H h a (.ins C dx fs) from hok a _ e)
 exact ⟨mA,⟨ob,n,ne⟩,r,q,z,d⟩
end
structure Cls (K : PySem.W.Frag) (C : Addr) : Prop where
 pg : PySem.W.plainGet K C Str.empty = true
 hd : PySem.W.hasDictIn K C = true
 po : PySem.W.plainOver K C = true
 sa : PySem.W.findIn K (.ref C) "__setattr__" = some (some (.builtin "object.__setattr__"))
theorem Cls.get {K : PySem.W.Frag} {C : Addr} (c : Cls K C) (f : Str) : PySem.W.plainGet K C f = true:=c.pg
def zbT (K : PySem.W.Frag) (C : Addr) (f : Str) : Prop:=PySem.W.findIn K (.ref C) f = some none
theorem zbT.taker {K : PySem.W.Frag} {C : Addr} {f : Str} (n : zbT K C f) : PySem.W.takerIn K C f = some none:=by
 unfold PySem.W.takerIn
 rw [show PySem.W.findIn K (.ref C) f = some none from n]
 rfl
structure Meth (K : PySem.W.Frag) (C : Addr) (m : Str) (f : Addr) : Prop where
 at_ : PySem.W.findIn K (.ref C) m = some (some (.ref f))
 fn : PySem.W.isFn K (.ref f) = true
 kp : PySem.W.keepIn K (.ref f) = true
section
variable {X : Cx} {pins : List (Addr × Obj)} {σ : St} {H : Hp} {s : Shared} {a C dx : Addr} {fs : List (Str × V)} {f : Str} {v : V} {A : Around} {E : Value -> Shared -> Prop}
theorem zjI {b : Bool} {Q : Value -> Shared -> Prop} (I : Inv X pins σ H s) (e : H a = some (.ins C dx fs)) (c : Cls X.K C) (n : zbT X.K C f) (l : fs.lookup f = some v)
 (h : ∀ u s',Inv X pins σ H s' -> RelV v u -> Q u s') : wpAny (model X.prog X.w) A (getAttr (.ref a) f b) Q E s:=by
 obtain ⟨mA,O,r,_,_,_⟩:=zgH I.hok e
 obtain ⟨u,hu,ru⟩:=RelO.some_of (v:=v) (o:=mA f) (by rw [<- l]; exact r f)
 exact znq I.kIn O (c.get f) c.hd n hu (zlf ru) (h u _ (I.tok _) ru)
theorem zfT {m : Str} {g : Addr} {pl : Sem Bool} {Q : Value × List Value -> Shared -> Prop} (I : Inv X pins σ H s) (e : H a = some (.ins C dx fs)) (c : Cls X.K C) (k : Meth X.K C m g) (l : fs.lookup m = none)
 (h : Q (.ref g,[.ref a]) s) : wpAny (model X.prog X.w) A (getMethod (.ref a) m pl) Q E s:=by
 obtain ⟨mA,O,r,_,_,_⟩:=zgH I.hok e
 have hn : mA m = none:=RelO.none_of (by rw [<- l]; exact r m)
 exact zmi I.kIn O (c.get m) k.at_ k.fn hn h
theorem zjC {y : V} {u : Value} {Q : Unit -> Shared -> Prop} (I : Inv X pins σ H s) (e : H a = some (.ins C dx fs)) (c : Cls X.K C) (n : zbT X.K C f) (hl : fs.length < 1000) (ry : RelV y u)
 (h : ∀ s',Inv X pins σ (upd H a (.ins C dx (putF f y fs))) s' -> Q () s') : wpAny (model X.prog X.w) A (setAttr (.ref a) f u) Q E s:=by
 obtain ⟨mA,O,r,wi,_,ho⟩:=zgH I.hok e
 have hz : (fs.map (·.1)).length <= sizeLine:=by rw [List.length_map,sizeLine_eq]; omega
 refine znU I.kIn O c.sa c.po n.taker c.hd wi hz fun h' O' sb=>h _ ?_
 have hd : ∃ o,h'.get? dx = some o:=let ⟨o,_,_,e',_⟩:=O'.ns; ⟨o,e'⟩
 refine I.write (x:=a) (e:=dx) (by rw [e]; exact True.intro) (.inr ho) (fun b q hb z=>(sb.2 b hb).trans z) hd ?_
 refine ⟨by rw [zai O.ne]; exact ho,?_,O.ne,O'.obj,_,O'.ns,fun g=>?_,fun g hg=>?_⟩
 ·have:=zfd f y fs; omega
 ·show RelO ((putF f y fs).lookup g) (if g = f then some u else mA g)
  rw [zdE]
  by_cases q : g = f
  ·rw [if_pos q,if_pos q]; exact ry
  ·rw [if_neg q,if_neg q]; exact r g
 ·by_cases q : g = f
  ·rw [q]; exact (zeU f y fs).1
  ·refine (zeU f y fs).2 g (wi g fun z=>hg ?_)
   show (if g = f then some u else mA g) = none
   rw [if_neg q]; exact z
theorem Inv.made (I : Inv X pins σ H s) : Inv X pins σ (upd (upd H s.heap.objs.size (.own (s.heap.objs.size + 1))) (s.heap.objs.size + 1) (.ins C s.heap.objs.size []))
 { s with heap:=(s.heap.push PySem.W.emptyDict).push (PySem.W.instObj C s.heap.objs.size) }:=by
 have e1 : (s.heap.push PySem.W.emptyDict).get? s.heap.objs.size = some PySem.W.emptyDict:=Heap.get?_push_size s.heap rfl
 have e2 : ((s.heap.push PySem.W.emptyDict).push (PySem.W.instObj C s.heap.objs.size)).get? (s.heap.objs.size + 1) = some (PySem.W.instObj C s.heap.objs.size):=by
  have:=Heap.get?_push_size (s.heap.push PySem.W.emptyDict) (o:=PySem.W.instObj C s.heap.objs.size) rfl
  rwa [Heap.size_push] at this
 have e3 : (s.heap.push PySem.W.emptyDict).Ns s.heap.objs.size (fun _=>none):=⟨PySem.W.emptyDict,#[],_,e1,rfl,(fun e he=>absurd he (by simp)),fun _=>rfl⟩
 have I1:=I.laid (a:=s.heap.objs.size) (o:=.own (s.heap.objs.size + 1)) (h':=s.heap.push PySem.W.emptyDict) (t':=s.toks) (fun b u q=>Heap.get?_push_of_some _ q) (Nat.le_refl _) ⟨_,e1⟩
 refine I1.laid (a:=s.heap.objs.size + 1) (o:=.ins C s.heap.objs.size []) (t':=s.toks) (fun b u q=>Heap.get?_push_of_some _ q) (Nat.le_of_eq (Heap.size_push _ _)) ?_
 have ne : s.heap.objs.size ≠ s.heap.objs.size + 1:=Nat.ne_of_lt (Nat.lt_succ_self _)
 refine ⟨by rw [zai ne,upd_same],Nat.zero_le _,ne,e2,fun _=>none,(Heap.Ns1.of_empty e3).at fun o q=>Heap.get?_push_of_some _ q,fun _=>True.intro,fun y hy=>absurd rfl hy⟩
theorem znW {prog : Program} {w : World} {env : Env} {e : Expr} {f : Str} {pos : Pos} {s : Shared} {Q : Value -> Shared -> Prop} (hb : attributeBase e f env (eval e env) = eval e env)
 (h : wpAny (model prog w) A (eval e env) (fun o s₁=>wpAny (model prog w) A (getAttr o f true) Q E s₁) E s) : wpAny (model prog w) A (eval (.Attribute e f pos) env) Q E s :=
 Attribute_any_ h (by rw [arm_eval_Attribute,hb])
end
section
variable {X : Cx} {o e value : Expr} {f : Str} {pos pos' tpos : Pos} {ta tv : TE}
end
section
variable {X : Cx} {pins : List (Addr × Obj)} {σ : St} {H : Hp} {s : Shared} {A : Around} {E : Value -> Shared -> Prop} {Q : Value -> Shared -> Prop} {c : Value} {b : Bool}
inductive TyOf (K : PySem.W.Frag) (H : Hp) : V -> Value -> Prop where
 | non : TyOf K H .non (.type "NoneType")
 | bl (x : Bool) : TyOf K H (.bl x) (.type "bool")
 | int (i : Int) : TyOf K H (.int i) (.type "int")
 | str (x : Str) : TyOf K H (.str x) (.type "str")
 | flt (x : UInt64) : TyOf K H (.flt x) (.type "float")
 | lst {a : Addr} {xs : List V} (e : H a = some (.lst xs)) : TyOf K H (.ref a) (.type "list")
 | frz {a : Addr} {o : Obj} {xs : List V} (e : H a = some (.frz o (.lst xs))) : TyOf K H (.ref a) (.type "list")
 | tup {a : Addr} {xs : List V} (e : H a = some (.tup xs)) : TyOf K H (.ref a) (.type "tuple")
 | dK {a : Addr} {kvs : List (Key × V)} (e : H a = some (.dK kvs)) : TyOf K H (.ref a) (.type "dict")
 | dT {a : Addr} {kvs : List (List Key × V)} (e : H a = some (.dT kvs)) : TyOf K H (.ref a) (.type "dict")
 | ins {a C dx : Addr} {fs : List (Str × V)} (e : H a = some (.ins C dx fs)) (cl : Cls K C) (ha : PySem.W.findIn K (.ref C) "__class__" = some (some (.builtin "object.__class__")))
    (hn : PySem.W.specialIn K (.builtin "object.__class__") "__get__" = some (some (.builtin "getset_descriptor.__get__"))) (htk : PySem.W.takesIn K (.builtin "object.__class__") = some true)
    (hm : PySem.W.mroIn K C (.type "object") = some true) : TyOf K H (.ref a) (.ref C)
theorem zkw {x : V} {u t : Value} (I : Inv X pins σ H s) (rx : RelV x u) (ty : TyOf X.K H x t) (e : PySem.W.kitOne X.K t c = some b) (h : ∀ tk,Q (.bool b) { s with toks:=tk }) :
 wpAny (model X.prog X.w) A (call (.builtin "isinstance") [u,c]) Q E s:=by
 cases ty with
 | non=>cases (show u = Value.none from rx); exact PySem.W.kia_one PySem.W.kitx_none I.kIn True.intro e (fun z=>nomatch z) h
 | bl y=>cases (show u = Value.bool y from rx); exact PySem.W.kia_one PySem.W.kitx_bool I.kIn True.intro e (fun z=>nomatch z) h
 | int i=>obtain ⟨t,q⟩:=(show ∃ t,u = Value.int i t from rx); cases q; exact PySem.W.kia_one PySem.W.kitx_int I.kIn True.intro e (fun z=>nomatch z) h
 | str y=>obtain ⟨t,q⟩:=(show ∃ t,u = Value.str y t from rx); cases q; exact PySem.W.kia_one PySem.W.kitx_str I.kIn True.intro e (fun z=>nomatch z) h
 | flt y=>obtain ⟨t,q⟩:=(show ∃ t,u = Value.float y t from rx); cases q; exact PySem.W.kia_one PySem.W.kitx_float I.kIn True.intro e (fun z=>nomatch z) h
 | @lst a xs ea =>
   cases (show u = Value.ref a from rx)
   obtain ⟨_,_,n,_,h1⟩:=(show zbV X.prog X.w H s.heap a (.lst xs) from I.hok a _ ea)
   exact PySem.W.kia_one PySem.W.kitx_list I.kIn ⟨_,h1,rfl⟩ e (fun z=>nomatch z) h
 | @frz a ob xs ea =>
   cases (show u = Value.ref a from rx)
   obtain ⟨_,_,_,n,_,h1⟩:=(show zbV X.prog X.w H s.heap a (.frz ob (.lst xs)) from I.hok a _ ea)
   exact PySem.W.kia_one PySem.W.kitx_list I.kIn ⟨_,h1,rfl⟩ e (fun z=>nomatch z) h
 | @tup a xs ea =>
   cases (show u = Value.ref a from rx)
   obtain ⟨_,_,_,p⟩:=(show zbV X.prog X.w H s.heap a (.tup xs) from I.hok a _ ea)
   obtain ⟨o,h1,h2,_⟩:=p
   exact PySem.W.kia_one PySem.W.kitx_tuple I.kIn ⟨o,h1,h2⟩ e (fun z=>nomatch z) h
 | @dK a kvs ea =>
   cases (show u = Value.ref a from rx)
   obtain ⟨_,_,vs,_,p⟩:=(show zbV X.prog X.w H s.heap a (.dK kvs) from I.hok a _ ea)
   obtain ⟨o,es,ep,h1,h2,_⟩:=p
   exact PySem.W.kia_one PySem.W.kitx_dict I.kIn ⟨o,h1,h2.1⟩ e (fun z=>nomatch z) h
 | @dT a kvs ea =>
   cases (show u = Value.ref a from rx)
   obtain ⟨_,_,xs,_,o,es,ep,h1,h2,_⟩:=(show zbV X.prog X.w H s.heap a (.dT kvs) from I.hok a _ ea)
   exact PySem.W.kia_one PySem.W.kitx_dict I.kIn ⟨o,h1,h2.1⟩ e (fun z=>nomatch z) h
 | @ins a C dx fs ea cl ha hn htk hm =>
   cases (show u = Value.ref a from rx)
   obtain ⟨mA,O,_⟩:=zgH I.hok ea
   obtain ⟨od,J,_⟩:=O.look
   exact PySem.W.kia_one (PySem.W.kitx_own (cl.get _) cl.hd ha hn htk hm) I.kIn J e (fun z=>nomatch z) h
end
end L2
namespace L2
open PySem PySem.Spec PyProof.Rows
structure Room (k : Nat) (A : Around) : Prop where
 hd : A.handled = none
 dp : A.depth + 3 * k + 5 < recursionLimit
 un : A.units + 16 * k + 200 < cLine
theorem Room.mono {j k : Nat} {A : Around} (r : Room k A) (h : j <= k) : Room j A:=⟨r.hd,by have:=r.dp; omega,by have:=r.un; omega⟩
theorem Room.deeper {k : Nat} {A : Around} (r : Room (k + 1) A) (env : Env) : Room k (A.deeper env) :=
 ⟨r.hd,by have:=r.dp; show A.depth + 1 + 3 * k + 5 < _; omega,by have:=r.un; show A.units + 3 + 16 * k + 200 < _; omega⟩
theorem zjH {A : Around} {C : Addr} {us : List Value} {kw : List (Str × Value)} : (A.under (.builtin "type.__call__" ⟨.ref C :: us,kw⟩)).depth = A.depth + 1:=by
 first | rfl | simp [Around.under,Code.weight,Code.isCreation,Code.isGuard,Code.isCaller,Code.frames,Code.isFrame,guardIds]
theorem zjB {A : Around} {C : Addr} {us : List Value} {kw : List (Str × Value)} : (A.under (.builtin "type.__call__" ⟨.ref C :: us,kw⟩)).units = A.units + 1:=by
 first | rfl | simp [Around.under,Code.cUnits,Code.frames,Code.isFrame]
theorem Room.make {k : Nat} {A : Around} (r : Room (k + 1) A) (C : Addr) (us : List Value) (kw : List (Str × Value)) : Room k (A.under (.builtin "type.__call__" ⟨.ref C :: us,kw⟩)) :=
 ⟨r.hd,by have:=r.dp; rw [zjH]; omega,by have:=r.un; rw [zjB]; omega⟩
theorem Room.depth {k : Nat} {A : Around} (r : Room k A) : A.depth < recursionLimit:=by have:=r.dp; omega
theorem Room.units {k : Nat} {A : Around} (r : Room k A) : A.units + 64 < cLine:=by have:=r.un; omega
def tNil : TA:=fun _ H Q=>Q [] H
def zvl (ta : TE) (tr : TA) : TA:=fun σ H Q=>ta σ H fun x H1=>tr σ H1 fun xs H2=>Q (x :: xs) H2
section
variable {X : Cx} {e : Expr} {es : List Expr} {te : TE} {t : TA} {pos : Pos}
theorem zad : PA X [] tNil:=fun _ _ _ _ H Q I h=>Calls.spliced_nil ⟨[],H,I,.nil,h⟩
theorem zaa (ha : PE X e te) (hr : PA X es t) (hs : starEach (e :: es) X.env = (false,eval e X.env) :: starEach es X.env:=by rfl) : PA X (e :: es) (zvl te t):=by
 intro pos pins s σ H Q I h
 rw [hs]
 show wpAny _ _ (spliced ((false,eval e X.env) :: backTo pos (starEach es X.env))) _ _ s
 refine Calls.spliced_cons (thn (ha pins s σ H _ I h) fun u s1 ⟨x,H1,I1,r1,q1⟩=>?_)
 exact thn (hr pos pins s1 σ H1 _ I1 q1) fun us s2 ⟨xs,H2,I2,r2,q2⟩=>⟨x :: xs,H2,I2,.cons r1 r2,q2⟩
def tTup (t : TA) : TE:=fun σ H Q=>t σ H fun xs H1=>xs.length <= sizeLine /\ ∀ p,H1 p = none -> Q (.ref p) (upd H1 p (.tup xs))
def tLst (t : TA) : TE:=fun σ H Q=>t σ H fun xs H1=>xs.length <= sizeLine /\ ∀ p,H1 p = none -> Q (.ref p) (upd H1 p (.lst xs))
theorem zdW {x1} (h : PA X es t) : PE X (.Tuple es x1 pos) (tTup t):=by
 intro pins s σ H Q I hq
 refine wpAny_Tuple_spliced (thn (h pos pins s σ H _ I hq) fun us s1 ⟨xs,H1,I1,r,z,q⟩=>⟨by rw [<- r.length]; exact z,?_⟩)
 have hf : H1 s1.heap.objs.size = none:=I1.hok.fresh (Nat.le_refl _)
 refine ⟨.ref s1.heap.objs.size,upd H1 s1.heap.objs.size (.tup xs),I1.laid (t':=s1.toks) (fun b u e=>Heap.get?_push_of_some _ e) (Nat.le_refl _) ?_,rfl,q _ hf⟩
 exact ⟨z,us,r,⟨_,Heap.get?_push_size _ rfl,rfl,_,rfl⟩⟩
theorem zax (h : PA X es t) : PE X (.List es pos) (tLst t):=by
 intro pins s σ H Q I hq
 refine wpAny_List_spliced (thn (h pos pins s σ H _ I hq) fun us s1 ⟨xs,H1,I1,r,z,q⟩=>⟨by rw [<- r.length]; exact z,?_⟩)
 have hf : H1 s1.heap.objs.size = none:=I1.hok.fresh (Nat.le_refl _)
 refine ⟨.ref s1.heap.objs.size,upd H1 s1.heap.objs.size (.lst xs),I1.laid (t':=s1.toks) (fun b u e=>Heap.get?_push_of_some _ e) (Nat.le_refl _) ?_,rfl,q _ hf⟩
 exact ⟨z,us,0,r,Heap.get?_push_size _ rfl⟩
end
abbrev Sp:=List V -> Hp -> VK -> XK -> Prop
abbrev CXT:=List Env -> Hp -> Shared -> XK -> Value -> Shared -> Prop
structure Env0 (P : Program) (w : World) (K : PySem.W.Frag) (mg : Str -> Option Value) (base : Heap) (A : Around) (outer : List Env) (s : Shared) (H : Hp) : Prop where
 frames : A.frames = some outer
 mod : Mod K mg base
 bs : ∀ b o,base.get? b = some o -> s.heap.get? b = some o /\ H b = none
 bsz : base.objs.size <= s.heap.objs.size
 funs : s.heap.FunFrames base outer
 frf : ∀ b ∈ frs outer,H b = none
 hok : HOk P w H s.heap
 bare : AllBare s.gens
def CE (outer : List Env) (P : Program) (w : World) (H : Hp) (s : Shared) (Q : VK) (u : Value) (s' : Shared) : Prop :=
 ∃ v H',s'.os = s.os /\ AllBare s'.gens /\ Un (frs outer) [] H H' s.heap s'.heap /\ HOk P w H' s'.heap /\ RelV v u /\ Q v H'
def CR (CX : CXT) (outer : List Env) (P : Program) (w : World) (H : Hp) (s : Shared) (Q : VK) (E : XK) (r : Result) (s' : Shared) : Prop :=
 match r with
 | .ok (.ret u)=>CE outer P w H s Q u s'
 | .ok _=>False
 | .error e=>CX outer H s E e s'
structure FnOk (P : Program) (w : World) (K : PySem.W.Frag) (mg : Str -> Option Value) (base : Heap) (CX : CXT) (k : Nat) (f : Addr) (fd : FuncData) (ps : List Str) (sp : Sp) : Prop where
 len : ∀ vs H Q E,sp vs H Q E -> vs.length = ps.length
 run : ∀ (A : Around) (outer : List Env) (s : Shared) (H : Hp) (args : Args) (us : List Value) (vs : List V) (Q : VK) (E : XK),Room k A -> Env0 P w K mg base A outer s H -> BindsTo s fd args (ps.zip us) -> Vals vs us -> sp vs H Q E ->
  codeAny (model P w) A (.call (.ref f) args) (CR CX outer P w H s Q E) s
theorem FnOk.mono {P : Program} {w : World} {K : PySem.W.Frag} {mg : Str -> Option Value} {base : Heap} {CX : CXT} {j k : Nat} {f : Addr} {fd : FuncData} {ps : List Str} {sp : Sp} (F : FnOk P w K mg base CX j f fd ps sp) (h : j <= k) :
 FnOk P w K mg base CX k f fd ps sp:=⟨F.len,fun A outer s H args us vs Q E hr=>F.run A outer s H args us vs Q E (hr.mono h)⟩
theorem Env0.make {P : Program} {w : World} {K : PySem.W.Frag} {mg : Str -> Option Value} {base : Heap} {A : Around} {outer : List Env} {s : Shared} {H : Hp} (e : Env0 P w K mg base A outer s H) (C : Addr) (us : List Value) (kw : List (Str × Value)) :
 Env0 P w K mg base (A.under (.builtin "type.__call__" ⟨.ref C :: us,kw⟩)) outer s H:=⟨by first | exact e.frames | (simpa [Around.under,Code.envs,Code.isFrame,pushEnvs] using e.frames),e.mod,e.bs,e.bsz,e.funs,e.frf,e.hok,e.bare⟩
section
variable {X : Cx} {pins : List (Addr × Obj)} {σ : St} {H : Hp} {s s' : Shared}
theorem Inv.env0 (I : Inv X pins σ H s) : Env0 X.prog X.w X.K X.mg X.base X.A X.stack s H :=
 ⟨I.ok.frames,I.ok.mod,I.bs,Nat.le_trans I.ok.bsz I.sz,I.stack,I.stkFree,I.hok,I.bare⟩
theorem Inv.after {Q : VK} {u : Value} (I : Inv X pins σ H s) (h : CE X.stack X.prog X.w H s Q u s') : EP X pins σ Q u s':=by
 obtain ⟨v,H',os,bare,un,hok,r,q⟩:=h
 obtain ⟨hh,g,d,t,os'⟩:=s'
 obtain rfl : os' = s.os:=os
 exact ⟨v,H',I.call (h':=hh) (g':=g) (d':=d) (t':=t) (ch:=[]) un hok bare (fun b z=>absurd z (by simp)),r,q⟩
end
def zoo (sp : Sp) (dvs : List V) (E : XK) (t : TA) : TE:=fun σ H Q=>t σ H fun vs H1=>sp (vs ++ dvs) H1 Q E
def zoQ (C : Addr) (sp : Sp) (dvs : List V) (E : XK) (t : TA) : TE:=fun σ H Q=>t σ H fun vs H1=>∀ x dx,H1 x = none -> H1 dx = none -> dx ≠ x ->
 sp (.ref x :: (vs ++ dvs)) (upd (upd H1 dx (.own x)) x (.ins C dx [])) (fun v H2=>v = .non /\ Q (.ref x) H2) E
def zhE (K : PySem.W.Frag) (fd : FuncData) (ps : List Str) (ds : List Value) : Prop :=
 ∀ (s : Shared) (us : List Value),K.In s.heap -> (us ++ ds).length = ps.length -> BindsTo s fd ⟨us,[]⟩ (ps.zip (us ++ ds))
theorem zhE.all {K : PySem.W.Frag} {fd : FuncData} {ps : List Str} (h : ∀ us : List Value,us.length = ps.length -> bindArgs fd ⟨us,[]⟩ = pure (ps.zip us)) : zhE K fd ps []:=fun s us _ hl=>by
 rw [List.append_nil] at hl ⊢
 exact .of_eq (h us hl)
def zhi (CX : CXT) (X : Cx) (E : XK) : Prop:=∀ (pins : List (Addr × Obj)) (σ : St) (H : Hp) (s : Shared) (e : Value) (s' : Shared),Inv X pins σ H s -> CX X.stack H s E e s' -> X.xe e s'
section
variable {X : Cx} {CX : CXT} {k : Nat} {f C : Addr} {fd : FuncData} {ps : List Str} {sp : Sp} {dvs : List V} {ds : List Value} {E : XK} {x m : Str} {p pos apos : Pos} {e o : Expr} {es : List Expr} {ta : TE} {t : TA}
theorem zkL {pins : List (Addr × Obj)} {σ : St} {H : Hp} {s : Shared} {Q : VK} {us : List Value} {vs : List V} (F : FnOk X.prog X.w X.K X.mg X.base CX k f fd ps sp) (hr : Room k X.A) (hb : zhE X.K fd ps ds) (hd : Vals dvs ds) (hx : zhi CX X E)
 (I : Inv X pins σ H s) (r : Vals vs us) (h : sp (vs ++ dvs) H Q E) : wpAny (model X.prog X.w) X.A (call (.ref f) us) (EP X pins σ Q) X.xe s:=by
 have r2 : Vals (vs ++ dvs) (us ++ ds):=r.append hd
 have hl : (us ++ ds).length = ps.length:=by rw [<- r2.length]; exact F.len _ _ _ _ h
 refine wpAny_call (codeAny_mono (F.run X.A X.stack s H ⟨us,[]⟩ (us ++ ds) (vs ++ dvs) Q E hr I.env0 (hb s us I.kIn hl) r2 h) fun r s' hq=>?_)
 cases r with
 | error e=>exact hx pins σ H s e s' I hq
 | ok fl =>
   cases fl with
   | ret u=>exact I.after hq
   | next=>exact False.elim hq
   | brk=>exact False.elim hq
   | cont=>exact False.elim hq
theorem zmW (F : FnOk X.prog X.w X.K X.mg X.base CX k f fd ps sp) (hr : Room k X.A) (hg : Gl X x) (hm : X.mg x = some (.ref f)) (hk : PySem.W.keepIn X.K (.ref f) = true) (hb : zhE X.K fd ps ds) (hd : Vals dvs ds) (hx : zhi CX X E)
 (ha : PA X (e :: es) t) (hdb : (x == ("__debug__" : Str)) = false:=by decide) (he : starEach (e :: es) X.env = (false,eval e X.env) :: starEach es X.env:=by rfl) (hpl : (backTo pos (starEach es X.env)).any (·.1) = false:=by rfl) :
 PE X (.Call (.Name x p) (e :: es) [] pos) (zoo sp dvs E t):=by
 intro pins s σ H Q I h
 refine wpAny_Call_Name_kw (zif I hg hm ?_ hdb)
 refine PySem.W.callWith_K (h₀:=X.base) I.ok.mod.kin hk (thn (ha pos pins s σ H _ I h) fun us s1 ⟨vs,H1,I1,r,q⟩=>⟨I1.kIn,?_⟩) he hpl
 exact zkL F hr hb hd hx I1 r q
structure Mk (K : PySem.W.Frag) (C f : Addr) : Prop where
 makes : PySem.W.makesIn K C = true
 init : PySem.W.findIn K (.ref C) "__init__" = some (some (.ref f))
 fn : PySem.W.isFn K (.ref f) = true
 kp : PySem.W.keepIn K (.ref C) = true
theorem zmd {pins : List (Addr × Obj)} {σ : St} {H : Hp} {s : Shared} {Q : VK} {us : List Value} {vs : List V} (M : Mk X.K C f) (F : FnOk X.prog X.w X.K X.mg X.base CX k f fd ps sp) (hr : Room (k + 1) X.A) (hb : zhE X.K fd ps ds) (hd : Vals dvs ds)
 (hx : zhi CX X E) (I : Inv X pins σ H s) (r : Vals vs us)
 (h : ∀ x dx,H x = none -> H dx = none -> dx ≠ x -> sp (.ref x :: (vs ++ dvs)) (upd (upd H dx (.own x)) x (.ins C dx [])) (fun v H2=>v = .non /\ Q (.ref x) H2) E) :
 wpAny (model X.prog X.w) X.A (call (.ref C) us) (EP X pins σ Q) X.xe s:=by
 have hq:=h (s.heap.objs.size + 1) s.heap.objs.size (I.hok.fresh (Nat.le_succ _)) (I.hok.fresh (Nat.le_refl _)) (Nat.ne_of_lt (Nat.lt_succ_self _))
 have I2:=Inv.made (C:=C) I
 have r2 : Vals (V.ref (s.heap.objs.size + 1) :: (vs ++ dvs)) (Value.ref (s.heap.objs.size + 1) :: (us ++ ds)):=.cons rfl (r.append hd)
 have hl : (Value.ref (s.heap.objs.size + 1) :: us ++ ds).length = ps.length:=by
  have e:=r2.length
  rw [F.len _ _ _ _ hq] at e
  exact e.symm
 refine wpAny_call (zlO (f:=f) I.kIn M.makes M.init (beq_iff_eq.mp M.fn) (codeAny_mono (F.run _ X.stack _ _ ⟨Value.ref (s.heap.objs.size + 1) :: us,[]⟩ (Value.ref (s.heap.objs.size + 1) :: (us ++ ds)) _ _ E (hr.make C us [])
  (I2.env0.make C us []) (hb _ (Value.ref (s.heap.objs.size + 1) :: us) I2.kIn hl) r2 hq) fun r s' hq'=>?_))
 cases r with
 | error e=>exact hx pins σ _ _ e s' I2 hq'
 | ok fl =>
   cases fl with
   | ret u =>
     obtain ⟨v,H',I3,rv,ev,q3⟩:=I2.after hq'
     subst ev
     exact ⟨rv,⟨V.ref (s.heap.objs.size + 1),H',I3,rfl,q3⟩⟩
   | next=>exact False.elim hq'
   | brk=>exact False.elim hq'
   | cont=>exact False.elim hq'
theorem zmX (M : Mk X.K C f) (F : FnOk X.prog X.w X.K X.mg X.base CX k f fd ps sp) (hr : Room (k + 1) X.A) (hg : Gl X x) (hm : X.mg x = some (.ref C)) (hb : zhE X.K fd ps ds) (hd : Vals dvs ds) (hx : zhi CX X E)
 (ha : PA X (e :: es) t) (hdb : (x == ("__debug__" : Str)) = false:=by decide) (he : starEach (e :: es) X.env = (false,eval e X.env) :: starEach es X.env:=by rfl) (hpl : (backTo pos (starEach es X.env)).any (·.1) = false:=by rfl) :
 PE X (.Call (.Name x p) (e :: es) [] pos) (zoQ C sp dvs E t):=by
 intro pins s σ H Q I h
 refine wpAny_Call_Name_kw (zif I hg hm ?_ hdb)
 refine PySem.W.callWith_K (h₀:=X.base) I.ok.mod.kin M.kp (thn (ha pos pins s σ H _ I h) fun us s1 ⟨vs,H1,I1,r,q⟩=>⟨I1.kIn,?_⟩) he hpl
 exact zmd M F hr hb hd hx I1 r q
end
section
variable {X : Cx} {CX : CXT} {k : Nat} {f C : Addr} {fd : FuncData} {ps ks : List Str} {sp : Sp} {E : XK} {x m : Str} {p pos apos kpos : Pos} {e o : Expr} {es : List Expr} {kws : List Keyword} {te ta : TE} {t tk : TA} {nm : Option Str}
variable {g : List Value -> List Value -> List Value} {gV : List V -> List V -> List V}
end
structure FnScope (N P : List Str) (sc : Scope) : Prop where
 kind : sc.kind = .function
 co : sc.isCoroutine = false
 gen : sc.isGenerator = false
 nd : N.Nodup
 pre : N.take P.length = P
 par : ∀ x ∈ P,sc.names.lookup x = some .local \/ sc.names.lookup x = some .cell
 nofree : ∀ y ∈ sc.names,y.2 ≠ .free
theorem zhP {kindOf : Str -> Option NameKind} {x : Str} : ∀ {binds : List (Str × Value)} {m : Str -> Option Value},(∀ v,(x,v) ∉ binds) -> bindL kindOf binds m x = m x
 | [],_,_=>rfl
 | (n,v) :: r,m,h=>by
   unfold bindL
   rw [zhP fun w hw=>h w (List.mem_cons_of_mem _ hw)]
   split
   ·have : x ≠ n:=by rintro rfl; exact h v List.mem_cons_self
    simp [this]
   ·rfl
theorem zhw {kindOf : Str -> Option NameKind} {x : Str} : ∀ {binds : List (Str × Value)} {m : Str -> Option Value},(∀ v,(x,v) ∉ binds) -> bindC kindOf binds m x = m x
 | [],_,_=>rfl
 | (n,v) :: r,m,h=>by
   unfold bindC
   rw [zhw fun w hw=>h w (List.mem_cons_of_mem _ hw)]
   split
   ·rfl
   ·have : x ≠ n:=by rintro rfl; exact h v List.mem_cons_self
    simp [this]
theorem zgU {kindOf : Str -> Option NameKind} {x : Str} {v : Value} : ∀ {P : List Str} {vs : List Value} {i : Nat} {m : Str -> Option Value},P.Nodup -> P[i]? = some x -> vs[i]? = some v -> kindOf x = some .local ->
 bindL kindOf (P.zip vs) m x = some v
 | [],_,_,_,_,h,_,_=>by simp at h
 | _ :: _,[],_,_,_,_,h,_=>by simp at h
 | p :: P,w :: vs,0,m,nd,h1,h2,hk=>by
   simp at h1 h2; subst h1; subst h2
   show bindL kindOf ((p,w) :: P.zip vs) m p = _
   unfold bindL
   rw [zhP fun v hv=>(List.nodup_cons.mp nd).1 (List.of_mem_zip hv).1,if_pos hk]
   simp
 | p :: P,w :: vs,i + 1,m,nd,h1,h2,hk=>by
   show bindL kindOf ((p,w) :: P.zip vs) m x = _
   unfold bindL
   exact zgU (i:=i) (List.nodup_cons.mp nd).2 (by simpa using h1) (by simpa using h2) hk
theorem zhA {kindOf : Str -> Option NameKind} {x : Str} {v : Value} : ∀ {P : List Str} {vs : List Value} {i : Nat} {m : Str -> Option Value},P.Nodup -> P[i]? = some x -> vs[i]? = some v -> kindOf x ≠ some .local ->
 bindC kindOf (P.zip vs) m x = some v
 | [],_,_,_,_,h,_,_=>by simp at h
 | _ :: _,[],_,_,_,_,h,_=>by simp at h
 | p :: P,w :: vs,0,m,nd,h1,h2,hk=>by
   simp at h1 h2; subst h1; subst h2
   show bindC kindOf ((p,w) :: P.zip vs) m p = _
   unfold bindC
   rw [zhw fun v hv=>(List.nodup_cons.mp nd).1 (List.of_mem_zip hv).1,if_neg hk]
   simp
 | p :: P,w :: vs,i + 1,m,nd,h1,h2,hk=>by
   show bindC kindOf ((p,w) :: P.zip vs) m x = _
   unfold bindC
   exact zhA (i:=i) (List.nodup_cons.mp nd).2 (by simpa using h1) (by simpa using h2) hk
def start (N : List Str) (vs : List V) : St:=vs.map some ++ List.replicate (N.length - vs.length) none
def cxOf (CX : CXT) (P : Program) (w : World) (K : PySem.W.Frag) (mg : Str -> Option Value) (base : Heap) (N : List Str) (qual : Str) (scope : Scope) (f : Addr) (cd : Value) (A : Around) (outer : List Env) (s : Shared) (H : Hp) (E : XK) : Cx where
 prog:=P
 w:=w
 K:=K
 mg:=mg
 base:=base
 A:=A.deeper (envOfC qual scope s.heap.objs.size f cd)
 N:=N
 s₀:=s
 H₀:=H
 env:=envOfC qual scope s.heap.objs.size f cd
 outer:=outer
 stack:=envOfC qual scope s.heap.objs.size f cd :: outer
 ex:=[]
 calm:=true
 fn:=fun _=>true
 pn:=[]
 xe:=fun e s'=>wpAny (model P w) (A.deeper (envOfC qual scope s.heap.objs.size f cd)) (leaving (envOfC qual scope s.heap.objs.size f cd) e) (fun _ s''=>CX outer H s E e s'') (fun e' s''=>CX outer H s E e' s'') s'
theorem zeD {sc : Scope} {n : Nat} {x : Str} (h : sc.names.lookup x = some .cell) : ∃ c,(cellsFrom n sc.names []).lookup x = some c:=by
 have q:=PySem.W.cellsFrom_some sc.names n [] (.inl h)
 exact Option.isSome_iff_exists.mp q
theorem zkA {CX : CXT} {P : Program} {w : World} {K : PySem.W.Frag} {mg : Str -> Option Value} {base : Heap} {N ps : List Str} {qual : Str} {scope : Scope} {f : Addr} {cd : Value} {A : Around} {outer : List Env} {s s1 : Shared} {H : Hp} {E : XK} {us : List Value} {vs : List V}
 (S : FnScope N ps scope) (hd : A.handled = none) (e0 : Env0 P w K mg base A outer s H) (hl : vs.length = ps.length) (r : Vals vs us)
 (x : InCallC s s.heap.objs.size (bindL (envOfC qual scope s.heap.objs.size f cd).kindOf (ps.zip us) fun _=>none) (cellsFrom (s.heap.objs.size + 1) scope.names []) (bindC (envOfC qual scope s.heap.objs.size f cd).kindOf (ps.zip us) fun _=>none) s1) :
 Inv (cxOf CX P w K mg base N qual scope f cd A outer s H E) [] (start N vs) H s1:=by
 have hpl : ps.length <= N.length:=by have:=congrArg List.length S.pre; rw [List.length_take] at this; omega
 obtain ⟨h1,tk,rfl,hk⟩:=x.done
 have noA : ∀ b : Addr,b ∉ (cxOf CX P w K mg base N qual scope f cd A outer s H E).ex:=fun b z=>absurd (show b ∈ ([] : List Addr) from z) (by simp)
 refine ⟨⟨e0.mod,S.kind,rfl,rfl,Nat.le_refl _,fun y z c h1 h2=>?_,fun y hy=>?_,fun y c _ h=>?_,fun _=>hd,Around.frames_deeper e0.frames,.inr ⟨rfl,rfl⟩,fun b z=>absurd z (noA b),e0.bs,e0.bsz,fun b _ _=>noA b,fun b z=>absurd z (noA b),e0.funs,e0.frf⟩,
  rfl,e0.bare,Un.kept hk,⟨_,x.toInCall.ns,fun i y v h1 h2 h3=>?_⟩,fun y c h=>⟨_,x.cell y c h⟩,e0.hok.fresh (Nat.le_refl _),fun y c h=>?_,fun p hp=>absurd (show p ∈ ([] : List (Addr × Obj)) from hp) (by simp),e0.hok.kept hk,?_⟩
 ·exact name_of_addr x.apart (PySem.mem_of_lookup h1) (PySem.mem_of_lookup h2)
 ·have hy : scope.names.lookup y = some .cell \/ scope.names.lookup y = some .free:=hy
  rcases hy with hy | hy
  ·exact zeD hy
  ·exact absurd rfl (S.nofree _ (PySem.mem_of_lookup hy))
 ·exact Nat.le_of_lt (x.above y c (PySem.mem_of_lookup h))
 ·have hi : i < vs.length:=by
   unfold start at h2
   by_cases hi : i < vs.length
   ·exact hi
   ·rw [List.getElem?_append_right (by simpa using hi)] at h2
    rw [List.getElem?_replicate] at h2
    split at h2 <;> cases h2
  have ha : vs[i]? = some v:=by
   unfold start at h2
   rw [List.getElem?_append_left (by simpa using hi),List.getElem?_map] at h2
   cases e : vs[i]? with
   | none=>rw [e] at h2; cases h2
   | some a=>rw [e] at h2; cases h2; rfl
  obtain ⟨u,hu,rv⟩:=r.get ha
  have hp : ps[i]? = some y:=by
   rw [<- S.pre,List.getElem?_take_of_lt (by omega)]; exact h1
  have ndP : ps.Nodup:=by rw [<- S.pre]; exact S.nd.sublist (List.take_sublist _ _)
  refine ⟨u,rv,?_⟩
  rcases S.par y (List.mem_of_getElem? hp) with k | k
  ·exact .inl ⟨k,zgU ndP hp hu k⟩
  ·obtain ⟨c,e⟩:=zeD (n:=s.heap.objs.size + 1) k
   refine .inr ⟨.inl k,c,e,?_⟩
   have q:=x.cell y c e
   rw [zhA ndP hp hu (by show scope.names.lookup y ≠ _; rw [k]; decide)] at q
   exact q
 ·exact e0.hok.fresh (Nat.le_of_lt (x.above y c (PySem.mem_of_lookup h)))
 ·unfold start
  show _ = N.length
  rw [List.length_append,List.length_map,List.length_replicate]
  omega
theorem zpr {CX : CXT} {P : Program} {w : World} {K : PySem.W.Frag} {mg : Str -> Option Value} {base : Heap} {k : Nat} {f : Addr} {name qual : Str} {params : Arguments} {body : List Stmt} {scope : Scope} {dV kV doc pm cdv ct oc : Value} {an od : Option Addr}
 {osl : Array (Option Value)} {N ps : List Str} {sp : Sp} (lk : K.lookup f = some ⟨oc,od,.func (PySem.W.fnOf name qual params body scope dV kV doc pm an cdv ct),osl⟩) (hcd : PySem.W.codeIn K cdv qual = true) (S : FnScope N ps scope)
 (len : ∀ vs H Q E,sp vs H Q E -> vs.length = ps.length)
 (hbody : ∀ (A : Around) (outer : List Env) (s : Shared) (H : Hp) (vs : List V) (Q : VK) (E : XK),Room k (A.deeper (envOfC qual scope s.heap.objs.size f cdv)) -> sp vs H Q E ->
   ∃ t,PSs (cxOf CX P w K mg base N qual scope f cdv A outer s H E) body t /\ t { nx:=fun _ H'=>Q .non H',rt:=Q } (start N vs) H) :
 FnOk P w K mg base CX (k + 1) f (PySem.W.fnOf name qual params body scope dV kV doc pm an cdv ct) ps sp:=by
 refine ⟨len,fun A outer s H args us vs Q E hr e0 hb r hsp=>?_⟩
 have hl:=len _ _ _ _ hsp
 have KX : K.In s.heap:=e0.mod.kin.keeps fun b o e=>(e0.bs b o e).1
 have lim : s.heap.NoLimit:=e0.mod.nolimit.keeps fun b o e=>(e0.bs b o e).1
 have hkind : ∀ y ∈ ps.zip us,scope.names.lookup y.1 = some .local \/ (scope.names.lookup y.1 = some .cell /\ ((cellsFrom (s.heap.objs.size + 1) scope.names []).lookup y.1).isSome = true):=fun ⟨n,v⟩ hy=>by
  rcases S.par n (List.of_mem_zip hy).1 with q | q
  ·exact .inl q
  ·exact .inr ⟨q,PySem.W.cellsFrom_some _ _ _ (.inl q)⟩
 refine codeAny_call_function hr.depth (KX _ _ lk) rfl S.co S.gen rfl (PySem.W.codeRec_of KX hcd) (hb _ _ _ _ ?_)
 refine wpAny_newFunctionEnv_cells S.kind hkind fun env he s1 x=>?_
 subst he
 refine ⟨lim.keeps x.toInCall.keep,codeAny_func ?_⟩
 obtain ⟨t,ht,hq⟩:=hbody A outer s H vs Q E (hr.deeper _) hsp
 have I : Inv (cxOf CX P w K mg base N qual scope f cdv A outer s H E) [] (start N vs) H s1:=zkA S hr.hd e0 hl r x
 refine wpAny_mono (ht [] s1 (start N vs) H _ I hq) (fun fl s' hs=>?_) fun e s' hs=>hs
 have fin : ∀ {σ' : St} {H' : Hp} {v : V} {u : Value},Inv (cxOf CX P w K mg base N qual scope f cdv A outer s H E) [] σ' H' s' -> RelV v u -> Q v H' -> CE outer P w H s Q u s' :=
  fun {σ' H' v u} J rv q=>⟨v,H',J.os,J.bare,J.base,J.hok,rv,q⟩
 cases fl with
 | ret u =>
   obtain ⟨v,σ',H',J,rv,q⟩:=hs
   exact fin J rv q
 | next =>
   obtain ⟨σ',H',J,q⟩:=hs
   exact fin (v:=V.non) (u:=Value.none) J rfl q
 | brk =>
   obtain ⟨_,_,_,q⟩:=hs
   exact False.elim q
 | cont =>
   obtain ⟨_,_,_,q⟩:=hs
   exact False.elim q
end L2
namespace L2
open PySem PySem.Spec PyProof.Rows
section
variable {X : Cx} {x : Str} {p pos : Pos} {e : Expr} {es : List Expr} {t : TA} {id T : String} {r : List V -> Hp -> VK -> Prop}
def tCB (r : List V -> Hp -> VK -> Prop) (t : TA) : TE:=fun σ H Q=>t σ H fun vs H1=>r vs H1 Q
theorem zbh (hc : zeX X (.builtin id) r) (hg : Gl X x) (hm : X.mg x = none) (hv : bootBuiltins x = some (.builtin id)) (ha : PA X (e :: es) t) (hn : x ≠ "__name__":=by decide) (hdb : (x == ("__debug__" : Str)) = false:=by decide)
 (he : starEach (e :: es) X.env = (false,eval e X.env) :: starEach es X.env:=by rfl) (hpl : (backTo pos (starEach es X.env)).any (·.1) = false:=by rfl) : PE X (.Call (.Name x p) (e :: es) [] pos) (tCB r t):=by
 intro pins s σ H Q I h
 refine wpAny_Call_Name_kw (zhD I hg hm hv ?_ hn hdb)
 exact PyProof.Rows.callWith_builtin1 (thn (ha pos pins s σ H _ I h) fun us s1 ⟨vs,H1,I1,r1,q1⟩=>hc pins s1 σ H1 vs us Q I1 r1 q1) he hpl
theorem zbR (hc : zeX X (.type T) r) (hg : Gl X x) (hm : X.mg x = none) (hv : bootBuiltins x = some (.type T)) (ha : PA X (e :: es) t) (hn : x ≠ "__name__":=by decide) (hdb : (x == ("__debug__" : Str)) = false:=by decide)
 (he : starEach (e :: es) X.env = (false,eval e X.env) :: starEach es X.env:=by rfl) (hpl : (backTo pos (starEach es X.env)).any (·.1) = false:=by rfl) : PE X (.Call (.Name x p) (e :: es) [] pos) (tCB r t):=by
 intro pins s σ H Q I h
 refine wpAny_Call_Name_kw (zhD I hg hm hv ?_ hn hdb)
 exact PyProof.Rows.callWith_type1 (thn (ha pos pins s σ H _ I h) fun us s1 ⟨vs,H1,I1,r1,q1⟩=>hc pins s1 σ H1 vs us Q I1 r1 q1) he hpl
end
end L2
namespace HT
open PySem PyProof.Rows
def zbL : List Int -> List Int -> Bool
 | [],[]=>false
 | [],_ :: _=>true
 | _ :: _,[]=>false
 | x :: xs,y :: ys=>if x = y then zbL xs ys else decide (x < y)
theorem zcX (x y : Int) (xs ys : List Int) : zbL (x :: xs) (y :: ys) = if x = y then zbL xs ys else decide (x < y):=rfl
theorem zmp (A : Around) (s : Shared) (a : Int) (t : Tok) (c : Int) (u : Tok) (prog : Program) (w : World) (E : Value -> Shared -> Prop) (Q : Value -> Shared -> Prop) (h : Q (.bool (decide (a < c))) s) :
 wpAny (model prog w) A (richCompare .Lt (.int a t) (.int c u)) Q E s :=
 (PyProof.Rows.lt_int h : wpAny (model prog w) A (compareOp .Lt (.int a t) (.int c u)) Q E s)
section
open PySem.SeqAt
open PySem.AutoSeq1 (wpAny_loadPart')
open PySem.MeetsSeq PySem.MeetsSeq2 PySem.MeetsSeq3
end
section
variable {prog : Program} {w : World} {A : Around} {E : Value -> Shared -> Prop} {s : Shared}
def sIx (n d : Nat) : Option Int -> Nat
 | none=>d
 | some v=>if v < 0 then (v + (n : Int)).toNat else min v.toNat n
theorem ziX (n d : Nat) : sIx n d none = d:=rfl
theorem zkx (n d k : Nat) : sIx n d (some (k : Int)) = min k n:=by
 show (if (k : Int) < 0 then ((k : Int) + (n : Int)).toNat else min (k : Int).toNat n) = min k n
 rw [if_neg (by omega),Int.toNat_natCast]
end
end HT
namespace L2
open PySem PySem.Spec PyProof.Rows
abbrev TO:=St -> Hp -> (Option Int -> Hp -> Prop) -> Prop
def PO (X : Cx) (e : Option Expr) (t : TO) : Prop :=
 ∀ (pins : List (Addr × Obj)) (s : Shared) (σ : St) (H : Hp) (Q : Option Int -> Hp -> Prop),Inv X pins σ H s -> t σ H Q ->
  wpAny (model X.prog X.w) X.A (evalPart e X.env) (fun u s'=>∃ o H',Inv X pins σ H' s' /\ IsPart u o /\ Q o H') X.xe s
def znh : TO:=fun _ H Q=>Q none H
def zvm (t : TE) : TO:=fun σ H Q=>t σ H fun x H1=>∃ i,x = .int i /\ Q (some i) H1
theorem zkg {ns : List Int} : ∀ {us : List Value},Vals (ns.map V.int) us -> IntsAre us ns:=by
 induction ns with
 | nil=>intro us r; rw [List.map_nil] at r; cases r; exact .nil
 | cons n ns ih =>
   intro us r
   rw [List.map_cons] at r
   cases r with
   | cons r1 r2 =>
     obtain ⟨t,e⟩:=r1
     subst e
     exact .cons n t (ih r2)
section
variable {X : Cx} {e : Expr} {te : TE} {lo hi : Option Expr} {tl th : TO} {pos p2 : Pos}
theorem zlo : PO X none znh:=by
 intro pins s σ H Q I h
 rw [evalPart_none]
 exact wpAny_pure ⟨none,H,I,.none,h⟩
theorem zgL (h : PE X e te) : PO X (some e) (zvm te):=by
 intro pins s σ H Q I hw
 rw [evalPart_some]
 refine thn (h pins s σ H _ I hw) fun u s1 ⟨x,H1,I1,r1,q1⟩=>?_
 obtain ⟨i,rfl,q⟩:=q1
 obtain ⟨t,rfl⟩:=r1
 exact ⟨some i,H1,I1,.int i t,q⟩
def SlR (X : Cx) (r : V -> Option Int -> Option Int -> Hp -> VK -> Prop) : Prop :=
 ∀ (pins : List (Addr × Obj)) (s : Shared) (σ : St) (H : Hp) (x : V) (v vl vu : Value) (lo hi : Option Int) (sl : Addr) (Q : VK),Inv X pins σ H s -> RelV x v -> s.heap.IsSliceOf sl vl vu .none -> IsPart vl lo -> IsPart vu hi -> r x lo hi H Q ->
  ∃ T id,typeLookup (.type T) "__getitem__" = pure (some (.builtin id)) /\ s.TypeIs v T /\ wpAny (model X.prog X.w) X.A (getItem v (.ref sl)) (EP X pins σ Q) X.xe s
def tSl (r : V -> Option Int -> Option Int -> Hp -> VK -> Prop) (te : TE) (tl th : TO) : TE:=fun σ H Q=>te σ H fun x H1=>tl σ H1 fun l H2=>th σ H2 fun u H3=>r x l u H3 Q
theorem zgI {r : V -> Option Int -> Option Int -> Hp -> VK -> Prop} (hr : SlR X r) (he : PE X e te) (hl : PO X lo tl) (hu : PO X hi th) : PE X (.Subscript e (.Slice lo hi none p2) pos) (tSl r te tl th):=by
 intro pins s σ H Q I h
 refine Subscript_ (thn (he pins s σ H _ I h) fun v s1 ⟨x,H1,I1,r1,q1⟩=>?_)
 refine wpAny_Slice (thn (hl pins s1 σ H1 _ I1 q1) fun vl s2 ⟨l,H2,I2,pl,q2⟩=>thn (hu pins s2 σ H2 _ I2 q2) fun vu s3 ⟨u,H3,I3,pu,q3⟩=>?_)
 rw [evalPart_none]
 refine wpAny_pure ?_
 have I4 : Inv X pins σ H3 { s3 with heap:=s3.heap.push { cls:=.type "slice",data:=.fields #[vl,vu,.none] } }:=I3.kept (t':=s3.toks) fun b ob q=>Heap.get?_push_of_some _ q
 obtain ⟨T,id,hT,ht,hg⟩:=hr pins { s3 with heap:=s3.heap.push { cls:=.type "slice",data:=.fields #[vl,vu,.none] } } σ H3 x v vl vu l u s3.heap.objs.size Q I4 r1 (Heap.IsSliceOf.new ..) pl pu q3
 show wpAny (model X.prog X.w) X.A (subscriptTail e (.Slice lo hi none p2) v (.ref s3.heap.objs.size)) (EP X pins σ Q) X.xe { s3 with heap:=s3.heap.push { cls:=.type "slice",data:=.fields #[vl,vu,.none] } }
 exact tail_any (ops:=[.ref s3.heap.objs.size,v]) ht hT hg (by with_unfolding_all rfl)
def cutV (xs : List V) (lo hi : Option Int) : List V:=(xs.drop (HT.sIx xs.length 0 lo)).take (HT.sIx xs.length xs.length hi - HT.sIx xs.length 0 lo)
theorem ziQ (xs : List V) (lo hi : Option Int) : (cutV xs lo hi).length <= xs.length:=by
 unfold cutV
 rw [List.length_take,List.length_drop]
 omega
end
end L2
namespace L2
open PySem PySem.Spec PyProof.Rows
def ixN (n : Nat) (i : Int) : Option Nat:=if 0 <= i then (if i < n then some i.toNat else none) else if -(n : Int) <= i then some (i + n).toNat else none
def atI {α : Type} (xs : List α) (i : Int) : Option α:=(ixN xs.length i).bind fun j=>xs[j]?
theorem zkW {n : Nat} {i : Int} {j : Nat} (h : ixN n i = some j) : seqIndex? i n = some j /\ j < n /\ -(n : Int) <= i /\ i < n:=by
 unfold ixN at h
 by_cases h0 : 0 <= i
 ·rw [if_pos h0] at h
  by_cases h1 : i < n
  ·rw [if_pos h1] at h
   have e : i.toNat = j:=Option.some.inj h
   exact ⟨by rw [seqIndex_of h0 h1,e],by omega,by omega,h1⟩
  ·rw [if_neg h1] at h; cases h
 ·rw [if_neg h0] at h
  by_cases h1 : -(n : Int) <= i
  ·rw [if_pos h1] at h
   have e : (i + n).toNat = j:=Option.some.inj h
   exact ⟨by rw [seqIndex_neg (by omega) h1,e],by omega,h1,by omega⟩
  ·rw [if_neg h1] at h; cases h
theorem ziL {α : Type} {xs : List α} {i : Int} {v : α} (h : atI xs i = some v) : ∃ j,seqIndex? i xs.length = some j /\ xs[j]? = some v /\ j < xs.length /\ -(xs.length : Int) <= i /\ i < xs.length:=by
 unfold atI at h
 cases e : ixN xs.length i with
 | none=>rw [e] at h; cases h
 | some j =>
   rw [e] at h
   obtain ⟨h1,h2,h3,h4⟩:=zkW e
   exact ⟨j,h1,h,h2,h3,h4⟩
theorem zaL {α : Type} {xs : List α} {j : Nat} {v : α} (h : xs[j]? = some v) : atI xs (j : Int) = some v:=by
 have hj : j < xs.length:=(List.getElem?_eq_some_iff.mp h).1
 have e : ixN xs.length (j : Int) = some j:=by
  unfold ixN
  rw [if_pos (by omega),if_pos (by omega)]; simp
 unfold atI; rw [e]; exact h
def znO (b : Expr) : Prop:=∀ o i,subscripted b false o i = operate [o,i] (getItem o i)
def IxR (X : Cx) (r : R2) : Prop :=
 ∀ (value slice : Expr) (pins : List (Addr × Obj)) (s : Shared) (σ : St) (H : Hp) (x y : V) (v u : Value) (Q : VK),Inv X pins σ H s -> RelV x v -> RelV y u -> r x y H Q ->
  subscripted slice false v u = operate [v,u] (getItem v u) -> wpAny (model X.prog X.w) X.A (subscriptTail value slice v u) (EP X pins σ Q) X.xe s
def MtR (X : Cx) (id : String) (r : V -> List V -> Hp -> VK -> Prop) : Prop :=
 ∀ (pins : List (Addr × Obj)) (s : Shared) (σ : St) (H : Hp) (x : V) (xs : List V) (v : Value) (us : List Value) (Q : VK),Inv X pins σ H s -> RelV x v -> Vals xs us -> r x xs H Q ->
  wpAny (model X.prog X.w) X.A (call (.builtin id) (v :: us)) (EP X pins σ Q) X.xe s
section
variable {X : Cx} {a b : Expr} {ta tb : TE} {pos : Pos}
theorem zaG {r : R2} (hr : IxR X r) (ha : PE X a ta) (hb : PE X b tb) (hs : znO b) : PE X (.Subscript a b pos) (tOp r ta tb):=by
 intro pins s σ H Q I h
 exact Subscript_ (binT ha hb I h fun v u s2 x y H2 I2 rx ry q=>hr a b pins s2 σ H2 x y v u Q I2 rx ry q (hs _ _))
def rIxL (K : PySem.W.Frag) : R2:=fun x y H Q=>∃ p xs i v,x = .ref p /\ y = .int i /\ SqL K H p xs /\ atI xs i = some v /\ Q v H
def rIxT (K : PySem.W.Frag) : R2:=fun x y H Q=>∃ p xs i v,x = .ref p /\ y = .int i /\ SqT K H p xs /\ atI xs i = some v /\ Q v H
def rIxS : R2:=fun x y H Q=>∃ z i c,x = .str z /\ y = .int i /\ z.length <= sizeLine /\ atI z.cps.toList i = some c /\ Q (.str ⟨#[c]⟩) H
theorem zni : IxR X (rIxL X.K):=by
 intro value slice pins s σ H x y v u Q I rx ry h hs
 obtain ⟨p,xs,i,z,rfl,rfl,hq,he,q⟩:=h
 cases rx
 obtain ⟨t,rfl⟩:=ry
 obtain ⟨its,r,pl,hz⟩:=I.list hq
 obtain ⟨j,h1,h2,h3,h4,h5⟩:=ziL he
 obtain ⟨w,ew,rw'⟩:=r.get h2
 have hl:=r.length
 have hn:=zfM
 have fin : EP X pins σ Q w s:=⟨z,H,I,rw',q⟩
 by_cases h0 : 0 <= i
 ·have hj : i.toNat = j:=by
   rw [seqIndex_of h0 h5] at h1
   exact Option.some.inj h1
  exact item_listR pl.isList h0 (by omega) (by rw [hj]; simpa using ew) fin hs
 ·have hj : (i + (its.toArray.size : Int)).toNat = j:=by
   rw [seqIndex_neg (by omega) h4] at h1
   rw [List.size_toArray,<- hl]
   exact Option.some.inj h1
  exact subscriptTail_builtinR (x:=w) pl.isList.typeIs slot_list_getitem.lookup
   (wpAny_getItem_list_neg (Q:=fun r s'=>r = w /\ EP X pins σ Q r s') pl.isList (by omega) (by rw [List.size_toArray] <;> omega) (by omega) (by rw [hj]; simpa using ew) ⟨rfl,fin⟩) hs
theorem zmD : IxR X (rIxT X.K):=by
 intro value slice pins s σ H x y v u Q I rx ry h hs
 obtain ⟨p,xs,i,z,rfl,rfl,hq,he,q⟩:=h
 cases rx
 obtain ⟨t,rfl⟩:=ry
 obtain ⟨its,r,pl,hz⟩:=I.tuple hq
 obtain ⟨j,h1,h2,h3,h4,h5⟩:=ziL he
 obtain ⟨w,ew,rw'⟩:=r.get h2
 have hl:=r.length
 have hn:=zfM
 have fin : EP X pins σ Q w s:=⟨z,H,I,rw',q⟩
 exact subscriptTail_builtinR (x:=w) pl.typeIs slot_tuple_getitem.lookup
  (getItem_tuple (j:=j) (Q:=fun r s'=>r = w /\ EP X pins σ Q r s') pl (by omega) (by omega) (by rw [List.size_toArray,<- hl]; exact h1) (by simpa using ew) ⟨rfl,fin⟩) hs
theorem zdR : IxR X rIxS:=by
 intro value slice pins s σ H x y v u Q I rx ry h hs
 obtain ⟨z,i,c,rfl,rfl,hz,he,q⟩:=h
 obtain ⟨t,rfl⟩:=rx
 obtain ⟨t',rfl⟩:=ry
 obtain ⟨j,h1,h2,h3,h4,h5⟩:=ziL he
 have hl : z.cps.toList.length = z.length:=by simp [Str.length]
 rw [hl] at h1 h4 h5
 have hn:=zfM
 exact tail_any (typeIs_str s z t) slot_str_getitem.lookup (getItem_str (c:=c) (by
  have e1 : decide (i < -(2 ^ 63 : Int)) = false:=decide_eq_false (by omega)
  have e2 : decide (i ≥ 2 ^ 63) = false:=decide_eq_false (by omega)
  rw [e1,e2,Bool.or_false]) (by rw [h1]; simpa using h2) ⟨.str ⟨#[c]⟩,H,I.tok _,⟨_,rfl⟩,q⟩) hs
theorem zjQ (its : List Value) (n j : Nat) (u : Value) : Obj.mapSeq (·.setIfInBounds j u) { cls:=.type "list",data:=.seq its.toArray n } = { cls:=.type "list",data:=.seq (its.set j u).toArray n }:=by
 simp [Obj.mapSeq]
theorem Inv.lst {pins : List (Addr × Obj)} {σ : St} {H : Hp} {s : Shared} {p : Addr} {xs : List V} (I : Inv X pins σ H s) (h : H p = some (.lst xs)) :
 ∃ (its : List Value) (n : Nat),Vals xs its /\ s.heap.get? p = some { cls:=.type "list",data:=.seq its.toArray n } /\ xs.length <= sizeLine:=by
 obtain ⟨z,its,n,r,e⟩:=I.hok p _ h
 exact ⟨its,n,r,e,z⟩
theorem Inv.lstUpd {pins : List (Addr × Obj)} {σ : St} {H : Hp} {s : Shared} {p : Addr} {xs ys : List V} {its its' : List Value} {n n' : Nat} {f : Obj -> Obj} (I : Inv X pins σ H s) (h : H p = some (.lst xs))
 (ho : s.heap.get? p = some { cls:=.type "list",data:=.seq its.toArray n }) (hf : f { cls:=.type "list",data:=.seq its.toArray n } = { cls:=.type "list",data:=.seq its'.toArray n' }) (r : Vals ys its') (hz : ys.length <= sizeLine) (t : Nat) :
 Inv X pins σ (upd H p (.lst ys)) { s with heap:=s.heap.update p f,toks:=t }:=by
 have e : (s.heap.update p f).get? p = some { cls:=.type "list",data:=.seq its'.toArray n' }:=by
  rw [Heap.get?_update_self f ho (by rw [hf] <;> rfl),hf]
 refine I.write (x:=p) (e:=p) (by rw [h]; trivial) (.inl rfl) (fun b u hb q=>(Heap.get?_update_other _ _ (Ne.symm hb)).trans q) ⟨_,e⟩ ?_
 exact ⟨hz,its',n',r,e⟩
def zuE : V -> V -> V -> Hp -> (Hp -> Prop) -> Prop:=fun o i v H Q=>∃ p xs k j,o = .ref p /\ i = .int k /\ H p = some (.lst xs) /\ ixN xs.length k = some j /\ Q (upd H p (.lst (xs.set j v)))
theorem zeE : PSet X zuE:=by
 intro pins s σ H o i v ov iv u Q I ro ri rv h
 obtain ⟨p,xs,k,j,rfl,rfl,hp,hj,q⟩:=h
 cases ro
 obtain ⟨t,rfl⟩:=ri
 obtain ⟨its,n,r,ho,hz⟩:=I.lst hp
 obtain ⟨h1,h2,h3,h4⟩:=zkW hj
 have hl:=r.length
 have hn:=zfM
 have I' : Inv X pins σ (upd H p (.lst (xs.set j v))) { s with heap:=s.heap.update p (Obj.mapSeq (·.setIfInBounds j u)) } :=
  I.lstUpd hp ho (zjQ its n j u) (r.set rv j) (by rw [List.length_set]; exact hz) s.toks
 by_cases h0 : 0 <= k
 ·have hk : k.toNat = j:=by
   rw [seqIndex_of h0 h4] at h1
   exact Option.some.inj h1
  exact PySem.W.ki_setAt ho h0 (by omega) (by rw [List.size_toArray,<- hl]; exact h4) (by rw [hk]; exact ⟨_,I',q⟩)
 ·have hk : (k + (its.toArray.size : Int)).toNat = j:=by
   rw [seqIndex_neg (by omega) h3] at h1
   rw [List.size_toArray,<- hl]
   exact Option.some.inj h1
  exact PySem.W.ki_setBack ho (by omega) (by rw [List.size_toArray,<- hl]; exact h3) (by omega) (by rw [hk]; exact ⟨_,I',q⟩)
theorem zhl (lo hi : Option Int) (n : Nat) : (sliceBounds lo hi none n).1 = ((HT.sIx n 0 lo : Nat) : Int) /\ (sliceBounds lo hi none n).2.1 = ((HT.sIx n n hi : Nat) : Int) /\ (sliceBounds lo hi none n).2.2 = 1:=by
 refine ⟨?_,?_,rfl⟩
 ·cases lo with
  | none=>simp [sliceBounds,HT.sIx]
  | some i =>
    simp only [sliceBounds,HT.sIx,Option.getD_none,show (1 : Int) > 0 by decide,if_true]
    by_cases h : i < 0
    ·simp only [h,if_true] <;> omega
    ·simp only [h,if_false] <;> omega
 ·cases hi with
  | none=>simp [sliceBounds,HT.sIx]
  | some i =>
    simp only [sliceBounds,HT.sIx,Option.getD_none,show (1 : Int) > 0 by decide,if_true]
    by_cases h : i < 0
    ·simp only [h,if_true] <;> omega
    ·simp only [h,if_false] <;> omega
theorem zgO (its : List Value) (lo hi : Option Int) : slicePick its.toArray lo hi none = ((its.drop (HT.sIx its.length 0 lo)).take (HT.sIx its.length its.length hi - HT.sIx its.length 0 lo)).toArray:=by
 obtain ⟨h1,h2,h3⟩:=zhl lo hi its.toArray.size
 unfold slicePick
 rw [h1,h2,h3]
 simp only [sliceRange_one,pick_run,List.size_toArray] <;> rfl
def rSlL (K : PySem.W.Frag) : V -> Option Int -> Option Int -> Hp -> VK -> Prop:=fun x lo hi H Q=>∃ a xs,x = .ref a /\ SqL K H a xs /\ ∀ p,H p = none -> Q (.ref p) (upd H p (.lst (cutV xs lo hi)))
theorem znP : SlR X (rSlL X.K):=by
 intro pins s σ H x v vl vu lo hi sl Q I rx hs pl pu h
 obtain ⟨a,xs,rfl,hx,q⟩:=h
 cases rx
 obtain ⟨its,r,ht,hz⟩:=I.list hx
 have hlen:=r.length
 refine ⟨"list",_,slot_list_getitem.lookup,ht.isList.typeIs,?_⟩
 refine wpAny_getItem_list_slice ht.isList hs pl pu .none (by simp) ?_ (by rw [List.size_toArray] <;> omega)
 rw [zgO,<- hlen]
 refine ⟨.ref s.heap.objs.size,_,I.laid (t':=s.toks) (o:=.lst (cutV xs lo hi)) (fun b ob q=>Heap.get?_push_of_some _ q) (Nat.le_refl _) ?_,rfl,q _ (I.hok.fresh (Nat.le_refl _))⟩
 exact ⟨Nat.le_trans (ziQ xs lo hi) hz,_,0,(r.drop (HT.sIx xs.length 0 lo)).take (HT.sIx xs.length xs.length hi - HT.sIx xs.length 0 lo),Heap.get?_push_size _ rfl⟩
def zgK : V -> Bool
 | .non=>true
 | .bl _=>true
 | .int _=>true
 | .str _=>true
 | _=>false
def eqV : V -> V -> Bool
 | .non,.non=>true
 | .bl a,.bl b=>a == b
 | .bl a,.int b=>(if a then 1 else 0) == b
 | .int a,.bl b=>a == (if b then 1 else 0)
 | .int a,.int b=>a == b
 | .str a,.str b=>a == b
 | _,_=>false
theorem zpu {A : Around} {s : Shared} {y x : V} {u v : Value} (ry : RelV y u) (rx : RelV x v) (fy : zgK y = true) (fx : zgK x = true) : SeqAt.EqAt A s u v (eqV y x):=by
 cases y with
 | non =>
   cases ry
   cases x with
   | non=>cases rx; exact SeqAt.EqAt.same _
   | bl b=>cases rx; exact SeqAt.EqAt.none_bool b
   | int b=>obtain ⟨t,rfl⟩:=rx; exact SeqAt.EqAt.none_int b t
   | str b=>obtain ⟨t,rfl⟩:=rx; exact SeqAt.EqAt.none_str b t
   | _=>exact absurd (show false = true from fx) Bool.false_ne_true
 | bl a =>
   cases ry
   cases x with
   | non=>cases rx; exact SeqAt.EqAt.bool_none a
   | bl b=>cases rx; exact SeqAt.EqAt.bool_bool a b
   | int b=>obtain ⟨t,rfl⟩:=rx; exact SeqAt.EqAt.bool_int a b t
   | str b=>obtain ⟨t,rfl⟩:=rx; exact SeqAt.EqAt.bool_str a b t
   | _=>exact absurd (show false = true from fx) Bool.false_ne_true
 | int a =>
   obtain ⟨t',rfl⟩:=ry
   cases x with
   | non=>cases rx; exact SeqAt.EqAt.int_none a t'
   | bl b=>cases rx; exact SeqAt.EqAt.int_bool a t' b
   | int b=>obtain ⟨t,rfl⟩:=rx; exact SeqAt.EqAt.int_int a t' b t
   | str b=>obtain ⟨t,rfl⟩:=rx; exact SeqAt.EqAt.int_str a t' b t
   | _=>exact absurd (show false = true from fx) Bool.false_ne_true
 | str a =>
   obtain ⟨t',rfl⟩:=ry
   cases x with
   | non=>cases rx; exact SeqAt.EqAt.str_none a t'
   | bl b=>cases rx; exact SeqAt.EqAt.str_bool a t' b
   | int b=>obtain ⟨t,rfl⟩:=rx; exact SeqAt.EqAt.str_int a t' b t
   | str b=>obtain ⟨t,rfl⟩:=rx; exact SeqAt.EqAt.str_str a t' b t
   | _=>exact absurd (show false = true from fx) Bool.false_ne_true
 | _=>exact absurd (show false = true from fy) Bool.false_ne_true
def eqU (x : V) (u : Value) : Bool:=match u with
 | .none=>eqV .non x
 | .bool b=>eqV (.bl b) x
 | .int i _=>eqV (.int i) x
 | .str z _=>eqV (.str z) x
 | _=>false
theorem zmz {x y : V} {u : Value} (r : RelV y u) (f : zgK y = true) : eqU x u = eqV y x:=by
 cases y with
 | non=>cases r; rfl
 | bl b=>cases r; rfl
 | int i=>obtain ⟨t,rfl⟩:=r; rfl
 | str z=>obtain ⟨t,rfl⟩:=r; rfl
 | _=>exact absurd (show false = true from f) Bool.false_ne_true
theorem zhY {x : V} : ∀ {xs : List V} {us : List Value},Vals xs us -> xs.all zgK = true -> us.any (eqU x) = xs.any fun y=>eqV y x
 | _,_,.nil,_=>rfl
 | y :: xs,u :: us,.cons r t,f=>by
   rw [List.all_cons,Bool.and_eq_true] at f
   rw [List.any_cons,List.any_cons,zmz r f.1,zhY t f.2]
theorem zfY {A : Around} {s : Shared} {x : V} {v : Value} (rx : RelV x v) (fx : zgK x = true) : ∀ {xs : List V} {us : List Value},Vals xs us -> xs.all zgK = true -> ∀ u ∈ us,SeqAt.EqAt A s u v (eqU x u)
 | _,_,.nil,_=>fun u hu=>by cases hu
 | y :: xs,u :: us,.cons r t,f=>fun u' hu=>by
   rw [List.all_cons,Bool.and_eq_true] at f
   rcases List.mem_cons.mp hu with rfl | hu
   ·rw [zmz r f.1]; exact zpu r rx f.1 fx
   ·exact zfY rx fx t f.2 u' hu
def inV (x : V) (xs : List V) : Bool:=xs.any fun y=>eqV y x
def rIn (K : PySem.W.Frag) (neg : Bool) : R2:=fun x y H Q=>∃ p xs,y = .ref p /\ (SqL K H p xs \/ SqT K H p xs) /\ zgK x = true /\ xs.all zgK = true /\ Q (.bl (if neg then !inV x xs else inV x xs)) H
theorem zkl : OpR X (compareOp .In) (rIn X.K false):=by
 intro pins s σ H x y v u Q I rx ry h
 obtain ⟨p,xs,rfl,hq,fx,fs,q⟩:=h
 cases ry
 rcases hq with hq | hq
 ·obtain ⟨its,r,pl,hz⟩:=I.list hq
  refine SeqAt.in_listAt (eqU x) pl.isList (fun w hw=>zfY rx fx r fs w (by simpa using hw)) ⟨.bl _,H,I,rfl,?_⟩
  rw [show its.toArray.any (eqU x) = its.any (eqU x) by simp,zhY r fs]
  exact q
 ·obtain ⟨its,r,pl,hz⟩:=I.tuple hq
  refine SeqAt.in_tupleAt (eqU x) pl (fun w hw=>zfY rx fx r fs w (by simpa using hw)) ⟨.bl _,H,I,rfl,?_⟩
  rw [show its.toArray.any (eqU x) = its.any (eqU x) by simp,zhY r fs]
  exact q
theorem zhO : OpR X (compareOp .NotIn) (fun x y H Q=>∃ i j,x = .str i /\ y = .str j /\ Q (.bl (!(!(Builtin.Str.occurrences j i 0 j.length 1).isEmpty))) H):=by
 intro pins s σ H x y v u Q I rx ry h
 obtain ⟨i,j,rfl,rfl,q⟩:=h
 obtain ⟨t,rfl⟩:=rx
 obtain ⟨t',rfl⟩:=ry
 exact notIn_str ⟨.bl _,H,I,rfl,q⟩
theorem zhH : zeX X (.builtin "len") (fun xs H Q=>∃ p ys,xs = [.ref p] /\ (SqL X.K H p ys \/ SqT X.K H p ys) /\ Q (.int ys.length) H):=by
 intro pins s σ H xs us Q I r h
 obtain ⟨p,ys,rfl,hq,q⟩:=h
 obtain ⟨u,rfl,rx⟩:=zkh r
 cases rx
 have hn:=zfM
 rcases hq with hq | hq
 ·obtain ⟨its,r',pl,hz⟩:=I.list hq
  have hlen:=r'.length
  exact Calls.call_len_list pl.isList (by simp only [List.size_toArray] <;> omega) ⟨.int ys.length,H,I.tok _,⟨s.toks + 1,by rw [List.size_toArray,hlen]⟩,q⟩
 ·obtain ⟨its,r',pl,hz⟩:=I.tuple hq
  have hlen:=r'.length
  exact len_tuple pl (by simp only [List.size_toArray] <;> omega) ⟨.int ys.length,H,I.tok _,⟨s.toks + 1,by rw [List.size_toArray,hlen]⟩,q⟩
theorem zbO : zeX X (.builtin "len") (fun xs H Q=>∃ z,xs = [.str z] /\ z.length <= sizeLine /\ Q (.int z.length) H):=by
 intro pins s σ H xs us Q I r h
 obtain ⟨z,rfl,hz,q⟩:=h
 obtain ⟨u,rfl,t,rfl⟩:=zkh r
 have hn:=zfM
 exact len_str (by omega) ⟨.int z.length,H,I.tok _,⟨_,rfl⟩,q⟩
theorem zho : zeX X (.type "list") (fun xs H Q=>∃ p ys,xs = [.ref p] /\ (SqL X.K H p ys \/ SqT X.K H p ys) /\ ∀ l,H l = none -> Q (.ref l) (upd H l (.lst ys))):=by
 intro pins s σ H xs us Q I r h
 obtain ⟨p,ys,rfl,hq,q⟩:=h
 obtain ⟨u,rfl,rx⟩:=zkh r
 cases rx
 have fin : ∀ (its : List Value),Vals ys its -> ys.length <= sizeLine -> ∀ (h' : Heap) (c' : Nat),(∀ b o',s.heap.get? b = some o' -> h'.get? b = some o') ->
  h'.get? s.heap.objs.size = some { cls:=.type "list",dict:=none,data:=.seq its.toArray c',slots:=#[] } -> EP X pins σ Q (.ref s.heap.objs.size) { s with heap:=h' }:=fun its r' hz h' c' kp e =>
  ⟨.ref s.heap.objs.size,_,I.laid (t':=s.toks) kp (Nat.le_refl _) (show zbV X.prog X.w _ h' _ (.lst ys) from ⟨hz,its,c',r',e⟩),rfl,q _ (I.hok.fresh (Nat.le_refl _))⟩
 rcases hq with hq | hq
 ·obtain ⟨its,r',pl,hz⟩:=I.list hq
  have hlen:=r'.length
  obtain ⟨o,ho,hc,n,hd⟩:=pl.isList
  exact call_list_seq p (.inl rfl) ho hc hd (fun h' c' kp e=>fin its r' hz h' c' kp e) (by simp only [List.size_toArray] <;> omega)
 ·obtain ⟨its,r',pl,hz⟩:=I.tuple hq
  have hlen:=r'.length
  obtain ⟨o,ho,hc,n,hd⟩:=pl
  exact call_list_seq p (.inr rfl) ho hc hd (fun h' c' kp e=>fin its r' hz h' c' kp e) (by simp only [List.size_toArray] <;> omega)
def tyV (K : PySem.W.Frag) (T : String) (x : V) (H : Hp) : Prop:=match x with
 | .str _=>T = "str"
 | .int _=>T = "int"
 | .ref p=>(T = "list" /\ ∃ xs,SqL K H p xs) \/ (T = "tuple" /\ ∃ o,K.lookup p = some o /\ o.cls = .type "tuple" /\ o.dict = none) \/
    (T = "dict" /\ ((∃ kvs,H p = some (.dK kvs)) \/ ∃ kvs,H p = some (.dT kvs))) \/ (T = "set" /\ ∃ S n,H p = some (.set S n))
 | _=>False
theorem zmC {pins : List (Addr × Obj)} {σ : St} {H : Hp} {s : Shared} {T : String} {x : V} {v : Value} (I : Inv X pins σ H s) (r : RelV x v) (ty : tyV X.K T x H) :
 s.TypeIs v T /\ ∀ a,v = .ref a -> ∃ ob,s.heap.get? a = some ob /\ ob.dict = none:=by
 cases x with
 | str z =>
   obtain ⟨t,rfl⟩:=r
   cases (show T = "str" from ty)
   exact ⟨typeIs_str s z t,fun _ e=>nomatch e⟩
 | int i =>
   obtain ⟨t,rfl⟩:=r
   cases (show T = "int" from ty)
   exact ⟨typeIs_int s i t,fun _ e=>nomatch e⟩
 | ref p =>
   cases r
   rcases ty with ⟨rfl,xs,hq⟩ | ⟨rfl,o,hk,hc,hd⟩ | ⟨rfl,hk⟩ | ⟨rfl,S,n,hk⟩
   ·obtain ⟨its,_,pl,_⟩:=I.list hq
    refine ⟨pl.isList.typeIs,fun a e=>?_⟩
    cases e
    obtain ⟨o,n,e,c,hd,_⟩:=pl
    exact ⟨o,e,hd⟩
   ·refine ⟨⟨o,I.kIn p o hk,hc⟩,fun a e=>?_⟩
    cases e
    exact ⟨o,I.kIn _ o hk,hd⟩
   ·have z : ∃ o,s.heap.get? p = some o /\ o.ExactDict:=by
     rcases hk with ⟨kvs,hk⟩ | ⟨kvs,hk⟩
     ·obtain ⟨_,_,_,_,o,_,_,e,ex,_⟩:=I.hok p _ hk
      exact ⟨o,e,ex⟩
     ·obtain ⟨_,_,_,_,o,_,_,e,ex,_⟩:=I.hok p _ hk
      exact ⟨o,e,ex⟩
    obtain ⟨o,e,ex⟩:=z
    refine ⟨⟨o,e,ex.1⟩,fun a e2=>?_⟩
    cases e2
    exact ⟨o,e,ex.2.1⟩
   ·obtain ⟨o,_,_,_,e,ex,_⟩:=I.hok p _ hk
    refine ⟨⟨o,e,ex.1⟩,fun a e2=>?_⟩
    cases e2
    exact ⟨o,e,ex.2.1⟩
 | _=>exact False.elim ty
def tBM0 (K : PySem.W.Frag) (T : String) (r : V -> List V -> Hp -> VK -> Prop) (to : TE) : TE:=fun σ H Q=>to σ H fun x H1=>tyV K T x H1 /\ r x [] H1 Q
def tBM (K : PySem.W.Frag) (T : String) (r : V -> List V -> Hp -> VK -> Prop) (to : TE) (t : TA) : TE:=fun σ H Q=>to σ H fun x H1=>tyV K T x H1 /\ t σ H1 fun xs H2=>r x xs H2 Q
variable {o e : Expr} {es : List Expr} {to : TE} {t : TA} {name : Str} {apos cpos : Pos} {T id : String} {r : V -> List V -> Hp -> VK -> Prop}
theorem zsP (pa : PlainAttrs T) (slot : Slot T name id) (hty : typeOf (.builtin id) = pure (.type "method_descriptor")) (hm : MtR X id r) (ho : PE X o to)
 (hbase : attributeBase o name X.env (eval o X.env) = eval o X.env:=by rfl) (hline : (apos.endLine == cpos.line) = true:=by rfl) : PE X (.Call (.Attribute o name apos) [] [] cpos) (tBM0 X.K T r to):=by
 intro pins s σ H Q I h
 refine wpAny_Call_method0_late hbase hline (thn (ho pins s σ H _ I h) fun v s1 ⟨x,H1,I1,r1,ty,q1⟩=>?_)
 obtain ⟨h1,h2⟩:=zmC I1 r1 ty
 exact ⟨T,id,pa,slot,hty,h1,h2,Calls.callWith_builtin rfl (PySem.evalArgs_none (hm pins s1 σ H1 x [] v [] Q I1 r1 .nil q1))⟩
theorem zsW (pa : PlainAttrs T) (slot : Slot T name id) (hty : typeOf (.builtin id) = pure (.type "method_descriptor")) (hm : MtR X id r) (ho : PE X o to) (ha : PA X (e :: es) t)
 (hbase : attributeBase o name X.env (eval o X.env) = eval o X.env:=by rfl)
 (hfew : ((backTo cpos (starEach (e :: es) X.env)).all (fun x=>!x.1) && (backToKw cpos (keywordEach [] X.env)).all (fun x=>x.1.isSome)
   && decide ((e :: es).length + ([] : List Keyword).length + (if ([] : List Keyword).isEmpty then 0 else 1) < 30)) = true:=by rfl)
 (hline : (apos.endLine == cpos.line) = true:=by rfl) (hs : starEach (e :: es) X.env = (false,eval e X.env) :: starEach es X.env:=by rfl) (hplain : (backTo cpos (starEach es X.env)).any (·.1) = false:=by rfl) :
 PE X (.Call (.Attribute o name apos) (e :: es) [] cpos) (tBM X.K T r to t):=by
 intro pins s σ H Q I h
 refine wpAny_Call_method_late hbase hfew hline rfl (thn (ho pins s σ H _ I h) fun v s1 ⟨x,H1,I1,r1,ty,q1⟩=>?_)
 obtain ⟨h1,h2⟩:=zmC I1 r1 ty
 refine ⟨T,id,pa,slot,hty,h1,h2,?_⟩
 have hA:=ha cpos pins s1 σ H1 _ I1 q1
 rw [hs] at hA ⊢
 refine Calls.callWith_builtin (by show (false || (backTo cpos (starEach es X.env)).any (·.1)) = false; rw [hplain] <;> rfl) (Calls.evalArgs_plain ?_)
 exact thn hA fun us s2 ⟨vs,H2,I2,r2,q2⟩=>hm pins s2 σ H2 x vs v us Q I2 r1 r2 q2
end
end L2
namespace L2
open PySem PySem.Spec PyProof.Rows
def MtM (X : Cx) (id : String) (r : V -> List V -> Hp -> VK -> Prop) : Prop :=
 ∀ (pins : List (Addr × Obj)) (s : Shared) (σ : St) (H : Hp) (x : V) (xs : List V) (v : Value) (us : List Value) (Q : VK),Inv X pins σ H s -> RelV x v -> Vals xs us -> r x xs H Q ->
  wpAny (model X.prog X.w) X.A (call (.builtin id) (v :: us)) (EP X pins σ Q) X.xe s
theorem Vals.one : ∀ {x : V} {us : List Value},Vals [x] us -> ∃ u,us = [u] /\ RelV x u
 | _,_,.cons r .nil=>⟨_,rfl,r⟩
theorem Vals.two : ∀ {x y : V} {us : List Value},Vals [x,y] us -> ∃ u v,us = [u,v] /\ RelV x u /\ RelV y v
 | _,_,_,.cons r (.cons q .nil)=>⟨_,_,rfl,r,q⟩
theorem Vals.zero : ∀ {us : List Value},Vals [] us -> us = []
 | _,.nil=>rfl
theorem Vals.dropLast {xs : List V} {us : List Value} (h : Vals xs us) : Vals xs.dropLast us.dropLast:=by
 induction h with
 | nil=>exact .nil
 | cons r t ih =>
   cases t with
   | nil=>exact .nil
   | cons q t'=>exact .cons r ih
theorem Vals.eraseIdx : ∀ {xs : List V} {us : List Value} (i : Nat),Vals xs us -> Vals (xs.eraseIdx i) (us.eraseIdx i)
 | _,_,_,.nil=>.nil
 | _,_,0,.cons _ t=>t
 | _,_,i + 1,.cons r t=>.cons r (Vals.eraseIdx i t)
theorem Vals.rep {xs : List V} {us : List Value} (h : Vals xs us) : ∀ k : Nat,Vals (List.replicate k xs).flatten (List.replicate k us).flatten
 | 0=>.nil
 | k + 1=>by
   rw [List.replicate_succ,List.replicate_succ,List.flatten_cons,List.flatten_cons]
   exact Vals.append h (Vals.rep h k)
theorem zjS {α : Type} (l : List α) : l.eraseIdx (l.length - 1) = l.dropLast:=by
 induction l with
 | nil=>rfl
 | cons a r ih =>
   cases r with
   | nil=>rfl
   | cons b r =>
     have e : (a :: b :: r).length - 1 = ((b :: r).length - 1) + 1:=by
      have h1 : (a :: b :: r).length = r.length + 2:=rfl
      have h2 : (b :: r).length = r.length + 1:=rfl
      omega
     rw [e,List.eraseIdx_cons_succ,ih]
     all_goals rfl
theorem zhs {α : Type} : ∀ (l : List α) (i : Nat),(l.eraseIdx i).length <= l.length
 | [],_=>Nat.le_refl _
 | _ :: _,0=>Nat.le_succ _
 | _ :: r,i + 1=>Nat.succ_le_succ (zhs r i)
theorem zhx (its : List Value) : ∀ (k : Nat) (acc : List Value),
 List.foldl (fun x1 x2=>x1 ++ x2) acc.toArray (List.replicate k its.toArray) = (acc ++ (List.replicate k its).flatten).toArray
 | 0,acc=>by simp
 | k + 1,acc=>by
   have e : acc.toArray ++ its.toArray = (acc ++ its).toArray:=by simp
   have e2 : (acc ++ its) ++ (List.replicate k its).flatten = acc ++ (List.replicate (k + 1) its).flatten:=by
    rw [List.replicate_succ,List.flatten_cons,List.append_assoc]
   rw [<- e2,<- zhx its k (acc ++ its),<- e,List.replicate_succ,List.foldl_cons]
section
variable {X : Cx} {pins : List (Addr × Obj)} {σ : St} {H : Hp} {s : Shared} {l b : Addr} {xs ys zs : List V}
theorem Inv.lset {its its' : List Value} {n : Nat} {f : Array Value -> Array Value} {t' : Nat} (I : Inv X pins σ H s) (hH : H l = some (.lst xs))
 (e : s.heap.get? l = some { cls:=.type "list",data:=.seq its.toArray n }) (hf : f its.toArray = its'.toArray) (hv : Vals ys its') (hz : ys.length <= sizeLine) :
 Inv X pins σ (upd H l (.lst ys)) { s with heap:=s.heap.update l (Obj.mapSeq f),toks:=t' }:=by
 have q:=PySem.IsL.update e f
 rw [hf] at q
 refine I.write (x:=l) (e:=l) (by rw [hH]; exact trivial) (.inl rfl) (fun b' u hb hu=>(Heap.get?_update_other s.heap (Obj.mapSeq f) (Ne.symm hb)).trans hu) ⟨_,q⟩ ?_
 exact ⟨hz,its',_,hv,q⟩
theorem Inv.lnew {its : List Value} {t' : Nat} (I : Inv X pins σ H s) (hv : Vals ys its) (hz : ys.length <= sizeLine) :
 Inv X pins σ (upd H s.heap.objs.size (.lst ys)) { s with heap:=s.heap.push { cls:=.type "list",data:=.seq its.toArray },toks:=t' } :=
 I.laid (fun _ _ q=>Heap.get?_push_of_some _ q) (Nat.le_refl _) ⟨hz,its,0,hv,Heap.get?_push_size _ rfl⟩
theorem Inv.fresh (I : Inv X pins σ H s) : H s.heap.objs.size = none:=I.hok.fresh (Nat.le_refl _)
theorem Inv.lstM (I : Inv X pins σ H s) (hH : H l = some (.lst xs)) : xs.length <= sizeLine /\ ∃ (its : List Value) (n : Nat),Vals xs its /\ xs.length = its.length /\ s.heap.get? l = some { cls:=.type "list",data:=.seq its.toArray n }:=by
 obtain ⟨z,its,n,r,e⟩:=I.hok l _ hH
 exact ⟨z,its,n,r,r.length,e⟩
theorem zjw {n : Nat} (h : n <= sizeLine) : Builtin.List.listTooLong n = false:=by
 unfold Builtin.List.listTooLong
 exact decide_eq_false (by omega)
end
section
variable {X : Cx}
def rAppend : V -> List V -> Hp -> VK -> Prop:=fun x vs H Q=>∃ l xs y,x = .ref l /\ vs = [y] /\ H l = some (.lst xs) /\ xs.length < sizeLine /\ Q .non (upd H l (.lst (xs ++ [y])))
theorem zaN : MtM X "list.append" rAppend:=by
 intro pins s σ H x vs v us Q I rx rv h
 obtain ⟨l,xs,y,rfl,rfl,hH,hz,q⟩:=h
 cases rx
 obtain ⟨u,rfl,ru⟩:=rv.one
 obtain ⟨z,its,n,r,hl,e⟩:=I.lstM hH
 refine call_meets F.slot_list_append ⟨_,e,rfl⟩ F.entry_list_append (F.args_list_append_2 _ _) (PySem.list_append l its.toArray n u (by rw [List.size_toArray]; omega)) ⟨e,?_⟩
 refine ⟨.non,_,I.lset (its':=its ++ [u]) hH e (by simp) (r.append (.cons ru .nil)) ?_,rfl,q⟩
 rw [List.length_append,List.length_singleton]
 omega
def rExtend : V -> List V -> Hp -> VK -> Prop:=fun x vs H Q=>∃ l b xs zs,x = .ref l /\ vs = [.ref b] /\ H l = some (.lst xs) /\ H b = some (.lst zs) /\ xs.length + zs.length <= sizeLine /\ Q .non (upd H l (.lst (xs ++ zs)))
theorem zlA : MtM X "list.extend" rExtend:=by
 intro pins s σ H x vs v us Q I rx rv h
 obtain ⟨l,b,xs,zs,rfl,rfl,hH,hB,hz,q⟩:=h
 cases rx
 obtain ⟨u,rfl,ru⟩:=rv.one
 cases ru
 obtain ⟨z,its,n,r,hl,e⟩:=I.lstM hH
 obtain ⟨z2,its2,n2,r2,hl2,e2⟩:=I.lstM hB
 have hsz : its.toArray.size + its2.toArray.size <= sizeLine:=by rw [List.size_toArray,List.size_toArray]; omega
 have hlong : ¬ (!its.toArray.isEmpty && Builtin.List.listTooLong (its.toArray.size + its2.toArray.size)) = true:=by
  rw [zjw hsz,Bool.and_false]
  exact Bool.false_ne_true
 refine call_meets F.slot_list_extend ⟨_,e,rfl⟩ F.entry_list_extend (F.args_list_extend_2 _ _)
  (AutoSeq1.list_extend_list_list_0 l its.toArray n b its2.toArray n2 hlong (by rw [List.size_toArray]; omega) (by omega)) ⟨e,e2,?_⟩
 refine ⟨.non,_,I.lset (its':=its ++ its2) hH e (by simp) (r.append r2) ?_,rfl,q⟩
 rw [List.length_append]
 omega
def rPop : V -> List V -> Hp -> VK -> Prop:=fun x vs H Q=>∃ l xs y,x = .ref l /\ vs = [] /\ H l = some (.lst xs) /\ xs[xs.length - 1]? = some y /\ Q y (upd H l (.lst xs.dropLast))
theorem mt_pop : MtM X "list.pop" rPop:=by
 intro pins s σ H x vs v us Q I rx rv h
 obtain ⟨l,xs,y,rfl,rfl,hH,hy,q⟩:=h
 cases rx
 have hus:=rv.zero
 subst hus
 obtain ⟨z,its,n,r,hl,e⟩:=I.lstM hH
 obtain ⟨u,hu,ru⟩:=r.get hy
 have hy' : its.toArray[its.toArray.size - 1]? = some u:=by
  show its.toArray[its.length - 1]? = some u
  rw [<- Array.getElem?_toList,<- hl]
  exact hu
 refine call_meets F.slot_list_pop ⟨_,e,rfl⟩ F.entry_list_pop (F.args_list_pop_1 _) (MeetsSeq.list_pop_last l its.toArray n u hy' (by rw [List.size_toArray]; omega)) ⟨e,?_⟩
 refine ⟨y,_,I.lset (its':=its.dropLast) hH e ?_ r.dropLast ?_,ru,q⟩
 ·show its.toArray.eraseIdxIfInBounds (its.toArray.size - 1) = its.dropLast.toArray
  rw [List.size_toArray,List.eraseIdxIfInBounds_toArray,zjS]
 ·rw [List.length_dropLast]
  omega
def rPopAt : V -> List V -> Hp -> VK -> Prop:=fun x vs H Q=>∃ l xs i k y,x = .ref l /\ vs = [.int i] /\ H l = some (.lst xs) /\ -(2 ^ 63) <= i /\ i < 2 ^ 63 /\ seqIndex? i xs.length = some k /\ xs[k]? = some y /\ Q y (upd H l (.lst (xs.eraseIdx k)))
theorem zeF : MtM X "list.pop" rPopAt:=by
 intro pins s σ H x vs v us Q I rx rv h
 obtain ⟨l,xs,i,k,y,rfl,rfl,hH,h1,h2,hk,hy,q⟩:=h
 cases rx
 obtain ⟨u,rfl,ru⟩:=rv.one
 obtain ⟨t,rfl⟩:=ru
 obtain ⟨z,its,n,r,hl,e⟩:=I.lstM hH
 obtain ⟨w,hw,rw'⟩:=r.get hy
 refine call_meets F.slot_list_pop ⟨_,e,rfl⟩ F.entry_list_pop (F.args_list_pop_2 _ _)
  (MeetsSeq.list_pop_at l its.toArray n i t k w (fitsIndex_both h1 h2) (by rw [List.size_toArray,<- hl]; exact hk) (by rw [<- Array.getElem?_toList]; exact hw) (by rw [List.size_toArray]; omega)) ⟨e,?_⟩
 refine ⟨y,_,I.lset (its':=its.eraseIdx k) hH e ?_ (r.eraseIdx k) ?_,rw',q⟩
 ·show its.toArray.eraseIdxIfInBounds k = (its.eraseIdx k).toArray
  rw [List.eraseIdxIfInBounds_toArray]
 ·have:=zhs xs k
  omega
def rClear : V -> List V -> Hp -> VK -> Prop:=fun x vs H Q=>∃ l xs,x = .ref l /\ vs = [] /\ H l = some (.lst xs) /\ Q .non (upd H l (.lst []))
theorem zje : MtM X "list.clear" rClear:=by
 intro pins s σ H x vs v us Q I rx rv h
 obtain ⟨l,xs,rfl,rfl,hH,q⟩:=h
 cases rx
 have hus:=rv.zero
 subst hus
 obtain ⟨z,its,n,r,hl,e⟩:=I.lstM hH
 refine call_meets F.slot_list_clear ⟨_,e,rfl⟩ F.entry_list_clear (F.args_list_clear_1 _) (AutoSeq1.list_clear_list_0 l its.toArray n (by rw [List.size_toArray]; omega)) ⟨e,?_⟩
 exact ⟨.non,_,I.lset (its':=[]) (ys:=[]) hH e rfl .nil (Nat.zero_le _),rfl,q⟩
def rCat : R2:=fun x y H Q=>∃ l b xs zs,x = .ref l /\ y = .ref b /\ H l = some (.lst xs) /\ H b = some (.lst zs) /\ xs.length + zs.length <= sizeLine /\ ∀ p,H p = none -> Q (.ref p) (upd H p (.lst (xs ++ zs)))
theorem zmI : OpR X (binaryOp .Add) rCat:=by
 intro pins s σ H x y v u Q I rx ry h
 obtain ⟨l,b,xs,zs,rfl,rfl,hH,hB,hz,q⟩:=h
 cases rx
 cases ry
 obtain ⟨z,its,n,r,hl,e⟩:=I.lstM hH
 obtain ⟨z2,its2,n2,r2,hl2,e2⟩:=I.lstM hB
 refine PySem.P.add_list e e2 ?_ (by rw [List.size_toArray,List.size_toArray]; omega)
 have ea : its.toArray ++ its2.toArray = (its ++ its2).toArray:=by simp
 rw [ea]
 exact ⟨.ref _,_,I.lnew (t':=s.toks) (r.append r2) (by rw [List.length_append]; omega),rfl,q _ I.fresh⟩
def rRep : R2:=fun x y H Q=>∃ l k xs,x = .ref l /\ y = .int k /\ H l = some (.lst xs) /\ -(2 ^ 63) <= k /\ k < 2 ^ 63 /\ xs.length * k.toNat <= sizeLine /\
 ∀ p,H p = none -> Q (.ref p) (upd H p (.lst (List.replicate k.toNat xs).flatten))
theorem znT {α : Type} (xs : List α) (k : Nat) : (List.replicate k xs).flatten.length = k * xs.length:=by
 induction k with
 | zero=>simp
 | succ k ih=>rw [List.replicate_succ,List.flatten_cons,List.length_append,ih,Nat.succ_mul,Nat.add_comm]
theorem zjh : OpR X (binaryOp .Mult) rRep:=by
 intro pins s σ H x y v u Q I rx ry h
 obtain ⟨l,k,xs,rfl,rfl,hH,h1,h2,hz,q⟩:=h
 cases rx
 obtain ⟨t,rfl⟩:=ry
 obtain ⟨z,its,n,r,hl,e⟩:=I.lstM hH
 have hlen : its.toArray.size * k.toNat <= sizeLine:=by rw [List.size_toArray,<- hl]; exact hz
 have hcap : ¬ its.toArray.size * k.toNat > (2 ^ 63 - 1) / 8:=by
  have : (sizeLine : Nat) <= (2 ^ 63 - 1) / 8:=by decide
  omega
 have hfit : ¬ (!Builtin.List.listFitsIndex k) = true:=by
  rw [fitsIndex_both h1 h2]
  exact Bool.false_ne_true
 have hlong : ¬ Builtin.List.listTooLong (its.toArray.size * k.toNat) = true:=by
  rw [zjw hlen]
  exact Bool.false_ne_true
 have hnew : List.foldl (fun x1 x2=>x1 ++ x2) #[] (List.replicate (if its.toArray.isEmpty = true then 0 else k.toNat) its.toArray) = (List.replicate k.toNat its).flatten.toArray:=by
  have f0 : ∀ m : Nat,List.foldl (fun x1 x2=>x1 ++ x2) #[] (List.replicate m its.toArray) = (List.replicate m its).flatten.toArray:=fun m=>by
   have:=zhx its m []
   rw [List.nil_append] at this
   exact this
  rw [f0]
  cases its with
  | nil=>simp
  | cons a r'=>rw [if_neg (by simp)]
 refine wpAny_binaryOp_repeat_ref (T:="list") (U:="int") (by decide) ⟨_,e,rfl⟩ (fun s'=>typeIs_int s' k t) noFill_list_mul F.fills_int_mul F.slot_int_rmul repeat_list F.slot_int_index.lookup
  (call_meets F.slot_int_rmul (typeIs_int s k t) F.entry_int_rmul (F.args_int_rmul_2 _ _) (int___rmul___int_list k t l its.toArray n)
    ⟨e,rfl,⟨_,e,rfl⟩,call_meets F.slot_list_mul ⟨_,e,rfl⟩ F.entry_list_mul (F.args_list_mul_2 _ _) (AutoListH.list___mul___list_int_3 l its.toArray n k t hfit hcap hlong) ⟨e,?_⟩⟩)
 rw [hnew]
 exact ⟨.ref _,_,I.lnew (t':=s.toks) (r.rep k.toNat) (by rw [znT,Nat.mul_comm]; exact hz),rfl,q _ I.fresh⟩
end
section
variable {prog : Program} {w : World} {A : Around} {E : Value -> Shared -> Prop} {s : Shared}
set_option maxRecDepth 100000 in
end
section
variable {X : Cx}
end
end L2
namespace Att
open PySem PySem.W PySem.Calls PyProof.Rows
theorem zeL {P : Params} {h : Heap} : ∀ (ns : List Int) (vs : List Value),WellAll P h vs (ns.map WData.int) -> IntsAre vs ns:=by
 intro ns
 induction ns with
 | nil =>
   intro vs w
   rw [List.map_nil] at w
   cases w
   exact .nil
 | cons n ns ih =>
   intro vs w
   rw [List.map_cons] at w
   cases w with
   | cons a b =>
     cases a
     exact .cons _ _ (ih _ b)
theorem zlD {l : OpenLaw} {n : Nat} (hn : l.most = some n) {P : Params} {h : Heap} {args : List WData} {vals : List Value}
 (hpre : l.row.toRowW.claim.pre args = true) (hwl : WellAll P h vals args) :
 ∃ a vs ns,vals = [Value.ref a] /\ args = [WData.list (ns.map WData.int)] /\ h.get? a = some { cls:=.type "list",data:=.seq vs.toArray } /\ IntsAre vs ns /\ ns.length <= n:=by
 have hsh : WShape.hasAll [] args [.list .int] = true:=(pre_splitW hpre).1
 have hc : l.pre.holds [] { args:=args } = true:=(pre_splitW hpre).2
 obtain ⟨d,r,rfl,h1,h2⟩:=hasAllW_cons hsh
 obtain rfl:=hasAllW_nil h2
 obtain ⟨xs,rfl,h3⟩:=hasW_list h1
 obtain ⟨ns,rfl⟩:=items_int h3
 have hlen : ns.length <= n:=by
  unfold OpenLaw.pre at hc
  have h4 : (WTm.not (.lt (.lit (.int (n : Int))) (.len (.arg 0)))).holds [] { args:=[.list (ns.map .int)] } = true:=by
   have h4:=(holds_andW hc).1
   rw [hn] at h4
   exact h4
  have h5:=condW_of h4 (w_not (w_lt w_lit (w_len_list (w_arg rfl))))
  rw [List.length_map] at h5
  refine Nat.le_of_not_lt fun q=>?_
  have q' : (n : Int) < ((ns.length : Nat) : Int):=by omega
  first
   | (rw [decide_eq_true q'] at h5; exact absurd h5 (by decide))
   | (simp at h5; omega)
 cases hwl with
 | cons w1 w2 =>
   cases w2
   cases w1 with
   | list ho hall=>exact ⟨_,_,ns,rfl,rfl,ho,zeL ns _ hall,hlen⟩
theorem zkI (l : OpenLaw) (args : List WData) : l.row.toRowW.claim.post args (.bool true) args = true :=
 postW_of (r:=l.row.toRowW) (X:=(true == true))
  (show WShape.has [] (.bool true) .bool = true by first | rfl | decide | simp [WShape.has,WShape.arms,WShape.armsAll])
  (show (WTm.eq .res (.lit (.bool true))).value [] { args:=args,res:=some (.bool true),after:=args } = some (.bool (true == true)) from w_eq_bool (w_res rfl) w_lit) rfl
theorem zib {l : OpenLaw} {n : Nat} {q : Program} {loose : List Str} {XP : (Str -> Option Value) -> Heap -> Prop} {YP : World -> Heap -> Prop} {d : DefRec}
 (hn : l.most = some n) (hdf : d.params.defaults = [])
 (call : ∀ (w : World) (s₀ s₁ : Shared) (mg mb : Str -> Option Value) (fa : Addr) (o : Obj) (pm cd doc : Value) (a : Addr) (vs : List Value) (ns : List Int),
   Ground q loose [] XP w s₀ mg mb s₁.heap -> YP w s₁.heap ->
   s₁.heap.get? fa = some o -> o.data = .func (docDef d.name d.params d.body d.scope pm cd doc) -> s₁.heap.CodeRec cd d.name -> mg d.name = some (.ref fa) ->
   s₁.heap.get? a = some { cls:=.type "list",data:=.seq vs.toArray } -> IntsAre vs ns -> ns.length <= n -> s₁.gens = #[] ->
   codeAny (model l.prog w) callerA (.call (.ref fa) ⟨[.ref a],[]⟩) (fun r s'=>r = .ok (.ret (.bool true)) /\ OldK s₁.heap s'.heap /\ s'.os = s₁.os /\ AllBare s'.gens) s₁) :
 WalkO q loose XP YP l.row.toRowW d [] (fun f vs=>PySem.call f vs):=by
 intro w s₀ s₁ mg mb G Y fa o pm cd doc dV kV ho hd hcd hD hmg hg args vals as hpre hlay hrd hwl hlo
 obtain rfl : dV = .none:=Dflts.none hD hdf
 obtain rfl : kV = .none:=Dflts.noKw hD
 obtain ⟨a,vs,ns,rfl,rfl,hobj,hints,hlen⟩:=zlD hn hpre hwl
 refine enter_call (codeAny_mono (call w s₀ s₁ mg mb fa o pm cd doc a vs ns G Y ho (fd_plain hd) hcd hmg hobj hints hlen hg) fun r s' hq=>?_)
 obtain ⟨rfl,h2,h3,h4⟩:=hq
 exact ⟨.inl ⟨.bool true,.bool true,[],rfl,fun _=>rfl,.bool true,zkI l _,fun _=>⟨List.Pairwise.nil,fun _ hm=>(nomatch hm)⟩⟩,h2,h3,h4⟩
section
variable {prog : Program} {w : World} {A : Around} {E : Value -> Shared -> Prop} {s : Shared} {K : Frag}
end
end Att
namespace L2
open PySem PySem.Spec PyProof.Rows
theorem zhT : ∀ {vs : List Value} {ns : List Int},IntsAre vs ns -> Vals (ns.map V.int) vs
 | _,_,.nil=>.nil
 | _,_,.cons n t h=>.cons ⟨t,rfl⟩ (zhT h)
def Only (H : Hp) : Prop:=∀ b,H b = none \/ ∃ o xs,H b = some (.frz o (.lst xs))
theorem zlY {P : Program} {w : World} {K : PySem.W.Frag} {mg mb : Str -> Option Value} {CX : CXT} {k : Nat} {fa a : Addr} {fd : FuncData} {x : Str} {sp : Sp} {s₁ : Shared} {vs : List Value} {ns : List Int}
 (KX : K.In s₁.heap) (hns : s₁.heap.Ns mainGlobals mg) (hb : s₁.heap.Ns builtinsNs mb) (hbb : ∀ x : Str,x ≠ "__name__" -> mb x = bootBuiltins x) (hlim : s₁.heap.NoLimit) (hg : s₁.gens = #[])
 (ha : s₁.heap.get? a = some { cls:=.type "list",data:=.seq vs.toArray }) (hi : IntsAre vs ns) (hl : ns.length <= sizeLine) (hr : Room k callerA)
 (F : ∀ base : Heap,K.In base -> base.Ns mainGlobals mg -> FnOk P w K mg base CX k fa fd [x] sp) (hbind : ∀ (s : Shared) (u : Value),BindsTo s fd ⟨[u],[]⟩ [(x,u)])
 (hsp : ∀ H : Hp,Only H -> SqL K H a (ns.map V.int) -> sp [.ref a] H (fun v _=>v = .bl true) fun _ _ _=>False)
 (hCX : ∀ H e s',CX [] H s₁ (fun _ _ _=>False) e s' -> False) :
 codeAny (model P w) callerA (.call (.ref fa) ⟨[.ref a],[]⟩) (fun r s'=>r = .ok (.ret (.bool true)) /\ OldK s₁.heap s'.heap /\ s'.os = s₁.os /\ AllBare s'.gens) s₁:=by
 have rv:=zhT hi
 have lenV:=hi.length
 have core : ∀ H : Hp,Only H -> SqL K H a (ns.map V.int) -> HOk P w H s₁.heap -> (∀ b,H b ≠ none -> b = a) -> (H a ≠ none -> K.lookup a = none) ->
  codeAny (model P w) callerA (.call (.ref fa) ⟨[.ref a],[]⟩) (fun r s'=>r = .ok (.ret (.bool true)) /\ OldK s₁.heap s'.heap /\ s'.os = s₁.os /\ AllBare s'.gens) s₁:=by
  intro H hO hS hok hA hK
  have base_of : ∀ {b : Addr} {o : Obj},s₁.heap.get? b = some o -> H b = none -> (hidT s₁.heap H).get? b = some o:=fun e n=>zmc e n
  have noA : ∀ {b : Addr} {o : Obj} {es : Array DictEntry} {ep : Nat},s₁.heap.get? b = some o -> o.data = .dict es ep -> H b = none:=fun {b o es ep} e d=>by
   cases q : H b with
   | none=>rfl
   | some u =>
     have e' : b = a:=hA b (by rw [q]; simp)
     subst e'
     rw [ha] at e; cases e
     have d' : Data.seq vs.toArray _ = Data.dict es ep:=d
     cases d'
  have nsK : ∀ {b : Addr} {m : Str -> Option Value},s₁.heap.Ns b m -> (hidT s₁.heap H).Ns b m:=fun {b m} ⟨o,es,ep,e,d,r⟩=>⟨o,es,ep,base_of e (noA e d),d,r⟩
  have hKb : K.In (hidT s₁.heap H):=fun b o e=>base_of (KX b o e) (by
   cases q : H b with
   | none=>rfl
   | some u =>
     have e' : b = a:=hA b (by rw [q]; simp)
     subst e'
     rw [hK (by rw [q]; simp)] at e; cases e)
  have hM : Mod K mg (hidT s₁.heap H):=⟨hKb,nsK hns,⟨mb,nsK hb,hbb⟩,let ⟨mc,h1,h2⟩:=hlim; ⟨mc,nsK h1,h2⟩⟩
  have e0 : Env0 P w K mg (hidT s₁.heap H) callerA [] s₁ H:=⟨rfl,hM,fun b o e=>znD e,Nat.le_of_eq (zkr _ _),trivial,fun b hb=>absurd (show b ∈ ([] : List Addr) from hb) (by simp),hok,.of_eq hg⟩
  refine codeAny_mono ((F _ hKb (nsK hns)).run callerA [] s₁ H ⟨[.ref a],[]⟩ [.ref a] [.ref a] _ _ hr e0 (hbind s₁ (.ref a)) (.cons rfl .nil) (hsp H hO hS)) fun r s' h=>?_
  cases r with
  | error e=>exact (hCX H e s' h).elim
  | ok fl =>
    cases fl with
    | next=>exact False.elim h
    | brk=>exact False.elim h
    | cont=>exact False.elim h
    | ret u =>
      obtain ⟨v,H',os,bare,un,hok',r',q⟩:=h
      have q' : v = .bl true:=q
      subst q'
      obtain rfl : u = Value.bool true:=r'
      refine ⟨rfl,OldK.of_keep fun b o e=>?_,os,bare⟩
      cases q : H b with
      | none=>exact un.keep b o e q (by intro z; exact absurd (show b ∈ ([] : List Addr) from z) (by simp)) (by simp)
      | some u =>
        rcases hO b with z | ⟨ob,xs,z⟩
        ·rw [q] at z; cases z
        ·have z2:=un.frzs b ob _ z
         obtain ⟨e1,_⟩:=hok b _ z
         obtain ⟨e2,_⟩:=hok' b _ z2
         rw [e] at e1; cases e1
         exact e2
 cases hk : K.lookup a with
 | some o =>
   have e:=KX a o hk
   rw [ha] at e
   cases e
   refine core (fun _=>none) (fun _=>.inl rfl) (.inr ⟨_,vs.toArray,_,hk,rfl,rfl,rfl,by rw [List.size_toArray,lenV]; exact hl,by simpa using rv⟩) (fun b u z=>by have z' : (none : Option HO) = some u:=z; cases z') (fun b z=>absurd rfl z) fun z=>absurd rfl z
 | none =>
   refine core (fun b=>if b = a then some (.frz { cls:=.type "list",data:=.seq vs.toArray } (.lst (ns.map V.int))) else none) (fun b=>?_) (.inl (.inr ⟨{ cls:=.type "list",data:=.seq vs.toArray },if_pos rfl⟩)) (fun b u z=>?_) (fun b z=>?_) fun _=>hk
   ·by_cases hb : b = a
    ·exact .inr ⟨_,_,if_pos hb⟩
    ·exact .inl (if_neg hb)
   ·by_cases hb : b = a
    ·have z':=(if_pos hb).symm.trans z
     cases z'
     subst hb
     exact ⟨ha,by rw [List.length_map]; exact hl,vs,_,rv,ha⟩
    ·have z':=(if_neg hb).symm.trans z
     cases z'
   ·by_cases hb : b = a
    ·exact hb
    ·exact absurd (if_neg hb) z
end L2
namespace L2
open PySem PySem.Spec PyProof.Rows
abbrev KOf {K : PySem.W.Frag} {h : Heap} (_ : K.In h) : PySem.W.Frag:=K
theorem znk {l : PySem.W.OpenLaw} {n k : Nat} {q : Program} {loose : List Str} {XP : (Str -> Option Value) -> Heap -> Prop} {YP : World -> Heap -> Prop} {d : DefRec} {K : Params -> PySem.W.Frag} {CX : World -> CXT} {sp : World -> Sp} {x : Str}
 (hn : l.most = some n) (hn2 : n <= sizeLine) (hdf : d.params.defaults = []) (hr : Room k callerA)
 (hY : ∀ (w : World) (h : Heap),YP w h -> (K w.params).In h)
 (F : ∀ (w : World) (mg : Str -> Option Value) (fa : Addr) (h : Heap),(K w.params).In h -> h.Ns mainGlobals mg -> mg d.name = some (.ref fa) ->
   ∃ fd : FuncData,(∀ (s : Shared) (u : Value),BindsTo s fd ⟨[u],[]⟩ [(x,u)]) /\
    ∀ base : Heap,(K w.params).In base -> base.Ns mainGlobals mg -> FnOk l.prog w (K w.params) mg base (CX w) k fa fd [x] (sp w))
 (hsp : ∀ (w : World) (H : Hp) (a : Addr) (ns : List Int),ns.length <= n -> Only H -> SqL (K w.params) H a (ns.map V.int) -> sp w [.ref a] H (fun v _=>v = .bl true) fun _ _ _=>False)
 (hCX : ∀ (w : World) (H : Hp) (s : Shared) (e : Value) (s' : Shared),CX w [] H s (fun _ _ _=>False) e s' -> False) :
 PySem.W.WalkO q loose XP YP l.row.toRowW d [] (fun f vs=>PySem.call f vs):=by
 refine Att.zib hn hdf fun w s₀ s₁ mg mb fa o pm cd doc a vs ns G Y ho hd hcd hmg hobj hints hlen hg=>?_
 have KX:=hY w _ Y
 obtain ⟨fd,hb,hF⟩:=F w mg fa _ KX G.T.g hmg
 exact zlY KX G.T.g G.T.b G.T.builtins G.T.nolimit hg hobj hints (Nat.le_trans hlen hn2) hr hF hb (fun H hO hS=>hsp w H a ns hlen hO hS) fun H e s'=>hCX w H s₁ e s'
theorem walk_ofK {l : PySem.W.OpenLaw} {n k : Nat} {q : Program} {loose : List Str} {XP : (Str -> Option Value) -> Heap -> Prop} {YP : World -> Heap -> Prop} {d : DefRec} {K : Params -> PySem.W.Frag} {CX : CXT} {sp : PySem.W.Frag -> Sp} {x : Str}
 (hn : l.most = some n) (hn2 : n <= sizeLine) (hdf : d.params.defaults = []) (hr : Room k callerA)
 (hY : ∀ (w : World) (h : Heap),YP w h -> (K w.params).In h)
 (F : ∀ (w : World) (mg : Str -> Option Value) (fa : Addr) (h : Heap),(K w.params).In h -> h.Ns mainGlobals mg -> mg d.name = some (.ref fa) ->
   ∃ fd : FuncData,(∀ (s : Shared) (u : Value),BindsTo s fd ⟨[u],[]⟩ [(x,u)]) /\
    ∀ base : Heap,(K w.params).In base -> base.Ns mainGlobals mg -> FnOk l.prog w (K w.params) mg base CX k fa fd [x] (sp (K w.params)))
 (hsp : ∀ (K : PySem.W.Frag) (H : Hp) (a : Addr) (ns : List Int),ns.length <= n -> Only H -> SqL K H a (ns.map V.int) -> sp K [.ref a] H (fun v _=>v = .bl true) fun _ _ _=>False)
 (hCX : ∀ (H : Hp) (s : Shared) (e : Value) (s' : Shared),CX [] H s (fun _ _ _=>False) e s' -> False) :
 PySem.W.WalkO q loose XP YP l.row.toRowW d [] (fun f vs=>PySem.call f vs) :=
 znk (K:=K) (CX:=fun _=>CX) (sp:=fun w=>sp (K w.params)) hn hn2 hdf hr hY F (fun w H a ns h1 h2 h3=>hsp (K w.params) H a ns h1 h2 h3) fun _ H s e s'=>hCX H s e s'
end L2
namespace L2
open PySem PySem.Spec PyProof.Rows
def zah (s : Stmt) (j : Nat) : Stmt:=match s with
 | .ClassDef _ _ _ body _ _ _ _ _ _ _=>body.getD j (.Pass ⟨0,0,0,0⟩)
 | _=>.Pass ⟨0,0,0,0⟩
def zal (s : Stmt) : Arguments:=match s with
 | .FunctionDef _ a _ _ _ _ _ _ _ _=>a
 | _=>{ posonlyargs:=[],args:=[],vararg:=none,kwonlyargs:=[],kw_defaults:=[],kwarg:=none,defaults:=[] }
def zak (s : Stmt) : List Stmt:=match s with
 | .FunctionDef _ _ b _ _ _ _ _ _ _=>b
 | _=>[]
def zac (s : Stmt) : Scope:=match s with
 | .FunctionDef _ _ _ _ _ _ sc _ _ _=>sc
 | _=>{ kind:=.function,names:=[],isGenerator:=false,isCoroutine:=false }
abbrev CX0 : CXT:=fun _ _ _ _ _ _=>False
abbrev E0 : XK:=fun _ _ _=>False
theorem zms {X : Cx} : zhi CX0 X E0:=fun _ _ _ _ _ _ _ h=>h.elim
structure Fun (K : PySem.W.Frag) (x qual : Str) (st : Stmt) (f : Addr) (fd : FuncData) : Prop where
 ex : ∃ (oc : Value) (od : Option Addr) (kV doc pm : Value) (an : Option Addr) (cdv ct : Value) (osl : Array (Option Value)),
  fd = PySem.W.fnOf x qual (zal st) (zak st) (zac st) .none kV doc pm an cdv ct /\ K.lookup f = some ⟨oc,od,.func fd,osl⟩ /\ PySem.W.codeIn K cdv qual = true
 kp : PySem.W.keepIn K (.ref f) = true
section
variable {P : Program} {w : World} {K : PySem.W.Frag} {mg : Str -> Option Value} {base : Heap}
theorem Fun.ok {x qual : Str} {st : Stmt} {f : Addr} {fd : FuncData} {N ps : List Str} {k : Nat} {sp : Sp} (F : Fun K x qual st f fd) (S : FnScope N ps (zac st)) (len : ∀ vs H Q E,sp vs H Q E -> vs.length = ps.length)
 (hbody : ∀ (cdv : Value) (A : Around) (outer : List Env) (s : Shared) (H : Hp) (vs : List V) (Q : VK) (E : XK),Room k (A.deeper (envOfC qual (zac st) s.heap.objs.size f cdv)) -> sp vs H Q E ->
   ∃ t,PSs (cxOf CX0 P w K mg base N qual (zac st) f cdv A outer s H E).nox (zak st) t /\ t { nx:=fun _ H'=>Q .non H',rt:=Q } (start N vs) H) : FnOk P w K mg base CX0 (k + 1) f fd ps sp:=by
 obtain ⟨oc,od,kV,doc,pm,an,cdv,ct,osl,rfl,lk,hcd⟩:=F.ex
 refine zpr lk hcd S len fun A outer s H vs Q E hr hsp=>?_
 obtain ⟨t,h,q⟩:=hbody cdv A outer s H vs Q E hr hsp
 exact ⟨t,h.nox,q⟩
theorem Fun.binds {x qual : Str} {st : Stmt} {f : Addr} {fd : FuncData} {ps : List Str} (F : Fun K x qual st f fd)
 (h : ∀ (kV doc pm : Value) (an : Option Addr) (cdv ct : Value) (us : List Value),us.length = ps.length -> bindArgs (PySem.W.fnOf x qual (zal st) (zak st) (zac st) .none kV doc pm an cdv ct) ⟨us,[]⟩ = pure (ps.zip us)) : zhE K fd ps []:=by
 obtain ⟨oc,od,kV,doc,pm,an,cdv,ct,osl,rfl,lk,hcd⟩:=F.ex
 exact .all (h kV doc pm an cdv ct)
theorem zaz {x qual : Str} {st : Stmt} {f : Addr} {oc : Value} {od an : Option Addr} {osl : Array (Option Value)} {kV doc pm cdv ct : Value} (l : K.lookup f = some ⟨oc,od,.func (PySem.W.fnOf x qual (zal st) (zak st) (zac st) .none kV doc pm an cdv ct),osl⟩)
 (c : PySem.W.codeIn K cdv qual = true) (k : PySem.W.keepIn K (.ref f) = true) : Fun K x qual st f (PySem.W.fnOf x qual (zal st) (zak st) (zac st) .none kV doc pm an cdv ct):=⟨⟨oc,od,kV,doc,pm,an,cdv,ct,osl,rfl,l,c⟩,k⟩
end
theorem zaE {A : Around} {k : Nat} (hr : Room k A) : A.units + 1 < cLine:=Nat.lt_of_le_of_lt (Nat.add_le_add_left (by decide : 1 <= 64) _) hr.units
section
variable {X : Cx}
theorem pv (i : Nat) {x : Str} {pos : Pos} (hN : X.N[i]? = some x:=by rfl) (hv : Vis X.env.scope x:=by first | exact Or.inl rfl | exact Or.inr (Or.inl rfl) | exact Or.inr (Or.inr rfl)) (hd : (x == ("__debug__" : Str)) = false:=by decide)
 (hcd : (x == ("__classdict__" : Str)) = false:=by decide) : PE X (.Name x pos) (tVar i):=zqy hN hv hd hcd
end
theorem iteF {A B : Prop} (h : B) : if false = true then A else B:=by
 rw [if_neg Bool.false_ne_true]
 exact h
theorem iteT {A B : Prop} (h : A) : if true = true then A else B:=by
 rw [if_pos rfl]
 exact h
theorem ite2 {c A B : Prop} [Decidable c] (h1 : c -> A) (h2 : ¬ c -> B) : if c then A else B:=by
 by_cases h : c
 ·rw [if_pos h]
  exact h1 h
 ·rw [if_neg h]
  exact h2 h
def Same (H H' : Hp) : Prop:=∀ b o,H b = some o -> H' b = some o
theorem Same.refl (H : Hp) : Same H H:=fun _ _ h=>h
theorem Same.trans {H H1 H2 : Hp} (a : Same H H1) (b : Same H1 H2) : Same H H2:=fun c o h=>b c o (a c o h)
theorem Same.free {H H' : Hp} (e : Same H H') {l : Addr} (h : H' l = Option.none) : H l = Option.none:=by
 cases q : H l with
 | none=>rfl
 | some o =>
   rw [e l o q] at h
   cases h
theorem Same.seq {K : PySem.W.Frag} {H H' : Hp} {a : Addr} {xs : List V} (e : Same H H') (h : SqL K H a xs) : SqL K H' a xs:=by
 rcases h with (h | ⟨o,h⟩) | h
 ·exact .inl (.inl (e _ _ h))
 ·exact .inl (.inr ⟨o,e _ _ h⟩)
 ·exact .inr h
end L2
set_option maxHeartbeats 4000000
namespace L2
open PySem PySem.Spec PyProof.Rows
structure D (K : PySem.W.Frag) (mg : Str -> Option Value) (x : Str) (st : Stmt) (ps : List Str) (f : Addr) (fd : FuncData) : Prop where
 fn : Fun K x x st f fd
 ba : ∀ us : List Value,us.length = ps.length -> bindArgs fd ⟨us,[]⟩ = pure (ps.zip us)
 mg : mg x = some (.ref f)
section
variable {X : Cx} {k j : Nat} {f : Addr} {fd : FuncData} {ps : List Str} {sp : Sp} {x : Str} {st : Stmt} {p pos : Pos} {e : Expr} {es : List Expr} {t : TA}
theorem zaU (d : D X.K X.mg x st ps f fd) (F : FnOk X.prog X.w X.K X.mg X.base CX0 j f fd ps sp) (hr : Room k X.A) (hg : Gl X x) (ha : PA X (e :: es) t) (hjk : j <= k:=by decide) (hdb : (x == ("__debug__" : Str)) = false:=by decide)
 (he : starEach (e :: es) X.env = (false,eval e X.env) :: starEach es X.env:=by rfl) (hpl : (backTo pos (starEach es X.env)).any (·.1) = false:=by rfl) :
 PE X (.Call (.Name x p) (e :: es) [] pos) (zoo sp [] E0 t) :=
 zmW (F.mono hjk) hr hg d.mg d.fn.kp (.all d.ba) .nil zms ha hdb he hpl
end
theorem zcH : bootBuiltins "len" = some (.builtin "len"):=PySem.boot_len
theorem zgn : bootBuiltins "isinstance" = some (.builtin "isinstance"):=by decide +kernel
theorem zkj : bootBuiltins "sorted" = some (.builtin "sorted"):=by decide +kernel
theorem zmR : bootBuiltins "bool" = some (.type "bool"):=by decide +kernel
theorem zcU : bootBuiltins "list" = some (.type "list"):=by decide +kernel
section
variable {X : Cx}
theorem ziJ : zeX X (.builtin "isinstance") (fun xs H Q=>∃ x n t b,xs = [x,.ty n] /\ TyOf X.K H x t /\ PySem.W.kitOne X.K t (.type n) = some b /\ Q (.bl b) H):=by
 intro pins s σ H xs us Q I r h
 obtain ⟨x,n,t,b,rfl,ty,e,q⟩:=h
 obtain ⟨u,w',rfl,rx,rt⟩:=zuc r
 cases rt
 exact zkw I rx ty e fun tk=>⟨.bl b,H,I.tok _,rfl,q⟩
theorem zow {K : PySem.W.Frag} : PySem.W.kitOne K (.type "bool") (.type "bool") = some true:=by rfl
end
end L2
namespace L2
open PySem PySem.Spec PyProof.Rows
theorem decV {i j : Int} : decide (V.int i = V.int j) = decide (i = j):=by
 rw [decide_eq_decide]
 exact ⟨fun h=>V.int.inj h,fun h=>by rw [h]⟩
theorem zae {H : Hp} {p : Addr} (h : H p = none) (o : HO) : Same H (upd H p o):=fun b u q=>by rw [zai (zay q h)]; exact q
theorem zap {H H1 : Hp} {p : Addr} {o : HO} (s : Same H H1) (h : H p = none) : Same H (upd H1 p o):=fun b u q=>by rw [zai (zay q h)]; exact s b u q
theorem zbk {H H1 : Hp} {p : Addr} {o : HO} (s : Same H H1) (h : H1 p = none) : Same H (upd H1 p o):=zap s (s.free h)
theorem zcC {zs : List Int} {i : Nat} {y : V} (h : (zs.map V.int)[i]? = some y) : ∃ z,y = .int z /\ zs[i]? = some z:=by
 rw [List.getElem?_map] at h
 cases e : zs[i]? with
 | none=>rw [e] at h; cases h
 | some z=>rw [e] at h; exact ⟨z,(Option.some.inj h).symm,rfl⟩
theorem zmk (zs : List Int) (n : Nat) : cutV (zs.map V.int) none (some (n : Int)) = (zs.take n).map V.int:=by
 unfold cutV
 rw [HT.ziX,HT.zkx,List.drop_zero,List.length_map,Nat.sub_zero,<- List.map_take]
 congr 1
 by_cases h : n <= zs.length
 ·rw [Nat.min_eq_left h]
 ·rw [Nat.min_eq_right (by omega),List.take_of_length_le (Nat.le_refl _),List.take_of_length_le (by omega)]
theorem zbG {n : Nat} (h : n <= 100000) : n <= sizeLine:=Nat.le_trans h (by decide)
theorem zbb {n : Nat} (h : n <= 100000) : n < sizeLine:=Nat.lt_of_le_of_lt h (by decide)
end L2
namespace L2
open PySem PySem.Spec PyProof.Rows
def tCut (t : TS) : TS:=fun D σ H=>∃ M : St -> Hp -> Prop,t { D with nx:=M } σ H /\ ∀ σ' H',M σ' H' -> D.nx σ' H'
theorem zhm {X : Cx} {st : Stmt} {t : TS} (h : PS X st t) : PS X st (tCut t):=by
 intro pins s σ H D I hw
 obtain ⟨M,h1,h2⟩:=hw
 refine thn (h pins s σ H _ I h1) fun f s1 q=>?_
 cases f with
 | next=>obtain ⟨σ',H',I',m⟩:=q; exact ⟨σ',H',I',h2 σ' H' m⟩
 | ret v=>exact q
 | brk=>exact q
 | cont=>exact q
end L2
namespace L2
open PySem PySem.Spec PyProof.Rows
section
variable {X : Cx} {pins : List (Addr × Obj)} {σ : St} {H : Hp} {s : Shared} {h' : Heap}
theorem Inv.turnLay {t' : Nat} {ch : List Addr} {l : Addr} {o : HO} (I : Inv X pins σ H s) (k : ∀ b u,b ∉ ch -> s.heap.get? b = some u -> h'.get? b = some u) (hf : ∀ b ∈ ch,FpOk X pins H b)
 (hp : s.heap.objs.size <= l) (new : zbV X.prog X.w (upd H l o) h' l o) : Inv X pins σ (upd H l o) { s with heap:=h',toks:=t' }:=by
 have hn:=I.hok.fresh hp
 have nch : ∀ b u,H b = some u -> b ∉ ch:=fun b u e z=>by rw [(hf b z).1] at e; cases e
 refine I.step (g':=s.gens) (d':=s.drawn) (ch:=ch) (fun b hb=>?_) (fun b u _ _ hc e _=>k b u hc e) (fun b u _ _ hc e _=>⟨u.slots,k b u hc e⟩)
  (fun b u _ e n=>?_) (fun b u hc e=>⟨u,k b u hc e⟩) (fun b xs e=>?_) (fun b u xs e=>?_) (fun b ps e=>⟨#[],?_⟩) (fun m hm=>?_) (fun b u e=>?_) I.bare
 ·obtain ⟨f0,f1,f2,f3,f4,f5⟩:=hf b hb
  exact ⟨f3,f1,f4,f5⟩
 ·rw [zai (Nat.ne_of_lt (Nat.lt_of_lt_of_le (Heap.lt_size e) hp))]
  exact n
 ·rw [zai (zay e hn)]
  exact e
 ·rw [zai (zay e hn)]
  exact e
 ·rw [zai (zay e hn),e]
  simp
 ·obtain ⟨ob,es,ep,ho,r⟩:=hm
  exact ⟨ob,es,ep,k _ ob (fun z=>(hf _ z).2.1 rfl) ho,r⟩
 ·by_cases hb : b = l
  ·subst hb
   rw [upd_same] at e
   cases e
   exact new
  ·rw [zai hb] at e
   refine (I.hok b u e).stay (fun c v hc q=>k c v ?_ q) (fun c q=>by rw [zai (zay q hn)]; exact q) fun c xs q=>by rw [zai (zay q hn)]; exact q
   rcases hc with z | z
   ·rw [z]; exact nch b u e
   ·exact nch c _ z
end
def Ite (K : PySem.W.Frag) (a : Addr) : It :=
 ⟨fun i H=>∃ xs x,SqL K H a xs /\ xs[i]? = some x,fun i H v H'=>∃ t x,v = .ref t /\ H t = none /\ (∀ xs,SqL K H a xs -> xs[i]? = some x) /\ H' = upd H t (.tup [.int i,x]),fun i H=>∃ xs,SqL K H a xs /\ xs.length <= i⟩
theorem zkG {P : Program} {w : World} {K : PySem.W.Frag} {es : List Expr} {k1 : Nat} {tp : Pos} (a e it : Addr) (hne : e ≠ it) :
 Turn P w K (.Tuple es k1 tp) (Ite K a) [e,it] e (fun i h=>(∃ old,IsEnum h e it (i : Nat) old) /\ h.IsListIter it a i) where
 mem:=by simp
 obj:=fun i h st b hb=>by
  obtain ⟨⟨old,e1⟩,o,e2,c,d⟩:=st
  have z : b = e \/ b = it:=by simpa using hb
  rcases z with rfl | rfl
  ·refine ⟨_,e1,fun v z=>?_⟩
   have z' : Data.fields _ = Data.cell v:=z
   cases z'
  ·exact ⟨o,e2,fun v z=>by rw [d] at z; cases z⟩
 keep:=fun i h h' st k=>⟨let ⟨old,e1⟩:=st.1; ⟨old,k e (by simp) _ e1⟩,st.2.at fun o e=>k it (by simp) o e⟩
 item:=by
  intro X hP hw hK hc i pins s σ H E I hf st hg
  subst hP hw hK
  obtain ⟨xs,x,hq,hx⟩:=hg
  obtain ⟨its,rv,p,hz⟩:=I.list hq
  obtain ⟨u,hu,ru⟩:=rv.get hx
  obtain ⟨⟨old,he⟩,hit⟩:=st
  have heL : e < s.heap.objs.size:=Heap.lt_size he
  refine wpAny_pyNext_enum_item he hit p.isList (x:=u) (by simpa using hu) hne fun h1 heo hit1 ht1 hz1 hk1=>⟨_,rfl,?_⟩
  refine wpAny_letOwnedTupleGo_enum heo fun h2 he2 hs2=>?_
  replace hs2 : Heap.SameBut e h1 h2:=hs2
  have ht2 : h2.get? s.heap.objs.size = some { cls:=.type "tuple",data:=.seq #[.int i s.toks,u] }:=(hs2.2 _ (Nat.ne_of_gt heL)).trans ht1
  have kk : ∀ b o,b ∉ [e,it] -> s.heap.get? b = some o -> h2.get? b = some o:=fun b o hb q=>by
   have h1 : b ≠ e:=fun z=>hb (by simp [z])
   have h2 : b ≠ it:=fun z=>hb (by simp [z])
   exact (hs2.2 b h1).trans (hk1 b o h1 h2 q)
  have hn : H s.heap.objs.size = none:=I.hok.fresh (Nat.le_refl _)
  have I2 : Inv X pins σ (upd H s.heap.objs.size (.tup [.int i,x])) { s with heap:=h2,toks:=s.toks + 1 } :=
   I.turnLay kk hf (Nat.le_refl _) ⟨Nat.le_of_ble_eq_true rfl,[.int i s.toks,u],.cons ⟨_,rfl⟩ (.cons ru .nil),⟨_,ht2,rfl,0,rfl⟩⟩
  refine ⟨.ref s.heap.objs.size,_,I2,rfl,⟨_,x,rfl,hn,fun ys hy=>by rw [I.list_inj hy hq]; exact hx,rfl⟩,⟨⟨u,?_⟩,hit1.extBut hs2.extBut (Ne.symm hne)⟩,fun b hb=>?_⟩
  ·have e1 : ((i + 1 : Nat) : Int) = (i : Int) + 1:=by omega
   rw [e1]
   exact he2
  ·rw [zai]
   ·exact (hf b hb).1
   ·have z : b = e \/ b = it:=by simpa using hb
    obtain ⟨oi,hoi,_⟩:=hit
    rcases z with rfl | rfl
    ·exact Nat.ne_of_lt heL
    ·exact Nat.ne_of_lt (Heap.lt_size hoi)
 done:=by
  intro X hP hw hK hc i pins s σ H E I hf st hg
  subst hP hw hK
  obtain ⟨xs,hq,hx⟩:=hg
  obtain ⟨its,rv,p,hz⟩:=I.list hq
  obtain ⟨f0,f1,f2,f3,f4,f5⟩:=hf it (by simp)
  obtain ⟨⟨old,he⟩,hit⟩:=st
  have hl:=rv.length
  exact wpAny_pyNext_enum_end (I.ok.hd hc) he hit p.isList (by simp; omega) fun h' eb=>⟨rfl,I.turned (t':=s.toks) (fun b o hb e=>eb b o hb e) f0 f1 f3 f4 f5⟩
 self:=fun _ _ _ _ _ st h=>let ⟨⟨_,e1⟩,_⟩:=st; wpAny_pyIter_enum e1 h
theorem zht : bootBuiltins "enumerate" = some (.type "enumerate"):=by decide +kernel
section
variable {X : Cx} {es : List Expr} {k1 : Nat} {tp : Pos}
def zoH (K : PySem.W.Frag) (ta : TA) : TI:=fun σ H R=>ta σ H fun vs H1=>∃ a,vs = [.ref a] /\ (∃ xs,SqL K H1 a xs) /\ R (Ite K a) H1
theorem zny {a : Expr} {ta : TA} {p pos : Pos} (hg : Gl X "enumerate") (hm : X.mg "enumerate" = none) (ha : PA X [a] ta) (hs : starEach [a] X.env = (false,eval a X.env) :: starEach [] X.env:=by rfl) :
 PI X (.Tuple es k1 tp) (.Call (.Name "enumerate" p) [a] [] pos) (zoH X.K ta):=by
 intro pins s σ H R I h
 refine wpAny_Call_Name_kw (zhD I hg hm zht ?_)
 refine PyProof.Rows.callWith_type1 (thn (ha pos pins s σ H _ I h) fun us s1 ⟨vs,H1,I1,r1,q1⟩=>?_) hs (by rfl)
 obtain ⟨l,rfl,⟨xs,hq⟩,q⟩:=q1
 obtain ⟨u,rfl,ru⟩:=zkh r1
 cases ru
 obtain ⟨its,rv,pl,hz⟩:=I1.list hq
 refine call_enumerate_list pl.isList fun h' he hit hsz hk=>?_
 refine wpAny_pyIter_enum he ?_
 refine ⟨s1.heap.objs.size + 1,[s1.heap.objs.size + 1,s1.heap.objs.size],_,_,H1,rfl,I1.kept (t':=s1.toks) hk,zkG l _ s1.heap.objs.size (Nat.succ_ne_self _),⟨⟨.none,he⟩,hit⟩,fun b hb=>?_,q⟩
 have z : b = s1.heap.objs.size + 1 \/ b = s1.heap.objs.size:=by simpa using hb
 have hge : s1.heap.objs.size <= b:=by rcases z with rfl | rfl <;> omega
 exact I1.fpOk hge (I1.hok.fresh hge)
end
theorem zcY {K : PySem.W.Frag} {a : Addr} {xs : List V} {g : TG} {tb : TS} {D : Ends} {σ : St} {H : Hp} (Pv : Nat -> St -> Hp -> Prop) (h0 : Pv 0 σ H) (hl : ∀ i σ H,i <= xs.length -> Pv i σ H -> SqL K H a xs)
 (hs : ∀ i x t σ H,xs[i]? = some x -> Pv i σ H -> H t = none -> g (.ref t) σ (upd H t (.tup [.int i,x])) fun σ2 H2=>tb { D with nx:=Pv (i + 1),ct:=Pv (i + 1),bk:=D.nx } σ2 H2) (hd : ∀ σ H,Pv xs.length σ H -> D.nx σ H) :
 ∃ W : Nat -> Nat -> St -> Hp -> Prop,(∃ m,W 0 m σ H) /\ ∀ i m σ H,W i m σ H ->
  ((Ite K a).stop i H /\ D.nx σ H) \/ ((Ite K a).go i H /\ ∃ N : St -> Hp -> Prop,(∀ σ' H',N σ' H' -> ∃ m',m' < m /\ W (i + 1) m' σ' H') /\ ∀ x H',(Ite K a).yld i H x H' -> g x σ H' fun σ2 H2=>tb { D with nx:=N,ct:=N,bk:=D.nx } σ2 H2):=by
 refine ⟨fun i m σ H=>m = xs.length - i /\ i <= xs.length /\ Pv i σ H,⟨xs.length,by simp,Nat.zero_le _,h0⟩,?_⟩
 rintro i m σ H ⟨rfl,hi,p⟩
 have q:=hl i σ H hi p
 by_cases hlt : i < xs.length
 ·refine .inr ⟨⟨xs,xs[i],q,by simp [hlt]⟩,Pv (i + 1),fun σ' H' p'=>⟨xs.length - (i + 1),by omega,rfl,hlt,p'⟩,fun v H' y=>?_⟩
  obtain ⟨t,x,rfl,hn,hx,rfl⟩:=y
  exact hs i x t σ _ (hx xs q) p hn
 ·have e : i = xs.length:=by omega
  subst e
  exact .inl ⟨⟨xs,q,Nat.le_refl _⟩,hd σ H p⟩
end L2
namespace L2
open PySem PySem.Spec PyProof.Rows
mutual
inductive Den (K : PySem.W.Frag) (H : Hp) : V -> PyData -> Prop
 | non : Den K H .non .none
 | bl (b : Bool) : Den K H (.bl b) (.bool b)
 | int (i : Int) : Den K H (.int i) (.int i)
 | str (x : Str) : PyData.canLay0 (.str x) = true -> Den K H (.str x) (.str x)
 | lst {a xs ds} : SqL K H a xs -> DenL K H xs ds -> Den K H (.ref a) (.list ds)
 | tup {a xs ds} : SqT K H a xs -> DenL K H xs ds -> Den K H (.ref a) (.tuple ds)
inductive DenL (K : PySem.W.Frag) (H : Hp) : List V -> List PyData -> Prop
 | nil : DenL K H [] []
 | cons {x xs d ds} : Den K H x d -> DenL K H xs ds -> DenL K H (x :: xs) (d :: ds)
end
section
variable {X : Cx} {pins : List (Addr × Obj)} {σ : St} {H : Hp} {s : Shared}
mutual
theorem zcV (I : Inv X pins σ H s) : ∀ (d : PyData) (v : V) (u : Value),Den X.K H v d -> RelV v u -> ∃ as,Reads s.heap u d as
 | .none,v,u,h,r=>by cases h; cases r; exact ⟨_,.none⟩
 | .bool b,v,u,h,r=>by cases h; cases r; exact ⟨_,.bool b⟩
 | .int i,v,u,h,r=>by cases h; obtain ⟨t,rfl⟩:=r; exact ⟨_,.int i t⟩
 | .str x,v,u,h,r=>by cases h; obtain ⟨t,rfl⟩:=r; exact ⟨_,.str x t⟩
 | .list ds,v,u,h,r=>by
   cases h with
   | lst hq hl =>
     cases r
     obtain ⟨its,rv,⟨o,n,e,c,_,d⟩,_⟩:=I.list hq
     obtain ⟨as,q⟩:=zeg I ds _ _ hl rv
     exact ⟨_,.list e c d (by simpa using q)⟩
 | .tuple ds,v,u,h,r=>by
   cases h with
   | tup hq hl =>
     cases r
     obtain ⟨its,rv,⟨o,e,c,n,d⟩,_⟩:=I.tuple hq
     obtain ⟨as,q⟩:=zeg I ds _ _ hl rv
     exact ⟨_,.tuple e c d (by simpa using q)⟩
 | .dict _,v,u,h,r=>by cases h
theorem zeg (I : Inv X pins σ H s) : ∀ (ds : List PyData) (xs : List V) (us : List Value),DenL X.K H xs ds -> Vals xs us -> ∃ as,ReadsAll s.heap us ds as
 | [],xs,us,h,r=>by cases h; cases r; exact ⟨_,.nil⟩
 | d :: ds,xs,us,h,r=>by
   cases h with
   | cons h1 h2 =>
     cases r with
     | cons r1 r2 =>
       obtain ⟨a1,q1⟩:=zcV I d _ _ h1 r1
       obtain ⟨a2,q2⟩:=zeg I ds _ _ h2 r2
       exact ⟨_,.cons q1 q2⟩
end
mutual
theorem zei {K : PySem.W.Frag} : ∀ (d : PyData) (v : V),Den K H v d -> d.canLay0 = true
 | .none,v,h=>rfl
 | .bool b,v,h=>rfl
 | .int i,v,h=>rfl
 | .str x,v,h=>by cases h with | str _ q=>exact q
 | .list ds,v,h=>by cases h with | lst _ q=>exact zgp ds _ q
 | .tuple ds,v,h=>by cases h with | tup _ q=>exact zgp ds _ q
 | .dict _,v,h=>by cases h
theorem zgp {K : PySem.W.Frag} : ∀ (ds : List PyData) (xs : List V),DenL K H xs ds -> PyData.canLayAll0 ds = true
 | [],xs,h=>rfl
 | d :: ds,xs,h=>by
   cases h with
   | cons h1 h2 =>
     show (PyData.canLay0 d && PyData.canLayAll0 ds) = true
     rw [zei d _ h1,zgp ds _ h2]
     rfl
end
def rEqD (K : PySem.W.Frag) (neg : Bool) : R2:=fun x y H Q=>∃ d e,Den K H x d /\ Den K H y e /\ min d.depth e.depth <= 64 /\ Q (.bl (if neg then !PyData.eqv d e else PyData.eqv d e)) H
theorem zqA (hu : X.A.units + 64 < cLine) : OpR X (compareOp .Eq) (rEqD X.K false):=by
 intro pins s σ H x y v u Q I rx ry h
 obtain ⟨d,e,hd,he,hz,q⟩:=h
 obtain ⟨as,ra⟩:=zcV I d _ _ hd rx
 obtain ⟨bs,rb⟩:=zcV I e _ _ he ry
 exact PySem.SeqAt.eqOverData X.prog X.w X.A X.xe s v u d e as bs _ ra rb (zei d _ hd) (zei e _ he) (by omega) ⟨.bl _,H,I,rfl,q⟩
theorem zsq (hu : X.A.units + 64 < cLine) : OpR X (compareOp .NotEq) (rEqD X.K true):=by
 intro pins s σ H x y v u Q I rx ry h
 obtain ⟨d,e,hd,he,hz,q⟩:=h
 obtain ⟨as,ra⟩:=zcV I d _ _ hd rx
 obtain ⟨bs,rb⟩:=zcV I e _ _ he ry
 exact PySem.SeqAt.neOverData X.prog X.w X.A X.xe s v u d e as bs _ ra rb (zei d _ hd) (zei e _ he) (by omega) ⟨.bl _,H,I,rfl,q⟩
end
mutual
def nb : PyData -> Bool
 | .none | .int _ | .str _=>true
 | .bool _ | .dict _=>false
 | .list xs | .tuple xs=>nbL xs
def nbL : List PyData -> Bool
 | []=>true
 | x :: xs=>nb x && nbL xs
end
mutual
theorem zmZ : ∀ (d e : PyData),nb d = true -> nb e = true -> (PyData.eqv d e = true ↔ d = e)
 | .none,e,_,h=>by cases e <;> first | (simp [PyData.eqv]; done) | cases h
 | .int i,e,_,h=>by cases e <;> first | (simp [PyData.eqv]; done) | cases h
 | .str i,e,_,h=>by cases e <;> first | (simp [PyData.eqv]; done) | cases h
 | .bool _,_,h,_=>by cases h
 | .dict _,_,h,_=>by cases h
 | .list xs,e,h1,h=>by
   cases e with
   | list ys =>
     have q:=zgz xs ys h1 h
     show PyData.eqvAll xs ys = true ↔ _
     rw [q]
     exact ⟨fun z=>by rw [z],fun z=>PyData.list.inj z⟩
   | none=>simp [PyData.eqv]
   | int _=>simp [PyData.eqv]
   | str _=>simp [PyData.eqv]
   | tuple _=>simp [PyData.eqv]
   | bool _=>cases h
   | dict _=>cases h
 | .tuple xs,e,h1,h=>by
   cases e with
   | tuple ys =>
     have q:=zgz xs ys h1 h
     show PyData.eqvAll xs ys = true ↔ _
     rw [q]
     exact ⟨fun z=>by rw [z],fun z=>PyData.tuple.inj z⟩
   | none=>simp [PyData.eqv]
   | int _=>simp [PyData.eqv]
   | str _=>simp [PyData.eqv]
   | list _=>simp [PyData.eqv]
   | bool _=>cases h
   | dict _=>cases h
theorem zgz : ∀ (xs ys : List PyData),nbL xs = true -> nbL ys = true -> (PyData.eqvAll xs ys = true ↔ xs = ys)
 | [],[],_,_=>by simp [PyData.eqvAll]
 | [],_ :: _,_,_=>by simp [PyData.eqvAll]
 | _ :: _,[],_,_=>by simp [PyData.eqvAll]
 | x :: xs,y :: ys,h1,h2=>by
   have a : nb x = true /\ nbL xs = true:=by
    have : (nb x && nbL xs) = true:=h1
    simpa using this
   have b : nb y = true /\ nbL ys = true:=by
    have : (nb y && nbL ys) = true:=h2
    simpa using this
   have q1:=zmZ x y a.1 b.1
   have q2:=zgz xs ys a.2 b.2
   show (PyData.eqv x y && PyData.eqvAll xs ys) = true ↔ _
   rw [Bool.and_eq_true,q1,q2]
   simp
end
end L2
namespace L2
open PySem PySem.Spec PyProof.Rows
section
variable {prog : Program} {w : World} {A : Around} {R : Result -> Shared -> Prop} {s : Shared}
theorem zhp {elt target iter : Expr} {ifs : List Expr} {scope : Scope} {pos : Pos} {it acc : Value} {env : Env} (I : Nat -> Shared -> Prop)
 (turn : ∀ n s,I n s -> wpAny (model prog w) A (pyNext it) (fun r s1=>match r with
   | none=>R (.ok .next) s1
   | some v=>wpAny (model prog w) A (letOwnedTupleGo target it v) (fun _ s1'=>wpAny (model prog w) A (assign target env v) (fun _ s2 =>
      wpAny (model prog w) A (forIn ifs true fun c r=>if r = true then do let ok <- isTrue c env (eval c env); pure (ForInStep.yield ok) else pure (ForInStep.yield r)) (fun ok s3 =>
       if ok = true then wpAny (model prog w) A (eval elt env) (fun x s4 =>
        wpAny (model prog w) A (call (.builtin "list.append") [acc,x]) (fun _ s5=>∃ m,m < n /\ I m s5) (fun _ _=>False) s4) (fun _ _=>False) s3
       else ∃ m,m < n /\ I m s3) (fun _ _=>False) s2) (fun _ _=>False) s1') (fun _ _=>False) s1) (fun _ _=>False) s)
 (n : Nat) (h : I n s) :
 codeAny (model prog w) A (.compLoop (.ListComp elt [⟨target,iter,ifs,0⟩] scope pos) 0 it acc env) R s:=by
 refine codeAny_loop rfl I (fun n s hI=>?_) n h
 show wpAny _ A ((compTurn (.ListComp elt [⟨target,iter,ifs,0⟩] scope pos) 0 it acc env).onRaise (fun x=>do noteFrame x env; theTreesLotGoes x)) _ _ s
 refine wpAny_noted ?_
 rw [compTurn_list]
 refine wpAny_bind (wpAny_standAt (wpAny_bind (wpAny_mono (turn n s hI) (fun r s1 h1=>?_) fun _ _ h'=>False.elim h')))
 cases r with
 | none=>exact wpAny_pure h1
 | some v =>
   refine wpAny_bind (wpAny_mono h1 (fun _ s1' h1'=>?_) fun _ _ h'=>False.elim h')
   refine wpAny_bind (wpAny_mono h1' (fun _ s2 h2=>wpAny_bind (wpAny_mono h2 (fun ok s3 h3=>?_) fun _ _ h'=>False.elim h')) fun _ _ h'=>False.elim h')
   cases ok with
   | false=>exact wpAny_pure ⟨rfl,h3⟩
   | true =>
     exact wpAny_bind (wpAny_bind (wpAny_mono h3 (fun x s4 h4=>wpAny_bind (wpAny_mono h4 (fun _ s5 h5=>wpAny_pure (wpAny_pure ⟨rfl,h5⟩)) fun _ _ h'=>False.elim h')) fun _ _ h'=>False.elim h'))
end
def zaw (env : Env) : List (Str × NameKind) -> List (Str × Addr) -> List (Str × Addr)
 | [],acc=>acc
 | (n,k) :: r,acc=>if (k == .free) = true then zaw env r ((n,(env.cells.lookup n).getD 0) :: acc) else zaw env r acc
theorem zcw {env : Env} (P : Str -> Addr -> Prop) : ∀ (names : List (Str × NameKind)) (acc : List (Str × Addr)),(∀ x ∈ names,x.2 = .free -> ∃ c,env.cells.lookup x.1 = some c) -> (∀ n c,(n,c) ∈ acc -> P n c) ->
 (∀ n c,env.cells.lookup n = some c -> P n c) -> ∀ n c,(n,c) ∈ zaw env names acc -> P n c
 | [],acc,_,ha,_,n,c,h=>ha n c h
 | (m,k) :: r,acc,hf,ha,hp,n,c,h=>by
   unfold zaw at h
   split at h
   ·rename_i hk
    refine zcw P r _ (fun x hx=>hf x (List.mem_cons_of_mem _ hx)) (fun n' c' h'=>?_) hp n c h
    rcases List.mem_cons.mp h' with e | h'
    ·obtain ⟨c0,e0⟩:=hf (m,k) List.mem_cons_self (eq_of_beq hk)
     injection e with e1 e2
     subst e1 e2
     rw [e0]
     exact hp _ _ e0
    ·exact ha n' c' h'
   ·exact zcw P r acc (fun x hx=>hf x (List.mem_cons_of_mem _ hx)) ha hp n c h
theorem zcx {env : Env} : ∀ (names : List (Str × NameKind)) (acc : List (Str × Addr)) (x : Str × Addr),x ∈ acc -> x ∈ zaw env names acc
 | [],_,_,h=>h
 | (m,k) :: r,acc,x,h=>by
   unfold zaw
   split
   ·exact zcx r _ x (List.mem_cons_of_mem _ h)
   ·exact zcx r _ x h
theorem zcE {env : Env} : ∀ (names : List (Str × NameKind)) (acc : List (Str × Addr)) (x : Str),(x,NameKind.free) ∈ names -> ∃ c,(x,c) ∈ zaw env names acc
 | [],_,_,h=>nomatch h
 | (m,k) :: r,acc,x,h=>by
   unfold zaw
   rcases List.mem_cons.mp h with e | h
   ·injection e with e1 e2
    subst e1 e2
    rw [if_pos (by decide)]
    exact ⟨_,zcx r _ _ List.mem_cons_self⟩
   ·split
    ·exact zcE r _ x h
    ·exact zcE r _ x h
theorem zfX {scope : Scope} {env : Env} (hf : ∀ x ∈ scope.names,x.2 = .free -> ∃ c,env.cells.lookup x.1 = some c) : closureFor scope env = pure (zaw env scope.names []):=by
 have go : ∀ (names : List (Str × NameKind)) (acc : List (Str × Addr)),(∀ x ∈ names,x.2 = .free -> ∃ c,env.cells.lookup x.1 = some c) ->
  (forIn names acc fun (x : Str × NameKind) (r : List (Str × Addr))=>(match x with
    | (name,kind)=>if (kind == NameKind.free) = true then do
        let a <- cellOf env name
        pure (ForInStep.yield ((name,a) :: r))
     else pure (ForInStep.yield r) : Sem (ForInStep (List (Str × Addr))))) = pure (zaw env names acc):=by
  intro names
  induction names with
  | nil=>intro acc _; rw [List.forIn_nil]; rfl
  | cons x r ih =>
    intro acc hf
    obtain ⟨n,k⟩:=x
    rw [List.forIn_cons]
    unfold zaw
    by_cases hk : (k == NameKind.free) = true
    ·obtain ⟨c,e⟩:=hf (n,k) List.mem_cons_self (eq_of_beq hk)
     simp only [hk,if_true]
     have e2 : cellOf env n = pure c:=by unfold cellOf; rw [e]
     rw [e2,e]
     simp only [pure_bind,Option.getD_some]
     exact ih _ fun x hx=>hf x (List.mem_cons_of_mem _ hx)
    ·simp only [hk,if_false]
     exact ih _ fun x hx=>hf x (List.mem_cons_of_mem _ hx)
 simp only [closureFor]
 have:=go scope.names [] hf
 first
  | exact this
  | (simp only [bind_pure]; exact this)
  | (rw [this]; rfl)
theorem zbj : ∀ (names : List (Str × NameKind)) (n : Nat) (acc : List (Str × Addr)),cellsFrom n names acc = cellsFrom n names [] ++ acc
 | [],_,_=>rfl
 | (m,k) :: r,n,acc=>by
   unfold cellsFrom
   split
   ·rw [zbj r (n + 1) ((m,n) :: acc),zbj r (n + 1) [(m,n)],List.append_assoc]
    rfl
   ·exact zbj r n acc
theorem zcB : ∀ (names : List (Str × NameKind)) (n : Nat) (acc : List (Str × Addr)) (x : Str × Addr),x ∈ cellsFrom n names acc -> (x.1,NameKind.cell) ∈ names \/ x ∈ acc
 | [],_,_,_,h=>.inr h
 | (m,k) :: r,n,acc,x,h=>by
   unfold cellsFrom at h
   split at h
   ·rename_i hk
    rcases zcB r _ _ x h with q | q
    ·exact .inl (List.mem_cons_of_mem _ q)
    ·rcases List.mem_cons.mp q with e | q
     ·rw [e,eq_of_beq hk]
      exact .inl List.mem_cons_self
     ·exact .inr q
   ·rcases zcB r _ _ x h with q | q
    ·exact .inl (List.mem_cons_of_mem _ q)
    ·exact .inr q
theorem zdd {α : Type} (x : Str) : ∀ (l r : List (Str × α)),(l ++ r).lookup x = (l.lookup x).or (r.lookup x)
 | [],r=>by simp
 | (k,v) :: l,r=>by
   rw [List.cons_append,List.lookup_cons,List.lookup_cons]
   cases hb : x == k with
   | true=>rfl
   | false=>exact zdd x l r
theorem zcl {α : Type} {x : Str} : ∀ {l : List (Str × α)} {c : α},(x,c) ∈ l -> ∃ c',l.lookup x = some c'
 | (k,v) :: l,c,h=>by
   rw [List.lookup_cons]
   cases hb : x == k with
   | true=>exact ⟨v,rfl⟩
   | false =>
     rcases List.mem_cons.mp h with e | h
     ·injection e with e1 e2
      subst e1
      rw [beq_self_eq_true] at hb
      cases hb
     ·exact zcl h
theorem zbN {scope : Scope} {env : Env} {x : Str} {k : NameKind} (h : (relabel scope env).names.lookup x = some k) : ∃ k0,scope.names.lookup x = some k0 /\ (k = k0 \/ (k = .cell /\ k0 = .free)):=by
 have go : ∀ names : List (Str × NameKind),(names.map fun (n,k)=>if (k == NameKind.free && env.scope.kind == .function && env.kindOf n == some .cell) then (n,NameKind.cell) else (n,k)).lookup x = some k ->
  ∃ k0,names.lookup x = some k0 /\ (k = k0 \/ (k = .cell /\ k0 = .free)):=by
  intro names
  induction names with
  | nil=>intro h; cases h
  | cons y r ih =>
    obtain ⟨n,k1⟩:=y
    intro h
    replace h : List.lookup x ((if (k1 == NameKind.free && env.scope.kind == .function && env.kindOf n == some .cell) = true then (n,NameKind.cell) else (n,k1)) :: (r.map fun (n,k)=>if (k == NameKind.free && env.scope.kind == .function && env.kindOf n == some .cell) then (n,NameKind.cell) else (n,k))) = some k:=h
    by_cases hc : (k1 == NameKind.free && env.scope.kind == .function && env.kindOf n == some .cell) = true
    ·rw [if_pos hc] at h
     rw [List.lookup_cons] at h ⊢
     cases hb : x == n with
     | true =>
       rw [hb] at h
       have e : NameKind.cell = k:=Option.some.inj h
       simp only [Bool.and_eq_true] at hc
       exact ⟨k1,rfl,.inr ⟨e.symm,eq_of_beq hc.1.1⟩⟩
     | false=>rw [hb] at h; exact ih h
    ·rw [if_neg hc] at h
     rw [List.lookup_cons] at h ⊢
     cases hb : x == n with
     | true =>
       rw [hb] at h
       have e : k1 = k:=Option.some.inj h
       exact ⟨k1,rfl,.inl e.symm⟩
     | false=>rw [hb] at h; exact ih h
 exact go _ h
def zmK (scope : Scope) (env : Env) (C : Addr) (cells : List (Str × Addr)) : Env :=
 { scope:=relabel scope env,locals:=C,globals:=env.globals,cells:=cells,qual:=env.qual,func:=none,code:=env.code,frame:=env.frame,builtins:=env.builtins }
def zdn (X : Cx) (N' : List Str) (scope : Scope) (C : Addr) (cells : List (Str × Addr)) (s₀ : Shared) (H₀ : Hp) (ex : List Addr) : Cx :=
 { X with N:=N',s₀:=s₀,H₀:=H₀,env:=zmK scope X.env C cells,outer:=X.stack,stack:=X.stack,ex:=ex,fn:=fun x=>scope.names.lookup x == some .cell,pn:=[],xe:=fun _ _=>False }
def zjT (ms : List Nat) (k : Nat) (σ : St) : St:=ms.foldl (fun σ i=>σ.set i none) σ ++ List.replicate k none
theorem zeV (ms : List Nat) : ∀ σ : St,(ms.foldl (fun σ i=>σ.set i none) σ).length = σ.length:=by
 induction ms with
 | nil=>intro σ; rfl
 | cons m ms ih=>intro σ; rw [List.foldl_cons,ih,List.length_set]
theorem zkm (ms : List Nat) : ∀ (σ : St) (i : Nat) (v : V),(ms.foldl (fun σ i=>σ.set i none) σ)[i]? = some (some v) -> σ[i]? = some (some v) /\ i ∉ ms:=by
 induction ms with
 | nil=>intro σ i v h; exact ⟨h,by simp⟩
 | cons m ms ih =>
   intro σ i v h
   rw [List.foldl_cons] at h
   obtain ⟨h1,h2⟩:=ih _ i v h
   by_cases e : m = i
   ·subst e
    rw [List.getElem?_set] at h1
    split at h1
    ·split at h1 <;> cases h1
    ·exact absurd rfl ‹_›
   ·rw [List.getElem?_set_ne e] at h1
    exact ⟨h1,by simp only [List.mem_cons,not_or]; exact ⟨fun z=>e z.symm,h2⟩⟩
structure BlkOk (X : Cx) (N' : List Str) (scope : Scope) (ms : List Nat) (k : Nat) : Prop where
 kind : scope.kind = .function
 uniq : ∀ x ∈ scope.names,scope.names.lookup x.1 = some x.2
 free : ∀ x ∈ scope.names,x.2 = .free -> X.env.kindOf x.1 = some .cell \/ X.env.kindOf x.1 = some .free
 len : N'.length = X.N.length + k
 pre : ∀ i : Nat,i < X.N.length -> N'[i]? = X.N[i]?
 vis : ∀ i : Nat,i < X.N.length -> i ∉ ms -> ∀ x k',N'[i]? = some x -> scope.names.lookup x = some k' -> k' = .local \/ k' = .cell \/ k' = .free -> k' = .free
section
variable {X : Cx} {pins : List (Addr × Obj)} {σ : St} {H : Hp} {s : Shared}
theorem zkE {M : Model} {A : Around} {E : Value -> Shared -> Prop} {scope : Scope} {globals : Addr} {cl : List (Str × Addr)} {qual : Str} {env : Env} {Q : Env -> Shared -> Prop}
 (hQ : Q { scope:=scope,locals:=s.heap.objs.size,globals:=globals,cells:=cellsFrom (s.heap.objs.size + 1) scope.names cl,qual:=qual,func:=none,code:=env.code,frame:=env.frame,builtins:=env.builtins }
   { s with heap:=pushCells (s.heap.push { cls:=.type "dict",data:=.dict #[] }) scope.names }) :
 wpAny M A (newFunctionEnv scope globals cl [] qual none .none (some env)) Q E s:=by
 simp only [newFunctionEnv,Option.isSome_some,if_true]
 refine wpAny_bind (wpAny_alloc ?_)
 refine wpAny_bind (wpAny_layCells _ (fun name kind cells=>by cases hkc : kind == NameKind.cell <;> simp [hkc]) _ _ _ _ ?_)
 rw [show ({ s with heap:=s.heap.push { cls:=.type "dict",data:=.dict #[] } } : Shared).heap.objs.size = s.heap.objs.size + 1 from Heap.size_push ..]
 rw [List.forIn_nil]
 exact wpAny_bind (wpAny_pure (wpAny_pure hQ))
theorem znu {N' : List Str} {scope : Scope} {ms : List Nat} {k : Nat} {ex : List Addr} (I : Inv X pins σ H s) (B : BlkOk X N' scope ms k) (hex : ∀ b ∈ ex,FpOk X pins H b /\ b < s.heap.objs.size) :
 Inv (zdn X N' scope s.heap.objs.size (cellsFrom (s.heap.objs.size + 1) scope.names (zaw X.env scope.names [])) s H ex) [] (zjT ms k σ) H
  { s with heap:=pushCells (s.heap.push { cls:=.type "dict",data:=.dict #[] }) scope.names }:=by
 have hfree : ∀ x ∈ scope.names,x.2 = .free -> ∃ c,X.env.cells.lookup x.1 = some c:=fun x hx hk=>I.ok.has x.1 (B.free x hx hk)
 have keep : ∀ b o,s.heap.get? b = some o -> (pushCells (s.heap.push { cls:=.type "dict",data:=.dict #[] }) scope.names).get? b = some o:=fun b o e=>pushCells_keeps _ _ b o (Heap.get?_push_of_some _ e)
 have own:=cellsFrom_ok scope.names (s.heap.push { cls:=.type "dict",data:=.dict #[] }) (s.heap.objs.size + 1) [] ⟨fun _ _ hm=>(nomatch hm),List.Pairwise.nil⟩ (by rw [Heap.size_push]; exact Nat.le_refl _)
 rw [Heap.size_push] at own
 have clm : ∀ n c,(n,c) ∈ zaw X.env scope.names [] -> X.env.cells.lookup n = some c:=zcw (fun n c=>X.env.cells.lookup n = some c) scope.names [] hfree (fun _ _ h=>nomatch h) fun _ _ h=>h
 have clt : ∀ n (c : Addr),X.env.cells.lookup n = some c -> @LT.lt Nat instLTNat c s.heap.objs.size:=fun n c e=>by obtain ⟨v,q⟩:=I.cell n c e; exact q.lt
 have look : ∀ x c,(cellsFrom (s.heap.objs.size + 1) scope.names (zaw X.env scope.names [])).lookup x = some c ->
  ((x,c) ∈ cellsFrom (s.heap.objs.size + 1) scope.names [] /\ s.heap.objs.size + 1 <= c) \/ (X.env.cells.lookup x = some c /\ @LT.lt Nat instLTNat c s.heap.objs.size):=fun x c e=>by
  rw [zbj,zdd] at e
  cases q : (cellsFrom (s.heap.objs.size + 1) scope.names []).lookup x with
  | some c' =>
    rw [q] at e
    have e' : c' = c:=Option.some.inj e
    subst e'
    exact .inl ⟨mem_of_lookup q,(own.empty x c' (mem_of_lookup q)).2⟩
  | none =>
    rw [q] at e
    have e2:=clm x c (mem_of_lookup e)
    exact .inr ⟨e2,clt x c e2⟩
 have hasL : ∀ x,scope.names.lookup x = some .cell \/ scope.names.lookup x = some .free -> ∃ c,(cellsFrom (s.heap.objs.size + 1) scope.names (zaw X.env scope.names [])).lookup x = some c:=fun x hx=>by
  rw [zbj,zdd]
  cases q : (cellsFrom (s.heap.objs.size + 1) scope.names []).lookup x with
  | some c'=>exact ⟨c',rfl⟩
  | none =>
    rcases hx with hx | hx
    ·obtain ⟨c,e⟩:=zeD (n:=s.heap.objs.size + 1) hx
     rw [q] at e; cases e
    ·obtain ⟨c,hc⟩:=zcE (env:=X.env) scope.names [] x (PySem.mem_of_lookup hx)
     exact zcl hc
 have Ir:=I.lt
 refine ⟨⟨I.ok.mod,B.kind,I.ok.glob,I.ok.blt,Nat.le_refl _,fun x y c hx hy=>?_,fun x hx=>?_,fun x c hf hx=>?_,I.ok.hd,I.ok.frames,.inl rfl,fun b hb=>?_,I.bs,Nat.le_trans I.ok.bsz I.sz,fun b o e hb=>?_,fun b hb hfs=>?_,I.stack,I.stkFree⟩,
  rfl,I.bare,Un.kept keep,⟨fun _=>none,?_,fun i x v h1 h2 h3=>?_⟩,fun x c hx=>?_,?_,fun x c hx=>?_,fun p hp=>absurd (show p ∈ ([] : List (Addr × Obj)) from hp) (by simp),I.hok.kept keep,?_⟩
 ·rcases look x c hx with ⟨m1,l1⟩ | ⟨m1,l1⟩
  ·rcases look y c hy with ⟨m2,l2⟩ | ⟨m2,l2⟩
   ·exact name_of_addr own.apart m1 m2
   ·omega
  ·rcases look y c hy with ⟨m2,l2⟩ | ⟨m2,l2⟩
   ·omega
   ·exact I.ok.inj x y c m1 m2
 ·have hx : (relabel scope X.env).names.lookup x = some .cell \/ (relabel scope X.env).names.lookup x = some .free:=hx
  rcases hx with hx | hx
  ·obtain ⟨k0,e,z | ⟨_,z⟩⟩:=zbN hx
   ·exact hasL x (.inl (by rw [e,<- z]))
   ·exact hasL x (.inr (by rw [e,z]))
  ·obtain ⟨k0,e,z | ⟨z,_⟩⟩:=zbN hx
   ·exact hasL x (.inr (by rw [e,<- z]))
   ·cases z
 ·show s.heap.objs.size <= c
  have hf : (scope.names.lookup x == some .cell) = true:=hf
  have hf' : scope.names.lookup x = some .cell:=eq_of_beq hf
  have hx : (cellsFrom (s.heap.objs.size + 1) scope.names (zaw X.env scope.names [])).lookup x = some c:=hx
  rw [zbj,zdd] at hx
  obtain ⟨c',e⟩:=zeD (n:=s.heap.objs.size + 1) hf'
  rw [e] at hx
  have z : c' = c:=Option.some.inj hx
  subst z
  exact Nat.le_of_succ_le (own.empty x c' (mem_of_lookup e)).2
 ·obtain ⟨_,hlt⟩:=hex b hb
  refine ⟨Nat.ne_of_lt hlt,fun x c hx z=>?_⟩
  subst z
  have hlt' : @LT.lt Nat instLTNat c s.heap.objs.size:=hlt
  rcases look x c hx with ⟨_,l1⟩ | ⟨m1,_⟩
  ·omega
  ·obtain ⟨⟨_,_,_,_,f4,_⟩,_⟩:=hex c hb
   exact f4 x c m1 rfl
 ·obtain ⟨⟨_,_,_,f3,_,_⟩,_⟩:=hex b hb
  rcases f3 with z | z
  ·exact I.ok.noex b o e z
  ·have h1 : @LT.lt Nat instLTNat b X.base.objs.size:=Heap.lt_size e
   have h2:=I.ok.bsz
   have h3 : @LE.le Nat instLENat X.s₀.heap.objs.size b:=z
   omega
 ·obtain ⟨⟨_,f1,f2,_,_,_⟩,_⟩:=hex b hb
  rcases List.mem_cons.mp (I.stkSub b hfs) with z | z
  ·exact f1 z
  ·exact f2 z
 ·exact (Heap.Ns.new s.heap (.type "dict")).keeps (pushCells_keeps _ _)
 ·have hi : i < X.N.length:=by
   by_cases hi : i < X.N.length
   ·exact hi
   ·exfalso
    unfold zjT at h2
    have hl : (ms.foldl (fun σ i=>σ.set i none) σ).length = X.N.length:=by rw [zeV,I.len]
    rw [List.getElem?_append_right (by omega),List.getElem?_replicate] at h2
    split at h2 <;> cases h2
  have h2' : (ms.foldl (fun σ i=>σ.set i none) σ)[i]? = some (some v):=by
   unfold zjT at h2
   have hl : (ms.foldl (fun σ i=>σ.set i none) σ).length = X.N.length:=by rw [zeV,I.len]
   rw [List.getElem?_append_left (by omega)] at h2
   exact h2
  obtain ⟨h4,h5⟩:=zkm ms σ i v h2'
  have h1' : N'[i]? = some x:=h1
  have hXN : X.N[i]? = some x:=by rw [<- B.pre i hi]; exact h1'
  have h3 : (relabel scope X.env).names.lookup x = some .local \/ (relabel scope X.env).names.lookup x = some .cell \/ (relabel scope X.env).names.lookup x = some .free:=h3
  have fr : scope.names.lookup x = some .free:=by
   have go : ∀ k',(relabel scope X.env).names.lookup x = some k' -> k' = .local \/ k' = .cell \/ k' = .free -> scope.names.lookup x = some .free:=fun k' e hk=>by
    obtain ⟨k0,e0,z | ⟨_,z⟩⟩:=zbN e
    ·have:=B.vis i hi h5 x k0 h1' e0 (z ▸ hk)
     rw [e0,this]
    ·rw [e0,z]
   rcases h3 with h3 | h3 | h3
   ·exact go _ h3 (.inl rfl)
   ·exact go _ h3 (.inr (.inl rfl))
   ·exact go _ h3 (.inr (.inr rfl))
  have hk:=B.free (x,.free) (PySem.mem_of_lookup fr) rfl
  obtain ⟨m,hn,hl⟩:=I.loc
  obtain ⟨u,r,l⟩:=hl i x v hXN h4 (.inr hk)
  refine ⟨u,r,.inr ⟨?_,?_⟩⟩
  ·rcases h3 with h3 | h3
   ·exfalso
    obtain ⟨k0,e0,z | ⟨z,_⟩⟩:=zbN h3
    ·rw [fr] at e0; cases e0; cases z
    ·cases z
   ·exact h3
  ·rcases l with ⟨hloc,_⟩ | ⟨_,c,hc,hcell⟩
   ·rcases hk with hk | hk
    ·rw [hk] at hloc; cases hloc
    ·rw [hk] at hloc; cases hloc
   ·refine ⟨c,?_,hcell.keeps keep⟩
    obtain ⟨c2,e2⟩:=hasL x (.inr fr)
    have e2' : (cellsFrom (s.heap.objs.size + 1) scope.names (zaw X.env scope.names [])).lookup x = some c2:=e2
    rcases look x c2 e2' with ⟨m1,_⟩ | ⟨m1,_⟩
    ·exfalso
     rcases zcB scope.names _ _ _ m1 with q | q
     ·have:=B.uniq _ q
      rw [fr] at this
      cases this
     ·cases q
    ·rw [hc] at m1
     have z : c = c2:=Option.some.inj m1
     rw [z]
     exact e2
 ·rcases look x c hx with ⟨m1,_⟩ | ⟨m1,_⟩
  ·exact ⟨none,(own.empty x c m1).1⟩
  ·obtain ⟨v,q⟩:=I.cell x c m1
   exact ⟨v,q.keeps keep⟩
 ·exact I.hok.fresh (Nat.le_refl _)
 ·rcases look x c hx with ⟨_,l1⟩ | ⟨m1,_⟩
  ·exact I.hok.fresh (by omega)
  ·exact I.freeC x c m1
 ·show (zjT ms k σ).length = N'.length
  unfold zjT
  rw [List.length_append,zeV,List.length_replicate,I.len,B.len]
end
end L2
namespace L2
open PySem PySem.Spec PyProof.Rows
def ztw : TT:=fun _ H Q=>Q true H
def znr (J : It) (g : TG) (tc : TT) (te : TE) (D : Addr) (Q : VK) (σ0 : St) (H0 : Hp) : Prop:=∃ W : Nat -> Nat -> St -> Hp -> Prop,(∃ m,W 0 m σ0 (upd H0 D (.lst []))) /\
 ∀ i m σ' H2,W i m σ' H2 -> (J.stop i H2 /\ Q (.ref D) H2) \/ (J.go i H2 /\ ∀ x H3,J.yld i H2 x H3 -> g x σ' H3 fun σ2 H4=>tc σ2 H4 fun b H5 =>
  if b = true then te σ2 H5 fun v H6=>∃ ys,H6 D = some (.lst ys) /\ ys.length < sizeLine /\ ∃ m',m' < m /\ W (i + 1) m' σ2 (upd H6 D (.lst (ys ++ [v])))
  else ∃ m',m' < m /\ W (i + 1) m' σ2 H5)
def zmQ (wi : TI) (g : TG) (tc : TT) (te : TE) (ms : List Nat) (k : Nat) : TE:=fun σ H Q=>wi σ H fun J H1=>∀ D,H1 D = none -> znr J g tc te D Q (zjT ms k σ) H1
def PTs (X : Cx) (ifs : List Expr) (t : TT) : Prop :=
 ∀ (pins : List (Addr × Obj)) (s : Shared) (σ : St) (H : Hp) (Q : Bool -> Hp -> Prop),Inv X pins σ H s -> t σ H Q ->
  wpAny (model X.prog X.w) X.A (forIn ifs true fun c r=>if r = true then do let ok <- isTrue c X.env (eval c X.env); pure (ForInStep.yield ok) else pure (ForInStep.yield r)) (TP X pins σ Q) X.xe s
section
variable {X : Cx}
theorem zbH : PTs X [] ztw:=fun pins s σ H Q I h=>wpAny_tests_nil ⟨H,I,h⟩
theorem zir {c : Expr} {t : TT} (h : PT X c t) : PTs X [c] t:=fun pins s σ H Q I hw=>wpAny_tests_one (h pins s σ H Q I hw)
theorem zhq {elt target iter : Expr} {ifs : List Expr} {scope : Scope} {pos : Pos} {p : Pos} {wi : TI} {g : TG} {tc : TT} {te : TE} {N' : List Str} {ms : List Nat} {k : Nat} {use : Option (Value -> Sem Unit)}
 {Q : Value -> Shared -> Prop} {pins : List (Addr × Obj)} {s : Shared} {σ : St} {H : Hp} {Qv : VK} (hcalm : X.calm = true) (hi : PI X target iter wi)
 (B : BlkOk X N' scope ms k) (hg : ∀ C cells s₀ H₀ ex,PG (zdn X N' scope C cells s₀ H₀ ex) target g) (hc : ∀ C cells s₀ H₀ ex,PTs (zdn X N' scope C cells s₀ H₀ ex) ifs tc)
 (he : ∀ C cells s₀ H₀ ex,PE (zdn X N' scope C cells s₀ H₀ ex) elt te) (hs : ∀ x,foldedSetIterable iter X.env x = pure x) (I : Inv X pins σ H s) (hw : zmQ wi g tc te ms k σ H Qv)
 (hpost : ∀ (D : Addr) (H' : Hp) (s' : Shared) (C : Addr) (m : Str -> Option Value),Inv X pins σ H' s' -> s'.heap.Ns C m -> H' C = none -> C ≠ X.env.locals -> X.s₀.heap.objs.size <= C ->
   (∀ x c,X.env.cells.lookup x = some c -> c ≠ C) -> (∀ p ∈ X.pn ++ pins,p.1 ≠ C) -> Qv (.ref D) H' -> compPost (model X.prog X.w) X.A X.xe use Q (.ref D) C (.ok .next) s') :
 wpAny (model X.prog X.w) X.A (comprehension (.ListComp elt [⟨target,iter,ifs,0⟩] scope pos) scope X.env p (newList []) false (eval iter X.env) use) Q X.xe s:=by
 have hfree : ∀ x ∈ scope.names,x.2 = .free -> ∃ c,X.env.cells.lookup x.1 = some c:=fun x hx hk=>I.ok.has x.1 (B.free x hx hk)
 refine wpAny_comprehension_free (use:=use) rfl hs (zfX hfree) B.kind (fun x hx hl=>by rw [B.uniq x hx,hl]) ?_
 refine thn (hi pins s σ H _ I hw) fun v s1 h1=>thn h1 fun itv s2 h2=>?_
 obtain ⟨it,fp,tn,J,H2,rfl,I2,T,st2,f2,h2⟩:=h2
 refine wpAny_newObj_type ?_
 have I3 : Inv X pins σ (upd H2 s2.heap.objs.size (.lst [])) { s2 with heap:=s2.heap.push { cls:=.type "list",data:=.seq ([] : List Value).toArray } }:=I2.lnew (t':=s2.toks) .nil (Nat.zero_le _)
 obtain ⟨W,⟨m0,w0⟩,turn⟩:=h2 s2.heap.objs.size I2.fresh
 have hfp3 : ∀ b ∈ fp,FpOk X pins (upd H2 s2.heap.objs.size (.lst [])) b /\ b < (s2.heap.push { cls:=.type "list",data:=.seq ([] : List Value).toArray }).objs.size:=fun b hb=>by
  obtain ⟨o,e,_⟩:=T.obj _ _ st2 b hb
  have hlt:=Heap.lt_size e
  obtain ⟨f0,fr⟩:=f2 b hb
  refine ⟨⟨by rw [zai (Nat.ne_of_lt hlt)]; exact f0,fr⟩,?_⟩
  rw [Heap.size_push]
  exact Nat.lt_succ_of_lt hlt
 generalize hs3 : ({ s2 with heap:=s2.heap.push { cls:=.type "list",data:=.seq ([] : List Value).toArray } } : Shared) = s3 at I3
 have hh3 : s2.heap.push { cls:=.type "list",data:=.seq ([] : List Value).toArray } = s3.heap:=by rw [<- hs3]
 rw [hh3] at hfp3
 refine zkE ?_
 have I4:=znu I3 B hfp3
 have st4 : tn 0 (pushCells (s3.heap.push { cls:=.type "dict",data:=.dict #[] }) scope.names):=T.keep _ _ _ st2 fun b hb o e=>pushCells_keeps _ _ b o (Heap.get?_push_of_some _ (by rw [<- hh3]; exact Heap.get?_push_of_some _ e))
 have fr4 : ∀ b ∈ fp,upd H2 s2.heap.objs.size (.lst []) b = none:=fun b hb=>(hfp3 b hb).1.1
 generalize hs4 : ({ s3 with heap:=pushCells (s3.heap.push { cls:=.type "dict",data:=.dict #[] }) scope.names } : Shared) = s4 at I4
 have hh4 : pushCells (s3.heap.push { cls:=.type "dict",data:=.dict #[] }) scope.names = s4.heap:=by rw [<- hs4]
 rw [hh4] at st4
 have stat : ∀ {H' : Hp} {pn' : List (Addr × Obj)},pn' = [] -> (∀ b ∈ fp,H' b = none) -> ∀ b ∈ fp,FpOk (zdn X N' scope s3.heap.objs.size (cellsFrom (s3.heap.objs.size + 1) scope.names (zaw X.env scope.names [])) s3 (upd H2 s2.heap.objs.size (.lst [])) fp) pn' H' b:=fun hp hn b hb=>by
  obtain ⟨x1,x2⟩:=I4.ok.exf b hb
  exact ⟨hn b hb,x1,I4.ok.exfs b hb,.inl hb,x2,fun p hp'=>by rw [hp] at hp'; exact absurd (show p ∈ ([] : List (Addr × Obj)) from hp') (by simp)⟩
 have loop : ∀ it' : Value,it' = .ref it -> codeAny (model X.prog X.w) X.A (.compLoop (.ListComp elt [⟨target,iter,ifs,0⟩] scope pos) 0 it' (.ref s2.heap.objs.size) (zmK scope X.env s3.heap.objs.size (cellsFrom (s3.heap.objs.size + 1) scope.names (zaw X.env scope.names []))))
  (compPost (model X.prog X.w) X.A X.xe use Q (.ref s2.heap.objs.size) s3.heap.objs.size) s4:=by
  rintro it' rfl
  refine zhp (fun n s'=>∃ i σ' H',Inv (zdn X N' scope s3.heap.objs.size (cellsFrom (s3.heap.objs.size + 1) scope.names (zaw X.env scope.names [])) s3 (upd H2 s2.heap.objs.size (.lst [])) fp) [] σ' H' s' /\ tn i s'.heap /\ (∀ b ∈ fp,H' b = none) /\ W i n σ' H') ?_ m0 ⟨0,_,_,I4,st4,fr4,w0⟩
  rintro n s5 ⟨i,σ5,H5,I5,st5,fr5,w5⟩
  rcases turn i n σ5 H5 w5 with ⟨stop,q⟩ | ⟨go,step⟩
  ·refine thn (T.done (zdn X N' scope s3.heap.objs.size (cellsFrom (s3.heap.objs.size + 1) scope.names (zaw X.env scope.names [])) s3 (upd H2 s2.heap.objs.size (.lst [])) fp) rfl rfl rfl hcalm i [] s5 σ5 H5 (fun _ _=>False) I5 (stat rfl fr5) st5 stop) fun r s6 ⟨hr,I6⟩=>?_
   subst hr
   have I7 : Inv X pins σ H5 s6:=I3.call' I6.os I6.base I6.hok I6.bare fun b hb=>by
    obtain ⟨⟨_,f1,_,f3,f4,f5⟩,_⟩:=hfp3 b hb
    exact ⟨f3,f1,f4,f5⟩
   obtain ⟨m,hn,_⟩:=I6.loc
   have l3:=I3.lt
   refine hpost _ H5 s6 _ m I7 hn I6.free (Nat.ne_of_gt l3) I3.sz (fun x c e z=>?_) (fun p hp z=>?_) q
   ·obtain ⟨v,hv⟩:=I3.cell x c e
    have:=hv.lt
    rw [z] at this
    exact Nat.lt_irrefl _ this
   ·have:=Heap.lt_size (I3.pin p hp).1
    rw [z] at this
    exact Nat.lt_irrefl _ this
  ·refine thn (T.item (zdn X N' scope s3.heap.objs.size (cellsFrom (s3.heap.objs.size + 1) scope.names (zaw X.env scope.names [])) s3 (upd H2 s2.heap.objs.size (.lst [])) fp) rfl rfl rfl hcalm i [] s5 σ5 H5 (fun _ _=>False) I5 (stat rfl fr5) st5 go) fun r s6 ⟨u,hr,h6⟩=>?_
   subst hr
   refine thn h6 fun _ s7 ⟨x,H7,I7,r7,y7,st7,fr7⟩=>?_
   have I7':=I7.pinned (stat rfl fr7) (T.obj _ _ st7)
   refine thn (hg _ _ _ _ _ _ s7 σ5 H7 x u _ I7' r7 (step x H7 y7)) fun _ s8 ⟨σ8,H8,I8,q8⟩=>?_
   refine thn (hc _ _ _ _ _ _ s8 σ8 H8 _ I8 q8) fun b s9 ⟨H9,I9,q9⟩=>?_
   have again : ∀ {σ' : St} {H' : Hp} {s' : Shared},Inv (zdn X N' scope s3.heap.objs.size (cellsFrom (s3.heap.objs.size + 1) scope.names (zaw X.env scope.names [])) s3 (upd H2 s2.heap.objs.size (.lst [])) fp) ([] ++ zhI fp s7.heap) σ' H' s' ->
    (∃ m',m' < n /\ W (i + 1) m' σ' H') -> ∃ m,m < n /\ ∃ i σ'' H'',Inv (zdn X N' scope s3.heap.objs.size (cellsFrom (s3.heap.objs.size + 1) scope.names (zaw X.env scope.names [])) s3 (upd H2 s2.heap.objs.size (.lst [])) fp) [] σ'' H'' s' /\ tn i s'.heap /\ (∀ b ∈ fp,H'' b = none) /\ W i m σ'' H'':=fun {σ' H' s'} I' ⟨m',hm,w'⟩=>by
    refine ⟨m',hm,i + 1,σ',H',I'.unpinned,T.keep _ _ _ st7 fun b hb o e=>(I'.pin (b,o) (List.mem_append_right _ (List.mem_append_right _ (zde hb e)))).1,fun b hb=>?_,w'⟩
    obtain ⟨o,e,d⟩:=T.obj _ _ st7 b hb
    exact (I'.pin (b,o) (List.mem_append_right _ (List.mem_append_right _ (zde hb e)))).2.1
   cases b with
   | false =>
     rw [if_neg Bool.false_ne_true] at q9 ⊢
     exact again I9 q9
   | true =>
     rw [if_pos rfl] at q9 ⊢
     refine thn (he _ _ _ _ _ _ s9 σ8 H9 _ I9 q9) fun y s10 ⟨vy,H10,I10,r10,ys,hys,hz,q10⟩=>?_
     refine thn (zaN _ s10 σ8 H10 (.ref s2.heap.objs.size) [vy] (.ref s2.heap.objs.size) [y] (fun _ H'=>H' = upd H10 s2.heap.objs.size (.lst (ys ++ [vy]))) I10 rfl (.cons r10 .nil) ⟨_,ys,vy,rfl,rfl,hys,hz,rfl⟩) fun _ s11 ⟨_,H11,I11,_,e11⟩=>?_
     subst e11
     exact again I11 q10
 have fin:=codeAny_compStart_list (loop _ rfl) (T.self _ 0 s4 _ _ st4 (loop _ rfl))
 exact fin
theorem zbf {elt target iter : Expr} {ifs : List Expr} {scope : Scope} {pos : Pos} {wi : TI} {g : TG} {tc : TT} {te : TE} {N' : List Str} {ms : List Nat} {k : Nat} (hcalm : X.calm = true) (hi : PI X target iter wi)
 (B : BlkOk X N' scope ms k) (hg : ∀ C cells s₀ H₀ ex,PG (zdn X N' scope C cells s₀ H₀ ex) target g) (hc : ∀ C cells s₀ H₀ ex,PTs (zdn X N' scope C cells s₀ H₀ ex) ifs tc)
 (he : ∀ C cells s₀ H₀ ex,PE (zdn X N' scope C cells s₀ H₀ ex) elt te) (hs : ∀ x,foldedSetIterable iter X.env x = pure x:=by intro _; rfl) :
 PE X (.ListComp elt [⟨target,iter,ifs,0⟩] scope pos) (zmQ wi g tc te ms k):=by
 intro pins s σ H Q I h
 rw [eval_ListComp]
 refine zhq (use:=none) (Qv:=Q) hcalm hi B hg hc he hs I h fun D H' s' C m I' hn f0 f1 f3 f4 f5 q=>?_
 exact ⟨m,hn,fun h' sb=>⟨.ref D,H',I'.turned (t':=s'.toks) (fun b o hb e=>(sb.2 b hb).trans e) f0 f1 (.inr f3) f4 f5,rfl,q⟩⟩
theorem zks {i : Nat} {x : Str} {px : Pos} {spos : Pos} {elt target iter : Expr} {ifs : List Expr} {scope : Scope} {pos : Pos} {wi : TI} {g : TG} {tc : TT} {te : TE} {N' : List Str} {ms : List Nat} {k : Nat} (hN : X.N.Nodup) (hx : X.N[i]? = some x) (hl : Loc X.env.scope x)
 (hcalm : X.calm = true) (hi : PI X target iter wi) (B : BlkOk X N' scope ms k) (hg : ∀ C cells s₀ H₀ ex,PG (zdn X N' scope C cells s₀ H₀ ex) target g) (hc : ∀ C cells s₀ H₀ ex,PTs (zdn X N' scope C cells s₀ H₀ ex) ifs tc)
 (he : ∀ C cells s₀ H₀ ex,PE (zdn X N' scope C cells s₀ H₀ ex) elt te) (hsw : swapsWith (.ListComp elt [⟨target,iter,ifs,0⟩] scope pos) (some (.Name x px)) spos.line X.env = pure true:=by rfl) (hs : ∀ x,foldedSetIterable iter X.env x = pure x:=by intro _; rfl)
 (hf : X.fn x = true \/ X.env.scope.names.lookup x = some .local:=by first | exact .inl rfl | exact .inr rfl | assumption) :
 PS X (.Assign [.Name x px] (.ListComp elt [⟨target,iter,ifs,0⟩] scope pos) spos) (tAsg (zmQ wi g tc te ms k) (zlT i)):=by
 intro pins s σ H D I h
 rw [exec_Assign_Name_used _ _ _ _ hsw]
 refine wpAny_bind (wpAny_standAt (wpAny_bind ?_))
 show wpAny _ X.A (do let _ <- comprehension (.ListComp elt [⟨target,iter,ifs,0⟩] scope pos) scope X.env _ (newList []) false (eval iter X.env) (some (assign (.Name x px) X.env))) _ _ s
 refine wpAny_bind (wpAny_mono (zhq (use:=some (assign (.Name x px) X.env)) (Q:=fun _ s'=>∃ σ' H',Inv X pins σ' H' s' /\ D.nx σ' H') hcalm hi B hg hc he hs I h fun Da H' s' C m I' hn f0 f1 f3 f4 f5 q=>?_)
  (fun _ s' hq=>wpAny_pure (wpAny_pure hq)) fun _ _ e=>e)
 show wpAny _ X.A (assign (.Name x px) X.env (.ref Da)) _ _ s'
 refine wpAny_assign_Name (zhM I' hN hx hl (v:=.ref Da) rfl (fun s'' I'' ⟨b,sb,hb⟩=>?_) hf)
 have hCb : C ≠ b:=by
  rcases hb with z | z
  ·rw [z]; exact f1
  ·exact fun e=>f4 x b z e.symm
 refine ⟨m,hn.sameBut sb hCb,fun h' sb'=>⟨_,H',I''.turned (t':=s''.toks) (fun b o hb e=>(sb'.2 b hb).trans e) f0 f1 (.inr f3) f4 f5,q⟩⟩
end
end L2
namespace L2
open PySem PySem.Spec PyProof.Rows
def blkB (N : List Str) (lk : Str -> Option NameKind) (N' : List Str) (scope : Scope) (ms : List Nat) (k : Nat) : Bool :=
 scope.kind == .function && (scope.names.all fun x=>scope.names.lookup x.1 == some x.2) && (scope.names.all fun x=>!(x.2 == .free) || lk x.1 == some .cell || lk x.1 == some .free) &&
 N'.length == N.length + k && (N'.take N.length == N) &&
 (List.range N.length).all fun i=>ms.contains i || (match N'[i]? with | none=>true | some x=>match scope.names.lookup x with | some .local=>false | some .cell=>false | _=>true)
theorem BlkOk.of {X : Cx} {N' : List Str} {scope : Scope} {ms : List Nat} {k : Nat} (h : blkB X.N X.env.kindOf N' scope ms k = true) : BlkOk X N' scope ms k:=by
 unfold blkB at h
 simp only [Bool.and_eq_true] at h
 obtain ⟨⟨⟨⟨⟨h1,h2⟩,h3⟩,h4⟩,h5⟩,h6⟩:=h
 have e5 : N'.take X.N.length = X.N:=eq_of_beq h5
 refine ⟨eq_of_beq h1,fun x hx=>eq_of_beq (List.all_eq_true.mp h2 x hx),fun x hx hk=>?_,eq_of_beq h4,fun i hi=>?_,fun i hi hm x k' e1 e2 hk=>?_⟩
 ·have q:=List.all_eq_true.mp h3 x hx
  simp only [Bool.or_eq_true] at q
  rcases q with (q | q) | q
  ·rw [hk] at q; cases q
  ·exact .inl (eq_of_beq q)
  ·exact .inr (eq_of_beq q)
 ·have q : (N'.take X.N.length)[i]? = N'[i]?:=List.getElem?_take_of_lt hi
  rw [e5] at q
  exact q.symm
 ·have q:=List.all_eq_true.mp h6 i (List.mem_range.mpr hi)
  rw [Bool.or_eq_true] at q
  rcases q with q | q
  ·exact absurd (by simpa using q) hm
  ·rw [e1] at q
   rcases hk with rfl | rfl | rfl
   ·simp only [e2] at q; cases q
   ·simp only [e2] at q; cases q
   ·rfl
section
variable {K : PySem.W.Frag} {a : Addr} {xs : List V} {g : TG} {tc : TT} {te : TE} {D : Addr} {σ : St} {H : Hp} {Q : VK}
def znB (D : Addr) (n i : Nat) (Pv : Nat -> List V -> St -> Hp -> Prop) (σ2 : St) : VK:=fun v H6=>∃ ys,H6 D = some (.lst ys) /\ ys.length < sizeLine /\ ∃ m',m' < n - i /\ (m' = n - (i + 1) /\ i + 1 <= n /\ ∃ ys',Pv (i + 1) ys' σ2 (upd H6 D (.lst (ys ++ [v]))))
def znQ (n i : Nat) (Pv : Nat -> List V -> St -> Hp -> Prop) (σ2 : St) (H5 : Hp) : Prop:=∃ m',m' < n - i /\ (m' = n - (i + 1) /\ i + 1 <= n /\ ∃ ys',Pv (i + 1) ys' σ2 H5)
theorem zcK {n i : Nat} {Pv : Nat -> List V -> St -> Hp -> Prop} {σ2 : St} {v : V} {H6 : Hp} {ys : List V} (hi : i < n) (h : H6 D = some (.lst ys)) (hz : ys.length <= 100000) (p : Pv (i + 1) (ys ++ [v]) σ2 (upd H6 D (.lst (ys ++ [v])))) : znB D n i Pv σ2 v H6 :=
 ⟨ys,h,zbb hz,n - (i + 1),by omega,rfl,hi,_,p⟩
theorem znf {n i : Nat} {Pv : Nat -> List V -> St -> Hp -> Prop} {σ2 : St} {H5 : Hp} {ys : List V} (hi : i < n) (p : Pv (i + 1) ys σ2 H5) : znQ n i Pv σ2 H5:=⟨n - (i + 1),by omega,rfl,hi,_,p⟩
theorem zaI (Pv : Nat -> List V -> St -> Hp -> Prop) (h0 : Pv 0 [] σ (upd H D (.lst []))) (hl : ∀ i ys σ H,i <= xs.length -> Pv i ys σ H -> SqL K H a xs)
 (hs : ∀ i x ys σ H,xs[i]? = some x -> i < xs.length -> Pv i ys σ H -> g x σ H fun σ2 H4=>tc σ2 H4 fun b H5=>if b = true then te σ2 H5 (znB D xs.length i Pv σ2) else znQ xs.length i Pv σ2 H5)
 (hd : ∀ ys σ H,Pv xs.length ys σ H -> Q (.ref D) H) :
 znr (Itl K a) g tc te D Q σ H:=by
 refine ⟨fun i m σ H=>m = xs.length - i /\ i <= xs.length /\ ∃ ys,Pv i ys σ H,⟨xs.length,by simp,Nat.zero_le _,[],h0⟩,?_⟩
 rintro i m σ H ⟨rfl,hi,ys,p⟩
 have q:=hl i ys σ H hi p
 by_cases hlt : i < xs.length
 ·refine .inr ⟨⟨xs,xs[i],q,by simp [hlt]⟩,fun x H' y=>?_⟩
  obtain ⟨e,y⟩:=y
  subst e
  exact hs i x ys σ _ (y xs q) hlt p
 ·have e : i = xs.length:=by omega
  subst e
  exact .inl ⟨⟨xs,q,Nat.le_refl _⟩,hd ys σ H p⟩
theorem zjL {lo : Int} {n : Nat} (Pv : Nat -> List V -> St -> Hp -> Prop) (h0 : Pv 0 [] σ (upd H D (.lst [])))
 (hs : ∀ i ys σ H,i < n -> Pv i ys σ H -> g (.int (lo + i)) σ H fun σ2 H4=>tc σ2 H4 fun b H5=>if b = true then te σ2 H5 (znB D n i Pv σ2) else znQ n i Pv σ2 H5)
 (hd : ∀ ys σ H,Pv n ys σ H -> Q (.ref D) H) :
 znr (Itr lo n) g tc te D Q σ H:=by
 refine ⟨fun i m σ H=>m = n - i /\ i <= n /\ ∃ ys,Pv i ys σ H,⟨n,by simp,Nat.zero_le _,[],h0⟩,?_⟩
 rintro i m σ H ⟨rfl,hi,ys,p⟩
 by_cases hlt : i < n
 ·refine .inr ⟨hlt,fun x H' y=>?_⟩
  obtain ⟨e,y⟩:=y
  subst e y
  exact hs i ys σ _ hlt p
 ·have e : i = n:=by omega
  subst e
  exact .inl ⟨Nat.le_refl _,hd ys σ H p⟩
end
end L2
namespace Sr
open PySem PyProof.Rows
def zgo (prog : Program) (w : World) (A : Around) (s : Shared) (κ : KeyKind) (kd : SortKind) : Prop :=
 ∀ (E : Value -> Shared -> Prop) (x y : Value) (a b : κ.α) (Q : Bool -> Shared -> Prop),κ.keyOf x = some a -> κ.keyOf y = some b -> Q (κ.blt a b) s -> wpAny (model prog w) A (keyLt' kd x y) Q E s
structure zbP (kd : SortKind) (o : Array Keyed) (st : SortSt) : Prop where
 pm : (arrOf st).Perm o
 kn : kindOf st = kd
 fl : failedOf st = none
 pn : pendingOf st = #[]
section
variable {prog : Program} {w : World} {A : Around} {E : Value -> Shared -> Prop} {s : Shared} {o : Array Keyed} {κ : KeyKind} {kd : SortKind} {st : SortSt}
theorem zbP.sz (h : zbP kd o st) : (arrOf st).size = o.size:=h.pm.size_eq
theorem zbP.put (h : zbP kd o st) {xs : Array Keyed} (p : xs.Perm (arrOf st)) : zbP kd o (setArr st xs):=⟨p.trans h.pm,h.kn,h.fl,h.pn⟩
theorem zeY (T : zgo prog w A s κ kd) (h0 : KeysOf κ o) (S : zbP kd o st) {i j : Nat} {Q : Option Bool -> SortSt -> Prop} (hi : i < o.size) (hj : j < o.size)
 (q : Q (some (κ.blt (KK κ (arrOf st) i) (KK κ (arrOf st) j))) st) : wpS (model prog w) A E s (ltAt' i j) Q st:=by
 have key : ∀ {k : Nat},k < o.size -> ∃ v p a,(arrOf st)[k]? = some (v,p) /\ κ.keyOf v = some a /\ KK κ (arrOf st) k = a:=fun {k} hk=>by
  have hk' : k < (arrOf st).size:=S.sz ▸ hk
  have hin : (arrOf st)[k] ∈ o.toList:=(Array.perm_iff_toList_perm.mp S.pm).mem_iff.mp (by simp)
  obtain ⟨a,ea⟩:=h0 _ hin
  have e:=getElem?_pos (arrOf st) k hk'
  exact ⟨_,_,a,e,ea,by simp only [KK,e,ea,Option.getD_some]⟩
 obtain ⟨x,p,a,e1,k1,r1⟩:=key hi
 obtain ⟨y,p',b,e2,k2,r2⟩:=key hj
 rw [r1,r2] at q
 rw [ltAt'_eq]
 refine wpS_bind (wpS_get ?_)
 show wpS _ _ _ _ (elem' (arrOf st) i >>= fun u=>elem' (arrOf st) j >>= fun v=>lt' u v) Q st
 rw [elem'_eq,elem'_eq,e1,e2]
 refine wpS_bind (wpS_pure (wpS_bind (wpS_pure ?_)))
 rw [lt'_eq]
 refine wpS_bind (wpS_get ?_)
 rw [S.kn]
 exact wpS_bind (wpS_lift (wpAny_attempt (T _ x y a b _ k1 k2 ⟨rfl,wpS_pure q⟩)))
theorem zmF {xs : Array Keyed} {x : Nat} (h : SortedToK κ xs x) (hx : x = 0 \/ κ.kle (KK κ xs (x - 1)) (KK κ xs x)) : SortedToK κ xs (x + 1):=fun i j hij hj=>by
 rcases Nat.lt_or_ge j x with hjx | hjx
 ·exact h i j hij hjx
 obtain rfl : j = x:=by omega
 rcases Nat.lt_or_ge i j with hi | hi
 ·rcases hx with z | z
  ·omega
  ·exact KeyOrd.kle_trans (h i (j - 1) (by omega) (by omega)) z
 ·obtain rfl : i = j:=by omega
  exact KeyOrd.kle_refl _
theorem zeI {xs : Array Keyed} {x : Nat} (h : NonIncK κ xs x) (hx : x = 0 \/ κ.kle (KK κ xs x) (KK κ xs (x - 1))) : NonIncK κ xs (x + 1):=fun i j hij hj=>by
 rcases Nat.lt_or_ge j x with hjx | hjx
 ·exact h i j hij hjx
 obtain rfl : j = x:=by omega
 rcases Nat.lt_or_ge i j with hi | hi
 ·rcases hx with z | z
  ·omega
  ·exact KeyOrd.kle_trans z (h i (j - 1) (by omega) (by omega))
 ·obtain rfl : i = j:=by omega
  exact KeyOrd.kle_refl _
theorem up_1 {xs : Array Keyed} : SortedToK κ xs 1:=zmF (fun _ _ _ hj=>absurd hj (Nat.not_lt_zero _)) (.inl rfl)
theorem rise (T : zgo prog w A s κ kd) (h0 : KeysOf κ o) (S : zbP kd o st) {b n : Nat} {Q : AscSt -> SortSt -> Prop} (hn : n <= o.size) (hb : 1 <= b) (hbn : b <= n) (hs : SortedToK κ (arrOf st) b)
 (q : ∀ m,b <= m -> m <= n -> SortedToK κ (arrOf st) m -> (m = n \/ κ.klt (KK κ (arrOf st) m) (KK κ (arrOf st) (m - 1))) -> Q (none,m) st) : wpS (model prog w) A E s (ascLoop b n) Q st:=by
 unfold ascLoop
 refine wpS_forRange (I:=fun m c u=>u = st /\ c = (none,m) /\ SortedToK κ (arrOf st) m) (fun m c u hbm hmn hI=>?_) (fun c u hI=>?_) ⟨rfl,rfl,hs⟩
 ·obtain ⟨rfl,rfl,up⟩:=hI
  refine wpS_bind (zeY T h0 S (i:=m) (j:=m - 1) (by omega) (by omega) ?_)
  cases lt : κ.blt (KK κ (arrOf u) m) (KK κ (arrOf u) (m - 1)) with
  | true=>exact wpS_pure (q m hbm (by omega) up (.inr lt))
  | false=>exact wpS_pure ⟨rfl,rfl,zmF up (.inr lt)⟩
 ·obtain ⟨rfl,rfl,up⟩:=hI
  have e : max b n = n:=by omega
  rw [e] at up ⊢
  exact q n hbn (Nat.le_refl _) up (.inl rfl)
theorem zri (T : zgo prog w A s κ kd) (h0 : KeysOf κ o) (S : zbP kd o st) {b n : Nat} {Q : Option Nat -> SortSt -> Prop} (hn : n <= o.size) (hb : 1 <= b) (hbn : b <= n) (hs : NonIncK κ (arrOf st) b)
 (q : ∀ m u,zbP kd o u -> 1 <= m -> m <= n -> SortedToK κ (arrOf u) m -> Q (some m) u) : wpS (model prog w) A E s (tail3 b n) Q st:=by
 have z : b <= (arrOf st).size:=by rw [S.sz]; omega
 have S' : zbP kd o (setArr st (mirror (arrOf st) 0 b ((b - 0) / 2))):=S.put (mirror_perm ..)
 unfold tail3
 refine wpS_bind (wpS_reverse (wpS_bind (rise T h0 S' hn hb hbn (fun i j hij hj=>?_) fun m h1 h2 up _=>wpS_pure (q m _ S' (by omega) h2 up))))
 show κ.kle (KK κ (mirror (arrOf st) 0 b ((b - 0) / 2)) i) (KK κ (mirror (arrOf st) 0 b _) j)
 rw [KK_mirror z i,KK_mirror z j,if_pos ⟨Nat.zero_le _,by omega⟩,if_pos ⟨Nat.zero_le _,by omega⟩]
 exact hs _ _ (by omega) (by omega)
theorem fall (T : zgo prog w A s κ kd) (h0 : KeysOf κ o) (S : zbP kd o st) {b n : Nat} {Q : DescSt -> SortSt -> Prop} (hn : n <= o.size) (hb : 1 <= b) (hbn : b <= n) (hs : NonIncK κ (arrOf st) b)
 (q : ∀ m e u,zbP kd o u -> b <= m -> m <= n -> NonIncK κ (arrOf u) m -> e + 1 <= m -> (∀ i,m - (e + 1) <= i -> i < m -> KK κ (arrOf u) i = KK κ (arrOf u) (m - 1)) -> Q (none,m,e) u) :
 wpS (model prog w) A E s (descLoop b n) Q st:=by
 unfold descLoop
 refine wpS_forRange (I:=fun m c u=>∃ e,c = (none,m,e) /\ zbP kd o u /\ NonIncK κ (arrOf u) m /\ e + 1 <= m /\ ∀ i,m - (e + 1) <= i -> i < m -> KK κ (arrOf u) i = KK κ (arrOf u) (m - 1))
  (fun m c u hbm hmn hI=>?_) (fun c u hI=>?_) ⟨0,rfl,S,hs,hb,fun i h1 h2=>congrArg _ (by omega)⟩
 ·obtain ⟨e,rfl,S',dn,he,al⟩:=hI
  have z : m <= (arrOf u).size:=by rw [S'.sz]; omega
  refine wpS_bind (zeY T h0 S' (i:=m) (j:=m - 1) (by omega) (by omega) ?_)
  cases lt : κ.blt (KK κ (arrOf u) m) (KK κ (arrOf u) (m - 1)) with
  | true =>
    have dn':=zeI dn (.inr (KeyOrd.kle_of_klt lt))
    show wpS _ _ _ _ (if e > 0 then _ else _) _ u
    by_cases h : e > 0
    ·rw [if_pos h]
     refine wpS_bind (wpS_reverse (wpS_pure ⟨0,rfl,S'.put (mirror_perm ..),fun i j hij hj=>?_,Nat.succ_le_succ (Nat.zero_le _),fun i h1 h2=>congrArg _ (by omega)⟩))
     show κ.kle (KK κ (mirror _ _ _ _) j) (KK κ (mirror _ _ _ _) i)
     rw [KK_mirror_equal z al i,KK_mirror_equal z al j]
     exact dn' i j hij hj
    ·rw [if_neg h]
     exact wpS_pure ⟨0,rfl,S',dn',Nat.succ_le_succ (Nat.zero_le _),fun i h1 h2=>congrArg _ (by omega)⟩
  | false =>
    refine wpS_bind (zeY T h0 S' (i:=m - 1) (j:=m) (by omega) (by omega) ?_)
    cases gt : κ.blt (KK κ (arrOf u) (m - 1)) (KK κ (arrOf u) m) with
    | true=>exact wpS_pure (q m e u S' hbm (by omega) dn he al)
    | false =>
      have same : KK κ (arrOf u) m = KK κ (arrOf u) (m - 1):=KeyOrd.kle_antisymm gt lt
      refine wpS_pure ⟨e + 1,rfl,S',zeI dn (.inr (same ▸ KeyOrd.kle_refl _)),by omega,fun i h1 h2=>?_⟩
      show KK κ (arrOf u) i = KK κ (arrOf u) m
      rcases Nat.lt_or_ge i m with h | h
      ·rw [same]
       exact al i (by omega) h
      ·rw [show i = m by omega]
 ·obtain ⟨e,rfl,S',dn,he,al⟩:=hI
  have ez : max b n = n:=by omega
  rw [ez] at dn he al ⊢
  exact q n e u S' hbn (Nat.le_refl _) dn he al
theorem zmG (T : zgo prog w A s κ kd) (h0 : KeysOf κ o) (S : zbP kd o st) {b n : Nat} {Q : Option Nat -> SortSt -> Prop} (hn : n <= o.size) (hbn : b + 1 <= n) (hs : NonIncK κ (arrOf st) (b + 1))
 (q : ∀ m u,zbP kd o u -> 1 <= m -> m <= n -> SortedToK κ (arrOf u) m -> Q (some m) u) : wpS (model prog w) A E s (descPart b n) Q st:=by
 unfold descPart
 refine wpS_bind (wpS_lift (wpAny_rule ⟨rfl,wpS_bind (fall T h0 S hn (Nat.succ_le_succ (Nat.zero_le _)) hbn hs fun m e u S' h1 h2 dn he al=>?_)⟩))
 have z : m <= (arrOf u).size:=by rw [S'.sz]; omega
 show wpS _ _ _ _ (if e > 0 then _ else _) _ u
 by_cases h : e > 0
 ·rw [if_pos h]
  refine wpS_bind (wpS_reverse (zri (b:=m) T h0 (S'.put (mirror_perm ..)) hn (by omega) h2 (fun i j hij hj=>?_) q))
  show κ.kle (KK κ (mirror _ _ _ _) j) (KK κ (mirror _ _ _ _) i)
  rw [KK_mirror_equal z al i,KK_mirror_equal z al j]
  exact dn i j hij hj
 ·rw [if_neg h]
  exact zri (b:=m) T h0 S' hn (by omega) h2 dn q
theorem zlt (T : zgo prog w A s κ kd) (h0 : KeysOf κ o) (S : zbP kd o st) {n : Nat} {Q : Option Nat -> SortSt -> Prop} (hn : n <= o.size) (h1 : 1 <= n)
 (q : ∀ m u,zbP kd o u -> 1 <= m -> m <= n -> SortedToK κ (arrOf u) m -> Q (some m) u) : wpS (model prog w) A E s (countRun' 0 n) Q st:=by
 rw [countRun0_eq]
 refine wpS_bind (rise T h0 S hn (Nat.le_refl 1) h1 up_1 fun m hm1 hm2 up hor=>?_)
 show wpS _ _ _ _ (if (m == n) = true then _ else _) _ st
 by_cases e : m = n
 ·rw [if_pos (beq_iff_eq.mpr e)]
  exact wpS_pure (q m st S hm1 hm2 up)
 rw [if_neg fun z=>e (beq_iff_eq.mp z)]
 have dip:=hor.resolve_left e
 by_cases h : m > 1
 ·rw [if_pos h]
  refine wpS_bind (zeY T h0 S (i:=0) (j:=m - 1) (by omega) (by omega) ?_)
  cases rose : κ.blt (KK κ (arrOf st) 0) (KK κ (arrOf st) (m - 1)) with
  | true=>exact wpS_pure (q m st S hm1 hm2 up)
  | false =>
    have z : m <= (arrOf st).size:=by rw [S.sz]; omega
    have al : ∀ k,0 <= k -> k < m -> KK κ (arrOf st) k = KK κ (arrOf st) (m - 1):=fun k _ hk =>
     KeyOrd.kle_antisymm (up k (m - 1) (by omega) (by omega)) (KeyOrd.kle_trans rose (up 0 k (Nat.zero_le _) hk))
    have dn : NonIncK κ (arrOf st) (m + 1):=zeI (fun i j hij hj=>by rw [al i (Nat.zero_le _) (by omega),al j (Nat.zero_le _) hj]; exact KeyOrd.kle_refl _) (.inr (KeyOrd.kle_of_klt dip))
    refine wpS_bind (wpS_reverse (zmG T h0 (S.put (mirror_perm ..)) hn (by omega) (fun i j hij hj=>?_) q))
    show κ.kle (KK κ (mirror _ _ _ _) j) (KK κ (mirror _ _ _ _) i)
    rw [KK_mirror_equal z al i,KK_mirror_equal z al j]
    exact dn i j hij hj
 ·rw [if_neg h]
  obtain rfl : m = 1:=by omega
  exact zmG T h0 S hn (by omega) (zeI (fun i j hij hj=>by rw [show i = j by omega]; exact KeyOrd.kle_refl _) (.inr (KeyOrd.kle_of_klt dip))) q
theorem zsn (T : zgo prog w A s κ kd) (h0 : KeysOf κ o) (S : zbP kd o st) {n ok : Nat} {Q : Bool -> SortSt -> Prop} (hn : n <= o.size) (hok : ok <= n) (h1 : 1 <= ok) (hs : SortedToK κ (arrOf st) ok)
 (q : ∀ u,zbP kd o u -> SortedToK κ (arrOf u) n -> Q true u) : wpS (model prog w) A E s (binarySort' 0 n ok) Q st:=by
 rw [binarySort'_eq]
 simp only [Nat.zero_add]
 have em : max ok 1 = ok:=by omega
 rw [em]
 refine wpS_bind (wpS_mono (wpS_forRange (I:=fun k c u=>c = (none,()) /\ zbP kd o u /\ SortedToK κ (arrOf u) k) (Q:=fun c u=>c = (none,()) /\ zbP kd o u /\ SortedToK κ (arrOf u) n)
  (fun k c u hk1 hk2 hI=>?_) (fun c u hI=>?_) ⟨rfl,S,hs⟩) fun c u hI=>?_)
 ·obtain ⟨rfl,S',up⟩:=hI
  have hk : k < o.size:=by omega
  refine wpS_bind (wpS_mono (wpS_forRange (I:=fun t c v=>v = u /\ ∃ l r,c = (none,l,r) /\ l <= r /\ r <= k /\ r - l <= k - t /\ (∀ i,i < l -> κ.kle (KK κ (arrOf u) i) (KK κ (arrOf u) k)) /\ ∀ i,r <= i -> i < k -> κ.klt (KK κ (arrOf u) k) (KK κ (arrOf u) i))
   (Q:=fun c v=>v = u /\ ∃ l,c = (none,l,l) /\ l <= k /\ (∀ i,i < l -> κ.kle (KK κ (arrOf u) i) (KK κ (arrOf u) k)) /\ ∀ i,l <= i -> i < k -> κ.klt (KK κ (arrOf u) k) (KK κ (arrOf u) i))
   (fun t c v _ ht hJ=>?_) (fun c v hJ=>?_) ⟨rfl,0,k,rfl,Nat.zero_le _,Nat.le_refl _,Nat.le_refl _,(fun i hi=>absurd hi (Nat.not_lt_zero _)),fun i h1 h2=>absurd h2 (by omega)⟩) fun c v hJ=>?_)
  ·obtain ⟨rfl,l,r,rfl,hlr,hrk,hm,lo,hi⟩:=hJ
   show wpS _ _ _ _ (if l ≥ r then _ else _) _ v
   by_cases h : l ≥ r
   ·rw [if_pos h]
    obtain rfl : l = r:=by omega
    exact wpS_pure ⟨rfl,l,rfl,hrk,lo,hi⟩
   ·rw [if_neg h]
    have m1 : l <= (l + r) / 2:=by omega
    have m2 : (l + r) / 2 < r:=by omega
    generalize (l + r) / 2 = mid at m1 m2 ⊢
    have m3 : mid < k:=Nat.lt_of_lt_of_le m2 hrk
    refine wpS_bind (zeY T h0 S' (i:=k) (j:=mid) hk (Nat.lt_trans m3 hk) ?_)
    cases lt : κ.blt (KK κ (arrOf v) k) (KK κ (arrOf v) mid) with
    | true=>exact wpS_pure ⟨rfl,l,mid,rfl,m1,Nat.le_of_lt m3,by omega,lo,fun i a1 a2=>KeyOrd.klt_of_klt_of_kle lt (up _ _ a1 a2)⟩
    | false=>exact wpS_pure ⟨rfl,mid + 1,r,rfl,m2,hrk,by omega,fun i a1=>KeyOrd.kle_trans (up i mid (Nat.le_of_lt_succ a1) m3) lt,hi⟩
  ·obtain ⟨rfl,l,r,rfl,hlr,hrk,hm,lo,hi⟩:=hJ
   have e0 : max 0 k = k:=by omega
   rw [e0] at hm
   obtain rfl : l = r:=by omega
   exact ⟨rfl,l,rfl,hrk,lo,hi⟩
  ·obtain ⟨rfl,l,rfl,hlk,lo,hi⟩:=hJ
   have hks : k < (arrOf v).size:=S'.sz ▸ hk
   show wpS _ _ _ _ (moveDown' k l >>= fun _=>pure (ForInStep.yield (none,()))) _ v
   rw [moveDown'_eq]
   refine wpS_bind (wpS_modify (wpS_pure ⟨rfl,S'.put (bubble_perm ..),fun i j hij hj=>?_⟩))
   have el : k - (k - l) = l:=by omega
   show κ.kle (KK κ (bubble (arrOf v) k (k - l)) i) (KK κ (bubble (arrOf v) k _) j)
   rw [KK_bubble hks (Nat.sub_le _ _) i,KK_bubble hks (Nat.sub_le _ _) j,el]
   by_cases a1 : i = l <;> by_cases a2 : j = l <;> by_cases a3 : l < i /\ i <= k <;> by_cases a4 : l < j /\ j <= k <;>
    simp only [a1,a2,a3,a4,if_true,if_false] <;> first
    | (exfalso; omega)
    | exact KeyOrd.kle_refl _
    | exact lo _ (by omega)
    | exact KeyOrd.kle_of_klt (hi _ (by omega) (by omega))
    | exact up _ _ (by omega) (by omega)
 ·obtain ⟨rfl,S',up⟩:=hI
  have e : max ok n = n:=by omega
  rw [e] at up
  exact ⟨rfl,S',up⟩
 ·obtain ⟨rfl,S',up⟩:=hI
  exact wpS_pure (q u S' up)
theorem zky (T : zgo prog w A s κ kd) (h0 : KeysOf κ o) (S : zbP kd o st) {Q : Unit -> SortSt -> Prop} (h2 : 2 <= o.size) (h64 : o.size < 64)
 (q : ∀ u,(arrOf u).Perm o -> failedOf u = none -> SortedToK κ (arrOf u) o.size -> Q () u) : wpS (model prog w) A E s sortRuns' Q st:=by
 have hm : minRun' o.size o.size 0 = o.size:=by
  cases e : o.size with
  | zero=>omega
  | succ f=>rw [minRun'_succ,if_pos (by omega),Nat.add_zero]
 rw [sortRuns'_eq]
 refine wpS_bind (wpS_get ?_)
 simp only [S.sz,hm]
 have fin : ∀ u,zbP kd o u -> SortedToK κ (arrOf u) o.size -> (arrOf (setPending u ((pendingOf u).push (0,o.size,0)))).Perm o /\ failedOf (setPending u ((pendingOf u).push (0,o.size,0))) = none /\
  pendingOf (setPending u ((pendingOf u).push (0,o.size,0))) = #[(0,o.size,0)] /\ SortedToK κ (arrOf (setPending u ((pendingOf u).push (0,o.size,0)))) o.size:=fun u S' up =>
  ⟨S'.pm,S'.fl,by show (pendingOf u).push (0,o.size,0) = _; rw [S'.pn]; rfl,up⟩
 refine wpS_bind (wpS_mono (wpS_forRange
  (I:=fun t c u=>(t = 0 /\ c = (none,0) /\ zbP kd o u) \/ (1 <= t /\ c = (none,o.size) /\ (arrOf u).Perm o /\ failedOf u = none /\ pendingOf u = #[(0,o.size,0)] /\ SortedToK κ (arrOf u) o.size))
  (Q:=fun c u=>c = (none,o.size) /\ (arrOf u).Perm o /\ failedOf u = none /\ pendingOf u = #[(0,o.size,0)] /\ SortedToK κ (arrOf u) o.size) (fun t c u _ ht hI=>?_) (fun c u hI=>?_) (.inl ⟨rfl,rfl,S⟩)) fun c u hI=>?_)
 ·rcases hI with ⟨rfl,rfl,S'⟩ | ⟨h1,rfl,hD⟩
  ·show wpS _ _ _ _ (if 0 ≥ o.size then _ else _) _ u
   rw [if_neg (by omega)]
   simp only [Nat.sub_zero,Nat.min_self,Nat.zero_add]
   refine wpS_bind (zlt T h0 S' (Nat.le_refl _) (by omega) fun m v S2 a1 a2 up=>?_)
   by_cases lt : m < o.size
   ·simp only [lt,if_true]
    refine wpS_bind (wpS_lift (wpAny_rule ⟨rfl,wpS_bind (zsn T h0 S2 (Nat.le_refl _) a2 a1 up fun v' S3 up'=>?_)⟩))
    simp only [Bool.not_true,Bool.false_eq_true,if_false]
    refine wpS_bind (wpS_get ?_)
    have hb : (pendingOf v').back? = none:=S3.pn ▸ rfl
    rw [hb]
    exact wpS_bind (wpS_modify (wpS_pure (.inr ⟨Nat.le_refl _,rfl,fin v' S3 up'⟩)))
   ·simp only [lt,if_false]
    obtain rfl : m = o.size:=by omega
    refine wpS_bind (wpS_get ?_)
    have hb : (pendingOf v).back? = none:=S2.pn ▸ rfl
    rw [hb]
    exact wpS_bind (wpS_modify (wpS_pure (.inr ⟨Nat.le_refl _,rfl,fin v S2 up⟩)))
  ·show wpS _ _ _ _ (if o.size ≥ o.size then _ else _) _ u
   rw [if_pos (Nat.le_refl _)]
   exact wpS_pure ⟨rfl,hD⟩
 ·rcases hI with ⟨z,_,_⟩ | ⟨_,e,hD⟩
  ·omega
  ·exact ⟨e,hD⟩
 ·obtain ⟨rfl,p1,p2,p3,p4⟩:=hI
  refine wpS_bind (wpS_mono (wpS_forRange (I:=fun _ c v=>v = u /\ c = (none,())) (Q:=fun c v=>v = u /\ c = (none,())) (fun t c v _ _ hJ=>?_) (fun _ _ hJ=>hJ) ⟨rfl,rfl⟩) fun c v hJ=>?_)
  ·obtain ⟨rfl,rfl⟩:=hJ
   refine wpS_bind (wpS_get ?_)
   rw [if_pos (by rw [p3]; exact Nat.le_refl 1)]
   exact wpS_pure ⟨rfl,rfl⟩
  ·obtain ⟨rfl,rfl⟩:=hJ
   exact wpS_pure (q _ p1 p2 p4)
end
end Sr
namespace Sr
open PySem PyProof.Rows
def zij : List Value -> Option (List Int)
 | []=>some []
 | .int n _ :: r=>(zij r).map (n :: ·)
 | _ :: _=>none
theorem zjg : ∀ {vs : List Value} {ns : List Int},IntsAre vs ns -> zij vs = some ns
 | _,_,.nil=>rfl
 | _,_,.cons n t h=>by
   show (zij _).map (n :: ·) = _
   rw [zjg h]
   rfl
theorem zjl : ∀ {vs : List Value} {ns : List Int},zij vs = some ns -> IntsAre vs ns
 | [],ns,h=>by cases h; exact .nil
 | v :: r,ns,h=>by
   cases v with
   | int n t =>
     have h' : (zij r).map (n :: ·) = some ns:=h
     cases e : zij r with
     | none=>rw [e] at h'; cases h'
     | some ms =>
       rw [e] at h'
       cases h'
       exact .cons n t (zjl e)
   | _=>cases h
def tupK (h : Heap) : Value -> Option (List Int)
 | .ref a=>match h.get? a with
   | some o=>match o.data with
     | .seq its _=>zij its.toList
     | _=>none
   | none=>none
 | _=>none
theorem znA {h : Heap} {a : Addr} {its : Array Value} {ns : List Int} (t : IsTup h a its) (i : IntsAre its.toList ns) : tupK h (.ref a) = some ns:=by
 obtain ⟨o,e,_,n,d⟩:=t
 unfold tupK
 simp only [e,d]
 exact zjg i
theorem zkU {h : Heap} {v : Value} {ns : List Int} (k : tupK h v = some ns) : ∃ a o its n,v = .ref a /\ h.get? a = some o /\ o.data = .seq its n /\ IntsAre its.toList ns:=by
 cases v with
 | ref a =>
   unfold tupK at k
   cases e : h.get? a with
   | none=>simp only [e] at k; cases k
   | some o =>
     simp only [e] at k
     cases d : o.data with
     | seq its n=>simp only [d] at k; exact ⟨a,o,its,n,rfl,e,d,zjl k⟩
     | _=>simp only [d] at k; cases k
 | _=>cases k
theorem zfK : ∀ a : List Int,HT.zbL a a = false
 | []=>rfl
 | x :: xs=>by rw [HT.zcX,if_pos rfl]; exact zfK xs
theorem zfh : ∀ a b c : List Int,HT.zbL a b = true -> HT.zbL b c = true -> HT.zbL a c = true
 | [],[],_,h,_=>by cases h
 | [],_ :: _,[],_,h=>by cases h
 | [],_ :: _,_ :: _,_,_=>rfl
 | _ :: _,[],_,h,_=>by cases h
 | _ :: _,_ :: _,[],_,h=>by cases h
 | x :: xs,y :: ys,z :: zs,h1,h2=>by
   rw [HT.zcX] at h1 h2 ⊢
   by_cases e1 : x = y
   ·subst e1
    rw [if_pos rfl] at h1
    by_cases e2 : x = z
    ·subst e2
     rw [if_pos rfl] at h2 ⊢
     exact zfh xs ys zs h1 h2
    ·rw [if_neg e2] at h2 ⊢
     exact h2
   ·rw [if_neg e1] at h1
    have l1:=of_decide_eq_true h1
    by_cases e2 : y = z
    ·subst e2
     rw [if_neg e1]
     exact h1
    ·rw [if_neg e2] at h2
     have l2:=of_decide_eq_true h2
     rw [if_neg (by omega)]
     exact decide_eq_true (by omega)
theorem zfe : ∀ a b : List Int,HT.zbL a b = false -> HT.zbL b a = false -> a = b
 | [],[],_,_=>rfl
 | [],_ :: _,h,_=>by cases h
 | _ :: _,[],_,h=>by cases h
 | x :: xs,y :: ys,h1,h2=>by
   rw [HT.zcX] at h1 h2
   by_cases e : x = y
   ·subst e
    rw [if_pos rfl] at h1 h2
    rw [zfe xs ys h1 h2]
   ·rw [if_neg e] at h1
    rw [if_neg (Ne.symm e)] at h2
    have l1:=of_decide_eq_false h1
    have l2:=of_decide_eq_false h2
    omega
theorem zmN (a b c : List Int) (h : HT.zbL a c = true) : HT.zbL a b = true \/ HT.zbL b c = true:=by
 cases e1 : HT.zbL a b with
 | true=>exact .inl rfl
 | false =>
   cases e2 : HT.zbL b c with
   | true=>exact .inr rfl
   | false =>
     exfalso
     cases e3 : HT.zbL b a with
     | true =>
       have:=zfh b a c e3 h
       rw [e2] at this
       cases this
     | false =>
       rw [zfe a b e1 e3,e2] at h
       cases h
def kT (h : Heap) : KeyKind where
 α:=List Int
 blt:=HT.zbL
 irrefl:=zfK
 trans:=zfh
 negTrans:=zmN
 total:=zfe
 keyOf:=tupK h
 dflt:=[]
section
variable {prog : Program} {w : World} {A : Around} {E : Value -> Shared -> Prop} {s : Shared}
theorem zkV (f : Bool) (x y : Value) : keyLt' (tuples' f) x y = (do
 let xs <- Builtin.List.listItems x
 let ys <- Builtin.List.listItems y
 for ((p,q),i) in (xs.toList.zip ys.toList).zipIdx do
  if !(<- eqBool p q) then return <- oneLt' (f && i == 0) p q
 return decide (xs.size < ys.size)):=rfl
theorem zmo {f : Bool} {a b : Int} {t u : Tok} {Q : Bool -> Shared -> Prop} (q : Q (decide (a < b)) s) : wpAny (model prog w) A (oneLt' f (.int a t) (.int b u)) Q E s:=by
 cases f with
 | true=>exact oneLt_int q
 | false =>
   rw [oneLt'_eq]
   simp only [Bool.false_eq_true,if_false]
   exact wpAny_bind (HT.zmp A s a t b u prog w E _ (wpAny_truthy_bool q))
theorem zkQ (f : Bool) : zgo prog w A s (kT s.heap) (tuples' f):=by
 intro E x y a b Q kx ky q
 obtain ⟨ax,ox,ix,nx,rfl,ex,dx,rx⟩:=zkU (show tupK s.heap x = some a from kx)
 obtain ⟨ay,oy,iy,ny,rfl,ey,dy,ry⟩:=zkU (show tupK s.heap y = some b from ky)
 rw [zkV]
 refine wpAny_bind (listItems_at ex dx (wpAny_bind (listItems_at ey dy ?_)))
 have zx : ix.size = a.length:=by rw [<- rx.length]; simp
 have zy : iy.size = b.length:=by rw [<- ry.length]; simp
 refine wpAny_bind (wpAny_mono (wpAny_forIn_list _ (fun rest (c : Option Bool × PUnit) u=>c.1 = none /\ u = s /\ ∃ (vs ws : List Value) (ns ms : List Int) (k : Nat),rest = (vs.zip ws).zipIdx k /\ IntsAre vs ns /\ IntsAre ws ms /\ ns.length + iy.size = ms.length + ix.size /\ HT.zbL ns ms = HT.zbL a b)
  (fun (c : Option Bool × PUnit) u=>u = s /\ (c.1 = some (HT.zbL a b) \/ (c.1 = none /\ HT.zbL a b = decide (ix.size < iy.size)))) ?_ ?_ _ _ ⟨rfl,rfl,ix.toList,iy.toList,a,b,0,rfl,rx,ry,by omega,rfl⟩) ?_ fun _ _ z=>z)
 ·rintro ⟨⟨p,p'⟩,i⟩ rest c u ⟨hc,rfl,vs,ws,ns,ms,k,hr,hv,hw,hl,he⟩
  cases hv with
  | nil=>rw [List.zip_nil_left] at hr; cases hr
  | cons m t hv' =>
    cases hw with
    | nil=>rw [List.zip_nil_right] at hr; cases hr
    | cons m' t' hw' =>
      rw [List.zip_cons_cons,List.zipIdx_cons] at hr
      injection hr with h1 h2
      injection h1 with h3 h4
      injection h3 with h5 h6
      subst h5 h6
      rw [HT.zcX] at he
      simp only [List.length_cons] at hl
      refine wpAny_bind (SeqAt.EqAt.int_int m t m' t' prog w E _ ?_)
      by_cases e : m = m'
      ·subst e
       rw [if_pos rfl] at he
       rw [beq_self_eq_true]
       exact wpAny_pure ⟨rfl,rfl,_,_,_,_,_,h2,hv',hw',by omega,he⟩
      ·rw [if_neg e] at he
       have eb : (m == m') = false:=beq_eq_false_iff_ne.mpr e
       rw [eb]
       refine wpAny_bind (zmo (wpAny_pure ⟨rfl,.inl ?_⟩))
       rw [he]
 ·rintro c u ⟨hc,rfl,vs,ws,ns,ms,k,hr,hv,hw,hl,he⟩
  refine ⟨rfl,.inr ⟨hc,?_⟩⟩
  rw [<- he]
  cases hv with
  | nil =>
    cases hw with
    | nil =>
      simp only [List.length_nil] at hl
      exact (decide_eq_false (by omega)).symm
    | cons m' t' hw' =>
      simp only [List.length_nil,List.length_cons] at hl
      exact (decide_eq_true (by omega)).symm
  | cons m t hv' =>
    cases hw with
    | nil =>
      simp only [List.length_nil,List.length_cons] at hl
      exact (decide_eq_false (by omega)).symm
    | cons m' t' hw'=>rw [List.zip_cons_cons,List.zipIdx_cons] at hr; cases hr
 ·rintro ⟨c1,c2⟩ u ⟨rfl,h | ⟨h,h'⟩⟩
  ·have h : c1 = some (HT.zbL a b):=h
   subst h
   exact wpAny_pure q
  ·have h : c1 = none:=h
   subst h
   have q' : Q (HT.zbL a b) u:=q
   rw [h'] at q'
   exact wpAny_pure q'
theorem ziH {β : Type} {f : Value -> Sem β} (g : Value -> β) : ∀ (l : List Value) (Q : List β -> Shared -> Prop),(∀ v ∈ l,∀ Q' : β -> Shared -> Prop,Q' (g v) s -> wpAny (model prog w) A (f v) Q' E s) -> Q (l.map g) s -> wpAny (model prog w) A (l.mapM f) Q E s
 | [],Q,_,q=>by rw [List.mapM_nil]; exact wpAny_pure q
 | v :: l,Q,h,q=>by
   rw [List.mapM_cons]
   refine wpAny_bind (h v List.mem_cons_self _ (wpAny_bind (ziH g l _ (fun u hu=>h u (List.mem_cons_of_mem _ hu)) (wpAny_pure q))))
def Head (h : Heap) (v : Value) : Prop:=∃ (a : Addr) (its : List Value) (n : Int) (t : Tok) (r : List Value),v = .ref a /\ IsTup h a its.toArray /\ its = .int n t :: r
def zcM (h : Heap) : Value -> Option Value
 | .ref a=>match h.get? a with
   | some o=>match o.data with
     | .seq its _=>its[0]?
     | _=>none
   | none=>none
 | _=>none
theorem zlv {v : Value} (H : Head s.heap v) {Q : Option Value -> Shared -> Prop} (q : Q (zcM s.heap v) s) : wpAny (model prog w) A (firstOfTuple' v) Q E s:=by
 obtain ⟨a,its,n,t,r,rfl,ht,rfl⟩:=H
 obtain ⟨o,e,c,k,d⟩:=id ht
 have eq : firstOfTuple' (.ref a) = (do
  if (<- typeOf (.ref a)) != .type "tuple" then return none
  return (<- Builtin.List.listItems (.ref a))[0]?):=rfl
 rw [eq]
 refine wpAny_bind (wpAny_typeOf ht.typeIs ?_)
 rw [if_neg (by decide)]
 refine wpAny_bind (listItems_at e d (wpAny_pure ?_))
 have hq : zcM s.heap (.ref a) = ((Value.int n t :: r).toArray)[0]?:=by unfold zcM; simp only [e,d]
 rw [hq] at q
 exact q
theorem zkM {v : Value} (H : Head s.heap v) : ∃ n t,zcM s.heap v = some (.int n t):=by
 obtain ⟨a,its,n,t,r,rfl,⟨o,e,c,k,d⟩,rfl⟩:=H
 exact ⟨n,t,by unfold zcM; simp only [e,d]; rfl⟩
theorem zma {vs : List Value} (H : ∀ v ∈ vs,Head s.heap v) (hne : vs ≠ []) {Q : SortKind -> Shared -> Prop} (q : Q (tuples' true) s) : wpAny (model prog w) A (keyKind' vs.toArray) Q E s:=by
 rw [keyKind'_eq,List.mapM_toArray]
 have hsm : ∀ v ∈ vs,∃ n t,zcM s.heap v = some (.int n t):=fun v hv=>zkM (H v hv)
 refine wpAny_bind (m:=List.toArray <$> _) (wpAny_bind (ziH (zcM s.heap) vs _ (fun v hv Q' q'=>zlv (H v hv) q') (wpAny_pure ?_)))
 have hall : ((vs.map (zcM s.heap)).toArray.all fun x=>x.isSome) = true:=by
  simp only [List.all_toArray,List.all_map,List.all_eq_true]
  intro v hv
  obtain ⟨n,t,e⟩:=hsm v hv
  show (zcM s.heap v).isSome = true
  rw [e]
  rfl
 rw [if_pos hall]
 refine wpAny_bind (wpAny_rule ?_)
 rw [oneTypeOnly'_eq]
 have hfm : ((vs.map (zcM s.heap)).toArray.filterMap id) = (vs.filterMap (zcM s.heap)).toArray:=by
  simp [List.filterMap_map]
 rw [hfm,List.mapM_toArray]
 have htys : ∀ v ∈ vs.filterMap (zcM s.heap),∃ n t,v = .int n t:=fun v hv=>by
  obtain ⟨u,hu,e⟩:=List.mem_filterMap.mp hv
  obtain ⟨n,t,e'⟩:=hsm u hu
  rw [e'] at e
  exact ⟨n,t,(Option.some.inj e).symm⟩
 refine wpAny_bind (wpAny_bind (m:=List.toArray <$> _) (wpAny_bind (ziH (fun _=>Value.type "int") (vs.filterMap (zcM s.heap)) _ (fun v hv Q' q'=>?_) (wpAny_pure ?_))))
 ·obtain ⟨n,t,rfl⟩:=htys v hv
  exact wpAny_typeOf (typeIs_int s n t) q'
 ·obtain ⟨v0,r,rfl⟩:=List.exists_cons_of_ne_nil hne
  obtain ⟨n,t,e⟩:=hsm v0 List.mem_cons_self
  have hfc : (v0 :: r).filterMap (zcM s.heap) = .int n t :: r.filterMap (zcM s.heap):=by rw [List.filterMap_cons,e]
  rw [hfc]
  have e0 : (List.map (fun _=>Value.type "int") (Value.int n t :: r.filterMap (zcM s.heap))).toArray[0]? = some (.type "int"):=by simp
  have ea : ((List.map (fun _=>Value.type "int") (Value.int n t :: r.filterMap (zcM s.heap))).toArray.all fun x=>x == Value.type "int") = true:=by
   simp only [List.all_toArray,List.all_map,List.all_eq_true]
   intro _ _
   rfl
  rw [e0]
  show wpAny _ _ (pure (if (Array.all _ fun x=>x == Value.type "int") = true then some (Value.type "int") else none)) _ _ _
  rw [if_pos ea]
  exact wpAny_pure (wpAny_pure q)
end
end Sr
namespace Sr
open PySem PyProof.Rows
theorem zep {α β : Type} {f : α -> β} : ∀ {l : List β} {ts : List α},l.Perm (ts.map f) -> ∃ ts' : List α,ts'.Perm ts /\ l = ts'.map f
 | [],ts,h=>by
   have e:=h.symm.eq_nil
   exact ⟨[],by rw [List.map_eq_nil_iff.mp e],rfl⟩
 | b :: l,ts,h=>by
   have hb : b ∈ ts.map f:=h.mem_iff.mp List.mem_cons_self
   obtain ⟨t,ht,rfl⟩:=List.mem_map.mp hb
   obtain ⟨p,r,rfl⟩:=List.append_of_mem ht
   have h2 : (f t :: l).Perm (f t :: (p ++ r).map f):=by
    refine h.trans ?_
    rw [List.map_append,List.map_cons,List.map_append]
    exact List.perm_middle
   obtain ⟨ts',p1,rfl⟩:=zep (List.Perm.cons_inv h2)
   exact ⟨t :: ts',(p1.cons t).trans List.perm_middle.symm,rfl⟩
section
variable {prog : Program} {w : World} {A : Around} {E : Value -> Shared -> Prop} {s : Shared}
theorem zfv {a : Addr} {vs : List Value} {n : Nat} {R : Fin -> Shared -> Prop} (ho : s.heap.get? a = some (seqObj "list" vs.toArray n)) (hh : ∀ v ∈ vs,Head s.heap v) (hk : ∀ v ∈ vs,∃ ns,tupK s.heap v = some ns) (h64 : vs.length < 64)
 (q : ∀ xs : Array Keyed,xs.Perm (pairsOf vs) -> SortedToK (kT s.heap) xs vs.length -> R (.done (.ret .none)) { s with heap:=sortedHeap s.heap a vs (xs.map (·.2)) }) :
 wpAny (model prog w) A (Builtin.«list.sort» ⟨[.ref a],[]⟩) R E s:=by
 have hlt : a < s.heap.objs.size:=Heap.lt_size ho
 rw [list_sort_plain]
 refine wpAny_bind (listItems_at ho rfl (wpAny_bind (listUpdate_at ho rfl ?_)))
 obtain ⟨e1,ho1⟩ : ∃ e1,(s.heap.update a (Obj.mapSeq fun _=>#[])).get? a = some (seqObj "list" #[] e1):=⟨_,get?_update_seq ho (fun _=>#[])⟩
 refine wpAny_bind (seqEpoch_at ho1 rfl (wpAny_bind (wpAny_newTuple (wpAny_bind (wpAny_newList (wpAny_holding ?_))))))
 generalize hg : ((s.heap.update a (Obj.mapSeq fun _=>#[])).push (seqObj "tuple" vs.toArray 0)).push (seqObj "list" #[] 0) = g
 have other : ∀ b ob,b ≠ a -> s.heap.get? b = some ob -> g.get? b = some ob:=fun b ob hb e=>by
  rw [<- hg]
  exact Heap.get?_push_of_some _ (Heap.get?_push_of_some _ ((Heap.get?_update_other _ _ (Ne.symm hb)).trans e))
 have ho6 : g.get? a = some (seqObj "list" #[] e1):=by
  rw [<- hg]
  exact Heap.get?_push_of_some _ (Heap.get?_push_of_some _ ho1)
 show wpAny (model prog w) A _ R E { s with heap:=g }
 dsimp only
 have q' : ∀ xs : Array Keyed,xs.Perm (pairsOf vs) -> SortedToK (kT s.heap) xs vs.length -> R (.done (.ret .none)) { s with heap:=g.update a (Obj.mapSeq fun _=>xs.map (·.2)) }:=fun xs h1 h2=>by
  have:=q xs h1 h2
  unfold sortedHeap at this
  rw [hg] at this
  exact this
 have hsz : vs.toArray.size = vs.length:=by simp
 have long : ∀ {xs : Array Keyed},xs.Perm (pairsOf vs) -> (xs.map (·.2)).size <= sizeLine + 1:=fun {xs} h=>by
  rw [Array.size_map,h.size_eq,pairsOf_size,sizeLine_eq]
  omega
 by_cases h2 : vs.toArray.size < 2
 ·simp only [h2,if_true]
  refine wpAny_bind (wpAny_pure ?_)
  rw [StateT.run_pure]
  refine wpAny_bind (wpAny_pure ?_)
  refine wpAny_bind (seqEpoch_at ho6 rfl (wpAny_bind (listUpdate_at ho6 rfl ?_ (hsz2:=long (Array.Perm.refl _)))))
  simp only [bne_self_eq_false,Bool.false_eq_true,if_false]
  refine wpAny_pure (q' _ (Array.Perm.refl _) fun i j hij hj=>?_)
  have e : i = j:=by omega
  rw [e]
  exact KeyOrd.kle_refl _
 ·simp only [h2,if_false]
  have two : 2 <= vs.length:=by omega
  have nev : vs ≠ []:=fun z=>by rw [z] at two; exact absurd two (by decide)
  have notList : ∀ v ∈ vs,∀ b,v = .ref b -> b ≠ a:=fun v hv b e z=>by
   obtain ⟨b',its,m,t,r,e',⟨ob,eb,cb,_⟩,_⟩:=hh v hv
   subst e
   injection e' with e'
   subst e' z
   rw [ho] at eb
   have eo : seqObj "list" vs.toArray n = ob:=Option.some.inj eb
   rw [<- eo] at cb
   have cb' : Value.type "list" = Value.type "tuple":=cb
   injection cb' with cb''
   exact absurd cb'' (by decide)
  have sameK : ∀ v ∈ vs,tupK g v = tupK s.heap v:=fun v hv=>by
   obtain ⟨b,its,m,t,r,rfl,⟨ob,eb,cb,k,db⟩,_⟩:=hh v hv
   unfold tupK
   simp only [eb,other b ob (notList _ hv b rfl) eb]
  have hh6 : ∀ v ∈ vs,Head g v:=fun v hv=>by
   obtain ⟨b,its,m,t,r,rfl,⟨ob,eb,rest⟩,hi⟩:=hh v hv
   exact ⟨b,its,m,t,r,rfl,⟨ob,other b ob (notList _ hv b rfl) eb,rest⟩,hi⟩
  have hk6 : KeysOf (kT g) (pairsOf vs):=fun p hp=>by
   rw [pairsOf_toList] at hp
   obtain ⟨_,hm⟩:=mem_zip_self hp
   obtain ⟨ns,e⟩:=hk _ hm
   exact ⟨ns,(sameK _ hm).trans e⟩
  refine wpAny_bind (zma (s:={ s with heap:=g }) hh6 nev ?_)
  refine wpAny_bind (wpAny_mono (zky (κ:=kT g) (kd:=tuples' true) (o:=pairsOf vs) (st:=SortSt.mk' (tuples' true) (vs.toArray.zip vs.toArray) #[] 7 none)
   (Q:=fun _ u=>(arrOf u).Perm (pairsOf vs) /\ failedOf u = none /\ SortedToK (kT g) (arrOf u) (pairsOf vs).size) (zkQ (s:={ s with heap:=g }) true) hk6 ⟨Array.Perm.refl _,rfl,rfl,rfl⟩ (by rw [pairsOf_size]; exact two)
   (by rw [pairsOf_size]; exact h64) fun u h1 h2 h3=>⟨h1,h2,h3⟩) ?_ fun _ _ z=>z)
  rintro ⟨⟨⟩,u⟩ s' ⟨rfl,hp,hf,hs⟩
  refine wpAny_bind (seqEpoch_at ho6 rfl (wpAny_bind (listUpdate_at ho6 rfl ?_ (hsz2:=long hp))))
  rw [hf]
  simp only [bne_self_eq_false,Bool.false_eq_true,if_false]
  refine wpAny_pure (q' _ hp fun i j hij hj=>?_)
  have kk : ∀ i,i < vs.length -> KK (kT s.heap) (arrOf u) i = KK (kT g) (arrOf u) i:=fun i hi=>by
   have hi' : i < (arrOf u).size:=by rw [hp.size_eq,pairsOf_size]; exact hi
   have e:=getElem?_pos (arrOf u) i hi'
   have hin : (arrOf u)[i] ∈ (pairsOf vs).toList:=(Array.perm_iff_toList_perm.mp hp).mem_iff.mp (by simp)
   rw [pairsOf_toList] at hin
   obtain ⟨_,hm⟩:=mem_zip_self hin
   simp only [KK,e]
   show (tupK s.heap _).getD [] = (tupK g _).getD []
   rw [sameK _ hm]
  rw [kk i (by omega),kk j hj]
  exact hs i j hij (by rw [pairsOf_size]; exact hj)
theorem ziu {l : Addr} {vs : List Value} {Q : Value -> Shared -> Prop} (hl : s.heap.IsList l vs.toArray) (hh : ∀ v ∈ vs,Head s.heap v) (hk : ∀ v ∈ vs,∃ ns,tupK s.heap v = some ns) (h64 : vs.length < 64)
 (q : ∀ (xs : Array Keyed) (h' : Heap) (n : Nat),xs.Perm (pairsOf vs) -> SortedToK (kT s.heap) xs vs.length -> h'.get? (s.heap.objs.size + 1) = some (seqObj "list" (xs.map (·.2)) n) -> (∀ b o,s.heap.get? b = some o -> h'.get? b = some o) ->
   Q (.ref (s.heap.objs.size + 1)) { s with heap:=h' }) :
 wpAny (model prog w) A (call (.builtin "sorted") [.ref l]) Q E s:=by
 refine Calls.call_function_entry kind_sorted plain_sorted entry_sorted (args_sorted1 _) ?_
 unfold Builtin.«sorted»
 refine wpAny_bind (m:=checkCount "sorted" 1 1 _) (wpAny_pure (wpAny_bind (collect_list hl (wpAny_bind (wpAny_newList ?_)))))
 generalize hg : (s.heap.push (seqObj "list" #[] 0)).update s.heap.objs.size (Obj.mapSeq (·++ vs.toArray)) = g
 have zg : g.objs.size = s.heap.objs.size + 1:=by rw [<- hg,Heap.size_update,size_push']
 have og : ∀ b o,s.heap.get? b = some o -> g.get? b = some o:=fun b o e=>by
  rw [<- hg]
  exact (Heap.get?_update_other _ _ (Nat.ne_of_gt (Heap.lt_size e))).trans (Heap.get?_push_of_some _ e)
 show wpAny _ _ _ _ _ { s with heap:=g.push (seqObj "list" vs.toArray 0) }
 rw [zg]
 have hoL : (g.push (seqObj "list" vs.toArray 0)).get? (s.heap.objs.size + 1) = some (seqObj "list" vs.toArray 0):=by rw [<- zg]; exact Heap.get?_push_size _ rfl
 have ol : ∀ b o,s.heap.get? b = some o -> (g.push (seqObj "list" vs.toArray 0)).get? b = some o:=fun b o e=>Heap.get?_push_of_some _ (og b o e)
 have sameK : ∀ v ∈ vs,tupK (g.push (seqObj "list" vs.toArray 0)) v = tupK s.heap v:=fun v hv=>by
  obtain ⟨b,its,m,t,r,rfl,⟨ob,eb,cb,k,db⟩,_⟩:=hh v hv
  unfold tupK
  simp only [eb,ol b ob eb]
 refine wpAny_bind (wpAny_holding (wpAny_call_entry slot_list_sort ⟨_,hoL,rfl⟩ entry_list_sort (zfv (s:={ s with heap:=g.push (seqObj "list" vs.toArray 0) }) hoL (fun v hv=>?_) (fun v hv=>?_) h64 fun xs h1 h2=>⟨_,rfl,?_⟩) (args_list_sort _)))
 ·obtain ⟨b,its,m,t,r,e,⟨ob,eb,rest⟩,hi⟩:=hh v hv
  exact ⟨b,its,m,t,r,e,⟨ob,ol b ob eb,rest⟩,hi⟩
 ·obtain ⟨ns,e⟩:=hk v hv
  exact ⟨ns,(sameK v hv).trans e⟩
 ·have kk : SortedToK (kT s.heap) xs vs.length:=fun i j hij hj=>by
   have one : ∀ i,i < vs.length -> KK (kT s.heap) xs i = KK (kT (g.push (seqObj "list" vs.toArray 0))) xs i:=fun i hi=>by
    have hi' : i < xs.size:=by rw [h1.size_eq,pairsOf_size]; exact hi
    have e:=getElem?_pos xs i hi'
    have hin : xs[i] ∈ (pairsOf vs).toList:=(Array.perm_iff_toList_perm.mp h1).mem_iff.mp (by simp)
    rw [pairsOf_toList] at hin
    obtain ⟨_,hm⟩:=mem_zip_self hin
    simp only [KK,e]
    show (tupK s.heap _).getD [] = (tupK _ _).getD []
    rw [sameK _ hm]
   rw [one i (by omega),one j hj]
   exact h2 i j hij hj
  generalize hf : sortedHeap (g.push (seqObj "list" vs.toArray 0)) (s.heap.objs.size + 1) vs (xs.map (·.2)) = h'
  obtain ⟨m,em⟩ : ∃ m,h'.get? (s.heap.objs.size + 1) = some (seqObj "list" (xs.map (·.2)) m):=by
   rw [<- hf]
   unfold sortedHeap
   obtain ⟨e1,ho1⟩ : ∃ e1,((g.push (seqObj "list" vs.toArray 0)).update (s.heap.objs.size + 1) (Obj.mapSeq fun _=>#[])).get? (s.heap.objs.size + 1) = some (seqObj "list" #[] e1):=⟨_,get?_update_seq hoL (fun _=>#[])⟩
   exact ⟨_,get?_update_seq (Heap.get?_push_of_some _ (Heap.get?_push_of_some _ ho1)) (fun _=>xs.map (·.2))⟩
  have keep : ∀ b o,s.heap.get? b = some o -> h'.get? b = some o:=fun b o e=>by
   have hb : b ≠ s.heap.objs.size + 1:=Nat.ne_of_lt (Nat.lt_succ_of_lt (Heap.lt_size e))
   rw [<- hf]
   unfold sortedHeap
   exact (Heap.get?_update_other _ _ (Ne.symm hb)).trans (Heap.get?_push_of_some _ (Heap.get?_push_of_some _ ((Heap.get?_update_other _ _ (Ne.symm hb)).trans (ol b o e))))
  exact wpAny_pure ⟨_,rfl,q xs h' m h1 kk em keep⟩
end
end Sr
namespace L2
open PySem PySem.Spec PyProof.Rows
abbrev TI2:=Addr × List Int
def zct (ts : List TI2) : List V:=ts.map fun t=>.ref t.1
section
variable {X : Cx}
theorem zji {α β : Type} (f : α -> β) : ∀ l : List α,(l.map f).zip (l.map f) = l.map fun t=>(f t,f t)
 | []=>rfl
 | t :: l=>by rw [List.map_cons,List.zip_cons_cons,zji f l,List.map_cons]
theorem zhc : ∀ {ts : List TI2} {us : List Value},Vals (zct ts) us -> us = ts.map fun t=>Value.ref t.1
 | [],us,r=>by cases r; rfl
 | t :: ts,us,r=>by
   cases r with
   | cons r1 r2 =>
     have e : _ = Value.ref t.1:=r1
     rw [e,zhc r2]
     rfl
theorem zeq : ∀ ts : List TI2,Vals (zct ts) (ts.map fun t=>Value.ref t.1)
 | []=>.nil
 | t :: ts=>.cons rfl (zeq ts)
theorem ziy : zeX X (.builtin "sorted") (fun xs H Q=>∃ p ts,xs = [.ref p] /\ SqL X.K H p (zct ts) /\ (∀ t ∈ ts,SqT X.K H t.1 (t.2.map V.int) /\ t.2 ≠ []) /\ ts.length < 64 /\
 ∀ (l : Addr) (ts' : List TI2),H l = none -> ts'.Perm ts -> ts'.Pairwise (fun a b=>HT.zbL b.2 a.2 = false) -> Q (.ref l) (upd H l (.lst (zct ts')))):=by
 intro pins s σ H xs us Q I r h
 obtain ⟨p,ts,rfl,hq,ht,h64,q⟩:=h
 obtain ⟨u,rfl,ru⟩:=zkh r
 cases ru
 obtain ⟨its,rv,pl,hz⟩:=I.list hq
 have ei:=zhc rv
 subst ei
 have tup : ∀ t ∈ ts,∃ vs,IsTup s.heap t.1 vs.toArray /\ IntsAre vs t.2:=fun t hm=>by
  obtain ⟨vs,r2,p2,_⟩:=I.tuple (ht t hm).1
  exact ⟨vs,p2,zkg r2⟩
 have key : ∀ t ∈ ts,Sr.tupK s.heap (.ref t.1) = some t.2:=fun t hm=>by
  obtain ⟨vs,p2,i2⟩:=tup t hm
  exact Sr.znA p2 (by simpa using i2)
 have e0 : H (s.heap.objs.size + 1) = none:=I.hok.fresh (Nat.le_succ _)
 refine Sr.ziu (vs:=ts.map fun t=>Value.ref t.1) pl.isList (fun v hv=>?_) (fun v hv=>?_) (by rw [List.length_map]; exact h64) fun xs h' n hp hs hl hk=>?_
 ·obtain ⟨t,hm,rfl⟩:=List.mem_map.mp hv
  obtain ⟨ta,tn⟩:=t
  obtain ⟨vs,p2,i2⟩:=tup (ta,tn) hm
  have hne:=(ht (ta,tn) hm).2
  have i2 : IntsAre vs tn:=i2
  cases i2 with
  | nil=>exact absurd rfl hne
  | cons m tk r2=>exact ⟨ta,_,m,tk,_,rfl,p2,rfl⟩
 ·obtain ⟨t,hm,rfl⟩:=List.mem_map.mp hv
  exact ⟨t.2,key t hm⟩
 ·have pl2 : xs.toList.Perm ((ts.map fun t=>Value.ref t.1).zip (ts.map fun t=>Value.ref t.1)):=by rw [<- pairsOf_toList]; exact Array.perm_iff_toList_perm.mp hp
  have ez : ((ts.map fun t=>Value.ref t.1).zip (ts.map fun t=>Value.ref t.1)) = ts.map fun t=>(Value.ref t.1,Value.ref t.1):=by
   exact zji _ ts
  rw [ez] at pl2
  obtain ⟨ts',p1,e1⟩:=Sr.zep pl2
  have eo : (xs.map (·.2)) = (ts'.map fun t=>Value.ref t.1).toArray:=by
   apply Array.toList_inj.mp
   rw [Array.toList_map,e1,List.map_map]
   rfl
  have hlen : xs.size = ts'.length:=by
   have:=congrArg List.length e1
   rw [List.length_map] at this
   simpa using this
  have srt : ts'.Pairwise (fun a b=>HT.zbL b.2 a.2 = false):=by
   rw [List.pairwise_iff_getElem]
   intro i j hi hj hij
   have h3:=hs i j (Nat.le_of_lt hij) (by rw [List.length_map,<- p1.length_eq]; exact hj)
   have kk : ∀ k (hk : k < ts'.length),KK (Sr.kT s.heap) xs k = ts'[k].2:=fun k hk'=>by
    have hk2 : k < xs.size:=by rw [hlen]; exact hk'
    have e:=getElem?_pos xs k hk2
    have e2 : xs[k] = (Value.ref ts'[k].1,Value.ref ts'[k].1):=by
     have e3 : xs.toList[k]? = some (Value.ref ts'[k].1,Value.ref ts'[k].1):=by rw [e1,List.getElem?_map,List.getElem?_eq_getElem hk'] <;> rfl
     have e4 : xs.toList[k]? = some xs[k]:=by rw [Array.getElem?_toList]; exact e
     rw [e4] at e3
     exact Option.some.inj e3
    simp only [KK,e,e2]
    show (Sr.tupK s.heap (Value.ref ts'[k].1)).getD [] = _
    rw [key _ (p1.mem_iff.mp (List.getElem_mem hk'))]
    rfl
   rw [kk i hi,kk j hj] at h3
   exact h3
  refine ⟨.ref (s.heap.objs.size + 1),_,I.laid (t':=s.toks) (o:=.lst (zct ts')) hk (Nat.le_succ _) ⟨?_,_,n,zeq ts',?_⟩,rfl,q _ ts' e0 p1 srt⟩
  ·unfold zct
   rw [List.length_map,p1.length_eq]
   exact zbG (by omega)
  ·rw [hl,eo]
end
end L2
namespace L2
open PySem PySem.Spec PyProof.Rows
section
variable {X : Cx}
end
end L2
namespace L2
open PySem PySem.Spec PyProof.Rows
theorem zlp (its : List Value) : slicePick its.toArray none none (some (-1)) = its.reverse.toArray:=by
 unfold slicePick
 have e : sliceBounds none none (some (-1)) its.toArray.size = ((its.length : Int) - 1,-1,-1):=by
  simp [sliceBounds]
 rw [e]
 congr 1
 apply List.ext_getElem?
 intro i
 have hr : sliceRange ((its.length : Int) - 1) (-1) (-1) = (List.range its.length).map fun k=>its.length - 1 - k:=by
  unfold sliceRange
  have hc : (if (-1 : Int) > 0 then (if (its.length : Int) - 1 < -1 then ((-1) - ((its.length : Int) - 1) + (-1) - 1) / (-1) else 0)
   else (if (its.length : Int) - 1 > -1 then ((its.length : Int) - 1 - (-1) - (-1) - 1) / (-(-1)) else 0)) = (its.length : Int):=by
   rw [if_neg (by decide)]
   split
   ·rw [show (-(-1) : Int) = 1 from rfl,Int.ediv_one]
    omega
   ·omega
  simp only [hc,Int.toNat_natCast]
  apply List.map_congr_left
  intro k hk
  have:=List.mem_range.mp hk
  omega
 rw [hr]
 have hf : (List.filterMap (fun x=>its.toArray[x]?) ((List.range its.length).map fun k=>its.length - 1 - k)) = its.reverse:=by
  have h2 : ∀ n,n <= its.length -> List.filterMap (fun x=>its.toArray[x]?) ((List.range n).map fun k=>its.length - 1 - k) = its.reverse.take n:=by
   intro n
   induction n with
   | zero=>intro _; rfl
   | succ n ih =>
     intro hn
     rw [List.range_succ,List.map_append,List.filterMap_append,ih (by omega),List.map_singleton]
     have hx : its.toArray[its.length - 1 - n]? = some its[its.length - 1 - n]:=by
      rw [List.getElem?_toArray]
      exact List.getElem?_eq_getElem (by omega)
     rw [List.filterMap_cons,hx,List.filterMap_nil]
     rw [List.take_add_one,List.getElem?_reverse (by omega),List.getElem?_eq_getElem (by omega)]
     rfl
  rw [h2 its.length (Nat.le_refl _),List.take_of_length_le (by simp)]
 rw [hf]
theorem Vals.rev : ∀ {xs : List V} {us : List Value},Vals xs us -> Vals xs.reverse us.reverse
 | _,_,.nil=>.nil
 | _,_,.cons r t=>by
   rw [List.reverse_cons,List.reverse_cons]
   exact Vals.append (Vals.rev t) (.cons r .nil)
section
variable {X : Cx} {e st : Expr} {te tst : TE} {pos p2 : Pos}
def tRev (K : PySem.W.Frag) (te tst : TE) : TE:=fun σ H Q=>te σ H fun x H1=>tst σ H1 fun y H2=>∃ a xs,x = .ref a /\ y = .int (-1) /\ SqL K H2 a xs /\ ∀ p,H2 p = none -> Q (.ref p) (upd H2 p (.lst xs.reverse))
theorem zsd (he : PE X e te) (hs : PE X st tst) : PE X (.Subscript e (.Slice none none (some st) p2) pos) (tRev X.K te tst):=by
 intro pins s σ H Q I h
 refine Subscript_ (thn (he pins s σ H _ I h) fun v s1 ⟨x,H1,I1,r1,q1⟩=>?_)
 refine wpAny_Slice ?_
 rw [evalPart_none,evalPart_some]
 refine wpAny_pure (wpAny_pure (thn (hs pins s1 σ H1 _ I1 q1) fun vs s3 ⟨y,H3,I3,r3,q3⟩=>?_))
 obtain ⟨a,xs,rfl,rfl,hq,q⟩:=q3
 cases r1
 obtain ⟨t,rfl⟩:=r3
 have I4 : Inv X pins σ H3 { s3 with heap:=s3.heap.push { cls:=.type "slice",data:=.fields #[.none,.none,.int (-1) t] } }:=I3.kept (t':=s3.toks) fun b ob q=>Heap.get?_push_of_some _ q
 obtain ⟨its,rv,ht,hz⟩:=I4.list hq
 have hlen:=rv.length
 show wpAny (model X.prog X.w) X.A (subscriptTail e (.Slice none none (some st) p2) (.ref a) (.ref s3.heap.objs.size)) (EP X pins σ Q) X.xe { s3 with heap:=s3.heap.push { cls:=.type "slice",data:=.fields #[.none,.none,.int (-1) t] } }
 refine tail_any (ops:=[.ref a,.ref s3.heap.objs.size]) ht.isList.typeIs slot_list_getitem.lookup ?_ (by with_unfolding_all rfl)
 refine wpAny_getItem_list_slice ht.isList (Heap.IsSliceOf.new ..) .none .none (.int (-1) t) (by decide) ?_ (by rw [List.size_toArray]; omega)
 rw [zlp]
 refine ⟨.ref _,_,I4.laid (t':=s3.toks) (o:=.lst xs.reverse) (fun b ob q=>Heap.get?_push_of_some _ q) (Nat.le_refl _) ?_,rfl,q _ (I4.hok.fresh (Nat.le_refl _))⟩
 exact ⟨by rw [List.length_reverse]; exact hz,_,0,rv.rev,Heap.get?_push_size _ rfl⟩
end
end L2
namespace L2
open PySem PySem.Spec PyProof.Rows
section
variable {X : Cx} (K : PySem.W.Frag) (hK : X.K = K)
include hK
theorem zav : IxR X (rIxL K):=by subst hK; exact zni
theorem zbA : IxR X (rIxT K):=by subst hK; exact zmD
theorem zgN : SlR X (rSlL K):=by subst hK; exact znP
theorem znG : OpR X (compareOp .In) (rIn K false):=by subst hK; exact zkl
theorem keqD (hu : X.A.units + 64 < cLine) : OpR X (compareOp .Eq) (rEqD K false):=by subst hK; exact zqA hu
theorem kneD (hu : X.A.units + 64 < cLine) : OpR X (compareOp .NotEq) (rEqD K true):=by subst hK; exact zsq hu
def rLen (K : PySem.W.Frag) : List V -> Hp -> VK -> Prop:=fun xs H Q=>∃ p ys,xs = [.ref p] /\ (SqL K H p ys \/ SqT K H p ys) /\ Q (.int ys.length) H
theorem zcD : zeX X (.builtin "len") (rLen K):=by subst hK; exact zhH
def rIsi (K : PySem.W.Frag) : List V -> Hp -> VK -> Prop:=fun xs H Q=>∃ x n t b,xs = [x,.ty n] /\ TyOf K H x t /\ PySem.W.kitOne K t (.type n) = some b /\ Q (.bl b) H
theorem zng : zeX X (.builtin "isinstance") (rIsi K):=by subst hK; exact ziJ
def znM (K : PySem.W.Frag) : List V -> Hp -> VK -> Prop:=fun xs H Q=>∃ p ys,xs = [.ref p] /\ (SqL K H p ys \/ SqT K H p ys) /\ ∀ l,H l = none -> Q (.ref l) (upd H l (.lst ys))
theorem zcg : zeX X (.type "list") (znM K):=by subst hK; exact zho
def znL (K : PySem.W.Frag) : List V -> Hp -> VK -> Prop:=fun xs H Q=>∃ p ts,xs = [.ref p] /\ SqL K H p (zct ts) /\ (∀ t ∈ ts,SqT K H t.1 (t.2.map V.int) /\ t.2 ≠ []) /\ ts.length < 64 /\
 ∀ (l : Addr) (ts' : List TI2),H l = none -> ts'.Perm ts -> ts'.Pairwise (fun a b=>HT.zbL b.2 a.2 = false) -> Q (.ref l) (upd H l (.lst (zct ts')))
theorem znJ : zeX X (.builtin "sorted") (znL K):=by subst hK; exact ziy
theorem zaO {tg l : Expr} {tl : TE} (hl : PE X l tl) : PI X tg l (zsx K tl):=by subst hK; exact znn hl
theorem zdh {es : List Expr} {k1 : Nat} {tp : Pos} {e : Expr} {ta : TA} {p pos : Pos} (hg : Gl X "enumerate") (hm : X.mg "enumerate" = none) (ha : PA X [e] ta) (hs : starEach [e] X.env = (false,eval e X.env) :: starEach [] X.env:=by rfl) :
 PI X (.Tuple es k1 tp) (.Call (.Name "enumerate" p) [e] [] pos) (zoH K ta):=by subst hK; exact zny hg hm ha hs
theorem zbv {es : List Expr} {k : Nat} {t : TGs} {n : Nat} {pos : Pos} (hc : X.calm = true) (h : PGs X es t) (hn : (assignEach es X.env).length = n:=by rfl) (hst : (assignEach es X.env).findIdx? (·.1) = none:=by rfl) :
 PG X (.Tuple es k pos) (gTup K n t):=by subst hK; exact zqO hc h hn hst
theorem zmO {e st : Expr} {te tst : TE} {pos p2 : Pos} (he : PE X e te) (hs : PE X st tst) : PE X (.Subscript e (.Slice none none (some st) p2) pos) (tRev K te tst):=by subst hK; exact zsd he hs
theorem zaY {o e : Expr} {es : List Expr} {to : TE} {t : TA} {name : Str} {apos cpos : Pos} {T id : String} {r : V -> List V -> Hp -> VK -> Prop} (pa : PlainAttrs T) (slot : Slot T name id) (hty : typeOf (.builtin id) = pure (.type "method_descriptor")) (hm : MtR X id r) (ho : PE X o to) (ha : PA X (e :: es) t)
 (hbase : attributeBase o name X.env (eval o X.env) = eval o X.env:=by rfl)
 (hfew : ((backTo cpos (starEach (e :: es) X.env)).all (fun x=>!x.1) && (backToKw cpos (keywordEach [] X.env)).all (fun x=>x.1.isSome)
   && decide ((e :: es).length + ([] : List Keyword).length + (if ([] : List Keyword).isEmpty then 0 else 1) < 30)) = true:=by rfl)
 (hline : (apos.endLine == cpos.line) = true:=by rfl) (hs : starEach (e :: es) X.env = (false,eval e X.env) :: starEach es X.env:=by rfl) (hplain : (backTo cpos (starEach es X.env)).any (·.1) = false:=by rfl) :
 PE X (.Call (.Attribute o name apos) (e :: es) [] cpos) (tBM K T r to t):=by subst hK; exact zsW pa slot hty hm ho ha hbase hfew hline hs hplain
theorem zkX {o : Expr} {to : TE} {name : Str} {apos cpos : Pos} {T id : String} {r : V -> List V -> Hp -> VK -> Prop} (pa : PlainAttrs T) (slot : Slot T name id) (hty : typeOf (.builtin id) = pure (.type "method_descriptor")) (hm : MtR X id r) (ho : PE X o to)
 (hbase : attributeBase o name X.env (eval o X.env) = eval o X.env:=by rfl) (hline : (apos.endLine == cpos.line) = true:=by rfl) : PE X (.Call (.Attribute o name apos) [] [] cpos) (tBM0 K T r to):=by
 subst hK; exact zsP pa slot hty hm ho hbase hline
end
section
variable {X : Cx}
end
end L2
namespace Mt
open PySem
def has (t o : Int) : Bool:=decide (∀ k : Nat,k < 7 -> o / 2 ^ k % 2 <= t / 2 ^ k % 2)
theorem zgc (n k : Nat) : ((n : Int) / 2 ^ k % 2) = ((n / 2 ^ k % 2 : Nat) : Int):=by
 have e : ((2 : Int) ^ k) = ((2 ^ k : Nat) : Int):=by rw [Int.natCast_pow]; rfl
 rw [e]
 omega
theorem zmf (t o : Nat) (ho : o < 128) : (t &&& o) = o ↔ ∀ k : Nat,k < 7 -> o / 2 ^ k % 2 <= t / 2 ^ k % 2:=by
 constructor
 ·intro h k _
  have e : (t &&& o).testBit k = o.testBit k:=by rw [h]
  rw [Nat.testBit_and,Nat.testBit_eq_decide_div_mod_eq,Nat.testBit_eq_decide_div_mod_eq] at e
  have h1 : o / 2 ^ k % 2 < 2:=Nat.mod_lt _ (by decide)
  have h2 : t / 2 ^ k % 2 < 2:=Nat.mod_lt _ (by decide)
  by_cases c : o / 2 ^ k % 2 = 1
  ·by_cases d : t / 2 ^ k % 2 = 1
   ·omega
   ·rw [decide_eq_true c,decide_eq_false d] at e
    cases e
  ·omega
 ·intro h
  apply Nat.eq_of_testBit_eq
  intro k
  rw [Nat.testBit_and,Nat.testBit_eq_decide_div_mod_eq,Nat.testBit_eq_decide_div_mod_eq]
  by_cases c : o / 2 ^ k % 2 = 1
  ·by_cases hk : k < 7
   ·have:=h k hk
    have h2 : t / 2 ^ k % 2 < 2:=Nat.mod_lt _ (by decide)
    rw [decide_eq_true c,decide_eq_true (by omega)]
    rfl
   ·have e : o / 2 ^ k = 0:=by
     apply Nat.div_eq_of_lt
     exact Nat.lt_of_lt_of_le ho (Nat.le_trans (show 128 <= 2 ^ 7 by decide) (Nat.pow_le_pow_right (by decide) (by omega)))
    rw [e] at c
    cases c
  ·rw [decide_eq_false c,Bool.and_false]
theorem zin {t o : Int} (ht : 0 <= t) (h0 : 0 <= o) (h1 : o < 128) : decide (Builtin.bitAnd t o = o) = has t o:=by
 obtain ⟨a,rfl⟩:=Int.eq_ofNat_of_zero_le ht
 obtain ⟨b,rfl⟩:=Int.eq_ofNat_of_zero_le h0
 rw [PyProof.Rows.bitAnd_pp ht h0]
 unfold has
 rw [Int.toNat_natCast,Int.toNat_natCast]
 have q:=zmf a b (by omega)
 have e : (∀ k : Nat,k < 7 -> (b : Int) / 2 ^ k % 2 <= (a : Int) / 2 ^ k % 2) ↔ ∀ k : Nat,k < 7 -> b / 2 ^ k % 2 <= a / 2 ^ k % 2:=by
  constructor
  ·intro h k hk
   have:=h k hk
   rw [zgc,zgc] at this
   omega
  ·intro h k hk
   rw [zgc,zgc]
   have:=h k hk
   omega
 rw [decide_eq_decide,e,<- q]
 omega
theorem zjp (t : Int) : has t t = true:=decide_eq_true fun _ _=>Int.le_refl _
end Mt
namespace Mt
open PySem L2
def zce (cs : List Int) (t : Int) : Option Nat:=cs.findIdx? fun c=>has c t
def optV : Option Nat -> V
 | none=>.non
 | some i=>.int i
theorem zfG {cs : List Int} {t : Int} {i : Nat} {c : Int} (h : cs[i]? = some c) (hc : has c t = true) (hj : ∀ (j : Nat) c',j < i -> cs[j]? = some c' -> has c' t = false) : zce cs t = some i:=by
 obtain ⟨hi,e⟩:=List.getElem?_eq_some_iff.mp h
 unfold zce
 rw [List.findIdx?_eq_some_iff_getElem]
 refine ⟨hi,by rw [e]; exact hc,fun j hji=>?_⟩
 rw [hj j cs[j] hji (List.getElem?_eq_getElem (by omega))]
 exact Bool.false_ne_true
theorem zfA {cs : List Int} {t : Int} (hj : ∀ (j : Nat) c',j < cs.length -> cs[j]? = some c' -> has c' t = false) : zce cs t = none:=by
 unfold zce
 rw [List.findIdx?_eq_none_iff]
 intro c hc
 obtain ⟨j,hjl,e⟩:=List.getElem_of_mem hc
 exact hj j c hjl (by rw [List.getElem?_eq_getElem hjl,e])
end Mt
namespace Mt
open PySem L2
def zrT (H : Hp) (x : V) (p : Nat × Option Nat) : Prop:=∃ t,x = .ref t /\ H t = some (.tup [.int p.1,optV p.2])
theorem zrT.same {H H' : Hp} {x : V} {p : Nat × Option Nat} (h : zrT H x p) (s : Same H H') : zrT H' x p:=let ⟨t,e,h⟩:=h; ⟨t,e,s _ _ h⟩
end Mt
namespace Mt
open PySem L2
def pc (c : Int) : Int:=(([1,2,4,8,16,32,64] : List Int).map fun b=>c / b % 2).sum
def rk (c : Int) : List Int:=[pc c,c]
end Mt
namespace Mt
open PySem L2
theorem zml {t o : Int} (h : has t o = true) : o / 1 % 2 <= t / 1 % 2 /\ o / 2 % 2 <= t / 2 % 2 /\ o / 4 % 2 <= t / 4 % 2 /\ o / 8 % 2 <= t / 8 % 2 /\ o / 16 % 2 <= t / 16 % 2 /\ o / 32 % 2 <= t / 32 % 2 /\ o / 64 % 2 <= t / 64 % 2:=by
 have h : ∀ k : Nat,k < 7 -> o / 2 ^ k % 2 <= t / 2 ^ k % 2:=of_decide_eq_true h
 exact ⟨h 0 (by decide),h 1 (by decide),h 2 (by decide),h 3 (by decide),h 4 (by decide),h 5 (by decide),h 6 (by decide)⟩
theorem zlJ : ∀ c : Fin 128,(c.val : Int) = (c.val : Int) / 1 % 2 + 2 * ((c.val : Int) / 2 % 2) + 4 * ((c.val : Int) / 4 % 2) + 8 * ((c.val : Int) / 8 % 2) + 16 * ((c.val : Int) / 16 % 2) + 32 * ((c.val : Int) / 32 % 2) + 64 * ((c.val : Int) / 64 % 2):=by decide +kernel
theorem zgi {c : Int} (h : 0 <= c /\ c < 128) : c = c / 1 % 2 + 2 * (c / 2 % 2) + 4 * (c / 4 % 2) + 8 * (c / 8 % 2) + 16 * (c / 16 % 2) + 32 * (c / 32 % 2) + 64 * (c / 64 % 2):=by
 have q:=zlJ ⟨c.toNat,by omega⟩
 have e : ((c.toNat : Nat) : Int) = c:=by omega
 simpa only [e] using q
end Mt
namespace L2
open PySem PySem.Spec PyProof.Rows
section
variable {X : Cx} {pins : List (Addr × Obj)} {σ : St} {H : Hp} {s : Shared} {h' : Heap}
end
section
variable {X : Cx} {k : Nat} {f : Addr} {fd : FuncData} {ps : List Str} {sp : Sp}
end
end L2
namespace L2
open PySem PySem.Spec PyProof.Rows
section
variable {X : Cx} (K : PySem.W.Frag) (hK : X.K = K)
include hK
end
end L2
namespace L2
open PySem PySem.Spec PyProof.Rows
theorem zlX (zs : List Int) (n : Nat) (h : n <= zs.length) : cutV (zs.map V.int) (some (n : Int)) none = (zs.drop n).map V.int:=by
 unfold cutV
 rw [HT.ziX,HT.zkx,List.length_map,Nat.min_eq_left h,<- List.map_drop,List.take_of_length_le]
 rw [List.length_map,List.length_drop]
 exact Nat.le_refl _
end L2
namespace L2
open PySem PySem.Spec PyProof.Rows
section
variable {X : Cx}
end
section
variable {X : Cx} (K : PySem.W.Frag) (hK : X.K = K)
include hK
end
end L2
namespace L2
open PySem PySem.Spec PyProof.Rows
end L2
namespace Mt
open PySem L2
def Fit (cs : List Int) : Prop:=∀ (j k : Nat) c d,j < k -> cs[j]? = some c -> cs[k]? = some d -> has c d = false
theorem zjE {cs : List Int} {t : Int} {i : Nat} (h : zce cs t = some i) : (∃ c,cs[i]? = some c /\ has c t = true) /\ ∀ (j : Nat) c,j < i -> cs[j]? = some c -> has c t = false:=by
 unfold zce at h
 obtain ⟨hi,h1,h2⟩:=List.findIdx?_eq_some_iff_getElem.mp h
 refine ⟨⟨cs[i],List.getElem?_eq_getElem hi,h1⟩,fun j c hj hc=>?_⟩
 obtain ⟨hj',e⟩:=List.getElem?_eq_some_iff.mp hc
 have:=h2 j hj
 rw [e] at this
 cases q : has c t with
 | false=>rfl
 | true=>exact absurd q this
theorem zjD {cs : List Int} {t : Int} {i : Nat} {c : Int} (h : cs[i]? = some c) (hc : has c t = true) : ∃ j,zce cs t = some j /\ j <= i:=by
 cases q : zce cs t with
 | none =>
   unfold zce at q
   rw [List.findIdx?_eq_none_iff] at q
   have:=q c (List.mem_of_getElem? h)
   rw [hc] at this
   cases this
 | some j =>
   refine ⟨j,rfl,?_⟩
   by_cases z : j <= i
   ·exact z
   ·have:=(zjE q).2 i c (by omega) h
    rw [hc] at this
    cases this
end Mt
namespace L2
open PySem PySem.Spec PyProof.Rows
def sg (c : Nat) : Str:=⟨#[c]⟩
section
variable {X : Cx} {tg : Expr}
end
section
variable {X : Cx}
theorem zfD : ∀ {ys : List Str} {us : List Value},Vals (ys.map V.str) us -> StrsAre us ys
 | [],_,r=>by cases r; exact .nil
 | y :: ys,_,r=>by
   cases r with
   | cons r1 r2 =>
     obtain ⟨t,rfl⟩:=r1
     exact .cons y t (zfD r2)
def zrh (K : PySem.W.Frag) : V -> List V -> Hp -> VK -> Prop:=fun x xs H Q=>∃ (z : Str) (p : Addr) (ys : List Str),x = .str z /\ xs = [.ref p] /\ SqL K H p (ys.map V.str) /\ (ys.map (·.length)).sum + ys.length * z.length <= 16777216 /\ Q (.str (Txt.join z ys)) H
theorem zmS : MtR X "str.join" (zrh X.K):=by
 intro pins s σ H x xs v us Q I rx rs h
 obtain ⟨z,p,ys,rfl,rfl,hq,hb,q⟩:=h
 obtain ⟨t,rfl⟩:=rx
 obtain ⟨u,rfl,ru⟩:=zkh rs
 cases ru
 obtain ⟨its,rv,pl,hz⟩:=I.list hq
 exact join_list pl.isList (by simpa using zfD rv) hb fun t' k=>⟨.str _,H,I.tok _,⟨_,rfl⟩,q⟩
end
section
variable {X : Cx} (K : PySem.W.Frag) (hK : X.K = K)
include hK
theorem zeJ : MtR X "str.join" (zrh K):=by subst hK; exact zmS
end
end L2
namespace Cs
open PySem L2
structure Row where
 s : Str
 w : Int
 t : Int
 n : Int
abbrev rowV (r : Row) : List V:=[.str r.s,.int r.w,.int r.t,.int r.n]
def zcf (H : Hp) (v : V) (r : Row) : Prop:=∃ a,v = .ref a /\ H a = some (.tup (rowV r))
theorem zcf.same {H H' : Hp} {v : V} {r : Row} (h : zcf H v r) (s : Same H H') : zcf H' v r:=let ⟨a,e,h⟩:=h; ⟨a,e,s _ _ h⟩
theorem zaT {H H' : Hp} {xs : List V} {rs : List Row} (h : Paired (zcf H) xs rs) (s : Same H H') : Paired (zcf H') xs rs:=Paired.mapP h fun _ _ z=>z.same s
theorem zjr {H : Hp} {l : Addr} {o ys : HO} {xs : List V} {rs : List Row} (h : Paired (zcf H) xs rs) (hl : H l = some ys) (hn : ∀ z,ys ≠ .tup z) : Paired (zcf (upd H l o)) xs rs :=
 Paired.mapP h fun x p ⟨t,e,ht⟩=>⟨t,e,by rw [zai (zbi ht hl fun z=>hn _ z.symm)]; exact ht⟩
theorem zaZ {H : Hp} {xs : List V} {rs : List Row} (h : Paired (zcf H) xs rs) : xs.length = rs.length:=Paired.length h
theorem zaM {α β : Type} {F : α -> β -> Prop} : ∀ {xs : List α} {ys : List β} {i : Nat} {x : α},Paired F xs ys -> xs[i]? = some x -> ∃ y,ys[i]? = some y /\ F x y
 | _,_,_,_,.nil,e=>by simp at e
 | _,_,0,_,.cons r _,e=>by simp at e; subst e; exact ⟨_,rfl,r⟩
 | _,_,i + 1,x,.cons _ t,e=>by
   obtain ⟨p,h1,h2⟩:=zaM (i:=i) (x:=x) t (by simpa using e)
   exact ⟨p,by simpa using h1,h2⟩
theorem zed {α β : Type} {F : α -> β -> Prop} : ∀ {xs : List α} {ys : List β} {i : Nat} {y : β},Paired F xs ys -> ys[i]? = some y -> ∃ x,xs[i]? = some x /\ F x y
 | _,_,_,_,.nil,e=>by simp at e
 | _,_,0,_,.cons r _,e=>by simp at e; subst e; exact ⟨_,rfl,r⟩
 | _,_,i + 1,x,.cons _ t,e=>by
   obtain ⟨p,h1,h2⟩:=zed (i:=i) (y:=x) t (by simpa using e)
   exact ⟨p,by simpa using h1,h2⟩
def zeT (K : PySem.W.Frag) (H : Hp) (l : Addr) (rs : List Row) : Prop:=∃ xs,SqL K H l xs /\ Paired (zcf H) xs rs
theorem zeT.same {K : PySem.W.Frag} {H H' : Hp} {l : Addr} {rs : List Row} (h : zeT K H l rs) (s : Same H H') : zeT K H' l rs:=let ⟨xs,h1,h2⟩:=h; ⟨xs,s.seq h1,zaT h2 s⟩
def place (rs : List Row) (x : Str) : Option Nat:=rs.findIdx? fun r=>decide (r.s = x)
theorem zfy {rs : List Row} {x : Str} {i : Nat} {r : Row} (h : rs[i]? = some r) (hx : r.s = x) (hj : ∀ (j : Nat) r',j < i -> rs[j]? = some r' -> r'.s ≠ x) : place rs x = some i:=by
 obtain ⟨hi,e⟩:=List.getElem?_eq_some_iff.mp h
 unfold place
 rw [List.findIdx?_eq_some_iff_getElem]
 refine ⟨hi,by rw [e]; exact decide_eq_true hx,fun j hji=>?_⟩
 have:=hj j rs[j] hji (List.getElem?_eq_getElem (by omega))
 rw [decide_eq_false this]
 exact Bool.false_ne_true
theorem zfw {rs : List Row} {x : Str} (hj : ∀ (j : Nat) r,j < rs.length -> rs[j]? = some r -> r.s ≠ x) : place rs x = none:=by
 unfold place
 rw [List.findIdx?_eq_none_iff]
 intro r hr
 obtain ⟨j,hjl,e⟩:=List.getElem_of_mem hr
 exact decide_eq_false (hj j r hjl (by rw [List.getElem?_eq_getElem hjl,e]))
theorem zbJ {rs : List Row} {x : Str} {i : Nat} (h : place rs x = some i) : i < rs.length:=by
 unfold place at h
 obtain ⟨hi,_⟩:=List.findIdx?_eq_some_iff_getElem.mp h
 exact hi
theorem strV {x y : Str} : decide (V.str x = V.str y) = decide (x = y):=by
 rw [decide_eq_decide]
 exact ⟨fun h=>V.str.inj h,fun h=>by rw [h]⟩
def rowD (r : Row) : PyData:=.tuple [.str r.s,.int r.w,.int r.t,.int r.n]
theorem zff {K : PySem.W.Frag} {H : Hp} : ∀ {xs : List V} {rs : List Row},Paired (zcf H) xs rs -> (∀ r ∈ rs,PyData.canLay0 (.str r.s) = true) -> DenL K H xs (rs.map rowD)
 | _,_,.nil,_=>.nil
 | _,_,.cons ⟨t,e,h⟩ r,c=>by
   subst e
   exact .cons (.tup (SqT.of h) (.cons (.str _ (c _ List.mem_cons_self)) (.cons (.int _) (.cons (.int _) (.cons (.int _) .nil))))) (zff r fun x hx=>c x (List.mem_cons_of_mem _ hx))
theorem znN : ∀ rs : List Row,nbL (rs.map rowD) = true
 | []=>rfl
 | r :: rs=>by
   show (nb (rowD r) && nbL (rs.map rowD)) = true
   rw [znN rs]
   rfl
theorem zfJ : ∀ rs : List Row,PyData.depthAll (rs.map rowD) <= 1
 | []=>Nat.zero_le _
 | r :: rs=>Nat.max_le.mpr ⟨Nat.le_refl _,zfJ rs⟩
abbrev zjM (rs : List Row) : PyData:=.list (rs.map rowD)
def signs : List Nat:="abcdefghijklmnopqrstuvwxyz.,-'".toList.map Char.toNat
theorem zkK : ∀ c ∈ signs,PyData.canLay0 (.str (sg c)) = true:=by decide +kernel
theorem znx (zs : List Int) (lo hi : Option Int) : ∃ ms : List Int,cutV (zs.map V.int) lo hi = ms.map V.int /\ ms.length <= zs.length:=by
 unfold cutV
 rw [<- List.map_drop,<- List.map_take]
 exact ⟨_,rfl,by rw [List.length_take,List.length_drop]; omega⟩
end Cs
namespace L2
open PySem PySem.Spec PyProof.Rows
section
variable {X : Cx}
def eqI (z : Int) : Value -> Bool
 | .int i _=>i == z
 | _=>false
end
end L2
namespace Mt
open PySem L2
theorem zsz {t o : Int} (ht : 0 <= t /\ t < 128) (ho : 0 <= o /\ o < 128) (h : has t o = true) : o <= t:=by
 obtain ⟨a0,a1,a2,a3,a4,a5,a6⟩:=zml h
 have b:=zgi ht
 have d:=zgi ho
 clear h ht ho
 rw [b,d]
 clear b d
 generalize t / 1 % 2 = t0 at *
 generalize t / 2 % 2 = t1 at *
 generalize t / 4 % 2 = t2 at *
 generalize t / 8 % 2 = t3 at *
 generalize t / 16 % 2 = t4 at *
 generalize t / 32 % 2 = t5 at *
 generalize t / 64 % 2 = t6 at *
 omega
end Mt
namespace Mt
open PySem L2
end Mt
namespace Mt
open PySem L2
end Mt
namespace Mt
open PySem L2
theorem znH {x s0 s1 s2 s3 s4 s5 s6 : Int} (h : x = s0 + (2 * s1 + (4 * s2 + (8 * s3 + (16 * s4 + (32 * s5 + (64 * s6 + 0)))))))
 (h0 : 0 <= s0 /\ s0 <= 1) (h1 : 0 <= s1 /\ s1 <= 1) (h2 : 0 <= s2 /\ s2 <= 1) (h3 : 0 <= s3 /\ s3 <= 1) (h4 : 0 <= s4 /\ s4 <= 1) (h5 : 0 <= s5 /\ s5 <= 1) (h6 : 0 <= s6 /\ s6 <= 1) :
 x / 1 % 2 = s0 /\ x / 2 % 2 = s1 /\ x / 4 % 2 = s2 /\ x / 8 % 2 = s3 /\ x / 16 % 2 = s4 /\ x / 32 % 2 = s5 /\ x / 64 % 2 = s6 /\ 0 <= x /\ x < 128:=by
 have st : ∀ (n r y s t : Int),0 < n -> x = r + n * y -> 0 <= r -> r < n -> y = s + 2 * t -> 0 <= s -> s <= 1 -> x / n % 2 = s:=by
  intro n r y s t hn hx h1 h2 hy h3 h4
  have e : x / n = y:=by
   rw [hx,Int.add_mul_ediv_left _ _ (by omega),Int.ediv_eq_zero_of_lt h1 h2,Int.zero_add]
  rw [e,hy]
  omega
 refine ⟨st 1 0 x s0 (s1 + 2 * s2 + 4 * s3 + 8 * s4 + 16 * s5 + 32 * s6) (by omega) (by omega) (by omega) (by omega) (by omega) (by omega) (by omega),
  st 2 s0 (s1 + 2 * (s2 + 2 * s3 + 4 * s4 + 8 * s5 + 16 * s6)) s1 _ (by omega) (by omega) (by omega) (by omega) rfl (by omega) (by omega),
  st 4 (s0 + 2 * s1) (s2 + 2 * (s3 + 2 * s4 + 4 * s5 + 8 * s6)) s2 _ (by omega) (by omega) (by omega) (by omega) rfl (by omega) (by omega),
  st 8 (s0 + 2 * s1 + 4 * s2) (s3 + 2 * (s4 + 2 * s5 + 4 * s6)) s3 _ (by omega) (by omega) (by omega) (by omega) rfl (by omega) (by omega),
  st 16 (s0 + 2 * s1 + 4 * s2 + 8 * s3) (s4 + 2 * (s5 + 2 * s6)) s4 _ (by omega) (by omega) (by omega) (by omega) rfl (by omega) (by omega),
  st 32 (s0 + 2 * s1 + 4 * s2 + 8 * s3 + 16 * s4) (s5 + 2 * s6) s5 _ (by omega) (by omega) (by omega) (by omega) rfl (by omega) (by omega),
  st 64 (s0 + 2 * s1 + 4 * s2 + 8 * s3 + 16 * s4 + 32 * s5) (s6 + 2 * 0) s6 _ (by omega) (by omega) (by omega) (by omega) rfl (by omega) (by omega),by omega,by omega⟩
def zmh : List Int:=[1,2,4,8,16,32,64]
def zbI (a c : Int) : Int:=(zmh.filter fun b=>decide (a / b % 2 = 1) && decide (c / b % 2 = 0)).sum
theorem two (x : Int) : 0 <= x % 2 /\ x % 2 <= 1:=by omega
def sb (p : Bool) : Int:=if p then 1 else 0
structure Bits (x : Int) (f : Int -> Int) : Prop where
 at_ : ∀ b ∈ zmh,x / b % 2 = f b
 lo : 0 <= x
 hi : x < 128
theorem has_iff {t o : Int} : has t o = true ↔ ∀ b ∈ zmh,o / b % 2 <= t / b % 2:=by
 unfold has
 rw [decide_eq_true_iff]
 constructor
 ·intro h b hb
  simp only [zmh,List.mem_cons,List.not_mem_nil,or_false] at hb
  rcases hb with rfl | rfl | rfl | rfl | rfl | rfl | rfl
  ·exact h 0 (by decide)
  ·exact h 1 (by decide)
  ·exact h 2 (by decide)
  ·exact h 3 (by decide)
  ·exact h 4 (by decide)
  ·exact h 5 (by decide)
  ·exact h 6 (by decide)
 ·intro h k hk
  match k,hk with
  | 0,_=>exact h 1 (by decide)
  | 1,_=>exact h 2 (by decide)
  | 2,_=>exact h 4 (by decide)
  | 3,_=>exact h 8 (by decide)
  | 4,_=>exact h 16 (by decide)
  | 5,_=>exact h 32 (by decide)
  | 6,_=>exact h 64 (by decide)
theorem lin7 {a x a0 a1 a2 a3 a4 a5 a6 x0 x1 x2 x3 x4 x5 x6 : Int} (ha : a = a0 + 2 * a1 + 4 * a2 + 8 * a3 + 16 * a4 + 32 * a5 + 64 * a6) (hx : x = x0 + 2 * x1 + 4 * x2 + 8 * x3 + 16 * x4 + 32 * x5 + 64 * x6) :
 a - x = (a0 - x0) + (2 * (a1 - x1) + (4 * (a2 - x2) + (8 * (a3 - x3) + (16 * (a4 - x4) + (32 * (a5 - x5) + (64 * (a6 - x6) + 0)))))):=by omega
theorem dif2 {p q : Int} (hp : 0 <= p /\ p <= 1) (hq : 0 <= q /\ q <= 1) (h : q <= p) : 0 <= p - q /\ p - q <= 1:=by omega
theorem znp {a x : Int} (ha : 0 <= a /\ a < 128) (hx : 0 <= x /\ x < 128) (h : has a x = true) : Bits (a - x) (fun b=>a / b % 2 - x / b % 2):=by
 have q:=has_iff.mp h
 have q0:=q 1 (by decide)
 have q1:=q 2 (by decide)
 have q2:=q 4 (by decide)
 have q3:=q 8 (by decide)
 have q4:=q 16 (by decide)
 have q5:=q 32 (by decide)
 have q6:=q 64 (by decide)
 have ba:=zgi ha
 have bx:=zgi hx
 have e:=lin7 ba bx
 have bd : ∀ b : Int,x / b % 2 <= a / b % 2 -> 0 <= a / b % 2 - x / b % 2 /\ a / b % 2 - x / b % 2 <= 1:=fun b hb=>dif2 (two _) (two _) hb
 obtain ⟨r0,r1,r2,r3,r4,r5,r6,l,hh⟩:=znH e (bd 1 q0) (bd 2 q1) (bd 4 q2) (bd 8 q3) (bd 16 q4) (bd 32 q5) (bd 64 q6)
 refine ⟨fun b hb=>?_,l,hh⟩
 simp only [zmh,List.mem_cons,List.not_mem_nil,or_false] at hb
 rcases hb with rfl | rfl | rfl | rfl | rfl | rfl | rfl
 ·exact r0
 ·exact r1
 ·exact r2
 ·exact r3
 ·exact r4
 ·exact r5
 ·exact r6
theorem zkz {a x : Int} (ha : 0 <= a /\ a < 128) (hx : 0 <= x /\ x < 128) (h : has a x = true) : has a (a - x) = true /\ 0 <= a - x /\ a - x < 128:=by
 have B:=znp ha hx h
 refine ⟨has_iff.mpr fun b hb=>?_,B.lo,B.hi⟩
 rw [B.at_ b hb]
 have:=two (x / b)
 show a / b % 2 - x / b % 2 <= _
 omega
end Mt
namespace L2
open PySem PySem.Spec PyProof.Rows
section
variable {κ : Type} [DecidableEq κ]
def valV (kvs : List (κ × V)) (k : κ) : Option V:=(kvs.find? fun kv=>decide (kv.1 = k)).map (·.2)
def putK (kvs : List (κ × V)) (k : κ) (v : V) : List (κ × V) :=
 if (kvs.any fun kv=>decide (kv.1 = k)) = true then kvs.map (fun kv=>if kv.1 = k then (kv.1,v) else kv) else kvs ++ [(k,v)]
def zqj (kvs : List (κ × V)) (k : κ) : List (κ × V):=kvs.filter fun kv=>decide (kv.1 ≠ k)
theorem zfW {p : κ × V} {r : List (κ × V)} {k : κ} (e : p.1 = k) : valV (p :: r) k = some p.2:=by simp [valV,List.find?_cons,e]
theorem zgb {p : κ × V} {r : List (κ × V)} {k : κ} (e : ¬ p.1 = k) : valV (p :: r) k = valV r k:=by simp [valV,List.find?_cons,e]
theorem zjx (k : κ) : ∀ kvs : List (κ × V),(kvs.any fun kv=>decide (kv.1 = k)) = (valV kvs k).isSome
 | []=>rfl
 | p :: r=>by
   rw [List.any_cons]
   by_cases e : p.1 = k
   ·simp only [zfW e,decide_eq_true e,Bool.true_or,Option.isSome_some]
   ·rw [zgb e,decide_eq_false e,Bool.false_or]; exact zjx k r
theorem zdu (kvs : List (κ × V)) (k : κ) (v : V) : (putK kvs k v).length <= kvs.length + 1:=by
 unfold putK
 split
 ·rw [List.length_map]; omega
 ·rw [List.length_append,List.length_cons,List.length_nil]; omega
theorem RelO.isSome_eq {o : Option V} {u : Option Value} (r : RelO o u) : o.isSome = u.isSome:=by
 cases o with
 | none=>cases u with
   | none=>rfl
   | some _=>exact (show False from r).elim
 | some _=>cases u with
   | none=>exact (show False from r).elim
   | some _=>rfl
theorem KV.val {kvs : List (κ × V)} {vs : List (κ × Value)} (r : KV kvs vs) (k : κ) : RelO (valV kvs k) (valueAt vs k):=by
 unfold KV at r
 induction r with
 | nil=>exact True.intro
 | @cons p q ps qs h t ih =>
   obtain ⟨h1,h2⟩:=h
   by_cases e : p.1 = k
   ·have e' : q.1 = k:=h1.symm.trans e
    have b : valueAt (q :: qs) k = some q.2:=by simp [valueAt,List.find?_cons,e']
    rw [zfW e,b]; exact h2
   ·have e' : ¬ q.1 = k:=fun z=>e (h1.trans z)
    have b : valueAt (q :: qs) k = valueAt qs k:=by simp [valueAt,List.find?_cons,e']
    rw [zgb e,b]; exact ih
theorem KV.any {kvs : List (κ × V)} {vs : List (κ × Value)} (r : KV kvs vs) (k : κ) : (kvs.any fun kv=>decide (kv.1 = k)) = vs.any fun kv=>decide (kv.1 = k):=by
 unfold KV at r
 induction r with
 | nil=>rfl
 | cons h t ih=>rw [List.any_cons,List.any_cons,ih,h.1]
theorem KV.repl {kvs : List (κ × V)} {vs : List (κ × Value)} (r : KV kvs vs) (k : κ) {y : V} {u : Value} (ry : RelV y u) :
 KV (kvs.map fun kv=>if kv.1 = k then (kv.1,y) else kv) (vs.map fun kv=>if kv.1 = k then (kv.1,u) else kv):=by
 unfold KV at r ⊢
 induction r with
 | nil=>exact .nil
 | @cons p q ps qs h t ih =>
   rw [List.map_cons,List.map_cons]
   refine .cons ?_ ih
   obtain ⟨h1,h2⟩:=h
   by_cases e : p.1 = k
   ·rw [if_pos e,if_pos (h1.symm.trans e)]; exact ⟨h1,ry⟩
   ·rw [if_neg e,if_neg (fun z=>e (h1.trans z))]; exact ⟨h1,h2⟩
theorem KV.put {kvs : List (κ × V)} {vs : List (κ × Value)} (r : KV kvs vs) (k : κ) {y : V} {u : Value} (ry : RelV y u) : KV (putK kvs k y) (stored vs k u):=by
 unfold putK stored
 rw [r.any k]
 by_cases e : (vs.any fun kv=>decide (kv.1 = k)) = true
 ·rw [if_pos e,if_pos e]; exact r.repl k ry
 ·rw [if_neg e,if_neg e]; exact Paired.snoc r ⟨rfl,ry⟩
theorem KV.drop {kvs : List (κ × V)} {vs : List (κ × Value)} (r : KV kvs vs) (k : κ) : KV (zqj kvs k) (without vs k):=by
 unfold KV at r ⊢
 unfold zqj without
 induction r with
 | nil=>exact .nil
 | @cons p q ps qs h t ih =>
   obtain ⟨h1,h2⟩:=h
   rw [List.filter_cons,List.filter_cons]
   by_cases e : p.1 = k
   ·have a : ¬ decide (p.1 ≠ k) = true:=by simp [e]
    have b : ¬ decide (q.1 ≠ k) = true:=by simp [h1.symm.trans e]
    rw [if_neg a,if_neg b]; exact ih
   ·have e' : ¬ q.1 = k:=fun z=>e (h1.trans z)
    have a : decide (p.1 ≠ k) = true:=by simp [e]
    have b : decide (q.1 ≠ k) = true:=by simp [e']
    rw [if_pos a,if_pos b]; exact .cons ⟨h1,h2⟩ ih
theorem KV.keys {kvs : List (κ × V)} {vs : List (κ × Value)} (r : KV kvs vs) : kvs.map (·.1) = vs.map (·.1):=by
 unfold KV at r
 induction r with
 | nil=>rfl
 | cons h t ih=>rw [List.map_cons,List.map_cons,ih,h.1]
theorem KV.length {kvs : List (κ × V)} {vs : List (κ × Value)} (r : KV kvs vs) : kvs.length = vs.length:=Paired.length r
end
theorem zmn {P : Program} {w : World} {k : Key} {u : Value} (r : RelV (kV k) u) : (zbu P w).is k u = true:=by
 cases k with
 | inl i=>obtain ⟨t,e⟩:=(show ∃ t,u = Value.int i t from r); subst e; exact ziE P w i t
 | inr x=>obtain ⟨t,e⟩:=(show ∃ t,u = Value.str x t from r); subst e; exact zim P w x t
theorem zhC {P : Program} {w : World} : ∀ {ks : List Key} {us : List Value},Vals (ks.map kV) us -> ItemsAre (zbu P w) ks us
 | [],_,r=>by rw [List.map_nil] at r; cases r; exact .nil
 | k :: ks,_,r=>by
   rw [List.map_cons] at r
   cases r with
   | cons h t=>exact .cons (zmn h) (zhC t)
abbrev KT (H : Hp) : List (List Key × V) -> List (List Key × Addr × Value) -> Prop:=Paired fun p q=>p.1 = q.1 /\ H q.2.1 = some (.tup (p.1.map kV)) /\ RelV p.2 q.2.2
theorem KT.val {H : Hp} {kvs : List (List Key × V)} {xs : List (List Key × Addr × Value)} (r : KT H kvs xs) (k : List Key) : RelO (valV kvs k) ((atKey xs k).map (·.2)):=by
 induction r with
 | nil=>exact True.intro
 | @cons p q ps qs h t ih =>
   obtain ⟨h1,_,h2⟩:=h
   by_cases e : p.1 = k
   ·have e' : q.1 = k:=h1.symm.trans e
    have b : atKey (q :: qs) k = some q.2:=by simp [atKey,List.find?_cons,e']
    rw [zfW e,b]; exact h2
   ·have e' : ¬ q.1 = k:=fun z=>e (h1.trans z)
    have b : atKey (q :: qs) k = atKey qs k:=by simp [atKey,List.find?_cons,e']
    rw [zgb e,b]; exact ih
theorem KT.repl {H : Hp} {kvs : List (List Key × V)} {xs : List (List Key × Addr × Value)} (r : KT H kvs xs) (k : List Key) {y : V} {u : Value} (ry : RelV y u) :
 KT H (kvs.map fun kv=>if kv.1 = k then (kv.1,y) else kv) (xs.map (putAt k u)):=by
 induction r with
 | nil=>exact .nil
 | @cons p q ps qs h t ih =>
   rw [List.map_cons,List.map_cons]
   refine .cons ?_ ih
   obtain ⟨h1,h2,h3⟩:=h
   unfold putAt
   by_cases e : p.1 = k
   ·rw [if_pos e,if_pos (h1.symm.trans e)]; exact ⟨h1,h2,ry⟩
   ·rw [if_neg e,if_neg (fun z=>e (h1.trans z))]; exact ⟨h1,h2,h3⟩
theorem KT.put {H : Hp} {kvs : List (List Key × V)} {xs : List (List Key × Addr × Value)} (r : KT H kvs xs) (k : List Key) {b : Addr} {y : V} {u : Value} (hb : H b = some (.tup (k.map kV))) (ry : RelV y u) :
 KT H (putK kvs k y) (storedH xs k b u):=by
 have e : (kvs.any fun kv=>decide (kv.1 = k)) = (atKey xs k).isSome:=by
  rw [zjx,(r.val k).isSome_eq,Option.isSome_map]
 unfold putK storedH
 rw [e]
 by_cases q : (atKey xs k).isSome = true
 ·rw [if_pos q,if_pos q]; exact r.repl k ry
 ·rw [if_neg q,if_neg q]; exact Paired.snoc r ⟨rfl,hb,ry⟩
theorem KT.keeps {H H' : Hp} {kvs : List (List Key × V)} {xs : List (List Key × Addr × Value)} (r : KT H kvs xs) (ht : ∀ b ys,H b = some (.tup ys) -> H' b = some (.tup ys)) : KT H' kvs xs :=
 Paired.mapP r fun _ _ z=>⟨z.1,ht _ _ z.2.1,z.2.2⟩
section
variable {P : Program} {w : World} {H : Hp} {h : Heap} {a : Addr}
theorem zrG {u : HO} (ok : HOk P w H h) (e : Rd H a u) : zbV P w H h a u:=e.ok ok
theorem znl {kvs : List (Key × V)} (ok : HOk P w H h) (e : Rd H a (.dK kvs)) : kvs.length <= sizeLine /\ (a == sysModules) = false /\ ∃ vs,KV kvs vs /\ h.DictOf (zbu P w) a vs :=
 show zbV P w H h a (.dK kvs) from zrG ok e
theorem zoZ {kvs : List (Key × V)} (ok : HOk P w H h) (e : H a = some (.dK kvs)) : kvs.length <= sizeLine /\ (a == sysModules) = false /\ ∃ vs,KV kvs vs /\ h.DictOf (zbu P w) a vs:=znl ok (.inl e)
theorem zkt {ks : List Key} (ok : HOk P w H h) (e : H a = some (.tup (ks.map kV))) : (tupleKind (zbu P w)).is h ks a:=by
 obtain ⟨_,its,r,o,h1,h2,n,h3⟩:=(show zbV P w H h a (.tup (ks.map kV)) from ok a _ e)
 exact ⟨o,its.toArray,n,h1,h2,h3,by simpa using zhC r⟩
theorem znV {kvs : List (List Key × V)} (ok : HOk P w H h) (e : Rd H a (.dT kvs)) : kvs.length <= sizeLine /\ (a == sysModules) = false /\
 ∃ xs,KT H kvs xs /\ h.DictOfH (tupleKind (zbu P w)) a xs:=by
 obtain ⟨z,y,xs,r,o,es,ep,h1,h2,h3,h4,h5⟩:=(show zbV P w H h a (.dT kvs) from zrG ok e)
 refine ⟨z,y,xs,r,o,es,ep,h1,h2,h3,h4,fun x hx=>?_,h5⟩
 have all : ∀ {l : List (List Key × V)} {m : List (List Key × Addr × Value)},KT H l m -> ∀ x ∈ m,(tupleKind (zbu P w)).is h x.1 x.2.1:=by
  intro l m q
  induction q with
  | nil=>intro x hx; exact nomatch hx
  | @cons p q ps qs hq t ih =>
    intro x hx
    rcases List.mem_cons.mp hx with e | hx
    ·subst e
     exact zkt ok (by rw [<- hq.1]; exact hq.2.1)
    ·exact ih x hx
 exact all r x hx
theorem zvi {kvs : List (List Key × V)} (ok : HOk P w H h) (e : H a = some (.dT kvs)) : kvs.length <= sizeLine /\ (a == sysModules) = false /\
 ∃ xs,KT H kvs xs /\ h.DictOfH (tupleKind (zbu P w)) a xs:=znV ok (.inl e)
end
def DGet (H : Hp) (a : Addr) (y : V) (r : Option V) : Prop :=
 (∃ kvs k,Rd H a (.dK kvs) /\ y = kV k /\ r = valV kvs k) \/ ∃ kvs k b,Rd H a (.dT kvs) /\ y = .ref b /\ H b = some (.tup (k.map kV)) /\ r = valV kvs k
def DPut (H : Hp) (a : Addr) (y v : V) (H' : Hp) : Prop :=
 (∃ kvs k,H a = some (.dK kvs) /\ y = kV k /\ kvs.length < sizeLine /\ H' = upd H a (.dK (putK kvs k v))) \/
 ∃ kvs k b,H a = some (.dT kvs) /\ y = .ref b /\ H b = some (.tup (k.map kV)) /\ kvs.length < sizeLine /\ H' = upd H a (.dT (putK kvs k v))
theorem DGet.k {H : Hp} {a : Addr} {kvs : List (Key × V)} {k : Key} (e : H a = some (.dK kvs)) : DGet H a (kV k) (valV kvs k):=.inl ⟨kvs,k,.inl e,rfl,rfl⟩
theorem DGet.t {H : Hp} {a b : Addr} {kvs : List (List Key × V)} {k : List Key} (e : H a = some (.dT kvs)) (eb : H b = some (.tup (k.map kV))) : DGet H a (.ref b) (valV kvs k):=.inr ⟨kvs,k,b,.inl e,rfl,eb,rfl⟩
theorem DPut.k {H : Hp} {a : Addr} {kvs : List (Key × V)} {k : Key} {v : V} (e : H a = some (.dK kvs)) (hl : kvs.length < sizeLine) : DPut H a (kV k) v (upd H a (.dK (putK kvs k v))):=.inl ⟨kvs,k,e,rfl,hl,rfl⟩
theorem DPut.t {H : Hp} {a b : Addr} {kvs : List (List Key × V)} {k : List Key} {v : V} (e : H a = some (.dT kvs)) (eb : H b = some (.tup (k.map kV))) (hl : kvs.length < sizeLine) :
 DPut H a (.ref b) v (upd H a (.dT (putK kvs k v))):=.inr ⟨kvs,k,b,e,rfl,eb,hl,rfl⟩
section
variable {X : Cx} {pins : List (Addr × Obj)} {σ : St} {H : Hp} {s : Shared} {a : Addr} {y v : V} {u r : Value} {o : Option V} {A : Around} {E : Value -> Shared -> Prop}
theorem Inv.big (I : Inv X pins σ H s) : sysModules < s.heap.objs.size:=by
 have h : mainGlobals < s.heap.objs.size:=(I.mod.glob.keeps I.bk).lt
 exact Nat.lt_trans (by decide) h
theorem zlF {Q : Value -> Shared -> Prop} (hu : A.units + 1 < cLine) (I : Inv X pins σ H s) (g : DGet H a y (some v)) (ry : RelV y u) (h : ∀ w' s',Inv X pins σ H s' -> RelV v w' -> Q w' s') :
 wpAny (model X.prog X.w) A (getItem (.ref a) u) Q E s:=by
 rcases g with ⟨kvs,k,e,ey,l⟩ | ⟨kvs,k,b,e,ey,eb,l⟩
 ·subst ey
  obtain ⟨z,hd,vs,rel,dd⟩:=znl I.hok e
  obtain ⟨w',hw,rw'⟩:=RelO.some_of (v:=v) (o:=valueAt vs k) (by rw [l]; exact rel.val k)
  exact wpAny_getItem_of (zmn ry) dd.mapOf hw (h w' _ (I.tok _) rw')
 ·subst ey
  cases (show u = Value.ref b from ry)
  obtain ⟨z,hd,xs,rel,dd⟩:=znV I.hok e
  obtain ⟨w',hw,rw'⟩:=RelO.some_of (v:=v) (o:=(atKey xs k).map (·.2)) (by rw [l]; exact rel.val k)
  obtain ⟨p,hp,hp2⟩:=Option.map_eq_some_iff.mp hw
  refine wpAny_getItem_heap (tupleKind_room_in1 hu) (zkt I.hok eb) dd hp ?_
  rw [hp2]
  exact h w' _ (I.tok _) rw'
theorem ziz {h' : Heap} {t' : Nat} {ob : HO} (I : Inv X pins σ H s) (mu : Mut (H a)) (hs : Heap.SameBut a s.heap h') (he : ∃ q,h'.get? a = some q) (new : zbV X.prog X.w (upd H a ob) h' a ob) :
 Inv X pins σ (upd H a ob) { s with heap:=h',toks:=t' } :=
 I.write (x:=a) (e:=a) mu (.inl rfl) (fun b q hb z=>(hs.2 b hb).trans z) he new
theorem zmy {P : Program} {w : World} {H' : Hp} {h' : Heap} {kvs : List (Key × V)} {vs : List (Key × Value)} (z : kvs.length <= sizeLine) (hd : (a == sysModules) = false) (rel : KV kvs vs) (dd : h'.DictOf (zbu P w) a vs) :
 zbV P w H' h' a (.dK kvs):=⟨z,hd,vs,rel,dd⟩
theorem zkT {H' : Hp} {Q : Unit -> Shared -> Prop} (hu : A.units + 1 < cLine) (I : Inv X pins σ H s) (g : DPut H a y v H') (ry : RelV y u) (rv : RelV v r) (h : ∀ s',Inv X pins σ H' s' -> Q () s') :
 wpAny (model X.prog X.w) A (setItem (.ref a) u r) Q E s:=by
 rcases g with ⟨kvs,k,e,ey,l,eH⟩ | ⟨kvs,k,b,e,ey,eb,l,eH⟩
 ·subst ey eH
  obtain ⟨z,hd,vs,rel,dd⟩:=zoZ I.hok e
  have hz : vs.length <= sizeLine:=by rw [<- rel.length]; exact z
  have hl : (putK kvs k v).length <= sizeLine:=by have:=zdu kvs k v; omega
  refine wpAny_setItem_pairs (hsz:=hz) (zmn ry) dd fun h' dd' hs=>h _ ?_
  have he : ∃ q,h'.get? a = some q:=let ⟨q,_,_,hq,_⟩:=dd'; ⟨q,hq⟩
  exact ziz I (by rw [e]; exact True.intro) hs he (zmy hl hd (rel.put k rv) dd')
 ·subst ey eH
  cases (show u = Value.ref b from ry)
  obtain ⟨z,hd,xs,rel,dd⟩:=zvi I.hok e
  have hz : xs.length <= sizeLine:=by rw [<- Paired.length rel]; exact z
  have hl : (putK kvs k v).length <= sizeLine:=by have:=zdu kvs k v; omega
  refine wpAny_setItem_heap (hsz:=hz) (tupleKind_room_in1 hu) (zkt I.hok eb) dd fun h' dd' hs=>h _ ?_
  obtain ⟨q,es,ep,hq,h2,h3,h4,_,h5⟩:=dd'
  refine ziz I (by rw [e]; exact True.intro) hs ⟨q,hq⟩ ⟨hl,hd,_,(rel.put k eb rv).keeps fun c ys ec=>?_,q,es,ep,hq,h2,h3,h4,h5⟩
  rw [zai (zbi ec e (fun z=>nomatch z))]
  exact ec
end
section
variable {X : Cx} {pins : List (Addr × Obj)} {σ : St} {H : Hp} {s : Shared} {a : Addr} {kvs : List (Key × V)} {k : Key} {u : Value} {A : Around} {E : Value -> Shared -> Prop}
end
def NoSl (i : Expr) : Prop:=∀ ov iv,subscripted i false ov iv = operate [ov,iv] (getItem ov iv)
theorem znI {prog : Program} {w : World} {A : Around} {E : Value -> Shared -> Prop} {s : Shared} {env : Env} {value slice : Expr} {pos : Pos} {T id : String} {Q : Value -> Shared -> Prop}
 (hl : typeLookup (.type T) "__getitem__" = pure (some (.builtin id))) (hs : NoSl slice)
 (h : wpAny (model prog w) A (eval value env) (fun o s₁=>wpAny (model prog w) A (eval slice env) (fun i s₂=>s₂.TypeIs o T /\ wpAny (model prog w) A (getItem o i) Q E s₂) E s₁) E s) :
 wpAny (model prog w) A (eval (.Subscript value slice pos) env) Q E s:=by
 refine Subscript_ (wpAny_mono h (fun o s₁ h₁=>wpAny_mono h₁ (fun i s₂ h₂=>?_) fun _ _ x=>x) fun _ _ x=>x)
 obtain ⟨hT,h₂⟩:=h₂
 unfold subscriptTail
 refine wpAny_bind ?_
 rw [getitemInPython_of_ne hT.not_modules]
 refine wpAny_bind (wpAny_specialOf hT hl ?_)
 have fin : wpAny (model prog w) A (subscripted slice false o i) (fun r s₃=>wpAny (model prog w) A (letTemporaryGo value o r >>= fun _=>pure r) Q E s₃) E s₂:=by
  rw [hs o i]
  exact wpAny_operating (wpAny_mono h₂ (fun r s₃ h₃=>wpAny_bind (wpAny_letTemporaryGo (wpAny_pure h₃))) fun _ _ x=>x)
 first
  | exact wpAny_pure (wpAny_bind fin)
  | exact wpAny_bind (wpAny_pure (wpAny_bind fin))
  | exact wpAny_bind fin
theorem zil {X : Cx} {pins : List (Addr × Obj)} {σ : St} {H : Hp} {s : Shared} {a : Addr} {y : V} {o : Option V} (I : Inv X pins σ H s) (g : DGet H a y o) : s.TypeIs (.ref a) "dict":=by
 rcases g with ⟨kvs,k,e,_,_⟩ | ⟨kvs,k,b,e,_,_,_⟩
 ·obtain ⟨_,_,vs,_,dd⟩:=znl I.hok e
  exact dd.typeIs
 ·obtain ⟨_,_,xs,_,dd⟩:=znV I.hok e
  exact dd.typeIs
def ztB (td ty : TE) : TE:=fun σ H Q=>td σ H fun x H1=>ty σ H1 fun y H2=>∃ a v,x = .ref a /\ DGet H2 a y (some v) /\ Q v H2
def zuv (td ty tv : TE) : TS:=fun D σ H=>tv σ H fun v H1=>td σ H1 fun x H2=>ty σ H2 fun y H3=>∃ a H4,x = .ref a /\ DPut H3 a y v H4 /\ D.nx σ H4
section
variable {X : Cx} {o i e value : Expr} {pos pos' tpos : Pos} {td ty tv : TE}
theorem zas (hu : X.A.units + 1 < cLine) (ho : PE X o td) (hi : PE X i ty) (hs : NoSl i) : PE X (.Subscript o i pos) (ztB td ty):=by
 intro pins s σ H Q I h
 refine znI PySem.F.slot_dict_getitem.lookup hs (thn (ho pins s σ H _ I h) fun u s1 ⟨x,H1,I1,rx,q1⟩=>thn (hi pins s1 σ H1 _ I1 q1) fun iv s2 ⟨y,H2,I2,ry,a,v,ex,g,q2⟩=>?_)
 subst ex
 obtain rfl : u = Value.ref a:=rx
 exact ⟨zil I2 g,zlF hu I2 g ry fun w' s3 I3 rw'=>⟨v,H2,I3,rw',q2⟩⟩
theorem zbM (hu : X.A.units + 1 < cLine) (ho : PE X o td) (hi : PE X i ty) (hv : PE X value tv) (hs : swapsWith value (some (.Subscript o i pos')) pos.line X.env = pure false) :
 PS X (.Assign [.Subscript o i pos'] value pos) (zuv td ty tv):=by
 intro pins s σ H D I h
 refine wpAny_Assign_Subscript (thn (hv pins s σ H _ I h) fun r s1 ⟨v,H1,I1,rv,q1⟩=>thn (ho pins s1 σ H1 _ I1 q1) fun u s2 ⟨x,H2,I2,rx,q2⟩=>thn (hi pins s2 σ H2 _ I2 q2) fun iv s3 ⟨y,H3,I3,ry,a,H4,ex,g,q3⟩=>?_) hs
 subst ex
 obtain rfl : u = Value.ref a:=rx
 exact zkT hu I3 g ry rv fun s4 I4=>⟨σ,H4,I4,q3⟩
end
theorem zlN {P : Program} {w : World} {H : Hp} (h : Heap) (hb : sysModules < h.objs.size) : zbV P w H (h.push { cls:=.type "dict",data:=.dict #[] }) h.objs.size (.dK []) :=
 ⟨Nat.zero_le _,beq_eq_false_iff_ne.mpr (Ne.symm (Nat.ne_of_lt hb)),[],.nil,Heap.DictOf.new h⟩
section
variable {X : Cx} {pos : Pos}
end
def zjy : List (TE × TE) -> St -> Hp -> (List (V × V) -> Hp -> Prop) -> Prop
 | [],_,H,Q=>Q [] H
 | (tk,tv) :: r,σ,H,Q=>tk σ H fun x H1=>tv σ H1 fun y H2=>zjy r σ H2 fun ps H3=>Q ((x,y) :: ps) H3
abbrev VV : List (V × V) -> List (Value × Value) -> Prop:=Paired fun p q=>RelV p.1 q.1 /\ RelV p.2 q.2
def PPs (X : Cx) (pos : Pos) (keys : List (Option Expr)) (values : List Expr) (trs : List (TE × TE)) : Prop :=
 ∀ (pins : List (Addr × Obj)) (s : Shared) (σ : St) (H : Hp) (Q : List (V × V) -> Hp -> Prop),Inv X pins σ H s -> zjy trs σ H Q ->
  wpAny (model X.prog X.w) X.A (evalPairs (pairTrees keys values X.env pos)) (fun vs s'=>∃ ps H',Inv X pins σ H' s' /\ VV ps vs /\ Q ps H') X.xe s
theorem znt {X : Cx} {pos : Pos} : PPs X pos [] [] []:=fun pins s σ H Q I h=>pairTrees_nil_walk ⟨[],H,I,.nil,h⟩
theorem zcz {X : Cx} {pos : Pos} {k v : Expr} {ks : List (Option Expr)} {vs : List Expr} {tk tv : TE} {trs : List (TE × TE)} (hk : PE X k tk) (hv : PE X v tv) (hr : PPs X pos ks vs trs) :
 PPs X pos (some k :: ks) (v :: vs) ((tk,tv) :: trs):=fun pins s σ H Q I h =>
 pairTrees_cons_walk (thn (hk pins s σ H _ I h) fun u s1 ⟨x,H1,I1,rx,q1⟩=>thn (hv pins s1 σ H1 _ I1 q1) fun w2 s2 ⟨y,H2,I2,ry,q2⟩ =>
  thn (hr pins s2 σ H2 _ I2 q2) fun ws s3 ⟨ps,H3,I3,rel,q3⟩=>⟨(x,y) :: ps,H3,I3,.cons ⟨rx,ry⟩ rel,q3⟩)
def zfO (kvs more : List (Key × V)) : List (Key × V):=more.foldl (fun acc kv=>putK acc kv.1 kv.2) kvs
theorem KV.merge : ∀ {more : List (Key × V)} {rs : List (Key × Value)} {kvs : List (Key × V)} {vs : List (Key × Value)},KV more rs -> KV kvs vs -> KV (zfO kvs more) (merged vs rs):=by
 intro more rs kvs vs r
 unfold KV at r
 induction r generalizing kvs vs with
 | nil=>intro q; exact q
 | @cons p q ps qs h t ih =>
   intro r0
   have e : KV (putK kvs p.1 p.2) (stored vs q.1 q.2):=by
    have:=r0.put p.1 h.2
    rw [<- h.1]; exact this
   exact ih e
theorem zdM : ∀ (more kvs : List (Key × V)),(zfO kvs more).length <= kvs.length + more.length
 | [],kvs=>by show kvs.length <= kvs.length + 0; omega
 | p :: r,kvs=>by
   have h1:=zdM r (putK kvs p.1 p.2)
   have h2:=zdu kvs p.1 p.2
   show (zfO (putK kvs p.1 p.2) r).length <= _
   rw [List.length_cons]; omega
theorem zfz {P : Program} {w : World} : ∀ {kvs : List (Key × V)} {ws : List (Value × Value)},VV (kvs.map fun kv=>(kV kv.1,kv.2)) ws -> ∃ rs,Carries (zbu P w) ws rs /\ KV kvs rs
 | [],_,r=>by rw [List.map_nil] at r; cases r; exact ⟨[],True.intro,.nil⟩
 | p :: kvs,_,r=>by
   rw [List.map_cons] at r
   cases r with
   | @cons a b as bs h t =>
     obtain ⟨rs,c,q⟩:=zfz (P:=P) (w:=w) t
     obtain ⟨b1,b2⟩:=b
     exact ⟨(p.1,b2) :: rs,⟨zmn h.1,rfl,c⟩,.cons ⟨rfl,h.2⟩ q⟩
def zuN (trs : List (TE × TE)) : TE:=fun σ H Q=>∀ p,H p = none -> zjy trs σ (upd H p (.dK [])) fun ps H2=>H2 p = some (.dK []) /\ ∃ kvs : List (Key × V),ps = kvs.map (fun kv=>(kV kv.1,kv.2)) /\ kvs.length <= 15 /\ Q (.ref p) (upd H2 p (.dK (zfO [] kvs)))
theorem zns {X : Cx} {pos : Pos} {keys : List (Option Expr)} {values : List Expr} {trs : List (TE × TE)} (h : PPs X pos keys values trs) (hall : keys.all (·.isSome) = true) (hl : keys.length = values.length) (h0 : keys ≠ [])
 (h15 : keys.length <= 15) : PE X (.Dict keys values pos) (zuN trs):=by
 intro pins s σ H Q I q
 have hn:=I.hok.fresh (Nat.le_refl s.heap.objs.size)
 have I1:=I.laid (a:=s.heap.objs.size) (o:=.dK []) (h':=s.heap.push { cls:=.type "dict",data:=.dict #[] }) (t':=s.toks) (fun _ _ q=>Heap.get?_push_of_some _ q) (Nat.le_refl _) (zlN s.heap I.big)
 refine wpAny_Dict_walk (knd:=zbu X.prog X.w) hall hl h0 h15 (thn (h pins _ σ _ _ I1 (q _ hn)) fun ws s2 ⟨ps,H2,I2,rel,e,kvs,ep,lk,q2⟩=>?_)
 subst ep
 obtain ⟨rs,c,rk⟩:=zfz (P:=X.prog) (w:=X.w) rel
 obtain ⟨z,hd,vs0,r0,dd⟩:=zoZ I2.hok e
 cases r0
 refine ⟨rs,c,dd,fun h' dd' hs=>⟨.ref s.heap.objs.size,_,?_,rfl,q2⟩⟩
 have hz : (zfO [] kvs).length <= sizeLine:=by
  have h1:=zdM kvs []
  rw [List.length_nil] at h1
  rw [sizeLine_eq]; omega
 have he : ∃ q,h'.get? s.heap.objs.size = some q:=let ⟨q,_,_,hq,_⟩:=dd'; ⟨q,hq⟩
 exact ziz I2 (by rw [e]; exact True.intro) hs he (zmy hz hd (rk.merge .nil) dd')
structure M1 (X : Cx) (o : Expr) (m : Str) (apos : Pos) (e : Expr) (cpos : Pos) : Prop where
 base : attributeBase o m X.env (eval o X.env) = eval o X.env
 few : ((backTo cpos (starEach [e] X.env)).all (fun x=>!x.1) && (backToKw cpos (keywordEach [] X.env)).all (fun x=>x.1.isSome)
  && decide (([e] : List Expr).length + ([] : List Keyword).length + (if ([] : List Keyword).isEmpty then 0 else 1) < 30)) = true
 line : (apos.endLine == cpos.line) = true
 trees : backTo cpos (starEach [e] X.env) = [(false,eval e X.env)]
structure M2 (X : Cx) (o : Expr) (m : Str) (apos : Pos) (e f : Expr) (cpos : Pos) : Prop where
 base : attributeBase o m X.env (eval o X.env) = eval o X.env
 few : ((backTo cpos (starEach [e,f] X.env)).all (fun x=>!x.1) && (backToKw cpos (keywordEach [] X.env)).all (fun x=>x.1.isSome)
  && decide (([e,f] : List Expr).length + ([] : List Keyword).length + (if ([] : List Keyword).isEmpty then 0 else 1) < 30)) = true
 line : (apos.endLine == cpos.line) = true
 trees : backTo cpos (starEach [e,f] X.env) = [(false,eval e X.env),(false,eval f X.env)]
section
variable {X : Cx} {pins : List (Addr × Obj)} {σ : St} {H : Hp} {s : Shared} {a : Addr} {y d : V} {u r : Value} {o : Option V} {A : Around} {E : Value -> Shared -> Prop}
end
section
variable {X : Cx} {o e f : Expr} {apos cpos : Pos} {td ty tx : TE}
end
section
variable {X : Cx} {pins : List (Addr × Obj)} {σ : St} {H : Hp} {s : Shared} {a : Addr} {kvs : List (Key × V)} {A : Around} {E : Value -> Shared -> Prop}
end
section
variable {X : Cx} {pins : List (Addr × Obj)} {σ : St} {H : Hp} {s : Shared} {a : Addr} {y : V} {u : Value} {A : Around} {E : Value -> Shared -> Prop}
end
end L2
namespace L2
open PySem PySem.Spec PyProof.Rows
section
variable {X : Cx}
end
section
variable {κ : Type} [DecidableEq κ]
end
end L2
namespace Cs
open PySem L2
theorem zhN {rs : List Row} {x : Str} {k : Nat} (h : place rs x = some k) : ∃ r,rs[k]? = some r /\ r.s = x:=by
 unfold place at h
 obtain ⟨hi,h1,_⟩:=List.findIdx?_eq_some_iff_getElem.mp h
 exact ⟨rs[k],List.getElem?_eq_getElem hi,of_decide_eq_true h1⟩
end Cs
namespace L2
open PySem
end L2
namespace L2
open PySem PySem.Spec PyProof.Rows
def zno (g : Nat -> Int) (n : Nat) (m : Int) : Prop:=(∃ i,i < n /\ g i = m) /\ ∀ i,i < n -> m <= g i
theorem zno.one {g : Nat -> Int} : zno g 1 (g 0):=⟨⟨0,by omega,rfl⟩,fun i hi=>by
 have e : i = 0:=by omega
 subst e
 exact Int.le_refl _⟩
theorem zno.no {g : Nat -> Int} {n : Nat} {m : Int} (h : zno g n m) (hl : ¬ g n < m) : zno g (n + 1) m:=⟨by obtain ⟨i,hi,e⟩:=h.1; exact ⟨i,by omega,e⟩,fun i hi=>by
 by_cases e : i = n
 ·subst e; omega
 ·exact h.2 i (by omega)⟩
section
variable {P : Program} {w : World} {A : Around} {R : Result -> Shared -> Prop} {it : Addr} {fp wr : List Addr} {n : Nat} {Pr : Nat -> Value -> Prop} {St : Nat -> Heap -> Prop}
end
section
variable {P : Program} {w : World} {A : Around} {E : Value -> Shared -> Prop} {s : Shared}
end
section
variable {X : Cx}
end
section
variable {X : Cx} (K : PySem.W.Frag) (hK : X.K = K)
include hK
end
end L2
namespace L2
open PySem PySem.Spec PyProof.Rows
section
variable {X : Cx} {a b : Expr} {rest : List Expr} {pos : Pos} {ta tb : TE}
end
section
variable {X : Cx} {a b : Expr} {rest : List Expr} {pos : Pos} {ta tb : TE} (K : PySem.W.Frag) (hK : X.K = K)
include hK
end
end L2
namespace Ln
open PySem L2
def abc : List Nat:=[97,98,99,100,101,102]
theorem znY : ∀ c ∈ abc,PyData.canLay0 (.str (sg c)) = true:=by decide +kernel
theorem zsA : (abc.map sg).Nodup:=by decide +kernel
structure AbcCase (rs : List Cs.Row) : Prop where
 sg : (rs.map fun r=>r.s) = abc.map sg
 wd : ∀ r ∈ rs,1 <= r.w /\ r.w <= 100
theorem AbcCase.len {rs : List Cs.Row} (h : AbcCase rs) : rs.length = 6:=by
 have:=congrArg List.length h.sg
 rwa [List.length_map,List.length_map] at this
theorem AbcCase.nd {rs : List Cs.Row} (h : AbcCase rs) : (rs.map fun r=>r.s).Nodup:=by rw [h.sg]; exact zsA
theorem AbcCase.place {rs : List Cs.Row} (h : AbcCase rs) {c : Nat} (hc : c ∈ abc) : (Cs.place rs (L2.sg c)).isSome = true:=by
 have h1 : L2.sg c ∈ rs.map fun r=>r.s:=by rw [h.sg]; exact List.mem_map_of_mem hc
 obtain ⟨r,hr,e⟩:=List.mem_map.mp h1
 unfold Cs.place
 rw [List.findIdx?_isSome,List.any_eq_true]
 exact ⟨r,hr,decide_eq_true e⟩
theorem AbcCase.lay {rs : List Cs.Row} (h : AbcCase rs) : ∀ r ∈ rs,PyData.canLay0 (.str r.s) = true:=fun r hr=>by
 have h1 : r.s ∈ rs.map fun r=>r.s:=List.mem_map_of_mem (f:=fun r=>r.s) hr
 rw [h.sg] at h1
 obtain ⟨c,hc,e⟩:=List.mem_map.mp h1
 rw [<- e]
 exact znY c hc
theorem zdg {K : PySem.W.Frag} {H : Hp} : ∀ {ws : List Str},(∀ x ∈ ws,PyData.canLay0 (.str x) = true) -> DenL K H (ws.map V.str) (ws.map PyData.str)
 | [],_=>.nil
 | x :: ws,h=>.cons (.str _ (h x List.mem_cons_self)) (zdg fun y hy=>h y (List.mem_cons_of_mem _ hy))
end Ln
namespace L2
open PySem PySem.Spec PyProof.Rows
section
variable {X : Cx} {tg : Expr}
end
end L2
namespace L2
open PySem PySem.Spec PyProof.Rows
section
variable {X : Cx} {pins : List (Addr × Obj)} {σ : St} {H : Hp} {s : Shared} {h' : Heap}
end
section
variable {X : Cx} {es : List Expr} {k1 : Nat} {tp : Pos}
end
end L2
namespace L2
open PySem PySem.Spec PyProof.Rows
section
variable {X : Cx} (K : PySem.W.Frag) (hK : X.K = K)
include hK
end
end L2
namespace Lns
open PySem L2
def zdJ (no : Addr) (H : Hp) (v : V) (ws : List Str) : Prop:=∃ p,v = .ref p /\ p ≠ no /\ H p = some (.lst (ws.map V.str))
theorem zdJ.same {no : Addr} {H H' : Hp} {v : V} {ws : List Str} (h : zdJ no H v ws) (s : Same H H') : zdJ no H' v ws:=let ⟨p,e,n,h⟩:=h; ⟨p,e,n,s _ _ h⟩
theorem zeh {no : Addr} {H H' : Hp} {xs : List V} {ls : List (List Str)} (h : Paired (zdJ no H) xs ls) (s : Same H H') : Paired (zdJ no H') xs ls:=Paired.mapP h fun _ _ z=>z.same s
theorem zgQ {no : Addr} {H : Hp} {o : HO} {xs : List V} {ls : List (List Str)} (h : Paired (zdJ no H) xs ls) : Paired (zdJ no (upd H no o)) xs ls :=
 Paired.mapP h fun _ _ ⟨p,e,n,z⟩=>⟨p,e,n,by rw [zai n]; exact z⟩
theorem zdT {no : Addr} {H : Hp} {xs : List V} {ls : List (List Str)} (h : Paired (zdJ no H) xs ls) : xs.length = ls.length:=Paired.length h
theorem zgk (x : Str) : x ++ ("" : Str) = x:=by
 show (⟨x.cps ++ (#[] : Array Nat)⟩ : Str) = x
 rw [Array.append_empty]
def zbz (ws : List Str) : Str:=Txt.join " " ws
def keyT : List (List Str) -> Str
 | []=>""
 | l :: r=>zbz l ++ "/" ++ keyT r
theorem zkJ (l : List Str) : keyT [l] = zbz l ++ "/":=zgk _
theorem zlK : ∀ ls : List (List Str),Txt.join "" (ls.map fun l=>zbz l ++ "/") = keyT ls:=by
 intro ls
 unfold Txt.join
 rw [StrLaws.glued_eq_join]
 induction ls with
 | nil=>rfl
 | cons l r ih =>
   cases r with
   | nil=>exact (zkJ l).symm
   | cons l2 r =>
     show (zbz l ++ "/") ++ "" ++ Str.join "" ((l2 :: r).map fun l=>zbz l ++ "/") = zbz l ++ "/" ++ keyT (l2 :: r)
     rw [ih,zgk]
def Fit (ls : List (List Str)) : Prop:=ls.length <= 100 /\ ∀ l ∈ ls,l.length <= 100 /\ ∀ x ∈ l,x.length <= 100
theorem zjs {α : Type} (f : α -> Nat) (B : Nat) : ∀ l : List α,(∀ x ∈ l,f x <= B) -> (l.map f).sum <= l.length * B
 | [],_=>by simp
 | x :: l,h=>by
   have h1:=h x List.mem_cons_self
   have h2:=zjs f B l fun y hy=>h y (List.mem_cons_of_mem _ hy)
   rw [List.map_cons,List.sum_cons,List.length_cons,Nat.succ_mul]
   omega
theorem zeM {α : Type} (f : α -> Nat) (B N : Nat) (l : List α) (h : ∀ x ∈ l,f x <= B) (hn : l.length <= N) : (l.map f).sum <= N * B :=
 Nat.le_trans (zjs f B l h) (Nat.mul_le_mul_right _ hn)
theorem zke {l : List Str} (h1 : l.length <= 100) (h2 : ∀ x ∈ l,x.length <= 100) : (l.map (·.length)).sum + l.length * (Str.ofString " ").length <= 16777216:=by
 have a:=zeM (fun x : Str=>x.length) 100 100 l h2 h1
 have e : (Str.ofString " ").length = 1:=by decide
 rw [e]
 have a : (l.map (·.length)).sum <= 100 * 100:=a
 omega
theorem zgV {l : List Str} (h1 : l.length <= 100) (h2 : ∀ x ∈ l,x.length <= 100) : (zbz l).length <= 10100:=by
 have a:=zeM (fun x : Str=>x.length) 100 100 l h2 h1
 have a : (l.map (·.length)).sum <= 100 * 100:=a
 have b:=StrLaws.join_length_le " " l
 have e : (Str.ofString " ").length = 1:=by decide
 unfold zbz Txt.join
 rw [StrLaws.glued_eq_join]
 have b : (Str.join " " l).length <= (l.map (·.length)).sum + l.length * (Str.ofString " ").length:=b
 rw [e] at b
 omega
theorem zjF {ls : List (List Str)} (h : Fit ls) : ((ls.map fun l=>zbz l ++ "/").map (·.length)).sum + (ls.map fun l=>zbz l ++ "/").length * (Str.ofString "").length <= 16777216:=by
 rw [List.map_map,List.length_map]
 have a:=zeM ((fun x : Str=>x.length) ∘ fun l=>zbz l ++ "/") 10101 100 ls (fun l hl=>by
  obtain ⟨h1,h2⟩:=h.2 l hl
  have:=zgV h1 h2
  show (zbz l ++ "/").length <= 10101
  rw [Str.length_append]
  have e : (Str.ofString "/").length = 1:=by decide
  have e : ("/" : Str).length = 1:=e
  omega) h.1
 have e : (Str.ofString "").length = 0:=by decide
 rw [e]
 have a : (ls.map ((fun x : Str=>x.length) ∘ fun l=>zbz l ++ "/")).sum <= 100 * 10101:=a
 have a : (ls.map ((·.length) ∘ fun l=>zbz l ++ "/")).sum <= 100 * 10101:=a
 omega
end Lns
namespace L2
open PySem PySem.Spec PyProof.Rows PySem.Builtin PySem.Builtin.Str
section
variable {X : Cx}
end
end L2
namespace Lns
open PySem L2
theorem ziA {x y : Str} (h : x.cps.toList = y.cps.toList) : x = y:=Str.ext' (Array.toList_inj.mp h)
theorem zdc (x y : Str) : (x ++ y).cps.toList = x.cps.toList ++ y.cps.toList:=by rw [Str.cps_append,Array.toList_append]
theorem zfR (ws : List Str) : zbz ws = Str.join ⟨#[32]⟩ ws:=by
 unfold zbz Txt.join
 rw [StrLaws.glued_eq_join]
 rfl
theorem zmw {α : Type} (ini : List α) (last : α) : atI (ini ++ [last]) (-1) = some last:=by
 have h : ixN (ini.length + 1) (-1) = some ini.length:=by
  unfold ixN
  rw [if_neg (by omega),if_pos (by omega)]
  congr 1
  omega
 unfold atI
 rw [List.length_append]
 show ((ixN (ini.length + 1) (-1)).bind _) = _
 rw [h]
 show (ini ++ [last])[ini.length]? = _
 rw [List.getElem?_append_right (Nat.le_refl _),Nat.sub_self]
 rfl
def ztu (H0 : Hp) (no : Addr) (H : Hp) (v : V) (ws : List Str) : Prop:=∃ p,v = .ref p /\ p ≠ no /\ H0 p = none /\ H p = some (.lst (ws.map V.str))
theorem ztu.n {H0 : Hp} {no : Addr} {H : Hp} {xs : List V} {ls : List (List Str)} (h : Paired (ztu H0 no H) xs ls) : Paired (zdJ no H) xs ls:=Paired.mapP h fun _ _ ⟨p,e,n,_,z⟩=>⟨p,e,n,z⟩
theorem zhf {α β : Type} {F : α -> β -> Prop} : ∀ {a c : List α} {b d : List β},Paired F a b -> Paired F c d -> Paired F (a ++ c) (b ++ d)
 | _,_,_,_,.nil,h=>h
 | _,_,_,_,.cons r t,h=>.cons r (zhf t h)
def zpZ (H0 : Hp) (no : Addr) (B : Nat) (H : Hp) (v : V) : Prop:=∃ p ws,v = .ref p /\ p ≠ no /\ H0 p = none /\ H p = some (.lst ws) /\ ws.length <= B
theorem zpZ.same {H0 : Hp} {no : Addr} {B : Nat} {H H' : Hp} {v : V} (h : zpZ H0 no B H v) (s : Same H H') : zpZ H0 no B H' v:=let ⟨p,ws,e,n,f,z,b⟩:=h; ⟨p,ws,e,n,f,s _ _ z,b⟩
def isS (c : Nat) : Bool:=!decide (c = 32) && !decide (c = 47)
def zbp (rs : List Cs.Row) : Bool -> List Nat -> Bool
 | _,[]=>true
 | p,c :: r=>if isS c = true then (Cs.place rs (sg c)).isSome && zbp rs true r else p && zbp rs false r
def zjc (rs : List Cs.Row) (ks : List Nat) (i : Nat) : Bool :=
 match ks[i]? with
 | none=>false
 | some c=>if isS c = true then (Cs.place rs (sg c)).isSome else decide (0 < i) && (match ks[i - 1]? with | none=>false | some d=>isS d)
theorem zkY {rs : List Cs.Row} : ∀ {ks : List Nat} {p : Bool},zbp rs p ks = true -> ∀ (i : Nat) c,ks[i]? = some c ->
 if isS c = true then (Cs.place rs (sg c)).isSome = true else (i = 0 /\ p = true) \/ ∃ j d,i = j + 1 /\ ks[j]? = some d /\ isS d = true
 | [],_,_,i,c,h=>by simp at h
 | k :: r,p,ok,0,c,h=>by
   have h : k = c:=by simpa using h
   subst h
   unfold zbp at ok
   by_cases hs : isS k = true
   ·rw [if_pos hs] at ok ⊢
    exact (Bool.and_eq_true_iff.mp ok).1
   ·rw [if_neg hs] at ok ⊢
    exact .inl ⟨rfl,(Bool.and_eq_true_iff.mp ok).1⟩
 | k :: r,p,ok,i + 1,c,h=>by
   have h : r[i]? = some c:=by simpa using h
   unfold zbp at ok
   by_cases hs : isS k = true
   ·rw [if_pos hs] at ok
    have ih:=zkY (Bool.and_eq_true_iff.mp ok).2 i c h
    by_cases hc : isS c = true
    ·rw [if_pos hc] at ih ⊢
     exact ih
    ·rw [if_neg hc] at ih ⊢
     rcases ih with ⟨rfl,_⟩ | ⟨j,d,rfl,hj,hd⟩
     ·exact .inr ⟨0,k,rfl,rfl,hs⟩
     ·exact .inr ⟨j + 1,d,rfl,by simpa using hj,hd⟩
   ·rw [if_neg hs] at ok
    have ih:=zkY (Bool.and_eq_true_iff.mp ok).2 i c h
    by_cases hc : isS c = true
    ·rw [if_pos hc] at ih ⊢
     exact ih
    ·rw [if_neg hc] at ih ⊢
     rcases ih with ⟨_,e⟩ | ⟨j,d,rfl,hj,hd⟩
     ·cases e
     ·exact .inr ⟨j + 1,d,rfl,by simpa using hj,hd⟩
theorem zmV {rs : List Cs.Row} {ks : List Nat} (ok : zbp rs false ks = true) {i : Nat} (hi : i < ks.length) : zjc rs ks i = true:=by
 have h:=zkY ok i ks[i] (List.getElem?_eq_getElem hi)
 unfold zjc
 rw [List.getElem?_eq_getElem hi]
 show (if isS ks[i] = true then _ else _) = true
 by_cases hs : isS ks[i] = true
 ·rw [if_pos hs] at h ⊢
  exact h
 ·rw [if_neg hs] at h ⊢
  rcases h with ⟨_,e⟩ | ⟨j,d,rfl,hj,hd⟩
  ·cases e
  ·rw [show j + 1 - 1 = j from rfl,hj]
   show (decide (0 < j + 1) && isS d) = true
   rw [hd]
   simp
theorem ziT {rs : List Cs.Row} : ∀ {w : List Nat} {p : Bool} (r : List Nat),(∀ c ∈ w,isS c = true /\ (Cs.place rs (sg c)).isSome = true) -> zbp rs p (w ++ r) = zbp rs (p || !w.isEmpty) r
 | [],p,r,_=>by simp
 | c :: w,p,r,h=>by
   obtain ⟨h1,h2⟩:=h c List.mem_cons_self
   have ih:=ziT (w:=w) (p:=true) r fun d hd=>h d (List.mem_cons_of_mem _ hd)
   show zbp rs p (c :: (w ++ r)) = _
   conv=>lhs; unfold zbp
   rw [if_pos h1,h2,ih]
   simp
def zcW (rs : List Cs.Row) (x : Str) : Prop:=1 <= x.length /\ ∀ c ∈ x.cps.toList,isS c = true /\ (Cs.place rs (sg c)).isSome = true
theorem zcW.ne {rs : List Cs.Row} {x : Str} (h : zcW rs x) : (!x.cps.toList.isEmpty) = true:=by
 have h1:=h.1
 unfold Str.length at h1
 cases e : x.cps.toList with
 | nil =>
   have : x.cps.toList.length = 0:=by rw [e]; rfl
   rw [Array.length_toList] at this
   omega
 | cons a b=>rfl
theorem zlb {rs : List Cs.Row} (r : List Nat) : ∀ {l : List Str} {p : Bool},l ≠ [] -> (∀ x ∈ l,zcW rs x) -> zbp rs p ((zbz l).cps.toList ++ r) = zbp rs true r
 | [],_,h,_=>absurd rfl h
 | [x],p,_,h=>by
   have hx:=h x List.mem_cons_self
   rw [zfR]
   show zbp rs p (x.cps.toList ++ r) = _
   rw [ziT r hx.2,hx.ne]
   simp
 | x :: y :: l,p,_,h=>by
   have hx:=h x List.mem_cons_self
   have ih:=zlb r (l:=y :: l) (p:=false) (by simp) fun z hz=>h z (List.mem_cons_of_mem _ hz)
   rw [zfR] at ih ⊢
   have e : (Str.join ⟨#[32]⟩ (x :: y :: l)).cps.toList ++ r = x.cps.toList ++ (32 :: ((Str.join ⟨#[32]⟩ (y :: l)).cps.toList ++ r)):=by
    show (x ++ ⟨#[32]⟩ ++ Str.join ⟨#[32]⟩ (y :: l)).cps.toList ++ r = _
    rw [zdc,zdc,List.append_assoc,List.append_assoc]
    rfl
   rw [e,ziT _ hx.2,hx.ne]
   conv=>lhs; unfold zbp
   rw [if_neg (by decide),ih]
   simp
theorem ziS {rs : List Cs.Row} : ∀ {ls : List (List Str)} {p : Bool},(∀ l ∈ ls,l ≠ [] /\ ∀ x ∈ l,zcW rs x) -> zbp rs p (keyT ls).cps.toList = true
 | [],_,_=>rfl
 | l :: r,p,h=>by
   obtain ⟨h1,h2⟩:=h l List.mem_cons_self
   have ih:=ziS (ls:=r) (p:=false) fun z hz=>h z (List.mem_cons_of_mem _ hz)
   have e : (keyT (l :: r)).cps.toList = (zbz l).cps.toList ++ (47 :: (keyT r).cps.toList):=by
    show (zbz l ++ "/" ++ keyT r).cps.toList = _
    rw [zdc,zdc,List.append_assoc]
    rfl
   rw [e,zlb _ h1 h2]
   unfold zbp
   rw [if_neg (by decide),ih]
   rfl
theorem zjo : ∀ (ls : List (List Str)),ls ≠ [] -> ∃ a,(keyT ls).cps.toList = a ++ [47]
 | [],h=>absurd rfl h
 | [l],_=>⟨(zbz l).cps.toList,by
    rw [zkJ,zdc]
    rfl⟩
 | l :: l2 :: r,_=>by
   obtain ⟨a,e⟩:=zjo (l2 :: r) (by simp)
   refine ⟨(zbz l ++ "/").cps.toList ++ a,?_⟩
   show (zbz l ++ "/" ++ keyT (l2 :: r)).cps.toList = _
   rw [zdc,e,List.append_assoc]
end Lns
namespace L2
open PySem PySem.Spec PyProof.Rows
section
variable {M : Model} {A : Around} {E : Value -> Shared -> Prop} {s : Shared}
def zbP (S : List Addr) (ch : List Addr) (h h' : Heap) : Prop:=∀ b o,h.get? b = some o -> b ∉ ch -> (b ∉ S -> h'.get? b = some o) /\ ∃ sl,h'.get? b = some { o with slots:=sl }
theorem zbP.trans {S ch : List Addr} {h h1 h2 : Heap} (x : zbP S ch h h1) (y : zbP S ch h1 h2) : zbP S ch h h2:=fun b o e n=>by
 obtain ⟨x1,sl,x2⟩:=x b o e n
 refine ⟨fun hb=>?_,?_⟩
 ·exact (y b o (x1 hb) n).1 hb
 ·obtain ⟨_,sl2,y2⟩:=y b _ x2 n
  exact ⟨sl2,y2⟩
end
def Fr0 (X : Cx) (H : Hp) (b : Addr) : Prop:=X.s₀.heap.objs.size <= b /\ H b = none /\ ∀ p ∈ X.pn,p.1 ≠ b
section
variable {X : Cx} {pins : List (Addr × Obj)} {σ : St} {H : Hp} {s : Shared}
end
section
variable {X : Cx} {pins : List (Addr × Obj)} {σ : St} {H : Hp} {s : Shared}
theorem Inv.pnlt (I : Inv X pins σ H s) {b : Addr} (h : s.heap.objs.size <= b) : ∀ p ∈ X.pn,p.1 ≠ b:=fun p hp q=>by
 have:=Heap.lt_size (I.pin p (List.mem_append_left _ hp)).1
 exact absurd (Nat.lt_of_lt_of_le this h) (by rw [q]; exact Nat.lt_irrefl _)
theorem Inv.fr0 (I : Inv X pins σ H s) {b : Addr} (h : s.heap.objs.size <= b) : Fr0 X H b:=⟨Nat.le_trans I.sz h,I.hok.fresh h,I.pnlt h⟩
end
section
variable {X : Cx} {k : Nat} {f L : Addr} {fd : FuncData} {ps : List Str} {sp : Sp} {E : St -> XK} {x : Str} {p pos : Pos} {e : Expr} {es : List Expr} {t : TA}
end
section
variable {P : Program} {w : World} {K : PySem.W.Frag} {mg : Str -> Option Value} {base : Heap}
end
end L2
namespace L2
open PySem PySem.Spec PyProof.Rows PySem.W PySem.Calls
section
variable {prog : Program} {w : World} {A : Around} {R : Result -> Shared -> Prop} {h : Heap} {g : Array GenState} {d : Drawn} {t : Nat} {os : OsState}
variable {nm q : Str} {C N : Addr} {bs bm : List Value} {hdct : Bool} {sn : List Str} {sub : List Value} {ab : Bool} {col : Option Bool} {dd : Option Addr} {k0 k1 k2 k3 k5 : Option Value}
abbrev zpI (C : Addr) (t : Addr) (dx : Option Addr) : Obj:={ cls:=.ref C,dict:=dx,data:=.fields #[.ref t,.none,.none,.none,.bool false,.none] }
end
abbrev XO (e C : Addr) (dx : Option Addr) : HO:=.ext fun h=>∃ t,h.get? e = some (zpI C t dx)
section
variable {X : Cx} {CX : CXT} {k : Nat} {f C : Addr} {fd : FuncData} {ps : List Str} {sp : Sp} {x m : Str} {p pos apos : Pos} {e o : Expr} {es : List Expr} {ta : TE} {t : TA} {pins : List (Addr × Obj)} {σ : St} {H : Hp} {s : Shared}
end
end L2
namespace L2
open PySem PySem.Spec PyProof.Rows PySem.W PySem.Calls Builtin Builtin.ObjectAttr
section
variable {prog : Program} {w : World} {A : Around} {K : PySem.W.Frag} {C x : Addr} {s : Shared} {R : Result -> Shared -> Prop}
end
section
variable {X : Cx} {pins : List (Addr × Obj)} {σ : St} {H : Hp} {s : Shared}
end
end L2
namespace L2
open PySem PySem.Spec PyProof.Rows PySem.W PySem.Calls
section
variable {X : Cx} {pins : List (Addr × Obj)} {σ : St} {H : Hp} {s : Shared}
end
end L2
namespace L2
open PySem PySem.Spec PyProof.Rows PySem.W PySem.Calls
section
variable {M : Model} {A : Around} {E : Value -> Shared -> Prop} {env : Env}
variable {nm q : Str} {C N : Addr} {bs bm : List Value} {hdct : Bool} {sn : List Str} {sub : List Value} {ab : Bool} {col : Option Bool} {dd : Option Addr} {k0 k1 k2 k3 k5 : Option Value} {newId : String}
end
section
variable {prog : Program} {w : World} {A : Around} {E : Value -> Shared -> Prop} {h : Heap} {g : Array GenState} {d : Drawn} {t : Nat} {os : OsState}
variable {nm q : Str} {C N : Addr} {bs bm : List Value} {hdct : Bool} {sn : List Str} {sub : List Value} {ab : Bool} {col : Option Bool} {dd : Option Addr} {k0 k1 k2 k3 k5 : Option Value}
end
section
variable {X : Cx} {pins : List (Addr × Obj)} {σ : St} {H : Hp} {s : Shared}
end
end L2
namespace L2
open PySem PySem.Spec PyProof.Rows PySem.W PySem.Calls
section
variable {M : Model} {A : Around} {E : Value -> Shared -> Prop} {s : Shared}
end
section
variable {X : Cx} {pins : List (Addr × Obj)} {σ : St} {H : Hp} {s : Shared}
end
end L2
namespace L2
open PySem PySem.Spec PyProof.Rows PySem.W PySem.Calls
section
variable {M : Model} {A : Around} {E : Value -> Shared -> Prop} {h : Heap} {g : Array GenState} {d : Drawn} {t : Nat} {os : OsState}
end
section
variable {X : Cx} {σ : St} {H : Hp} {s : Shared}
end
end L2
namespace L2
open PySem PySem.Spec PyProof.Rows PySem.W PySem.Calls Builtin Builtin.ObjectAttr
section
variable {prog : Program} {w : World} {A : Around} {E : Value -> Shared -> Prop} {s : Shared} {K : PySem.W.Frag} {x C : Addr} {ox : Obj} {od : Option Obj} {name : Str}
end
end L2
namespace L2
open PySem PySem.Spec PyProof.Rows PySem.W PySem.Calls
section
variable {X : Cx} {pins : List (Addr × Obj)} {σ : St} {H : Hp} {s : Shared}
variable {K : PySem.W.Frag} (hK : X.K = K)
include hK
end
end L2
namespace L2
open PySem PySem.Spec PyProof.Rows
structure RoomH (k : Nat) (A : Around) : Prop where
 dp : A.depth + 3 * k + 5 < recursionLimit
 un : A.units + 16 * k + 200 < cLine
theorem Room.h {k : Nat} {A : Around} (r : Room k A) (e : Option Value) : RoomH k (A.mark e):=⟨r.dp,r.un⟩
theorem RoomH.units {k : Nat} {A : Around} (r : RoomH k A) : A.units + 64 < cLine:=by have:=r.un; omega
section
variable {P : Program} {w : World} {K : PySem.W.Frag} {mg : Str -> Option Value} {base : Heap}
end
section
variable {X : Cx} {k : Nat} {f : Addr} {fd : FuncData} {ps : List Str} {sp : Sp} {x : Str} {p pos : Pos} {e : Expr} {es : List Expr} {t : TA}
end
end L2
namespace L2
open PySem PySem.Spec PyProof.Rows PySem.W PySem.Calls
structure NsF (K : PySem.W.Frag) (N : Addr) (init : Option Addr) : Prop where
 lk : ∃ oc od es n sl,K.lookup N = some ⟨oc,od,.dict es n,sl⟩ /\ (es.all fun e=>match e.key with | .str _ _=>true | _=>false) = true
 ni : nsIn K N "__init__" = some (init.map Value.ref)
theorem NsF.ok {K : PySem.W.Frag} {N : Addr} {init : Option Addr} (h : NsF K N init) : nsOkIn K N = true:=by
 obtain ⟨oc,od,es,n,sl,e,q⟩:=h.lk
 unfold nsOkIn
 rw [e]
 exact q
def zku (C : Addr) (fld : Str) : Sp:=fun vs H Q _=>∃ (e : Addr) (i : Int),vs = [.ref e,.int i] /\ H e = some (XO e C none) /\ i.natAbs <= 1000000000 /\ ∀ dx,H dx = none -> Q .non (upd (upd H dx (.xd [(fld,.int i)])) e (XO e C (some dx)))
section
variable {X : Cx} {k j : Nat} {f C : Addr} {fd : FuncData} {ps : List Str} {sp : Sp} {x qual fld : Str} {st : Stmt} {p np cpos pos : Pos} {e : Expr} {es : List Expr} {t : TA} {E : St -> XK} {L : Addr}
end
end L2
namespace L2
open PySem PySem.Spec PyProof.Rows
section
variable {X : Cx}
end
end L2
namespace Cs
open PySem L2
def SgOk (n : Nat) (x : Str) : Prop:=x.length <= n /\ ∀ c ∈ x.cps.toList,c < 128
end Cs
namespace Cs
open PySem L2
theorem SgOk.lay {n : Nat} {x : Str} (h : SgOk n x) : PyData.canLay0 (.str x) = true:=by
 show (x.cps.all fun c=>decide (c < 0x110000)) = true
 rw [<- Array.all_toList,List.all_eq_true]
 intro c hc
 have:=h.2 c hc
 exact decide_eq_true (by omega)
def zjz (x : Str) : Bool:=match x.cps.toList with
 | [c]=>decide (c ∈ signs)
 | _=>false
def zmH (r : Row) : Bool:=zjz r.s && decide (1 <= r.w /\ r.w <= 99) && decide (0 <= r.t /\ r.t <= 127) && decide (0 <= r.n /\ r.n <= 40)
def zkH (ah : List Row) (r : Row) : Bool:=zmH r && (place ah r.s).isNone && !decide (r.t ∈ ah.map fun x=>x.t)
def zcZ (rs : List Row) (k : Nat) : Prop:=∀ i r,i < k -> rs[i]? = some r -> zkH (rs.take i) r = true
inductive Looks (rs : List Row) : Option Nat -> Prop
 | none0 : rs = [] -> Looks rs (some 0)
 | bad {k : Nat} {r : Row} : zcZ rs k -> rs[k]? = some r -> zkH (rs.take k) r = false -> Looks rs (some k)
 | good : rs ≠ [] -> zcZ rs rs.length -> Looks rs none
theorem Looks.uniq {rs : List Row} {a b : Option Nat} (ha : Looks rs a) (hb : Looks rs b) : a = b:=by
 have lt : ∀ {k : Nat} {r : Row},rs[k]? = some r -> k < rs.length:=fun h=>(List.getElem?_eq_some_iff.mp h).1
 cases ha with
 | none0 e =>
   cases hb with
   | none0 _=>rfl
   | bad _ h _=>rw [e] at h; simp at h
   | good n _=>exact absurd e n
 | bad a1 h1 s1 =>
   cases hb with
   | none0 e=>rw [e] at h1; simp at h1
   | bad a2 h2 s2 =>
     rename_i k r k' r'
     rcases Nat.lt_trichotomy k k' with z | z | z
     ·have:=a2 k r z h1
      rw [s1] at this
      cases this
     ·rw [z]
     ·have:=a1 k' r' z h2
      rw [s2] at this
      cases this
   | good _ a2 =>
     have:=a2 _ _ (lt h1) h1
     rw [s1] at this
     cases this
 | good n a1 =>
   cases hb with
   | none0 e=>exact absurd e n
   | bad a2 h2 s2 =>
     have:=a1 _ _ (lt h2) h2
     rw [s2] at this
     cases this
   | good _ _=>rfl
theorem zgm {α : Type} [DecidableEq α] : ∀ {xs ys : List α},xs.Nodup -> (∀ x ∈ xs,x ∈ ys) -> xs.length <= ys.length
 | [],_,_,_=>Nat.zero_le _
 | x :: xs,ys,h,hs=>by
   obtain ⟨h1,h2⟩:=List.nodup_cons.mp h
   have hx:=hs x List.mem_cons_self
   have ih:=zgm (xs:=xs) (ys:=ys.erase x) h2 fun y hy=>by
    have hne : y ≠ x:=fun e=>h1 (by rw [<- e]; exact hy)
    exact (List.mem_erase_of_ne hne).mpr (hs y (List.mem_cons_of_mem _ hy))
   rw [List.length_erase_of_mem hx] at ih
   have:=List.length_pos_of_mem hx
   rw [List.length_cons]
   omega
theorem zjZ {x : Str} (h : zjz x = true) : x ∈ signs.map sg:=by
 unfold zjz at h
 split at h
 ·rename_i c e
  refine List.mem_map.mpr ⟨c,of_decide_eq_true h,?_⟩
  exact (Lns.ziA e).symm
 ·cases h
theorem zjU {ah : List Row} {r : Row} (h : zkH ah r = true) : zjz r.s = true /\ place ah r.s = none:=by
 unfold zkH zmH at h
 simp only [Bool.and_eq_true] at h
 exact ⟨h.1.1.1.1.1,Option.isNone_iff_eq_none.mp h.1.2⟩
theorem zfi {rs : List Row} {x : Str} (h : place rs x = none) : x ∉ rs.map fun r=>r.s:=by
 unfold place at h
 rw [List.findIdx?_eq_none_iff] at h
 intro hm
 obtain ⟨r,hr,e⟩:=List.mem_map.mp hm
 have:=h r hr
 rw [decide_eq_true e] at this
 cases this
theorem zcZ.signs {rs : List Row} {k : Nat} (h : zcZ rs k) (hk : k <= rs.length) : ((rs.take k).map fun r=>r.s).Nodup /\ ∀ x ∈ (rs.take k).map fun r=>r.s,x ∈ signs.map sg:=by
 induction k with
 | zero=>exact ⟨by simp,fun x hx=>by simp at hx⟩
 | succ k ih =>
   obtain ⟨i1,i2⟩:=ih (fun i r hi hr=>h i r (by omega) hr) (by omega)
   have hr : rs[k]? = some rs[k]:=List.getElem?_eq_getElem (by omega)
   obtain ⟨s1,s2⟩:=zjU (h k _ (Nat.lt_succ_self k) hr)
   have e : rs.take (k + 1) = rs.take k ++ [rs[k]]:=by rw [List.take_add_one,hr]; rfl
   rw [e,List.map_append]
   constructor
   ·rw [List.nodup_append]
    refine ⟨i1,by simp,fun a ha b hb=>?_⟩
    have hb : b = rs[k].s:=List.mem_singleton.mp hb
    intro z
    rw [z,hb] at ha
    exact zfi s2 ha
   ·intro x hx
    rcases List.mem_append.mp hx with z | z
    ·exact i2 x z
    ·rw [List.mem_singleton.mp z]
     exact zjZ s1
theorem zcZ.few {rs : List Row} {k : Nat} (h : zcZ rs k) (hk : k <= rs.length) : k <= 30:=by
 obtain ⟨h1,h2⟩:=h.signs hk
 have:=zgm h1 h2
 rw [List.length_map,List.length_take,Nat.min_eq_left hk,List.length_map] at this
 exact this
theorem zcZ.succ {rs : List Row} {k : Nat} {r : Row} (h : zcZ rs k) (hr : rs[k]? = some r) (hs : zkH (rs.take k) r = true) : zcZ rs (k + 1):=fun i r' hi hr'=>by
 by_cases e : i = k
 ·subst e
  rw [hr] at hr'
  cases hr'
  exact hs
 ·exact h i r' (by omega) hr'
end Cs
namespace L2
open PySem PySem.Spec PyProof.Rows
section
variable {X : Cx}
def rCount : V -> List V -> Hp -> VK -> Prop:=fun x vs H Q=>∃ (l : Addr) (ns : List Int) (z : Int),x = .ref l /\ vs = [.int z] /\ H l = some (.lst (ns.map V.int)) /\ Q (.int (ns.count z : Nat)) H
theorem zfP (z : Int) : ∀ (ns : List Int) (its : List Value),Vals (ns.map V.int) its -> its.countP (eqI z) = ns.count z
 | [],_,h=>by
   cases h
   rfl
 | n :: ns,_,h=>by
   cases h with
   | cons r t =>
     obtain ⟨tk,rfl⟩:=r
     rw [List.countP_cons,List.count_cons,zfP z ns _ t]
     rfl
theorem zjd : MtR X "list.count" rCount:=by
 intro pins s σ H x vs v us Q I rx rv h
 obtain ⟨l,ns,z,rfl,rfl,hH,q⟩:=h
 cases rx
 obtain ⟨u,rfl,ru⟩:=rv.one
 obtain ⟨t,rfl⟩:=ru
 obtain ⟨zz,its,n,r,hl,e⟩:=I.lstM hH
 rw [List.length_map] at hl
 have at_ : ∀ (m : Nat) (hm : m < its.length),∃ t',its[m] = .int (ns[m]'(by omega)) t':=fun m hm=>by
  obtain ⟨u,hu,ru⟩:=r.get (i:=m) (x:=.int (ns[m]'(by omega))) (by rw [List.getElem?_map,List.getElem?_eq_getElem (by omega)]; rfl)
  rw [List.getElem?_eq_getElem hm] at hu
  obtain ⟨t',rfl⟩:=ru
  exact ⟨t',Option.some.inj hu⟩
 refine call_meets F.slot_list_count ⟨_,e,rfl⟩ F.entry_list_count (F.args_list_count_2 _ _)
  (MeetsSeq.list_count l its.toArray n (.int z t) (eqI z) (fun y hy=>?_)) ⟨e,?_⟩
 ·obtain ⟨m,hm,ey⟩:=List.getElem_of_mem (show y ∈ its by simpa using hy)
  obtain ⟨t',e'⟩:=at_ m hm
  rw [<- ey,e']
  exact MeetsSeq.EqGives.int _ _ _ _
 ·rw [show its.toArray.toList = its from rfl,zfP z ns its r]
  exact ⟨.int (ns.count z : Nat),H,I.tok _,⟨_,rfl⟩,q⟩
end
end L2
namespace Lan
open PySem L2
abbrev Mx:=Str × Int
def zbn (H : Hp) (v : V) (m : Mx) : Prop:=∃ a,v = .ref a /\ H a = some (.tup [.str m.1,.int m.2])
theorem zbF {H H' : Hp} {xs : List V} {ms : List Mx} (h : Paired (zbn H) xs ms) (s : Same H H') : Paired (zbn H') xs ms:=Paired.mapP h fun _ _ ⟨a,e,z⟩=>⟨a,e,s _ _ z⟩
theorem zcb {H : Hp} {p : Addr} {ys : List V} {o : HO} {xs : List V} {ms : List Mx} (h : Paired (zbn H) xs ms) (hp : H p = some (.lst ys)) : Paired (zbn (upd H p o)) xs ms :=
 Paired.mapP h fun _ _ ⟨a,e,z⟩=>⟨a,e,by rw [zai (zbi z hp (fun q=>by cases q))]; exact z⟩
theorem zgu {H : Hp} {v : V} {m : Mx} (h : zbn H v m) : ∀ n : Nat,Paired (zbn H) (List.replicate n v) (List.replicate n m)
 | 0=>.nil
 | n + 1=>.cons h (zgu h n)
theorem zll {α β : Type} {F : α -> β -> Prop} {a : α} {b : β} (h : F a b) : ∀ {xs : List α} {ys : List β} (i : Nat),Paired F xs ys -> Paired F (xs.set i a) (ys.set i b)
 | _,_,_,.nil=>.nil
 | _,_,0,.cons _ t=>.cons h t
 | _,_,i + 1,.cons r t=>.cons r (zll h i t)
def zbZ (H0 : Hp) (no : Addr) (H : Hp) (v : V) (ms : List Mx) : Prop:=∃ p xs,v = .ref p /\ p ≠ no /\ H0 p = none /\ H p = some (.lst xs) /\ Paired (zbn H) xs ms
theorem zbx {H0 H H' : Hp} {no : Addr} {zs : List V} {ls : List (List Mx)} (h : Paired (zbZ H0 no H) zs ls) (s : Same H H') : Paired (zbZ H0 no H') zs ls :=
 Paired.mapP h fun _ _ ⟨p,xs,e,n,f,z,m⟩=>⟨p,xs,e,n,f,s _ _ z,zbF m s⟩
theorem ziW {H0 H : Hp} {no : Addr} {ys : List V} {o : HO} {zs : List V} {ls : List (List Mx)} (h : Paired (zbZ H0 no H) zs ls) (hn : H no = some (.lst ys)) : Paired (zbZ H0 no (upd H no o)) zs ls :=
 Paired.mapP h fun _ _ ⟨p,xs,e,n,f,z,m⟩=>⟨p,xs,e,n,f,by rw [zai n]; exact z,zcb m hn⟩
theorem zdO {H0 H : Hp} {no : Addr} {zs : List V} {ls : List (List Mx)} {p : Addr} (h : Paired (zbZ H0 no H) zs ls) (hp : H p = none) : V.ref p ∉ zs:=by
 intro hm
 obtain ⟨i,hi,e⟩:=List.getElem_of_mem hm
 obtain ⟨_,_,p2,xs,e2,_,_,z,_⟩:=Cs.zaM h (List.getElem?_eq_getElem hi)
 rw [e] at e2
 cases e2
 rw [hp] at z
 cases z
theorem lanes_set {H0 H : Hp} {no p : Addr} {ys ys' : List V} {ms' : List Mx} : ∀ {zs : List V} {ls : List (List Mx)} (k : Nat),Paired (zbZ H0 no H) zs ls -> zs.Nodup -> zs[k]? = some (.ref p) -> H p = some (.lst ys) -> Paired (zbn (upd H p (.lst ys'))) ys' ms' -> p ≠ no -> H0 p = none ->
 Paired (zbZ H0 no (upd H p (.lst ys'))) zs (ls.set k ms')
 | _,_,_,.nil,_,h,_,_,_,_=>by simp at h
 | _,_,0,.cons r t,hn,h,hp,hm,hno,hf=>by
   have h : _ = V.ref p:=Option.some.inj h
   subst h
   obtain ⟨hn1,_⟩:=List.nodup_cons.mp hn
   refine .cons ⟨p,ys',rfl,hno,hf,upd_same,hm⟩ (lanes_else t hn1 hp)
 | _,_,k + 1,.cons r t,hn,h,hp,hm,hno,hf=>by
   obtain ⟨hn1,hn2⟩:=List.nodup_cons.mp hn
   obtain ⟨q,xs,e,n,f,z,m⟩:=r
   subst e
   have hne : q ≠ p:=fun e=>by
    rw [e] at hn1
    exact hn1 (List.mem_of_getElem? h)
   exact .cons ⟨q,xs,rfl,n,f,by rw [zai hne]; exact z,zcb m hp⟩ (lanes_set k t hn2 h hp hm hno hf)
where
 lanes_else : ∀ {zs : List V} {ls : List (List Mx)},Paired (zbZ H0 no H) zs ls -> V.ref p ∉ zs -> H p = some (.lst ys) -> Paired (zbZ H0 no (upd H p (.lst ys'))) zs ls
  | _,_,.nil,_,_=>.nil
  | _,_,.cons ⟨q,xs,e,n,f,z,m⟩ t,hn,hp=>by
    subst e
    have hne : q ≠ p:=fun e=>hn (by rw [e]; exact List.mem_cons_self)
    exact .cons ⟨q,xs,rfl,n,f,by rw [zai hne]; exact z,zcb m hp⟩ (lanes_else t (fun h=>hn (List.mem_cons_of_mem _ h)) hp)
end Lan
namespace Unl
open PySem L2 PySem.Builtin.Str
def zdP (m : Nat) (x : Str) : Prop:=x.cps.toList.length <= m /\ ∀ c ∈ x.cps.toList,c < 0x110000
theorem zdP.len {m : Nat} {x : Str} (h : zdP m x) : x.length <= m:=by
 have hl : x.cps.toList.length = x.length:=Array.length_toList
 rw [<- hl]
 exact h.1
theorem zdP.lay {m : Nat} {x : Str} (h : zdP m x) : PyData.canLay0 (.str x) = true:=by
 show (x.cps.all fun c=>decide (c < 0x110000)) = true
 rw [<- Array.all_toList,List.all_eq_true]
 exact fun c hc=>decide_eq_true (h.2 c hc)
theorem zdP.take {m : Nat} {x y : Str} {n : Nat} (h : zdP m x) (e : y.cps.toList = x.cps.toList.take n) : zdP m y :=
 ⟨by rw [e]; exact Nat.le_trans (List.length_take_le' ..) h.1,fun c hc=>h.2 c (by rw [e] at hc; exact List.mem_of_mem_take hc)⟩
theorem zdP.drop {m : Nat} {x y : Str} {n : Nat} (h : zdP m x) (e : y.cps.toList = x.cps.toList.drop n) : zdP m y :=
 ⟨by rw [e,List.length_drop]; exact Nat.le_trans (Nat.sub_le ..) h.1,fun c hc=>h.2 c (by rw [e] at hc; exact List.mem_of_mem_drop hc)⟩
theorem zdP.mid {m : Nat} {x y t d : Str} {n e : Nat} (h : zdP m x) (hy : zdP 1 y) (e1 : t.cps.toList = x.cps.toList.take n) (e2 : d.cps.toList = x.cps.toList.drop e) (he : n <= e) : zdP (m + 1) (t ++ y ++ d):=by
 have q : (t ++ y ++ d).cps.toList = t.cps.toList ++ y.cps.toList ++ d.cps.toList:=by
  show (t.cps ++ y.cps ++ d.cps).toList = _
  rw [Array.toList_append,Array.toList_append]
 refine ⟨?_,fun c hc=>?_⟩
 ·rw [q,List.length_append,List.length_append,e1,e2,List.length_take,List.length_drop]
  have:=h.1
  have:=hy.1
  omega
 ·rw [q,e1,e2] at hc
  rcases List.mem_append.mp hc with z | z
  ·rcases List.mem_append.mp z with z | z
   ·exact h.2 c (List.mem_of_mem_take z)
   ·exact hy.2 c z
  ·exact h.2 c (List.mem_of_mem_drop z)
def cp : List Nat -> List Nat -> Nat
 | a :: x,b :: y=>if a = b then cp x y + 1 else 0
 | _,_=>0
def un : Nat -> List Str -> List Str -> Option (Nat × Nat)
 | k,t :: ts,s :: ss=>if t = s then un (k + 1) ts ss else some (k,cp t.cps.toList s.cps.toList)
 | _,[],[]=>none
 | k,_,_=>some (k,0)
def UnAt (H : Hp) (v : V) : Option (Nat × Nat) -> Prop
 | none=>v = .non
 | some (i,p)=>∃ t,v = .ref t /\ H t = some (.tup [.int i,.int p])
theorem UnAt.same {H H' : Hp} {v : V} {o : Option (Nat × Nat)} (h : UnAt H v o) (hs : Same H H') : UnAt H' v o:=by
 cases o with
 | none=>exact h
 | some ip =>
   obtain ⟨t,e,ht⟩:=h
   exact ⟨t,e,hs _ _ ht⟩
end Unl
namespace L2
open PySem PySem.Spec PyProof.Rows
structure FS (ns : List Str) (fs : List (Str × V)) (vals : List (Option V)) : Prop where
 lk : ∀ m,fs.lookup m = (ns.idxOf? m).bind fun i=>(vals[i]?).join
 ln : vals.length = ns.length
 nd : (fs.map (·.1)).Nodup
 sb : ∀ x ∈ fs.map (·.1),x ∈ ns
 fw : ns.length < 1000
theorem zjf (f : Str) (v : V) : ∀ fs : List (Str × V),(f ∈ fs.map (·.1) -> (putF f v fs).map (·.1) = fs.map (·.1)) /\ (f ∉ fs.map (·.1) -> (putF f v fs).map (·.1) = fs.map (·.1) ++ [f])
 | []=>⟨fun h=>by simp at h,fun _=>rfl⟩
 | (k,x) :: r=>by
   obtain ⟨i1,i2⟩:=zjf f v r
   rw [show putF f v ((k,x) :: r) = (if k = f then (k,v) :: r else (k,x) :: putF f v r) from rfl]
   by_cases hk : k = f
   ·rw [if_pos hk]
    exact ⟨fun _=>rfl,fun h=>absurd (by rw [<- hk]; simp) h⟩
   ·rw [if_neg hk]
    refine ⟨fun h=>?_,fun h=>?_⟩
    ·rw [List.map_cons] at h
     rcases List.mem_cons.mp h with h | h
     ·exact absurd h.symm hk
     ·rw [List.map_cons,i1 h,List.map_cons]
    ·rw [List.map_cons,i2 fun z=>h (by rw [List.map_cons]; exact List.mem_cons_of_mem _ z),List.map_cons]
     rfl
theorem FS.nil {ns : List Str} (h : ns.length < 1000) : FS ns [] (List.replicate ns.length none):=by
 refine ⟨fun m=>?_,List.length_replicate,List.nodup_nil,(fun x hx=>nomatch hx),h⟩
 cases e : ns.idxOf? m with
 | none=>rfl
 | some i =>
   show none = ((List.replicate ns.length (none : Option V))[i]?).join
   rw [List.getElem?_replicate]
   split <;> rfl
theorem FS.len {ns : List Str} {fs : List (Str × V)} {vals : List (Option V)} (h : FS ns fs vals) : fs.length < 1000:=by
 have h1:=Cs.zgm h.nd h.sb
 have h2:=h.fw
 rw [List.length_map] at h1
 omega
theorem FS.get {ns : List Str} {fs : List (Str × V)} {vals : List (Option V)} {m : Str} {i : Nat} {v : V} (h : FS ns fs vals) (hi : ns.idxOf? m = some i) (hv : vals[i]? = some (some v)) : fs.lookup m = some v:=by
 rw [h.lk m,hi]
 show (vals[i]?).join = _
 rw [hv]
 rfl
theorem FS.no {ns : List Str} {fs : List (Str × V)} {vals : List (Option V)} {m : Str} (h : FS ns fs vals) (hi : ns.idxOf? m = none) : fs.lookup m = none:=by
 rw [h.lk m,hi]
 rfl
theorem zmM {ns : List Str} {f : Str} {i : Nat} (h : ns.idxOf? f = some i) : ns[i]? = some f:=by
 unfold List.idxOf? at h
 obtain ⟨hi,e,_⟩:=List.findIdx?_eq_some_iff_getElem.mp h
 rw [List.getElem?_eq_getElem hi,beq_iff_eq.mp e]
theorem FS.put {ns : List Str} {fs : List (Str × V)} {vals : List (Option V)} {f : Str} {i : Nat} (y : V) (h : FS ns fs vals) (hi : ns.idxOf? f = some i) : FS ns (putF f y fs) (vals.set i (some y)):=by
 have hat:=zmM hi
 have hil : i < vals.length:=by
  have:=(List.getElem?_eq_some_iff.mp hat).1
  rw [h.ln]
  exact this
 obtain ⟨k1,k2⟩:=zjf f y fs
 refine ⟨fun m=>?_,by rw [List.length_set]; exact h.ln,?_,?_,h.fw⟩
 ·rw [zdE]
  by_cases e : m = f
  ·rw [if_pos e,e,hi]
   show _ = ((vals.set i (some y))[i]?).join
   rw [List.getElem?_set,if_pos rfl,if_pos hil]
   rfl
  ·rw [if_neg e,h.lk m]
   cases ej : ns.idxOf? m with
   | none=>rfl
   | some j =>
     have hj:=zmM ej
     have hne : i ≠ j:=fun z=>by
      rw [z,hj] at hat
      exact e (Option.some.inj hat)
     show (vals[j]?).join = ((vals.set i (some y))[j]?).join
     rw [List.getElem?_set,if_neg hne]
 ·by_cases e : f ∈ fs.map (·.1)
  ·rw [k1 e]
   exact h.nd
  ·rw [k2 e,List.nodup_append]
   refine ⟨h.nd,by simp,fun a ha b hb=>?_⟩
   rw [List.mem_singleton.mp hb]
   exact fun z=>e (z ▸ ha)
 ·intro x hx
  by_cases e : f ∈ fs.map (·.1)
  ·rw [k1 e] at hx
   exact h.sb x hx
  ·rw [k2 e] at hx
   rcases List.mem_append.mp hx with hx | hx
   ·exact h.sb x hx
   ·rw [List.mem_singleton.mp hx]
    exact List.mem_of_getElem? hat
def zcA (C : Addr) (ns : List Str) (H : Hp) (a : Addr) (vals : List (Option V)) : Prop:=∃ dx fs,H a = some (.ins C dx fs) /\ FS ns fs vals
theorem zcA.same {C : Addr} {ns : List Str} {H H' : Hp} {a : Addr} {vals : List (Option V)} (h : zcA C ns H a vals) (s : Same H H') : zcA C ns H' a vals:=let ⟨dx,fs,e,f⟩:=h; ⟨dx,fs,s _ _ e,f⟩
def zvn (C : Addr) (ns : List Str) (ta : TE) (i : Nat) : TE:=fun σ H Q=>ta σ H fun x H1=>∃ a vals v,x = .ref a /\ zcA C ns H1 a vals /\ vals[i]? = some (some v) /\ Q v H1
def zuu (C : Addr) (ns : List Str) (ta tv : TE) (i : Nat) : TS:=fun D σ H=>tv σ H fun y H1=>ta σ H1 fun x H2=>∃ a vals,x = .ref a /\ zcA C ns H2 a vals /\
 ∀ H3,zcA C ns H3 a (vals.set i (some y)) -> (∀ b,b ≠ a -> H3 b = H2 b) -> D.nx σ H3
def zmA (C : Addr) (ns : List Str) (sp : Sp) (E : XK) (ta : TE) (t : TA) : TE:=fun σ H Q=>ta σ H fun x H1=>∃ a vals,x = .ref a /\ zcA C ns H1 a vals /\ t σ H1 fun vs H2=>sp (x :: vs) H2 Q E
structure DM (K : PySem.W.Frag) (x qual : Str) (st : Stmt) (ps : List Str) (C f : Addr) (fd : FuncData) : Prop where
 fn : Fun K x qual st f fd
 ba : ∀ us : List Value,us.length = ps.length -> bindArgs fd ⟨us,[]⟩ = pure (ps.zip us)
 me : Meth K C x f
section
variable {X : Cx} {K : PySem.W.Frag} (hK : X.K = K) {ns : List Str} {C : Addr} {o e value : Expr} {es : List Expr} {f : Str} {i : Nat} {pos pos' apos : Pos} {ta tv : TE} {t : TA} {k j : Nat} {g : Addr} {fd : FuncData} {ps : List Str} {sp : Sp} {m qual : Str} {st : Stmt}
include hK
theorem pfld (c : Cls K C) (n : zbT K C f) (hi : ns.idxOf? f = some i) (he : PE X o ta) (hb : attributeBase o f X.env (eval o X.env) = eval o X.env:=by rfl) : PE X (.Attribute o f pos) (zvn C ns ta i):=by
 subst hK
 intro pins s σ H Q I h
 refine znW hb (thn (he pins s σ H _ I h) fun u s1 ⟨x,H1,I1,rx,a,vals,v,ex,⟨dx,fs,ea,F⟩,hv,q⟩=>?_)
 subst ex
 obtain rfl : u = Value.ref a:=rx
 exact zjI I1 ea c n (F.get hi hv) fun u' s2 I2 ru=>⟨v,H1,I2,ru,q⟩
theorem zcn (c : Cls K C) (n : zbT K C f) (hi : ns.idxOf? f = some i) (ha : PE X o ta) (hv : PE X value tv) (hs : swapsWith value (some (.Attribute o f pos')) pos.line X.env = pure false:=by rfl) : PS X (.Assign [.Attribute o f pos'] value pos) (zuu C ns ta tv i):=by
 subst hK
 intro pins s σ H D I h
 refine plainObj_wpAny_Assign_Attribute (thn (hv pins s σ H _ I h) fun u s1 ⟨y,H1,I1,ry,q⟩=>thn (ha pins s1 σ H1 _ I1 q) fun ov s2 ⟨x,H2,I2,rx,a,vals,ex,⟨dx,fs,ea,F⟩,q2⟩=>?_) hs
 subst ex
 obtain rfl : ov = Value.ref a:=rx
 exact zjC I2 ea c n F.len ry fun s3 I3=>⟨σ,_,I3,q2 _ ⟨dx,_,upd_same,F.put y hi⟩ fun b hb=>zai hb⟩
theorem zsa (c : Cls K C) (d : DM K m qual st ps C g fd) (F : FnOk X.prog X.w X.K X.mg X.base CX0 j g fd ps sp) (hr : Room k X.A) (hi : ns.idxOf? m = none) (he : PE X o ta) (ha : PA X (e :: es) t) (hjk : j <= k:=by decide)
 (hst : starEach (e :: es) X.env = (false,eval e X.env) :: starEach es X.env:=by rfl) (hpl : (backTo pos (starEach es X.env)).any (·.1) = false:=by rfl) {pl : Sem Bool}
 (ht : eval (.Call (.Attribute o m apos) (e :: es) [] pos) X.env = (do
   let ov <- eval o X.env
   standAt apos.atName
   let (f,first) <- holding [ov] (getMethod ov m pl)
   callWith pos f first (backTo pos (starEach (e :: es) X.env)) (backToKw pos (keywordEach [] X.env))):=by rfl) :
 PE X (.Call (.Attribute o m apos) (e :: es) [] pos) (zmA C ns sp E0 ta t):=by
 subst hK
 intro pins s σ H Q I h
 refine PySem.W.methodCall_KW (pl:=pl) (thn (he pins s σ H _ I h) fun u s1 ⟨x,H1,I1,rx,a,vals,ex,⟨dx,fs,ea,FF⟩,q⟩=>?_) ht
 subst ex
 obtain rfl : u = Value.ref a:=rx
 refine zfT I1 ea c d.me (FF.no hi) ?_
 refine PySem.W.callWith_K (first:=[.ref a]) (h₀:=X.base) I.ok.mod.kin d.me.kp (thn (ha pos pins s1 σ H1 _ I1 q) fun us s2 ⟨vs,H2,I2,r,q2⟩=>⟨I2.kIn,?_⟩) hst hpl
 exact zkL (us:=.ref a :: us) (vs:=.ref a :: vs) (F.mono hjk) hr (.all d.ba) .nil zms I2 (.cons rfl r) (by rw [List.append_nil]; exact q2)
theorem zbg (c : Cls K C) (d : DM K m qual st ps C g fd) (F : FnOk X.prog X.w X.K X.mg X.base CX0 j g fd ps sp) (hr : Room k X.A) (hi : ns.idxOf? m = none) (he : PE X o ta) (hjk : j <= k:=by decide) {pl : Sem Bool}
 (ht : eval (.Call (.Attribute o m apos) [] [] pos) X.env = (do
   let ov <- eval o X.env
   standAt apos.atName
   let (f,first) <- holding [ov] (getMethod ov m pl)
   callWith pos f first (backTo pos (starEach [] X.env)) (backToKw pos (keywordEach [] X.env))):=by rfl) :
 PE X (.Call (.Attribute o m apos) [] [] pos) (zmA C ns sp E0 ta tNil):=by
 subst hK
 intro pins s σ H Q I h
 refine PySem.W.methodCall_KW (pl:=pl) (thn (he pins s σ H _ I h) fun u s1 ⟨x,H1,I1,rx,a,vals,ex,⟨dx,fs,ea,FF⟩,q⟩=>?_) ht
 subst ex
 obtain rfl : u = Value.ref a:=rx
 refine zfT I1 ea c d.me (FF.no hi) ?_
 exact PySem.W.callWith_K0 (first:=[.ref a]) I1.kIn d.me.kp (zkL (us:=[.ref a]) (vs:=[.ref a]) (F.mono hjk) hr (.all d.ba) .nil zms I1 (.cons rfl .nil) q)
end
structure FunD (K : PySem.W.Frag) (x qual : Str) (st : Stmt) (f : Addr) (fd : FuncData) : Prop where
 ex : ∃ (oc : Value) (od : Option Addr) (dV kV doc pm : Value) (an : Option Addr) (cdv ct : Value) (osl : Array (Option Value)),
  fd = PySem.W.fnOf x qual (zal st) (zak st) (zac st) dV kV doc pm an cdv ct /\ K.lookup f = some ⟨oc,od,.func fd,osl⟩ /\ PySem.W.codeIn K cdv qual = true
 kp : PySem.W.keepIn K (.ref f) = true
section
variable {P : Program} {w : World} {K : PySem.W.Frag} {mg : Str -> Option Value} {base : Heap}
theorem FunD.ok {x qual : Str} {st : Stmt} {f : Addr} {fd : FuncData} {N ps : List Str} {k : Nat} {sp : Sp} (F : FunD K x qual st f fd) (S : FnScope N ps (zac st)) (len : ∀ vs H Q E,sp vs H Q E -> vs.length = ps.length)
 (hbody : ∀ (cdv : Value) (A : Around) (outer : List Env) (s : Shared) (H : Hp) (vs : List V) (Q : VK) (E : XK),Room k (A.deeper (envOfC qual (zac st) s.heap.objs.size f cdv)) -> sp vs H Q E ->
   ∃ t,PSs (cxOf CX0 P w K mg base N qual (zac st) f cdv A outer s H E).nox (zak st) t /\ t { nx:=fun _ H'=>Q .non H',rt:=Q } (start N vs) H) : FnOk P w K mg base CX0 (k + 1) f fd ps sp:=by
 obtain ⟨oc,od,dV,kV,doc,pm,an,cdv,ct,osl,rfl,lk,hcd⟩:=F.ex
 refine zpr lk hcd S len fun A outer s H vs Q E hr hsp=>?_
 obtain ⟨t,h,q⟩:=hbody cdv A outer s H vs Q E hr hsp
 exact ⟨t,h.nox,q⟩
theorem us1 {P : List Value -> Prop} (h : ∀ a,P [a]) : ∀ us : List Value,us.length = 1 -> P us
 | [a],_=>h a
theorem us2 {P : List Value -> Prop} (h : ∀ a b,P [a,b]) : ∀ us : List Value,us.length = 2 -> P us
 | [a,b],_=>h a b
theorem us3 {P : List Value -> Prop} (h : ∀ a b c,P [a,b,c]) : ∀ us : List Value,us.length = 3 -> P us
 | [a,b,c],_=>h a b c
theorem us4 {P : List Value -> Prop} (h : ∀ a b c d,P [a,b,c,d]) : ∀ us : List Value,us.length = 4 -> P us
 | [a,b,c,d],_=>h a b c d
theorem us5 {P : List Value -> Prop} (h : ∀ a b c d e,P [a,b,c,d,e]) : ∀ us : List Value,us.length = 5 -> P us
 | [a,b,c,d,e],_=>h a b c d e
theorem zln {us ds : List Value} {n : Nat} (h : (us ++ ds).length = n) : us.length = n - ds.length:=by
 rw [List.length_append] at h
 omega
structure DI (K : PySem.W.Frag) (mg : Str -> Option Value) (x qual : Str) (st : Stmt) (ps : List Str) (C f : Addr) (fd : FuncData) : Prop where
 mg : mg x = some (.ref C)
 cl : Cls K C
 mkr : Mk K C f
 fn : FunD K "__init__" qual st f fd
 b0 : zhE K fd ps []
 b1 : zhE K fd ps [.none]
end
section
variable {X : Cx} {k j : Nat} {C f : Addr} {fd : FuncData} {ps : List Str} {sp : Sp} {x qual : Str} {st : Stmt} {p pos : Pos} {e : Expr} {es : List Expr} {t : TA}
theorem zuJ (d : DI X.K X.mg x qual st ps C f fd) (F : FnOk X.prog X.w X.K X.mg X.base CX0 j f fd ps sp) (hr : Room k X.A) (hg : Gl X x) (ha : PA X (e :: es) t) (hjk : j + 1 <= k:=by decide) (hdb : (x == ("__debug__" : Str)) = false:=by decide)
 (he : starEach (e :: es) X.env = (false,eval e X.env) :: starEach es X.env:=by rfl) (hpl : (backTo pos (starEach es X.env)).any (·.1) = false:=by rfl) :
 PE X (.Call (.Name x p) (e :: es) [] pos) (zoQ C sp [] E0 t) :=
 zmX d.mkr (F.mono (Nat.le_refl j)) (hr.mono hjk) hg d.mg d.b0 .nil zms ha hdb he hpl
end
def rIxP (K : PySem.W.Frag) : R2:=fun x y H Q=>rIxT K x y H Q \/ rIxS x y H Q
theorem zjq {X : Cx} (K : PySem.W.Frag) (hK : X.K = K) : IxR X (rIxP K):=by
 subst hK
 intro value slice pins s σ H x y v u Q I rx ry h hs
 rcases h with h | h
 ·exact zmD value slice pins s σ H x y v u Q I rx ry h hs
 ·exact zdR value slice pins s σ H x y v u Q I rx ry h hs
end L2
namespace Mc
open PySem L2
abbrev Mx:=Lan.Mx
abbrev Part:=Option Mx
structure Cf where
 rs : List Cs.Row
 keys : Str
 cast : Int
structure Ms where
 lanes : List (List Mx)
 line : List Part
 heat : List Part
 togo : Int
 bar : List Mx
 texts : List Str
 at_ : Nat
 done : Int
 waits : Int
def key (c : Cf) (m : Ms) : Option Nat:=c.keys.cps.toList[m.at_]?
def keyS (c : Cf) (m : Ms) : Str:=match key c m with
 | some k=>sg k
 | none=>""
def zdH (ls : List (List Mx)) (k : Nat) : Bool:=match ls[k]? with
 | some l=>l.isEmpty
 | none=>true
def zbI (c : Cf) (m : Ms) : Bool:=match Cs.place c.rs (keyS c m) with
 | some k=>zdH m.lanes k
 | none=>false
def zer (c : Cf) (m : Ms) : Bool:=zbI c m && m.heat.isEmpty && m.bar.isEmpty
def zbW (c : Cf) (m : Ms) : Bool:=(key c m).isNone && m.line.isEmpty && m.heat.isEmpty && m.bar.isEmpty
def zcs (ls : List (List Mx)) (k : Nat) (x : Mx) : List (List Mx):=match ls[k]? with
 | some l=>ls.set k (l ++ [x])
 | none=>ls
def fall (c : Cf) (m : Ms) : Ms:=match m.bar with
 | []=>m
 | x :: r=>match Mt.zce (c.rs.map fun r=>r.t) x.2 with
   | some k=>{ m with bar:=r,lanes:=zcs m.lanes k x }
   | none=>m
def zaX : Part -> Str
 | none=>" "
 | some x=>x.1
def textOf (l : List Part) : Str:=Txt.join "" (l.map zaX)
def mats (l : List Part) : List Mx:=l.filterMap id
def cool (m : Ms) : Ms:=if m.heat.isEmpty = true then m else
 if m.togo - 1 <= 0 then { m with togo:=m.togo - 1,texts:=m.texts ++ [textOf m.heat],bar:=m.bar ++ mats m.heat,heat:=[] } else { m with togo:=m.togo - 1 }
def send (c : Cf) (m : Ms) : Ms:=if m.heat.isEmpty = true then { m with heat:=m.line,togo:=c.cast,line:=[],at_:=m.at_ + 1 } else m
def take (m : Ms) (p : Part) : Ms:={ m with line:=m.line ++ [p],at_:=m.at_ + 1 }
def pick (m : Ms) (k : Nat) : Ms:=match m.lanes[k]? with
 | some (x :: r)=>take { m with lanes:=m.lanes.set k r } (some x)
 | _=>m
def strike (c : Cf) (m : Ms) : Ms:=match key c m with
 | none=>m
 | some k=>if k = 47 then send c m else if k = 32 then take m none else if zbI c m = true then { m with waits:=m.waits + 1 } else match Cs.place c.rs (sg k) with
   | some j=>pick m j
   | none=>m
def tick (c : Cf) (m : Ms) : Ms:=let m1:=strike c (cool (fall c m)); { m1 with done:=m1.done + 1 }
def zdU (c : Cf) (m : Ms) : Bool:=zbW c m || zer c m
def OkM (c : Cf) (x : Mx) : Prop:=PyData.canLay0 (.str x.1) = true /\ x.1.length <= 1 /\ 0 <= x.2 /\ x.2 < 128 /\ ∃ k,Mt.zce (c.rs.map fun r=>r.t) x.2 = some k /\ k < c.rs.length
def cnt (m : Ms) : Nat:=(m.lanes.map List.length).sum + m.line.length + m.heat.length + m.bar.length
structure OkC (c : Cf) : Prop where
 few : c.rs.length <= 30
 short : c.keys.length <= 90000
 known : ∀ k ∈ c.keys.cps.toList,k = 47 \/ k = 32 \/ ((Cs.place c.rs (sg k)).isSome = true /\ k ≠ 47 /\ k ≠ 32)
 ends : c.keys.cps.toList = [] \/ ∃ a,c.keys.cps.toList = a ++ [47]
 noWedge : Cs.place c.rs (sg 47) = none /\ Cs.place c.rs (sg 32) = none /\ Cs.place c.rs "" = none
 cast1 : 1 <= c.cast
 th : ∀ r ∈ c.rs,0 <= r.t /\ r.t < 128
 lay : PyData.canLay0 (.str c.keys) = true
structure Ok (c : Cf) (m : Ms) : Prop where
 cf : OkC c
 ln : m.lanes.length = c.rs.length
 lm : ∀ l ∈ m.lanes,∀ x ∈ l,OkM c x
 im : ∀ x,some x ∈ m.line -> OkM c x
 hm : ∀ x,some x ∈ m.heat -> OkM c x
 bm : ∀ x ∈ m.bar,OkM c x
 le : m.at_ <= c.keys.cps.toList.length
 en : m.at_ = c.keys.cps.toList.length -> m.line = []
 sz : cnt m <= 2000 + m.at_
 tx : m.texts.length + (if m.heat.isEmpty = true then 0 else 1) <= m.at_
 tl : ∀ t ∈ m.texts,PyData.canLay0 (.str t) = true
 tg : m.heat ≠ [] -> 1 <= m.togo
theorem zdx {c : Cf} {m : Ms} (h : Ok c m) : m.at_ <= 90000:=by
 have h1:=h.le
 have h2:=h.cf.short
 have h3 : c.keys.cps.toList.length = c.keys.length:=Array.length_toList
 omega
theorem zgj (ls : List (List Mx)) (k : Nat) (l l' : List Mx) (h : ls[k]? = some l) : ((ls.set k l').map List.length).sum + l.length = (ls.map List.length).sum + l'.length:=by
 induction ls generalizing k with
 | nil=>simp at h
 | cons a r ih =>
   cases k with
   | zero =>
     have e : a = l:=Option.some.inj h
     subst e
     show (l'.length + (r.map List.length).sum) + a.length = (a.length + (r.map List.length).sum) + l'.length
     omega
   | succ j =>
     have:=ih j h
     show (a.length + ((r.set j l').map List.length).sum) + l.length = (a.length + (r.map List.length).sum) + l'.length
     omega
theorem zlz {ls : List (List Mx)} {k : Nat} {l : List Mx} (h : ls[k]? = some l) : l.length <= (ls.map List.length).sum:=by
 have:=zgj ls k l [] h
 have e : ([] : List Mx).length = 0:=rfl
 omega
theorem zdQ (l : List Part) : (mats l).length <= l.length:=List.length_filterMap_le _ _
theorem zmb {l : List Part} {x : Mx} (h : x ∈ mats l) : some x ∈ l:=by
 obtain ⟨y,hy,e⟩:=List.mem_filterMap.mp h
 have e : y = some x:=e
 rw [<- e]
 exact hy
theorem Ok.fall {c : Cf} {m : Ms} (h : Ok c m) : Ok c (fall c m):=by
 unfold Mc.fall
 cases hb : m.bar with
 | nil=>exact h
 | cons x r =>
   have hx:=h.bm x (by rw [hb]; exact List.mem_cons_self)
   obtain ⟨_,_,_,_,k,hk,hkl⟩:=hx
   show Ok c (match Mt.zce (c.rs.map fun r=>r.t) x.2 with
    | some k=>{ m with bar:=r,lanes:=zcs m.lanes k x }
    | none=>m)
   rw [hk]
   have hkl' : k < m.lanes.length:=by rw [h.ln]; exact hkl
   have hg : m.lanes[k]? = some m.lanes[k]:=List.getElem?_eq_getElem hkl'
   have ea : zcs m.lanes k x = m.lanes.set k (m.lanes[k] ++ [x]):=by unfold zcs; rw [hg]
   refine ⟨h.cf,?_,?_,h.im,h.hm,?_,h.le,h.en,?_,h.tx,h.tl,h.tg⟩
   ·show (zcs m.lanes k x).length = _
    rw [ea,List.length_set]
    exact h.ln
   ·intro l hl y hy
    have hl : l ∈ zcs m.lanes k x:=hl
    rw [ea] at hl
    rcases List.mem_or_eq_of_mem_set hl with hl | hl
    ·exact h.lm l hl y hy
    ·rw [hl] at hy
     rcases List.mem_append.mp hy with hy | hy
     ·exact h.lm _ (List.getElem_mem hkl') y hy
     ·rw [List.mem_singleton.mp hy]
      exact h.bm x (by rw [hb]; exact List.mem_cons_self)
   ·intro y hy
    exact h.bm y (by rw [hb]; exact List.mem_cons_of_mem _ hy)
   ·have hs:=h.sz
    have h1:=zgj m.lanes k _ (m.lanes[k] ++ [x]) hg
    rw [List.length_append] at h1
    unfold cnt at hs ⊢
    rw [hb] at hs
    show ((zcs m.lanes k x).map List.length).sum + m.line.length + m.heat.length + r.length <= 2000 + m.at_
    rw [ea]
    have e1 : [x].length = 1:=rfl
    have e2 : (x :: r).length = r.length + 1:=rfl
    omega
theorem zfS (x : Str) (xs : List Str) : Txt.join "" (x :: xs) = x ++ Txt.join "" xs:=by
 unfold Txt.join
 rw [StrLaws.glued_eq_join,StrLaws.glued_eq_join]
 cases xs with
 | nil=>exact (Lns.zgk x).symm
 | cons y r =>
   show x ++ "" ++ Str.join "" (y :: r) = _
   rw [Lns.zgk]
theorem zkc {x y : Str} (hx : PyData.canLay0 (.str x) = true) (hy : PyData.canLay0 (.str y) = true) : PyData.canLay0 (.str (x ++ y)) = true:=by
 have hx : (x.cps.all fun c=>decide (c < 0x110000)) = true:=hx
 have hy : (y.cps.all fun c=>decide (c < 0x110000)) = true:=hy
 show ((x ++ y).cps.all fun c=>decide (c < 0x110000)) = true
 have e : (x ++ y).cps.toList = x.cps.toList ++ y.cps.toList:=Array.toList_append
 rw [<- Array.all_toList] at hx hy ⊢
 rw [e,List.all_append,hx,hy]
 rfl
theorem zlP {c : Cf} {l : List Part} (h : ∀ x,some x ∈ l -> OkM c x) : PyData.canLay0 (.str (textOf l)) = true:=by
 unfold textOf
 induction l with
 | nil=>decide +kernel
 | cons p r ih =>
   have ih:=ih fun x hx=>h x (List.mem_cons_of_mem _ hx)
   have e : Txt.join "" ((p :: r).map zaX) = zaX p ++ Txt.join "" (r.map zaX):=zfS _ _
   rw [e]
   have hp : PyData.canLay0 (.str (zaX p)) = true:=by
    cases p with
    | none=>decide +kernel
    | some x=>exact (h x List.mem_cons_self).1
   exact zkc hp ih
theorem Ok.cool {c : Cf} {m : Ms} (h : Ok c m) : Ok c (cool m):=by
 unfold Mc.cool
 split
 ·exact h
 ·rename_i he
  have hne : m.heat ≠ []:=fun z=>he (by rw [z]; rfl)
  have ht:=h.tg hne
  split
  ·refine ⟨h.cf,h.ln,h.lm,h.im,(fun x hx=>by cases hx),?_,h.le,h.en,?_,?_,?_,fun z=>absurd rfl z⟩
   ·intro x hx
    rcases List.mem_append.mp hx with hx | hx
    ·exact h.bm x hx
    ·exact h.hm x (zmb hx)
   ·have hs:=h.sz
    have hl:=zdQ m.heat
    unfold cnt at hs ⊢
    show (m.lanes.map List.length).sum + m.line.length + 0 + (m.bar ++ mats m.heat).length <= 2000 + m.at_
    rw [List.length_append]
    omega
   ·have h1:=h.tx
    rw [if_neg he] at h1
    show (m.texts ++ [textOf m.heat]).length + 0 <= m.at_
    rw [List.length_append]
    show m.texts.length + 1 + 0 <= _
    omega
   ·intro t ht
    rcases List.mem_append.mp ht with ht | ht
    ·exact h.tl t ht
    ·rw [List.mem_singleton.mp ht]
     exact zlP h.hm
  ·rename_i hg
   exact ⟨h.cf,h.ln,h.lm,h.im,h.hm,h.bm,h.le,h.en,h.sz,h.tx,h.tl,fun _=>by show 1 <= m.togo - 1; omega⟩
theorem zlj {c : Cf} {m : Ms} {k : Nat} (h : key c m = some k) : m.at_ < c.keys.cps.toList.length:=(List.getElem?_eq_some_iff.mp h).1
theorem zme {c : Cf} {m : Ms} {k : Nat} (h : OkC c) (hk : key c m = some k) (e : m.at_ + 1 = c.keys.cps.toList.length) : k = 47:=by
 unfold key at hk
 rcases h.ends with z | ⟨a,z⟩
 ·rw [z] at e
  cases e
 ·rw [z] at e hk
  rw [List.length_append] at e
  have e : m.at_ + 1 = a.length + 1:=e
  rw [List.getElem?_append_right (by omega),show m.at_ - a.length = 0 by omega] at hk
  exact (Option.some.inj hk).symm
theorem Ok.send {c : Cf} {m : Ms} (h : Ok c m) (hl : m.at_ < c.keys.cps.toList.length) : Ok c (send c m):=by
 unfold Mc.send
 split
 ·rename_i he
  have hn : m.heat = []:=List.isEmpty_iff.mp he
  refine ⟨h.cf,h.ln,h.lm,(fun x hx=>by cases hx),h.im,h.bm,hl,fun _=>rfl,?_,?_,h.tl,fun _=>h.cf.cast1⟩
  ·have hs:=h.sz
   unfold cnt at hs ⊢
   rw [hn] at hs
   have e : ([] : List Part).length = 0:=rfl
   show (m.lanes.map List.length).sum + 0 + m.line.length + m.bar.length <= 2000 + (m.at_ + 1)
   omega
  ·have h1:=h.tx
   rw [if_pos he] at h1
   show m.texts.length + (if m.line.isEmpty = true then 0 else 1) <= m.at_ + 1
   split <;> omega
 ·exact h
theorem Ok.take {c : Cf} {m : Ms} {k : Nat} {p : Part} (h : Ok c m) (hk : key c m = some k) (h47 : k ≠ 47) (hp : ∀ x,p = some x -> OkM c x) (hs : cnt m + 1 <= 2000 + (m.at_ + 1)) : Ok c (take m p):=by
 have hl:=zlj hk
 refine ⟨h.cf,h.ln,h.lm,?_,h.hm,h.bm,hl,?_,?_,?_,h.tl,h.tg⟩
 ·intro x hx
  rcases List.mem_append.mp hx with hx | hx
  ·exact h.im x hx
  ·exact hp x (List.mem_singleton.mp hx).symm
 ·intro e
  exact absurd (zme h.cf hk e) h47
 ·unfold cnt at hs ⊢
  show (m.lanes.map List.length).sum + (m.line ++ [p]).length + m.heat.length + m.bar.length <= 2000 + (m.at_ + 1)
  rw [List.length_append]
  show (m.lanes.map List.length).sum + (m.line.length + 1) + m.heat.length + m.bar.length <= 2000 + (m.at_ + 1)
  omega
 ·have:=h.tx
  show m.texts.length + (if m.heat.isEmpty = true then 0 else 1) <= m.at_ + 1
  omega
theorem Ok.pick {c : Cf} {m : Ms} {k j : Nat} (h : Ok c m) (hk : key c m = some k) (h47 : k ≠ 47) : Ok c (pick m j):=by
 unfold Mc.pick
 split
 ·rename_i x r hx
  have h1:=zgj m.lanes j _ r hx
  have e2 : (x :: r).length = r.length + 1:=rfl
  have hb : Ok c { m with lanes:=m.lanes.set j r }:=by
   refine ⟨h.cf,by show (m.lanes.set j r).length = _; rw [List.length_set]; exact h.ln,?_,h.im,h.hm,h.bm,h.le,h.en,?_,h.tx,h.tl,h.tg⟩
   ·intro l hl y hy
    rcases List.mem_or_eq_of_mem_set hl with hl | hl
    ·exact h.lm l hl y hy
    ·rw [hl] at hy
     exact h.lm _ (List.mem_of_getElem? hx) y (List.mem_cons_of_mem _ hy)
   ·have hs:=h.sz
    unfold cnt at hs ⊢
    show ((m.lanes.set j r).map List.length).sum + m.line.length + m.heat.length + m.bar.length <= 2000 + m.at_
    omega
  refine hb.take hk h47 (fun y e=>?_) ?_
  ·cases e
   exact h.lm _ (List.mem_of_getElem? hx) x List.mem_cons_self
  ·have hs:=h.sz
   unfold cnt at hs ⊢
   show ((m.lanes.set j r).map List.length).sum + m.line.length + m.heat.length + m.bar.length + 1 <= 2000 + (m.at_ + 1)
   omega
 ·exact h
theorem Ok.strike {c : Cf} {m : Ms} (h : Ok c m) : Ok c (strike c m):=by
 unfold Mc.strike
 split
 ·exact h
 ·rename_i k hk
  split
  ·exact h.send (zlj hk)
  ·rename_i h47
   split
   ·exact h.take hk h47 (fun x e=>by cases e) (by have:=h.sz; omega)
   ·split
    ·exact ⟨h.cf,h.ln,h.lm,h.im,h.hm,h.bm,h.le,h.en,h.sz,h.tx,h.tl,h.tg⟩
    ·split
     ·exact h.pick hk h47
     ·exact h
theorem Ok.tick {c : Cf} {m : Ms} (h : Ok c m) : Ok c (tick c m):=by
 have g:=h.fall.cool.strike
 exact ⟨g.cf,g.ln,g.lm,g.im,g.hm,g.bm,g.le,g.en,g.sz,g.tx,g.tl,g.tg⟩
def wt (c : Cf) (k : Nat) : Nat:=if k = 47 then 1 + c.cast.toNat else if k = 32 then 1 else 2
def left (c : Cf) (m : Ms) : Nat:=((c.keys.cps.toList.drop m.at_).map (wt c)).sum
def work (c : Cf) (m : Ms) : Nat:=left c m + (mats m.line).length + (mats m.heat).length + (if m.heat.isEmpty = true then 0 else m.togo.toNat) + m.bar.length
theorem zkP {c : Cf} {m : Ms} {k : Nat} (h : key c m = some k) : left c m = wt c k + ((c.keys.cps.toList.drop (m.at_ + 1)).map (wt c)).sum:=by
 unfold left
 have hl:=zlj h
 rw [List.drop_eq_getElem_cons hl]
 have e : c.keys.cps.toList[m.at_] = k:=by
  unfold key at h
  rw [List.getElem?_eq_getElem hl] at h
  exact Option.some.inj h
 rw [e]
 rfl
theorem zki {c : Cf} {m : Ms} (h : Ok c m) : work c (fall c m) + (if m.bar.isEmpty = true then 0 else 1) = work c m:=by
 unfold Mc.fall
 cases hb : m.bar with
 | nil=>rfl
 | cons x r =>
   obtain ⟨_,_,_,_,k,hk,_⟩:=h.bm x (by rw [hb]; exact List.mem_cons_self)
   show work c (match Mt.zce (c.rs.map fun r=>r.t) x.2 with
    | some k=>{ m with bar:=r,lanes:=zcs m.lanes k x }
    | none=>m) + 1 = work c m
   rw [hk]
   unfold work
   rw [hb]
   show left c m + (mats m.line).length + (mats m.heat).length + (if m.heat.isEmpty = true then 0 else m.togo.toNat) + r.length + 1 = left c m + (mats m.line).length + (mats m.heat).length + (if m.heat.isEmpty = true then 0 else m.togo.toNat) + (r.length + 1)
   omega
theorem zkn {c : Cf} {m : Ms} (h : Ok c m) : work c (cool m) + (if m.heat.isEmpty = true then 0 else 1) = work c m:=by
 unfold Mc.cool
 split
 ·rfl
 ·rename_i he
  have hne : m.heat ≠ []:=fun z=>he (by rw [z]; rfl)
  have ht:=h.tg hne
  split
  ·unfold work
   rw [if_neg he]
   show left c m + (mats m.line).length + 0 + 0 + (m.bar ++ mats m.heat).length + 1 = left c m + (mats m.line).length + (mats m.heat).length + m.togo.toNat + m.bar.length
   rw [List.length_append]
   omega
  ·unfold work
   have e1 : (if m.heat.isEmpty = true then 0 else m.togo.toNat) = m.togo.toNat:=if_neg he
   have e2 : (if m.heat.isEmpty = true then 0 else (m.togo - 1).toNat) = (m.togo - 1).toNat:=if_neg he
   show left c m + (mats m.line).length + (mats m.heat).length + (if m.heat.isEmpty = true then 0 else (m.togo - 1).toNat) + m.bar.length + 1 = left c m + (mats m.line).length + (mats m.heat).length + (if m.heat.isEmpty = true then 0 else m.togo.toNat) + m.bar.length
   rw [e1,e2]
   omega
theorem zpQ {c : Cf} {m : Ms} {k : Nat} (h : Ok c m) (hk : key c m = some k) (h47 : k ≠ 47) (h32 : k ≠ 32) (hl : zbI c m = false) : ∃ j,Cs.place c.rs (sg k) = some j /\ ∃ x r,m.lanes[j]? = some (x :: r):=by
 have hm : k ∈ c.keys.cps.toList:=List.mem_of_getElem? hk
 rcases h.cf.known k hm with z | z | ⟨z,_,_⟩
 ·exact absurd z h47
 ·exact absurd z h32
 obtain ⟨j,hj⟩:=Option.isSome_iff_exists.mp z
 refine ⟨j,hj,?_⟩
 have hjl : j < m.lanes.length:=by rw [h.ln]; exact Cs.zbJ hj
 have hg : m.lanes[j]? = some m.lanes[j]:=List.getElem?_eq_getElem hjl
 unfold zbI keyS at hl
 rw [hk] at hl
 have hl : (match Cs.place c.rs (sg k) with | some k=>zdH m.lanes k | none=>false) = false:=hl
 rw [hj] at hl
 have hl : zdH m.lanes j = false:=hl
 unfold zdH at hl
 rw [hg] at hl
 have hl : (m.lanes[j]).isEmpty = false:=hl
 rw [hg]
 cases he : m.lanes[j] with
 | nil=>rw [he] at hl; cases hl
 | cons x r=>exact ⟨x,r,rfl⟩
def zju (c : Cf) (m : Ms) : Bool:=match key c m with
 | none=>false
 | some k=>if k = 47 then m.heat.isEmpty else if k = 32 then true else !zbI c m
theorem zhd (l : List Part) (p : Part) : (mats (l ++ [p])).length = (mats l).length + (match p with | none=>0 | some _=>1):=by
 unfold mats
 rw [List.filterMap_append,List.length_append]
 cases p <;> rfl
theorem ziU {c : Cf} {m : Ms} (h : Ok c m) : work c (strike c m) + (if zju c m = true then 1 else 0) <= work c m:=by
 unfold Mc.strike zju
 cases hk : key c m with
 | none=>exact Nat.le_refl _
 | some k =>
   have hl:=zkP hk
   have hc:=h.cf.cast1
   show work c (if k = 47 then Mc.send c m else if k = 32 then Mc.take m none else if zbI c m = true then { m with waits:=m.waits + 1 } else match Cs.place c.rs (sg k) with
    | some j=>Mc.pick m j
    | none=>m) + (if (if k = 47 then m.heat.isEmpty else if k = 32 then true else !zbI c m) = true then 1 else 0) <= work c m
   by_cases h47 : k = 47
   ·rw [if_pos h47,if_pos h47]
    unfold Mc.send
    cases he : m.heat.isEmpty with
    | false=>exact Nat.le_refl _
    | true =>
      have hn : m.heat = []:=List.isEmpty_iff.mp he
      rw [if_pos rfl,if_pos rfl]
      have e : wt c k = 1 + c.cast.toNat:=by unfold wt; rw [if_pos h47]
      have e3 : (if m.line.isEmpty = true then 0 else c.cast.toNat) <= c.cast.toNat:=by split <;> omega
      have e4 : work c m = wt c k + ((c.keys.cps.toList.drop (m.at_ + 1)).map (wt c)).sum + (mats m.line).length + 0 + 0 + m.bar.length:=by
       unfold work
       rw [hl,if_pos he,hn]
       rfl
      rw [e4]
      show ((c.keys.cps.toList.drop (m.at_ + 1)).map (wt c)).sum + 0 + (mats m.line).length + (if m.line.isEmpty = true then 0 else c.cast.toNat) + m.bar.length + 1 <= _
      omega
   ·rw [if_neg h47,if_neg h47]
    by_cases h32 : k = 32
    ·rw [if_pos h32,if_pos h32,if_pos rfl]
     unfold work
     rw [hl]
     have e : wt c k = 1:=by unfold wt; rw [if_neg h47,if_pos h32]
     have e2 : (mats (m.line ++ [none])).length = (mats m.line).length + 0:=zhd m.line none
     show ((c.keys.cps.toList.drop (m.at_ + 1)).map (wt c)).sum + (mats (m.line ++ [none])).length + (mats m.heat).length + (if m.heat.isEmpty = true then 0 else m.togo.toNat) + m.bar.length + 1 <= _
     omega
    ·rw [if_neg h32,if_neg h32]
     have e : wt c k = 2:=by unfold wt; rw [if_neg h47,if_neg h32]
     cases hla : zbI c m with
     | true=>exact Nat.le_refl _
     | false =>
       rw [if_neg (by decide),if_pos (by decide)]
       obtain ⟨j,hj,x,r,hx⟩:=zpQ h hk h47 h32 hla
       rw [hj]
       show work c (Mc.pick m j) + 1 <= _
       have ep : Mc.pick m j = Mc.take { m with lanes:=m.lanes.set j r } (some x):=by unfold Mc.pick; rw [hx]
       rw [ep]
       unfold work
       rw [hl]
       have e2 : (mats (m.line ++ [some x])).length = (mats m.line).length + 1:=zhd m.line (some x)
       show ((c.keys.cps.toList.drop (m.at_ + 1)).map (wt c)).sum + (mats (m.line ++ [some x])).length + (mats m.heat).length + (if m.heat.isEmpty = true then 0 else m.togo.toNat) + m.bar.length + 1 <= _
       omega
theorem zlV (c : Cf) (m : Ms) : (Mc.fall c m).at_ = m.at_ /\ (Mc.fall c m).line = m.line /\ (Mc.fall c m).heat = m.heat /\ (Mc.fall c m).togo = m.togo /\ (Mc.fall c m).texts = m.texts /\ (Mc.fall c m).done = m.done /\ (Mc.fall c m).waits = m.waits:=by
 unfold Mc.fall
 split
 ·exact ⟨rfl,rfl,rfl,rfl,rfl,rfl,rfl⟩
 ·split <;> exact ⟨rfl,rfl,rfl,rfl,rfl,rfl,rfl⟩
theorem zlQ (m : Ms) : (Mc.cool m).at_ = m.at_ /\ (Mc.cool m).line = m.line /\ (Mc.cool m).lanes = m.lanes /\ (Mc.cool m).done = m.done /\ (Mc.cool m).waits = m.waits:=by
 unfold Mc.cool
 split
 ·exact ⟨rfl,rfl,rfl,rfl,rfl⟩
 ·split <;> exact ⟨rfl,rfl,rfl,rfl,rfl⟩
theorem zkF {c : Cf} {m : Ms} (h : Ok c m) (hs : zdU c m = false) : work c (tick c m) < work c m:=by
 have h1:=zki h
 have h2:=zkn h.fall
 have h3:=ziU h.fall.cool
 have ew : work c (tick c m) = work c (Mc.strike c (Mc.cool (Mc.fall c m))):=rfl
 rw [ew]
 obtain ⟨f1,f2,f3,f4,f5,f6,f7⟩:=zlV c m
 obtain ⟨c1,c2,c3,c4,c5⟩:=zlQ (Mc.fall c m)
 by_cases hb : m.bar.isEmpty = true
 ·by_cases hh : m.heat.isEmpty = true
  ·have ef : Mc.fall c m = m:=by
    unfold Mc.fall
    rw [List.isEmpty_iff.mp hb]
   have ec : Mc.cool m = m:=by
    unfold Mc.cool
    rw [if_pos hh]
   rw [ef,ec] at h3 ⊢
   have ht : zju c m = true:=by
    unfold zdU zbW zer at hs
    rw [hb,hh,Bool.and_true,Bool.and_true,Bool.and_true,Bool.and_true,Bool.or_eq_false_iff] at hs
    unfold zju
    cases hk : key c m with
    | none =>
      have hl : m.at_ = c.keys.cps.toList.length:=by
       have h1:=h.le
       have h2:=List.getElem?_eq_none_iff.mp hk
       omega
      rw [hk,h.en hl] at hs
      exact absurd hs.1 (by decide)
    | some k =>
      show (if k = 47 then m.heat.isEmpty else if k = 32 then true else !zbI c m) = true
      rw [hh,hs.2]
      split
      ·rfl
      ·split <;> rfl
   rw [if_pos ht] at h3
   omega
  ·rw [f3,if_neg hh] at h2
   omega
 ·rw [if_neg hb] at h1
  omega
def runF (c : Cf) : Nat -> Ms -> Ms
 | 0,m=>m
 | n + 1,m=>if zdU c m = true then m else runF c n (tick c m)
def fin (c : Cf) (m : Ms) : Ms:=runF c (work c m) m
theorem zjO {c : Cf} {m : Ms} (h : zdU c m = true) : ∀ n,runF c n m = m
 | 0=>rfl
 | n + 1=>by
   show (if zdU c m = true then m else runF c n (tick c m)) = m
   rw [if_pos h]
theorem znm {c : Cf} {m : Ms} (h : zdU c m = false) (n : Nat) : runF c (n + 1) m = runF c n (tick c m):=by
 show (if zdU c m = true then m else runF c n (tick c m)) = _
 rw [h]
 rfl
end Mc
namespace Mc
open PySem L2
def zbS (H : Hp) (v : V) : Part -> Prop
 | none=>v = .str " "
 | some x=>Lan.zbn H v x
def LnAt (H : Hp) (a : Addr) (ms : List Mx) : Prop:=∃ xs,H a = some (.lst xs) /\ Paired (Lan.zbn H) xs ms
def zik (H : Hp) (a : Addr) (ps : List Part) : Prop:=∃ xs,H a = some (.lst xs) /\ Paired (zbS H) xs ps
structure Adr where
 L : Addr
 c : Addr
 l : Addr
 h : Addr
 b : Addr
 t : Addr
 ls : List Addr
def Adr.all (A : Adr) : List Addr:=A.L :: A.c :: A.l :: A.h :: A.b :: A.t :: A.ls
def Keep (S : Addr -> Prop) (H H' : Hp) : Prop:=∀ b o,H b = some o -> (S b \/ ∃ xs,o = .tup xs) -> H' b = some o
theorem Keep.of_same {S : Addr -> Prop} {H H' : Hp} (s : Same H H') : Keep S H H':=fun b o h _=>s b o h
theorem Keep.lst {H : Hp} {a : Addr} {ys : List V} {o : HO} (h : H a = some (.lst ys)) : Keep (fun b=>b ≠ a) H (upd H a o):=fun b u hb hs=>by
 rcases hs with hs | ⟨xs,e⟩
 ·rw [zai hs]
  exact hb
 ·subst e
  rw [zai (zbi hb h fun z=>by cases z)]
  exact hb
theorem Keep.fld {H H' : Hp} {p C dx : Addr} {fs : List (Str × V)} (h : H p = some (.ins C dx fs)) (k : ∀ b,b ≠ p -> H' b = H b) : Keep (fun b=>b ≠ p) H H':=fun b u hb hs=>by
 rcases hs with hs | ⟨xs,e⟩
 ·rw [k b hs]
  exact hb
 ·subst e
  rw [k b (zbi hb h fun z=>by cases z)]
  exact hb
theorem Keep.trans {S : Addr -> Prop} {H H1 H2 : Hp} (a : Keep S H H1) (b : Keep S H1 H2) : Keep S H H2:=fun x o h hs=>b x o (a x o h hs) hs
theorem zch {S : Addr -> Prop} {H H' : Hp} {v : V} {x : Mx} (k : Keep S H H') (h : Lan.zbn H v x) : Lan.zbn H' v x:=let ⟨a,e,z⟩:=h; ⟨a,e,k _ _ z (.inr ⟨_,rfl⟩)⟩
theorem zcS {S : Addr -> Prop} {H H' : Hp} {v : V} {x : Part} (k : Keep S H H') (h : zbS H v x) : zbS H' v x:=by
 cases x with
 | none=>exact h
 | some x=>exact zch k h
theorem zbQ {S : Addr -> Prop} {H H' : Hp} {xs : List V} {ms : List Mx} (k : Keep S H H') (h : Paired (Lan.zbn H) xs ms) : Paired (Lan.zbn H') xs ms:=Paired.mapP h fun _ _ z=>zch k z
theorem zco {S : Addr -> Prop} {H H' : Hp} {xs : List V} {ms : List Part} (k : Keep S H H') (h : Paired (zbS H) xs ms) : Paired (zbS H') xs ms:=Paired.mapP h fun _ _ z=>zcS k z
theorem zbo {S : Addr -> Prop} {H H' : Hp} {xs : List V} {rs : List Cs.Row} (k : Keep S H H') (h : Paired (Cs.zcf H) xs rs) : Paired (Cs.zcf H') xs rs:=Paired.mapP h fun _ _ ⟨a,e,z⟩=>⟨a,e,k _ _ z (.inr ⟨_,rfl⟩)⟩
theorem LnAt.keep {S : Addr -> Prop} {H H' : Hp} {a : Addr} {ms : List Mx} (k : Keep S H H') (hs : S a) (h : LnAt H a ms) : LnAt H' a ms:=let ⟨xs,e,z⟩:=h; ⟨xs,k _ _ e (.inl hs),zbQ k z⟩
theorem zik.keep {S : Addr -> Prop} {H H' : Hp} {a : Addr} {ms : List Part} (k : Keep S H H') (hs : S a) (h : zik H a ms) : zik H' a ms:=let ⟨xs,e,z⟩:=h; ⟨xs,k _ _ e (.inl hs),zco k z⟩
theorem zbl {S : Addr -> Prop} {H H' : Hp} (k : Keep S H H') : ∀ {ls : List Addr} {ms : List (List Mx)},(∀ a ∈ ls,S a) -> Paired (LnAt H) ls ms -> Paired (LnAt H') ls ms
 | _,_,_,.nil=>.nil
 | _,_,hs,.cons r t=>.cons (r.keep k (hs _ List.mem_cons_self)) (zbl k (fun a ha=>hs a (List.mem_cons_of_mem _ ha)) t)
theorem ziw {H H' : Hp} {p : Addr} {ms' : List Mx} (k : Keep (fun b=>b ≠ p) H H') (hp : LnAt H' p ms') : ∀ {ls : List Addr} {ms : List (List Mx)} (i : Nat),Paired (LnAt H) ls ms -> ls.Nodup -> ls[i]? = some p -> Paired (LnAt H') ls (ms.set i ms')
 | _,_,_,.nil,_,h=>by simp at h
 | _,_,0,.cons r t,hn,h=>by
   have h : _ = p:=Option.some.inj h
   subst h
   obtain ⟨hn1,_⟩:=List.nodup_cons.mp hn
   exact .cons hp (zbl k (fun a ha e=>hn1 (e ▸ ha)) t)
 | _,_,i + 1,.cons r t,hn,h=>by
   obtain ⟨hn1,hn2⟩:=List.nodup_cons.mp hn
   exact .cons (r.keep k fun e=>hn1 (e ▸ List.mem_of_getElem? h)) (ziw k hp i t hn2 h)
structure Lists (c : Cf) (H : Hp) (A : Adr) (m : Ms) : Prop where
 rows : ∃ xs,H A.c = some (.lst xs) /\ Paired (Cs.zcf H) xs c.rs
 lan : H A.L = some (.lst (A.ls.map V.ref))
 lns : Paired (LnAt H) A.ls m.lanes
 lin : zik H A.l m.line
 het : zik H A.h m.heat
 bar : LnAt H A.b m.bar
 txt : H A.t = some (.lst (m.texts.map V.str))
theorem Lists.keep {S : Addr -> Prop} {c : Cf} {H H' : Hp} {A : Adr} {m : Ms} (h : Lists c H A m) (k : Keep S H H') (hs : ∀ a ∈ A.all,S a) : Lists c H' A m:=by
 unfold Adr.all at hs
 obtain ⟨xs,e1,e2⟩:=h.rows
 exact ⟨⟨xs,k _ _ e1 (.inl (hs _ (by simp))),zbo k e2⟩,k _ _ h.lan (.inl (hs _ (by simp))),zbl k (fun a ha=>hs a (by simp [ha])) h.lns,h.lin.keep k (hs _ (by simp)),h.het.keep k (hs _ (by simp)),h.bar.keep k (hs _ (by simp)),k _ _ h.txt (.inl (hs _ (by simp)))⟩
theorem Lists.is {c : Cf} {H : Hp} {A : Adr} {m : Ms} (h : Lists c H A m) : ∀ a ∈ A.all,∃ xs,H a = some (.lst xs):=by
 intro a ha
 obtain ⟨xs,e1,_⟩:=h.rows
 obtain ⟨x2,e2,_⟩:=h.lin
 obtain ⟨x3,e3,_⟩:=h.het
 obtain ⟨x4,e4,_⟩:=h.bar
 unfold Adr.all at ha
 simp only [List.mem_cons] at ha
 rcases ha with rfl | rfl | rfl | rfl | rfl | rfl | ha
 ·exact ⟨_,h.lan⟩
 ·exact ⟨_,e1⟩
 ·exact ⟨_,e2⟩
 ·exact ⟨_,e3⟩
 ·exact ⟨_,e4⟩
 ·exact ⟨_,h.txt⟩
 ·obtain ⟨i,hi,e⟩:=List.getElem_of_mem ha
  obtain ⟨_,_,xs,ex,_⟩:=Cs.zaM h.lns (List.getElem?_eq_getElem hi)
  rw [e] at ex
  exact ⟨xs,ex⟩
def vals (c : Cf) (A : Adr) (m : Ms) : List (Option V):=[some (.ref A.L),some (.ref A.c),some (.str c.keys),some (.int (m.at_ : Int)),some (.int c.cast),some (.ref A.l),some (.ref A.h),some (.int m.togo),some (.ref A.b),some (.ref A.t),some (.int m.done),some (.int m.waits)]
structure Mac (C : Addr) (ns : List Str) (c : Cf) (H : Hp) (p : Addr) (A : Adr) (m : Ms) : Prop where
 ins : zcA C ns H p (vals c A m)
 nd : A.all.Nodup
 li : Lists c H A m
structure Step (p : Addr) (A : Adr) (H : Hp) (A' : Adr) (H' : Hp) : Prop where
 fr : ∀ b o,H b = some o -> ((b ≠ p /\ b ∉ A.all) \/ ∃ xs,o = .tup xs) -> H' b = some o
 nw : ∀ b ∈ A'.all,b ∈ A.all \/ H b = none
 al : ∀ b o,H b = some o -> ∃ o',H' b = some o'
theorem Step.of_same {p : Addr} {A : Adr} {H H' : Hp} (s : Same H H') : Step p A H A H':=⟨fun b o h _=>s b o h,fun b h=>.inl h,fun b o h=>⟨o,s b o h⟩⟩
theorem Step.trans {p : Addr} {A A1 A2 : Adr} {H H1 H2 : Hp} (a : Step p A H A1 H1) (b : Step p A1 H1 A2 H2) : Step p A H A2 H2:=by
 refine ⟨fun x o h hs=>?_,fun x hx=>?_,fun x o h=>?_⟩
 ·refine b.fr x o (a.fr x o h hs) (hs.imp (fun ⟨h1,h2⟩=>⟨h1,fun z=>?_⟩) id)
  rcases a.nw x z with z | z
  ·exact h2 z
  ·rw [h] at z
   cases z
 ·rcases b.nw x hx with z | z
  ·exact a.nw x z
  ·refine .inr ?_
   cases e : H x with
   | none=>rfl
   | some o =>
     obtain ⟨o',e'⟩:=a.al x o e
     rw [z] at e'
     cases e'
 ·obtain ⟨o1,h1⟩:=a.al x o h
  exact b.al x o1 h1
theorem Mac.pne {C : Addr} {ns : List Str} {c : Cf} {H : Hp} {p : Addr} {A : Adr} {m : Ms} (h : Mac C ns c H p A m) : ∀ a ∈ A.all,a ≠ p:=fun a ha=>by
 obtain ⟨xs,e⟩:=h.li.is a ha
 obtain ⟨dx,fs,e2,_⟩:=h.ins
 exact zbi e e2 fun z=>by cases z
theorem Mac.same {C : Addr} {ns : List Str} {c : Cf} {H H' : Hp} {p : Addr} {A : Adr} {m : Ms} (h : Mac C ns c H p A m) (s : Same H H') : Mac C ns c H' p A m:=⟨h.ins.same s,h.nd,h.li.keep (Keep.of_same (S:=fun _=>True) s) fun _ _=>trivial⟩
theorem Mac.apart {C C' : Addr} {ns : List Str} {c : Cf} {H H' : Hp} {p q : Addr} {A B B' : Adr} {m : Ms} (h : Mac C ns c H p A m) (s : Step q B H B' H') (hq : p ≠ q) (hB : p ∉ B.all) (hA : ∀ a ∈ A.all,a ≠ q /\ a ∉ B.all) : Mac C ns c H' p A m:=by
 obtain ⟨dx,fs,e,F⟩:=h.ins
 exact ⟨⟨dx,fs,s.fr _ _ e (.inl ⟨hq,hB⟩),F⟩,h.nd,h.li.keep (S:=fun b=>b ≠ q /\ b ∉ B.all) (fun b o hb hs=>s.fr b o hb hs) hA⟩
theorem Mac.fields {C : Addr} {ns : List Str} {c : Cf} {H H' : Hp} {p : Addr} {A' : Adr} {m' : Ms} {vs : List (Option V)} (h0 : zcA C ns H p vs) (h : zcA C ns H' p (vals c A' m')) (k : ∀ b,b ≠ p -> H' b = H b) (l : Lists c H A' m') (n : A'.all.Nodup) : Mac C ns c H' p A' m':=by
 obtain ⟨dx,fs,e,_⟩:=h0
 refine ⟨h,n,l.keep (Keep.fld e k) fun a ha=>?_⟩
 obtain ⟨xs,ex⟩:=l.is a ha
 exact zbi ex e fun z=>by cases z
theorem Step.fields {H H' : Hp} {p C dx : Addr} {A : Adr} {fs fs' : List (Str × V)} (h : H p = some (.ins C dx fs)) (h' : H' p = some (.ins C dx fs')) (k : ∀ b,b ≠ p -> H' b = H b) : Step p A H A H':=by
 refine ⟨fun b o hb hs=>?_,fun b hb=>.inl hb,fun b o hb=>?_⟩
 ·rcases hs with ⟨hs,_⟩ | ⟨xs,e⟩
  ·rw [k b hs]
   exact hb
  ·subst e
   rw [k b (zbi hb h fun z=>by cases z)]
   exact hb
 ·by_cases e : b = p
  ·rw [e]
   exact ⟨_,h'⟩
  ·exact ⟨o,by rw [k b e]; exact hb⟩
theorem Step.lst {H : Hp} {p a : Addr} {A : Adr} {ys : List V} {o : HO} (ha : a ∈ A.all) (h : H a = some (.lst ys)) : Step p A H A (upd H a o):=by
 refine ⟨fun b u hb hs=>?_,fun b hb=>.inl hb,fun b u hb=>?_⟩
 ·exact Keep.lst h b u hb (hs.imp (fun z e=>z.2 (e ▸ ha)) id)
 ·by_cases e : b = a
  ·rw [e]
   exact ⟨_,upd_same⟩
  ·exact ⟨u,by rw [zai e]; exact hb⟩
theorem zgg {C : Addr} {ns : List Str} {H : Hp} {p a : Addr} {ys : List V} {o : HO} {vs : List (Option V)} (h : zcA C ns H p vs) (ha : H a = some (.lst ys)) : zcA C ns (upd H a o) p vs:=by
 obtain ⟨dx,fs,e,F⟩:=h
 exact ⟨dx,fs,by rw [zai (zbi e ha fun z=>by cases z)]; exact e,F⟩
structure Dis (A : Adr) : Prop where
 Lc : A.L ≠ A.c
 Ll : A.L ≠ A.l
 Lh : A.L ≠ A.h
 Lb : A.L ≠ A.b
 Lt : A.L ≠ A.t
 cl : A.c ≠ A.l
 ch : A.c ≠ A.h
 cb : A.c ≠ A.b
 ct : A.c ≠ A.t
 lh : A.l ≠ A.h
 lb : A.l ≠ A.b
 lt : A.l ≠ A.t
 hb : A.h ≠ A.b
 ht : A.h ≠ A.t
 bt : A.b ≠ A.t
 ls : ∀ q ∈ A.ls,q ≠ A.L /\ q ≠ A.c /\ q ≠ A.l /\ q ≠ A.h /\ q ≠ A.b /\ q ≠ A.t
 nd : A.ls.Nodup
theorem zek {A : Adr} (h : A.all.Nodup) : Dis A:=by
 unfold Adr.all at h
 simp only [List.nodup_cons,List.mem_cons,not_or] at h
 obtain ⟨⟨a1,a2,a3,a4,a5,a6⟩,⟨b1,b2,b3,b4,b5⟩,⟨c1,c2,c3,c4⟩,⟨d1,d2,d3⟩,⟨e1,e2⟩,f1,n⟩:=h
 refine ⟨a1,a2,a3,a4,a5,b1,b2,b3,b4,c1,c2,c3,d1,d2,e1,fun q hq=>⟨?_,?_,?_,?_,?_,?_⟩,n⟩
 all_goals
  intro e
  rw [e] at hq
  contradiction
theorem Mac.setLane {C : Addr} {ns : List Str} {c : Cf} {H : Hp} {p q : Addr} {A : Adr} {m : Ms} {k : Nat} {ys xs : List V} {l : List Mx} (h : Mac C ns c H p A m) (hq : A.ls[k]? = some q) (hy : H q = some (.lst ys)) (hx : Paired (Lan.zbn H) xs l) :
 Mac C ns c (upd H q (.lst xs)) p A { m with lanes:=m.lanes.set k l }:=by
 have d:=zek h.nd
 have kp : Keep (fun b=>b ≠ q) H (upd H q (.lst xs)):=Keep.lst hy
 obtain ⟨n1,n2,n3,n4,n5,n6⟩:=d.ls q (List.mem_of_getElem? hq)
 obtain ⟨zs,e1,e2⟩:=h.li.rows
 exact ⟨zgg h.ins hy,h.nd,⟨⟨zs,kp _ _ e1 (.inl n2.symm),zbo kp e2⟩,kp _ _ h.li.lan (.inl n1.symm),ziw kp ⟨xs,upd_same,zbQ kp hx⟩ k h.li.lns d.nd hq,h.li.lin.keep kp n3.symm,h.li.het.keep kp n4.symm,h.li.bar.keep kp n5.symm,kp _ _ h.li.txt (.inl n6.symm)⟩⟩
theorem Mac.setBar {C : Addr} {ns : List Str} {c : Cf} {H : Hp} {p : Addr} {A : Adr} {m : Ms} {ys xs : List V} {l : List Mx} (h : Mac C ns c H p A m) (hy : H A.b = some (.lst ys)) (hx : Paired (Lan.zbn H) xs l) :
 Mac C ns c (upd H A.b (.lst xs)) p A { m with bar:=l }:=by
 have d:=zek h.nd
 have kp : Keep (fun b=>b ≠ A.b) H (upd H A.b (.lst xs)):=Keep.lst hy
 obtain ⟨zs,e1,e2⟩:=h.li.rows
 exact ⟨zgg h.ins hy,h.nd,⟨⟨zs,kp _ _ e1 (.inl d.cb),zbo kp e2⟩,kp _ _ h.li.lan (.inl d.Lb),zbl kp (fun a ha=>(d.ls a ha).2.2.2.2.1) h.li.lns,h.li.lin.keep kp d.lb,h.li.het.keep kp d.hb,⟨xs,upd_same,zbQ kp hx⟩,kp _ _ h.li.txt (.inl d.bt.symm)⟩⟩
theorem Mac.setTxt {C : Addr} {ns : List Str} {c : Cf} {H : Hp} {p : Addr} {A : Adr} {m : Ms} {ys : List V} {l : List Str} (h : Mac C ns c H p A m) (hy : H A.t = some (.lst ys)) :
 Mac C ns c (upd H A.t (.lst (l.map V.str))) p A { m with texts:=l }:=by
 have d:=zek h.nd
 have kp : Keep (fun b=>b ≠ A.t) H (upd H A.t (.lst (l.map V.str))):=Keep.lst hy
 obtain ⟨zs,e1,e2⟩:=h.li.rows
 exact ⟨zgg h.ins hy,h.nd,⟨⟨zs,kp _ _ e1 (.inl d.ct),zbo kp e2⟩,kp _ _ h.li.lan (.inl d.Lt),zbl kp (fun a ha=>(d.ls a ha).2.2.2.2.2) h.li.lns,h.li.lin.keep kp d.lt,h.li.het.keep kp d.ht,h.li.bar.keep kp d.bt,upd_same⟩⟩
theorem Mac.setLine {C : Addr} {ns : List Str} {c : Cf} {H : Hp} {p : Addr} {A : Adr} {m : Ms} {ys xs : List V} {l : List Part} (h : Mac C ns c H p A m) (hy : H A.l = some (.lst ys)) (hx : Paired (zbS H) xs l) :
 Mac C ns c (upd H A.l (.lst xs)) p A { m with line:=l }:=by
 have d:=zek h.nd
 have kp : Keep (fun b=>b ≠ A.l) H (upd H A.l (.lst xs)):=Keep.lst hy
 obtain ⟨zs,e1,e2⟩:=h.li.rows
 exact ⟨zgg h.ins hy,h.nd,⟨⟨zs,kp _ _ e1 (.inl d.cl),zbo kp e2⟩,kp _ _ h.li.lan (.inl d.Ll),zbl kp (fun a ha=>(d.ls a ha).2.2.1) h.li.lns,⟨xs,upd_same,zco kp hx⟩,h.li.het.keep kp d.lh.symm,h.li.bar.keep kp d.lb.symm,kp _ _ h.li.txt (.inl d.lt.symm)⟩⟩
def mxD (m : Mx) : PyData:=.tuple [.str m.1,.int m.2]
def zbU : Part -> PyData
 | none=>.str " "
 | some x=>mxD x
theorem zlm {K : PySem.W.Frag} {H : Hp} {v : V} {x : Mx} (h : Lan.zbn H v x) (hl : PyData.canLay0 (.str x.1) = true) : Den K H v (mxD x):=by
 obtain ⟨t,rfl,e⟩:=h
 exact .tup (SqT.of e) (.cons (.str _ hl) (.cons (.int _) .nil))
theorem zeG {K : PySem.W.Frag} {H : Hp} {v : V} {p : Part} (h : zbS H v p) (hl : ∀ x,p = some x -> PyData.canLay0 (.str x.1) = true) : Den K H v (zbU p):=by
 cases p with
 | none =>
   have h : v = .str " ":=h
   rw [h]
   exact .str _ (by decide +kernel)
 | some x=>exact zlm h (hl x rfl)
theorem zha {K : PySem.W.Frag} {H : Hp} : ∀ {xs : List V} {ms : List Mx},Paired (Lan.zbn H) xs ms -> (∀ m ∈ ms,PyData.canLay0 (.str m.1) = true) -> DenL K H xs (ms.map mxD)
 | _,_,.nil,_=>.nil
 | _,_,.cons h r,c=>.cons (zlm h (c _ List.mem_cons_self)) (zha r fun x hx=>c x (List.mem_cons_of_mem _ hx))
theorem zfB {K : PySem.W.Frag} {H : Hp} : ∀ {xs : List V} {ms : List Part},Paired (zbS H) xs ms -> (∀ x,some x ∈ ms -> PyData.canLay0 (.str x.1) = true) -> DenL K H xs (ms.map zbU)
 | _,_,.nil,_=>.nil
 | _,_,.cons h r,c=>.cons (zeG h fun x e=>c x (by rw [e]; exact List.mem_cons_self)) (zfB r fun x hx=>c x (List.mem_cons_of_mem _ hx))
theorem LnAt.den {K : PySem.W.Frag} {H : Hp} {a : Addr} {ms : List Mx} (h : LnAt H a ms) (hl : ∀ m ∈ ms,PyData.canLay0 (.str m.1) = true) : Den K H (.ref a) (.list (ms.map mxD)):=let ⟨_,e,z⟩:=h; .lst (SqL.of e) (zha z hl)
theorem zik.den {K : PySem.W.Frag} {H : Hp} {a : Addr} {ms : List Part} (h : zik H a ms) (hl : ∀ x,some x ∈ ms -> PyData.canLay0 (.str x.1) = true) : Den K H (.ref a) (.list (ms.map zbU)):=let ⟨_,e,z⟩:=h; .lst (SqL.of e) (zfB z hl)
theorem zaW {K : PySem.W.Frag} {H : Hp} {a : Addr} (h : H a = some (.lst [])) : Den K H (.ref a) (.list []):=.lst (SqL.of h) .nil
theorem zaV {α : Type} (f : α -> PyData) (l : List α) : PyData.eqv (.list (l.map f)) (.list []) = l.isEmpty:=by
 cases l with
 | nil=>rfl
 | cons a r=>rfl
theorem zaS (d : PyData) : min d.depth (PyData.list []).depth <= 64:=by
 have : (PyData.list []).depth = 1:=rfl
 omega
end Mc
namespace Mc
open PySem L2
theorem zdf {c : Cf} {m : Ms} (h : Cs.place c.rs (keyS c m) = none) : zbI c m = false:=by
 unfold zbI
 rw [h]
theorem zdZ {c : Cf} {m : Ms} {k : Nat} (h : Cs.place c.rs (keyS c m) = some k) : zbI c m = zdH m.lanes k:=by
 unfold zbI
 rw [h]
theorem zee {ls : List (List Mx)} {k : Nat} {l : List Mx} (h : ls[k]? = some l) : zdH ls k = l.isEmpty:=by
 unfold zdH
 rw [h]
theorem Mac.lane {C : Addr} {ns : List Str} {c : Cf} {H : Hp} {p : Addr} {A : Adr} {m : Ms} {k : Nat} (h : Mac C ns c H p A m) (O : Ok c m) (hk : k < c.rs.length) : ∃ q l,A.ls[k]? = some q /\ m.lanes[k]? = some l /\ LnAt H q l /\ atI (A.ls.map V.ref) (k : Int) = some (.ref q):=by
 have hl : k < m.lanes.length:=by rw [O.ln]; exact hk
 obtain ⟨q,hq,hln⟩:=Cs.zed h.li.lns (List.getElem?_eq_getElem hl)
 exact ⟨q,_,hq,List.getElem?_eq_getElem hl,hln,zaL (by rw [List.getElem?_map,hq]; rfl)⟩
theorem Ok.llay {c : Cf} {m : Ms} {k : Nat} {l : List Mx} (O : Ok c m) (h : m.lanes[k]? = some l) : ∀ x ∈ l,PyData.canLay0 (.str x.1) = true:=fun x hx=>(O.lm l (List.mem_of_getElem? h) x hx).1
theorem Ok.hlay {c : Cf} {m : Ms} (O : Ok c m) : ∀ x,some x ∈ m.heat -> PyData.canLay0 (.str x.1) = true:=fun x hx=>(O.hm x hx).1
theorem Ok.ilay {c : Cf} {m : Ms} (O : Ok c m) : ∀ x,some x ∈ m.line -> PyData.canLay0 (.str x.1) = true:=fun x hx=>(O.im x hx).1
theorem Ok.blay {c : Cf} {m : Ms} (O : Ok c m) : ∀ x ∈ m.bar,PyData.canLay0 (.str x.1) = true:=fun x hx=>(O.bm x hx).1
theorem Step.flds {H H' : Hp} {p C : Addr} {ns : List Str} {A : Adr} {vs vs' : List (Option V)} (h : zcA C ns H p vs) (h' : zcA C ns H' p vs') (k : ∀ b,b ≠ p -> H' b = H b) : Step p A H A H':=by
 obtain ⟨dx,fs,e,_⟩:=h
 obtain ⟨dx',fs',e',_⟩:=h'
 refine ⟨fun b o hb hs=>?_,fun b hb=>.inl hb,fun b o hb=>?_⟩
 ·rcases hs with ⟨hs,_⟩ | ⟨xs,z⟩
  ·rw [k b hs]
   exact hb
  ·subst z
   rw [k b (zbi hb e fun z=>by cases z)]
   exact hb
 ·by_cases z : b = p
  ·rw [z]
   exact ⟨_,e'⟩
  ·exact ⟨o,by rw [k b z]; exact hb⟩
theorem Mac.setF {C : Addr} {ns : List Str} {c : Cf} {H H' : Hp} {p : Addr} {A : Adr} {m m' : Ms} (h : Mac C ns c H p A m) (i : zcA C ns H' p (vals c A m')) (k : ∀ b,b ≠ p -> H' b = H b)
 (e1 : m'.lanes = m.lanes) (e2 : m'.line = m.line) (e3 : m'.heat = m.heat) (e4 : m'.bar = m.bar) (e5 : m'.texts = m.texts) : Mac C ns c H' p A m':=by
 refine Mac.fields h.ins i k ⟨h.li.rows,h.li.lan,?_,?_,?_,?_,?_⟩ h.nd
 ·rw [e1]; exact h.li.lns
 ·rw [e2]; exact h.li.lin
 ·rw [e3]; exact h.li.het
 ·rw [e4]; exact h.li.bar
 ·rw [e5]; exact h.li.txt
theorem zdK {H : Hp} {xs : List V} {ps : List Part} {i : Nat} {x : V} (h : Paired (zbS H) xs ps) (hx : xs[i]? = some x) : ∃ p,ps[i]? = some p /\ zbS H x p:=Cs.zaM h hx
theorem zdY {ps : List Part} {i : Nat} {p : Part} (h : ps[i]? = some p) : mats (ps.take (i + 1)) = mats (ps.take i) ++ p.toList:=by
 unfold mats
 rw [List.take_add_one,h,List.filterMap_append]
 cases p <;> rfl
theorem nd_h {A : Adr} {e : Addr} (n : A.all.Nodup) (h : e ∉ A.all) : ({ A with h:=e } : Adr).all.Nodup:=by
 unfold Adr.all at n h ⊢
 simp only [List.nodup_cons,List.mem_cons,not_or] at n h ⊢
 obtain ⟨⟨a1,a2,a3,a4,a5,a6⟩,⟨b1,b2,b3,b4,b5⟩,⟨c1,c2,c3,c4⟩,⟨d1,d2,d3⟩,⟨e1,e2⟩,f1,n⟩:=n
 obtain ⟨h1,h2,h3,h4,h5,h6,h7⟩:=h
 exact ⟨⟨a1,a2,Ne.symm h1,a4,a5,a6⟩,⟨b1,Ne.symm h2,b3,b4,b5⟩,⟨Ne.symm h3,c2,c3,c4⟩,⟨h5,h6,h7⟩,⟨e1,e2⟩,f1,n⟩
theorem nd_s {A : Adr} {e : Addr} (n : A.all.Nodup) (h : e ∉ A.all) : ({ A with h:=A.l,l:=e } : Adr).all.Nodup:=by
 unfold Adr.all at n h ⊢
 simp only [List.nodup_cons,List.mem_cons,not_or] at n h ⊢
 obtain ⟨⟨a1,a2,a3,a4,a5,a6⟩,⟨b1,b2,b3,b4,b5⟩,⟨c1,c2,c3,c4⟩,⟨d1,d2,d3⟩,⟨e1,e2⟩,f1,n⟩:=n
 obtain ⟨h1,h2,h3,h4,h5,h6,h7⟩:=h
 exact ⟨⟨a1,Ne.symm h1,a2,a4,a5,a6⟩,⟨Ne.symm h2,b1,b3,b4,b5⟩,⟨h3,h5,h6,h7⟩,⟨c2,c3,c4⟩,⟨e1,e2⟩,f1,n⟩
theorem Mac.new {C : Addr} {ns : List Str} {c : Cf} {H : Hp} {p : Addr} {A : Adr} {m : Ms} {e : Addr} (h : Mac C ns c H p A m) (he : H e = none) : e ∉ A.all:=fun z=>by
 obtain ⟨xs,ex⟩:=h.li.is e z
 rw [he] at ex
 cases ex
theorem zfF {c : Cf} {l : List Part} (h : ∀ x,some x ∈ l -> OkM c x) (hl : l.length <= 100000) : ((l.map zaX).map (·.length)).sum + (l.map zaX).length * (Str.ofString "").length <= 16777216:=by
 have h1:=Lns.zeM (fun x : Str=>x.length) 1 100000 (l.map zaX) (fun x hx=>by
  obtain ⟨p,hp,rfl⟩:=List.mem_map.mp hx
  cases p with
  | none=>exact Nat.le_refl 1
  | some x=>exact (h x hp).2.1) (by rw [List.length_map]; exact hl)
 have e : (Str.ofString "").length = 0:=by decide
 rw [e,Nat.mul_zero]
 have h1 : ((l.map zaX).map (·.length)).sum <= 100000 * 1:=h1
 omega
theorem zgf : PyData.eqv (.str " ") (.str " ") = true:=by decide +kernel
theorem Step.free {p : Addr} {A A' : Adr} {H H' : Hp} {b : Addr} (s : Step p A H A' H') (h : H' b = none) : H b = none:=by
 cases e : H b with
 | none=>rfl
 | some o =>
   obtain ⟨o',e'⟩:=s.al b o e
   rw [h] at e'
   cases e'
theorem Step.to {p : Addr} {A A1 A' : Adr} {H H' : Hp} (s : Step p A H A1 H') (h : ∀ b ∈ A'.all,b ∈ A1.all \/ H b = none) : Step p A H A' H':=⟨s.fr,fun b hb=>(h b hb).elim (s.nw b) .inr,s.al⟩
theorem zpg {A : Adr} {e : Addr} {H : Hp} (he : H e = none) : ∀ b ∈ ({ A with h:=e } : Adr).all,b ∈ A.all \/ H b = none:=by
 intro b hb
 unfold Adr.all at hb ⊢
 simp only [List.mem_cons] at hb ⊢
 rcases hb with rfl | rfl | rfl | rfl | rfl | rfl | hb
 ·exact .inl (.inl rfl)
 ·exact .inl (.inr (.inl rfl))
 ·exact .inl (.inr (.inr (.inl rfl)))
 ·exact .inr he
 ·exact .inl (.inr (.inr (.inr (.inr (.inl rfl)))))
 ·exact .inl (.inr (.inr (.inr (.inr (.inr (.inl rfl))))))
 ·exact .inl (.inr (.inr (.inr (.inr (.inr (.inr hb))))))
theorem zqD {A : Adr} {e : Addr} {H : Hp} (he : H e = none) : ∀ b ∈ ({ A with h:=A.l,l:=e } : Adr).all,b ∈ A.all \/ H b = none:=by
 intro b hb
 unfold Adr.all at hb ⊢
 simp only [List.mem_cons] at hb ⊢
 rcases hb with rfl | rfl | rfl | rfl | rfl | rfl | hb
 ·exact .inl (.inl rfl)
 ·exact .inl (.inr (.inl rfl))
 ·exact .inr he
 ·exact .inl (.inr (.inr (.inl rfl)))
 ·exact .inl (.inr (.inr (.inr (.inr (.inl rfl)))))
 ·exact .inl (.inr (.inr (.inr (.inr (.inr (.inl rfl))))))
 ·exact .inl (.inr (.inr (.inr (.inr (.inr (.inr hb))))))
theorem sgD {c d : Nat} : decide (V.str (sg c) = V.str (sg d)) = decide (c = d):=by
 rw [Cs.strV,decide_eq_decide]
 refine ⟨fun h=>?_,fun h=>by rw [h]⟩
 have h : (#[c] : Array Nat) = #[d]:=congrArg Str.cps h
 simpa using h
theorem zlg {c : Cf} {m : Ms} {k : Nat} (h : key c m = some k) : keyS c m = sg k:=by
 unfold keyS
 rw [h]
theorem zkZ {c : Cf} {m : Ms} (h : key c m = none) : keyS c m = "":=by
 unfold keyS
 rw [h]
def zaQ (rs : List Cs.Row) : List (List Mx):=rs.map fun r=>List.replicate r.n.toNat (r.s,r.t)
def start (rs : List Cs.Row) : Ms:=⟨zaQ rs,[],[],0,[],[],0,0,0⟩
theorem zfH {H0 H : Hp} {no : Addr} {zs : List V} {ms : List (List Mx)} (h : Paired (Lan.zbZ H0 no H) zs ms) (hn : zs.Nodup) : ∃ ls : List Addr,zs = ls.map V.ref /\ Paired (LnAt H) ls ms /\ (no :: ls).Nodup /\ ∀ z ∈ ls,H0 z = none:=by
 induction h with
 | nil=>exact ⟨[],rfl,.nil,by simp,fun z hz=>nomatch hz⟩
 | cons x t ih =>
   obtain ⟨p,xs,e,n,f,z,m⟩:=x
   obtain ⟨hn1,hn2⟩:=List.nodup_cons.mp hn
   obtain ⟨ls,e2,h2,h3,h4⟩:=ih hn2
   obtain ⟨h31,h32⟩:=List.nodup_cons.mp h3
   refine ⟨p :: ls,by rw [e,e2]; rfl,.cons ⟨xs,z,m⟩ h2,?_,fun y hy=>?_⟩
   ·rw [List.nodup_cons,List.nodup_cons]
    refine ⟨fun hz=>?_,fun hz=>?_,h32⟩
    ·rcases List.mem_cons.mp hz with hz | hz
     ·exact n hz.symm
     ·exact h31 hz
    ·rw [e,e2] at hn1
     exact hn1 (List.mem_map_of_mem hz)
   ·rcases List.mem_cons.mp hy with hy | hy
    ·rw [hy]; exact f
    ·exact h4 y hy
def Off (p : Addr) (H H' : Hp) : Prop:=∀ b o,b ≠ p -> H b = some o -> H' b = some o
theorem Off.of_same {p : Addr} {H H' : Hp} (s : Same H H') : Off p H H':=fun b o _ h=>s b o h
theorem Off.of_fld {p : Addr} {H H' : Hp} (k : ∀ b,b ≠ p -> H' b = H b) : Off p H H':=fun b o hb h=>(k b hb).trans h
theorem Off.trans {p : Addr} {H H1 H2 : Hp} (a : Off p H H1) (b : Off p H1 H2) : Off p H H2:=fun x o hx h=>b x o hx (a x o hx h)
theorem Off.free {p C : Addr} {ns : List Str} {vs : List (Option V)} {H H' : Hp} {b : Addr} (o : Off p H H') (i : zcA C ns H' p vs) (h : H' b = none) : H b = none:=by
 cases e : H b with
 | none=>rfl
 | some x =>
   have hb : b ≠ p:=fun z=>by
    obtain ⟨dx,fs,e',_⟩:=i
    rw [z,e'] at h
    cases h
   rw [o b x hb e] at h
   cases h
theorem Off.keep {p C : Addr} {ns : List Str} {vs : List (Option V)} {H H' : Hp} (i : zcA C ns H p vs) (o : Off p H H') : Keep (fun b=>b ≠ p) H H':=fun b u hb hs=>by
 obtain ⟨dx,fs,e,_⟩:=i
 rcases hs with hs | ⟨xs,z⟩
 ·exact o b u hs hb
 ·subst z
  exact o b _ (zbi hb e fun z=>by cases z) hb
theorem zfU {p C q : Addr} {ns : List Str} {vs : List (Option V)} {H : Hp} {xs : List V} (i : zcA C ns H p vs) (h : H q = some (.lst xs)) : q ≠ p:=by
 obtain ⟨dx,fs,e,_⟩:=i
 exact zbi h e fun z=>by cases z
theorem zeb {p C q : Addr} {ns : List Str} {vs : List (Option V)} {H : Hp} (i : zcA C ns H p vs) (h : H q = none) : q ≠ p:=fun e=>by
 obtain ⟨dx,fs,e',_⟩:=i
 rw [e,e'] at h
 cases h
def Wd (rs : List Cs.Row) (m : Nat) (x : Str) : Prop:=1 <= x.length /\ x.length <= m /\ ∀ c ∈ x.cps.toList,c ∈ Cs.signs /\ (Cs.place rs (sg c)).isSome = true
theorem zbt : ∀ c ∈ Cs.signs,Lns.isS c = true /\ c < 0x110000 /\ c ≠ 47 /\ c ≠ 32:=by decide +kernel
theorem Wd.settable {rs : List Cs.Row} {m : Nat} {x : Str} (h : Wd rs m x) : Lns.zcW rs x:=⟨h.1,fun c hc=>⟨(zbt c (h.2.2 c hc).1).1,(h.2.2 c hc).2⟩⟩
theorem Wd.lay {rs : List Cs.Row} {m : Nat} {x : Str} (h : Wd rs m x) : PyData.canLay0 (.str x) = true:=by
 show (x.cps.all fun c=>decide (c < 0x110000)) = true
 rw [<- Array.all_toList,List.all_eq_true]
 exact fun c hc=>decide_eq_true (zbt c (h.2.2 c hc).1).2.1
structure Lines (rs : List Cs.Row) (ls : List (List Str)) : Prop where
 few : ls.length <= 64
 one : ∀ l ∈ ls,l ≠ [] /\ l.length <= 63 /\ ∀ x ∈ l,Wd rs 5 x
theorem Lines.fit {rs : List Cs.Row} {ls : List (List Str)} (h : Lines rs ls) : Lns.Fit ls:=by
 have hf:=h.few
 refine ⟨by omega,fun l hl=>?_⟩
 obtain ⟨_,h2,h3⟩:=h.one l hl
 exact ⟨by omega,fun x hx=>by have:=(h3 x hx).2.1; omega⟩
theorem Lines.ok {rs : List Cs.Row} {ls : List (List Str)} (h : Lines rs ls) : ∀ l ∈ ls,l ≠ [] /\ ∀ x ∈ l,Lns.zcW rs x:=fun l hl=>⟨(h.one l hl).1,fun x hx=>((h.one l hl).2.2 x hx).settable⟩
def zfq (ms : List Mx) : PyData:=.list (ms.map mxD)
theorem zcN {α : Type} (f : α -> PyData) (n : Nat) (h : ∀ a,(f a).depth <= n) : ∀ l : List α,PyData.depthAll (l.map f) <= n
 | []=>Nat.zero_le _
 | a :: l=>Nat.max_le.mpr ⟨h a,zcN f n h l⟩
theorem zgF (x : Mx) : (mxD x).depth <= 1:=Nat.le_refl _
theorem zfE (x : Part) : (zbU x).depth <= 1:=by
 cases x with
 | none=>exact Nat.zero_le _
 | some x=>exact zgF x
theorem zjR (x : List Mx) : (zfq x).depth <= 2:=by
 have h1 : (zfq x).depth = PyData.depthAll (x.map mxD) + 1:=rfl
 have h2:=zcN mxD 1 zgF x
 omega
theorem zix (x : List (List Mx)) (e : PyData) : min (PyData.list (x.map zfq)).depth e.depth <= 64:=by
 have h1 : (PyData.list (x.map zfq)).depth = PyData.depthAll (x.map zfq) + 1:=rfl
 have h2:=zcN zfq 2 zjR x
 omega
theorem zgC {K : PySem.W.Frag} {H : Hp} : ∀ {ls : List Addr} {ms : List (List Mx)},Paired (LnAt H) ls ms -> (∀ l ∈ ms,∀ m ∈ l,PyData.canLay0 (.str m.1) = true) -> DenL K H (ls.map V.ref) (ms.map zfq)
 | _,_,.nil,_=>.nil
 | _,_,.cons h r,c=>.cons (h.den (c _ List.mem_cons_self)) (zgC r fun x hx=>c x (List.mem_cons_of_mem _ hx))
theorem Ok.llays {c : Cf} {m : Ms} (O : Ok c m) : ∀ l ∈ m.lanes,∀ x ∈ l,PyData.canLay0 (.str x.1) = true:=fun l hl x hx=>(O.lm l hl x hx).1
theorem zcu {K : PySem.W.Frag} {H : Hp} {v : V} {d : PyData} (h : Den K H v d) : PyData.eqv d d = true:=PySem.SeqAt.eqv_refl d (zei d v h)
structure Sep (p : Addr) (A : Adr) (q : Addr) (B : Adr) : Prop where
 pq : p ≠ q
 pB : p ∉ B.all
 qA : q ∉ A.all
 AB : ∀ a ∈ A.all,a ∉ B.all
theorem Sep.symm {p q : Addr} {A B : Adr} (h : Sep p A q B) : Sep q B p A:=⟨h.pq.symm,h.qA,h.pB,fun a ha hb=>h.AB a hb ha⟩
theorem Mac.has {C : Addr} {ns : List Str} {c : Cf} {H : Hp} {p : Addr} {A : Adr} {m : Ms} (h : Mac C ns c H p A m) : (∃ o,H p = some o) /\ ∀ a ∈ A.all,∃ o,H a = some o:=by
 refine ⟨?_,fun a ha=>?_⟩
 ·obtain ⟨dx,fs,e,_⟩:=h.ins
  exact ⟨_,e⟩
 ·obtain ⟨xs,e⟩:=h.li.is a ha
  exact ⟨_,e⟩
theorem Sep.step {C : Addr} {ns : List Str} {c : Cf} {H H' : Hp} {p q : Addr} {A A' B : Adr} {m : Ms} (h : Sep p A q B) (s : Step p A H A' H') (M : Mac C ns c H q B m) : Sep p A' q B:=by
 obtain ⟨⟨oq,hq⟩,hB⟩:=M.has
 refine ⟨h.pq,h.pB,fun z=>?_,fun a ha hb=>?_⟩
 ·rcases s.nw q z with z | z
  ·exact h.qA z
  ·rw [hq] at z
   cases z
 ·rcases s.nw a ha with z | z
  ·exact h.AB a z hb
  ·obtain ⟨o,e⟩:=hB a hb
   rw [e] at z
   cases z
theorem Mac.other {C : Addr} {ns : List Str} {c : Cf} {H H' : Hp} {p q : Addr} {A A' B : Adr} {m : Ms} (M : Mac C ns c H q B m) (h : Sep p A q B) (s : Step p A H A' H') : Mac C ns c H' q B m :=
 M.apart (C':=C) s h.pq.symm h.qA fun a ha=>⟨fun e=>h.pB (e ▸ ha),fun z=>h.AB a z ha⟩
structure Rows (rs : List Cs.Row) : Prop where
 few : rs.length <= 30
 sg : ∀ r ∈ rs,∃ c ∈ Cs.signs,r.s = L2.sg c
 th : ∀ r ∈ rs,0 <= r.t /\ r.t < 128
 mn : ∀ r ∈ rs,0 <= r.n /\ r.n <= 40
theorem Rows.none {rs : List Cs.Row} (R : Rows rs) {x : Str} (h : ∀ c ∈ Cs.signs,L2.sg c ≠ x) : Cs.place rs x = Option.none:=Cs.zfw fun j r _ hr=>by
 obtain ⟨c,hc,e⟩:=R.sg r (List.mem_of_getElem? hr)
 rw [e]
 exact h c hc
theorem zjK {c d : Nat} (h : L2.sg c = L2.sg d) : c = d:=by
 have h : (#[c] : Array Nat) = #[d]:=congrArg Str.cps h
 simpa using h
theorem Rows.sign {rs : List Cs.Row} (R : Rows rs) {k : Nat} (h : (Cs.place rs (L2.sg k)).isSome = true) : k ∈ Cs.signs:=by
 obtain ⟨j,hj⟩:=Option.isSome_iff_exists.mp h
 obtain ⟨r,hr,e⟩:=Cs.zhN hj
 obtain ⟨c,hc,e2⟩:=R.sg r (List.mem_of_getElem? hr)
 rw [e] at e2
 rw [zjK e2]
 exact hc
theorem Rows.okC {rs : List Cs.Row} (R : Rows rs) {ls : List (List Str)} {z : Int} (hk : (Lns.keyT ls).length <= 90000) (hs : ∀ l ∈ ls,l ≠ [] /\ ∀ x ∈ l,Lns.zcW rs x) (hz : 1 <= z) : OkC ⟨rs,Lns.keyT ls,z⟩:=by
 have ok : Lns.zbp rs false (Lns.keyT ls).cps.toList = true:=Lns.ziS hs
 have kn : ∀ k ∈ (Lns.keyT ls).cps.toList,k = 47 \/ k = 32 \/ ((Cs.place rs (L2.sg k)).isSome = true /\ k ≠ 47 /\ k ≠ 32):=fun k hk=>by
  obtain ⟨i,hi,e⟩:=List.getElem_of_mem hk
  have h:=Lns.zkY ok i k (by rw [List.getElem?_eq_getElem hi,e])
  by_cases h1 : k = 47
  ·exact .inl h1
  by_cases h2 : k = 32
  ·exact .inr (.inl h2)
  have hs : Lns.isS k = true:=by
   unfold Lns.isS
   rw [decide_eq_false h1,decide_eq_false h2]
   rfl
  rw [if_pos hs] at h
  exact .inr (.inr ⟨h,h1,h2⟩)
 refine ⟨R.few,hk,kn,?_,⟨R.none fun c hc e=>?_,R.none fun c hc e=>?_,R.none fun c hc e=>?_⟩,hz,R.th,?_⟩
 ·by_cases e : ls = []
  ·rw [e]
   exact .inl rfl
  ·exact .inr (Lns.zjo ls e)
 ·exact (zbt c hc).2.2.1 (zjK e)
 ·exact (zbt c hc).2.2.2 (zjK e)
 ·cases e
 ·show ((Lns.keyT ls).cps.all fun c=>decide (c < 0x110000)) = true
  rw [<- Array.all_toList,List.all_eq_true]
  intro k hk
  refine decide_eq_true ?_
  rcases kn k hk with h | h | ⟨h,_,_⟩
  ·omega
  ·omega
  ·exact (zbt k (R.sign h)).2.1
theorem zlC {cs : List Int} {t : Int} (h : t ∈ cs) : ∃ k,Mt.zce cs t = some k /\ k < cs.length:=by
 cases e : Mt.zce cs t with
 | none =>
   unfold Mt.zce at e
   rw [List.findIdx?_eq_none_iff] at e
   have:=e t h
   rw [Mt.zjp] at this
   cases this
 | some k =>
   refine ⟨k,rfl,?_⟩
   unfold Mt.zce at e
   obtain ⟨hi,_⟩:=List.findIdx?_eq_some_iff_getElem.mp e
   exact hi
theorem Rows.okM {rs : List Cs.Row} (R : Rows rs) {c : Cf} (hc : c.rs = rs) {r : Cs.Row} (h : r ∈ rs) : OkM c (r.s,r.t):=by
 obtain ⟨d,hd,e⟩:=R.sg r h
 obtain ⟨h1,h2⟩:=R.th r h
 obtain ⟨k,hk,hkl⟩:=zlC (cs:=c.rs.map fun r=>r.t) (t:=r.t) (by rw [hc]; exact List.mem_map_of_mem h)
 refine ⟨?_,?_,h1,h2,k,hk,by rw [List.length_map] at hkl; exact hkl⟩
 ·show PyData.canLay0 (.str r.s) = true
  rw [e]
  exact Cs.zkK d hd
 ·show r.s.length <= 1
  rw [e]
  exact Nat.le_refl _
theorem zjV {rs : List Cs.Row} (h : ∀ r ∈ rs,0 <= r.n /\ r.n <= 40) : ((zaQ rs).map List.length).sum <= rs.length * 40:=by
 unfold zaQ
 rw [List.map_map]
 refine Lns.zjs (List.length ∘ fun r : Cs.Row=>List.replicate r.n.toNat (r.s,r.t)) 40 rs fun r hr=>?_
 show (List.replicate r.n.toNat (r.s,r.t)).length <= 40
 rw [List.length_replicate]
 have:=h r hr
 omega
theorem Rows.ok {rs : List Cs.Row} (R : Rows rs) {c : Cf} (hc : c.rs = rs) (O : OkC c) : Ok c (start rs):=by
 have hf:=R.few
 refine ⟨O,?_,fun l hl x hx=>?_,(fun x hx=>nomatch hx),(fun x hx=>nomatch hx),(fun x hx=>nomatch hx),Nat.zero_le _,fun _=>rfl,?_,Nat.le_refl _,(fun x hx=>nomatch hx),fun z=>absurd rfl z⟩
 ·show (zaQ rs).length = c.rs.length
  unfold zaQ
  rw [List.length_map,hc]
 ·obtain ⟨r,hr,rfl⟩:=List.mem_map.mp hl
  rw [List.eq_of_mem_replicate hx]
  exact R.okM hc hr
 ·have h:=zjV R.mn
  show ((zaQ rs).map List.length).sum + 0 + 0 + 0 <= 2000 + 0
  omega
theorem zlL {rs : List Cs.Row} {l : List Str} {n : Nat} (h1 : l.length <= n) (h2 : ∀ x ∈ l,Wd rs 5 x) : (Lns.zbz l).length <= n * 6:=by
 have a:=Lns.zeM (fun x : Str=>x.length) 5 n l (fun x hx=>(h2 x hx).2.1) h1
 have a : (l.map (·.length)).sum <= n * 5:=a
 have b:=StrLaws.join_length_le " " l
 have e : (Str.ofString " ").length = 1:=by decide
 unfold Lns.zbz Txt.join
 rw [StrLaws.glued_eq_join]
 have b : (Str.join " " l).length <= (l.map (·.length)).sum + l.length * (Str.ofString " ").length:=b
 rw [e] at b
 omega
theorem zhh {rs : List Cs.Row} {n : Nat} : ∀ {ls : List (List Str)},(∀ l ∈ ls,l.length <= n /\ ∀ x ∈ l,Wd rs 5 x) -> (Lns.keyT ls).length <= ls.length * (n * 6 + 1)
 | [],_=>Nat.le_trans (Nat.le_of_eq (show (Str.ofString "").length = 0 by decide)) (Nat.zero_le _)
 | l :: r,h=>by
   obtain ⟨h1,h2⟩:=h l List.mem_cons_self
   have a:=zlL h1 h2
   have b:=zhh fun l hl=>h l (List.mem_cons_of_mem _ hl)
   show (Lns.zbz l ++ "/" ++ Lns.keyT r).length <= _
   rw [Str.length_append,Str.length_append,List.length_cons,Nat.succ_mul]
   have e : ("/" : Str).length = 1:=by decide
   omega
theorem Lines.short {rs : List Cs.Row} {ls : List (List Str)} (h : Lines rs ls) : (Lns.keyT ls).length <= 90000:=by
 have a:=zhh (n:=63) fun l hl=>(h.one l hl).2
 have b:=h.few
 have c : ls.length * (63 * 6 + 1) <= 64 * (63 * 6 + 1):=Nat.mul_le_mul_right _ b
 omega
theorem Step.list {C : Addr} {ns : List Str} {c : Cf} {H H' : Hp} {p X : Addr} {A A' : Adr} {m : Ms} {ys : List V} (s : Step p A H A' H') (M : Mac C ns c H p A m) (h : H X = some (.lst ys)) (n : X ∉ A.all) : H' X = some (.lst ys) /\ X ∉ A'.all:=by
 refine ⟨s.fr X _ h (.inl ⟨zfU M.ins h,n⟩),fun z=>?_⟩
 rcases s.nw X z with z | z
 ·exact n z
 ·rw [h] at z
  cases z
theorem zkv {C dx p : Addr} {H H' : Hp} (hp : H p = none) (hd : H dx = none) (o : Off p (upd (upd H dx (.own p)) p (.ins C dx [])) H') : Same H H':=fun b u hb=>by
 have n1:=zay hb hp
 exact o b u n1 (by rw [zai n1,zai (zay hb hd)]; exact hb)
theorem zmq {C dx p b : Addr} {H : Hp} (hp : H p = none) (hd : H dx = none) (h : upd (upd H dx (.own p)) p (.ins C dx []) b = none) : H b = none:=by
 cases e : H b with
 | none=>rfl
 | some u =>
   rw [zai (zay e hp),zai (zay e hd),e] at h
   cases h
theorem ix0 (v : V) (vs : List V) : seqIndex? 0 (v :: vs).length = some 0:=by
 have h : decide ((0 : Int) < ((v :: vs).length : Int)) = true:=decide_eq_true (by rw [List.length_cons]; omega)
 show (if (decide ((0 : Int) <= 0) && decide ((0 : Int) < ((v :: vs).length : Int))) = true then some (Int.toNat 0) else none) = some 0
 rw [h]
 rfl
end Mc
namespace Mc
open PySem L2
structure Rt (c : Cf) : Prop where
 fl : ∀ (j : Nat) r,c.rs[j]? = some r -> Mt.zce (c.rs.map fun r=>r.t) r.t = some j
 pl : ∀ (j : Nat) r,c.rs[j]? = some r -> Cs.place c.rs r.s = some j
 sg : ∀ r ∈ c.rs,∃ k ∈ Cs.signs,r.s = L2.sg k
 gd : Lns.zbp c.rs false c.keys.cps.toList = true
def out (m : Ms) (x : Mx) : Nat:=(mats m.line).count x + (mats m.heat).count x + m.bar.count x
def flat (ts : List (List Nat)) : List Nat:=ts.flatMap fun t=>t ++ [47]
def cps (t : Str) : List Nat:=t.cps.toList
def hot (m : Ms) : List Nat:=if m.heat.isEmpty = true then [] else cps (textOf m.heat) ++ [47]
def Own (c : Cf) (x : Mx) : Prop:=∃ (j : Nat) (r : Cs.Row),c.rs[j]? = some r /\ x = (r.s,r.t)
structure Gd (c : Cf) (m : Ms) : Prop where
 ow : ∀ (j : Nat) l,m.lanes[j]? = some l -> ∃ r,c.rs[j]? = some r /\ ∀ x ∈ l,x = (r.s,r.t)
 il : ∀ x ∈ mats m.line,Own c x
 ih : ∀ x ∈ mats m.heat,Own c x
 ib : ∀ x ∈ m.bar,Own c x
 ct : ∀ (j : Nat) r l,c.rs[j]? = some r -> m.lanes[j]? = some l -> l.length + out m (r.s,r.t) = r.n.toNat
 tx : flat (m.texts.map cps) ++ hot m ++ cps (textOf m.line) = c.keys.cps.toList.take m.at_
 lm : ∀ t ∈ m.texts,∀ r ∈ c.rs,∀ k,r.s = L2.sg k -> (cps t).count k <= r.n.toNat
 pn : ∀ t ∈ m.texts,47 ∉ cps t
theorem zeC (l : List Part) : cps (textOf l) = l.flatMap fun p=>cps (zaX p):=by
 unfold textOf
 induction l with
 | nil=>rfl
 | cons p r ih =>
   have e : Txt.join "" ((p :: r).map zaX) = zaX p ++ Txt.join "" (r.map zaX):=zfS _ _
   rw [e]
   show (zaX p ++ Txt.join "" (r.map zaX)).cps.toList = _
   have e2 : (zaX p ++ Txt.join "" (r.map zaX)).cps.toList = (zaX p).cps.toList ++ (Txt.join "" (r.map zaX)).cps.toList:=Array.toList_append
   rw [e2,List.flatMap_cons]
   show _ ++ cps (Txt.join "" (r.map zaX)) = _
   rw [ih]
   rfl
theorem ziY (l : List Part) (p : Part) : cps (textOf (l ++ [p])) = cps (textOf l) ++ cps (zaX p):=by
 rw [zeC,zeC,List.flatMap_append]
 simp
theorem zmx (k : Nat) : cps (L2.sg k) = [k]:=rfl
theorem zna {c : Cf} (R : Rt c) {r r' : Cs.Row} {j j' : Nat} (h : c.rs[j]? = some r) (h' : c.rs[j']? = some r') (e : r'.s = r.s) : r' = r:=by
 have h1:=R.pl j r h
 have h2:=R.pl j' r' h'
 rw [e,h1] at h2
 cases h2
 rw [h] at h'
 exact (Option.some.inj h').symm
theorem zeR (p : Part) (l : List Part) : mats (p :: l) = p.toList ++ mats l:=by
 unfold mats
 cases p <;> rfl
theorem zjA {c : Cf} (R : Rt c) {r : Cs.Row} {j k : Nat} (h : c.rs[j]? = some r) (hk : r.s = L2.sg k) : ∀ {l : List Part},(∀ x ∈ mats l,Own c x) -> (cps (textOf l)).count k = (mats l).count (r.s,r.t)
 | [],_=>rfl
 | p :: l,hl=>by
   have ih:=zjA R h hk (l:=l) fun x hx=>hl x (by rw [zeR]; exact List.mem_append_right _ hx)
   rw [zeC] at ih ⊢
   rw [List.flatMap_cons,List.count_append,ih,zeR,List.count_append]
   congr 1
   obtain ⟨d,hd,ed⟩:=R.sg r (List.mem_of_getElem? h)
   have ekd : k = d:=zjK (hk.symm.trans ed)
   have hkp:=zbt d hd
   cases p with
   | none =>
     show List.count k [32] = 0
     rw [List.count_eq_zero]
     intro z
     rw [List.mem_singleton] at z
     exact hkp.2.2.2 (ekd ▸ z)
   | some x =>
     obtain ⟨j',r',h',e⟩:=hl x (by rw [zeR]; exact List.mem_append_left _ (by simp))
     subst e
     obtain ⟨d',_,e'⟩:=R.sg r' (List.mem_of_getElem? h')
     show List.count k (cps r'.s) = List.count (r.s,r.t) [(r'.s,r'.t)]
     rw [e',zmx]
     by_cases ek : k = d'
     ·have es : r'.s = r.s:=by rw [e',hk,ek]
      have er:=zna R h h' es
      rw [<- e',er,ek]
      simp
     ·have hne : ¬ (L2.sg d',r'.t) = (r.s,r.t):=fun z=>by
       have z1:=congrArg Prod.fst z
       rw [hk] at z1
       exact ek (zjK z1).symm
      rw [List.count_eq_zero.mpr (fun z=>ek (List.mem_singleton.mp z)),List.count_eq_zero.mpr (fun z=>hne (List.mem_singleton.mp z).symm)]
theorem zmm {c : Cf} (R : Rt c) {l : List Part} (h : ∀ x ∈ mats l,Own c x) : 47 ∉ cps (textOf l):=by
 rw [zeC]
 intro z
 obtain ⟨p,hp,hz⟩:=List.mem_flatMap.mp z
 cases p with
 | none =>
   have hz : 47 ∈ ([32] : List Nat):=hz
   exact absurd hz (by decide)
 | some x =>
   obtain ⟨j,r,hr,e⟩:=h x (List.mem_filterMap.mpr ⟨some x,hp,rfl⟩)
   subst e
   obtain ⟨d,hd,ed⟩:=R.sg r (List.mem_of_getElem? hr)
   have hz : 47 ∈ cps r.s:=hz
   rw [ed,zmx,List.mem_singleton] at hz
   exact (zbt d hd).2.2.1 hz.symm
theorem zkB {m : Ms} {x y : Mx} {r : List Mx} (h : m.bar = y :: r) : out m x = out { m with bar:=r } x + (if y = x then 1 else 0):=by
 unfold out
 rw [h,List.count_cons]
 show _ + (List.count x r + if (y == x) = true then 1 else 0) = (mats m.line).count x + (mats m.heat).count x + r.count x + _
 by_cases e : y = x
 ·rw [if_pos e,if_pos (by rw [e]; exact beq_self_eq_true x)]
  omega
 ·rw [if_neg e,if_neg (fun z=>e (beq_iff_eq.mp z))]
  omega
theorem zgt {ls : List (List Mx)} {i j : Nat} {v l : List Mx} (h : (ls.set j v)[i]? = some l) : (i = j /\ l = v) \/ (i ≠ j /\ ls[i]? = some l):=by
 rw [List.getElem?_set] at h
 by_cases e : j = i
 ·rw [if_pos e] at h
  split at h
  ·exact .inl ⟨e.symm,(Option.some.inj h).symm⟩
  ·cases h
 ·rw [if_neg e] at h
  exact .inr ⟨fun z=>e z.symm,h⟩
theorem Gd.fall {c : Cf} {m : Ms} (R : Rt c) (O : Ok c m) (g : Gd c m) : Gd c (fall c m):=by
 unfold Mc.fall
 cases hb : m.bar with
 | nil=>exact g
 | cons x r =>
   obtain ⟨j,q,hq,ex⟩:=g.ib x (by rw [hb]; exact List.mem_cons_self)
   have hfl:=R.fl j q hq
   have e2 : x.2 = q.t:=by rw [ex]
   show Gd c (match Mt.zce (c.rs.map fun r=>r.t) x.2 with
    | some k=>{ m with bar:=r,lanes:=zcs m.lanes k x }
    | none=>m)
   rw [e2,hfl]
   show Gd c { m with bar:=r,lanes:=zcs m.lanes j x }
   have hjl : j < m.lanes.length:=by rw [O.ln]; exact (List.getElem?_eq_some_iff.mp hq).1
   have hg : m.lanes[j]? = some m.lanes[j]:=List.getElem?_eq_getElem hjl
   have ea : zcs m.lanes j x = m.lanes.set j (m.lanes[j] ++ [x]):=by unfold zcs; rw [hg]
   rw [ea]
   refine ⟨?_,g.il,g.ih,fun y hy=>g.ib y (by rw [hb]; exact List.mem_cons_of_mem _ hy),?_,g.tx,g.lm,g.pn⟩
   ·intro i l hl
    rcases zgt hl with ⟨rfl,rfl⟩ | ⟨hne,hl⟩
    ·obtain ⟨q',hq',ho⟩:=g.ow i _ hg
     rw [hq] at hq'
     cases hq'
     refine ⟨q,hq,fun y hy=>?_⟩
     rcases List.mem_append.mp hy with hy | hy
     ·exact ho y hy
     ·rw [List.mem_singleton.mp hy]
      exact ex
    ·exact g.ow i l hl
   ·intro i q' l hq' hl
    rcases zgt hl with ⟨rfl,rfl⟩ | ⟨hne,hl⟩
    ·rw [hq] at hq'
     cases hq'
     have h1:=g.ct i q _ hq hg
     rw [zkB (x:=(q.s,q.t)) hb,if_pos ex] at h1
     rw [List.length_append]
     show m.lanes[i].length + 1 + out { m with bar:=r } (q.s,q.t) = _
     omega
    ·have h1:=g.ct i q' l hq' hl
     rw [zkB (x:=(q'.s,q'.t)) hb,if_neg (fun z=>?_)] at h1
     ·exact h1
     ·rw [ex] at z
      have z1:=congrArg Prod.fst z
      have h2:=R.pl j q hq
      rw [show q.s = q'.s from z1,R.pl i q' hq'] at h2
      exact hne (Option.some.inj h2)
theorem Gd.cool {c : Cf} {m : Ms} (R : Rt c) (O : Ok c m) (g : Gd c m) : Gd c (cool m):=by
 unfold Mc.cool
 split
 ·exact g
 ·rename_i he
  split
  ·refine ⟨g.ow,g.il,(fun x hx=>nomatch hx),?_,?_,?_,?_,?_⟩
   ·intro x hx
    rcases List.mem_append.mp hx with hx | hx
    ·exact g.ib x hx
    ·exact g.ih x hx
   ·intro j r l hr hl
    have h1:=g.ct j r l hr hl
    unfold out at h1 ⊢
    show l.length + ((mats m.line).count (r.s,r.t) + 0 + (m.bar ++ mats m.heat).count (r.s,r.t)) = _
    rw [List.count_append]
    omega
   ·have h1:=g.tx
    unfold hot at h1 ⊢
    rw [if_neg he] at h1
    rw [<- h1]
    show flat ((m.texts ++ [textOf m.heat]).map cps) ++ [] ++ cps (textOf m.line) = _
    unfold flat
    rw [List.map_append,List.flatMap_append]
    simp
   ·intro t ht r hr k hk
    rcases List.mem_append.mp ht with ht | ht
    ·exact g.lm t ht r hr k hk
    ·rw [List.mem_singleton.mp ht]
     obtain ⟨j,hj,e⟩:=List.getElem_of_mem hr
     have hr' : c.rs[j]? = some r:=by rw [List.getElem?_eq_getElem hj,e]
     rw [zjA R hr' hk g.ih]
     have hjl : j < m.lanes.length:=by rw [O.ln]; exact hj
     have h1:=g.ct j r _ hr' (List.getElem?_eq_getElem hjl)
     unfold out at h1
     omega
   ·intro t ht
    rcases List.mem_append.mp ht with ht | ht
    ·exact g.pn t ht
    ·rw [List.mem_singleton.mp ht]
     exact zmm R g.ih
  ·refine ⟨g.ow,g.il,g.ih,g.ib,g.ct,?_,g.lm,g.pn⟩
   have h1:=g.tx
   unfold hot at h1 ⊢
   exact h1
theorem zeQ {c : Cf} {m : Ms} {k : Nat} (h : key c m = some k) : c.keys.cps.toList.take (m.at_ + 1) = c.keys.cps.toList.take m.at_ ++ [k]:=by
 rw [List.take_add_one,show c.keys.cps.toList[m.at_]? = some k from h]
 rfl
theorem Gd.line_ne {c : Cf} {m : Ms} (R : Rt c) (g : Gd c m) (h : key c m = some 47) : m.line ≠ []:=by
 intro e
 have hon:=Lns.zkY R.gd m.at_ 47 h
 rw [if_neg (by decide)] at hon
 rcases hon with ⟨_,z⟩ | ⟨i,d,hi,hd,hs⟩
 ·cases z
 ·have h1:=g.tx
  rw [e,hi] at h1
  have hil : i < c.keys.cps.toList.length:=(List.getElem?_eq_some_iff.mp hd).1
  rw [List.take_add_one,hd] at h1
  have h1 : flat (m.texts.map cps) ++ hot m ++ [] = c.keys.cps.toList.take i ++ [d]:=h1
  rw [List.append_nil] at h1
  have hd47 : d ≠ 47:=fun z=>by rw [z] at hs; exact absurd hs (by decide)
  by_cases hh : m.heat.isEmpty = true
  ·have hot0 : hot m = []:=by unfold hot; rw [if_pos hh]
   rw [hot0,List.append_nil] at h1
   rcases List.eq_nil_or_concat m.texts with z | ⟨a,t,z⟩
   ·rw [z] at h1
    have h2:=congrArg List.length h1
    rw [List.length_append] at h2
    have h2 : 0 = _ + 1:=h2
    omega
   ·rw [z] at h1
    unfold flat at h1
    rw [List.concat_eq_append,List.map_append,List.flatMap_append] at h1
    have h1 : (a.map cps).flatMap (fun t=>t ++ [47]) ++ (cps t ++ [47] ++ []) = c.keys.cps.toList.take i ++ [d]:=by simpa using h1
    rw [List.append_nil,<- List.append_assoc] at h1
    have h3:=(List.append_inj' h1 rfl).2
    cases h3
    exact hd47 rfl
  ·have hot1 : hot m = cps (textOf m.heat) ++ [47]:=by unfold hot; rw [if_neg hh]
   rw [hot1,<- List.append_assoc] at h1
   have h3:=(List.append_inj' h1 rfl).2
   cases h3
   exact hd47 rfl
theorem Gd.send {c : Cf} {m : Ms} (R : Rt c) (g : Gd c m) (hk : key c m = some 47) : Gd c (send c m):=by
 unfold Mc.send
 split
 ·rename_i he
  have hn : m.heat = []:=List.isEmpty_iff.mp he
  refine ⟨g.ow,(fun x hx=>nomatch hx),g.il,g.ib,?_,?_,g.lm,g.pn⟩
  ·intro j r l hr hl
   have h1:=g.ct j r l hr hl
   unfold out at h1 ⊢
   rw [hn] at h1
   have e : (mats []).count (r.s,r.t) = 0:=rfl
   show l.length + (0 + (mats m.line).count (r.s,r.t) + m.bar.count (r.s,r.t)) = _
   omega
  ·have hne:=g.line_ne R hk
   have hl : m.line.isEmpty = false:=by
    cases e : m.line with
    | nil=>exact absurd e hne
    | cons _ _=>rfl
   have h1:=g.tx
   unfold hot at h1
   rw [if_pos he] at h1
   show flat (m.texts.map cps) ++ (if m.line.isEmpty = true then [] else cps (textOf m.line) ++ [47]) ++ [] = c.keys.cps.toList.take (m.at_ + 1)
   rw [hl,if_neg (by decide),zeQ hk,<- h1]
   simp
 ·exact g
theorem zeH (l : List Part) (p : Part) : mats (l ++ [p]) = mats l ++ p.toList:=by
 unfold mats
 rw [List.filterMap_append]
 cases p <;> rfl
theorem Gd.gap {c : Cf} {m : Ms} (g : Gd c m) (hk : key c m = some 32) : Gd c (take m none):=by
 refine ⟨g.ow,?_,g.ih,g.ib,?_,?_,g.lm,g.pn⟩
 ·intro x hx
  have hx : x ∈ mats (m.line ++ [none]):=hx
  rw [zeH] at hx
  exact g.il x (by simpa using hx)
 ·intro j r l hr hl
  have h1:=g.ct j r l hr hl
  unfold out at h1 ⊢
  show l.length + ((mats (m.line ++ [none])).count (r.s,r.t) + _ + _) = _
  rw [zeH,Option.toList_none,List.append_nil]
  exact h1
 ·show flat (m.texts.map cps) ++ hot m ++ cps (textOf (m.line ++ [none])) = c.keys.cps.toList.take (m.at_ + 1)
  rw [ziY,zeQ hk,<- g.tx,List.append_assoc]
  simp only [List.append_assoc]
  rfl
theorem Gd.pick {c : Cf} {m : Ms} {k j : Nat} (R : Rt c) (O : Ok c m) (g : Gd c m) (hk : key c m = some k) (hj : Cs.place c.rs (L2.sg k) = some j) : Gd c (pick m j):=by
 unfold Mc.pick
 split
 ·rename_i x r hx
  obtain ⟨q,hq,hqs⟩:=Cs.zhN hj
  obtain ⟨q',hq',ho⟩:=g.ow j _ hx
  rw [hq] at hq'
  cases hq'
  have ex:=ho x List.mem_cons_self
  have hjl : j < m.lanes.length:=(List.getElem?_eq_some_iff.mp hx).1
  refine ⟨?_,?_,g.ih,g.ib,?_,?_,g.lm,g.pn⟩
  ·intro i l hl
   rcases zgt hl with ⟨rfl,rfl⟩ | ⟨hne,hl⟩
   ·exact ⟨q,hq,fun y hy=>ho y (List.mem_cons_of_mem _ hy)⟩
   ·exact g.ow i l hl
  ·intro y hy
   have hy : y ∈ mats (m.line ++ [some x]):=hy
   rw [zeH] at hy
   rcases List.mem_append.mp hy with hy | hy
   ·exact g.il y hy
   ·have : y = x:=by simpa using hy
    rw [this]
    exact ⟨j,q,hq,ex⟩
  ·intro i q' l hq' hl
   have hl : (m.lanes.set j r)[i]? = some l:=hl
   have eo : out (take { m with lanes:=m.lanes.set j r } (some x)) (q'.s,q'.t) = out m (q'.s,q'.t) + (if x = (q'.s,q'.t) then 1 else 0):=by
    unfold out
    show (mats (m.line ++ [some x])).count (q'.s,q'.t) + (mats m.heat).count (q'.s,q'.t) + m.bar.count (q'.s,q'.t) = _
    rw [zeH,List.count_append]
    have e1 : (some x : Part).toList.count (q'.s,q'.t) = if x = (q'.s,q'.t) then 1 else 0:=by
     show List.count (q'.s,q'.t) [x] = _
     by_cases e : x = (q'.s,q'.t)
     ·rw [if_pos e,e]
      simp
     ·rw [if_neg e]
      exact List.count_eq_zero.mpr fun z=>e (List.mem_singleton.mp z).symm
    rw [e1]
    omega
   rw [eo]
   rcases zgt hl with ⟨rfl,rfl⟩ | ⟨hne,hl⟩
   ·rw [hq] at hq'
    cases hq'
    have h1:=g.ct i q _ hq hx
    have e3 : (x :: l).length = l.length + 1:=rfl
    rw [if_pos ex]
    omega
   ·have h1:=g.ct i q' l hq' hl
    rw [if_neg fun z=>?_]
    ·exact h1
    ·rw [ex] at z
     have z1:=congrArg Prod.fst z
     have h2:=R.pl j q hq
     rw [show q.s = q'.s from z1,R.pl i q' hq'] at h2
     exact hne (Option.some.inj h2)
  ·show flat (m.texts.map cps) ++ hot m ++ cps (textOf (m.line ++ [some x])) = c.keys.cps.toList.take (m.at_ + 1)
   rw [ziY,zeQ hk,<- g.tx]
   have e : cps (zaX (some x)) = [k]:=by
    show cps x.1 = [k]
    rw [ex]
    show cps q.s = [k]
    rw [hqs]
    rfl
   rw [e]
   simp only [List.append_assoc]
 ·exact g
theorem Gd.strike {c : Cf} {m : Ms} (R : Rt c) (O : Ok c m) (g : Gd c m) : Gd c (strike c m):=by
 unfold Mc.strike
 split
 ·exact g
 ·rename_i k hk
  split
  ·rename_i h47
   rw [h47] at hk
   exact g.send R hk
  ·split
   ·rename_i h32
    rw [h32] at hk
    exact g.gap hk
   ·split
    ·exact ⟨g.ow,g.il,g.ih,g.ib,g.ct,g.tx,g.lm,g.pn⟩
    ·split
     ·rename_i j hj
      exact g.pick R O hk hj
     ·exact g
theorem Gd.tick {c : Cf} {m : Ms} (R : Rt c) (O : Ok c m) (g : Gd c m) : Gd c (tick c m):=by
 have h:=((g.fall R O).cool R O.fall).strike R O.fall.cool
 exact ⟨h.ow,h.il,h.ih,h.ib,h.ct,h.tx,h.lm,h.pn⟩
theorem Gd.run {c : Cf} (R : Rt c) : ∀ (n : Nat) {m : Ms},Ok c m -> Gd c m -> Gd c (runF c n m)
 | 0,_,_,g=>g
 | n + 1,m,O,g=>by
   cases hs : zdU c m with
   | true =>
     rw [zjO hs]
     exact g
   | false =>
     rw [znm hs]
     exact Gd.run R n O.tick (g.tick R O)
theorem Gd.fin {c : Cf} {m : Ms} (R : Rt c) (O : Ok c m) (g : Gd c m) : Gd c (fin c m):=Gd.run R _ O g
theorem Gd.start {c : Cf} (h : ∀ r ∈ c.rs,0 <= r.n) : Gd c (start c.rs):=by
 have lane : ∀ (j : Nat) l,(zaQ c.rs)[j]? = some l -> ∃ r,c.rs[j]? = some r /\ l = List.replicate r.n.toNat (r.s,r.t):=fun j l hl=>by
  unfold zaQ at hl
  rw [List.getElem?_map] at hl
  obtain ⟨r,hr,rfl⟩:=Option.map_eq_some_iff.mp hl
  exact ⟨r,hr,rfl⟩
 refine ⟨fun j l hl=>?_,(fun x hx=>nomatch hx),(fun x hx=>nomatch hx),(fun x hx=>nomatch hx),fun j r l hr hl=>?_,rfl,(fun t ht=>nomatch ht),(fun t ht=>nomatch ht)⟩
 ·obtain ⟨r,hr,rfl⟩:=lane j l hl
  exact ⟨r,hr,fun x hx=>List.eq_of_mem_replicate hx⟩
 ·obtain ⟨r',hr',rfl⟩:=lane j l hl
  rw [hr] at hr'
  cases hr'
  rw [List.length_replicate]
  rfl
end Mc
namespace Mc
open PySem L2
end Mc
namespace L2
open PySem PySem.Spec PyProof.Rows PySem.Builtin PySem.Builtin.Str
section
variable {X : Cx} {a : Expr} {ta : TE}
def tIsB (neg b : Bool) (ta : TE) : TE:=fun σ H Q=>ta σ H fun x H1=>∃ k,x = .bl k /\ Q (.bl (if neg then !decide (k = b) else decide (k = b))) H1
theorem zqK {b : Bool} {j pos'} (ha : PE X a ta) : PC X .Is a (.Constant (.bool b) j pos') (tIsB false b ta):=by
 intro pins s σ H Q I h
 refine thn (ha pins s σ H _ I h) fun v s1 ⟨x,H1,I1,r1,k,e,q1⟩=>?_
 subst e
 cases r1
 refine Constant_bool ?_
 cases k <;> cases b <;> exact wpAny_pure ⟨.bl _,H1,I1,rfl,q1⟩
theorem znF {b : Bool} {j pos'} (ha : PE X a ta) : PC X .IsNot a (.Constant (.bool b) j pos') (tIsB true b ta):=by
 intro pins s σ H Q I h
 refine thn (ha pins s σ H _ I h) fun v s1 ⟨x,H1,I1,r1,k,e,q1⟩=>?_
 subst e
 cases r1
 refine Constant_bool ?_
 cases k <;> cases b <;> exact wpAny_pure ⟨.bl _,H1,I1,rfl,q1⟩
end
section
variable {X : Cx}
end
end L2
namespace Mc
open PySem L2
end Mc
namespace L2
open PySem PySem.Spec PyProof.Rows
section
variable {X : Cx}
def rIndexS : V -> List V -> Hp -> VK -> Prop:=fun x vs H Q=>∃ (l : Addr) (ss : List Str) (z : Str) (j : Nat),x = .ref l /\ vs = [.str z] /\ H l = some (.lst (ss.map V.str)) /\ ss[j]? = some z /\ (∀ (i : Nat) y,i < j -> ss[i]? = some y -> y ≠ z) /\ j < 2 ^ 62 /\ Q (.int (j : Int)) H
def eqS (z : Str) : Value -> Bool
 | .str y _=>y.cps.toList == z.cps.toList
 | _=>false
theorem zhS : MtR X "list.index" rIndexS:=by
 intro pins s σ H x vs v us Q I rx rv h
 obtain ⟨l,ss,z,j,rfl,rfl,hH,hj,hno,hsm,q⟩:=h
 cases rx
 obtain ⟨u,rfl,ru⟩:=rv.one
 obtain ⟨t,rfl⟩:=ru
 obtain ⟨zz,its,n,r,hl,e⟩:=I.lstM hH
 rw [List.length_map] at hl
 have hjl : j < ss.length:=(List.getElem?_eq_some_iff.mp hj).1
 have at_ : ∀ (m : Nat) (hm : m < its.length),∃ t',its[m] = .str (ss[m]'(by omega)) t':=fun m hm=>by
  obtain ⟨u,hu,ru⟩:=r.get (i:=m) (x:=.str (ss[m]'(by omega))) (by rw [List.getElem?_map,List.getElem?_eq_getElem (by omega)]; rfl)
  rw [List.getElem?_eq_getElem hm] at hu
  obtain ⟨t',rfl⟩:=ru
  exact ⟨t',Option.some.inj hu⟩
 refine call_meets F.slot_list_index ⟨_,e,rfl⟩ F.entry_list_index (F.args_list_index_2 _ _)
  (MeetsSeq.list_index l its.toArray n (.str z t) (eqS z) (fun y hy=>?_) j (by rw [List.size_toArray]; omega) (by omega) ?_ (fun m hm hmj=>?_)) ⟨e,?_⟩
 ·obtain ⟨m,hm,ey⟩:=List.getElem_of_mem (show y ∈ its by simpa using hy)
  obtain ⟨t',e'⟩:=at_ m hm
  rw [<- ey,e']
  exact SeqRoads2.EqGives.str _ _ _ _
 ·obtain ⟨t',e'⟩:=at_ j (by omega)
  rw [List.getElem_toArray,e']
  rw [List.getElem?_eq_getElem hjl] at hj
  rw [Option.some.inj hj]
  exact beq_self_eq_true _
 ·obtain ⟨t',e'⟩:=at_ m (by omega)
  rw [List.getElem_toArray,e']
  have hne:=hno m _ hmj (List.getElem?_eq_getElem (by omega))
  exact beq_eq_false_iff_ne.mpr fun h=>hne (Lns.ziA h)
 ·exact ⟨.int (j : Int),H,I.tok _,⟨_,rfl⟩,q⟩
end
end L2
namespace L2
open PySem PySem.Spec PyProof.Rows
section
variable {X : Cx} {es : List Expr} {k1 : Nat} {tp : Pos}
end
end L2
namespace Mc
open PySem L2
def Bad (rs : List Cs.Row) (T : List Nat) (j : Nat) : Prop:=∃ k,T[j]? = some k /\ ∃ r ∈ rs,r.s = L2.sg k /\ r.n < ((T.take (j + 1)).count k : Int)
def zrf (rs : List Cs.Row) (ls : List (List Str)) (i j : Nat) : Prop:=(∀ (a : Nat) l,a < i -> ls[a]? = some l -> ∀ b,¬ Bad rs (cps (Lns.zbz l)) b) /\ ∀ l,ls[i]? = some l -> ∀ b,b < j -> ¬ Bad rs (cps (Lns.zbz l)) b
structure StopAt (rs : List Cs.Row) (ls : List (List Str)) (i j : Nat) : Prop where
 ahead : zrf rs ls i j
 bad : ∃ l,ls[i]? = some l /\ Bad rs (cps (Lns.zbz l)) j
theorem StopAt.uniq {rs : List Cs.Row} {ls : List (List Str)} {i j i' j' : Nat} (h : StopAt rs ls i j) (h' : StopAt rs ls i' j') : i = i' /\ j = j':=by
 obtain ⟨l,hl,hb⟩:=h.bad
 obtain ⟨l',hl',hb'⟩:=h'.bad
 rcases Nat.lt_trichotomy i i' with z | z | z
 ·exact absurd hb (h'.ahead.1 i l z hl j)
 ·subst z
  rw [hl] at hl'
  cases hl'
  rcases Nat.lt_trichotomy j j' with y | y | y
  ·exact absurd hb (h'.ahead.2 l hl j y)
  ·exact ⟨rfl,y⟩
  ·exact absurd hb' (h.ahead.2 l hl j' y)
 ·exact absurd hb' (h.ahead.1 i' l' z hl' j')
end Mc
namespace Hd
open PySem PySem.W PyProof.Rows L2
noncomputable section
abbrev qr (n : Nat) : Value:=.ref n
abbrev qi (n : Nat) : Value:=.int (Int.ofNat n) 0
abbrev qs (x : String) (t : Nat) : Value:=.str (Str.ofString x) t
abbrev qt (x : String) : Value:=.type x
abbrev qb (x : String) : Value:=.builtin x
abbrev qe (P : Params) (x : String) (t : Nat) (v : Value) : DictEntry:=⟨PyData.keyHash P (Str.ofString x),.str (Str.ofString x) t,v⟩
abbrev qF (x y : String) (st : Stmt) (dV kV doc pm : Value) (an : Option Addr) (cd ct : Value) : Data:=.func (fnOf (Str.ofString x) (Str.ofString y) (zal st) (zak st) (zac st) dV kV doc pm an cd ct)
abbrev qG (g b : Addr) (x y : String) (st : Stmt) (dV kV doc pm : Value) (an : Option Addr) (cd ct : Value) : Data:=.func { name:=Str.ofString x,qualname:=Str.ofString y,params:=zal st,body:=.stmts (zak st),scope:=zac st,globals:=g,closure:=[],defaults:=dV,kwdefaults:=kV,doc,pyModule:=pm,annotations:=an,code:=cd,closureTuple:=ct,builtins:=b }
abbrev qT (l : List Value) : Obj:=⟨.type "tuple",.none,.seq l.toArray 0,#[]⟩
abbrev qN (l : List Value) : Obj:=⟨.none,.none,.fields l.toArray,#[]⟩
abbrev qf (x y : String) (st : Stmt) (pm cd : Value) : Obj:=⟨.type "function",.none,qF x y st .none .none .none pm .none cd .none,#[]⟩
abbrev qg (x y : String) (st : Stmt) : Obj:=⟨.none,.none,qG 0 0 x y st .none .none .none .none .none .none .none,#[]⟩
abbrev qC (x y : String) (t l a b d f r1 : Nat) (g : Bool) (r2 : Nat) (v1 v2 v3 v4 : Value) (k t3 : Nat) : Obj:=⟨.type "code",.none,.fields #[qs x t,qs y (t + 1),qs "/claim/cut.py" (t + 2),qi l,qi a,qi b,qi d,qi f,qr r1,.bool g,qi 181,qr r2,v1,v2,v3,v4,qi k,qi l,qs "/claim/cut.py" t3],#[]⟩
structure HD where
 N : Nat
 n1 : Nat
 n2 : Nat
 n3 : Nat
 n4 : Nat
 d1 : Drawn
 k1 : Nat
 d2 : Drawn
 k2 : Nat
 d3 : Drawn
 k3 : Nat
 many : Nat
 few : Nat
 fp : Pos
 p1 : Pos
 p2 : Pos
 p3 : Pos
 cd : Value
 fr : Nat
 ann : Option Value
def alt : List Obj -> List Obj × List Obj
 | []=>([],[])
 | a :: l=>let r:=alt l; (a :: r.2,r.1)
def tree : Nat -> List Obj -> BT
 | 0,_=>.nil
 | n + 1,l=>match l with
   | []=>.nil
   | a :: l=>let r:=alt l; .node a (tree n r.1) (tree n r.2)
abbrev envH (p : Program) (D : HD) : Env:={ scope:=p.main.scope,locals:=mainNs,globals:=mainNs,cells:=[],code:=D.cd,frame:=some D.fr }
abbrev zdS (p : Program) (D : HD) : Code:=.body (behindTheImports p) (envH p D)
abbrev S0 (w : World) (os : OsState) : Shared:=⟨boot_heap w.params,Array.mk [],boot_drawn,boot_toks,os⟩
abbrev SA (D : HD) (L : Life) (A : Params -> List Obj) (w : World) (os : OsState) : Shared:=⟨⟨⟨A w.params⟩,L⟩,Array.mk [],D.d1,D.k1,os⟩
abbrev SB (D : HD) (L : Life) (A : Params -> List Obj) (w : World) (os : OsState) : SharedT:=⟨tree 12 (A w.params),D.few,L,Array.mk [],D.d2,D.k2,os⟩
abbrev SC (D : HD) (L : Life) (O : Params -> List Obj) (w : World) (os : OsState) : SharedT:=⟨tree 12 (O w.params),D.many,L,Array.mk [],D.d3,D.k3,os⟩
abbrev SF (D : HD) (L : Life) (O : Params -> List Obj) (w : World) (os : OsState) : Shared:=⟨⟨⟨O w.params⟩,L⟩,Array.mk [],D.d3,D.k3,os⟩
abbrev tbF:=PySem.W.Fast.tw14364793385576792824
abbrev Pre (p : Program) (D : HD) (L : Life) (A : Params -> List Obj) : Prop:=∀ (w : World) (os : OsState),PySem.W.Fast.tw15667345088766844465 tbF p w 11 D.ann D.n1 (S0 w os) (topStub p) =
 some (SA D L A w os,⟨PySem.W.Fast.tw11892475500146522536 tbF (zdS p D),zdS p D,D.p1,[topFrame D.fp]⟩)
abbrev Blk (p : Program) (D : HD) (L : Life) (A : Params -> List Obj) : Prop:=∀ (w : World) (os : OsState),PySem.W.Fast.tw14374325043358763698 tbF p w 11 D.ann 1 (D.n2 + 1) (SA D L A w os) (blockOf (behindTheImports p) (envH p D) (zdS p D) D.p1 [topFrame D.fp]) =
 some (.next,(SB D L A w os).abs,zdS p D,D.p2)
abbrev Go (p : Program) (D : HD) (L : Life) (A O : Params -> List Obj) : Prop:=∀ (w : World) (os : OsState),PySem.W.Fast.tw10110043849684766642 tbF p w 11 D.ann 1 (D.n3 + 1) (SB D L A w os) (piecesOf (behindTheImports p) (envH p D) (zdS p D) D.p2 [topFrame D.fp]) =
 some (.next,SC D L O w os,zdS p D,D.p3)
abbrev Fin (p : Program) (D : HD) (L : Life) (O : Params -> List Obj) : Prop:=∀ (w : World) (os : OsState),PySem.W.Fast.tw14082659384304107361 tbF p w 11 D.ann (D.n4 + 1) (SC D L O w os).abs ⟨doneF .next,zdS p D,D.p3,[topFrame D.fp]⟩ = some (SF D L O w os)
theorem zlI : treeTable = tbF:=PySem.W.Fast.te14364793385576792824
theorem zlt {p : Program} {D : HD} {L : Life} {A O : Params -> List Obj} (h1 : Pre p D L A) (h2 : Blk p D L A) (h3 : Go p D L A O) (h4 : Fin p D L O) (w : World) (os : OsState) :
 topRun treeTable p w 11 D.ann (D.n1 + ((D.n2 + 1) + ((D.n3 + 1) + (D.n4 + 1)))) (S0 w os) (topStub p) = some (SF D L O w os):=by
 have e1 : topGo treeTable p w 11 D.ann D.n1 (S0 w os) (topStub p) = some (SA D L A w os,⟨denote treeTable (zdS p D),zdS p D,D.p1,[topFrame D.fp]⟩):=by
  rw [PySem.W.Fast.te15667345088766844465,PySem.W.Fast.te11892475500146522536,zlI]; exact h1 w os
 have e2 : segRun treeTable p w 11 D.ann 1 (D.n2 + 1) (SA D L A w os) (blockOf (behindTheImports p) (envH p D) (zdS p D) D.p1 [topFrame D.fp]) = some (.next,(SB D L A w os).abs,zdS p D,D.p2):=by
  rw [PySem.W.Fast.te14374325043358763698,zlI]; exact h2 w os
 have e3 : segRunT treeTable p w 11 D.ann 1 (D.n3 + 1) (SB D L A w os) (piecesOf (behindTheImports p) (envH p D) (zdS p D) D.p2 [topFrame D.fp]) = some (.next,SC D L O w os,zdS p D,D.p3):=by
  rw [PySem.W.Fast.te10110043849684766642,zlI]; exact h3 w os
 have e4 : topRun treeTable p w 11 D.ann (D.n4 + 1) (SC D L O w os).abs ⟨doneF .next,zdS p D,D.p3,[topFrame D.fp]⟩ = some (SF D L O w os):=by
  rw [PySem.W.Fast.te14082659384304107361,zlI]; exact h4 w os
 refine go_top e1 (piece_block e2 ?_)
 have:=piece_app (rest:=[]) (segRun_of e3) (piece_nil (env:=envH p D) e4)
 rw [List.append_nil] at this
 exact this
abbrev HF (L : Life) (O : Params -> List Obj) (w : World) : Heap:=⟨⟨O w.params⟩,L⟩
abbrev imF:=PySem.W.Fast.tw5923862056798008813
theorem zuq : importedModules = imF:=PySem.W.Fast.te5923862056798008813
abbrev Lk1 (p : Program) (D : HD) (L : Life) (O : Params -> List Obj) : Prop:=∀ (w : World) (os : OsState),
 (staticsOk (imF p.main.body) (boot_heap w.params) (HF L O w) && namesBound p (HF L O w) && gensDone (SF D L O w os) && laidKept (boot_heap w.params) (HF L O w)) = true
abbrev Lk2 (p q : Program) (D : HD) (L : Life) (O : Params -> List Obj) (Xt : Shared -> Bool) : Prop:=∀ (w : World) (os : OsState),
 PySem.W.Fast.tw4187177175401517315 q [] (imF p.main.body) Xt true (SF D L O w os) = openGood q []
abbrev Lk3 (D : HD) (L : Life) (O : Params -> List Obj) (K : Params -> Frag) (as : List Addr) : Prop:=∀ (w : World) (os : OsState),
 as.map (SF D L O w os).heap.get? = (K w.params).map fun x=>some x.2
theorem zkD (w : World) (D : HD) (ha : D.ann = some (.ref 6)) : ((boot_heap w.params).isNs mainGlobals && (Array.mk [] : Array GenState).size == 0,(boot_heap w.params).objs.size,(boot_heap w.params).nsMap mainGlobals "__annotations__") = (true,11,D.ann):=by
 rw [ha]; kernel_rfl
theorem znS {p q : Program} {D : HD} {L : Life} {A O : Params -> List Obj} {Xt : Shared -> Bool} {K : Params -> Frag} {as : List Addr} {N : Nat} {e : ∀ P,as = (K P).map (·.1)}
 (h0 : opening p = plainProg p.main.scope.names) (h0' : ∀ s,fenceModules? p s = some s) (h6 : Nat.ble 600 N = true) (ha : D.ann = some (.ref 6)) (hn : Nat.ble (D.n1 + ((D.n2 + 1) + ((D.n3 + 1) + (D.n4 + 1)))) N = true)
 (h1 : Pre p D L A) (h2 : Blk p D L A) (h3 : Go p D L A O) (h4 : Fin p D L O) (l1 : Lk1 p D L O) (l2 : Lk2 p q D L O Xt) (l3 : Lk3 D L O K as) :
 LeftO p q [] Xt (Hook.obs (kHook K as e)) (Hook.val (kHook K as e)) N :=
 LeftO.of_pieces (H₀:=boot_heap) (H₁:=fun P=>⟨⟨O P⟩,L⟩) (gs₀:=Array.mk []) (gs₁:=Array.mk []) (d₁:=D.d3) (k₁:=D.k3) (m₀:=11) (ann:=D.ann) (boot_open h0 h6 h0') (fun w=>zkD w D ha) (zlt h1 h2 h3 h4) hn fun w=>funext fun os=>by
  have a1:=l1 w os
  have a2:=l2 w os
  rw [<- zuq] at a1 a2
  rw [<- PySem.W.Fast.te4187177175401517315] at a2
  exact looks_pair a1 (looks_pair a2 (l3 w os))
abbrev zry:=PySem.W.Fast.tw9446332074065402090
abbrev zqG (s : Stmt) : Pos:=match s with
 | .FunctionDef _ _ _ _ _ _ _ _ _ p=>p
 | _=>⟨0,0,0,0⟩
abbrev znd (x : String) (s : Stmt) : DefRec:=⟨Str.ofString x,zal s,zak s,zac s,zqG s⟩
abbrev XtH (l : OpenLaw) (q : Program) : Shared -> Bool:=fun s=>xlAt q [] s && recOk (RowW.records l.row.toRowW) s
theorem holds {l : OpenLaw} {q : Program} {K : Params -> Frag} {as : List Addr} {e : ∀ P,as = (K P).map (·.1)} {N : Nat} {x : String} {st : Stmt} (said : zry l = true)
 (left : LeftO l.row.prog q [] (XtH l q) (Hook.obs (kHook K as e)) (Hook.val (kHook K as e)) N) (hdef : defOf q l.row.name = some (znd x st,[]))
 (hp : l.row.prog.theDef l.row.name = some (zal st,zak st,zac st)) (hk : kwWritten? (zal st).kwonlyargs (zal st).kw_defaults = some []) (hwr : (!l.row.writes || l.row.records.isEmpty) = true)
 (ok : (chainsOk q && opensWell l.row.prog && (frees l.row.toRowW && l.row.within.isEmpty)) = true) (hb : l.row.prog.bare) (hw : l.row.toRowW.promised)
 (call : WalkO q [] (XL q []) (Hook.says (kHook K as e)) l.row.toRowW (znd x st) [] fun f vs=>PySem.call f vs) : l.Holds :=
 have said : l.wellSaid = true:=(congrFun PySem.W.Fast.te9446332074065402090 l).trans said
 holds_law said fun rs=>holds_open (d:=znd x st) (kwd:=[]) left (Hook.of _) (Hook.keeps _) (fun s z=>xl_of s (Bool.and_eq_true_iff.mp z).1) XL.keeps hdef hp hk (fun s z=>recFacts_of (Bool.and_eq_true_iff.mp z).2) hwr rs ok hb hw call
end
end Hd
namespace L2
open PySem PySem.Spec PyProof.Rows
section
variable {X : Cx}
end
end L2
namespace Mc
open PySem L2
abbrev ky (x : String) : Key:=Sum.inr (Str.ofString x)
def nowK (c : Cf) (A : Adr) (m : Ms) : List (Key × V):=[(ky "lanes",.ref A.L),(ky "row",.str c.keys),(ky "next",.int (m.at_ : Int)),(ky "line",.ref A.l),(ky "inside",.ref A.h),(ky "left",.int m.togo),(ky "casting",.int c.cast),(ky "bar",.ref A.b),(ky "slugs",.ref A.t),(ky "waits",.int m.waits),(ky "done",.int m.done)]
theorem zeK {c : Cf} {A : Adr} {m : Ms} : valV (nowK c A m) (ky "lanes") = some (.ref A.L):=by kernel_rfl
theorem zhW {c : Cf} {A : Adr} {m : Ms} : valV (nowK c A m) (ky "row") = some (.str c.keys):=by kernel_rfl
theorem zec {c : Cf} {A : Adr} {m : Ms} : valV (nowK c A m) (ky "next") = some (.int (m.at_ : Int)):=by kernel_rfl
theorem zeZ {c : Cf} {A : Adr} {m : Ms} : valV (nowK c A m) (ky "line") = some (.ref A.l):=by kernel_rfl
theorem zcd {c : Cf} {A : Adr} {m : Ms} : valV (nowK c A m) (ky "inside") = some (.ref A.h):=by kernel_rfl
theorem zkq {c : Cf} {A : Adr} {m : Ms} : valV (nowK c A m) (ky "left") = some (.int m.togo):=by kernel_rfl
theorem zkf {c : Cf} {A : Adr} {m : Ms} : valV (nowK c A m) (ky "casting") = some (.int c.cast):=by kernel_rfl
theorem zfN {c : Cf} {A : Adr} {m : Ms} : valV (nowK c A m) (ky "bar") = some (.ref A.b):=by kernel_rfl
theorem ziZ {c : Cf} {A : Adr} {m : Ms} : valV (nowK c A m) (ky "slugs") = some (.ref A.t):=by kernel_rfl
theorem zjj {c : Cf} {A : Adr} {m : Ms} : valV (nowK c A m) (ky "waits") = some (.int m.waits):=by kernel_rfl
theorem zkS {c : Cf} {A : Adr} {m : Ms} : valV (nowK c A m) (ky "done") = some (.int m.done):=by kernel_rfl
theorem znX {c : Cf} {A : Adr} {m : Ms} : putK (nowK c A m) (ky "next") (.int ((m.at_ : Int) + 1)) = nowK c A { m with at_:=m.at_ + 1 }:=by kernel_rfl
theorem znc {c : Cf} {A : Adr} {m : Ms} {b : Addr} : putK (nowK c A m) (ky "line") (.ref b) = nowK c { A with l:=b } m:=by kernel_rfl
theorem zhL {c : Cf} {A : Adr} {m : Ms} {b : Addr} : putK (nowK c A m) (ky "inside") (.ref b) = nowK c { A with h:=b } m:=by kernel_rfl
theorem zlx {c : Cf} {A : Adr} {m : Ms} {z : Int} : putK (nowK c A m) (ky "left") (.int z) = nowK c A { m with togo:=z }:=by kernel_rfl
theorem zrt {c : Cf} {A : Adr} {m : Ms} {b : Addr} : putK (nowK c A m) (ky "bar") (.ref b) = nowK c { A with b:=b } m:=by kernel_rfl
theorem zmj {c : Cf} {A : Adr} {m : Ms} {z : Int} : putK (nowK c A m) (ky "waits") (.int z) = nowK c A { m with waits:=z }:=by kernel_rfl
theorem znz {c : Cf} {A : Adr} {m : Ms} {z : Int} : putK (nowK c A m) (ky "done") (.int z) = nowK c A { m with done:=z }:=by kernel_rfl
theorem zdN (c : Cf) (A : Adr) (m : Ms) : (nowK c A m).length < sizeLine:=zbb (show 11 <= 100000 by decide)
structure Now (c : Cf) (H : Hp) (d : Addr) (A : Adr) (m : Ms) : Prop where
 dic : H d = some (.dK (nowK c A m))
 nd : A.all.Nodup
 li : Lists c H A m
theorem Now.get {c : Cf} {H : Hp} {d : Addr} {A : Adr} {m : Ms} {k : Key} {v : V} (h : Now c H d A m) (e : valV (nowK c A m) k = some v) : DGet H d (kV k) (some v):=by
 have:=DGet.k (k:=k) h.dic
 rw [e] at this
 exact this
theorem Now.same {c : Cf} {H H' : Hp} {d : Addr} {A : Adr} {m : Ms} (h : Now c H d A m) (s : Same H H') : Now c H' d A m:=⟨s _ _ h.dic,h.nd,h.li.keep (Keep.of_same (S:=fun _=>True) s) fun _ _=>trivial⟩
theorem Now.pne {c : Cf} {H : Hp} {d : Addr} {A : Adr} {m : Ms} (h : Now c H d A m) : ∀ a ∈ A.all,a ≠ d:=fun a ha=>by
 obtain ⟨xs,e⟩:=h.li.is a ha
 exact zbi e h.dic fun z=>by cases z
theorem Now.apart {c : Cf} {H H' : Hp} {d q : Addr} {A B B' : Adr} {m : Ms} (h : Now c H d A m) (s : Step q B H B' H') (hq : d ≠ q) (hB : d ∉ B.all) (hA : ∀ a ∈ A.all,a ≠ q /\ a ∉ B.all) : Now c H' d A m :=
 ⟨s.fr _ _ h.dic (.inl ⟨hq,hB⟩),h.nd,h.li.keep (S:=fun b=>b ≠ q /\ b ∉ B.all) (fun b o hb hs=>s.fr b o hb hs) hA⟩
theorem Now.put {c : Cf} {H : Hp} {d : Addr} {A A' : Adr} {m m' : Ms} (h : Now c H d A m) (n : A'.all.Nodup) (l : Lists c H A' m') : Now c (upd H d (.dK (nowK c A' m'))) d A' m':=by
 refine ⟨upd_same,n,l.keep (S:=fun b=>b ≠ d) (fun b o hb hs=>?_) fun a ha=>?_⟩
 ·rcases hs with hs | ⟨xs,e⟩
  ·rw [zai hs]; exact hb
  ·subst e
   rw [zai (zbi hb h.dic fun z=>by cases z)]
   exact hb
 ·obtain ⟨xs,ex⟩:=l.is a ha
  exact zbi ex h.dic fun z=>by cases z
theorem Now.stepD {c : Cf} {H : Hp} {d : Addr} {A B : Adr} {m : Ms} {o : HO} (h : Now c H d A m) : Step d B H B (upd H d o):=by
 refine ⟨fun b u hb hs=>?_,fun b hb=>.inl hb,fun b u hb=>?_⟩
 ·rcases hs with ⟨hs,_⟩ | ⟨xs,e⟩
  ·rw [zai hs]; exact hb
  ·subst e
   rw [zai (zbi hb h.dic fun z=>by cases z)]
   exact hb
 ·by_cases e : b = d
  ·rw [e]; exact ⟨_,upd_same⟩
  ·exact ⟨u,by rw [zai e]; exact hb⟩
theorem zgl {H : Hp} {d a : Addr} {kvs : List (Key × V)} {ys : List V} {o : HO} (h : H d = some (.dK kvs)) (ha : H a = some (.lst ys)) : upd H a o d = some (.dK kvs):=by
 rw [zai (zbi h ha fun z=>by cases z)]
 exact h
theorem Now.setLane {c : Cf} {H : Hp} {p q : Addr} {A : Adr} {m : Ms} {k : Nat} {ys xs : List V} {l : List Mx} (h : Now c H p A m) (hq : A.ls[k]? = some q) (hy : H q = some (.lst ys)) (hx : Paired (Lan.zbn H) xs l) :
 Now c (upd H q (.lst xs)) p A { m with lanes:=m.lanes.set k l }:=by
 have d:=zek h.nd
 have kp : Keep (fun b=>b ≠ q) H (upd H q (.lst xs)):=Keep.lst hy
 obtain ⟨n1,n2,n3,n4,n5,n6⟩:=d.ls q (List.mem_of_getElem? hq)
 obtain ⟨zs,e1,e2⟩:=h.li.rows
 exact ⟨zgl h.dic hy,h.nd,⟨⟨zs,kp _ _ e1 (.inl n2.symm),zbo kp e2⟩,kp _ _ h.li.lan (.inl n1.symm),ziw kp ⟨xs,upd_same,zbQ kp hx⟩ k h.li.lns d.nd hq,h.li.lin.keep kp n3.symm,h.li.het.keep kp n4.symm,h.li.bar.keep kp n5.symm,kp _ _ h.li.txt (.inl n6.symm)⟩⟩
theorem Now.setBar {c : Cf} {H : Hp} {p : Addr} {A : Adr} {m : Ms} {ys xs : List V} {l : List Mx} (h : Now c H p A m) (hy : H A.b = some (.lst ys)) (hx : Paired (Lan.zbn H) xs l) :
 Now c (upd H A.b (.lst xs)) p A { m with bar:=l }:=by
 have d:=zek h.nd
 have kp : Keep (fun b=>b ≠ A.b) H (upd H A.b (.lst xs)):=Keep.lst hy
 obtain ⟨zs,e1,e2⟩:=h.li.rows
 exact ⟨zgl h.dic hy,h.nd,⟨⟨zs,kp _ _ e1 (.inl d.cb),zbo kp e2⟩,kp _ _ h.li.lan (.inl d.Lb),zbl kp (fun a ha=>(d.ls a ha).2.2.2.2.1) h.li.lns,h.li.lin.keep kp d.lb,h.li.het.keep kp d.hb,⟨xs,upd_same,zbQ kp hx⟩,kp _ _ h.li.txt (.inl d.bt.symm)⟩⟩
theorem Now.setTxt {c : Cf} {H : Hp} {p : Addr} {A : Adr} {m : Ms} {ys : List V} {l : List Str} (h : Now c H p A m) (hy : H A.t = some (.lst ys)) :
 Now c (upd H A.t (.lst (l.map V.str))) p A { m with texts:=l }:=by
 have d:=zek h.nd
 have kp : Keep (fun b=>b ≠ A.t) H (upd H A.t (.lst (l.map V.str))):=Keep.lst hy
 obtain ⟨zs,e1,e2⟩:=h.li.rows
 exact ⟨zgl h.dic hy,h.nd,⟨⟨zs,kp _ _ e1 (.inl d.ct),zbo kp e2⟩,kp _ _ h.li.lan (.inl d.Lt),zbl kp (fun a ha=>(d.ls a ha).2.2.2.2.2) h.li.lns,h.li.lin.keep kp d.lt,h.li.het.keep kp d.ht,h.li.bar.keep kp d.bt,upd_same⟩⟩
theorem Now.setLine {c : Cf} {H : Hp} {p : Addr} {A : Adr} {m : Ms} {ys xs : List V} {l : List Part} (h : Now c H p A m) (hy : H A.l = some (.lst ys)) (hx : Paired (zbS H) xs l) :
 Now c (upd H A.l (.lst xs)) p A { m with line:=l }:=by
 have d:=zek h.nd
 have kp : Keep (fun b=>b ≠ A.l) H (upd H A.l (.lst xs)):=Keep.lst hy
 obtain ⟨zs,e1,e2⟩:=h.li.rows
 exact ⟨zgl h.dic hy,h.nd,⟨⟨zs,kp _ _ e1 (.inl d.cl),zbo kp e2⟩,kp _ _ h.li.lan (.inl d.Ll),zbl kp (fun a ha=>(d.ls a ha).2.2.1) h.li.lns,⟨xs,upd_same,zco kp hx⟩,h.li.het.keep kp d.lh.symm,h.li.bar.keep kp d.lb.symm,kp _ _ h.li.txt (.inl d.lt.symm)⟩⟩
theorem Now.lane {c : Cf} {H : Hp} {p : Addr} {A : Adr} {m : Ms} {k : Nat} (h : Now c H p A m) (O : Ok c m) (hk : k < c.rs.length) : ∃ q l,A.ls[k]? = some q /\ m.lanes[k]? = some l /\ LnAt H q l /\ atI (A.ls.map V.ref) (k : Int) = some (.ref q):=by
 have hl : k < m.lanes.length:=by rw [O.ln]; exact hk
 obtain ⟨q,hq,hln⟩:=Cs.zed h.li.lns (List.getElem?_eq_getElem hl)
 exact ⟨q,_,hq,List.getElem?_eq_getElem hl,hln,zaL (by rw [List.getElem?_map,hq]; rfl)⟩
theorem Now.new {c : Cf} {H : Hp} {p : Addr} {A : Adr} {m : Ms} {e : Addr} (h : Now c H p A m) (he : H e = none) : e ∉ A.all:=fun z=>by
 obtain ⟨xs,ex⟩:=h.li.is e z
 rw [he] at ex
 cases ex
end Mc
namespace L2
open PySem
/-- behind a statement the rest and the names are lets: the proofs' terms stay small -/
theorem hideSeq {t u : TS} {D : Ends} {σ : St} {H : Hp} (h : let D' : Ends:={ D with nx:=u D }; t D' σ H) : tSeq t u D σ H:=h
theorem hideAll {t u : TS} {D : Ends} {σ : St} {H : Hp} (h : let D' : Ends:={ D with nx:=u D }; let σ' : St:=σ; t D' σ' H) : tSeq t u D σ H:=h
theorem exE {α β : Type} {f : β} {g : α -> β} {P : α -> Prop} {w : α} (e : f = g w) (h : P w) : ∃ v,f = g v /\ P v:=⟨w,e,h⟩
theorem gNameH {i : Nat} {v : V} {σ : St} {H : Hp} {Q : St -> Hp -> Prop} (h : Q (σ.set i (some v)) H) : zlT i v σ H Q:=h
end L2
namespace Lw
open PySem L2
set_option maxHeartbeats 4000000
section

def top (i : Nat) : Stmt:=PySem.Challenge.pw_linecaster_k42_broken_and_wrong_codes.main.body.getD i (.Pass ⟨0,0,0,0⟩)
abbrev s_wall : Stmt:=top 0
theorem sc_wall : FnScope ["k"] ["k"] (zac s_wall):=⟨rfl,rfl,rfl,by decide +kernel,rfl,by decide +kernel,by decide +kernel⟩
abbrev s_has_all : Stmt:=top 6
theorem zfx : FnScope ["teeth","others"] ["teeth","others"] (zac s_has_all):=⟨rfl,rfl,rfl,by decide +kernel,rfl,by decide +kernel,by decide +kernel⟩
abbrev s_falls_at : Stmt:=top 7
theorem zig : FnScope ["codes","teeth","channel","code"] ["codes","teeth"] (zac s_falls_at):=⟨rfl,rfl,rfl,by decide +kernel,rfl,by decide +kernel,by decide +kernel⟩
abbrev s_channel_of : Stmt:=top 9
theorem zgB : FnScope ["case","sign","number","channel"] ["case","sign"] (zac s_channel_of):=⟨rfl,rfl,rfl,by decide +kernel,rfl,by decide +kernel,by decide +kernel⟩
abbrev s_codes_of_ : Stmt:=top 10
theorem zhU : FnScope ["case"] ["case"] (zac s_codes_of_):=⟨rfl,rfl,rfl,by decide +kernel,rfl,by decide +kernel,by decide +kernel⟩
abbrev s_is_sign_key : Stmt:=top 14
theorem zfr : FnScope ["key"] ["key"] (zac s_is_sign_key):=⟨rfl,rfl,rfl,by decide +kernel,rfl,by decide +kernel,by decide +kernel⟩
abbrev s_goes_on : Stmt:=top 15
theorem zjN : FnScope ["case","keys","at"] ["case","keys","at"] (zac s_goes_on):=⟨rfl,rfl,rfl,by decide +kernel,rfl,by decide +kernel,by decide +kernel⟩
abbrev s_look_at_keys : Stmt:=top 16
theorem zfg : FnScope ["case","keys","at"] ["case","keys"] (zac s_look_at_keys):=⟨rfl,rfl,rfl,by decide +kernel,rfl,by decide +kernel,by decide +kernel⟩
abbrev s_can_break : Stmt:=top 18
theorem zgW : FnScope ["case","ahead","channel","teeth","sign","width","own","many"] ["case","ahead","channel","teeth"] (zac s_can_break):=⟨rfl,rfl,rfl,by decide +kernel,rfl,by decide +kernel,by decide +kernel⟩
abbrev s_channels_of : Stmt:=top 19
theorem zfj : FnScope ["case","broken","channels","ahead","at","part","channel","lost","sign","width","own","many"] ["case","broken"] (zac s_channels_of):=⟨rfl,rfl,rfl,by decide +kernel,rfl,by decide +kernel,by decide +kernel⟩
abbrev s_law_cell_at : Stmt:=top 24
theorem zfp : FnScope ["_law_script","_law_k"] ["_law_script","_law_k"] (zac s_law_cell_at):=⟨rfl,rfl,rfl,by decide +kernel,rfl,by decide +kernel,by decide +kernel⟩
abbrev s_law_mixed : Stmt:=top 25
theorem zhv : FnScope ["_law_cell","_law_k"] ["_law_cell","_law_k"] (zac s_law_mixed):=⟨rfl,rfl,rfl,by decide +kernel,rfl,by decide +kernel,by decide +kernel⟩
abbrev s_law_bits : Stmt:=top 26
theorem zih : FnScope ["_law_one","_law_many"] ["_law_one"] (zac s_law_bits):=⟨rfl,rfl,rfl,by decide +kernel,rfl,by decide +kernel,by decide +kernel⟩
abbrev s_law_teeth : Stmt:=top 27
theorem zhu : FnScope ["_law_number","_law_many","_law_teeth_here","_law_k","_law_one"] ["_law_number","_law_many"] (zac s_law_teeth):=⟨rfl,rfl,rfl,by decide +kernel,rfl,by decide +kernel,by decide +kernel⟩
abbrev s_law_case : Stmt:=top 28
theorem zis : FnScope ["_law_script","_law_most","_law_signs","_law_number","_law_teeth_here","_law_case_here","_law_k","_law_one","_law_sign"] ["_law_script","_law_most"] (zac s_law_case):=⟨rfl,rfl,rfl,by decide +kernel,rfl,by decide +kernel,by decide +kernel⟩
abbrev s_law_lines : Stmt:=top 29
theorem zgR : FnScope ["_law_cells","_law_case_here","_law_lines_here","_law_k","_law_cell","_law_number","_law_word","_law_j"] ["_law_cells","_law_case_here"] (zac s_law_lines):=⟨rfl,rfl,rfl,by decide +kernel,rfl,by decide +kernel,by decide +kernel⟩
abbrev s_law_keys : Stmt:=top 30
theorem ziq : FnScope ["_law_lines_here"] ["_law_lines_here"] (zac s_law_keys):=⟨rfl,rfl,rfl,by decide +kernel,rfl,by decide +kernel,by decide +kernel⟩
abbrev s_law_begin : Stmt:=top 31
theorem zhe : FnScope ["_law_lanes_here","_law_keys_here","_law_casting","_law_now"] ["_law_lanes_here","_law_keys_here","_law_casting"] (zac s_law_begin):=⟨rfl,rfl,rfl,by decide +kernel,rfl,by decide +kernel,by decide +kernel⟩
abbrev s_law_rests : Stmt:=top 32
theorem zhk : FnScope ["_law_now"] ["_law_now"] (zac s_law_rests):=⟨rfl,rfl,rfl,by decide +kernel,rfl,by decide +kernel,by decide +kernel⟩
abbrev s_law_stuck : Stmt:=top 33
theorem zgS : FnScope ["_law_case_here","_law_now","_law_key"] ["_law_case_here","_law_now"] (zac s_law_stuck):=⟨rfl,rfl,rfl,by decide +kernel,rfl,by decide +kernel,by decide +kernel⟩
abbrev s_law_fall : Stmt:=top 34
theorem ziP : FnScope ["_law_case_here","_law_now","_law_sign","_law_teeth_here","_law_k","_law_channel"] ["_law_case_here","_law_now"] (zac s_law_fall):=⟨rfl,rfl,rfl,by decide +kernel,rfl,by decide +kernel,by decide +kernel⟩
abbrev s_law_cast : Stmt:=top 35
theorem zii : FnScope ["_law_now"] ["_law_now"] (zac s_law_cast):=⟨rfl,rfl,rfl,by decide +kernel,rfl,by decide +kernel,by decide +kernel⟩
abbrev s_law_strike : Stmt:=top 36
theorem zgx : FnScope ["_law_case_here","_law_now","_law_key","_law_lane"] ["_law_case_here","_law_now"] (zac s_law_strike):=⟨rfl,rfl,rfl,by decide +kernel,rfl,by decide +kernel,by decide +kernel⟩
abbrev s_law_tick : Stmt:=top 37
theorem zio : FnScope ["_law_case_here","_law_now"] ["_law_case_here","_law_now"] (zac s_law_tick):=⟨rfl,rfl,rfl,by decide +kernel,rfl,by decide +kernel,by decide +kernel⟩
abbrev s_law_same : Stmt:=top 38
theorem ziv : FnScope ["_law_machine","_law_case_here","_law_now","_law_truth"] ["_law_machine","_law_case_here","_law_now"] (zac s_law_same):=⟨rfl,rfl,rfl,by decide +kernel,rfl,by decide +kernel,by decide +kernel⟩
abbrev s_law_turned : Stmt:=top 39
theorem zgM : FnScope ["_law_case_here","_law_cell","_law_teeth_here"] ["_law_case_here","_law_cell"] (zac s_law_turned):=⟨rfl,rfl,rfl,by decide +kernel,rfl,by decide +kernel,by decide +kernel⟩
abbrev s_law_broken : Stmt:=top 40
theorem zgJ : FnScope ["_law_case_here","_law_cell","_law_found","_law_used","_law_number","_law_k","_law_channel","_law_lost"] ["_law_case_here","_law_cell"] (zac s_law_broken):=⟨rfl,rfl,rfl,by decide +kernel,rfl,by decide +kernel,by decide +kernel⟩
abbrev s_law_lanes : Stmt:=top 41
theorem zhG : FnScope ["_law_case_here","_law_broken_here","_law_lanes_here","_law_used","_law_channel","_law_lost"] ["_law_case_here","_law_broken_here"] (zac s_law_lanes):=⟨rfl,rfl,rfl,by decide +kernel,rfl,by decide +kernel,by decide +kernel⟩
abbrev s_law : Stmt:=top 42
theorem zpw : FnScope ["_law_script","_law_case_here","_law_broken_here","_law_keys_here","_law_casting","_law_handed","_law_machine","_law_now"] ["_law_script"] (zac s_law):=⟨rfl,rfl,rfl,by decide +kernel,rfl,by decide +kernel,by decide +kernel⟩
abbrev zfQ : List Str:=["lying","case","played","struck","casting","line","heated","to_go","hanging","texts","done","waits"]
theorem zbc : zfQ.idxOf? ("lying" : Str) = some 0:=by decide +kernel
theorem zbC : zfQ.idxOf? ("case" : Str) = some 1:=by decide +kernel
theorem zbK : zfQ.idxOf? ("played" : Str) = some 2:=by decide +kernel
theorem zaF : zfQ.idxOf? ("struck" : Str) = some 3:=by decide +kernel
theorem zci : zfQ.idxOf? ("casting" : Str) = some 4:=by decide +kernel
theorem zaR : zfQ.idxOf? ("line" : Str) = some 5:=by decide +kernel
theorem zau : zfQ.idxOf? ("heated" : Str) = some 6:=by decide +kernel
theorem zbd : zfQ.idxOf? ("to_go" : Str) = some 7:=by decide +kernel
theorem zaD : zfQ.idxOf? ("hanging" : Str) = some 8:=by decide +kernel
theorem zbX : zfQ.idxOf? ("texts" : Str) = some 9:=by decide +kernel
theorem zbE : zfQ.idxOf? ("done" : Str) = some 10:=by decide +kernel
theorem zbq : zfQ.idxOf? ("waits" : Str) = some 11:=by decide +kernel
abbrev s_Machine_init : Stmt:=zah (top 22) 0
theorem zeN : FnScope ["self","case","keys","casting","broken"] ["self","case","keys","casting","broken"] (zac s_Machine_init):=⟨rfl,rfl,rfl,by decide +kernel,rfl,by decide +kernel,by decide +kernel⟩
abbrev s_Machine_next_key : Stmt:=zah (top 22) 1
theorem zdC : FnScope ["self"] ["self"] (zac s_Machine_next_key):=⟨rfl,rfl,rfl,by decide +kernel,rfl,by decide +kernel,by decide +kernel⟩
theorem zbw : zfQ.idxOf? ("next_key" : Str) = none:=by decide +kernel
abbrev s_Machine_lacks_matrix : Stmt:=zah (top 22) 2
theorem zcy : FnScope ["self","channel"] ["self"] (zac s_Machine_lacks_matrix):=⟨rfl,rfl,rfl,by decide +kernel,rfl,by decide +kernel,by decide +kernel⟩
theorem zbD : zfQ.idxOf? ("lacks_matrix" : Str) = none:=by decide +kernel
abbrev s_Machine_stuck : Stmt:=zah (top 22) 3
theorem zew : FnScope ["self"] ["self"] (zac s_Machine_stuck):=⟨rfl,rfl,rfl,by decide +kernel,rfl,by decide +kernel,by decide +kernel⟩
theorem zbY : zfQ.idxOf? ("stuck" : Str) = none:=by decide +kernel
abbrev s_Machine_resting : Stmt:=zah (top 22) 4
theorem zdX : FnScope ["self"] ["self"] (zac s_Machine_resting):=⟨rfl,rfl,rfl,by decide +kernel,rfl,by decide +kernel,by decide +kernel⟩
theorem zby : zfQ.idxOf? ("resting" : Str) = none:=by decide +kernel
abbrev s_Machine_move_bar : Stmt:=zah (top 22) 5
theorem zdB : FnScope ["self","matrix"] ["self"] (zac s_Machine_move_bar):=⟨rfl,rfl,rfl,by decide +kernel,rfl,by decide +kernel,by decide +kernel⟩
theorem zdD : zfQ.idxOf? ("move_bar" : Str) = none:=by decide +kernel
abbrev s_Machine_move_caster : Stmt:=zah (top 22) 6
theorem zcI : FnScope ["self"] ["self"] (zac s_Machine_move_caster):=⟨rfl,rfl,rfl,by decide +kernel,rfl,by decide +kernel,by decide +kernel⟩
theorem zcJ : zfQ.idxOf? ("move_caster" : Str) = none:=by decide +kernel
abbrev s_Machine_move_line : Stmt:=zah (top 22) 7
theorem zdj : FnScope ["self","key"] ["self"] (zac s_Machine_move_line):=⟨rfl,rfl,rfl,by decide +kernel,rfl,by decide +kernel,by decide +kernel⟩
theorem zdi : zfQ.idxOf? ("move_line" : Str) = none:=by decide +kernel
abbrev s_Machine_send_line : Stmt:=zah (top 22) 8
theorem zdp : FnScope ["self"] ["self"] (zac s_Machine_send_line):=⟨rfl,rfl,rfl,by decide +kernel,rfl,by decide +kernel,by decide +kernel⟩
theorem zdl : zfQ.idxOf? ("send_line" : Str) = none:=by decide +kernel
abbrev s_Machine_take : Stmt:=zah (top 22) 9
theorem zfb : FnScope ["self","part"] ["self","part"] (zac s_Machine_take):=⟨rfl,rfl,rfl,by decide +kernel,rfl,by decide +kernel,by decide +kernel⟩
theorem zcP : zfQ.idxOf? ("take" : Str) = none:=by decide +kernel
abbrev s_Machine_tick : Stmt:=zah (top 22) 10
theorem zfc : FnScope ["self"] ["self"] (zac s_Machine_tick):=⟨rfl,rfl,rfl,by decide +kernel,rfl,by decide +kernel,by decide +kernel⟩
theorem zcQ : zfQ.idxOf? ("tick" : Str) = none:=by decide +kernel
abbrev s_Machine_ticks : Stmt:=zah (top 22) 12
theorem zeA : FnScope ["self"] ["self"] (zac s_Machine_ticks):=⟨rfl,rfl,rfl,by decide +kernel,rfl,by decide +kernel,by decide +kernel⟩
theorem zeB : zfQ.idxOf? ("ticks" : Str) = none:=by decide +kernel
abbrev s_Machine_slugs : Stmt:=zah (top 22) 13
theorem zey : FnScope ["self"] ["self"] (zac s_Machine_slugs):=⟨rfl,rfl,rfl,by decide +kernel,rfl,by decide +kernel,by decide +kernel⟩
theorem zet : zfQ.idxOf? ("slugs" : Str) = none:=by decide +kernel
abbrev s_Machine_waited : Stmt:=zah (top 22) 14
theorem zej : FnScope ["self"] ["self"] (zac s_Machine_waited):=⟨rfl,rfl,rfl,by decide +kernel,rfl,by decide +kernel,by decide +kernel⟩
theorem zea : zfQ.idxOf? ("waited" : Str) = none:=by decide +kernel
abbrev s_Machine_channels : Stmt:=zah (top 22) 15
theorem zdz : FnScope ["self"] ["self"] (zac s_Machine_channels):=⟨rfl,rfl,rfl,by decide +kernel,rfl,by decide +kernel,by decide +kernel⟩
theorem zdF : zfQ.idxOf? ("channels" : Str) = none:=by decide +kernel
abbrev s_Machine_gathered : Stmt:=zah (top 22) 17
theorem zdG : FnScope ["self"] ["self"] (zac s_Machine_gathered):=⟨rfl,rfl,rfl,by decide +kernel,rfl,by decide +kernel,by decide +kernel⟩
theorem zdI : zfQ.idxOf? ("gathered" : Str) = none:=by decide +kernel
abbrev s_Machine_in_caster : Stmt:=zah (top 22) 18
theorem zdm : FnScope ["self"] ["self"] (zac s_Machine_in_caster):=⟨rfl,rfl,rfl,by decide +kernel,rfl,by decide +kernel,by decide +kernel⟩
theorem zdr : zfQ.idxOf? ("in_caster" : Str) = none:=by decide +kernel
abbrev s_Machine_bar : Stmt:=zah (top 22) 19
theorem zft : FnScope ["self"] ["self"] (zac s_Machine_bar):=⟨rfl,rfl,rfl,by decide +kernel,rfl,by decide +kernel,by decide +kernel⟩
theorem zfu : zfQ.idxOf? ("bar" : Str) = none:=by decide +kernel
set_option genInjectivity false
set_option genSizeOf false
structure Ad where
 f_wall : Addr
 d_wall : FuncData
 f_has_all : Addr
 d_has_all : FuncData
 f_falls_at : Addr
 d_falls_at : FuncData
 f_channel_of : Addr
 d_channel_of : FuncData
 f_codes_of_ : Addr
 d_codes_of_ : FuncData
 f_is_sign_key : Addr
 d_is_sign_key : FuncData
 f_goes_on : Addr
 d_goes_on : FuncData
 f_look_at_keys : Addr
 d_look_at_keys : FuncData
 f_can_break : Addr
 d_can_break : FuncData
 f_channels_of : Addr
 d_channels_of : FuncData
 f_law_cell_at : Addr
 d_law_cell_at : FuncData
 f_law_mixed : Addr
 d_law_mixed : FuncData
 f_law_bits : Addr
 d_law_bits : FuncData
 f_law_teeth : Addr
 d_law_teeth : FuncData
 f_law_case : Addr
 d_law_case : FuncData
 f_law_lines : Addr
 d_law_lines : FuncData
 f_law_keys : Addr
 d_law_keys : FuncData
 f_law_begin : Addr
 d_law_begin : FuncData
 f_law_rests : Addr
 d_law_rests : FuncData
 f_law_stuck : Addr
 d_law_stuck : FuncData
 f_law_fall : Addr
 d_law_fall : FuncData
 f_law_cast : Addr
 d_law_cast : FuncData
 f_law_strike : Addr
 d_law_strike : FuncData
 f_law_tick : Addr
 d_law_tick : FuncData
 f_law_same : Addr
 d_law_same : FuncData
 f_law_turned : Addr
 d_law_turned : FuncData
 f_law_broken : Addr
 d_law_broken : FuncData
 f_law_lanes : Addr
 d_law_lanes : FuncData
 f_law : Addr
 d_law : FuncData
 c_Machine : Addr
 f_Machine_init : Addr
 d_Machine_init : FuncData
 f_Machine_next_key : Addr
 d_Machine_next_key : FuncData
 f_Machine_lacks_matrix : Addr
 d_Machine_lacks_matrix : FuncData
 f_Machine_stuck : Addr
 d_Machine_stuck : FuncData
 f_Machine_resting : Addr
 d_Machine_resting : FuncData
 f_Machine_move_bar : Addr
 d_Machine_move_bar : FuncData
 f_Machine_move_caster : Addr
 d_Machine_move_caster : FuncData
 f_Machine_move_line : Addr
 d_Machine_move_line : FuncData
 f_Machine_send_line : Addr
 d_Machine_send_line : FuncData
 f_Machine_take : Addr
 d_Machine_take : FuncData
 f_Machine_tick : Addr
 d_Machine_tick : FuncData
 f_Machine_ticks : Addr
 d_Machine_ticks : FuncData
 f_Machine_slugs : Addr
 d_Machine_slugs : FuncData
 f_Machine_waited : Addr
 d_Machine_waited : FuncData
 f_Machine_channels : Addr
 d_Machine_channels : FuncData
 f_Machine_gathered : Addr
 d_Machine_gathered : FuncData
 f_Machine_in_caster : Addr
 d_Machine_in_caster : FuncData
 f_Machine_bar : Addr
 d_Machine_bar : FuncData
 t_GAP_KEY : Tok
 t_SEND_KEY : Tok
 t_WEDGE : Tok
structure Tx (K : PySem.W.Frag) (mg : Str -> Option Value) (a : Ad) : Prop where
 wall : D K mg "_wall" s_wall ["k"] a.f_wall a.d_wall
 has_all : D K mg "has_all" s_has_all ["teeth","others"] a.f_has_all a.d_has_all
 falls_at : D K mg "falls_at" s_falls_at ["codes","teeth"] a.f_falls_at a.d_falls_at
 channel_of : D K mg "channel_of" s_channel_of ["case","sign"] a.f_channel_of a.d_channel_of
 codes_of_ : D K mg "codes_of" s_codes_of_ ["case"] a.f_codes_of_ a.d_codes_of_
 is_sign_key : D K mg "is_sign_key" s_is_sign_key ["key"] a.f_is_sign_key a.d_is_sign_key
 goes_on : D K mg "goes_on" s_goes_on ["case","keys","at"] a.f_goes_on a.d_goes_on
 look_at_keys : D K mg "look_at_keys" s_look_at_keys ["case","keys"] a.f_look_at_keys a.d_look_at_keys
 can_break : D K mg "can_break" s_can_break ["case","ahead","channel","teeth"] a.f_can_break a.d_can_break
 channels_of : D K mg "channels_of" s_channels_of ["case","broken"] a.f_channels_of a.d_channels_of
 law_cell_at : D K mg "_law_cell_at" s_law_cell_at ["_law_script","_law_k"] a.f_law_cell_at a.d_law_cell_at
 law_mixed : D K mg "_law_mixed" s_law_mixed ["_law_cell","_law_k"] a.f_law_mixed a.d_law_mixed
 law_bits : D K mg "_law_bits" s_law_bits ["_law_one"] a.f_law_bits a.d_law_bits
 law_teeth : D K mg "_law_teeth" s_law_teeth ["_law_number","_law_many"] a.f_law_teeth a.d_law_teeth
 law_case : D K mg "_law_case" s_law_case ["_law_script","_law_most"] a.f_law_case a.d_law_case
 law_lines : D K mg "_law_lines" s_law_lines ["_law_cells","_law_case_here"] a.f_law_lines a.d_law_lines
 law_keys : D K mg "_law_keys" s_law_keys ["_law_lines_here"] a.f_law_keys a.d_law_keys
 law_begin : D K mg "_law_begin" s_law_begin ["_law_lanes_here","_law_keys_here","_law_casting"] a.f_law_begin a.d_law_begin
 law_rests : D K mg "_law_rests" s_law_rests ["_law_now"] a.f_law_rests a.d_law_rests
 law_stuck : D K mg "_law_stuck" s_law_stuck ["_law_case_here","_law_now"] a.f_law_stuck a.d_law_stuck
 law_fall : D K mg "_law_fall" s_law_fall ["_law_case_here","_law_now"] a.f_law_fall a.d_law_fall
 law_cast : D K mg "_law_cast" s_law_cast ["_law_now"] a.f_law_cast a.d_law_cast
 law_strike : D K mg "_law_strike" s_law_strike ["_law_case_here","_law_now"] a.f_law_strike a.d_law_strike
 law_tick : D K mg "_law_tick" s_law_tick ["_law_case_here","_law_now"] a.f_law_tick a.d_law_tick
 law_same : D K mg "_law_same" s_law_same ["_law_machine","_law_case_here","_law_now"] a.f_law_same a.d_law_same
 law_turned : D K mg "_law_turned" s_law_turned ["_law_case_here","_law_cell"] a.f_law_turned a.d_law_turned
 law_broken : D K mg "_law_broken" s_law_broken ["_law_case_here","_law_cell"] a.f_law_broken a.d_law_broken
 law_lanes : D K mg "_law_lanes" s_law_lanes ["_law_case_here","_law_broken_here"] a.f_law_lanes a.d_law_lanes
 law : D K mg "law" s_law ["_law_script"] a.f_law a.d_law
 Machine : DI K mg "Machine" "Machine.__init__" s_Machine_init ["self","case","keys","casting","broken"] a.c_Machine a.f_Machine_init a.d_Machine_init
 Machine_next_key : DM K "next_key" "Machine.next_key" s_Machine_next_key ["self"] a.c_Machine a.f_Machine_next_key a.d_Machine_next_key
 Machine_lacks_matrix : DM K "lacks_matrix" "Machine.lacks_matrix" s_Machine_lacks_matrix ["self"] a.c_Machine a.f_Machine_lacks_matrix a.d_Machine_lacks_matrix
 Machine_stuck : DM K "stuck" "Machine.stuck" s_Machine_stuck ["self"] a.c_Machine a.f_Machine_stuck a.d_Machine_stuck
 Machine_resting : DM K "resting" "Machine.resting" s_Machine_resting ["self"] a.c_Machine a.f_Machine_resting a.d_Machine_resting
 Machine_move_bar : DM K "move_bar" "Machine.move_bar" s_Machine_move_bar ["self"] a.c_Machine a.f_Machine_move_bar a.d_Machine_move_bar
 Machine_move_caster : DM K "move_caster" "Machine.move_caster" s_Machine_move_caster ["self"] a.c_Machine a.f_Machine_move_caster a.d_Machine_move_caster
 Machine_move_line : DM K "move_line" "Machine.move_line" s_Machine_move_line ["self"] a.c_Machine a.f_Machine_move_line a.d_Machine_move_line
 Machine_send_line : DM K "send_line" "Machine.send_line" s_Machine_send_line ["self"] a.c_Machine a.f_Machine_send_line a.d_Machine_send_line
 Machine_take : DM K "take" "Machine.take" s_Machine_take ["self","part"] a.c_Machine a.f_Machine_take a.d_Machine_take
 Machine_tick : DM K "tick" "Machine.tick" s_Machine_tick ["self"] a.c_Machine a.f_Machine_tick a.d_Machine_tick
 Machine_ticks : DM K "ticks" "Machine.ticks" s_Machine_ticks ["self"] a.c_Machine a.f_Machine_ticks a.d_Machine_ticks
 Machine_slugs : DM K "slugs" "Machine.slugs" s_Machine_slugs ["self"] a.c_Machine a.f_Machine_slugs a.d_Machine_slugs
 Machine_waited : DM K "waited" "Machine.waited" s_Machine_waited ["self"] a.c_Machine a.f_Machine_waited a.d_Machine_waited
 Machine_channels : DM K "channels" "Machine.channels" s_Machine_channels ["self"] a.c_Machine a.f_Machine_channels a.d_Machine_channels
 Machine_gathered : DM K "gathered" "Machine.gathered" s_Machine_gathered ["self"] a.c_Machine a.f_Machine_gathered a.d_Machine_gathered
 Machine_in_caster : DM K "in_caster" "Machine.in_caster" s_Machine_in_caster ["self"] a.c_Machine a.f_Machine_in_caster a.d_Machine_in_caster
 Machine_bar : DM K "bar" "Machine.bar" s_Machine_bar ["self"] a.c_Machine a.f_Machine_bar a.d_Machine_bar
 n_Machine_lying : zbT K a.c_Machine "lying"
 n_Machine_case : zbT K a.c_Machine "case"
 n_Machine_played : zbT K a.c_Machine "played"
 n_Machine_struck : zbT K a.c_Machine "struck"
 n_Machine_casting : zbT K a.c_Machine "casting"
 n_Machine_line : zbT K a.c_Machine "line"
 n_Machine_heated : zbT K a.c_Machine "heated"
 n_Machine_to_go : zbT K a.c_Machine "to_go"
 n_Machine_hanging : zbT K a.c_Machine "hanging"
 n_Machine_texts : zbT K a.c_Machine "texts"
 n_Machine_done : zbT K a.c_Machine "done"
 n_Machine_waits : zbT K a.c_Machine "waits"
 g_GAP_KEY : mg "GAP_KEY" = some (.str " " a.t_GAP_KEY)
 g_SEND_KEY : mg "SEND_KEY" = some (.str "/" a.t_SEND_KEY)
 g_WEDGE : mg "WEDGE" = some (.str " " a.t_WEDGE)
 b_ValueError : mg "ValueError" = none
 b_bool : mg "bool" = none
 b_enumerate : mg "enumerate" = none
 b_isinstance : mg "isinstance" = none
 b_len : mg "len" = none
 b_list : mg "list" = none
 b_range : mg "range" = none
 b_sorted : mg "sorted" = none
abbrev lawLevel : Nat:=8
end
end Lw
namespace Lw
open PySem L2
set_option maxHeartbeats 4000000
section
variable {P : Program} {w : World} {K : PySem.W.Frag} {mg : Str -> Option Value} {base : Heap} {a : Ad}
local macro_rules | `(tactic| walk_at "hk")=>`(tactic| first | assumption | exact upd_same | exact zae (by assumption) _ _ _ (by walk_at "hk"))
local macro_rules | `(tactic| walk_at "rd1")=>`(tactic| first | (with_reducible refine hideAll ?_; intro Dzz σzz) | with_reducible refine gNameH ?_ | refine ⟨_,rfl,?_⟩ | refine ⟨_,_,rfl,rfl,?_⟩ | refine ⟨_,_,_,_,rfl,rfl,SqL.of (by walk_at "hk"),(by assumption),?_⟩ | refine And.intro rfl ?_ | refine And.intro (Nat.le_of_ble_eq_true rfl) ?_ | refine And.intro (by first | decide | omega) ?_ | refine And.intro ⟨by first | decide | omega,by first | decide | omega⟩ ?_ | refine And.intro (.inl ⟨by first | decide | omega,by first | decide | omega⟩) ?_ | refine And.intro (.inr ⟨by first | decide | omega,by first | decide | omega⟩) ?_ | refine ⟨_,_,rfl,SqT.of (by first | exact upd_same | assumption),rfl,?_⟩ | refine ⟨_,_,_,rfl,(by assumption),rfl,?_⟩ | refine ⟨_,_,rfl,(by assumption),?_⟩)
local macro_rules | `(tactic| walk_at "rd")=>`(tactic| repeat (walk_at "rd1"))
local macro_rules | `(tactic| walk_at "tg")=>`(tactic| refine ⟨_,_,rfl,?_⟩)
def zhg : Sp:=fun vs H Q _=>∃ c k : Int,vs = [.int c,.int k] /\ 0 <= k /\ k <= 1000000 /\ ∀ z,0 <= z -> z < 2147483647 -> Q (.int z) H
theorem zcT (T : Tx K mg a) : FnOk P w K mg base CX0 1 a.f_law_mixed a.d_law_mixed ["_law_cell","_law_k"] zhg:=by
 refine T.law_mixed.fn.ok zhv (fun vs H Q E h=>?_) (fun cdv A outer s H vs Q E hr h=>?_)
 ·obtain ⟨c,k,rfl,_⟩:=h
  rfl
 obtain ⟨c,k,rfl,h0,h1,q⟩:=h
 refine ⟨_,(zaf (zat (zaq zbm (zaq zen (zaq zaP (zaq zaP (zaq zaP (zaq zbm (pv 0) zag) (zaq zen (zaq zen zag (pv 1)) (pv 1))) (pv 1)) zag) zag) zag))),?_⟩
 walk_at "rd"
 exact q _ (Int.emod_nonneg _ (by decide)) (Int.emod_lt_of_pos _ (by decide))
theorem zne : ∀ c : Nat,c < 128 -> Mt.pc (c : Int) = ((c % 2 : Nat) : Int) + Mt.pc ((c / 2 : Nat) : Int):=by decide +kernel
def zit : Sp:=fun vs H Q _=>∃ c : Nat,vs = [.int (c : Int)] /\ c < 128 /\ Q (.int (Mt.pc (c : Int))) H
theorem zhZ (T : Tx K mg a) : FnOk P w K mg base CX0 1 a.f_law_bits a.d_law_bits ["_law_one"] zit:=by
 refine T.law_bits.fn.ok zih (fun vs H Q E h=>?_) (fun cdv A outer s H vs Q E hr h=>?_)
 ·obtain ⟨c,rfl,_⟩:=h
  rfl
 obtain ⟨c,rfl,hc,q⟩:=h
 refine ⟨_,(zab (zaC (i:=1) zih.nd rfl (Or.inl rfl) zag)
  (zab (zgG PassesOwn.never (zar znw (pv 0) zag (zao _)) (zab (zaC (i:=1) zih.nd rfl (Or.inl rfl) (zaq zaP (pv 1) (zaq zbm (pv 0) zag)))
  (zaf (zaC (i:=0) zih.nd rfl (Or.inl rfl) (zaq zcc (pv 0) zag)))))
  (zaf (zat (pv 1))))),?_⟩
 walk_at "rd"
 refine ⟨fun m σ H2=>∃ (n : Nat) (s0 : Int),σ = [some (.int (n : Int)),some (.int s0)] /\ H2 = H /\ n < 128 /\ s0 + Mt.pc (n : Int) = Mt.pc (c : Int) /\ n = m,⟨c,c,0,rfl,rfl,hc,by omega,rfl⟩,?_⟩
 rintro m σ H2 ⟨n,s0,rfl,rfl,hn,hs,rfl⟩
 walk_at "rd"
 refine ite2 (fun c1=>?_) (fun c1=>?_)
 ·have c1 : (0 : Int) < (n : Int):=of_decide_eq_true c1
  refine ⟨fun σ' H'=>∃ (n' : Nat) (s1 : Int),σ' = [some (.int (n' : Int)),some (.int s1)] /\ H' = H2 /\ n' < 128 /\ s1 + Mt.pc (n' : Int) = Mt.pc (c : Int) /\ n' < n,fun σ' H' ⟨n',s1,e1,e2,e3,e4,e5⟩=>⟨n',e5,n',s1,e1,e2,e3,e4,rfl⟩,?_⟩
  have hst:=zne n hn
  refine ⟨_,rfl,?_⟩
  refine ⟨_,rfl,?_⟩
  refine ⟨_,_,rfl,rfl,by show (0 : Int) < 2; decide,?_⟩
  refine ⟨_,_,rfl,rfl,?_⟩
  refine ⟨_,rfl,?_⟩
  walk_at "rd1"
  walk_at "rd1"
  refine ⟨n / 2,s0 + ((n % 2 : Nat) : Int),?_,rfl,by omega,by omega,by omega⟩
  rw [Int.natCast_ediv,Int.natCast_emod]
  rfl
 ·have c1 : ¬ (0 : Int) < (n : Int):=fun z=>c1 (decide_eq_true z)
  have h0 : n = 0:=by omega
  subst h0
  walk_at "rd"
  have e : s0 = Mt.pc (c : Int):=by
   have : Mt.pc ((0 : Nat) : Int) = 0:=by decide +kernel
   omega
  rw [<- e] at q
  exact q
def zfk (K : PySem.W.Frag) : Sp:=fun vs H Q _=>∃ (l : Addr) (k : Nat) (ns : List Int),vs = [.ref l,.int (k : Int)] /\ SqL K H l (ns.map V.int) /\ Q (.int (ns.getD k 0)) H
theorem zds (T : Tx K mg a) : FnOk P w K mg base CX0 1 a.f_law_cell_at a.d_law_cell_at ["_law_script","_law_k"] (zfk K):=by
 refine T.law_cell_at.fn.ok zfp (fun vs H Q E h=>?_) (fun cdv A outer s H vs Q E hr h=>?_)
 ·obtain ⟨l,k,ns,rfl,_⟩:=h
  rfl
 obtain ⟨l,k,ns,rfl,hS,q⟩:=h
 refine ⟨_,(zab (zbe (zar zka (pv 1) (zbh (zcD K rfl) rfl T.b_len zcH (zaa (pv 0) zad)) (zao _)) (zaf (zat (zaG (zav K rfl) (pv 0) (pv 1) (fun _ _=>rfl)))) zaB)
  (zaf (zat zag))),?_⟩
 walk_at "rd"
 refine ⟨l,_,rfl,.inl hS,?_⟩
 walk_at "rd"
 refine ite2 (fun c=>?_) (fun c=>?_)
 ·have c' : (k : Int) < ((ns.map V.int).length : Int):=of_decide_eq_true c
  rw [List.length_map] at c'
  have hk : k < ns.length:=by omega
  walk_at "rd"
  refine ⟨l,_,_,.int (ns.getD k 0),rfl,rfl,hS,zaL ?_,q⟩
  rw [List.getElem?_map,List.getD_eq_getElem?_getD,List.getElem?_eq_getElem hk]
  rfl
 ·have c' : ¬ (k : Int) < ((ns.map V.int).length : Int):=fun z=>c (decide_eq_true z)
  rw [List.length_map] at c'
  rw [List.getD_eq_getElem?_getD,List.getElem?_eq_none (by omega)] at q
  exact q
theorem zlB (z : Int) : ∀ zs : List Int,inV (.int z) (zs.map V.int) = decide (z ∈ zs)
 | []=>rfl
 | y :: zs=>by
   have ih:=zlB z zs
   unfold inV at ih ⊢
   rw [List.map_cons,List.any_cons,ih]
   have e : eqV (V.int y) (V.int z) = decide (z = y):=by
    show (y == z) = _
    rw [Bool.eq_iff_iff,beq_iff_eq,decide_eq_true_iff]
    exact eq_comm
   rw [e,<- Bool.decide_or,decide_eq_decide]
   exact List.mem_cons.symm
theorem zhK : ∀ zs : List Int,(zs.map V.int).all zgK = true
 | []=>rfl
 | y :: zs=>by
   rw [List.map_cons,List.all_cons,zhK zs]
   rfl
/-- how far the next number is that is not among these -/
theorem zrW {ts : List Int} (h : ts.length < 128) (c : Nat) : ∃ d,d < 128 /\ (((c + d) % 128 : Nat) : Int) ∉ ts:=by
 by_cases z : ∃ d,d < 128 /\ (((c + d) % 128 : Nat) : Int) ∉ ts
 ·exact z
 ·exfalso
  have all : ∀ d,d < 128 -> (((c + d) % 128 : Nat) : Int) ∈ ts:=fun d hd=>by
   by_cases y : (((c + d) % 128 : Nat) : Int) ∈ ts
   ·exact y
   ·exact absurd ⟨d,hd,y⟩ z
  have hn : ((List.range 128).map fun d=>(((c + d) % 128 : Nat) : Int)).Nodup:=by
   rw [List.nodup_iff_pairwise_ne,List.pairwise_map]
   refine (List.pairwise_lt_range (n:=128)).imp_of_mem fun {x y} hx hy hxy e=>?_
   have h1:=List.mem_range.mp hx
   have h2:=List.mem_range.mp hy
   omega
  have hf:=Cs.zgm hn (ys:=ts) fun x hx=>by
   obtain ⟨d,hd,e⟩:=List.mem_map.mp hx
   rw [<- e]
   exact all d (List.mem_range.mp hd)
  rw [List.length_map,List.length_range] at hf
  omega
def zhj : Sp:=fun vs H Q _=>∃ (n : Int) (m : Nat),vs = [.int n,.int (m : Int)] /\ 0 <= n /\ n < 2147483647 /\ 1 <= m /\ m <= 30 /\
 ∀ (r : Addr) (ts : List Int) (H' : Hp),H r = none -> Same H H' -> H' r = some (.lst (ts.map V.int)) -> ts.length = m -> (∀ t ∈ ts,0 <= t /\ t < 128) -> ts.Nodup -> ts.Pairwise (fun a b=>HT.zbL (Mt.rk b) (Mt.rk a) = false) -> Q (.ref r) H'
theorem zhR (T : Tx K mg a) : FnOk P w K mg base CX0 2 a.f_law_teeth a.d_law_teeth ["_law_number","_law_many"] zhj:=by
 have G_law_bits:=zhZ (P:=P) (w:=w) (base:=base) T
 refine T.law_teeth.fn.ok zhu (fun vs H Q E h=>?_) (fun cdv A outer s H vs Q E hr h=>?_)
 ·obtain ⟨n,m,rfl,_⟩:=h
  rfl
 obtain ⟨n,m,rfl,hn0,hn1,hm1,hm30,q⟩:=h
 refine ⟨_,(zab (zaC (i:=2) zhu.nd rfl (Or.inl rfl) (zax zad))
  (zab (zcG PassesOwn.never rfl (zcR rfl T.b_range (zaa (pv 1) zad)) (zam (i:=3) zhu.nd rfl (Or.inl rfl)) (zab (zaC (i:=0) zhu.nd rfl (Or.inl rfl) (zaq zbm (zaq zen (zaq zaP (zaq zaP (pv 0) (pv 3)) zag) zag) zag))
  (zab (zaC (i:=4) zhu.nd rfl (Or.inl rfl) (zaq zbm (zaq zcc (pv 0) zag) zag))
  (zab (zgG PassesOwn.never (zar (znG K rfl) (pv 4) (pv 2) (by with_unfolding_all rfl)) (zaf (zaC (i:=4) zhu.nd rfl (Or.inl rfl) (zaq zbm (zaq zaP (pv 4) zag) zag))))
  (zaf (zaH (zaY K rfl PySem.F.plainAttrs_list PySem.F.slot_list_append PySem.F.type_list_append zaN (pv 2) (zaa (pv 4) zad))))))))
  (zaf (zat (zbf rfl (zaO K rfl (zbh (znJ K rfl) rfl T.b_sorted zkj (zaa (zbf rfl (zaO K rfl (pv 2)) (BlkOk.of (N':=["_law_number","_law_many","_law_teeth_here","_law_k","_law_one"]) (ms:=[4]) (k:=0) (by rfl)) (fun _ _ _ _ _=>(zam (i:=4) (show List.Nodup (["_law_number","_law_many","_law_teeth_here","_law_k","_law_one"] : List Str) from by decide +kernel) rfl (Or.inl rfl))) (fun _ _ _ _ _=>zbH) (fun _ _ _ _ _=>(zdW (zaa (zaU T.law_bits G_law_bits hr rfl (zaa (pv 4) zad)) (zaa (pv 4) zad))))) zad))) (BlkOk.of (N':=["_law_number","_law_many","_law_teeth_here","_law_k","_law_one","_law_bits_here"]) (ms:=[4]) (k:=1) (by rfl)) (fun _ _ _ _ _=>(zbv K rfl (n:=2) rfl (zan (zam (i:=5) (show List.Nodup (["_law_number","_law_many","_law_teeth_here","_law_k","_law_one","_law_bits_here"] : List Str) from by decide +kernel) rfl (Or.inl rfl)) (zan (zam (i:=4) (show List.Nodup (["_law_number","_law_many","_law_teeth_here","_law_k","_law_one","_law_bits_here"] : List Str) from by decide +kernel) rfl (Or.inl rfl)) zbs)))) (fun _ _ _ _ _=>zbH) (fun _ _ _ _ _=>(pv 4))))))),?_⟩
 walk_at "rd"
 intro l hl
 have hs1:=zae hl (.lst [])
 have h1l : upd H l (.lst []) l = some (.lst (([] : List Int).map V.int)):=upd_same
 generalize upd H l (.lst []) = H1 at hs1 h1l ⊢
 walk_at "rd"
 refine zdV (lo:=0) (n:=((m : Nat) : Int).toNat) (fun i σ H2=>∃ (nn : Int) (ts : List Int) (v3 v4 : Option V),σ = [some (.int nn),some (.int (m : Int)),some (.ref l),v3,v4] /\ Same H H2 /\ H2 l = some (.lst (ts.map V.int)) /\ 0 <= nn /\ nn < 2147483647 /\ ts.length = i /\ (∀ t ∈ ts,0 <= t /\ t < 128) /\ ts.Nodup)
  ⟨n,[],none,none,rfl,hs1,h1l,hn0,hn1,rfl,(fun t h=>by cases h),List.nodup_nil⟩ ?_ ?_
 ·rintro i σ H2 hi ⟨nn,ts,v3,v4,rfl,hs2,h2l,hnn0,hnn1,htl,htb,htn⟩
  rw [Int.zero_add]
  walk_at "rd"
  have hnum0:=Int.emod_nonneg ((nn + (i : Int) + 1) * 69621) (show (2147483647 : Int) ≠ 0 by decide)
  have hnum1:=Int.emod_lt_of_pos ((nn + (i : Int) + 1) * 69621) (show (0 : Int) < 2147483647 by decide)
  have hc0 : 0 <= (nn + (i : Int) + 1) * 69621 % 2147483647 / 7 % 128 /\ (nn + (i : Int) + 1) * 69621 % 2147483647 / 7 % 128 < 128:=by omega
  generalize hce : (nn + (i : Int) + 1) * 69621 % 2147483647 / 7 % 128 = ce at hc0
  obtain ⟨cn,rfl⟩:=Int.eq_ofNat_of_zero_le hc0.1
  have hcn : cn < 128:=by omega
  obtain ⟨d0,hd0,hd1⟩:=zrW (ts:=ts) (by omega) cn
  have est : (([some (.int nn),some (.int (m : Int)),some (.ref l),v3,v4] : St).set 3 (some (.int (i : Int)))).set 0 (some (.int ((nn + (i : Int) + 1) * 69621 % 2147483647))) = [some (.int ((nn + (i : Int) + 1) * 69621 % 2147483647)),some (.int (m : Int)),some (.ref l),some (.int (i : Int)),v4]:=rfl
  refine ⟨fun mm σ H3=>∃ c : Nat,σ = [some (.int ((nn + (i : Int) + 1) * 69621 % 2147483647)),some (.int (m : Int)),some (.ref l),some (.int (i : Int)),some (.int (c : Int))] /\ H3 = H2 /\ c < 128 /\ (((c + mm) % 128 : Nat) : Int) ∉ ts,⟨d0,cn,by rw [<- hce]; rfl,rfl,hcn,hd1⟩,?_⟩
  rintro mm σ H3 ⟨c,rfl,rfl,hc,hmm⟩
  refine ⟨_,rfl,?_⟩
  refine ⟨_,rfl,?_⟩
  refine ⟨l,_,rfl,.inl (SqL.of h2l),rfl,zhK _,?_⟩
  rw [if_neg (by decide),zlB]
  refine ⟨_,rfl,?_⟩
  refine ite2 (fun c1=>?_) (fun c1=>?_)
  ·have c1 : (c : Int) ∈ ts:=of_decide_eq_true c1
   have hm0 : mm ≠ 0:=fun z=>by
    rw [z,Nat.add_zero,Nat.mod_eq_of_lt hc] at hmm
    exact hmm c1
   refine ⟨fun σ' H'=>∃ c' : Nat,σ' = [some (.int ((nn + (i : Int) + 1) * 69621 % 2147483647)),some (.int (m : Int)),some (.ref l),some (.int (i : Int)),some (.int (c' : Int))] /\ H' = H3 /\ c' < 128 /\ (((c' + (mm - 1)) % 128 : Nat) : Int) ∉ ts,fun σ' H' ⟨c',e1,e2,e3,e4⟩=>⟨mm - 1,by omega,c',e1,e2,e3,e4⟩,?_⟩
   refine ⟨_,rfl,?_⟩
   refine ⟨_,_,rfl,rfl,?_⟩
   refine ⟨_,_,rfl,rfl,by show (0 : Int) < 128; decide,?_⟩
   refine ⟨(c + 1) % 128,?_,rfl,Nat.mod_lt _ (by decide),?_⟩
   ·rw [Int.natCast_emod,Int.natCast_add]
    rfl
   ·rw [Nat.mod_add_mod,show c + 1 + (mm - 1) = c + mm by omega]
    exact hmm
  ·have c1 : (c : Int) ∉ ts:=fun z=>c1 (decide_eq_true z)
   refine ⟨_,rfl,?_⟩
   refine ⟨.inl ⟨rfl,_,SqL.of h2l⟩,?_⟩
   refine ⟨_,rfl,?_⟩
   refine ⟨l,_,_,rfl,rfl,h2l,zbb (by rw [List.length_map]; omega),?_⟩
   refine ⟨_,ts ++ [(c : Int)],_,_,rfl,zap hs2 hl,by rw [upd_same,List.map_append]; rfl,hnum0,hnum1,by rw [List.length_append,htl]; rfl,fun t ht=>?_,?_⟩
   ·rcases List.mem_append.mp ht with h | h
    ·exact htb t h
    ·rw [List.mem_singleton.mp h]
     omega
   ·rw [List.nodup_append]
    refine ⟨htn,by simp,fun x hx y hy=>?_⟩
    rw [List.mem_singleton.mp hy]
    exact fun e=>c1 (e ▸ hx)
 ·rintro σ H2 ⟨nn,ts,v3,v4,rfl,hs2,h2l,hnn0,hnn1,htl,htb,htn⟩
  have hmi : ((m : Nat) : Int).toNat = m:=by omega
  rw [hmi] at htl
  refine ⟨_,rfl,?_⟩
  refine ⟨l,rfl,⟨_,SqL.of h2l⟩,fun D hD=>?_⟩
  refine zaI (a:=l) (xs:=ts.map V.int) (fun i ys σ H3=>∃ (us : List TI2) (v4' : Option V),ys = zct us /\ σ = [some (.int nn),some (.int (m : Int)),some (.ref l),v3,v4'] /\ Same H2 H3 /\ H3 D = some (.lst ys) /\ us.map (·.2) = (ts.take i).map Mt.rk /\ ∀ t ∈ us,H3 t.1 = some (.tup (t.2.map V.int)))
   ?_ ?_ ?_ ?_
  ·exact ⟨[],_,rfl,rfl,zae hD _,upd_same,rfl,fun t h=>nomatch h⟩
  ·exact fun i ys σ H3 _ ⟨_,_,_,_,hs,_⟩=>hs.seq (SqL.of h2l)
  ·rintro i y ys σ H3 hy hil ⟨us,v4',rfl,rfl,hs3,hh3,hus,huu⟩
   obtain ⟨c,rfl,hci⟩:=zcC hy
   have hcb:=htb c (List.mem_of_getElem? hci)
   obtain ⟨cn,rfl⟩:=Int.eq_ofNat_of_zero_le hcb.1
   have hul : us.length <= i:=by
    have:=congrArg List.length hus
    rw [List.length_map,List.length_map,List.length_take] at this
    omega
   walk_at "rd"
   intro t ht
   have hst:=zae ht (.tup [.int (Mt.pc (cn : Int)),.int (cn : Int)])
   have hh4:=hst _ _ hh3
   have htt : upd H3 t (.tup [.int (Mt.pc (cn : Int)),.int (cn : Int)]) t = some (.tup ((Mt.rk (cn : Int)).map V.int)):=upd_same
   refine zcK (ys:=zct us) hil hh4 ?_ ⟨us ++ [(t,Mt.rk (cn : Int))],_,?_,rfl,zap (hs3.trans hst) hD,upd_same,?_,?_⟩
   ·unfold zct
    rw [List.length_map]
    rw [List.length_map] at hil
    omega
   ·unfold zct
    rw [List.map_append]
    rfl
   ·rw [List.map_append,hus,List.take_add_one,hci,List.map_append]
    rfl
   ·intro u hu
    rcases List.mem_append.mp hu with hu | hu
    ·have h1:=hst _ _ (huu u hu)
     rw [zai (zbi h1 hh4 (fun e=>by cases e))]
     exact h1
    ·rw [List.mem_singleton.mp hu]
     rw [zai (zbi htt hh4 (fun e=>by cases e))]
     exact htt
  ·rintro ys σ H3 ⟨us,v4',rfl,rfl,hs3,hh3,hus,huu⟩
   rw [List.length_map,List.take_of_length_le (Nat.le_refl _)] at hus
   have hul : us.length = ts.length:=by
    have:=congrArg List.length hus
    rw [List.length_map,List.length_map] at this
    exact this
   have hrk : ∀ t ∈ us,t.2 = Mt.rk (t.2.getD 1 0):=fun t ht=>by
    have : t.2 ∈ ts.map Mt.rk:=by rw [<- hus]; exact List.mem_map_of_mem ht
    obtain ⟨c,_,e⟩:=List.mem_map.mp this
    rw [<- e]
    rfl
   refine ⟨D,us,rfl,SqL.of hh3,fun t ht=>⟨SqT.of (huu t ht),?_⟩,by omega,fun l2 ts' hl2 hpm hpw=>?_⟩
   ·rw [hrk t ht]
    exact fun e=>nomatch e
   refine ⟨l2,rfl,⟨_,SqL.of upd_same⟩,fun D3 hD3=>?_⟩
   refine zaI (a:=l2) (xs:=zct ts') (fun i zs σ H4=>∃ (w4 w5 : Option V),zs = ((ts'.take i).map fun t=>t.2.getD 1 0).map V.int /\ σ = [some (.int nn),some (.int (m : Int)),some (.ref l),v3,w4,w5] /\ Same (upd H3 l2 (.lst (zct ts'))) H4 /\ H4 D3 = some (.lst zs))
    ?_ ?_ ?_ ?_
   ·exact ⟨_,_,rfl,rfl,zae hD3 _,upd_same⟩
   ·exact fun i zs σ H4 _ ⟨_,_,_,_,hs4,_⟩=>SqL.of (hs4 _ _ upd_same)
   ·rintro i y zs σ H4 hy hil ⟨w4,w5,rfl,rfl,hs4,hh4⟩
    have hil' : i < ts'.length:=by unfold zct at hil; rw [List.length_map] at hil; exact hil
    have hti : ts'[i]? = some ts'[i]:=List.getElem?_eq_getElem hil'
    have ey : y = .ref ts'[i].1:=by
     unfold zct at hy
     rw [List.getElem?_map,hti] at hy
     exact (Option.some.inj hy).symm
    subst ey
    have hmem : ts'[i] ∈ us:=hpm.mem_iff.mp (List.getElem_mem hil')
    have hx:=hs4 _ _ (zae hl2 (.lst (zct ts')) _ _ (huu _ hmem))
    rw [hrk _ hmem] at hx
    have hx' : H4 ts'[i].1 = some (.tup [.int (Mt.pc (ts'[i].2.getD 1 0)),.int (ts'[i].2.getD 1 0)]):=hx
    refine ⟨_,_,rfl,SqT.of hx',rfl,?_⟩
    walk_at "tg"
    walk_at "tg"
    walk_at "rd"
    refine zcK hil hh4 ?_ ⟨_,_,?_,rfl,zap hs4 hD3,upd_same⟩
    ·rw [List.length_map,List.length_map,List.length_take,hpm.length_eq,hul]
     omega
    ·rw [List.take_add_one,hti,List.map_append,List.map_append]
     rfl
   ·rintro zs σ H4 ⟨w4,w5,rfl,rfl,hs4,hh4⟩
    have e1 : (zct ts').length = ts'.length:=by unfold zct; exact List.length_map _
    rw [e1,List.take_of_length_le (Nat.le_refl _)] at hh4
    have hgd : us.map (fun t=>t.2.getD 1 0) = ts:=by
     have:=congrArg (List.map fun l : List Int=>l.getD 1 0) hus
     rw [List.map_map,List.map_map] at this
     rw [show ((fun t : TI2=>t.2.getD 1 0)) = (fun l : List Int=>l.getD 1 0) ∘ (fun t : TI2=>t.2) from rfl,this]
     exact List.map_id' ts
    have hpm' : (ts'.map fun t=>t.2.getD 1 0).Perm ts:=by
     have:=hpm.map (fun t : TI2=>t.2.getD 1 0)
     rw [hgd] at this
     exact this
    refine q D3 (ts'.map fun t=>t.2.getD 1 0) H4 ?_ ?_ hh4 ?_ ?_ ?_ ?_
    ·exact hs2.free (hs3.free ((zae hl2 _).free hD3))
    ·exact hs2.trans ((zbk hs3 hl2).trans hs4)
    ·rw [hpm'.length_eq,htl]
    ·exact fun t ht=>htb t (hpm'.mem_iff.mp ht)
    ·exact hpm'.nodup_iff.mpr htn
    ·rw [List.pairwise_map]
     refine hpw.imp_of_mem fun {x y} hx hy e=>?_
     rw [<- hrk x (hpm.mem_iff.mp hx),<- hrk y (hpm.mem_iff.mp hy)]
     exact e
/-- rows as the machine laws draw them -/
structure Row41 (most : Int) (rs : List Cs.Row) : Prop where
 l1 : 1 <= rs.length
 l2 : rs.length <= 30
 sg : ∀ r ∈ rs,∃ c ∈ Cs.signs,r.s = L2.sg c
 wd : ∀ r ∈ rs,1 <= r.w /\ r.w <= 99
 th : ∀ r ∈ rs,0 <= r.t /\ r.t < 128
 mn : ∀ r ∈ rs,0 <= r.n /\ r.n <= most
 nd : (rs.map fun r=>r.t).Nodup
 rt : (rs.map fun r=>r.t).Pairwise (fun a b=>HT.zbL (Mt.rk b) (Mt.rk a) = false)
 pl : ∀ (j : Nat) r,rs[j]? = some r -> Cs.place rs r.s = some j
def sgn (z : Int) : Nat:=Cs.signs.getD z.toNat 0
theorem zmP : ∀ k : Fin 30,atI (Str.ofString "abcdefghijklmnopqrstuvwxyz.,-'").cps.toList (k.val : Int) = some (sgn (k.val : Int)) /\ sgn (k.val : Int) ∈ Cs.signs:=by decide +kernel
theorem zrs {z : Int} (h0 : 0 <= z) (h1 : z < 30) : atI (Str.ofString "abcdefghijklmnopqrstuvwxyz.,-'").cps.toList z = some (sgn z) /\ sgn z ∈ Cs.signs:=by
 obtain ⟨k,rfl⟩:=Int.eq_ofNat_of_zero_le h0
 exact zmP ⟨k,by omega⟩
theorem zlU : ∀ j k : Fin 30,sgn (j.val : Int) = sgn (k.val : Int) -> j = k:=by decide +kernel
theorem zmY {y z : Int} (h0 : 0 <= y /\ y < 30) (h1 : 0 <= z /\ z < 30) (h : sgn y = sgn z) : y = z:=by
 obtain ⟨j,rfl⟩:=Int.eq_ofNat_of_zero_le h0.1
 obtain ⟨k,rfl⟩:=Int.eq_ofNat_of_zero_le h1.1
 have:=zlU ⟨j,by omega⟩ ⟨k,by omega⟩ h
 have:=congrArg Fin.val this
 have : j = k:=this
 omega
theorem zkk {rs : List Cs.Row} {b : Int} (hl : rs.length <= 30) (h : ∀ (j : Nat) r,rs[j]? = some r -> r.s = L2.sg (sgn ((b + 11 * (j : Int)) % 30))) : ∀ (j : Nat) r,rs[j]? = some r -> Cs.place rs r.s = some j:=fun j r hr=>by
 refine Cs.zfy hr rfl fun i r' hi hr' e=>?_
 have hjl:=(List.getElem?_eq_some_iff.mp hr).1
 rw [h i r' hr',h j r hr] at e
 have e2:=zmY (by omega) (by omega) (Mc.zjK e)
 omega
def ziI (K : PySem.W.Frag) : Sp:=fun vs H Q _=>∃ (l : Addr) (ns : List Int) (most : Int),vs = [.ref l,.int most] /\ SqL K H l (ns.map V.int) /\ 0 <= most /\ most <= 40 /\
 ∀ (r : Addr) (xs : List V) (rs : List Cs.Row) (H' : Hp),H r = none -> Same H H' -> H' r = some (.lst xs) -> Paired (Cs.zcf H') xs rs -> Row41 most rs -> Q (.ref r) H'
theorem ziB (T : Tx K mg a) : FnOk P w K mg base CX0 3 a.f_law_case a.d_law_case ["_law_script","_law_most"] (ziI K):=by
 have G_law_cell_at:=zds (P:=P) (w:=w) (base:=base) T
 have G_law_mixed:=zcT (P:=P) (w:=w) (base:=base) T
 have G_law_teeth:=zhR (P:=P) (w:=w) (base:=base) T
 refine T.law_case.fn.ok zis (fun vs H Q E h=>?_) (fun cdv A outer s H vs Q E hr h=>?_)
 ·obtain ⟨l,ns,most,rfl,_⟩:=h
  rfl
 obtain ⟨l,ns,most,rfl,hS,hm0,hm1,q⟩:=h
 refine ⟨_,(zab (zaC (i:=2) zis.nd rfl (Or.inl rfl) zaj)
  (zab (zaC (i:=3) zis.nd rfl (Or.inl rfl) (zaU T.law_mixed G_law_mixed hr rfl (zaa (zaU T.law_cell_at G_law_cell_at hr rfl (zaa (pv 0) (zaa zag zad))) (zaa zag zad))))
  (zab (zaC (i:=4) zis.nd rfl (Or.inl rfl) (zaU T.law_teeth G_law_teeth hr rfl (zaa (pv 3) (zaa (zaq zaP zag (zaq zbm (zaq zcc (pv 3) zag) zag)) zad))))
  (zab (zaC (i:=5) zis.nd rfl (Or.inl rfl) (zax zad))
  (zab (zcG PassesOwn.never rfl (zdh K rfl rfl T.b_enumerate (zaa (pv 4) zad)) (zbv K rfl (n:=2) rfl (zan (zam (i:=6) zis.nd rfl (Or.inl rfl)) (zan (zam (i:=7) zis.nd rfl (Or.inl rfl)) zbs))) (zab (zaC (i:=3) zis.nd rfl (Or.inl rfl) (zaq zbm (zaq zen (zaq zaP (zaq zaP (pv 3) (pv 6)) zag) zag) zag))
  (zab (zaC (i:=8) zis.nd rfl (Or.inl rfl) (zaG zdR (pv 2) (zaq zbm (zaq zaP (zaq zcc (zaU T.law_cell_at G_law_cell_at hr rfl (zaa (pv 0) (zaa zag zad))) zag) (zaq zen zag (pv 6))) zag) (fun _ _=>rfl)))
  (zaf (zaH (zaY K rfl PySem.F.plainAttrs_list PySem.F.slot_list_append PySem.F.type_list_append zaN (pv 5) (zaa (zdW (zaa (pv 8) (zaa (zaq zaP zag (zaq zbm (zaq zcc (pv 3) zag) zag)) (zaa (pv 7) (zaa (zaq zbm (zaq zcc (pv 3) zag) (zaq zaP (pv 1) zag)) zad))))) zad)))))))
  (zaf (zat (pv 5)))))))),?_⟩
 walk_at "rd"
 refine ⟨l,0,ns,rfl,hS,?_⟩
 walk_at "rd"
 refine ⟨_,_,rfl,by decide,by decide,fun f hf0 hf1=>?_⟩
 have hk : 0 <= f / 3 % 6 /\ f / 3 % 6 < 6:=by omega
 obtain ⟨k0,hk0⟩:=Int.eq_ofNat_of_zero_le hk.1
 walk_at "rd"
 refine ⟨f,k0 + 1,by rw [hk0]; show [V.int f,V.int (1 + (k0 : Int))] = _; rw [show (1 : Int) + (k0 : Int) = ((k0 + 1 : Nat) : Int) by omega],hf0,hf1,by omega,by omega,fun pt ts H1 hpt0 hs1 hpt htl htb htn htp=>?_⟩
 walk_at "rd"
 intro rc hrc
 have hs2:=zbk (o:=.lst []) hs1 hrc
 have hs12:=zae hrc (.lst [])
 have h2r : upd H1 rc (.lst []) rc = some (.lst []):=upd_same
 generalize upd H1 rc (.lst []) = H2 at hs2 hs12 h2r ⊢
 have hrc0:=hs1.free hrc
 refine ⟨_,rfl,?_⟩
 refine ⟨pt,rfl,⟨_,SqL.of (hs12 _ _ hpt)⟩,?_⟩
 refine zcY (a:=pt) (xs:=ts.map V.int) (fun i σ H3=>∃ (xs : List V) (rs : List Cs.Row) (nn : Int) (v6 v7 v8 : Option V),σ = [some (.ref l),some (.int most),some (.str "abcdefghijklmnopqrstuvwxyz.,-'"),some (.int nn),some (.ref pt),some (.ref rc),v6,v7,v8] /\ Same H1 H3 /\ H3 rc = some (.lst xs) /\ Paired (Cs.zcf H3) xs rs /\ 0 <= nn /\ nn < 2147483647 /\ (rs.map fun r=>r.t) = ts.take i /\ (∀ r ∈ rs,∃ c ∈ Cs.signs,r.s = sg c) /\ (∀ r ∈ rs,1 <= r.w /\ r.w <= 99) /\ (∀ r ∈ rs,0 <= r.n /\ r.n <= most) /\ (∀ (j : Nat) r,rs[j]? = some r -> r.s = sg (sgn ((ns.getD 0 0 / 7 + 11 * (j : Int)) % 30))))
  ⟨[],[],f,none,none,none,rfl,hs12,h2r,.nil,hf0,hf1,rfl,(fun r h=>by cases h),(fun r h=>by cases h),(fun r h=>by cases h),(fun j r h=>by simp at h)⟩ (by rintro i σ H3 _ ⟨_,_,_,_,_,_,_,hs,_⟩; exact hs.seq (SqL.of hpt)) ?_ ?_
 ·rintro i y tp σ H3 hy ⟨xs,rs,nn,v6,v7,v8,rfl,hs3,hhc,hpd,hn0,hn1,hmt,hsg,hwd,hmn,hsq⟩ htp0
  obtain ⟨c,rfl,hci⟩:=zcC hy
  have hil : i < ts.length:=(List.getElem?_eq_some_iff.mp hci).1
  have hxl:=Cs.zaZ hpd
  have hrl : rs.length = i:=by
   have:=congrArg List.length hmt
   rw [List.length_map,List.length_take] at this
   omega
  have hs4:=zae htp0 (.tup [.int i,.int c])
  have h4t : upd H3 tp (.tup [.int i,.int c]) tp = some (.tup [.int i,.int c]):=upd_same
  generalize upd H3 tp (.tup [.int i,.int c]) = H4 at hs4 h4t ⊢
  walk_at "rd"
  walk_at "tg"
  walk_at "tg"
  try refine And.intro rfl ?_
  walk_at "rd"
  have hnum0:=Int.emod_nonneg ((nn + (i : Int) + 1) * 48271) (show (2147483647 : Int) ≠ 0 by decide)
  have hnum1:=Int.emod_lt_of_pos ((nn + (i : Int) + 1) * 48271) (show (0 : Int) < 2147483647 by decide)
  have hs14:=hs3.trans hs4
  refine ⟨l,0,ns,rfl,(hs1.trans hs14).seq hS,?_⟩
  generalize hc1 : ns.getD 0 0 = c1 at hsq ⊢
  walk_at "rd"
  obtain ⟨ec,hcs⟩:=zrs (z:=(c1 / 7 + 11 * (i : Int)) % 30) (by omega) (by omega)
  generalize hcc : sgn ((c1 / 7 + 11 * (i : Int)) % 30) = cc at ec hcs
  refine ⟨_,_,_,rfl,rfl,by decide,ec,?_⟩
  clear ec
  have hhc4:=hs4 _ _ hhc
  refine ⟨_,rfl,?_⟩
  refine ⟨.inl ⟨rfl,_,SqL.of hhc4⟩,?_⟩
  walk_at "rd"
  intro t ht
  have hz2:=Int.emod_nonneg (((nn + (i : Int) + 1) * 48271 % 2147483647) / 500) (show most + 1 ≠ 0 by omega)
  have hz3:=Int.emod_lt_of_pos (((nn + (i : Int) + 1) * 48271 % 2147483647) / 500) (show 0 < most + 1 by omega)
  have hst:=zae ht (.tup (Cs.rowV ⟨sg cc,1 + ((nn + (i : Int) + 1) * 48271 % 2147483647) / 5 % 99,c,((nn + (i : Int) + 1) * 48271 % 2147483647) / 500 % (most + 1)⟩))
  have hhC:=hst _ _ hhc4
  have htC : upd H4 t (.tup (Cs.rowV ⟨sg cc,1 + ((nn + (i : Int) + 1) * 48271 % 2147483647) / 5 % 99,c,((nn + (i : Int) + 1) * 48271 % 2147483647) / 500 % (most + 1)⟩)) t = some (.tup (Cs.rowV ⟨sg cc,1 + ((nn + (i : Int) + 1) * 48271 % 2147483647) / 5 % 99,c,((nn + (i : Int) + 1) * 48271 % 2147483647) / 500 % (most + 1)⟩)):=upd_same
  refine ⟨rc,_,_,rfl,rfl,hhC,zbb (by omega),?_⟩
  refine ⟨xs ++ [.ref t],rs ++ [⟨sg cc,1 + ((nn + (i : Int) + 1) * 48271 % 2147483647) / 5 % 99,c,((nn + (i : Int) + 1) * 48271 % 2147483647) / 500 % (most + 1)⟩],_,_,_,_,rfl,zap (hs14.trans hst) hrc,upd_same,?_,hnum0,hnum1,?_,?_,?_,?_,?_⟩
  ·exact Paired.snoc (Cs.zjr (Cs.zaT hpd (hs4.trans hst)) hhC (fun z e=>by cases e)) ⟨t,rfl,by rw [zai (zbi htC hhC (fun e=>by cases e))]; exact htC⟩
  ·rw [List.map_append,hmt,List.take_add_one,hci]
   rfl
  ·intro r hr
   rcases List.mem_append.mp hr with h | h
   ·exact hsg r h
   ·rw [List.mem_singleton.mp h]
    exact ⟨cc,hcs,rfl⟩
  ·intro r hr
   rcases List.mem_append.mp hr with h | h
   ·exact hwd r h
   ·rw [List.mem_singleton.mp h]
    show 1 <= 1 + ((nn + (i : Int) + 1) * 48271 % 2147483647) / 5 % 99 /\ 1 + ((nn + (i : Int) + 1) * 48271 % 2147483647) / 5 % 99 <= 99
    omega
  ·intro r hr
   rcases List.mem_append.mp hr with h | h
   ·exact hmn r h
   ·rw [List.mem_singleton.mp h]
    show 0 <= ((nn + (i : Int) + 1) * 48271 % 2147483647) / 500 % (most + 1) /\ ((nn + (i : Int) + 1) * 48271 % 2147483647) / 500 % (most + 1) <= most
    omega
  ·intro j r hr
   try rw [hc1]
   by_cases hj : j < rs.length
   ·rw [List.getElem?_append_left hj] at hr
    exact hsq j r hr
   ·rw [List.getElem?_append_right (by omega)] at hr
    have hj2 : j = i:=by
     have:=(List.getElem?_eq_some_iff.mp hr).1
     have : j - rs.length < 1:=this
     omega
    rw [hj2,hrl,Nat.sub_self] at hr
    cases hr
    rw [hj2,hcc]
 ·rintro σ H3 ⟨xs,rs,nn,v6,v7,v8,rfl,hs3,hhc,hpd,hn0,hn1,hmt,hsg,hwd,hmn,hsq⟩
  have hxl:=Cs.zaZ hpd
  rw [List.length_map,List.take_of_length_le (Nat.le_refl _)] at hmt
  have hrl : rs.length = k0 + 1:=by
   have:=congrArg List.length hmt
   rw [List.length_map] at this
   omega
  refine ⟨_,rfl,?_⟩
  exact q rc xs rs H3 hrc0 (hs1.trans hs3) hhc hpd ⟨by omega,by omega,hsg,hwd,fun r hr=>htb _ (by rw [<- hmt]; exact List.mem_map_of_mem hr),hmn,by rw [hmt]; exact htn,by rw [hmt]; exact htp,zkk (by omega) hsq⟩
def zjJ : Sp:=fun vs H Q _=>∃ t o : Int,vs = [.int t,.int o] /\ 0 <= t /\ 0 <= o /\ o < 128 /\ Q (.bl (Mt.has t o)) H
theorem zjX (T : Tx K mg a) : FnOk P w K mg base CX0 1 a.f_has_all a.d_has_all ["teeth","others"] zjJ:=by
 refine T.has_all.fn.ok zfx (fun vs H Q E h=>?_) (fun cdv A outer s H vs Q E hr h=>?_)
 ·obtain ⟨t,o,rfl,_⟩:=h
  rfl
 obtain ⟨t,o,rfl,h1,h2,h3,q⟩:=h
 refine ⟨_,(zaf (zat (zaK zcO (zaq zjb (pv 0) (pv 1)) (pv 1) (zao _)))),?_⟩
 walk_at "rd"
 rw [decV,Mt.zin h1 h2 h3]
 exact q
def zia (K : PySem.W.Frag) : Sp:=fun vs H Q _=>∃ (l : Addr) (t : Int) (cs : List Int),vs = [.ref l,.int t] /\ SqL K H l (cs.map V.int) /\ (∀ c ∈ cs,0 <= c) /\ 0 <= t /\ t < 128 /\ ∀ H',Same H H' -> Q (Mt.optV (Mt.zce cs t)) H'
theorem zic (T : Tx K mg a) : FnOk P w K mg base CX0 2 a.f_falls_at a.d_falls_at ["codes","teeth"] (zia K):=by
 have G_has_all:=zjX (P:=P) (w:=w) (base:=base) T
 refine T.falls_at.fn.ok zig (fun vs H Q E h=>?_) (fun cdv A outer s H vs Q E hr h=>?_)
 ·obtain ⟨l,t,cs,rfl,_⟩:=h
  rfl
 obtain ⟨l,t,cs,rfl,hS,hc,h0,h1,q⟩:=h
 refine ⟨_,(zab (zcG PassesOwn.never rfl (zdh K rfl rfl T.b_enumerate (zaa (pv 0) zad)) (zbv K rfl (n:=2) rfl (zan (zam (i:=2) zig.nd rfl (Or.inl rfl)) (zan (zam (i:=3) zig.nd rfl (Or.inl rfl)) zbs))) (zaf (zbe (zcq (zaU T.has_all G_has_all hr rfl (zaa (pv 3) (zaa (pv 1) zad)))) (zaf (zat (pv 2))) zaB)))
  (zaf (zat zmL))),?_⟩
 walk_at "rd"
 refine ⟨⟨_,hS⟩,?_⟩
 refine zcY (a:=l) (xs:=cs.map V.int) (fun i σ H2=>∃ (v1 v2 : Option V),σ = [some (.ref l),some (.int t),v1,v2] /\ Same H H2 /\ ∀ (j : Nat) c',j < i -> cs[j]? = some c' -> Mt.has c' t = false)
  ⟨none,none,rfl,Same.refl _,fun j _ h=>absurd h (Nat.not_lt_zero _)⟩ (by rintro i σ H2 _ ⟨_,_,_,hs,_⟩; exact hs.seq hS) ?_ ?_
 ·rintro i y p σ H2 hy ⟨v1,v2,rfl,hs,hb⟩ hp
  obtain ⟨c,rfl,hci⟩:=zcC hy
  have hs2:=zbk (o:=.tup [.int i,.int c]) hs hp
  walk_at "rd"
  walk_at "tg"
  walk_at "tg"
  walk_at "rd"
  refine ⟨_,_,rfl,hc c (List.mem_of_getElem? hci),h0,h1,?_⟩
  walk_at "rd"
  cases e : Mt.has c t with
  | true =>
    refine iteT ?_
    walk_at "rd"
    have:=q _ hs2
    rw [Mt.zfG hci e hb] at this
    exact this
  | false =>
    refine iteF ?_
    refine ⟨_,_,rfl,hs2,fun j c' hj hc'=>?_⟩
    by_cases z : j = i
    ·subst z
     rw [hci] at hc'
     cases hc'
     exact e
    ·exact hb j c' (by omega) hc'
 ·rintro σ H2 ⟨v1,v2,rfl,hs,hb⟩
  have:=q _ hs
  rw [Mt.zfA (fun j c' hj=>hb j c' (by rw [List.length_map]; exact hj))] at this
  exact this
def ziO : Sp:=fun vs H Q _=>∃ t o : Int,vs = [.int t,.int o] /\ Q (.bl (decide (Builtin.bitAnd t o = o))) H
theorem ziD (T : Tx K mg a) : FnOk P w K mg base CX0 1 a.f_has_all a.d_has_all ["teeth","others"] ziO:=by
 refine T.has_all.fn.ok zfx (fun vs H Q E h=>?_) (fun cdv A outer s H vs Q E hr h=>?_)
 ·obtain ⟨t,o,rfl,_⟩:=h
  rfl
 obtain ⟨t,o,rfl,q⟩:=h
 refine ⟨_,(zaf (zat (zaK zcO (zaq zjb (pv 0) (pv 1)) (pv 1) (zao _)))),?_⟩
 walk_at "rd"
 rw [decV]
 exact q
def zgh (K : PySem.W.Frag) : Sp:=fun vs H Q _=>∃ (l : Addr) (x : Str) (rs : List Cs.Row),vs = [.ref l,.str x] /\ Cs.zeT K H l rs /\ ∀ H',Same H H' -> Q (Mt.optV (Cs.place rs x)) H'
theorem zcv (T : Tx K mg a) : FnOk P w K mg base CX0 1 a.f_channel_of a.d_channel_of ["case","sign"] (zgh K):=by
 refine T.channel_of.fn.ok zgB (fun vs H Q E h=>?_) (fun cdv A outer s H vs Q E hr h=>?_)
 ·obtain ⟨l,x,rs,rfl,_⟩:=h
  rfl
 obtain ⟨l,x,rs,rfl,⟨xs,hS,hp⟩,q⟩:=h
 refine ⟨_,(zab (zcG PassesOwn.never rfl (zdh K rfl rfl T.b_enumerate (zaa (pv 0) zad)) (zbv K rfl (n:=2) rfl (zan (zam (i:=2) zgB.nd rfl (Or.inl rfl)) (zan (zam (i:=3) zgB.nd rfl (Or.inl rfl)) zbs))) (zaf (zbe (zar zcO (zaG (zbA K rfl) (pv 3) zag (fun _ _=>rfl)) (pv 1) (zao _)) (zaf (zat (pv 2))) zaB)))
  (zaf (zat zmL))),?_⟩
 walk_at "rd"
 try refine ⟨⟨_,hS⟩,?_⟩
 refine zcY (a:=l) (xs:=xs) (fun i σ H2=>∃ (v1 v2 : Option V),σ = [some (.ref l),some (.str x),v1,v2] /\ Same H H2 /\ ∀ (j : Nat) r,j < i -> rs[j]? = some r -> r.s ≠ x)
  ⟨none,none,rfl,Same.refl _,fun j _ h=>absurd h (Nat.not_lt_zero _)⟩ (by rintro i σ H2 _ ⟨_,_,_,hs,_⟩; exact hs.seq hS) ?_ ?_
 ·rintro i y p σ H2 hy ⟨v1,v2,rfl,hs,hb⟩ hpn
  obtain ⟨r,hri,t,rfl,ht⟩:=Cs.zaM hp hy
  have hs2:=zbk (o:=.tup [.int i,.ref t]) hs hpn
  have ht2:=hs2 _ _ ht
  walk_at "rd"
  walk_at "tg"
  walk_at "tg"
  walk_at "rd"
  refine ⟨t,_,_,_,rfl,rfl,SqT.of ht2,rfl,?_⟩
  walk_at "rd"
  rw [Cs.strV]
  by_cases e : r.s = x
  ·rw [decide_eq_true e]
   refine iteT ?_
   walk_at "rd"
   have:=q _ hs2
   rw [Cs.zfy hri e hb] at this
   exact this
  ·rw [decide_eq_false e]
   refine iteF ?_
   refine ⟨_,_,rfl,hs2,fun j r' hj hr'=>?_⟩
   by_cases z : j = i
   ·subst z
    rw [hri] at hr'
    cases hr'
    exact e
   ·exact hb j r' (by omega) hr'
 ·rintro σ H2 ⟨v1,v2,rfl,hs,hb⟩
  have:=q _ hs
  rw [Cs.zfw (fun j r hj=>hb j r (by rw [Cs.zaZ hp]; exact hj))] at this
  exact this
def zhJ (K : PySem.W.Frag) : Sp:=fun vs H Q _=>∃ (l : Addr) (rs : List Cs.Row),vs = [.ref l] /\ Cs.zeT K H l rs /\ rs.length <= 1000 /\ ∀ (r : Addr) H',H r = none -> Same H H' -> H' r = some (.lst ((rs.map fun x=>x.t).map V.int)) -> Q (.ref r) H'
theorem zgX (T : Tx K mg a) : FnOk P w K mg base CX0 1 a.f_codes_of_ a.d_codes_of_ ["case"] (zhJ K):=by
 refine T.codes_of_.fn.ok zhU (fun vs H Q E h=>?_) (fun cdv A outer s H vs Q E hr h=>?_)
 ·obtain ⟨l,rs,rfl,_⟩:=h
  rfl
 obtain ⟨l,rs,rfl,⟨xs,hS,hp⟩,hl,q⟩:=h
 refine ⟨_,(zaf (zat (zbf rfl (zaO K rfl (pv 0)) (BlkOk.of (N':=["case","sign","width","teeth","many"]) (ms:=[]) (k:=4) (by rfl)) (fun _ _ _ _ _=>(zbv K rfl (n:=4) rfl (zan (zam (i:=1) (show List.Nodup (["case","sign","width","teeth","many"] : List Str) from by decide +kernel) rfl (Or.inl rfl)) (zan (zam (i:=2) (show List.Nodup (["case","sign","width","teeth","many"] : List Str) from by decide +kernel) rfl (Or.inl rfl)) (zan (zam (i:=3) (show List.Nodup (["case","sign","width","teeth","many"] : List Str) from by decide +kernel) rfl (Or.inl rfl)) (zan (zam (i:=4) (show List.Nodup (["case","sign","width","teeth","many"] : List Str) from by decide +kernel) rfl (Or.inl rfl)) zbs)))))) (fun _ _ _ _ _=>zbH) (fun _ _ _ _ _=>(pv 3))))),?_⟩
 have hxl:=Cs.zaZ hp
 walk_at "rd"
 intro D hD
 refine zaI (a:=l) (xs:=xs) (fun i ys σ H2=>∃ (v1 v2 v3 v4 : Option V),ys = ((rs.take i).map fun x=>x.t).map V.int /\ σ = [some (.ref l),v1,v2,v3,v4] /\ Same H H2 /\ H2 D = some (.lst ys))
  ?_ ?_ ?_ ?_
 ·exact ⟨none,none,none,none,rfl,rfl,zae hD _,upd_same⟩
 ·exact fun i ys σ H2 _ ⟨_,_,_,_,_,_,hs,_⟩=>hs.seq hS
 ·rintro i y ys σ H2 hy hil ⟨v1,v2,v3,v4,rfl,rfl,hs,hh⟩
  obtain ⟨r,hri,t,rfl,ht⟩:=Cs.zaM hp hy
  have ht2:=hs _ _ ht
  refine ⟨_,_,rfl,SqT.of ht2,rfl,?_⟩
  walk_at "tg"
  walk_at "tg"
  walk_at "tg"
  walk_at "tg"
  walk_at "rd"
  refine zcK hil hh ?_ ⟨_,_,_,_,?_,rfl,zap hs hD,upd_same⟩
  ·rw [List.length_map,List.length_map,List.length_take]
   omega
  ·rw [List.take_add_one,hri,List.map_append,List.map_append]
   rfl
 ·rintro ys σ H2 ⟨v1,v2,v3,v4,rfl,rfl,hs,hh⟩
  rw [hxl,List.take_of_length_le (Nat.le_refl _)] at hh
  exact q D H2 hD hs hh
abbrev MA (a : Ad) (c : Mc.Cf) (H : Hp) (p : Addr) (A : Mc.Adr) (m : Mc.Ms) : Prop:=Mc.Mac a.c_Machine zfQ c H p A m
abbrev IA (a : Ad) (H : Hp) (p : Addr) (vs : List (Option V)) : Prop:=zcA a.c_Machine zfQ H p vs
def ziR (a : Ad) : Sp:=fun vs H Q _=>∃ (p : Addr) (A : Mc.Adr) (c : Mc.Cf) (m : Mc.Ms),vs = [.ref p] /\ MA a c H p A m /\ Mc.Ok c m /\ Q (.str (Mc.keyS c m)) H
theorem zbr (T : Tx K mg a) : FnOk P w K mg base CX0 1 a.f_Machine_next_key a.d_Machine_next_key ["self"] (ziR a):=by
 refine T.Machine_next_key.fn.ok zdC (fun vs H Q E h=>?_) (fun cdv A outer s H vs Q E hr h=>?_)
 ·obtain ⟨p,A,c,m,rfl,_⟩:=h
  rfl
 obtain ⟨p,A,c,m,rfl,M,O,q⟩:=h
 have I:=M.ins
 have hxl : c.keys.cps.toList.length = c.keys.length:=Array.length_toList
 have hks:=O.cf.short
 have hsz : c.keys.length <= sizeLine:=zbG (by omega)
 refine ⟨_,(zaf (zat (zgD (zar zka (pfld (K:=K) rfl T.Machine.cl T.n_Machine_struck zaF (pv 0)) (zbh zbO rfl T.b_len zcH (zaa (pfld (K:=K) rfl T.Machine.cl T.n_Machine_played zbK (pv 0)) zad)) (zao _)) (zaG zdR (pfld (K:=K) rfl T.Machine.cl T.n_Machine_played zbK (pv 0)) (pfld (K:=K) rfl T.Machine.cl T.n_Machine_struck zaF (pv 0)) (fun _ _=>rfl)) zaj))),?_⟩
 walk_at "rd"
 unfold Mc.keyS Mc.key at q
 by_cases hl : m.at_ < c.keys.cps.toList.length
 ·rw [decide_eq_true (by omega)]
  refine iteT ?_
  walk_at "rd"
  refine ⟨_,_,_,rfl,rfl,hsz,zaL (List.getElem?_eq_getElem hl),?_⟩
  rw [List.getElem?_eq_getElem hl] at q
  exact q
 ·rw [decide_eq_false (by omega)]
  refine iteF ?_
  rw [List.getElem?_eq_none (by omega)] at q
  exact q
def zhn (a : Ad) (f : Mc.Cf -> Mc.Ms -> V) : Sp:=fun vs H Q _=>∃ (p : Addr) (A : Mc.Adr) (c : Mc.Cf) (m : Mc.Ms),vs = [.ref p] /\ MA a c H p A m /\ Mc.Ok c m /\ ∀ H',Same H H' -> Q (f c m) H'
theorem zbB (T : Tx K mg a) : FnOk P w K mg base CX0 2 a.f_Machine_lacks_matrix a.d_Machine_lacks_matrix ["self"] (zhn a fun c m=>.bl (Mc.zbI c m)):=by
 have G_channel_of:=zcv (P:=P) (w:=w) (base:=base) T
 have G_Machine_next_key:=zbr (P:=P) (w:=w) (base:=base) T
 refine T.Machine_lacks_matrix.fn.ok zcy (fun vs H Q E h=>?_) (fun cdv A outer s H vs Q E hr h=>?_)
 ·obtain ⟨p,A,c,m,rfl,_⟩:=h
  rfl
 obtain ⟨p,A,c,m,rfl,M,O,q⟩:=h
 have I:=M.ins
 refine ⟨_,(zab (zaC (i:=1) zcy.nd rfl (Or.inl rfl) (zaU T.channel_of G_channel_of hr rfl (zaa (pfld (K:=K) rfl T.Machine.cl T.n_Machine_case zbC (pv 0)) (zaa (zbg (K:=K) rfl T.Machine.cl T.Machine_next_key G_Machine_next_key hr zbw (pv 0)) zad))))
  (zaf (zat (zca (zlE (zlq (pv 1))) (zdt (zaK (keqD K rfl hr.units) (zaG (zav K rfl) (pfld (K:=K) rfl T.Machine.cl T.n_Machine_lying zbc (pv 0)) (pv 1) (fun _ _=>rfl)) (zax zad) (zao _))))))),?_⟩
 walk_at "rd"
 refine ⟨p,A,c,m,rfl,M,O,?_⟩
 walk_at "rd"
 obtain ⟨xs,hx1,hx2⟩:=M.li.rows
 refine ⟨A.c,_,c.rs,rfl,⟨xs,SqL.of hx1,hx2⟩,fun H1 hs1=>?_⟩
 have q : ∀ H',Same H H' -> Q (.bl (Mc.zbI c m)) H':=q
 cases hp : Cs.place c.rs (Mc.keyS c m) with
 | none =>
   rw [Mc.zdf hp] at q
   walk_at "rd"
   exact q H1 hs1
 | some k =>
   rw [Mc.zdZ hp] at q
   have hk:=Cs.zbJ hp
   obtain ⟨lq,l,h1,h2,h3,h4⟩:=M.lane O hk
   rw [Mc.zee h2] at q
   have M1:=M.same hs1
   have I1:=M1.ins
   refine ⟨_,rfl,?_⟩
   refine ⟨true,rfl,?_⟩
   refine iteT ?_
   refine ⟨_,rfl,?_⟩
   refine ⟨_,_,_,rfl,I1,rfl,?_⟩
   refine ⟨_,rfl,?_⟩
   refine ⟨A.L,_,(k : Int),_,rfl,rfl,SqL.of M1.li.lan,h4,?_⟩
   refine And.intro (Nat.zero_le _) fun e he=>?_
   have hs2:=zae he (.lst [])
   have h3' : Mc.LnAt (upd H1 e (.lst [])) lq l:=Mc.LnAt.keep (Mc.Keep.of_same (S:=fun _=>True) (hs1.trans hs2)) trivial h3
   refine ⟨_,_,h3'.den (O.llay h2),Mc.zaW upd_same,Mc.zaS _,?_⟩
   have q:=q _ (hs1.trans hs2)
   rw [<- Mc.zaV Mc.mxD l] at q
   exact q
theorem zcF (T : Tx K mg a) : FnOk P w K mg base CX0 3 a.f_Machine_stuck a.d_Machine_stuck ["self"] (zhn a fun c m=>.bl (Mc.zer c m)):=by
 have G_Machine_lacks_matrix:=zbB (P:=P) (w:=w) (base:=base) T
 refine T.Machine_stuck.fn.ok zew (fun vs H Q E h=>?_) (fun cdv A outer s H vs Q E hr h=>?_)
 ·obtain ⟨p,A,c,m,rfl,_⟩:=h
  rfl
 obtain ⟨p,A,c,m,rfl,M,O,q⟩:=h
 have q : ∀ H',Same H H' -> Q (.bl (Mc.zbI c m && m.heat.isEmpty && m.bar.isEmpty)) H':=q
 have I:=M.ins
 refine ⟨_,(zaf (zat (zca (zbg (K:=K) rfl T.Machine.cl T.Machine_lacks_matrix G_Machine_lacks_matrix hr zbD (pv 0)) (zca (zaK (keqD K rfl hr.units) (pfld (K:=K) rfl T.Machine.cl T.n_Machine_heated zau (pv 0)) (zax zad) (zao _)) (zdt (zaK (keqD K rfl hr.units) (pfld (K:=K) rfl T.Machine.cl T.n_Machine_hanging zaD (pv 0)) (zax zad) (zao _))))))),?_⟩
 walk_at "rd"
 refine ⟨p,A,c,m,rfl,M,O,fun H1 hs1=>?_⟩
 have M1:=M.same hs1
 have I1:=M1.ins
 refine ⟨_,rfl,?_⟩
 cases hl : Mc.zbI c m with
 | false =>
   rw [hl] at q
   refine iteF ?_
   exact q H1 hs1
 | true =>
   rw [hl] at q
   refine iteT ?_
   walk_at "rd"
   refine fun e he=>?_
   have hs2:=zae he (.lst [])
   have hs12:=hs1.trans hs2
   have M2:=M.same hs12
   refine ⟨_,_,M2.li.het.den O.hlay,Mc.zaW upd_same,Mc.zaS _,?_⟩
   rw [Mc.zaV Mc.zbU m.heat]
   generalize upd H1 e (.lst []) = H2 at hs2 hs12 M2 ⊢
   have I2:=M2.ins
   refine ⟨_,rfl,?_⟩
   cases hh : m.heat.isEmpty with
   | false =>
     rw [hh] at q
     refine iteF ?_
     exact q H2 hs12
   | true =>
     rw [hh] at q
     refine iteT ?_
     walk_at "rd"
     refine fun e he=>?_
     have hs3:=zae he (.lst [])
     have M3:=M2.same hs3
     refine ⟨_,_,M3.li.bar.den O.blay,Mc.zaW upd_same,Mc.zaS _,?_⟩
     have q:=q _ (hs12.trans hs3)
     rw [<- Mc.zaV Mc.mxD m.bar] at q
     exact q
theorem zcm (T : Tx K mg a) : FnOk P w K mg base CX0 3 a.f_Machine_resting a.d_Machine_resting ["self"] (zhn a fun c m=>.bl (Mc.zbW c m)):=by
 have G_Machine_next_key:=zbr (P:=P) (w:=w) (base:=base) T
 refine T.Machine_resting.fn.ok zdX (fun vs H Q E h=>?_) (fun cdv A outer s H vs Q E hr h=>?_)
 ·obtain ⟨p,A,c,m,rfl,_⟩:=h
  rfl
 obtain ⟨p,A,c,m,rfl,M,O,q⟩:=h
 have q : ∀ H',Same H H' -> Q (.bl ((Mc.key c m).isNone && m.line.isEmpty && m.heat.isEmpty && m.bar.isEmpty)) H':=q
 have I:=M.ins
 refine ⟨_,(zaf (zat (zca (zaK zcO (zbg (K:=K) rfl T.Machine.cl T.Machine_next_key G_Machine_next_key hr zbw (pv 0)) zaj (zao _)) (zca (zaK (keqD K rfl hr.units) (pfld (K:=K) rfl T.Machine.cl T.n_Machine_line zaR (pv 0)) (zax zad) (zao _)) (zca (zaK (keqD K rfl hr.units) (pfld (K:=K) rfl T.Machine.cl T.n_Machine_heated zau (pv 0)) (zax zad) (zao _)) (zdt (zaK (keqD K rfl hr.units) (pfld (K:=K) rfl T.Machine.cl T.n_Machine_hanging zaD (pv 0)) (zax zad) (zao _)))))))),?_⟩
 walk_at "rd"
 refine ⟨p,A,c,m,rfl,M,O,?_⟩
 walk_at "rd"
 have ek : decide (V.str (Mc.keyS c m) = V.str (Str.ofString "")) = (Mc.key c m).isNone:=by
  rw [Cs.strV]
  unfold Mc.keyS
  cases Mc.key c m with
  | none=>exact decide_eq_true rfl
  | some k=>exact decide_eq_false fun e=>by cases e
 rw [ek]
 cases hl : (Mc.key c m).isNone with
 | false =>
   rw [hl] at q
   refine iteF ?_
   exact q H (Same.refl _)
 | true =>
   rw [hl] at q
   refine iteT ?_
   walk_at "rd"
   refine fun e he=>?_
   have hs2:=zae he (.lst [])
   have M2:=M.same hs2
   refine ⟨_,_,M2.li.lin.den O.ilay,Mc.zaW upd_same,Mc.zaS _,?_⟩
   rw [Mc.zaV Mc.zbU m.line]
   generalize upd H e (.lst []) = H2 at hs2 M2 ⊢
   have I2:=M2.ins
   refine ⟨_,rfl,?_⟩
   cases hh : m.line.isEmpty with
   | false =>
     rw [hh] at q
     refine iteF ?_
     exact q H2 hs2
   | true =>
     rw [hh] at q
     refine iteT ?_
     walk_at "rd"
     refine fun e he=>?_
     have hs3:=zbk (o:=.lst []) hs2 he
     have M3:=M.same hs3
     refine ⟨_,_,M3.li.het.den O.hlay,Mc.zaW upd_same,Mc.zaS _,?_⟩
     rw [Mc.zaV Mc.zbU m.heat]
     generalize upd H2 e (.lst []) = H3 at hs3 M3 ⊢
     have I3:=M3.ins
     refine ⟨_,rfl,?_⟩
     cases hg : m.heat.isEmpty with
     | false =>
       rw [hg] at q
       refine iteF ?_
       exact q H3 hs3
     | true =>
       rw [hg] at q
       refine iteT ?_
       walk_at "rd"
       refine fun e he=>?_
       have hs4:=zbk (o:=.lst []) hs3 he
       have M4:=M.same hs4
       refine ⟨_,_,M4.li.bar.den O.blay,Mc.zaW upd_same,Mc.zaS _,?_⟩
       have q:=q _ hs4
       rw [<- Mc.zaV Mc.mxD m.bar] at q
       exact q
theorem zhf {α β : Type} {F : α -> β -> Prop} : ∀ {xs xs' : List α} {ys ys' : List β},Paired F xs ys -> Paired F xs' ys' -> Paired F (xs ++ xs') (ys ++ ys')
 | _,_,_,_,.nil,h=>h
 | _,_,_,_,.cons r t,h=>.cons r (zhf t h)
def zjn (a : Ad) (f : Mc.Cf -> Mc.Ms -> Mc.Ms) : Sp:=fun vs H Q _=>∃ (p : Addr) (A : Mc.Adr) (c : Mc.Cf) (m : Mc.Ms),vs = [.ref p] /\ MA a c H p A m /\ Mc.Ok c m /\ ∀ A' H',MA a c H' p A' (f c m) -> Mc.Step p A H A' H' -> Q .non H'
theorem zdA (T : Tx K mg a) : FnOk P w K mg base CX0 3 a.f_Machine_move_bar a.d_Machine_move_bar ["self"] (zjn a Mc.fall):=by
 have G_falls_at:=zic (P:=P) (w:=w) (base:=base) T
 have G_codes_of_:=zgX (P:=P) (w:=w) (base:=base) T
 refine T.Machine_move_bar.fn.ok zdB (fun vs H Q E h=>?_) (fun cdv A outer s H vs Q E hr h=>?_)
 ·obtain ⟨p,A,c,m,rfl,_⟩:=h
  rfl
 obtain ⟨p,A,c,m,rfl,M,O,q⟩:=h
 have I:=M.ins
 refine ⟨_,(zaf (zbe (zar (kneD K rfl hr.units) (pfld (K:=K) rfl T.Machine.cl T.n_Machine_hanging zaD (pv 0)) (zax zad) (zao _)) (zab (zaC (i:=1) zdB.nd rfl (Or.inl rfl) (zaY K rfl PySem.F.plainAttrs_list PySem.F.slot_list_pop PySem.F.type_list_pop zeF (pfld (K:=K) rfl T.Machine.cl T.n_Machine_hanging zaD (pv 0)) (zaa zag zad)))
  (zaf (zaH (zaY K rfl PySem.F.plainAttrs_list PySem.F.slot_list_append PySem.F.type_list_append zaN (zaG (zav K rfl) (pfld (K:=K) rfl T.Machine.cl T.n_Machine_lying zbc (pv 0)) (zaU T.falls_at G_falls_at hr rfl (zaa (zaU T.codes_of_ G_codes_of_ hr rfl (zaa (pfld (K:=K) rfl T.Machine.cl T.n_Machine_case zbC (pv 0)) zad)) (zaa (zaG (zbA K rfl) (pv 1) zag (fun _ _=>rfl)) zad))) (fun _ _=>rfl)) (zaa (pv 1) zad))))) zaB)),?_⟩
 walk_at "rd"
 refine fun e he=>?_
 have hs1:=zae he (.lst [])
 have M1:=M.same hs1
 refine ⟨_,_,M1.li.bar.den O.blay,Mc.zaW upd_same,Mc.zaS _,?_⟩
 rw [Mc.zaV Mc.mxD m.bar]
 generalize upd H e (.lst []) = H1 at hs1 M1 ⊢
 have I1:=M1.ins
 refine ⟨_,rfl,?_⟩
 unfold Mc.fall at q
 cases hb : m.bar with
 | nil =>
   rw [hb] at q
   refine iteF ?_
   exact q A H1 M1 (Mc.Step.of_same hs1)
 | cons x r =>
   rw [hb] at q
   obtain ⟨o1,o2,o3,o4,k,hk,hkl⟩:=O.bm x (by rw [hb]; exact List.mem_cons_self)
   have q : ∀ A' H',MA a c H' p A' (match Mt.zce (c.rs.map fun r=>r.t) x.2 with
    | some k=>{ m with bar:=r,lanes:=Mc.zcs m.lanes k x }
    | none=>m) -> Mc.Step p A H A' H' -> Q .non H':=q
   rw [hk] at q
   refine iteT ?_
   walk_at "rd"
   obtain ⟨bs,hb1,hb2⟩:=M1.li.bar
   rw [hb] at hb2
   obtain ⟨v,vs,rfl,hv,hvs⟩ : ∃ v vs,bs = v :: vs /\ Lan.zbn H1 v x /\ Paired (Lan.zbn H1) vs r:=by
    cases hb2 with
    | cons h1 h2=>exact ⟨_,_,rfl,h1,h2⟩
   refine ⟨.inl ⟨rfl,_,SqL.of hb1⟩,?_⟩
   walk_at "rd"
   refine ⟨A.b,_,0,0,v,rfl,rfl,hb1,by decide,by decide,Mc.ix0 _ _,rfl,?_⟩
   have M2 : MA a c (upd H1 A.b (.lst vs)) p A { m with bar:=r }:=M1.setBar hb1 hvs
   have hst2 : Mc.Step p A H A (upd H1 A.b (.lst vs)):=(Mc.Step.of_same hs1).trans (Mc.Step.lst (by unfold Mc.Adr.all; simp) hb1)
   have hv2:=Mc.zch (Mc.Keep.lst (o:=.lst vs) hb1) hv
   have eer : ((v :: vs).eraseIdx 0) = vs:=rfl
   rw [eer]
   generalize upd H1 A.b (.lst vs) = H2 at M2 hst2 hv2 ⊢
   have I2:=M2.ins
   obtain ⟨t,rfl,ht⟩:=hv2
   walk_at "rd"
   obtain ⟨ws,hw1,hw2⟩:=M2.li.rows
   have hfew:=O.cf.few
   refine ⟨A.c,c.rs,rfl,⟨ws,SqL.of hw1,hw2⟩,by omega,fun pr H3 hpr hs3 hr3=>?_⟩
   have M3:=M2.same hs3
   have ht3:=hs3 _ _ ht
   walk_at "rd"
   refine ⟨t,_,_,_,rfl,rfl,SqT.of ht3,rfl,?_⟩
   refine ⟨pr,x.2,_,rfl,SqL.of hr3,?_,o3,o4,fun H4 hs4=>?_⟩
   ·intro y hy
    obtain ⟨r',hr',rfl⟩:=List.mem_map.mp hy
    exact (O.cf.th r' hr').1
   rw [hk]
   have M4:=M3.same hs4
   have ht4:=hs4 _ _ ht3
   have hst4:=hst2.trans (Mc.Step.of_same (hs3.trans hs4))
   have hln : m.lanes.length = c.rs.length:=O.ln
   have hkl2 : k < m.lanes.length:=by omega
   obtain ⟨lq,hlq,hl5⟩:=Cs.zed M4.li.lns (List.getElem?_eq_getElem hkl2)
   obtain ⟨ys,hy1,hy2⟩:=hl5
   have hat : atI (A.ls.map V.ref) (k : Int) = some (.ref lq):=zaL (by rw [List.getElem?_map,hlq]; rfl)
   refine ⟨A.L,_,(k : Int),_,rfl,rfl,SqL.of M4.li.lan,hat,?_⟩
   refine ⟨.inl ⟨rfl,_,SqL.of hy1⟩,?_⟩
   refine ⟨_,rfl,?_⟩
   have hlen : ys.length <= 100000:=by
    have h1:=Paired.length hy2
    have h2:=Mc.zlz (List.getElem?_eq_getElem hkl2)
    have h3:=O.sz
    have h4:=Mc.zdx O
    unfold Mc.cnt at h3
    omega
   refine ⟨lq,ys,_,rfl,rfl,hy1,zbb hlen,?_⟩
   have ea : Mc.zcs m.lanes k x = m.lanes.set k (m.lanes[k] ++ [x]):=by
    unfold Mc.zcs
    rw [List.getElem?_eq_getElem hkl2]
   have M5 : MA a c (upd H4 lq (.lst (ys ++ [.ref t]))) p A { m with bar:=r,lanes:=m.lanes.set k (m.lanes[k] ++ [x]) }:=M4.setLane hlq hy1 (Paired.snoc hy2 ⟨t,rfl,ht4⟩)
   have q : ∀ A' H',MA a c H' p A' { m with bar:=r,lanes:=Mc.zcs m.lanes k x } -> Mc.Step p A H A' H' -> Q .non H':=q
   rw [ea] at q
   have q:=q A _ M5 (hst4.trans (Mc.Step.lst (by unfold Mc.Adr.all; simp [List.mem_of_getElem? hlq]) hy1))
   exact q
theorem zcL (T : Tx K mg a) : FnOk P w K mg base CX0 2 a.f_Machine_move_caster a.d_Machine_move_caster ["self"] (zjn a fun _ m=>Mc.cool m):=by
 refine T.Machine_move_caster.fn.ok zcI (fun vs H Q E h=>?_) (fun cdv A outer s H vs Q E hr h=>?_)
 ·obtain ⟨p,A,c,m,rfl,_⟩:=h
  rfl
 obtain ⟨p,A,c,m,rfl,M,O,q⟩:=h
 have q : ∀ A' H',MA a c H' p A' (Mc.cool m) -> Mc.Step p A H A' H' -> Q .non H':=q
 have I:=M.ins
 refine ⟨_,(zab (zbe (zar (keqD K rfl hr.units) (pfld (K:=K) rfl T.Machine.cl T.n_Machine_heated zau (pv 0)) (zax zad) (zao _)) (zaf zfV) zaB)
  (zab (zcn (K:=K) rfl T.Machine.cl T.n_Machine_to_go zbd (pv 0) (zaq zhy (pfld (K:=K) rfl T.Machine.cl T.n_Machine_to_go zbd (pv 0)) zag))
  (zaf (zbe (zar zqw (pfld (K:=K) rfl T.Machine.cl T.n_Machine_to_go zbd (pv 0)) zag (zao _)) (zab (zaH (zaY K rfl PySem.F.plainAttrs_list PySem.F.slot_list_append PySem.F.type_list_append zaN (pfld (K:=K) rfl T.Machine.cl T.n_Machine_texts zbX (pv 0)) (zaa (zaY K rfl PySem.F.plainAttrs_str PySem.F.slot_str_join PySem.F.type_str_join (zeJ K rfl) zaj (zaa (zbf rfl (zaO K rfl (pfld (K:=K) rfl T.Machine.cl T.n_Machine_heated zau (pv 0))) (BlkOk.of (N':=["self","part"]) (ms:=[]) (k:=1) (by rfl)) (fun _ _ _ _ _=>(zam (i:=1) (show List.Nodup (["self","part"] : List Str) from by decide +kernel) rfl (Or.inl rfl))) (fun _ _ _ _ _=>zbH) (fun _ _ _ _ _=>(zaG (zjq K rfl) (pv 1) zag (fun _ _=>rfl)))) zad)) zad)))
  (zab (zaH (zaY K rfl PySem.F.plainAttrs_list PySem.F.slot_list_extend PySem.F.type_list_extend zlA (pfld (K:=K) rfl T.Machine.cl T.n_Machine_hanging zaD (pv 0)) (zaa (zbf rfl (zaO K rfl (pfld (K:=K) rfl T.Machine.cl T.n_Machine_heated zau (pv 0))) (BlkOk.of (N':=["self","part"]) (ms:=[]) (k:=1) (by rfl)) (fun _ _ _ _ _=>(zam (i:=1) (show List.Nodup (["self","part"] : List Str) from by decide +kernel) rfl (Or.inl rfl))) (fun _ _ _ _ _=>(zir (zar (kneD K rfl hr.units) (pv 1) (zdv (v:=.str " ") rfl T.g_WEDGE ⟨_,rfl⟩) (zao _)))) (fun _ _ _ _ _=>(pv 1))) zad)))
  (zaf (zcn (K:=K) rfl T.Machine.cl T.n_Machine_heated zau (pv 0) (zax zad))))) zaB)))),?_⟩
 walk_at "rd"
 refine fun e he=>?_
 have hs1:=zae he (.lst [])
 have M1:=M.same hs1
 refine ⟨_,_,M1.li.het.den O.hlay,Mc.zaW upd_same,Mc.zaS _,?_⟩
 rw [Mc.zaV Mc.zbU m.heat]
 generalize upd H e (.lst []) = H1 at hs1 M1 ⊢
 have I1:=M1.ins
 refine ⟨_,rfl,?_⟩
 unfold Mc.cool at q
 cases hh : m.heat.isEmpty with
 | true =>
   rw [if_pos hh] at q
   refine iteT ?_
   exact q A H1 M1 (Mc.Step.of_same hs1)
 | false =>
   rw [if_neg (by rw [hh]; decide)] at q
   refine iteF ?_
   walk_at "rd"
   refine fun H2 I2 k2=>?_
   have I2 : IA a H2 p (Mc.vals c A { m with togo:=m.togo - 1 }):=I2
   have M2:=M1.setF I2 k2 rfl rfl rfl rfl rfl
   have st2:=(Mc.Step.of_same (p:=p) (A:=A) hs1).trans (Mc.Step.flds I1 I2 k2)
   have hne : m.heat ≠ []:=fun z=>by rw [z] at hh; cases hh
   have O2 : ∀ x,some x ∈ m.heat -> Mc.OkM c x:=O.hm
   walk_at "rd"
   by_cases ht : m.togo - 1 <= 0
   ·rw [if_pos ht] at q
    rw [decide_eq_true ht]
    refine iteT ?_
    walk_at "rd"
    have hsz:=O.sz
    have hkl:=Mc.zdx O
    unfold Mc.cnt at hsz
    obtain ⟨hv,hh1,hh2⟩:=M2.li.het
    have hh2 : Paired (Mc.zbS H2) hv m.heat:=hh2
    have hhl:=Paired.length hh2
    refine ⟨.inl ⟨rfl,_,SqL.of M2.li.txt⟩,?_⟩
    walk_at "rd"
    refine ⟨⟨_,SqL.of hh1⟩,fun D hD=>?_⟩
    refine zaI (a:=A.h) (xs:=hv) (fun i ys σ H3=>∃ (v2 : Option V),ys = ((m.heat.take i).map Mc.zaX).map V.str /\ σ = [some (.ref p),v2] /\ Same H2 H3 /\ H3 D = some (.lst ys))
     ?_ ?_ ?_ ?_
    ·exact ⟨none,rfl,rfl,zae hD _,upd_same⟩
    ·rintro i ys σ H3 hi ⟨v2,_,_,hs,_⟩
     exact hs.seq (SqL.of hh1)
    ·rintro i y ys σ H3 hy hil ⟨v2,rfl,rfl,hs,hh3⟩
     obtain ⟨pt,hpt,hpa⟩:=Mc.zdK hh2 hy
     have hpa3:=Mc.zcS (Mc.Keep.of_same (S:=fun _=>True) hs) hpa
     have hlen : (((m.heat.take i).map Mc.zaX).map V.str).length <= 100000:=by
      rw [List.length_map,List.length_map,List.length_take]
      omega
     have etk : (((m.heat.take (i + 1)).map Mc.zaX).map V.str) = (((m.heat.take i).map Mc.zaX).map V.str) ++ [V.str (Mc.zaX pt)]:=by
      rw [List.take_add_one,hpt,List.map_append,List.map_append]
      rfl
     walk_at "rd"
     cases pt with
     | none =>
       have e : y = .str " ":=hpa3
       subst e
       refine .inr ⟨_,_,32,rfl,rfl,zbG (by decide),rfl,?_⟩
       exact zcK hil hh3 hlen ⟨_,etk.symm,rfl,zap hs hD,upd_same⟩
     | some x =>
       obtain ⟨t,rfl,htt⟩:=hpa3
       refine .inl ⟨t,_,_,_,rfl,rfl,SqT.of htt,rfl,?_⟩
       exact zcK hil hh3 hlen ⟨_,etk.symm,rfl,zap hs hD,upd_same⟩
    ·rintro ys σ H3 ⟨v2,rfl,rfl,hs3,hh3⟩
     rw [hhl,List.take_of_length_le (Nat.le_refl _)] at hh3
     have M3:=M2.same hs3
     refine ⟨_,D,_,rfl,rfl,SqL.of hh3,Mc.zfF O2 (by omega),?_⟩
     have htl:=O.tx
     refine ⟨A.t,_,_,rfl,rfl,M3.li.txt,zbb (by rw [List.length_map]; show m.texts.length <= _; omega),?_⟩
     have et : (m.texts.map V.str) ++ [V.str (Txt.join (Str.ofString "") (m.heat.map Mc.zaX))] = (m.texts ++ [Mc.textOf m.heat]).map V.str:=by
      rw [List.map_append]
      rfl
     have M4 : MA a c (upd H3 A.t (.lst ((m.texts.map V.str) ++ [V.str (Txt.join (Str.ofString "") (m.heat.map Mc.zaX))]))) p A { m with togo:=m.togo - 1,texts:=m.texts ++ [Mc.textOf m.heat] }:=by
      rw [et]
      exact M3.setTxt M3.li.txt
     have st4 : Mc.Step p A H A (upd H3 A.t (.lst ((m.texts.map V.str) ++ [V.str (Txt.join (Str.ofString "") (m.heat.map Mc.zaX))]))):=(st2.trans (Mc.Step.of_same hs3)).trans (Mc.Step.lst (by unfold Mc.Adr.all; simp) M3.li.txt)
     generalize upd H3 A.t (.lst ((m.texts.map V.str) ++ [V.str (Txt.join (Str.ofString "") (m.heat.map Mc.zaX))])) = H4 at M4 st4 ⊢
     have I4:=M4.ins
     obtain ⟨hw,hw1,hw2⟩:=M4.li.het
     have hw2 : Paired (Mc.zbS H4) hw m.heat:=hw2
     have hwl:=Paired.length hw2
     obtain ⟨bv,hb1,hb2⟩:=M4.li.bar
     have hbl:=Paired.length hb2
     have hbl : bv.length = m.bar.length:=hbl
     walk_at "rd"
     refine ⟨.inl ⟨rfl,_,SqL.of hb1⟩,?_⟩
     walk_at "rd"
     refine ⟨⟨_,SqL.of hw1⟩,fun D2 hD2=>?_⟩
     refine zaI (a:=A.h) (xs:=hw) (fun i ys σ H5=>∃ (v2 : Option V),Paired (Lan.zbn H5) ys (Mc.mats (m.heat.take i)) /\ σ = [some (.ref p),v2] /\ Same H4 H5 /\ H5 D2 = some (.lst ys))
      ?_ ?_ ?_ ?_
     ·exact ⟨none,.nil,rfl,zae hD2 _,upd_same⟩
     ·rintro i ys σ H5 hi ⟨v2,_,_,hs,_⟩
      exact hs.seq (SqL.of hw1)
     ·rintro i y ys σ H5 hy hil ⟨v2,hp5,rfl,hs,hh5⟩
      obtain ⟨pt,hpt,hpa⟩:=Mc.zdK hw2 hy
      have hpa5:=Mc.zcS (Mc.Keep.of_same (S:=fun _=>True) hs) hpa
      have hmem:=List.mem_of_getElem? hpt
      have hlen : ys.length <= 100000:=by
       have h1:=Paired.length hp5
       have h2:=Mc.zdQ (m.heat.take i)
       rw [List.length_take] at h2
       omega
      walk_at "rd"
      refine ⟨_,_,Mc.zeG hpa5 (fun x e=>O.hlay x (e ▸ hmem)),.str _ (by decide +kernel),by show min _ 0 <= 64; omega,?_⟩
      refine ⟨_,rfl,?_⟩
      cases pt with
      | none =>
        have e : (if true = true then !PyData.eqv (Mc.zbU none) (.str (Str.ofString " ")) else PyData.eqv (Mc.zbU none) (.str (Str.ofString " "))) = false:=by
         show (!PyData.eqv (.str " ") (.str " ")) = false
         rw [Mc.zgf]
         rfl
        rw [e]
        refine iteF ?_
        refine znf hil ⟨_,?_,rfl,hs,hh5⟩
        rw [Mc.zdY hpt,Option.toList_none,List.append_nil]
        exact hp5
      | some x =>
        have e : (if true = true then !PyData.eqv (Mc.zbU (some x)) (.str (Str.ofString " ")) else PyData.eqv (Mc.zbU (some x)) (.str (Str.ofString " "))) = true:=rfl
        rw [e]
        refine iteT ?_
        walk_at "rd"
        refine zcK hil hh5 hlen ⟨_,?_,rfl,zap hs hD2,upd_same⟩
        rw [Mc.zdY hpt]
        exact Paired.snoc (Lan.zcb hp5 hh5) (Mc.zch (Mc.Keep.lst hh5) hpa5)
     ·rintro ys σ H5 ⟨v2,hp5,rfl,hs5,hh5⟩
      rw [hwl,List.take_of_length_le (Nat.le_refl _)] at hp5
      have M5:=M4.same hs5
      have hyl:=Paired.length hp5
      have hml:=Mc.zdQ m.heat
      refine ⟨A.b,D2,bv,ys,rfl,rfl,hs5 _ _ hb1,hh5,zbG (by omega),?_⟩
      have hb5:=Lan.zbF hb2 hs5
      have M6 : MA a c (upd H5 A.b (.lst (bv ++ ys))) p A { m with togo:=m.togo - 1,texts:=m.texts ++ [Mc.textOf m.heat],bar:=m.bar ++ Mc.mats m.heat }:=M5.setBar (hs5 _ _ hb1) (zhf hb5 hp5)
      have st6 : Mc.Step p A H A (upd H5 A.b (.lst (bv ++ ys))):=(st4.trans (Mc.Step.of_same hs5)).trans (Mc.Step.lst (by unfold Mc.Adr.all; simp) (hs5 _ _ hb1))
      generalize upd H5 A.b (.lst (bv ++ ys)) = H6 at M6 st6 ⊢
      walk_at "rd"
      refine fun e7 he7=>?_
      have hs7:=zae he7 (.lst [])
      have M7:=M6.same hs7
      have I7:=M7.ins
      have h77 : upd H6 e7 (.lst []) e7 = some (.lst []):=upd_same
      have hnew:=M6.new he7
      generalize upd H6 e7 (.lst []) = H7 at hs7 M7 I7 h77 ⊢
      walk_at "rd"
      refine fun H8 I8 k8=>?_
      have I8 : IA a H8 p (Mc.vals c { A with h:=e7 } { m with togo:=m.togo - 1,texts:=m.texts ++ [Mc.textOf m.heat],bar:=m.bar ++ Mc.mats m.heat,heat:=[] }):=I8
      have st8:=(st6.trans (Mc.Step.of_same hs7)).trans (Mc.Step.flds I7 I8 k8)
      exact q _ H8 (Mc.Mac.fields I7 I8 k8 ⟨M7.li.rows,M7.li.lan,M7.li.lns,M7.li.lin,⟨[],h77,.nil⟩,M7.li.bar,M7.li.txt⟩ (Mc.nd_h M7.nd hnew)) (st8.to (Mc.zpg (st6.free he7)))
   ·rw [if_neg ht] at q
    rw [decide_eq_false ht]
    refine iteF ?_
    exact q A H2 M2 st2
theorem zdk (T : Tx K mg a) : FnOk P w K mg base CX0 1 a.f_Machine_send_line a.d_Machine_send_line ["self"] (zjn a Mc.send):=by
 refine T.Machine_send_line.fn.ok zdp (fun vs H Q E h=>?_) (fun cdv A outer s H vs Q E hr h=>?_)
 ·obtain ⟨p,A,c,m,rfl,_⟩:=h
  rfl
 obtain ⟨p,A,c,m,rfl,M,O,q⟩:=h
 have I:=M.ins
 refine ⟨_,(zaf (zbe (zar (keqD K rfl hr.units) (pfld (K:=K) rfl T.Machine.cl T.n_Machine_heated zau (pv 0)) (zax zad) (zao _)) (zab (zcn (K:=K) rfl T.Machine.cl T.n_Machine_heated zau (pv 0) (pfld (K:=K) rfl T.Machine.cl T.n_Machine_line zaR (pv 0)))
  (zab (zcn (K:=K) rfl T.Machine.cl T.n_Machine_to_go zbd (pv 0) (pfld (K:=K) rfl T.Machine.cl T.n_Machine_casting zci (pv 0)))
  (zab (zcn (K:=K) rfl T.Machine.cl T.n_Machine_line zaR (pv 0) (zax zad))
  (zaf (zcn (K:=K) rfl T.Machine.cl T.n_Machine_struck zaF (pv 0) (zaq zaP (pfld (K:=K) rfl T.Machine.cl T.n_Machine_struck zaF (pv 0)) zag)))))) zaB)),?_⟩
 walk_at "rd"
 refine fun e he=>?_
 have hs1:=zae he (.lst [])
 have M1:=M.same hs1
 refine ⟨_,_,M1.li.het.den O.hlay,Mc.zaW upd_same,Mc.zaS _,?_⟩
 rw [Mc.zaV Mc.zbU m.heat]
 generalize upd H e (.lst []) = H1 at hs1 M1 ⊢
 have I1:=M1.ins
 refine ⟨_,rfl,?_⟩
 unfold Mc.send at q
 cases hh : m.heat.isEmpty with
 | false =>
   rw [if_neg (by rw [hh]; decide)] at q
   refine iteF ?_
   exact q A H1 M1 (Mc.Step.of_same hs1)
 | true =>
   rw [if_pos hh] at q
   refine iteT ?_
   walk_at "rd"
   refine fun H2 I2 k2=>?_
   walk_at "rd"
   refine fun H3 I3 k3=>?_
   walk_at "rd"
   refine fun e4 he4=>?_
   have hs4:=zae he4 (.lst [])
   have h44 : upd H3 e4 (.lst []) e4 = some (.lst []):=upd_same
   have I4:=I3.same hs4
   have k43 : ∀ b o,H3 b = some o -> upd H3 e4 (.lst []) b = some o:=hs4
   generalize upd H3 e4 (.lst []) = H4 at hs4 h44 I4 k43 ⊢
   walk_at "rd"
   refine fun H5 I5 k5=>?_
   walk_at "rd"
   refine fun H6 I6 k6=>?_
   have I6 : IA a H6 p (Mc.vals c { A with h:=A.l,l:=e4 } { m with heat:=m.line,togo:=c.cast,line:=[],at_:=m.at_ + 1 }):=by
    have e : ((m.at_ : Int) + 1) = ((m.at_ + 1 : Nat) : Int):=by omega
    have I6 : IA a H6 p [some (.ref A.L),some (.ref A.c),some (.str c.keys),some (.int ((m.at_ : Int) + 1)),some (.int c.cast),some (.ref e4),some (.ref A.l),some (.int c.cast),some (.ref A.b),some (.ref A.t),some (.int m.done),some (.int m.waits)]:=I6
    rw [e] at I6
    exact I6
   have k3' : ∀ b,b ≠ p -> H3 b = H1 b:=fun b hb=>(k3 b hb).trans (k2 b hb)
   have k6' : ∀ b,b ≠ p -> H6 b = H4 b:=fun b hb=>(k6 b hb).trans (k5 b hb)
   have M3 : Mc.Lists c H3 A m:=M1.li.keep (by obtain ⟨_,_,z,_⟩:=I1; exact Mc.Keep.fld z k3') (M1.pne)
   have M4 : Mc.Lists c H4 A m:=M3.keep (Mc.Keep.of_same (S:=fun _=>True) hs4) fun _ _=>trivial
   have hnew : e4 ∉ A.all:=fun z=>by
    obtain ⟨xs,ex⟩:=M3.is e4 z
    rw [he4] at ex
    cases ex
   have st3:=(Mc.Step.of_same (p:=p) (A:=A) hs1).trans (Mc.Step.flds I1 I3 k3')
   have st6:=(st3.trans (Mc.Step.of_same hs4)).trans (Mc.Step.flds I4 I6 k6')
   exact q _ H6 (Mc.Mac.fields I4 I6 k6' ⟨M4.rows,M4.lan,M4.lns,⟨[],h44,.nil⟩,M4.lin,M4.bar,M4.txt⟩ (Mc.nd_s M.nd hnew)) (st6.to (Mc.zqD (st3.free he4)))
def znb (a : Ad) : Sp:=fun vs H Q _=>∃ (p : Addr) (A : Mc.Adr) (c : Mc.Cf) (m : Mc.Ms) (v : V) (pt : Mc.Part),vs = [.ref p,v] /\ MA a c H p A m /\ Mc.zbS H v pt /\ m.line.length <= 99999 /\ ∀ A' H',MA a c H' p A' (Mc.take m pt) -> Mc.Step p A H A' H' -> Q .non H'
theorem zeW (T : Tx K mg a) : FnOk P w K mg base CX0 1 a.f_Machine_take a.d_Machine_take ["self","part"] (znb a):=by
 refine T.Machine_take.fn.ok zfb (fun vs H Q E h=>?_) (fun cdv A outer s H vs Q E hr h=>?_)
 ·obtain ⟨p,A,c,m,v,pt,rfl,_⟩:=h
  rfl
 obtain ⟨p,A,c,m,v,pt,rfl,M,hpt,hsz,q⟩:=h
 have I:=M.ins
 obtain ⟨lv,hl1,hl2⟩:=M.li.lin
 have hll:=Paired.length hl2
 refine ⟨_,(zab (zaH (zaY K rfl PySem.F.plainAttrs_list PySem.F.slot_list_append PySem.F.type_list_append zaN (pfld (K:=K) rfl T.Machine.cl T.n_Machine_line zaR (pv 0)) (zaa (pv 1) zad)))
  (zaf (zcn (K:=K) rfl T.Machine.cl T.n_Machine_struck zaF (pv 0) (zaq zaP (pfld (K:=K) rfl T.Machine.cl T.n_Machine_struck zaF (pv 0)) zag)))),?_⟩
 walk_at "rd"
 refine ⟨.inl ⟨rfl,_,SqL.of hl1⟩,?_⟩
 walk_at "rd"
 refine ⟨A.l,lv,v,rfl,rfl,hl1,zbb (by omega),?_⟩
 have M2 : MA a c (upd H A.l (.lst (lv ++ [v]))) p A { m with line:=m.line ++ [pt] }:=M.setLine hl1 (Paired.snoc hl2 hpt)
 have st2 : Mc.Step p A H A (upd H A.l (.lst (lv ++ [v]))):=Mc.Step.lst (by unfold Mc.Adr.all; simp) hl1
 generalize upd H A.l (.lst (lv ++ [v])) = H2 at M2 st2 ⊢
 have I2:=M2.ins
 walk_at "rd"
 refine fun H3 I3 k3=>?_
 have I3 : IA a H3 p (Mc.vals c A (Mc.take m pt)):=by
  have e : ((m.at_ : Int) + 1) = ((m.at_ + 1 : Nat) : Int):=by omega
  have I3 : IA a H3 p [some (.ref A.L),some (.ref A.c),some (.str c.keys),some (.int ((m.at_ : Int) + 1)),some (.int c.cast),some (.ref A.l),some (.ref A.h),some (.int m.togo),some (.ref A.b),some (.ref A.t),some (.int m.done),some (.int m.waits)]:=I3
  rw [e] at I3
  exact I3
 exact q A H3 (M2.setF I3 k3 rfl rfl rfl rfl rfl) (st2.trans (Mc.Step.flds I2 I3 k3))
theorem zdq (T : Tx K mg a) : FnOk P w K mg base CX0 3 a.f_Machine_move_line a.d_Machine_move_line ["self"] (zjn a Mc.strike):=by
 have G_Machine_next_key:=zbr (P:=P) (w:=w) (base:=base) T
 have G_Machine_send_line:=zdk (P:=P) (w:=w) (base:=base) T
 have G_Machine_take:=zeW (P:=P) (w:=w) (base:=base) T
 have G_Machine_lacks_matrix:=zbB (P:=P) (w:=w) (base:=base) T
 have G_channel_of:=zcv (P:=P) (w:=w) (base:=base) T
 refine T.Machine_move_line.fn.ok zdj (fun vs H Q E h=>?_) (fun cdv A outer s H vs Q E hr h=>?_)
 ·obtain ⟨p,A,c,m,rfl,_⟩:=h
  rfl
 obtain ⟨p,A,c,m,rfl,M,O,q⟩:=h
 have I:=M.ins
 have hsz:=O.sz
 have hkl:=Mc.zdx O
 unfold Mc.cnt at hsz
 refine ⟨_,(zab (zaC (i:=1) zdj.nd rfl (Or.inl rfl) (zbg (K:=K) rfl T.Machine.cl T.Machine_next_key G_Machine_next_key hr zbw (pv 0)))
  (zaf (zbe (zar zcO (pv 1) (zdv (v:=.str "/") rfl T.g_SEND_KEY ⟨_,rfl⟩) (zao _)) (zaf (zaH (zbg (K:=K) rfl T.Machine.cl T.Machine_send_line G_Machine_send_line hr zdl (pv 0)))) (zaf (zbe (zar zcO (pv 1) (zdv (v:=.str " ") rfl T.g_GAP_KEY ⟨_,rfl⟩) (zao _)) (zaf (zaH (zsa (K:=K) rfl T.Machine.cl T.Machine_take G_Machine_take hr zcP (pv 0) (zaa (zdv (v:=.str " ") rfl T.g_WEDGE ⟨_,rfl⟩) zad)))) (zaf (zbe (zcq (zbg (K:=K) rfl T.Machine.cl T.Machine_lacks_matrix G_Machine_lacks_matrix hr zbD (pv 0))) (zaf (zcn (K:=K) rfl T.Machine.cl T.n_Machine_waits zbq (pv 0) (zaq zaP (pfld (K:=K) rfl T.Machine.cl T.n_Machine_waits zbq (pv 0)) zag))) (zaf (zbe (zar zlw (pv 1) zaj (zao _)) (zaf (zaH (zsa (K:=K) rfl T.Machine.cl T.Machine_take G_Machine_take hr zcP (pv 0) (zaa (zaY K rfl PySem.F.plainAttrs_list PySem.F.slot_list_pop PySem.F.type_list_pop zeF (zaG (zav K rfl) (pfld (K:=K) rfl T.Machine.cl T.n_Machine_lying zbc (pv 0)) (zaU T.channel_of G_channel_of hr rfl (zaa (pfld (K:=K) rfl T.Machine.cl T.n_Machine_case zbC (pv 0)) (zaa (pv 1) zad))) (fun _ _=>rfl)) (zaa zag zad)) zad)))) zaB))))))))),?_⟩
 walk_at "rd"
 refine ⟨p,A,c,m,rfl,M,O,?_⟩
 unfold Mc.strike at q
 walk_at "rd"
 cases hk : Mc.key c m with
 | none =>
   rw [hk] at q
   have es:=Mc.zkZ hk
   have hla : Mc.zbI c m = false:=Mc.zdf (by rw [es]; exact O.cf.noWedge.2.2)
   rw [es,show decide (V.str (Str.ofString "") = V.str (Str.ofString "/")) = false from by rw [Cs.strV]; decide +kernel]
   refine iteF ?_
   walk_at "rd"
   refine ⟨p,A,c,m,rfl,M,O,fun H1 hs1=>?_⟩
   refine ⟨_,rfl,?_⟩
   rw [hla]
   refine iteF ?_
   walk_at "rd"
   try rw [show (!decide (V.str (Str.ofString "") = V.str (Str.ofString ""))) = false from by rw [decide_eq_true rfl]; rfl]
   try refine iteF ?_
   exact q A H1 (M.same hs1) (Mc.Step.of_same hs1)
 | some k =>
   rw [hk] at q
   have q : ∀ (A' : Mc.Adr) (H' : Hp),MA a c H' p A' (if k = 47 then Mc.send c m else if k = 32 then Mc.take m none else if Mc.zbI c m = true then { m with waits:=m.waits + 1 } else match Cs.place c.rs (sg k) with
    | some j=>Mc.pick m j
    | none=>m) -> Mc.Step p A H A' H' -> Q V.non H':=q
   have es:=Mc.zlg hk
   have d47 : decide (V.str (sg k) = V.str (Str.ofString "/")) = decide (k = 47):=Mc.sgD (d:=47)
   have d32 : decide (V.str (sg k) = V.str (Str.ofString " ")) = decide (k = 32):=Mc.sgD (d:=32)
   rw [es,d47]
   by_cases h47 : k = 47
   ·rw [if_pos h47] at q
    rw [decide_eq_true h47]
    refine iteT ?_
    walk_at "rd"
    exact ⟨p,A,c,m,rfl,M,O,q⟩
   ·rw [if_neg h47] at q
    rw [decide_eq_false h47]
    refine iteF ?_
    walk_at "rd"
    rw [d32]
    by_cases h32 : k = 32
    ·rw [if_pos h32] at q
     rw [decide_eq_true h32]
     refine iteT ?_
     walk_at "rd"
     exact ⟨p,A,c,m,_,none,rfl,M,rfl,by omega,q⟩
    ·rw [if_neg h32] at q
     rw [decide_eq_false h32]
     refine iteF ?_
     walk_at "rd"
     refine ⟨p,A,c,m,rfl,M,O,fun H1 hs1=>?_⟩
     have M1:=M.same hs1
     have I1:=M1.ins
     refine ⟨_,rfl,?_⟩
     cases hla : Mc.zbI c m with
     | true =>
       rw [if_pos hla] at q
       refine iteT ?_
       walk_at "rd"
       refine fun H2 I2 k2=>?_
       have I2 : IA a H2 p (Mc.vals c A { m with waits:=m.waits + 1 }):=I2
       exact q A H2 (M1.setF I2 k2 rfl rfl rfl rfl rfl) ((Mc.Step.of_same hs1).trans (Mc.Step.flds I1 I2 k2))
     | false =>
       rw [if_neg (by rw [hla]; decide)] at q
       refine iteF ?_
       obtain ⟨j,hj,x,r,hx⟩:=Mc.zpQ O hk h47 h32 hla
       rw [hj] at q
       have q : ∀ (A' : Mc.Adr) (H' : Hp),MA a c H' p A' (Mc.pick m j) -> Mc.Step p A H A' H' -> Q V.non H':=q
       have ep : Mc.pick m j = Mc.take { m with lanes:=m.lanes.set j r } (some x):=by unfold Mc.pick; rw [hx]
       rw [ep] at q
       walk_at "rd"
       obtain ⟨ws,hw1,hw2⟩:=M1.li.rows
       refine ⟨A.c,_,c.rs,rfl,⟨ws,SqL.of hw1,hw2⟩,fun H2 hs2=>?_⟩
       rw [hj]
       have M2:=M1.same hs2
       have hjl:=Cs.zbJ hj
       obtain ⟨lq,hlq,hl5⟩:=Cs.zed M2.li.lns hx
       obtain ⟨ys,hy1,hy2⟩:=hl5
       obtain ⟨v,vs,rfl,hv,hvs⟩ : ∃ v vs,ys = v :: vs /\ Lan.zbn H2 v x /\ Paired (Lan.zbn H2) vs r:=by
        cases hy2 with
        | cons h1 h2=>exact ⟨_,_,rfl,h1,h2⟩
       have hat : atI (A.ls.map V.ref) (j : Int) = some (.ref lq):=zaL (by rw [List.getElem?_map,hlq]; rfl)
       refine ⟨A.L,_,(j : Int),_,rfl,rfl,SqL.of M2.li.lan,hat,?_⟩
       refine ⟨.inl ⟨rfl,_,SqL.of hy1⟩,?_⟩
       walk_at "rd"
       refine ⟨lq,_,0,0,v,rfl,rfl,hy1,by decide,by decide,Mc.ix0 _ _,rfl,?_⟩
       have M3 : MA a c (upd H2 lq (.lst vs)) p A { m with lanes:=m.lanes.set j r }:=M2.setLane hlq hy1 hvs
       have st3 : Mc.Step p A H A (upd H2 lq (.lst vs)):=(Mc.Step.of_same (hs1.trans hs2)).trans (Mc.Step.lst (by unfold Mc.Adr.all; simp [List.mem_of_getElem? hlq]) hy1)
       have hv3:=Mc.zch (Mc.Keep.lst (o:=.lst vs) hy1) hv
       have eer : ((v :: vs).eraseIdx 0) = vs:=rfl
       rw [eer]
       generalize upd H2 lq (.lst vs) = H3 at M3 st3 hv3 ⊢
       exact ⟨p,A,c,_,v,some x,rfl,M3,hv3,by show m.line.length <= 99999; omega,fun A' H' M' s'=>q A' H' M' (st3.trans s')⟩
def znj (a : Ad) : Sp:=fun vs H Q _=>∃ (p : Addr) (A : Mc.Adr) (c : Mc.Cf) (m : Mc.Ms),vs = [.ref p] /\ MA a c H p A m /\ Mc.Ok c m /\ (Mc.zdU c m = true -> ∀ H',Same H H' -> Q (.bl false) H') /\ (Mc.zdU c m = false -> ∀ A' H',MA a c H' p A' (Mc.tick c m) -> Mc.Step p A H A' H' -> Q (.bl true) H')
theorem zeP (T : Tx K mg a) : FnOk P w K mg base CX0 4 a.f_Machine_tick a.d_Machine_tick ["self"] (znj a):=by
 have G_Machine_resting:=zcm (P:=P) (w:=w) (base:=base) T
 have G_Machine_stuck:=zcF (P:=P) (w:=w) (base:=base) T
 have G_Machine_move_bar:=zdA (P:=P) (w:=w) (base:=base) T
 have G_Machine_move_caster:=zcL (P:=P) (w:=w) (base:=base) T
 have G_Machine_move_line:=zdq (P:=P) (w:=w) (base:=base) T
 refine T.Machine_tick.fn.ok zfc (fun vs H Q E h=>?_) (fun cdv A outer s H vs Q E hr h=>?_)
 ·obtain ⟨p,A,c,m,rfl,_⟩:=h
  rfl
 obtain ⟨p,A,c,m,rfl,M,O,qf,qt⟩:=h
 have I:=M.ins
 unfold Mc.zdU at qf qt
 refine ⟨_,(zab (zbe (PW.pt (zgs (zcq (zbg (K:=K) rfl T.Machine.cl T.Machine_resting G_Machine_resting hr zby (pv 0))) (zeO (zcq (zbg (K:=K) rfl T.Machine.cl T.Machine_stuck G_Machine_stuck hr zbY (pv 0)))))) (zaf (zat zev)) zaB)
  (zab (zaH (zbg (K:=K) rfl T.Machine.cl T.Machine_move_bar G_Machine_move_bar hr zdD (pv 0)))
  (zab (zaH (zbg (K:=K) rfl T.Machine.cl T.Machine_move_caster G_Machine_move_caster hr zcJ (pv 0)))
  (zab (zaH (zbg (K:=K) rfl T.Machine.cl T.Machine_move_line G_Machine_move_line hr zdi (pv 0)))
  (zab (zcn (K:=K) rfl T.Machine.cl T.n_Machine_done zbE (pv 0) (zaq zaP (pfld (K:=K) rfl T.Machine.cl T.n_Machine_done zbE (pv 0)) zag))
  (zaf (zat zev))))))),?_⟩
 walk_at "rd"
 refine ⟨p,A,c,m,rfl,M,O,fun H1 hs1=>?_⟩
 have M1:=M.same hs1
 have I1:=M1.ins
 refine ⟨_,rfl,?_⟩
 cases hrs : Mc.zbW c m with
 | true =>
   refine iteT ?_
   exact qf (by rw [hrs]; rfl) H1 hs1
 | false =>
   refine iteF ?_
   walk_at "rd"
   refine ⟨p,A,c,m,rfl,M1,O,fun H2 hs2=>?_⟩
   have hs12:=hs1.trans hs2
   have M2:=M.same hs12
   have I2:=M2.ins
   refine ⟨_,rfl,?_⟩
   cases hst : Mc.zer c m with
   | true =>
     refine iteT ?_
     exact qf (by rw [hrs,hst]; rfl) H2 hs12
   | false =>
     refine iteF ?_
     walk_at "rd"
     refine ⟨p,A,c,m,rfl,M2,O,fun A3 H3 M3 s3=>?_⟩
     have I3:=M3.ins
     walk_at "rd"
     refine ⟨p,A3,c,_,rfl,M3,O.fall,fun A4 H4 M4 s4=>?_⟩
     have I4:=M4.ins
     walk_at "rd"
     refine ⟨p,A4,c,_,rfl,M4,O.fall.cool,fun A5 H5 M5 s5=>?_⟩
     have I5:=M5.ins
     walk_at "rd"
     refine fun H6 I6 k6=>?_
     have I6 : IA a H6 p (Mc.vals c A5 (Mc.tick c m)):=I6
     exact qt (by rw [hrs,hst]; rfl) A5 H6 (M5.setF I6 k6 rfl rfl rfl rfl rfl) (((((Mc.Step.of_same hs12).trans s3).trans s4).trans s5).trans (Mc.Step.flds I5 I6 k6))
def sp_run (a : Ad) : Sp:=fun vs H Q _=>∃ (p : Addr) (A : Mc.Adr) (c : Mc.Cf) (m : Mc.Ms),vs = [.ref p] /\ MA a c H p A m /\ Mc.Ok c m /\ ∀ A' H',MA a c H' p A' (Mc.fin c m) -> Mc.Step p A H A' H' -> Q (.int ((Mc.fin c m).done - m.done)) H'
theorem zes (T : Tx K mg a) : FnOk P w K mg base CX0 1 a.f_Machine_ticks a.d_Machine_ticks ["self"] (zhn a fun c m=>.int m.done):=by
 refine T.Machine_ticks.fn.ok zeA (fun vs H Q E h=>?_) (fun cdv A outer s H vs Q E hr h=>?_)
 ·obtain ⟨p,A,c,m,rfl,_⟩:=h
  rfl
 obtain ⟨p,A,c,m,rfl,M,O,q⟩:=h
 have I:=M.ins
 refine ⟨_,(zaf (zat (pfld (K:=K) rfl T.Machine.cl T.n_Machine_done zbE (pv 0)))),?_⟩
 walk_at "rd"
 exact q H (Same.refl _)
theorem zef (T : Tx K mg a) : FnOk P w K mg base CX0 1 a.f_Machine_waited a.d_Machine_waited ["self"] (zhn a fun c m=>.int m.waits):=by
 refine T.Machine_waited.fn.ok zej (fun vs H Q E h=>?_) (fun cdv A outer s H vs Q E hr h=>?_)
 ·obtain ⟨p,A,c,m,rfl,_⟩:=h
  rfl
 obtain ⟨p,A,c,m,rfl,M,O,q⟩:=h
 have I:=M.ins
 refine ⟨_,(zaf (zat (pfld (K:=K) rfl T.Machine.cl T.n_Machine_waits zbq (pv 0)))),?_⟩
 walk_at "rd"
 exact q H (Same.refl _)
def zeS (a : Ad) (F : Mc.Cf -> Mc.Ms -> Hp -> Hp -> Addr -> Prop) : Sp:=fun vs H Q _=>∃ (p : Addr) (A : Mc.Adr) (c : Mc.Cf) (m : Mc.Ms),vs = [.ref p] /\ MA a c H p A m /\ Mc.Ok c m /\ ∀ r H',H r = none -> Same H H' -> F c m H H' r -> Q (.ref r) H'
theorem zex (T : Tx K mg a) : FnOk P w K mg base CX0 1 a.f_Machine_slugs a.d_Machine_slugs ["self"] (zeS a fun c m H H' r=>H' r = some (.lst (m.texts.map V.str))):=by
 refine T.Machine_slugs.fn.ok zey (fun vs H Q E h=>?_) (fun cdv A outer s H vs Q E hr h=>?_)
 ·obtain ⟨p,A,c,m,rfl,_⟩:=h
  rfl
 obtain ⟨p,A,c,m,rfl,M,O,q⟩:=h
 have I:=M.ins
 refine ⟨_,(zaf (zat (zbR (zcg K rfl) rfl T.b_list zcU (zaa (pfld (K:=K) rfl T.Machine.cl T.n_Machine_texts zbX (pv 0)) zad)))),?_⟩
 walk_at "rd"
 refine ⟨A.t,_,rfl,.inl (SqL.of M.li.txt),fun r hr=>?_⟩
 exact q r _ hr (zae hr _) upd_same
theorem zdy (T : Tx K mg a) : FnOk P w K mg base CX0 1 a.f_Machine_gathered a.d_Machine_gathered ["self"] (zeS a fun c m H H' r=>Mc.zik H' r m.line):=by
 refine T.Machine_gathered.fn.ok zdG (fun vs H Q E h=>?_) (fun cdv A outer s H vs Q E hr h=>?_)
 ·obtain ⟨p,A,c,m,rfl,_⟩:=h
  rfl
 obtain ⟨p,A,c,m,rfl,M,O,q⟩:=h
 have I:=M.ins
 obtain ⟨xs,h1,h2⟩:=M.li.lin
 refine ⟨_,(zaf (zat (zbR (zcg K rfl) rfl T.b_list zcU (zaa (pfld (K:=K) rfl T.Machine.cl T.n_Machine_line zaR (pv 0)) zad)))),?_⟩
 walk_at "rd"
 refine ⟨A.l,_,rfl,.inl (SqL.of h1),fun r hr=>?_⟩
 have hs:=zae hr (.lst xs)
 exact q r _ hr hs ⟨xs,upd_same,Mc.zco (Mc.Keep.of_same (S:=fun _=>True) hs) h2⟩
theorem zdo (T : Tx K mg a) : FnOk P w K mg base CX0 1 a.f_Machine_in_caster a.d_Machine_in_caster ["self"] (zeS a fun c m H H' r=>Mc.zik H' r m.heat):=by
 refine T.Machine_in_caster.fn.ok zdm (fun vs H Q E h=>?_) (fun cdv A outer s H vs Q E hr h=>?_)
 ·obtain ⟨p,A,c,m,rfl,_⟩:=h
  rfl
 obtain ⟨p,A,c,m,rfl,M,O,q⟩:=h
 have I:=M.ins
 obtain ⟨xs,h1,h2⟩:=M.li.het
 refine ⟨_,(zaf (zat (zbR (zcg K rfl) rfl T.b_list zcU (zaa (pfld (K:=K) rfl T.Machine.cl T.n_Machine_heated zau (pv 0)) zad)))),?_⟩
 walk_at "rd"
 refine ⟨A.h,_,rfl,.inl (SqL.of h1),fun r hr=>?_⟩
 have hs:=zae hr (.lst xs)
 exact q r _ hr hs ⟨xs,upd_same,Mc.zco (Mc.Keep.of_same (S:=fun _=>True) hs) h2⟩
theorem zfs (T : Tx K mg a) : FnOk P w K mg base CX0 1 a.f_Machine_bar a.d_Machine_bar ["self"] (zeS a fun c m H H' r=>Mc.LnAt H' r m.bar):=by
 refine T.Machine_bar.fn.ok zft (fun vs H Q E h=>?_) (fun cdv A outer s H vs Q E hr h=>?_)
 ·obtain ⟨p,A,c,m,rfl,_⟩:=h
  rfl
 obtain ⟨p,A,c,m,rfl,M,O,q⟩:=h
 have I:=M.ins
 obtain ⟨xs,h1,h2⟩:=M.li.bar
 refine ⟨_,(zaf (zat (zbR (zcg K rfl) rfl T.b_list zcU (zaa (pfld (K:=K) rfl T.Machine.cl T.n_Machine_hanging zaD (pv 0)) zad)))),?_⟩
 walk_at "rd"
 refine ⟨A.b,_,rfl,.inl (SqL.of h1),fun r hr=>?_⟩
 have hs:=zae hr (.lst xs)
 exact q r _ hr hs ⟨xs,upd_same,Mc.zbQ (Mc.Keep.of_same (S:=fun _=>True) hs) h2⟩
/-- new lists of matrices -/
def zmU (H H' : Hp) (r : Addr) (ms : List (List Mc.Mx)) : Prop:=∃ ls : List Addr,H' r = some (.lst (ls.map V.ref)) /\ Paired (Mc.LnAt H') ls ms /\ (r :: ls).Nodup /\ ∀ z ∈ ls,H z = none
theorem zdw (T : Tx K mg a) : FnOk P w K mg base CX0 1 a.f_Machine_channels a.d_Machine_channels ["self"] (zeS a fun c m H H' r=>zmU H H' r m.lanes):=by
 refine T.Machine_channels.fn.ok zdz (fun vs H Q E h=>?_) (fun cdv A outer s H vs Q E hr h=>?_)
 ·obtain ⟨p,A,c,m,rfl,_⟩:=h
  rfl
 obtain ⟨p,A,c,m,rfl,M,O,q⟩:=h
 have I:=M.ins
 have hll:=Paired.length M.li.lns
 have hln:=O.ln
 have hfew:=O.cf.few
 refine ⟨_,(zaf (zat (zbf rfl (zaO K rfl (pfld (K:=K) rfl T.Machine.cl T.n_Machine_lying zbc (pv 0))) (BlkOk.of (N':=["self","matrices"]) (ms:=[]) (k:=1) (by rfl)) (fun _ _ _ _ _=>(zam (i:=1) (show List.Nodup (["self","matrices"] : List Str) from by decide +kernel) rfl (Or.inl rfl))) (fun _ _ _ _ _=>zbH) (fun _ _ _ _ _=>(zbR (zcg K rfl) rfl T.b_list zcU (zaa (pv 1) zad)))))),?_⟩
 walk_at "rd"
 refine ⟨⟨_,SqL.of M.li.lan⟩,fun D hD=>?_⟩
 refine zaI (a:=A.L) (xs:=A.ls.map V.ref) (fun i ys σ H2=>∃ (v2 : Option V) (ls : List Addr),ys = ls.map V.ref /\ σ = [some (.ref p),v2] /\ Same H H2 /\ H2 D = some (.lst ys) /\ Paired (Mc.LnAt H2) ls (m.lanes.take i) /\ (D :: ls).Nodup /\ ∀ z ∈ ls,H z = none)
  ?_ ?_ ?_ ?_
 ·exact ⟨none,[],rfl,rfl,zae hD _,upd_same,.nil,by simp,fun z hz=>nomatch hz⟩
 ·rintro i ys σ H2 hi ⟨_,_,_,_,hs,_⟩
  exact hs.seq (SqL.of M.li.lan)
 ·rintro i y ys σ H2 hy hil ⟨v2,ls,rfl,rfl,hs,hh,hp,hn,hf⟩
  rw [List.getElem?_map] at hy
  obtain ⟨q1,hq1,rfl⟩:=Option.map_eq_some_iff.mp hy
  obtain ⟨l,hl,xs,hx1,hx2⟩:=Cs.zaM M.li.lns hq1
  have hlp:=Paired.length hp
  rw [List.length_take] at hlp
  rw [List.length_map] at hil
  walk_at "rd"
  refine ⟨q1,xs,rfl,.inl (SqL.of (hs _ _ hx1)),fun r hr=>?_⟩
  have hsr:=zae hr (.lst xs)
  have hrr : upd H2 r (.lst xs) r = some (.lst xs):=upd_same
  generalize upd H2 r (.lst xs) = H3 at hsr hrr ⊢
  have hh3:=hsr _ _ hh
  have hrD : r ≠ D:=fun e=>by rw [e,hh] at hr; cases hr
  have kp : Mc.Keep (fun b=>b ≠ D) H3 (upd H3 D (.lst (ls.map V.ref ++ [V.ref r]))):=Mc.Keep.lst hh3
  obtain ⟨hn1,hn2⟩:=List.nodup_cons.mp hn
  have hrl : r ∉ ls:=fun z=>by
   obtain ⟨k,hk,e⟩:=List.getElem_of_mem z
   obtain ⟨_,_,ws,hw,_⟩:=Cs.zaM hp (List.getElem?_eq_getElem hk)
   rw [e,hr] at hw
   cases hw
  have hm3:=Mc.zbQ (Mc.Keep.of_same (S:=fun _=>True) (hs.trans hsr)) hx2
  have h33:=Mc.zbl (Mc.Keep.of_same (S:=fun _=>True) hsr) (fun _ _=>trivial) hp
  refine zcK (by rw [List.length_map]; exact hil) hh3 (by rw [List.length_map]; omega) ⟨_,ls ++ [r],by rw [List.map_append]; rfl,rfl,zap (hs.trans hsr) hD,upd_same,?_,?_,?_⟩
  ·rw [List.take_add_one,hl]
   exact Paired.snoc (Mc.zbl kp (fun z hz e=>hn1 (e ▸ hz)) h33) ⟨xs,kp _ _ hrr (.inl hrD),Mc.zbQ kp hm3⟩
  ·rw [List.nodup_cons,List.nodup_append]
   refine ⟨fun z=>?_,hn2,by simp,fun x hx y hy e=>?_⟩
   ·rcases List.mem_append.mp z with z | z
    ·exact hn1 z
    ·exact hrD (List.mem_singleton.mp z).symm
   ·rw [List.mem_singleton.mp hy] at e
    exact hrl (e ▸ hx)
  ·intro z hz
   rcases List.mem_append.mp hz with hz | hz
   ·exact hf z hz
   ·rw [List.mem_singleton.mp hz]
    exact hs.free hr
 ·rintro ys σ H2 ⟨v2,ls,rfl,rfl,hs,hh,hp,hn,hf⟩
  rw [List.length_map,hll,List.take_of_length_le (Nat.le_refl _)] at hp
  exact q D H2 hD hs ⟨ls,hh,hp,hn,hf⟩
/-- whether one more matrix of a channel can be broken so -/
def zaA (rs : List Cs.Row) (ah : List Int) (ch te : Int) : Bool :=
 if 0 <= ch /\ ch < rs.length then (match rs[ch.toNat]? with
  | some r=>decide ((ah.count ch : Int) < r.n) && decide (1 <= te) && decide (Builtin.bitAnd r.t te = te)
  | none=>false)
 else false
def zhF (K : PySem.W.Frag) : Sp:=fun vs H Q _=>∃ (c h : Addr) (ch te : Int) (rs : List Cs.Row) (ah : List Int),vs = [.ref c,.ref h,.int ch,.int te] /\ Cs.zeT K H c rs /\ H h = some (.lst (ah.map V.int)) /\ rs.length <= 1000 /\ ∀ H',Same H H' -> Q (.bl (zaA rs ah ch te)) H'
theorem zhz (T : Tx K mg a) : FnOk P w K mg base CX0 2 a.f_can_break a.d_can_break ["case","ahead","channel","teeth"] (zhF K):=by
 have G_has_all:=ziD (P:=P) (w:=w) (base:=base) T
 refine T.can_break.fn.ok zgW (fun vs H Q E h=>?_) (fun cdv A outer s H vs Q E hr h=>?_)
 ·obtain ⟨c,h,ch,te,rs,ah,rfl,_⟩:=h
  rfl
 obtain ⟨c,h,ch,te,rs,ah,rfl,⟨xs,hS,hpd⟩,hah,hrl,q⟩:=h
 have hxl:=Cs.zaZ hpd
 have qf : zaA rs ah ch te = false -> Q (.bl false) H:=fun e=>by have:=q H (Same.refl _); rw [e] at this; exact this
 refine ⟨_,(zab (zbe (zfC (zmu zqw zka zag (pv 2) (zbh (zcD K rfl) rfl T.b_len zcH (zaa (pv 0) zad)))) (zaf (zat zev)) zaB)
  (zab (zeo (zaG (zav K rfl) (pv 0) (pv 2) (fun _ _=>rfl)) (zbv K rfl (n:=4) rfl (zan (zam (i:=4) zgW.nd rfl (Or.inl rfl)) (zan (zam (i:=5) zgW.nd rfl (Or.inl rfl)) (zan (zam (i:=6) zgW.nd rfl (Or.inl rfl)) (zan (zam (i:=7) zgW.nd rfl (Or.inl rfl)) zbs))))))
  (zaf (zat (zca (zaK zka (zaY K rfl PySem.F.plainAttrs_list PySem.F.slot_list_count PySem.F.type_list_count zjd (pv 1) (zaa (pv 2) zad)) (pv 7) (zao _)) (zca (zaK zul (pv 3) zag (zao _)) (zdt (zaU T.has_all G_has_all hr rfl (zaa (pv 6) (zaa (pv 3) zad)))))))))),?_⟩
 refine ⟨_,rfl,?_⟩
 refine ⟨_,_,rfl,rfl,?_⟩
 refine ⟨_,rfl,?_⟩
 refine ite2 (fun c1=>?_) (fun c1=>?_)
 ·have c1 : 0 <= ch:=of_decide_eq_true c1
  refine ⟨_,rfl,?_⟩
  refine ⟨c,_,rfl,.inl hS,?_⟩
  refine ⟨_,_,rfl,rfl,?_⟩
  refine ⟨_,rfl,?_⟩
  by_cases c2 : ch < (xs.length : Int)
  ·rw [decide_eq_true c2]
   refine iteF ?_
   obtain ⟨k,rfl⟩:=Int.eq_ofNat_of_zero_le c1
   have hxk : xs[k]? = some (xs[k]'(by omega)):=List.getElem?_eq_getElem _
   obtain ⟨r,hrk,t,et,ht⟩:=Cs.zaM hpd hxk
   rw [et] at hxk
   have ek : atI xs (k : Int) = some (.ref t):=zaL hxk
   have eB : zaA rs ah (k : Int) te = (decide ((ah.count (k : Int) : Int) < r.n) && decide (1 <= te) && decide (Builtin.bitAnd r.t te = te)):=by
    unfold zaA
    rw [if_pos ⟨by omega,by omega⟩,Int.toNat_natCast,hrk]
   have q:=q H (Same.refl _)
   rw [eB] at q
   clear qf
   refine ⟨_,rfl,?_⟩
   refine ⟨_,rfl,?_⟩
   refine ⟨c,_,_,_,rfl,rfl,hS,ek,?_⟩
   clear ek
   refine ⟨_,_,rfl,SqT.of ht,rfl,?_⟩
   walk_at "tg"
   walk_at "tg"
   walk_at "tg"
   walk_at "tg"
   refine And.intro rfl ?_
   refine ⟨_,rfl,?_⟩
   refine ⟨.inl ⟨rfl,_,SqL.of hah⟩,?_⟩
   refine ⟨_,rfl,?_⟩
   refine ⟨h,ah,_,rfl,rfl,hah,?_⟩
   refine ⟨_,rfl,?_⟩
   refine ⟨_,_,rfl,rfl,?_⟩
   refine ⟨_,rfl,?_⟩
   by_cases c3 : (ah.count (k : Int) : Int) < r.n
   ·rw [decide_eq_true c3] at q ⊢
    refine iteT ?_
    refine ⟨_,rfl,?_⟩
    refine ⟨_,_,rfl,rfl,?_⟩
    refine ⟨_,rfl,?_⟩
    by_cases c4 : 1 <= te
    ·rw [decide_eq_true c4] at q ⊢
     refine iteT ?_
     refine ⟨_,rfl,?_⟩
     refine ⟨_,rfl,?_⟩
     exact ⟨r.t,te,rfl,q⟩
    ·rw [decide_eq_false c4] at q ⊢
     refine iteF ?_
     exact q
   ·rw [decide_eq_false c3] at q ⊢
    refine iteF ?_
    exact q
  ·rw [decide_eq_false c2]
   refine iteT ?_
   exact qf (by unfold zaA; rw [if_neg (fun z=>c2 (by have:=z.2; omega))])
 ·have c1 : ¬ 0 <= ch:=fun z=>c1 (decide_eq_true z)
  try refine ⟨_,rfl,?_⟩
  try refine iteT ?_
  exact qf (by unfold zaA; rw [if_neg (fun z=>c1 z.1)])
open Lan in
/-- matrices as they lie at first -/
def zaQ (rs : List Cs.Row) : List (List Mx):=rs.map fun r=>List.replicate r.n.toNat (r.s,r.t)
open Lan in
def setLane (rs : List Cs.Row) (ls : List (List Mx)) (ah : List Int) (b : Int × Int) : List (List Mx) :=
 match rs[b.1.toNat]?,ls[b.1.toNat]? with
 | some r,some m=>ls.set b.1.toNat (m.set (ah.count b.1) (r.s,r.t - b.2))
 | _,_=>ls
open Lan in
def zkR (rs : List Cs.Row) (st : Option (List (List Mx) × List Int)) (b : Int × Int) : Option (List (List Mx) × List Int) :=
 st.bind fun s=>if zaA rs s.2 b.1 b.2 = true then some (setLane rs s.1 s.2 b,s.2 ++ [b.1]) else none
open Lan in
def after (rs : List Cs.Row) (bs : List (Int × Int)) (k : Nat) : Option (List (List Mx) × List Int):=(bs.take k).foldl (zkR rs) (some (zaQ rs,[]))
theorem zda (rs : List Cs.Row) (bs : List (Int × Int)) : after rs bs 0 = some (zaQ rs,[]):=rfl
theorem zcr {rs : List Cs.Row} {bs : List (Int × Int)} {k : Nat} {b : Int × Int} (h : bs[k]? = some b) : after rs bs (k + 1) = zkR rs (after rs bs k) b:=by
 unfold after
 rw [List.take_add_one,h]
 show List.foldl (zkR rs) _ (bs.take k ++ [b]) = _
 rw [List.foldl_append]
 rfl
open Lan in
/-- what is told of broken matrices -/
inductive Told40 (rs : List Cs.Row) (bs : List (Int × Int)) : Sum Nat (List (List Mx)) -> Prop
 | bad {k : Nat} {ls : List (List Mx)} {ah : List Int} {b : Int × Int} : after rs bs k = some (ls,ah) -> bs[k]? = some b -> zaA rs ah b.1 b.2 = false -> Told40 rs bs (.inl k)
 | good {ls : List (List Mx)} {ah : List Int} : after rs bs bs.length = some (ls,ah) -> Told40 rs bs (.inr ls)
theorem zcp {rs : List Cs.Row} {bs : List (Int × Int)} {k : Nat} (h : after rs bs k = none) : ∀ j,k + j <= bs.length -> after rs bs (k + j) = none
 | 0,_=>h
 | j + 1,hj=>by
   have hlt : k + j < bs.length:=by omega
   rw [<- Nat.add_assoc,zcr (List.getElem?_eq_getElem hlt),zcp h j (by omega)]
   rfl
theorem zgE {rs : List Cs.Row} {bs : List (Int × Int)} {k : Nat} {ls : List (List Lan.Mx)} {ah : List Int} {b : Int × Int} (h : after rs bs k = some (ls,ah)) (hb : bs[k]? = some b) (hc : zaA rs ah b.1 b.2 = false) : after rs bs (k + 1) = none:=by
 rw [zcr hb,h]
 show (if zaA rs ah b.1 b.2 = true then _ else none) = none
 rw [hc]
 rfl
theorem Told40.uniq {rs : List Cs.Row} {bs : List (Int × Int)} {a b : Sum Nat (List (List Lan.Mx))} (ha : Told40 rs bs a) (hb : Told40 rs bs b) : a = b:=by
 have lt : ∀ {k : Nat} {b : Int × Int},bs[k]? = some b -> k < bs.length:=fun h=>(List.getElem?_eq_some_iff.mp h).1
 cases ha with
 | bad h1 g1 c1 =>
   rename_i k ls ah b1
   have n1:=zgE h1 g1 c1
   cases hb with
   | bad h2 g2 c2 =>
     rename_i k' ls' ah' b2
     have n2:=zgE h2 g2 c2
     have l1:=lt g1
     have l2:=lt g2
     rcases Nat.lt_trichotomy k k' with z | z | z
     ·have:=zcp n1 (k' - (k + 1)) (by omega)
      rw [show k + 1 + (k' - (k + 1)) = k' by omega,h2] at this
      cases this
     ·rw [z]
     ·have:=zcp n2 (k - (k' + 1)) (by omega)
      rw [show k' + 1 + (k - (k' + 1)) = k by omega,h1] at this
      cases this
   | good h2 =>
     have l1:=lt g1
     have:=zcp n1 (bs.length - (k + 1)) (by omega)
     rw [show k + 1 + (bs.length - (k + 1)) = bs.length by omega,h2] at this
     cases this
 | good h1 =>
   cases hb with
   | bad h2 g2 c2 =>
     rename_i k' ls' ah' b2
     have l2:=lt g2
     have:=zcp (zgE h2 g2 c2) (bs.length - (k' + 1)) (by omega)
     rw [show k' + 1 + (bs.length - (k' + 1)) = bs.length by omega,h1] at this
     cases this
   | good h2 =>
     rw [h1] at h2
     cases h2
     rfl
/-- a tuple of two numbers -/
def Two (H : Hp) (v : V) (b : Int × Int) : Prop:=∃ a,v = .ref a /\ H a = some (.tup [.int b.1,.int b.2])
theorem zcj {H H' : Hp} {xs : List V} {bs : List (Int × Int)} (h : Paired (Two H) xs bs) (s : Same H H') : Paired (Two H') xs bs:=Paired.mapP h fun _ _ ⟨a,e,z⟩=>⟨a,e,s _ _ z⟩
theorem zlH {n k : Nat} (h : k < n) : ixN n (k : Int) = some k:=by
 unfold ixN
 rw [if_pos (by omega),if_pos (by omega)]
 simp
theorem zkp {rs : List Cs.Row} {ah : List Int} {ch te : Int} (h : zaA rs ah ch te = true) : ∃ (k : Nat) (r : Cs.Row),ch = (k : Int) /\ rs[k]? = some r /\ ah.count ch < r.n.toNat:=by
 unfold zaA at h
 split at h
 ·rename_i hb
  obtain ⟨k,rfl⟩:=Int.eq_ofNat_of_zero_le hb.1
  rw [Int.toNat_natCast] at h
  split at h
  ·rename_i r hr
   simp only [Bool.and_eq_true,decide_eq_true_eq] at h
   exact ⟨k,r,rfl,hr,by omega⟩
  ·cases h
 ·cases h
def zfo (K : PySem.W.Frag) : Sp:=fun vs H Q E=>∃ (c b : Addr) (xs bv : List V) (rs : List Cs.Row) (bs : List (Int × Int)) (lt : List (List Lan.Mx)),vs = [.ref c,.ref b] /\ H c = some (.lst xs) /\ Paired (Cs.zcf H) xs rs /\ rs.length <= 100 /\ (∀ r ∈ rs,0 <= r.n /\ r.n <= 1000) /\ H b = some (.lst bv) /\ Paired (Two H) bv bs /\ bs.length <= 1000 /\ Told40 rs bs (.inr lt) /\
 (∀ (D : Addr) (zs : List V) H',H D = none -> Same H H' -> H' D = some (.lst zs) -> Paired (Lan.zbZ H D H') zs lt -> zs.Nodup -> Q (.ref D) H')
theorem zfl (T : Tx K mg a) : FnOk P w K mg base CX0 3 a.f_channels_of a.d_channels_of ["case","broken"] (zfo K):=by
 have G_can_break:=zhz (P:=P) (w:=w) (base:=base) T
 refine T.channels_of.fn.ok zfj (fun vs H Q E h=>?_) (fun cdv A outer s H vs Q E hr h=>?_)
 ·obtain ⟨c,b,xs,bv,rs,bs,lt,rfl,_⟩:=h
  rfl
 obtain ⟨c,b,xs,bv,rs,bs,lt,rfl,hc,hpd,hrl,hrn,hb,hbd,hbl,htd,q⟩:=h
 have hxl:=Cs.zaZ hpd
 have hbvl:=Paired.length hbd
 refine ⟨_,(zab (zks (i:=2) zfj.nd rfl (Or.inl rfl) rfl (zaO K rfl (pv 0)) (BlkOk.of (N':=["case","broken","channels","ahead","at","part","channel","lost","sign","width","own","many","teeth"]) (ms:=[8,9,11]) (k:=1) (by rfl)) (fun _ _ _ _ _=>(zbv K rfl (n:=4) rfl (zan (zam (i:=8) (show List.Nodup (["case","broken","channels","ahead","at","part","channel","lost","sign","width","own","many","teeth"] : List Str) from by decide +kernel) rfl (Or.inl rfl)) (zan (zam (i:=9) (show List.Nodup (["case","broken","channels","ahead","at","part","channel","lost","sign","width","own","many","teeth"] : List Str) from by decide +kernel) rfl (Or.inl rfl)) (zan (zam (i:=12) (show List.Nodup (["case","broken","channels","ahead","at","part","channel","lost","sign","width","own","many","teeth"] : List Str) from by decide +kernel) rfl (Or.inl rfl)) (zan (zam (i:=11) (show List.Nodup (["case","broken","channels","ahead","at","part","channel","lost","sign","width","own","many","teeth"] : List Str) from by decide +kernel) rfl (Or.inl rfl)) zbs)))))) (fun _ _ _ _ _=>zbH) (fun _ _ _ _ _=>(zaq zjh (zax (zaa (zdW (zaa (pv 8) (zaa (pv 12) zad))) zad)) (pv 11))))
  (zab (zaC (i:=3) zfj.nd rfl (Or.inl rfl) (zax zad))
  (zab (zcG PassesOwn.never rfl (zdh K rfl rfl T.b_enumerate (zaa (zgD (zmJ (zpl (pv 1))) (zax zad) (pv 1)) zad)) (zbv K rfl (n:=2) rfl (zan (zam (i:=4) zfj.nd rfl (Or.inl rfl)) (zan (zam (i:=5) zfj.nd rfl (Or.inl rfl)) zbs))) (zab (zeo (pv 5) (zbv K rfl (n:=2) rfl (zan (zam (i:=6) zfj.nd rfl (Or.inl rfl)) (zan (zam (i:=7) zfj.nd rfl (Or.inl rfl)) zbs))))
  (zab (zbe (zfC (zcq (zaU T.can_break G_can_break hr rfl (zaa (pv 0) (zaa (pv 3) (zaa (pv 6) (zaa (pv 7) zad))))))) (zaf zgA) zaB)
  (zab (zeo (zaG (zav K rfl) (pv 0) (pv 6) (fun _ _=>rfl)) (zbv K rfl (n:=4) rfl (zan (zam (i:=8) zfj.nd rfl (Or.inl rfl)) (zan (zam (i:=9) zfj.nd rfl (Or.inl rfl)) (zan (zam (i:=10) zfj.nd rfl (Or.inl rfl)) (zan (zam (i:=11) zfj.nd rfl (Or.inl rfl)) zbs))))))
  (zab (zeo (zdW (zaa (pv 8) (zaa (zaq zhy (pv 10) (pv 7)) zad))) (zjk (zaG (zav K rfl) (pv 2) (pv 6) (fun _ _=>rfl)) (zaY K rfl PySem.F.plainAttrs_list PySem.F.slot_list_count PySem.F.type_list_count zjd (pv 3) (zaa (pv 6) zad)) zeE))
  (zaf (zaH (zaY K rfl PySem.F.plainAttrs_list PySem.F.slot_list_append PySem.F.type_list_append zaN (pv 3) (zaa (pv 6) zad)))))))))
  (zaf (zat (pv 2)))))),?_⟩
 walk_at "rd"
 refine ⟨⟨_,SqL.of hc⟩,fun D hD=>?_⟩
 refine zaI (a:=c) (xs:=xs) (fun j zs σ H2=>∃ (w8 w9 w11 w12 : Option V),σ = [some (.ref c),some (.ref b),none,none,none,none,none,none,w8,w9,none,w11,w12] /\ Same H H2 /\ H2 D = some (.lst zs) /\ Paired (Lan.zbZ H D H2) zs ((zaQ rs).take j) /\ zs.Nodup)
  ?_ ?_ ?_ ?_
 ·exact ⟨none,none,none,none,rfl,zae hD _,upd_same,.nil,List.nodup_nil⟩
 ·rintro j zs σ H2 hj ⟨_,_,_,_,_,hs,_⟩
  exact hs.seq (SqL.of hc)
 ·rintro j y zs σ H2 hy hjl ⟨w8,w9,w11,w12,rfl,hs2,hh2,hz2,hzn⟩
  obtain ⟨r,hrj,t,rfl,ht⟩:=Cs.zaM hpd hy
  have hrb:=hrn r (List.mem_of_getElem? hrj)
  have hzl:=Paired.length hz2
  rw [List.length_take] at hzl
  refine ⟨_,_,rfl,SqT.of (hs2 _ _ ht),rfl,?_⟩
  walk_at "tg"
  walk_at "tg"
  walk_at "tg"
  walk_at "tg"
  try refine And.intro rfl ?_
  walk_at "rd"
  intro pt hpt
  have hs3:=zae hpt (.tup [.str r.s,.int r.t])
  have h3t : upd H2 pt (.tup [.str r.s,.int r.t]) pt = some (.tup [.str r.s,.int r.t]):=upd_same
  generalize upd H2 pt (.tup [.str r.s,.int r.t]) = H3 at hs3 h3t ⊢
  walk_at "rd"
  intro p1 hp1
  have hs4:=zae hp1 (.lst [.ref pt])
  have h41 : upd H3 p1 (.lst [.ref pt]) p1 = some (.lst [.ref pt]):=upd_same
  generalize upd H3 p1 (.lst [.ref pt]) = H4 at hs4 h41 ⊢
  walk_at "rd"
  refine ⟨p1,_,_,rfl,rfl,h41,by omega,by omega,zbG (by show 1 * r.n.toNat <= _; omega),fun p2 hp2=>?_⟩
  have efl : (List.replicate r.n.toNat [V.ref pt]).flatten = List.replicate r.n.toNat (V.ref pt):=by
   generalize r.n.toNat = n
   induction n with
   | zero=>rfl
   | succ n ih=>rw [List.replicate_succ,List.flatten_cons,ih]; rfl
  rw [efl]
  have hs5:=zae hp2 (.lst (List.replicate r.n.toNat (V.ref pt)))
  have h52 : upd H4 p2 (.lst (List.replicate r.n.toNat (V.ref pt))) p2 = some (.lst (List.replicate r.n.toNat (V.ref pt))):=upd_same
  generalize upd H4 p2 (.lst (List.replicate r.n.toNat (V.ref pt))) = H5 at hs5 h52 ⊢
  have hs25:=hs3.trans (hs4.trans hs5)
  have hh5:=hs25 _ _ hh2
  have hpD : p2 ≠ D:=fun e=>by rw [e,(hs3.trans hs4) _ _ hh2] at hp2; cases hp2
  have hp20 : H2 p2 = none:=hs3.free (hs4.free hp2)
  refine zcK hjl hh5 (by omega) ⟨_,_,_,_,rfl,zap (hs2.trans hs25) hD,upd_same,?_,?_⟩
  ·have e0 : (zaQ rs)[j]? = some (List.replicate r.n.toNat (r.s,r.t)):=by
    unfold zaQ
    rw [List.getElem?_map,hrj]
    rfl
   rw [List.take_add_one,e0]
   refine Paired.snoc (Lan.ziW (Lan.zbx hz2 hs25) hh5) ⟨p2,_,rfl,hpD,hs2.free hp20,by rw [zai hpD]; exact h52,Lan.zcb (Lan.zgu ⟨pt,rfl,(hs4.trans hs5) _ _ h3t⟩ _) hh5⟩
  ·rw [List.nodup_append]
   refine ⟨hzn,by simp,fun x hx y hy=>?_⟩
   rw [List.mem_singleton.mp hy]
   exact fun e=>Lan.zdO hz2 hp20 (e ▸ hx)
 ·rintro zs σ H2 ⟨w8,w9,w11,w12,rfl,hs2,hh2,hz2,hzn⟩
  rw [hxl,List.take_of_length_le (by unfold zaQ; rw [List.length_map]; exact Nat.le_refl _)] at hz2
  walk_at "rd"
  intro ph hph
  have hs3:=zae hph (.lst [])
  have h3h : upd H2 ph (.lst []) ph = some (.lst (([] : List Int).map V.int)):=upd_same
  generalize upd H2 ph (.lst []) = H3 at hs3 h3h ⊢
  have hphz : V.ref ph ∉ zs:=Lan.zdO hz2 hph
  have hphD : ph ≠ D:=fun e=>by rw [e,hh2] at hph; cases hph
  have hph0 : H ph = none:=hs2.free hph
  have hb3:=(hs2.trans hs3) _ _ hb
  refine ⟨_,rfl,?_⟩
  refine ⟨_,rfl,?_⟩
  refine iteF ?_
  refine ⟨_,rfl,?_⟩
  refine ⟨b,rfl,⟨_,SqL.of hb3⟩,?_⟩
  refine zcY (a:=b) (xs:=bv) (fun i σ H4=>∃ (ls : List (List Lan.Mx)) (ah : List Int) (v4 v5 v6 v7 v8 v9 v10 v11 : Option V),σ = [some (.ref c),some (.ref b),some (.ref D),some (.ref ph),v4,v5,v6,v7,v8,v9,v10,v11] /\ Same H H4 /\ H4 D = some (.lst zs) /\ Paired (Lan.zbZ H D H4) zs ls /\ H4 ph = some (.lst (ah.map V.int)) /\ after rs bs i = some (ls,ah) /\ ah.length = i /\ (∀ (k : Nat) m r,ls[k]? = some m -> rs[k]? = some r -> m.length = r.n.toNat))
   ⟨zaQ rs,[],none,none,none,none,none,none,none,none,rfl,hs2.trans hs3,hs3 _ _ hh2,Lan.zbx hz2 hs3,h3h,zda rs bs,rfl,fun k m r hm hr=>?_⟩ (fun i σ H4 _ ⟨_,_,_,_,_,_,_,_,_,_,_,hs,_⟩=>hs.seq (SqL.of hb)) ?_ ?_
  ·unfold zaQ at hm
   rw [List.getElem?_map,hr] at hm
   have hm : List.replicate r.n.toNat (r.s,r.t) = m:=Option.some.inj hm
   rw [<- hm,List.length_replicate]
  ·rintro i y te σ H4 hy ⟨ls,ah,v4,v5,v6,v7,v8,v9,v10,v11,rfl,hs4,hD4,hz4,hp4,haf,hal,hlen⟩ hte
   obtain ⟨bb,hbi,tp,rfl,htp⟩:=Cs.zaM hbd hy
   have hsA:=zae hte (.tup [.int i,.ref tp])
   have hAt : upd H4 te (.tup [.int i,.ref tp]) te = some (.tup [.int i,.ref tp]):=upd_same
   generalize upd H4 te (.tup [.int i,.ref tp]) = H5 at hsA hAt ⊢
   have hs05:=hs4.trans hsA
   refine ⟨_,_,rfl,SqT.of hAt,rfl,?_⟩
   walk_at "tg"
   walk_at "tg"
   try refine And.intro rfl ?_
   refine ⟨_,rfl,?_⟩
   refine ⟨_,_,rfl,SqT.of (hs05 _ _ htp),rfl,?_⟩
   walk_at "tg"
   walk_at "tg"
   try refine And.intro rfl ?_
   refine ⟨_,rfl,?_⟩
   refine ⟨_,rfl,?_⟩
   refine ⟨_,rfl,?_⟩
   refine ⟨_,rfl,?_⟩
   refine ⟨c,ph,bb.1,bb.2,rs,ah,rfl,⟨xs,SqL.of (hs05 _ _ hc),Cs.zaT hpd hs05⟩,hsA _ _ hp4,by omega,fun H6 hs6=>?_⟩
   have hs46:=hsA.trans hs6
   have hs06:=hs4.trans hs46
   refine ⟨_,rfl,?_⟩
   cases hcb : zaA rs ah bb.1 bb.2 with
   | false =>
     refine iteT ?_
     exact absurd (Told40.uniq (.bad haf hbi hcb) htd) (by intro z; cases z)
   | true =>
     refine iteF ?_
     have hib:=(List.getElem?_eq_some_iff.mp hy).1
     obtain ⟨k,r,hk1,hrk,hcnt⟩:=zkp hcb
     have hkl : k < rs.length:=(List.getElem?_eq_some_iff.mp hrk).1
     have hxk : xs[k]? = some (xs[k]'(by omega)):=List.getElem?_eq_getElem _
     obtain ⟨r',hrk',t,et,ht⟩:=Cs.zaM hpd hxk
     rw [hrk] at hrk'
     cases hrk'
     rw [et] at hxk
     have ek : atI xs (k : Int) = some (.ref t):=zaL hxk
     have hzl:=Paired.length hz4
     obtain ⟨hzk,m,hmk⟩ : k < zs.length /\ ∃ m,ls[k]? = some m:=by
      have h1 : (zaQ rs).length = rs.length:=List.length_map _
      have h2:=Paired.length hz2
      exact ⟨by omega,ls[k]'(by omega),List.getElem?_eq_getElem _⟩
     have hzk' : zs[k]? = some zs[k]:=List.getElem?_eq_getElem hzk
     obtain ⟨m',hmk',p,ms0,ep,hpD,hp0,hp4',hpm⟩:=Cs.zaM hz4 hzk'
     rw [hmk] at hmk'
     cases hmk'
     rw [ep] at hzk'
     have ez : atI zs (k : Int) = some (.ref p):=zaL hzk'
     have hml:=hlen k m r hmk hrk
     have hmsl:=Paired.length hpm
     have hpph : p ≠ ph:=fun e=>hphz (by rw [<- e]; exact List.mem_of_getElem? hzk')
     have hD6:=hs46 _ _ hD4
     have hph6:=hs46 _ _ hp4
     have hp6:=hs46 _ _ hp4'
     have hz6:=Lan.zbx hz4 hs46
     have hpm6:=Lan.zbF hpm hs46
     rw [hk1]
     refine ⟨_,rfl,?_⟩
     refine ⟨_,rfl,?_⟩
     refine ⟨c,_,_,_,rfl,rfl,SqL.of (hs06 _ _ hc),ek,?_⟩
     clear ek
     refine ⟨_,_,rfl,SqT.of (hs06 _ _ ht),rfl,?_⟩
     walk_at "tg"
     walk_at "tg"
     walk_at "tg"
     walk_at "tg"
     try refine And.intro rfl ?_
     refine ⟨_,rfl,?_⟩
     refine ⟨_,rfl,?_⟩
     refine ⟨_,rfl,?_⟩
     refine ⟨_,_,rfl,rfl,?_⟩
     walk_at "rd"
     intro tn htn
     have hs67:=zae htn (HO.tup [V.str r.s,(fun i j : Int=>V.int (i - j)) r.t bb.2])
     have h7n : upd H6 tn (HO.tup [V.str r.s,(fun i j : Int=>V.int (i - j)) r.t bb.2]) tn = some (.tup [.str r.s,.int (r.t - bb.2)]):=upd_same
     generalize upd H6 tn (HO.tup [V.str r.s,(fun i j : Int=>V.int (i - j)) r.t bb.2]) = H7 at hs67 h7n ⊢
     have hs07:=hs06.trans hs67
     have hD7:=hs67 _ _ hD6
     have hph7:=hs67 _ _ hph6
     have hp7:=hs67 _ _ hp6
     have hz7:=Lan.zbx hz6 hs67
     have hpm7:=Lan.zbF hpm6 hs67
     have hcnt' : ah.count (k : Int) < ms0.length:=by rw [hk1] at hcnt; omega
     refine ⟨_,rfl,?_⟩
     refine ⟨_,rfl,?_⟩
     refine ⟨D,_,_,_,rfl,rfl,SqL.of hD7,ez,?_⟩
     clear ez
     refine ⟨_,rfl,?_⟩
     refine ⟨.inl ⟨rfl,_,SqL.of hph7⟩,?_⟩
     refine ⟨_,rfl,?_⟩
     refine ⟨ph,ah,_,rfl,rfl,hph7,?_⟩
     refine ⟨p,ms0,_,ah.count (k : Int),rfl,rfl,hp7,zlH hcnt',?_⟩
     have hm8 : Paired (Lan.zbn (upd H7 p (.lst (ms0.set (ah.count (k : Int)) (.ref tn))))) (ms0.set (ah.count (k : Int)) (.ref tn)) (m.set (ah.count (k : Int)) (r.s,r.t - bb.2)):=Lan.zll ⟨tn,rfl,by rw [zai (zbi h7n hp7 (fun q=>by cases q))]; exact h7n⟩ _ (Lan.zcb hpm7 hp7)
     have hz8:=Lan.lanes_set k hz7 hzn hzk' hp7 hm8 hpD hp0
     have hs08 : Same H (upd H7 p (.lst (ms0.set (ah.count (k : Int)) (.ref tn)))):=zap hs07 hp0
     have hD8 : upd H7 p (.lst (ms0.set (ah.count (k : Int)) (.ref tn))) D = some (.lst zs):=by rw [zai (Ne.symm hpD)]; exact hD7
     have hph8 : upd H7 p (.lst (ms0.set (ah.count (k : Int)) (.ref tn))) ph = some (.lst (ah.map V.int)):=by rw [zai (Ne.symm hpph)]; exact hph7
     generalize upd H7 p (.lst (ms0.set (ah.count (k : Int)) (.ref tn))) = H8 at hz8 hs08 hD8 hph8 ⊢
     refine ⟨_,rfl,?_⟩
     refine ⟨.inl ⟨rfl,_,SqL.of hph8⟩,?_⟩
     refine ⟨_,rfl,?_⟩
     refine ⟨ph,_,_,rfl,rfl,hph8,zbb (by rw [List.length_map]; omega),?_⟩
     have hsl : setLane rs ls ah bb = ls.set k (m.set (ah.count (k : Int)) (r.s,r.t - bb.2)):=by
      unfold setLane
      rw [hk1,Int.toNat_natCast,hrk,hmk]
     refine ⟨ls.set k (m.set (ah.count (k : Int)) (r.s,r.t - bb.2)),ah ++ [(k : Int)],_,_,_,_,_,_,_,_,rfl,zap hs08 hph0,by rw [zai (Ne.symm hphD)]; exact hD8,Lan.lanes_set.lanes_else hz8 hphz hph8,by rw [upd_same,List.map_append]; rfl,?_,by rw [List.length_append,hal]; rfl,fun k' m' r' hm' hr'=>?_⟩
     ·rw [zcr hbi,haf]
      show (if zaA rs ah bb.1 bb.2 = true then some (setLane rs ls ah bb,ah ++ [bb.1]) else none) = _
      rw [if_pos hcb,hsl,hk1]
     ·rw [List.getElem?_set] at hm'
      split at hm'
      ·rename_i e
       subst e
       split at hm'
       ·have hm':=Option.some.inj hm'
        rw [<- hm',List.length_set]
        exact hlen k m r' hmk hr'
       ·cases hm'
      ·exact hlen k' m' r' hm' hr'
  ·rintro σ H4 ⟨ls,ah,v4,v5,v6,v7,v8,v9,v10,v11,rfl,hs4,hD4,hz4,hp4,haf,hal,hlen⟩
   rw [hbvl] at haf
   refine ⟨_,rfl,?_⟩
   have e : ls = lt:=Sum.inr.inj (Told40.uniq (.good haf) htd)
   exact q D zs H4 hD hs4 hD4 (e ▸ hz4) hzn
theorem zpm {c d : Nat} (h : sg c = sg d) : c = d:=by
 have h : (#[c] : Array Nat) = #[d]:=congrArg Str.cps h
 simpa using h
theorem sgV {c d : Nat} : decide (V.str (sg c) = V.str (sg d)) = decide (c = d):=by
 rw [Cs.strV,decide_eq_decide]
 exact ⟨fun h=>zpm h,fun h=>by rw [h]⟩
def zfm : Sp:=fun vs H Q _=>∃ c : Nat,vs = [.str (sg c)] /\ Q (.bl (Lns.isS c)) H
theorem zfn (T : Tx K mg a) : FnOk P w K mg base CX0 1 a.f_is_sign_key a.d_is_sign_key ["key"] zfm:=by
 refine T.is_sign_key.fn.ok zfr (fun vs H Q E h=>?_) (fun cdv A outer s H vs Q E hr h=>?_)
 ·obtain ⟨c,rfl,_⟩:=h
  rfl
 obtain ⟨c,rfl,q⟩:=h
 have e1 : decide (V.str (sg c) = V.str (Str.ofString " ")) = decide (c = 32):=sgV (d:=32)
 have e2 : decide (V.str (sg c) = V.str (Str.ofString "/")) = decide (c = 47):=sgV (d:=47)
 unfold Lns.isS at q
 refine ⟨_,(zaf (zat (zca (zaK zlw (pv 0) (zdv (v:=.str " ") rfl T.g_GAP_KEY ⟨_,rfl⟩) (zao _)) (zdt (zaK zlw (pv 0) (zdv (v:=.str "/") rfl T.g_SEND_KEY ⟨_,rfl⟩) (zao _)))))),?_⟩
 walk_at "rd"
 rw [e1]
 cases h32 : decide (c = 32) with
 | true =>
   rw [h32] at q
   exact q
 | false =>
   rw [h32] at q
   refine iteT ?_
   walk_at "rd"
   rw [e2]
   exact q
def zjP (K : PySem.W.Frag) : Sp:=fun vs H Q _=>∃ (l : Addr) (x : Str) (i : Nat) (rs : List Cs.Row),vs = [.ref l,.str x,.int (i : Int)] /\ Cs.zeT K H l rs /\ x.length <= 90000 /\ i < x.cps.toList.length /\ ∀ H',Same H H' -> Q (.bl (Lns.zjc rs x.cps.toList i)) H'
theorem zkd (T : Tx K mg a) : FnOk P w K mg base CX0 2 a.f_goes_on a.d_goes_on ["case","keys","at"] (zjP K):=by
 have G_is_sign_key:=zfn (P:=P) (w:=w) (base:=base) T
 have G_channel_of:=zcv (P:=P) (w:=w) (base:=base) T
 refine T.goes_on.fn.ok zjN (fun vs H Q E h=>?_) (fun cdv A outer s H vs Q E hr h=>?_)
 ·obtain ⟨l,x,i,rs,rfl,_⟩:=h
  rfl
 obtain ⟨l,x,i,rs,rfl,hC,hx,hi,q⟩:=h
 have hxs : x.length <= sizeLine:=zbG (by omega)
 have ec : atI x.cps.toList (i : Int) = some x.cps.toList[i]:=zaL (List.getElem?_eq_getElem hi)
 unfold Lns.zjc at q
 rw [List.getElem?_eq_getElem hi] at q
 generalize x.cps.toList[i] = c at ec q
 have q : ∀ H',Same H H' -> Q (.bl (if Lns.isS c = true then (Cs.place rs (sg c)).isSome else decide (0 < i) && (match x.cps.toList[i - 1]? with | none=>false | some d=>Lns.isS d))) H':=q
 refine ⟨_,(zab (zbe (zcq (zaU T.is_sign_key G_is_sign_key hr rfl (zaa (zaG zdR (pv 1) (pv 2) (fun _ _=>rfl)) zad))) (zaf (zat (zlE (zlq (zaU T.channel_of G_channel_of hr rfl (zaa (pv 0) (zaa (zaG zdR (pv 1) (pv 2) (fun _ _=>rfl)) zad))))))) zaB)
  (zaf (zat (zca (zaK znw (pv 2) zag (zao _)) (zdt (zaU T.is_sign_key G_is_sign_key hr rfl (zaa (zaG zdR (pv 1) (zaq zhy (pv 2) zag) (fun _ _=>rfl)) zad))))))),?_⟩
 walk_at "rd"
 refine ⟨_,_,_,rfl,rfl,hxs,ec,?_⟩
 walk_at "rd"
 try refine ⟨_,rfl,?_⟩
 cases hs : Lns.isS c with
 | true =>
   rw [hs] at q
   refine iteT ?_
   walk_at "rd"
   refine ⟨_,_,_,rfl,rfl,hxs,ec,?_⟩
   walk_at "rd"
   refine ⟨l,sg c,rs,rfl,hC,fun H1 hs1=>?_⟩
   have e : (!decide (Mt.optV (Cs.place rs (sg c)) = V.non)) = (Cs.place rs (sg c)).isSome:=by
    cases Cs.place rs (sg c) <;> rfl
   have q:=q H1 hs1
   rw [if_pos rfl,<- e] at q
   exact q
 | false =>
   rw [hs] at q
   refine iteF ?_
   walk_at "rd"
   have q:=q H (Same.refl _)
   rw [if_neg (by decide)] at q
   cases i with
   | zero =>
     refine iteF ?_
     exact q
   | succ j =>
     have hj : j < x.cps.toList.length:=by omega
     have ec2 : atI x.cps.toList (((j + 1 : Nat) : Int) - 1) = some x.cps.toList[j]:=by
      rw [show (((j + 1 : Nat) : Int) - 1) = ((j : Nat) : Int) by omega]
      exact zaL (List.getElem?_eq_getElem hj)
     rw [show j + 1 - 1 = j from rfl,List.getElem?_eq_getElem hj] at q
     have e0 : decide ((0 : Int) < ((j + 1 : Nat) : Int)) = true:=decide_eq_true (by omega)
     rw [e0]
     refine iteT ?_
     walk_at "rd"
     refine ⟨_,_,_,rfl,rfl,hxs,ec2,?_⟩
     walk_at "rd"
     have q : Q (.bl (decide (0 < j + 1) && Lns.isS x.cps.toList[j])) H:=q
     rw [show decide (0 < j + 1) = true from decide_eq_true (by omega),Bool.true_and] at q
     exact q
def zez (K : PySem.W.Frag) : Sp:=fun vs H Q _=>∃ (l : Addr) (x : Str) (rs : List Cs.Row),vs = [.ref l,.str x] /\ Cs.zeT K H l rs /\ x.length <= 90000 /\ Lns.zbp rs false x.cps.toList = true /\ (x.cps.toList = [] \/ ∃ a,x.cps.toList = a ++ [47]) /\ ∀ H',Same H H' -> Q .non H'
theorem zeu (T : Tx K mg a) : FnOk P w K mg base CX0 3 a.f_look_at_keys a.d_look_at_keys ["case","keys"] (zez K):=by
 have G_goes_on:=zkd (P:=P) (w:=w) (base:=base) T
 refine T.look_at_keys.fn.ok zfg (fun vs H Q E h=>?_) (fun cdv A outer s H vs Q E hr h=>?_)
 ·obtain ⟨l,x,rs,rfl,_⟩:=h
  rfl
 obtain ⟨l,x,rs,rfl,hC,hx,hok,hend,q⟩:=h
 have hxs : x.length <= sizeLine:=zbG (by omega)
 have hxl : x.cps.toList.length = x.length:=Array.length_toList
 refine ⟨_,(zab (zcG PassesOwn.never rfl (zcR rfl T.b_range (zaa (zbh zbO rfl T.b_len zcH (zaa (pv 1) zad)) zad)) (zam (i:=2) zfg.nd rfl (Or.inl rfl)) (zaf (zbe (zfC (zcq (zaU T.goes_on G_goes_on hr rfl (zaa (pv 0) (zaa (pv 1) (zaa (pv 2) zad)))))) (zaf zgA) zaB)))
  (zaf (zbe (PW.pt (zmE (zar zlw (pv 1) zaj (zao _)) (zko (zar zlw (zaG zdR (pv 1) (znR zle zag) (fun _ _=>rfl)) (zdv (v:=.str "/") rfl T.g_SEND_KEY ⟨_,rfl⟩) (zao _))))) (zaf zgA) zaB))),?_⟩
 walk_at "rd"
 refine zdV (n:=x.length) (fun i σ H2=>∃ v2 : Option V,σ = [some (.ref l),some (.str x),v2] /\ Same H H2) ⟨none,rfl,Same.refl _⟩ ?_ ?_
 ·rintro i σ H2 hi ⟨v2,rfl,hs⟩
  walk_at "rd"
  refine ⟨l,x,i,rs,by rw [Int.zero_add]; rfl,hC.same hs,hx,by omega,fun H3 hs3=>?_⟩
  rw [Lns.zmV hok (by omega)]
  refine ⟨_,rfl,?_⟩
  refine iteF ?_
  exact ⟨_,rfl,hs.trans hs3⟩
 ·rintro σ H2 ⟨v2,rfl,hs⟩
  walk_at "rd"
  rcases hend with he | ⟨a0,he⟩
  ·have ex : x = "":=Lns.ziA he
   subst ex
   have e1 : (!decide (V.str (Str.ofString "") = V.str (Str.ofString ""))) = false:=by rw [decide_eq_true rfl]; rfl
   rw [e1]
   try refine iteF ?_
   exact q H2 hs
  ·have hne : x ≠ "":=fun e=>by
    rw [e] at he
    have h:=congrArg List.length he
    rw [List.length_append] at h
    have h : 0 = a0.length + 1:=h
    omega
   have e1 : (!decide (V.str x = V.str (Str.ofString ""))) = true:=by rw [Cs.strV,decide_eq_false hne]; rfl
   rw [e1]
   try refine iteT ?_
   have ec : atI x.cps.toList (-1) = some 47:=by
    rw [he]
    exact Lns.zmw a0 47
   walk_at "rd"
   refine ⟨_,_,_,rfl,rfl,hxs,ec,?_⟩
   walk_at "rd"
   have e2 : (!decide (V.str ({ cps:=#[47] } : Str) = V.str (Str.ofString "/"))) = false:=by rw [show (Str.ofString "/") = ({ cps:=#[47] } : Str) from rfl,decide_eq_true rfl]; rfl
   rw [e2]
   try refine iteF ?_
   exact q H2 hs
def startB (lt : List (List Mc.Mx)) : Mc.Ms:=⟨lt,[],[],0,[],[],0,0,0⟩
def zku (a : Ad) : Sp:=fun vs H Q _=>∃ (p pc pb dx : Addr) (c : Mc.Cf) (xs bv : List V) (bs : List (Int × Int)) (lt : List (List Mc.Mx)),vs = [.ref p,.ref pc,.str c.keys,.int c.cast,.ref pb] /\ H p = some (.ins a.c_Machine dx []) /\ H pc = some (.lst xs) /\ Paired (Cs.zcf H) xs c.rs /\ Mc.OkC c /\ Lns.zbp c.rs false c.keys.cps.toList = true /\ (∀ r ∈ c.rs,0 <= r.n /\ r.n <= 1000) /\ H pb = some (.lst bv) /\ Paired (Two H) bv bs /\ bs.length <= 1000 /\ Told40 c.rs bs (.inr lt) /\
 ∀ A H',MA a c H' p A (startB lt) -> Mc.Off p H H' -> (∀ b ∈ A.all,H b = none) -> Q .non H'
theorem zfa (T : Tx K mg a) : FnOk P w K mg base CX0 4 a.f_Machine_init a.d_Machine_init ["self","case","keys","casting","broken"] (zku a):=by
 have G_look_at_keys:=zeu (P:=P) (w:=w) (base:=base) T
 have G_channels_of:=zfl (P:=P) (w:=w) (base:=base) T
 refine T.Machine.fn.ok zeN (fun vs H Q E h=>?_) (fun cdv A outer s H vs Q E hr h=>?_)
 ·obtain ⟨p,pc,pb,dx,c,xs,bv,bs,lt,rfl,_⟩:=h
  rfl
 obtain ⟨p,pc,pb,dx,c,xs,bv,bs,lt,rfl,hp,hc,hpd,OC,hok,hrn,hb,hbd,hbl,htd,q⟩:=h
 have hfew:=OC.few
 have I0 : IA a H p (List.replicate zfQ.length none):=⟨dx,[],hp,FS.nil (by decide)⟩
 refine ⟨_,(zab (zaH (zaU T.look_at_keys G_look_at_keys hr rfl (zaa (pv 1) (zaa (pv 2) zad))))
  (zab (zcn (K:=K) rfl T.Machine.cl T.n_Machine_lying zbc (pv 0) (zaU T.channels_of G_channels_of hr rfl (zaa (pv 1) (zaa (pv 4) zad))))
  (zab (zcn (K:=K) rfl T.Machine.cl T.n_Machine_case zbC (pv 0) (zbR (zcg K rfl) rfl T.b_list zcU (zaa (pv 1) zad)))
  (zab (zcn (K:=K) rfl T.Machine.cl T.n_Machine_played zbK (pv 0) (pv 2))
  (zab (zcn (K:=K) rfl T.Machine.cl T.n_Machine_struck zaF (pv 0) zag)
  (zab (zcn (K:=K) rfl T.Machine.cl T.n_Machine_casting zci (pv 0) (pv 3))
  (zab (zcn (K:=K) rfl T.Machine.cl T.n_Machine_line zaR (pv 0) (zax zad))
  (zab (zcn (K:=K) rfl T.Machine.cl T.n_Machine_heated zau (pv 0) (zax zad))
  (zab (zcn (K:=K) rfl T.Machine.cl T.n_Machine_to_go zbd (pv 0) zag)
  (zab (zcn (K:=K) rfl T.Machine.cl T.n_Machine_hanging zaD (pv 0) (zax zad))
  (zab (zcn (K:=K) rfl T.Machine.cl T.n_Machine_texts zbX (pv 0) (zax zad))
  (zab (zcn (K:=K) rfl T.Machine.cl T.n_Machine_done zbE (pv 0) zag)
  (zaf (zcn (K:=K) rfl T.Machine.cl T.n_Machine_waits zbq (pv 0) zag)))))))))))))),?_⟩
 walk_at "rd"
 refine ⟨pc,_,c.rs,rfl,⟨xs,SqL.of hc,hpd⟩,OC.short,hok,OC.ends,fun H1 hs1=>?_⟩
 walk_at "rd"
 refine ⟨pc,pb,xs,bv,c.rs,bs,lt,rfl,hs1 _ _ hc,Cs.zaT hpd hs1,by omega,hrn,hs1 _ _ hb,zcj hbd hs1,hbl,htd,fun D zs H2 hD hs2 hD2 hz hzn=>?_⟩
 obtain ⟨ls,rfl,hls,hnd,hfr⟩:=Mc.zfH hz hzn
 have I2:=I0.same (hs1.trans hs2)
 walk_at "rd"
 refine fun H3 I3 k3=>?_
 have o3:=(Mc.Off.of_same (p:=p) (hs1.trans hs2)).trans (Mc.Off.of_fld k3)
 have hpcp:=Mc.zfU I0 hc
 walk_at "rd"
 refine ⟨pc,xs,rfl,.inl (SqL.of (o3 _ _ hpcp hc)),fun e4 he4=>?_⟩
 have hs4:=zae he4 (.lst xs)
 have h44 : upd H3 e4 (.lst xs) e4 = some (.lst xs):=upd_same
 have I4:=I3.same hs4
 generalize upd H3 e4 (.lst xs) = H4 at hs4 h44 I4 ⊢
 walk_at "rd"
 refine fun H5 I5 k5=>?_
 have o5:=(Mc.Off.of_same (p:=p) hs4).trans (Mc.Off.of_fld k5)
 walk_at "rd"
 refine fun H6 I6 k6=>?_
 walk_at "rd"
 refine fun H7 I7 k7=>?_
 walk_at "rd"
 refine fun H8 I8 k8=>?_
 have o8:=((Mc.Off.of_fld k6).trans (Mc.Off.of_fld k7)).trans (Mc.Off.of_fld k8)
 walk_at "rd"
 refine fun e9 he9=>?_
 have hs9:=zae he9 (.lst [])
 have h99 : upd H8 e9 (.lst []) e9 = some (.lst []):=upd_same
 have I9:=I8.same hs9
 generalize upd H8 e9 (.lst []) = H9 at hs9 h99 I9 ⊢
 walk_at "rd"
 refine fun H10 I10 k10=>?_
 have o10:=(Mc.Off.of_same (p:=p) hs9).trans (Mc.Off.of_fld k10)
 walk_at "rd"
 refine fun e11 he11=>?_
 have hs11:=zae he11 (.lst [])
 have h111 : upd H10 e11 (.lst []) e11 = some (.lst []):=upd_same
 have I11:=I10.same hs11
 generalize upd H10 e11 (.lst []) = H11 at hs11 h111 I11 ⊢
 walk_at "rd"
 refine fun H12 I12 k12=>?_
 walk_at "rd"
 refine fun H13 I13 k13=>?_
 have o13:=((Mc.Off.of_same (p:=p) hs11).trans (Mc.Off.of_fld k12)).trans (Mc.Off.of_fld k13)
 walk_at "rd"
 refine fun e14 he14=>?_
 have hs14:=zae he14 (.lst [])
 have h144 : upd H13 e14 (.lst []) e14 = some (.lst []):=upd_same
 have I14:=I13.same hs14
 generalize upd H13 e14 (.lst []) = H14 at hs14 h144 I14 ⊢
 walk_at "rd"
 refine fun H15 I15 k15=>?_
 have o15:=(Mc.Off.of_same (p:=p) hs14).trans (Mc.Off.of_fld k15)
 walk_at "rd"
 refine fun e16 he16=>?_
 have hs16:=zae he16 (.lst [])
 have h166 : upd H15 e16 (.lst []) e16 = some (.lst []):=upd_same
 have I16:=I15.same hs16
 generalize upd H15 e16 (.lst []) = H16 at hs16 h166 I16 ⊢
 walk_at "rd"
 refine fun H17 I17 k17=>?_
 walk_at "rd"
 refine fun H18 I18 k18=>?_
 walk_at "rd"
 refine fun H19 I19 k19=>?_
 have o19:=(((Mc.Off.of_same (p:=p) hs16).trans (Mc.Off.of_fld k17)).trans (Mc.Off.of_fld k18)).trans (Mc.Off.of_fld k19)
 have I19 : IA a H19 p (Mc.vals c ⟨D,e4,e9,e11,e14,e16,ls⟩ (startB lt)):=I19
 -- from each list's begin to the end
 have o05:=o3.trans o5
 have o08:=o05.trans o8
 have o010:=o08.trans o10
 have o013:=o010.trans o13
 have o015:=o013.trans o15
 have o019:=o015.trans o19
 have f15:=o19
 have f13:=o15.trans f15
 have f10:=o13.trans f13
 have f8:=o10.trans f10
 have f5:=o8.trans f8
 have f3:=o5.trans f5
 have f2:=(Mc.Off.of_fld k3).trans f3
 have f4:=(Mc.Off.of_fld k5).trans f5
 have f9:=(Mc.Off.of_fld k10).trans f10
 have f11:=((Mc.Off.of_fld k12).trans (Mc.Off.of_fld k13)).trans f13
 have f14:=(Mc.Off.of_fld k15).trans f15
 have f16:=((Mc.Off.of_fld k17).trans (Mc.Off.of_fld k18)).trans (Mc.Off.of_fld k19)
 have hDp:=Mc.zfU I2 hD2
 have hlp : ∀ z ∈ ls,z ≠ p:=fun z hz=>Mc.zeb (I0.same hs1) (hfr z hz)
 have n4:=Mc.zeb I3 he4
 have n9:=Mc.zeb I8 he9
 have n11:=Mc.zeb I10 he11
 have n14:=Mc.zeb I13 he14
 have n16:=Mc.zeb I15 he16
 have Lls : Paired (Mc.LnAt H19) ls (startB lt).lanes:=Mc.zbl (Mc.Off.keep I2 f2) hlp hls
 have some_ls : ∀ z ∈ ls,∃ ws,H2 z = some (.lst ws):=fun z hz=>by
  obtain ⟨i,hi,e⟩:=List.getElem_of_mem hz
  obtain ⟨_,_,ws,hw,_⟩:=Cs.zaM hls (List.getElem?_eq_getElem hi)
  rw [e] at hw
  exact ⟨ws,hw⟩
 have dif : ∀ {x e : Addr} {Hk : Hp} {ws : List V},Hk x = some (.lst ws) -> Hk e = none -> x ≠ e:=fun h1 h2 z=>by rw [z,h2] at h1; cases h1
 obtain ⟨hn1,hn2⟩:=List.nodup_cons.mp hnd
 have g3:=Mc.Off.of_fld k3
 have g8:=(g3.trans o5).trans o8
 have g10:=g8.trans o10
 have g13:=g10.trans o13
 have g15:=g13.trans o15
 have lsn : ∀ {e : Addr} {Hk : Hp},Mc.Off p H2 Hk -> Hk e = none -> e ∉ ls:=fun o h hz=>by
  obtain ⟨ws,hw⟩:=some_ls _ hz
  rw [o _ _ (hlp _ hz) hw] at h
  cases h
 refine q ⟨D,e4,e9,e11,e14,e16,ls⟩ H19 ⟨I19,?_,⟨⟨xs,f4 _ _ n4 h44,?_⟩,f2 _ _ hDp hD2,Lls,⟨[],f9 _ _ n9 h99,.nil⟩,⟨[],f11 _ _ n11 h111,.nil⟩,⟨[],f14 _ _ n14 h144,.nil⟩,f16 _ _ n16 h166⟩⟩ o019 ?_
 ·unfold Mc.Adr.all
  simp only [List.nodup_cons,List.mem_cons,not_or]
  exact ⟨⟨dif (g3 _ _ hDp hD2) he4,dif (g8 _ _ hDp hD2) he9,dif (g10 _ _ hDp hD2) he11,dif (g13 _ _ hDp hD2) he14,dif (g15 _ _ hDp hD2) he16,hn1⟩,
   ⟨dif (((Mc.Off.of_fld k5).trans o8) _ _ n4 h44) he9,dif ((((Mc.Off.of_fld k5).trans o8).trans o10) _ _ n4 h44) he11,dif (((((Mc.Off.of_fld k5).trans o8).trans o10).trans o13) _ _ n4 h44) he14,dif ((((((Mc.Off.of_fld k5).trans o8).trans o10).trans o13).trans o15) _ _ n4 h44) he16,lsn g3 he4⟩,
   ⟨dif ((Mc.Off.of_fld k10) _ _ n9 h99) he11,dif (((Mc.Off.of_fld k10).trans o13) _ _ n9 h99) he14,dif ((((Mc.Off.of_fld k10).trans o13).trans o15) _ _ n9 h99) he16,lsn g8 he9⟩,
   ⟨dif (((Mc.Off.of_fld k12).trans (Mc.Off.of_fld k13)) _ _ n11 h111) he14,dif ((((Mc.Off.of_fld k12).trans (Mc.Off.of_fld k13)).trans o15) _ _ n11 h111) he16,lsn g10 he11⟩,
   ⟨dif ((Mc.Off.of_fld k15) _ _ n14 h144) he16,lsn g13 he14⟩,lsn g15 he16,hn2⟩
 ·exact Mc.zbo (Mc.Off.keep I0 o019) hpd
 ·unfold Mc.Adr.all
  intro b hb
  simp only [List.mem_cons] at hb
  rcases hb with rfl | rfl | rfl | rfl | rfl | rfl | hb
  ·exact hs1.free hD
  ·exact o3.free I3 he4
  ·exact o08.free I8 he9
  ·exact o010.free I10 he11
  ·exact o013.free I13 he14
  ·exact o015.free I15 he16
  ·exact hs1.free (hfr b hb)
theorem zmr : ∀ t l : Fin 128,Mt.has (t.val : Int) (l.val : Int) = true -> Mt.has (t.val : Int) ((t.val : Int) - (l.val : Int)) = true:=by decide +kernel
theorem zkz {t l : Int} (ht : 0 <= t /\ t < 128) (hl : 0 <= l /\ l < 128) (h : Mt.has t l = true) : Mt.has t (t - l) = true:=by
 obtain ⟨j,rfl⟩:=Int.eq_ofNat_of_zero_le ht.1
 obtain ⟨k,rfl⟩:=Int.eq_ofNat_of_zero_le hl.1
 exact zmr ⟨j,by omega⟩ ⟨k,by omega⟩ h
theorem zlS {rs : List Cs.Row} {ah : List Int} {ch te : Int} (h : zaA rs ah ch te = true) : ∃ (k : Nat) (r : Cs.Row),ch = (k : Int) /\ rs[k]? = some r /\ Builtin.bitAnd r.t te = te:=by
 unfold zaA at h
 split at h
 ·rename_i hb
  obtain ⟨k,rfl⟩:=Int.eq_ofNat_of_zero_le hb.1
  rw [Int.toNat_natCast] at h
  split at h
  ·rename_i r hr
   simp only [Bool.and_eq_true,decide_eq_true_eq] at h
   exact ⟨k,r,rfl,hr,h.2⟩
  ·cases h
 ·cases h
/-- lanes of a case some of whose matrices are broken -/
structure LOk (rs : List Cs.Row) (ls : List (List Mc.Mx)) : Prop where
 ln : ls.length = rs.length
 one : ∀ (j : Nat) m r,ls[j]? = some m -> rs[j]? = some r -> m.length = r.n.toNat /\ ∀ x ∈ m,x.1 = r.s /\ 0 <= x.2 /\ x.2 < 128 /\ Mt.has r.t x.2 = true
theorem LOk.zero {rs : List Cs.Row} (R : Mc.Rows rs) : LOk rs (zaQ rs):=by
 refine ⟨List.length_map _,fun j m r hm hr=>?_⟩
 unfold zaQ at hm
 rw [List.getElem?_map,hr] at hm
 have hm : List.replicate r.n.toNat (r.s,r.t) = m:=Option.some.inj hm
 rw [<- hm]
 refine ⟨List.length_replicate,fun x hx=>?_⟩
 rw [List.eq_of_mem_replicate hx]
 obtain ⟨h1,h2⟩:=R.th r (List.mem_of_getElem? hr)
 exact ⟨rfl,h1,h2,Mt.zjp _⟩
theorem LOk.step {rs : List Cs.Row} (R : Mc.Rows rs) {ls : List (List Mc.Mx)} (h : LOk rs ls) {ah : List Int} {b : Int × Int} (hb : 1 <= b.2 /\ b.2 < 128) (hc : zaA rs ah b.1 b.2 = true) : LOk rs (setLane rs ls ah b):=by
 obtain ⟨k,r,hk,hr,ha⟩:=zlS hc
 have hkl : k < ls.length:=by rw [h.ln]; exact (List.getElem?_eq_some_iff.mp hr).1
 have hm : ls[k]? = some ls[k]:=List.getElem?_eq_getElem hkl
 have ht:=R.th r (List.mem_of_getElem? hr)
 have hh : Mt.has r.t b.2 = true:=by rw [<- Mt.zin ht.1 (by omega) hb.2]; exact decide_eq_true ha
 have hle:=Mt.zsz ht ⟨by omega,hb.2⟩ hh
 have hs:=zkz ht ⟨by omega,hb.2⟩ hh
 have e : setLane rs ls ah b = ls.set k (ls[k].set (ah.count b.1) (r.s,r.t - b.2)):=by
  unfold setLane
  rw [hk,Int.toNat_natCast,hr,hm]
 rw [e]
 refine ⟨by rw [List.length_set]; exact h.ln,fun j m r' hm' hr'=>?_⟩
 rw [List.getElem?_set] at hm'
 split at hm'
 ·rename_i ej
  subst ej
  rw [hr] at hr'
  cases hr'
  have hm':=Option.some.inj hm'
  obtain ⟨g1,g2⟩:=h.one k _ r hm hr
  rw [<- hm']
  refine ⟨by rw [List.length_set]; exact g1,fun x hx=>?_⟩
  rcases List.mem_or_eq_of_mem_set hx with hx | hx
  ·exact g2 x hx
  ·rw [hx]
   exact ⟨rfl,by show 0 <= r.t - b.2; omega,by show r.t - b.2 < 128; omega,hs⟩
 ·exact h.one j m r' hm' hr'
theorem zkN {rs : List Cs.Row} (R : Mc.Rows rs) {bs : List (Int × Int)} (hb : ∀ b ∈ bs,1 <= b.2 /\ b.2 < 128) : ∀ (k : Nat) (ls : List (List Mc.Mx)) (ah : List Int),after rs bs k = some (ls,ah) -> LOk rs ls:=by
 intro k
 induction k with
 | zero =>
   intro ls ah h
   rw [zda] at h
   cases h
   exact LOk.zero R
 | succ k ih =>
   intro ls ah h
   cases hk : bs[k]? with
   | none =>
     have hl : bs.length <= k:=List.getElem?_eq_none_iff.mp hk
     have e : after rs bs (k + 1) = after rs bs k:=by
      unfold after
      rw [List.take_of_length_le (by omega),List.take_of_length_le hl]
     rw [e] at h
     exact ih ls ah h
   | some b =>
     rw [zcr hk] at h
     unfold zkR at h
     cases ha : after rs bs k with
     | none=>rw [ha] at h; cases h
     | some s =>
       rw [ha] at h
       have h : (if zaA rs s.2 b.1 b.2 = true then some (setLane rs s.1 s.2 b,s.2 ++ [b.1]) else none) = some (ls,ah):=h
       by_cases hc : zaA rs s.2 b.1 b.2 = true
       ·rw [if_pos hc] at h
        cases h
        exact LOk.step R (ih s.1 s.2 ha) (hb b (List.mem_of_getElem? hk)) hc
       ·rw [if_neg hc] at h
        cases h
theorem LOk.ok {rs : List Cs.Row} (R : Mc.Rows rs) {lt : List (List Mc.Mx)} (h : LOk rs lt) {c : Mc.Cf} (hc : c.rs = rs) (O : Mc.OkC c) : Mc.Ok c (startB lt):=by
 have hf:=R.few
 refine ⟨O,?_,fun l hl x hx=>?_,(fun x hx=>nomatch hx),(fun x hx=>nomatch hx),(fun x hx=>nomatch hx),Nat.zero_le _,fun _=>rfl,?_,Nat.le_refl _,(fun x hx=>nomatch hx),fun z=>absurd rfl z⟩
 ·show lt.length = c.rs.length
  rw [h.ln,hc]
 ·obtain ⟨j,hj,e⟩:=List.getElem_of_mem hl
  have hj : j < lt.length:=hj
  have hr : rs[j]? = some (rs[j]'(by rw [<- h.ln]; exact hj)):=List.getElem?_eq_getElem _
  have hmem:=List.mem_of_getElem? hr
  obtain ⟨g1,g2⟩:=h.one j l _ (by rw [List.getElem?_eq_getElem hj]; exact congrArg some e) hr
  obtain ⟨x1,x2,x3,x4⟩:=g2 x hx
  obtain ⟨o1,o2,_,_,_⟩:=R.okM hc hmem
  refine ⟨by rw [x1]; exact o1,by rw [x1]; exact o2,x2,x3,?_⟩
  obtain ⟨i,hi,hij⟩:=Mt.zjD (cs:=c.rs.map fun r=>r.t) (t:=x.2) (i:=j) (c:=(rs[j]'(by rw [<- h.ln]; exact hj)).t) (by rw [hc,List.getElem?_map,hr]; rfl) x4
  exact ⟨i,hi,by rw [hc,<- h.ln]; omega⟩
 ·have hs : (lt.map List.length).sum <= lt.length * 40:=Lns.zjs List.length 40 lt fun l hl=>by
   obtain ⟨j,hj,e⟩:=List.getElem_of_mem hl
   have hr : rs[j]? = some (rs[j]'(by rw [<- h.ln]; exact hj)):=List.getElem?_eq_getElem _
   obtain ⟨g1,_⟩:=h.one j l _ (by rw [List.getElem?_eq_getElem hj]; exact congrArg some e) hr
   have:=R.mn _ (List.mem_of_getElem? hr)
   omega
  have hl:=h.ln
  show (lt.map List.length).sum + 0 + 0 + 0 <= 2000 + 0
  omega
theorem zjY {rs : List Cs.Row} {bs : List (Int × Int)} {b : Int × Int} {ls : List (List Mc.Mx)} {ah : List Int} (h : after rs bs bs.length = some (ls,ah)) (hc : zaA rs ah b.1 b.2 = true) : after rs (bs ++ [b]) (bs ++ [b]).length = some (setLane rs ls ah b,ah ++ [b.1]):=by
 have e : after rs (bs ++ [b]) (bs ++ [b]).length = zkR rs (after rs bs bs.length) b:=by
  unfold after
  rw [List.take_length,List.take_length,List.foldl_append]
  rfl
 rw [e,h]
 show (if zaA rs ah b.1 b.2 = true then some (setLane rs ls ah b,ah ++ [b.1]) else none) = _
 rw [if_pos hc]
theorem zlM : ∀ t w : Fin 128,Builtin.bitAnd (t.val : Int) (Builtin.bitAnd (t.val : Int) (w.val : Int)) = Builtin.bitAnd (t.val : Int) (w.val : Int) /\ 0 <= Builtin.bitAnd (t.val : Int) (w.val : Int) /\ Builtin.bitAnd (t.val : Int) (w.val : Int) < 128:=by decide +kernel
theorem zmT {t w : Int} (ht : 0 <= t /\ t < 128) (hw : 0 <= w /\ w < 128) : Builtin.bitAnd t (Builtin.bitAnd t w) = Builtin.bitAnd t w /\ 0 <= Builtin.bitAnd t w /\ Builtin.bitAnd t w < 128:=by
 obtain ⟨j,rfl⟩:=Int.eq_ofNat_of_zero_le ht.1
 obtain ⟨k,rfl⟩:=Int.eq_ofNat_of_zero_le hw.1
 exact zlM ⟨j,by omega⟩ ⟨k,by omega⟩
theorem zsS {rs : List Cs.Row} {ah : List Int} {k : Nat} {r : Cs.Row} {te : Int} (hr : rs[k]? = some r) (hn : (ah.count (k : Int) : Int) < r.n) (h1 : 1 <= te) (ha : Builtin.bitAnd r.t te = te) : zaA rs ah (k : Int) te = true:=by
 have hk:=(List.getElem?_eq_some_iff.mp hr).1
 unfold zaA
 rw [if_pos ⟨by omega,by omega⟩,Int.toNat_natCast,hr]
 show (decide _ && decide _ && decide _) = true
 rw [decide_eq_true hn,decide_eq_true h1,decide_eq_true ha]
 rfl
theorem zkO {rs : List Cs.Row} {r : Cs.Row} (h : r ∈ rs) : (Cs.place rs r.s).isSome = true:=by
 unfold Cs.place
 rw [List.findIdx?_isSome,List.any_eq_true]
 exact ⟨r,h,decide_eq_true rfl⟩
theorem zfI {no p : Addr} {H : Hp} {o : HO} : ∀ {xs : List V} {ls : List (List Str)},Paired (Lns.zdJ no H) xs ls -> V.ref p ∉ xs -> Paired (Lns.zdJ no (upd H p o)) xs ls
 | _,_,.nil,_=>.nil
 | _,_,.cons ⟨q,e,n,z⟩ t,hn=>by
   subst e
   exact .cons ⟨q,rfl,n,by rw [zai (fun e=>hn (by rw [e]; exact List.mem_cons_self))]; exact z⟩ (zfI t fun h=>hn (List.mem_cons_of_mem _ h))
def zgZ (K : PySem.W.Frag) : Sp:=fun vs H Q _=>∃ (l pc : Addr) (ns : List Int) (xs : List V) (rs : List Cs.Row),vs = [.ref l,.ref pc] /\ SqL K H l (ns.map V.int) /\ ns.length <= 63 /\ H pc = some (.lst xs) /\ Paired (Cs.zcf H) xs rs /\ rs ≠ [] /\ rs.length <= 30 /\ (∀ r ∈ rs,∃ c ∈ Cs.signs,r.s = sg c) /\
 ∀ (r : Addr) (zs : List V) (ls : List (List Str)) H',H r = none -> Same H H' -> H' r = some (.lst zs) -> Paired (Lns.zdJ r H') zs ls -> Mc.Lines rs ls -> Q (.ref r) H'
theorem zgT (T : Tx K mg a) : FnOk P w K mg base CX0 2 a.f_law_lines a.d_law_lines ["_law_cells","_law_case_here"] (zgZ K):=by
 have G_law_mixed:=zcT (P:=P) (w:=w) (base:=base) T
 refine T.law_lines.fn.ok zgR (fun vs H Q E h=>?_) (fun cdv A outer s H vs Q E hr h=>?_)
 ·obtain ⟨l,pc,ns,xs,rs,rfl,_⟩:=h
  rfl
 obtain ⟨l,pc,ns,xs,rs,rfl,hS,hnl,hc,hpd,hne,hrl,hsg,q⟩:=h
 have hxl:=Cs.zaZ hpd
 have hpos : 0 < rs.length:=List.length_pos_iff.mpr hne
 refine ⟨_,(zab (zaC (i:=2) zgR.nd rfl (Or.inl rfl) (zax (zaa (zax zad) zad)))
  (zab (zcG PassesOwn.never rfl (zdh K rfl rfl T.b_enumerate (zaa (pv 0) zad)) (zbv K rfl (n:=2) rfl (zan (zam (i:=3) zgR.nd rfl (Or.inl rfl)) (zan (zam (i:=4) zgR.nd rfl (Or.inl rfl)) zbs))) (zab (zaC (i:=5) zgR.nd rfl (Or.inl rfl) (zaU T.law_mixed G_law_mixed hr rfl (zaa (pv 4) (zaa (pv 3) zad))))
  (zab (zaC (i:=6) zgR.nd rfl (Or.inl rfl) zaj)
  (zab (zcG PassesOwn.never rfl (zcR rfl T.b_range (zaa (zaq zaP zag (zaq zbm (pv 5) zag)) zad)) (zam (i:=7) zgR.nd rfl (Or.inl rfl)) (zab (zaC (i:=5) zgR.nd rfl (Or.inl rfl) (zaq zbm (zaq zen (zaq zaP (zaq zaP (pv 5) (pv 7)) zag) zag) zag))
  (zaf (zaC (i:=6) zgR.nd rfl (Or.inl rfl) (zaq zfL (pv 6) (zaG (zbA K rfl) (zaG (zav K rfl) (pv 1) (zaq zbm (zaq zcc (pv 5) zag) (zbh (zcD K rfl) rfl T.b_len zcH (zaa (pv 1) zad))) (fun _ _=>rfl)) zag (fun _ _=>rfl)))))))
  (zab (zaH (zaY K rfl PySem.F.plainAttrs_list PySem.F.slot_list_append PySem.F.type_list_append zaN (zaG (zav K rfl) (pv 2) (znR zle zag) (fun _ _=>rfl)) (zaa (pv 6) zad)))
  (zaf (zbe (zar zcO (zaq zbm (pv 5) zag) zag (zao _)) (zaf (zaH (zaY K rfl PySem.F.plainAttrs_list PySem.F.slot_list_append PySem.F.type_list_append zaN (pv 2) (zaa (zax zad) zad)))) zaB)))))))
  (zaf (zat (zbf rfl (zaO K rfl (pv 2)) (BlkOk.of (N':=["_law_cells","_law_case_here","_law_lines_here","_law_k","_law_cell","_law_number","_law_word","_law_j","_law_line"]) (ms:=[]) (k:=1) (by rfl)) (fun _ _ _ _ _=>(zam (i:=8) (show List.Nodup (["_law_cells","_law_case_here","_law_lines_here","_law_k","_law_cell","_law_number","_law_word","_law_j","_law_line"] : List Str) from by decide +kernel) rfl (Or.inl rfl))) (fun _ _ _ _ _=>(zir (zar (kneD K rfl hr.units) (pv 8) (zax zad) (zao _)))) (fun _ _ _ _ _=>(pv 8))))))),?_⟩
 walk_at "rd"
 refine fun p0 hp0=>?_
 have hs1:=zae hp0 (.lst [])
 have h1p : upd H p0 (.lst []) p0 = some (.lst (([] : List Str).map V.str)):=upd_same
 generalize upd H p0 (.lst []) = H1 at hs1 h1p ⊢
 walk_at "rd"
 refine fun LR hLR=>?_
 have hs2:=zbk (o:=.lst [.ref p0]) hs1 hLR
 have hs12:=zae hLR (.lst [.ref p0])
 have h2L : upd H1 LR (.lst [.ref p0]) LR = some (.lst ([] ++ [.ref p0])):=upd_same
 generalize upd H1 LR (.lst [.ref p0]) = H2 at hs2 hs12 h2L ⊢
 have hpL : p0 ≠ LR:=fun e=>by rw [<- e,h1p] at hLR; cases hLR
 have hLR0:=hs1.free hLR
 refine ⟨_,rfl,?_⟩
 refine ⟨l,rfl,⟨_,hs2.seq hS⟩,?_⟩
 refine zcY (a:=l) (xs:=ns.map V.int) (fun i σ H3=>∃ (ini : List V) (p : Addr) (ls : List (List Str)) (last : List Str) (v3 v4 v5 v6 v7 : Option V),σ = [some (.ref l),some (.ref pc),some (.ref LR),v3,v4,v5,v6,v7] /\ Same H H3 /\ H3 LR = some (.lst (ini ++ [.ref p])) /\ Paired (Lns.zdJ LR H3) ini ls /\ V.ref p ∉ ini /\ p ≠ LR /\ H p = none /\ H3 p = some (.lst (last.map V.str)) /\
  ls.length <= i /\ last.length <= i /\ (∀ l ∈ ls,l ≠ [] /\ l.length <= 63 /\ ∀ x ∈ l,Mc.Wd rs 5 x) /\ ∀ x ∈ last,Mc.Wd rs 5 x)
  ⟨[],p0,[],[],none,none,none,none,none,rfl,hs2,h2L,.nil,(fun z=>nomatch z),hpL,hp0,hs12 _ _ h1p,Nat.le_refl _,Nat.le_refl _,(fun l hl=>nomatch hl),(fun l hl=>nomatch hl)⟩ (by rintro i σ H3 _ ⟨_,_,_,_,_,_,_,_,_,_,hs,_⟩; exact hs.seq hS) ?_ ?_
 ·rintro i y tp σ H3 hy ⟨ini,p,ls,last,v3,v4,v5,v6,v7,rfl,hs3,hL3,hp3,hpi,hpL,hp0,hpp,hll,hla,hlo,hlw⟩ htp0
  obtain ⟨c,rfl,hci⟩:=zcC hy
  have hil : i < ns.length:=(List.getElem?_eq_some_iff.mp hci).1
  have hs34:=zae htp0 (.tup [.int i,.int c])
  have hs4:=zbk (o:=.tup [.int i,.int c]) hs3 htp0
  have h4t : upd H3 tp (.tup [.int i,.int c]) tp = some (.tup [.int i,.int c]):=upd_same
  generalize upd H3 tp (.tup [.int i,.int c]) = H4 at hs34 hs4 h4t ⊢
  have hL4:=hs34 _ _ hL3
  have hpp4:=hs34 _ _ hpp
  have hp4:=Lns.zeh hp3 hs34
  walk_at "rd"
  walk_at "tg"
  walk_at "tg"
  walk_at "rd"
  refine ⟨_,_,rfl,by omega,by omega,fun f hf0 hf1=>?_⟩
  have hf5:=Int.emod_nonneg f (show (5 : Int) ≠ 0 by decide)
  have hf6:=Int.emod_lt_of_pos f (show (0 : Int) < 5 by decide)
  walk_at "rd"
  refine zdV (n:=(1 + f % 5).toNat) (fun j σ H5=>∃ (x : Str) (nn : Int) (v7 : Option V),σ = [some (.ref l),some (.ref pc),some (.ref LR),some (.int i),some (.int c),some (.int nn),some (.str x),v7] /\ H5 = H4 /\ 0 <= nn /\ nn < 2147483647 /\ x.length = j /\ ∀ c ∈ x.cps.toList,c ∈ Cs.signs /\ (Cs.place rs (sg c)).isSome = true)
   ⟨"",f,v7,rfl,rfl,hf0,hf1,by decide,fun c h=>by rw [show (Str.ofString "").cps.toList = [] by decide] at h; cases h⟩ ?_ ?_
  ·rintro j σ H5 hj ⟨x,nn,v7,rfl,rfl,hn0,hn1,hxlen,hxp⟩
   rw [Int.zero_add]
   have hb0:=Int.emod_nonneg ((nn + (j : Int) + 1) * 69621) (show (2147483647 : Int) ≠ 0 by decide)
   have hb1:=Int.emod_lt_of_pos ((nn + (j : Int) + 1) * 69621) (show (0 : Int) < 2147483647 by decide)
   have hj5 : (j : Int) <= 5:=by omega
   have hc4:=hs4 _ _ hc
   have hat : ∀ g : Int,0 <= g -> g < 2147483647 -> ∃ (k : Nat) (t : Addr) (c : Nat),g / 7 % (xs.length : Int) = (k : Int) /\ atI xs (k : Int) = some (.ref t) /\ c ∈ Cs.signs /\ (Cs.place rs (sg c)).isSome = true /\ ∃ r : Cs.Row,r.s = sg c /\ H5 t = some (.tup (Cs.rowV r)):=fun g hg0 hg1=>by
    have hy0:=Int.emod_nonneg (g / 7) (show (xs.length : Int) ≠ 0 by omega)
    have hy1:=Int.emod_lt_of_pos (g / 7) (show (0 : Int) < xs.length by omega)
    obtain ⟨k,hk⟩:=Int.eq_ofNat_of_zero_le hy0
    have hkl : k < xs.length:=by omega
    obtain ⟨r,hri,t,et,ht⟩:=Cs.zaM hpd (List.getElem?_eq_getElem hkl)
    have hrm:=List.mem_of_getElem? hri
    obtain ⟨c,hcs,ec⟩:=hsg r hrm
    exact ⟨k,t,c,hk,by rw [<- et]; exact zaL (List.getElem?_eq_getElem hkl),hcs,by rw [<- ec]; exact zkO hrm,r,ec,hs4 _ _ ht⟩
   obtain ⟨k,t,d,hk,hatk,hds,hdp,r,er,ht⟩:=hat _ hb0 hb1
   walk_at "rd"
   refine ⟨pc,_,rfl,.inl (SqL.of hc4),?_⟩
   refine ⟨_,_,rfl,rfl,(by show (0 : Int) < _; omega),?_⟩
   dsimp only
   rw [hk]
   refine ⟨pc,_,_,_,rfl,rfl,SqL.of hc4,hatk,?_⟩
   refine ⟨t,_,_,_,rfl,rfl,SqT.of ht,rfl,?_⟩
   refine ⟨_,_,rfl,rfl,zbG (by rw [er]; show x.length + 1 <= _; omega),?_⟩
   refine ⟨x ++ r.s,_,_,rfl,rfl,hb0,hb1,?_,fun z hz=>?_⟩
   ·rw [Str.length_append,er,hxlen]
    rfl
   ·rw [er,Str.cps_append,Array.toList_append] at hz
    rcases List.mem_append.mp hz with h | h
    ·exact hxp z h
    ·have : z = d:=by simpa [sg] using h
     rw [this]
     exact ⟨hds,hdp⟩
  ·rintro σ H5 ⟨x,nn,v7,rfl,rfl,hn0,hn1,hxlen,hxp⟩
   have hw : Mc.Wd rs 5 x:=⟨by omega,by omega,hxp⟩
   have hinl:=Lns.zdT hp4
   walk_at "rd"
   refine ⟨LR,_,-1,_,rfl,rfl,SqL.of hL4,Lns.zmw ini _,?_⟩
   refine ⟨.inl ⟨rfl,_,SqL.of hpp4⟩,?_⟩
   walk_at "rd"
   refine ⟨p,_,_,rfl,rfl,hpp4,zbb (by rw [List.length_map]; omega),?_⟩
   have hs6:=zap (o:=.lst (last.map V.str ++ [V.str x])) hs4 hp0
   have hL6 : upd H5 p (.lst (last.map V.str ++ [V.str x])) LR = some (.lst (ini ++ [.ref p])):=by rw [zai hpL.symm]; exact hL4
   have h6p : upd H5 p (.lst (last.map V.str ++ [V.str x])) p = some (.lst ((last ++ [x]).map V.str)):=by rw [upd_same,List.map_append]; rfl
   have hp6:=zfI (o:=.lst (last.map V.str ++ [V.str x])) hp4 hpi
   generalize upd H5 p (.lst (last.map V.str ++ [V.str x])) = H6 at hs6 hL6 h6p hp6 ⊢
   have hlw' : ∀ y ∈ last ++ [x],Mc.Wd rs 5 y:=fun y hy=>by
    rcases List.mem_append.mp hy with hy | hy
    ·exact hlw y hy
    ·rw [List.mem_singleton.mp hy]
     exact hw
   have hla' : (last ++ [x]).length <= i + 1:=by rw [List.length_append]; show _ + 1 <= _; omega
   walk_at "rd"
   refine ite2 (fun _=>?_) (fun _=>?_)
   ·walk_at "rd"
    refine ⟨.inl ⟨rfl,_,SqL.of hL6⟩,?_⟩
    walk_at "rd"
    refine fun e he=>?_
    have hs7:=zae he (.lst [])
    have h7e : upd H6 e (.lst []) e = some (.lst (([] : List Str).map V.str)):=upd_same
    generalize upd H6 e (.lst []) = H7 at hs7 h7e ⊢
    have hL7:=hs7 _ _ hL6
    have heL : e ≠ LR:=fun z=>by rw [z,hL6] at he; cases he
    refine ⟨LR,_,_,rfl,rfl,hL7,zbb (by rw [List.length_append]; show _ + 1 <= _; omega),?_⟩
    have hp7:=Lns.zeh hp6 hs7
    refine ⟨ini ++ [.ref p],e,ls ++ [last ++ [x]],[],_,_,_,_,_,rfl,zap (hs6.trans hs7) hLR0,upd_same,?_,?_,heL,hs6.free he,by rw [zai heL]; exact h7e,by rw [List.length_append]; show _ + 1 <= _; omega,Nat.zero_le _,?_,fun y hy=>nomatch hy⟩
    ·exact Paired.snoc (Lns.zgQ hp7) ⟨p,rfl,hpL,by rw [zai hpL]; exact hs7 _ _ h6p⟩
    ·intro z
     rcases List.mem_append.mp z with z | z
     ·obtain ⟨k,hk,ek⟩:=List.getElem_of_mem z
      obtain ⟨_,_,q1,eq1,_,hq1⟩:=Cs.zaM hp6 (List.getElem?_eq_getElem hk)
      rw [ek] at eq1
      cases eq1
      rw [he] at hq1
      cases hq1
     ·cases List.mem_singleton.mp z
      rw [he] at h6p
      cases h6p
    ·intro l hl
     rcases List.mem_append.mp hl with hl | hl
     ·exact hlo l hl
     ·rw [List.mem_singleton.mp hl]
      exact ⟨by simp,by omega,hlw'⟩
   ·exact ⟨ini,p,ls,last ++ [x],_,_,_,_,_,rfl,hs6,hL6,hp6,hpi,hpL,hp0,h6p,by omega,hla',hlo,hlw'⟩
 ·rintro σ H3 ⟨ini,p,ls,last,v3,v4,v5,v6,v7,rfl,hs3,hL3,hp3,hpi,hpL,hp0,hpp,hll,hla,hlo,hlw⟩
  rw [List.length_map] at hll hla
  have hall : Paired (Lns.zdJ LR H3) (ini ++ [.ref p]) (ls ++ [last]):=Paired.snoc hp3 ⟨p,rfl,hpL,hpp⟩
  have hal : (ini ++ [V.ref p]).length = (ls ++ [last]).length:=Lns.zdT hall
  have halw : ∀ l ∈ ls ++ [last],l.length <= 63 /\ ∀ x ∈ l,Mc.Wd rs 5 x:=fun l hl=>by
   rcases List.mem_append.mp hl with hl | hl
   ·exact (hlo l hl).2
   ·rw [List.mem_singleton.mp hl]
    exact ⟨by omega,hlw⟩
  have hfl : (ls ++ [last]).length <= 64:=by rw [List.length_append]; show _ + 1 <= _; omega
  generalize ini ++ [V.ref p] = zs at hL3 hall hal
  generalize ls ++ [last] = ms at hall hal halw hfl
  walk_at "rd"
  refine ⟨⟨_,SqL.of hL3⟩,fun D hD=>?_⟩
  refine zaI (a:=LR) (xs:=zs) (fun i ys σ H4=>∃ (w8 : Option V),σ = [some (.ref l),some (.ref pc),some (.ref LR),v3,v4,v5,v6,v7,w8] /\ Same H3 H4 /\ H4 D = some (.lst ys) /\ Paired (Lns.zdJ D H4) ys ((ms.take i).filter fun l=>!l.isEmpty))
   ?_ ?_ ?_ ?_
  ·exact ⟨none,rfl,zae hD _,upd_same,.nil⟩
  ·rintro i ys σ H4 hi ⟨_,_,hs,_⟩
   exact hs.seq (SqL.of hL3)
  ·rintro i y ys σ H4 hy hil ⟨w8,rfl,hs4,hh4,hy4⟩
   obtain ⟨l1,hl1,q1,rfl,_,hq1⟩:=Cs.zaM hall hy
   have hq4:=hs4 _ _ hq1
   have hqD : q1 ≠ D:=zay hq1 hD
   have hyl:=Lns.zdT hy4
   have hfl2:=List.length_filter_le (fun l : List Str=>!l.isEmpty) (ms.take i)
   rw [List.length_take] at hfl2
   have hlay : ∀ x ∈ l1,PyData.canLay0 (.str x) = true:=fun x hx=>((halw l1 (List.mem_of_getElem? hl1)).2 x hx).lay
   walk_at "rd"
   refine fun e he=>?_
   have hs5:=zae he (.lst [])
   have hes : upd H4 e (.lst []) e = some (.lst []):=upd_same
   generalize upd H4 e (.lst []) = H5 at hs5 hes ⊢
   have hh5:=hs5 _ _ hh4
   have hy5:=Lns.zeh hy4 hs5
   refine ⟨_,_,.lst (SqL.of (hs5 _ _ hq4)) (Ln.zdg hlay),Mc.zaW hes,Mc.zaS _,?_⟩
   refine ⟨_,rfl,?_⟩
   have ee : (if true = true then !PyData.eqv (.list (l1.map PyData.str)) (.list []) else PyData.eqv (.list (l1.map PyData.str)) (.list [])) = !l1.isEmpty:=by
    rw [if_pos rfl,Mc.zaV PyData.str l1]
   rw [ee]
   have etk : ((ms.take (i + 1)).filter fun l=>!l.isEmpty) = ((ms.take i).filter fun l=>!l.isEmpty) ++ (if (!l1.isEmpty) = true then [l1] else []):=by
    rw [List.take_add_one,hl1,List.filter_append]
    congr 1
    cases l1 <;> rfl
   cases hb : (!l1.isEmpty) with
   | false =>
     rw [hb,if_neg (by decide),List.append_nil] at etk
     refine iteF ?_
     exact znf hil ⟨_,rfl,hs4.trans hs5,hh5,by rw [etk]; exact hy5⟩
   | true =>
     rw [hb,if_pos rfl] at etk
     refine iteT ?_
     walk_at "rd"
     refine zcK hil hh5 (by omega) ⟨_,rfl,zap (hs4.trans hs5) hD,upd_same,?_⟩
     rw [etk]
     exact Paired.snoc (Lns.zgQ hy5) ⟨q1,rfl,hqD,by rw [zai hqD]; exact hs5 _ _ hq4⟩
  ·rintro ys σ H4 ⟨w8,rfl,hs4,hh4,hy4⟩
   rw [hal,List.take_of_length_le (Nat.le_refl _)] at hy4
   refine q D ys _ H4 (hs3.free hD) (hs3.trans hs4) hh4 hy4 ⟨?_,fun l hl=>?_⟩
   ·exact Nat.le_trans (List.length_filter_le _ _) hfl
   ·obtain ⟨h1,h2⟩:=List.mem_filter.mp hl
    exact ⟨fun z=>(by rw [z] at h2; exact absurd h2 (by decide)),halw l h1⟩
def ziF (K : PySem.W.Frag) : Sp:=fun vs H Q _=>∃ (p no : Addr) (xs : List V) (ls : List (List Str)),vs = [.ref p] /\ SqL K H p xs /\ Paired (Lns.zdJ no H) xs ls /\ Lns.Fit ls /\ ∀ H',Same H H' -> Q (.str (Lns.keyT ls)) H'
theorem zid (T : Tx K mg a) : FnOk P w K mg base CX0 1 a.f_law_keys a.d_law_keys ["_law_lines_here"] (ziF K):=by
 refine T.law_keys.fn.ok ziq (fun vs H Q E h=>?_) (fun cdv A outer s H vs Q E hr h=>?_)
 ·obtain ⟨p,no,xs,ls,rfl,_⟩:=h
  rfl
 obtain ⟨p,no,xs,ls,rfl,hS,hp,hf,q⟩:=h
 have hxl:=Lns.zdT hp
 have hf1:=hf.1
 refine ⟨_,(zaf (zat (zaY K rfl PySem.F.plainAttrs_str PySem.F.slot_str_join PySem.F.type_str_join (zeJ K rfl) zaj (zaa (zbf rfl (zaO K rfl (pv 0)) (BlkOk.of (N':=["_law_lines_here","_law_line"]) (ms:=[]) (k:=1) (by rfl)) (fun _ _ _ _ _=>(zam (i:=1) (show List.Nodup (["_law_lines_here","_law_line"] : List Str) from by decide +kernel) rfl (Or.inl rfl))) (fun _ _ _ _ _=>zbH) (fun _ _ _ _ _=>(zaq zfL (zaY K rfl PySem.F.plainAttrs_str PySem.F.slot_str_join PySem.F.type_str_join (zeJ K rfl) zaj (zaa (pv 1) zad)) zaj))) zad)))),?_⟩
 walk_at "rd"
 intro D hD
 refine zaI (a:=p) (xs:=xs) (fun i ys σ H2=>∃ (v2 : Option V),ys = ((ls.take i).map fun l=>Lns.zbz l ++ "/").map V.str /\ σ = [some (.ref p),v2] /\ Same H H2 /\ H2 D = some (.lst ys))
  ?_ ?_ ?_ ?_
 ·exact ⟨none,rfl,rfl,zae hD _,upd_same⟩
 ·rintro i ys σ H2 hi ⟨v2,_,_,hs,_⟩
  exact hs.seq hS
 ·rintro i x ys σ H2 hx hil ⟨v2,rfl,rfl,hs,hh⟩
  obtain ⟨l,hl,p2,rfl,_,hp2⟩:=Cs.zaM hp hx
  obtain ⟨hl1,hl2⟩:=hf.2 l (List.mem_of_getElem? hl)
  have hll:=Lns.zgV hl1 hl2
  walk_at "rd"
  refine ⟨_,p2,l,rfl,rfl,SqL.of (hs _ _ hp2),Lns.zke hl1 hl2,?_⟩
  walk_at "rd"
  refine ⟨zbG ?_,?_⟩
  ·have e : (Str.ofString "/").length = 1:=by decide
   have e2 : (Txt.join (Str.ofString " ") l).length <= 10100:=hll
   omega
  refine zcK hil hh ?_ ⟨_,?_,rfl,zap hs hD,upd_same⟩
  ·rw [List.length_map,List.length_map,List.length_take]
   omega
  ·rw [List.take_add_one,hl,List.map_append,List.map_append]
   rfl
 ·rintro ys σ H2 ⟨v2,rfl,rfl,hs,hh⟩
  rw [hxl,List.take_of_length_le (Nat.le_refl _)] at hh
  refine ⟨_,D,_,rfl,rfl,SqL.of hh,Lns.zjF hf,?_⟩
  have e:=Lns.zlK ls
  have q:=q _ hs
  rw [<- e] at q
  exact q
/-- what is asked of the law's own machine -/
def ztU (f : Mc.Cf -> Mc.Ms -> V) : Sp:=fun vs H Q _=>∃ (d : Addr) (A : Mc.Adr) (c : Mc.Cf) (m : Mc.Ms),vs = [.ref d] /\ Mc.Now c H d A m /\ Mc.Ok c m /\ ∀ H',Same H H' -> Q (f c m) H'
def As (c : Mc.Cf) : Prop:=∀ k ∈ c.keys.cps.toList,k < 128
def zsk (f : Mc.Cf -> Mc.Ms -> V) : Sp:=fun vs H Q _=>∃ (d : Addr) (A : Mc.Adr) (c : Mc.Cf) (m : Mc.Ms),vs = [.ref A.c,.ref d] /\ Mc.Now c H d A m /\ Mc.Ok c m /\ As c /\ ∀ H',Same H H' -> Q (f c m) H'
theorem ziM {c : Mc.Cf} {m : Mc.Ms} (O : Mc.Ok c m) : (Mc.key c m).isNone = decide ((m.at_ : Int) = (c.keys.length : Int)):=by
 have e : c.keys.cps.toList.length = c.keys.length:=Array.length_toList
 have hl:=O.le
 unfold Mc.key
 by_cases h : m.at_ < c.keys.cps.toList.length
 ·rw [List.getElem?_eq_getElem h,decide_eq_false (by omega)]
  rfl
 ·rw [List.getElem?_eq_none (by omega),decide_eq_true (by omega)]
  rfl
theorem zem (T : Tx K mg a) : FnOk P w K mg base CX0 1 a.f_law_rests a.d_law_rests ["_law_now"] (ztU fun c m=>.bl (Mc.zbW c m)):=by
 refine T.law_rests.fn.ok zhk (fun vs H Q E h=>?_) (fun cdv A outer s H vs Q E hr h=>?_)
 ·obtain ⟨d,A,c,m,rfl,_⟩:=h
  rfl
 obtain ⟨d,A,c,m,rfl,N,O,q⟩:=h
 have q : ∀ H',Same H H' -> Q (.bl ((Mc.key c m).isNone && m.line.isEmpty && m.heat.isEmpty && m.bar.isEmpty)) H':=q
 rw [ziM O] at q
 have hks:=O.cf.short
 have hsz : c.keys.length <= sizeLine:=zbG (by omega)
 refine ⟨_,(zaf (zat (zca (zaK zcO (zas (zaE hr) (pv 0) zaj (fun _ _=>rfl)) (zbh zbO rfl T.b_len zcH (zaa (zas (zaE hr) (pv 0) zaj (fun _ _=>rfl)) zad)) (zao _)) (zca (zaK (keqD K rfl hr.units) (zas (zaE hr) (pv 0) zaj (fun _ _=>rfl)) (zax zad) (zao _)) (zca (zaK (keqD K rfl hr.units) (zas (zaE hr) (pv 0) zaj (fun _ _=>rfl)) (zax zad) (zao _)) (zdt (zaK (keqD K rfl hr.units) (zas (zaE hr) (pv 0) zaj (fun _ _=>rfl)) (zax zad) (zao _)))))))),?_⟩
 walk_at "rd"
 refine ⟨d,_,rfl,N.get Mc.zec,?_⟩
 walk_at "rd"
 refine ⟨d,_,rfl,N.get Mc.zhW,?_⟩
 walk_at "rd"
 rw [decV]
 cases h0 : decide ((m.at_ : Int) = (c.keys.length : Int)) with
 | false =>
   rw [h0] at q
   try refine iteF ?_
   exact q H (Same.refl _)
 | true =>
   rw [h0] at q
   try refine iteT ?_
   walk_at "rd"
   refine ⟨d,_,rfl,N.get Mc.zeZ,?_⟩
   walk_at "rd"
   refine fun e he=>?_
   have hs2:=zae he (.lst [])
   have N2:=N.same hs2
   refine ⟨_,_,N2.li.lin.den O.ilay,Mc.zaW upd_same,Mc.zaS _,?_⟩
   rw [Mc.zaV Mc.zbU m.line]
   generalize upd H e (.lst []) = H2 at hs2 N2 ⊢
   refine ⟨_,rfl,?_⟩
   cases h1 : m.line.isEmpty with
   | false =>
     rw [h1] at q
     refine iteF ?_
     exact q H2 hs2
   | true =>
     rw [h1] at q
     refine iteT ?_
     walk_at "rd"
     refine ⟨d,_,rfl,N2.get Mc.zcd,?_⟩
     walk_at "rd"
     refine fun e he=>?_
     have hs3:=zbk (o:=.lst []) hs2 he
     have N3:=N2.same (zae he (.lst []))
     refine ⟨_,_,N3.li.het.den O.hlay,Mc.zaW upd_same,Mc.zaS _,?_⟩
     rw [Mc.zaV Mc.zbU m.heat]
     generalize upd H2 e (.lst []) = H3 at hs3 N3 ⊢
     refine ⟨_,rfl,?_⟩
     cases h2 : m.heat.isEmpty with
     | false =>
       rw [h2] at q
       refine iteF ?_
       exact q H3 hs3
     | true =>
       rw [h2] at q
       refine iteT ?_
       walk_at "rd"
       refine ⟨d,_,rfl,N3.get Mc.zfN,?_⟩
       walk_at "rd"
       refine fun e he=>?_
       have hs4:=zbk (o:=.lst []) hs3 he
       have N4:=N3.same (zae he (.lst []))
       refine ⟨_,_,N4.li.bar.den O.blay,Mc.zaW upd_same,Mc.zaS _,?_⟩
       have q:=q _ hs4
       rw [<- Mc.zaV Mc.mxD m.bar] at q
       exact q
theorem zmt : ∀ c,c < 128 -> (!!(Builtin.Str.occurrences (Str.ofString " /") (sg c) 0 (Str.ofString " /").length 1).isEmpty) = !(decide (c = 32) || decide (c = 47)):=by decide +kernel
theorem zgr {rs : List Cs.Row} {x : Str} {j : Nat} (h : Cs.place rs x = some j) : (rs.map fun r=>r.s)[j]? = some x /\ ∀ (i : Nat) y,i < j -> (rs.map fun r=>r.s)[i]? = some y -> y ≠ x:=by
 unfold Cs.place at h
 obtain ⟨hi,h1,h2⟩:=List.findIdx?_eq_some_iff_getElem.mp h
 refine ⟨?_,fun i y hij hy=>?_⟩
 ·rw [List.getElem?_map,List.getElem?_eq_getElem hi]
  exact congrArg some (of_decide_eq_true h1)
 ·rw [List.getElem?_map,List.getElem?_eq_getElem (by omega)] at hy
  have:=h2 i hij
  rw [<- Option.some.inj hy]
  exact fun e=>this (decide_eq_true e)
theorem zgY {c : Mc.Cf} {m : Mc.Ms} {k : Nat} (O : Mc.Ok c m) (h : Mc.key c m = some k) : k = 47 \/ k = 32 \/ (∃ j,Cs.place c.rs (sg k) = some j /\ k ≠ 47 /\ k ≠ 32):=by
 rcases O.cf.known k (List.mem_of_getElem? h) with z | z | ⟨z,z1,z2⟩
 ·exact .inl z
 ·exact .inr (.inl z)
 ·obtain ⟨j,hj⟩:=Option.isSome_iff_exists.mp z
  exact .inr (.inr ⟨j,hj,z1,z2⟩)
theorem zel (T : Tx K mg a) : FnOk P w K mg base CX0 1 a.f_law_stuck a.d_law_stuck ["_law_case_here","_law_now"] (zsk fun c m=>.bl (Mc.zer c m)):=by
 refine T.law_stuck.fn.ok zgS (fun vs H Q E h=>?_) (fun cdv A outer s H vs Q E hr h=>?_)
 ·obtain ⟨d,A,c,m,rfl,_⟩:=h
  rfl
 obtain ⟨d,A,c,m,rfl,N,O,hAs,q⟩:=h
 have q : ∀ H',Same H H' -> Q (.bl (Mc.zbI c m && m.heat.isEmpty && m.bar.isEmpty)) H':=q
 have hks:=O.cf.short
 have hsz : c.keys.length <= sizeLine:=zbG (by omega)
 have hke:=ziM O
 refine ⟨_,(zab (zbe (PW.pt (zgs (zar zcO (zas (zaE hr) (pv 1) zaj (fun _ _=>rfl)) (zbh zbO rfl T.b_len zcH (zaa (zas (zaE hr) (pv 1) zaj (fun _ _=>rfl)) zad)) (zao _)) (zgs (zar (kneD K rfl hr.units) (zas (zaE hr) (pv 1) zaj (fun _ _=>rfl)) (zax zad) (zao _)) (zeO (zar (kneD K rfl hr.units) (zas (zaE hr) (pv 1) zaj (fun _ _=>rfl)) (zax zad) (zao _)))))) (zaf (zat zev)) zaB)
  (zab (zaC (i:=2) zgS.nd rfl (Or.inl rfl) (zaG zdR (zas (zaE hr) (pv 1) zaj (fun _ _=>rfl)) (zas (zaE hr) (pv 1) zaj (fun _ _=>rfl)) (fun _ _=>rfl)))
  (zaf (zat (zca (zaK zhO (pv 2) zaj (by with_unfolding_all rfl)) (zdt (zaK (keqD K rfl hr.units) (zaG (zav K rfl) (zas (zaE hr) (pv 1) zaj (fun _ _=>rfl)) (zaY K rfl PySem.F.plainAttrs_list PySem.F.slot_list_index PySem.F.type_list_index zhS (zbf rfl (zaO K rfl (pv 0)) (BlkOk.of (N':=["_law_case_here","_law_now","_law_key","_law_channel"]) (ms:=[]) (k:=1) (by rfl)) (fun _ _ _ _ _=>(zam (i:=3) (show List.Nodup (["_law_case_here","_law_now","_law_key","_law_channel"] : List Str) from by decide +kernel) rfl (Or.inl rfl))) (fun _ _ _ _ _=>zbH) (fun _ _ _ _ _=>(zaG (zbA K rfl) (pv 3) zag (fun _ _=>rfl)))) (zaa (pv 2) zad)) (fun _ _=>rfl)) (zax zad) (zao _)))))))),?_⟩
 walk_at "rd"
 refine ⟨d,_,rfl,N.get Mc.zec,?_⟩
 walk_at "rd"
 refine ⟨d,_,rfl,N.get Mc.zhW,?_⟩
 walk_at "rd"
 rw [decV]
 refine ite2 (fun c1=>?_) (fun c1=>?_)
 ·rw [c1] at hke
  have hl : Mc.zbI c m = false:=Mc.zdf (by
   unfold Mc.keyS
   rw [Option.isNone_iff_eq_none.mp hke]
   exact O.cf.noWedge.2.2)
  rw [hl] at q
  walk_at "rd"
  exact q H (Same.refl _)
 have c1 : decide ((m.at_ : Int) = (c.keys.length : Int)) = false:=by
  cases hz : decide ((m.at_ : Int) = (c.keys.length : Int)) with
  | false=>rfl
  | true=>exact absurd hz c1
 rw [c1] at hke
 obtain ⟨k,hk⟩ : ∃ k,Mc.key c m = some k:=by
  cases hz : Mc.key c m with
  | none=>rw [hz] at hke; cases hke
  | some k=>exact ⟨k,rfl⟩
 have ea : atI c.keys.cps.toList (m.at_ : Int) = some k:=zaL hk
 have hk128:=hAs k (List.mem_of_getElem? hk)
 have eS : Mc.keyS c m = sg k:=by unfold Mc.keyS; rw [hk]
 walk_at "rd"
 refine ⟨d,_,rfl,N.get Mc.zcd,?_⟩
 walk_at "rd"
 refine fun e he=>?_
 have hs2:=zae he (.lst [])
 have N2:=N.same hs2
 refine ⟨_,_,N2.li.het.den O.hlay,Mc.zaW upd_same,Mc.zaS _,?_⟩
 rw [Mc.zaV Mc.zbU m.heat]
 generalize upd H e (.lst []) = H2 at hs2 N2 ⊢
 refine ⟨_,rfl,?_⟩
 cases h1 : m.heat.isEmpty with
 | false =>
   rw [h1,Bool.and_false] at q
   refine iteT ?_
   walk_at "rd"
   exact q H2 hs2
 | true =>
   rw [h1,Bool.and_true] at q
   refine iteF ?_
   walk_at "rd"
   refine ⟨d,_,rfl,N2.get Mc.zfN,?_⟩
   walk_at "rd"
   refine fun e he=>?_
   have hs3:=zbk (o:=.lst []) hs2 he
   have N3:=N2.same (zae he (.lst []))
   refine ⟨_,_,N3.li.bar.den O.blay,Mc.zaW upd_same,Mc.zaS _,?_⟩
   rw [Mc.zaV Mc.mxD m.bar]
   generalize upd H2 e (.lst []) = H3 at hs3 N3 ⊢
   refine ⟨_,rfl,?_⟩
   cases h2 : m.bar.isEmpty with
   | false =>
     rw [h2,Bool.and_false] at q
     refine iteT ?_
     walk_at "rd"
     exact q H3 hs3
   | true =>
     rw [h2,Bool.and_true] at q
     refine iteF ?_
     walk_at "rd"
     refine ⟨d,_,rfl,N3.get Mc.zhW,?_⟩
     walk_at "rd"
     refine ⟨d,_,rfl,N3.get Mc.zec,?_⟩
     walk_at "rd"
     refine ⟨_,_,_,rfl,rfl,hsz,ea,?_⟩
     walk_at "rd"
     rw [show (!!(Builtin.Str.occurrences (Str.ofString " /") ({ cps:=#[k] } : Str) 0 (Str.ofString " /").length 1).isEmpty) = _ from zmt k hk128]
     have wedge : Cs.place c.rs (sg k) = none -> Mc.zbI c m = false:=fun h=>Mc.zdf (by rw [eS]; exact h)
     rcases zgY O hk with z | z | ⟨j,hj,z1,z2⟩
     ·subst z
      rw [wedge O.cf.noWedge.1] at q
      try refine iteF ?_
      exact q H3 hs3
     ·subst z
      rw [wedge O.cf.noWedge.2.1] at q
      try refine iteF ?_
      exact q H3 hs3
     ·have e0 : (!(decide (k = 32) || decide (k = 47))) = true:=by rw [decide_eq_false z2,decide_eq_false z1]; rfl
      rw [e0]
      try refine iteT ?_
      obtain ⟨lq,l,g1,g2,g3,g4⟩:=N3.lane O (Cs.zbJ hj)
      have el : Mc.zbI c m = l.isEmpty:=(Mc.zdZ (by rw [eS]; exact hj)).trans (Mc.zee g2)
      rw [el] at q
      obtain ⟨xs,hx1,hx2⟩:=N3.li.rows
      have hxl:=Cs.zaZ hx2
      have hfew:=O.cf.few
      walk_at "rd"
      refine ⟨d,_,rfl,N3.get Mc.zeK,?_⟩
      walk_at "rd"
      refine ⟨⟨_,SqL.of hx1⟩,fun D hD=>?_⟩
      refine zaI (a:=A.c) (xs:=xs) (fun i ys σ H4=>∃ (v3 : Option V),ys = ((c.rs.take i).map fun r=>r.s).map V.str /\ σ = [some (.ref A.c),some (.ref d),some (.str (sg k)),v3] /\ Same H3 H4 /\ H4 D = some (.lst ys))
       ?_ ?_ ?_ ?_
      ·exact ⟨none,rfl,rfl,zae hD _,upd_same⟩
      ·rintro i ys σ H4 hi ⟨v3,_,_,hs,_⟩
       exact hs.seq (SqL.of hx1)
      ·rintro i y ys σ H4 hy hil ⟨v3,rfl,rfl,hs,hh⟩
       obtain ⟨r,hri,t,et,ht⟩:=Cs.zaM hx2 hy
       subst et
       have a0 : atI (Cs.rowV r) 0 = some (.str r.s):=rfl
       walk_at "rd"
       refine ⟨t,_,_,_,rfl,rfl,SqT.of (hs _ _ ht),a0,?_⟩
       refine zcK hil hh (by rw [List.length_map,List.length_map,List.length_take]; omega) ⟨_,?_,rfl,zap hs hD,upd_same⟩
       rw [List.take_add_one,hri,Option.toList_some,List.map_append,List.map_append]
       rfl
      ·rintro ys σ H4 ⟨v3,rfl,rfl,hs4,hh4⟩
       rw [hxl,List.take_of_length_le (Nat.le_refl _)] at hh4
       have N4:=N3.same hs4
       have hs04:=hs3.trans hs4
       obtain ⟨p1,p2⟩:=zgr hj
       walk_at "rd"
       refine ⟨.inl ⟨rfl,_,SqL.of hh4⟩,?_⟩
       walk_at "rd"
       refine ⟨D,_,sg k,j,rfl,rfl,hh4,p1,p2,by have:=Cs.zbJ hj; omega,?_⟩
       refine ⟨A.L,_,(j : Int),_,rfl,rfl,SqL.of N4.li.lan,g4,?_⟩
       walk_at "rd"
       refine fun e he=>?_
       have hs5:=zae he (.lst [])
       have g5 : Mc.LnAt (upd H4 e (.lst [])) lq l:=Mc.LnAt.keep (Mc.Keep.of_same (S:=fun _=>True) (hs4.trans hs5)) trivial g3
       refine ⟨_,_,g5.den (O.llay g2),Mc.zaW upd_same,Mc.zaS _,?_⟩
       have q:=q _ (hs04.trans hs5)
       rw [<- Mc.zaV Mc.mxD l] at q
       exact q
def zue (f : Mc.Cf -> Mc.Ms -> Mc.Ms) : Sp:=fun vs H Q _=>∃ (d : Addr) (A : Mc.Adr) (c : Mc.Cf) (m : Mc.Ms),vs = [.ref A.c,.ref d] /\ Mc.Now c H d A m /\ Mc.Ok c m /\ As c /\ m.bar ≠ [] /\ ∀ A' H',A'.c = A.c -> Mc.Now c H' d A' (f c m) -> Mc.Step d A H A' H' -> Q .non H'
theorem ziN (T : Tx K mg a) : FnOk P w K mg base CX0 1 a.f_law_fall a.d_law_fall ["_law_case_here","_law_now"] (zue Mc.fall):=by
 refine T.law_fall.fn.ok ziP (fun vs H Q E h=>?_) (fun cdv A outer s H vs Q E hr h=>?_)
 ·obtain ⟨d,A,c,m,rfl,_⟩:=h
  rfl
 obtain ⟨d,A,c,m,rfl,N,O,hAs,hne,q⟩:=h
 unfold Mc.fall at q
 cases hb : m.bar with
 | nil=>exact absurd hb hne
 | cons x r =>
   rw [hb] at q
   obtain ⟨o1,o2,o3,o4,k,hk,hkl⟩:=O.bm x (by rw [hb]; exact List.mem_cons_self)
   have q : ∀ A' H',A'.c = A.c -> Mc.Now c H' d A' (match Mt.zce (c.rs.map fun r=>r.t) x.2 with
    | some k=>{ m with bar:=r,lanes:=Mc.zcs m.lanes k x }
    | none=>m) -> Mc.Step d A H A' H' -> Q .non H':=q
   obtain ⟨bs,hb1,hb2⟩:=N.li.bar
   rw [hb] at hb2
   obtain ⟨v,vs,rfl,hv,hvs⟩ : ∃ v vs,bs = v :: vs /\ Lan.zbn H v x /\ Paired (Lan.zbn H) vs r:=by
    cases hb2 with
    | cons h1 h2=>exact ⟨_,_,rfl,h1,h2⟩
   refine ⟨_,(zab (zeo (zaY K rfl PySem.F.plainAttrs_list PySem.F.slot_list_pop PySem.F.type_list_pop zeF (zas (zaE hr) (pv 1) zaj (fun _ _=>rfl)) (zaa zag zad)) (zbv K rfl (n:=2) rfl (zan (zam (i:=2) ziP.nd rfl (Or.inl rfl)) (zan (zam (i:=3) ziP.nd rfl (Or.inl rfl)) zbs))))
    (zaf (zcG PassesOwn.never rfl (zdh K rfl rfl T.b_enumerate (zaa (pv 0) zad)) (zbv K rfl (n:=2) rfl (zan (zam (i:=4) ziP.nd rfl (Or.inl rfl)) (zan (zam (i:=5) ziP.nd rfl (Or.inl rfl)) zbs))) (zaf (zbe (zar zcO (zaq zjb (zaG (zbA K rfl) (pv 5) zag (fun _ _=>rfl)) (pv 3)) (pv 3) (zao _)) (zab (zaH (zaY K rfl PySem.F.plainAttrs_list PySem.F.slot_list_append PySem.F.type_list_append zaN (zaG (zav K rfl) (zas (zaE hr) (pv 1) zaj (fun _ _=>rfl)) (pv 4) (fun _ _=>rfl)) (zaa (zdW (zaa (pv 2) (zaa (pv 3) zad))) zad)))
    (zaf zfV)) zaB))))),?_⟩
   walk_at "rd"
   refine ⟨d,_,rfl,N.get Mc.zfN,?_⟩
   walk_at "rd"
   refine ⟨.inl ⟨rfl,_,SqL.of hb1⟩,?_⟩
   walk_at "rd"
   refine ⟨A.b,_,0,0,v,rfl,rfl,hb1,by decide,by decide,Mc.ix0 _ _,rfl,?_⟩
   have N2 : Mc.Now c (upd H A.b (.lst vs)) d A { m with bar:=r }:=N.setBar hb1 hvs
   have st2 : Mc.Step d A H A (upd H A.b (.lst vs)):=Mc.Step.lst (by unfold Mc.Adr.all; simp) hb1
   have hv2:=Mc.zch (Mc.Keep.lst (o:=.lst vs) hb1) hv
   have eer : ((v :: vs).eraseIdx 0) = vs:=rfl
   rw [eer]
   generalize upd H A.b (.lst vs) = H2 at N2 st2 hv2 ⊢
   obtain ⟨t,rfl,ht⟩:=hv2
   walk_at "rd"
   walk_at "tg"
   walk_at "tg"
   try refine And.intro rfl ?_
   obtain ⟨xs,hx1,hx2⟩:=N2.li.rows
   have hxl:=Cs.zaZ hx2
   walk_at "rd"
   refine ⟨⟨_,SqL.of hx1⟩,?_⟩
   refine zcY (a:=A.c) (xs:=xs) (fun i σ H3=>∃ (v4 v5 : Option V),σ = [some (.ref A.c),some (.ref d),some (.str x.1),some (.int x.2),v4,v5] /\ Same H2 H3 /\ ∀ (j : Nat) c',j < i -> (c.rs.map fun r=>r.t)[j]? = some c' -> Mt.has c' x.2 = false)
    ⟨none,none,rfl,Same.refl _,fun j _ h=>absurd h (Nat.not_lt_zero _)⟩ (by rintro i σ H3 _ ⟨_,_,_,hs,_⟩; exact hs.seq (SqL.of hx1)) ?_ ?_
   ·rintro i y p σ H3 hy ⟨v4,v5,rfl,hs,hbn⟩ hp
    obtain ⟨r',hri,t',et,ht'⟩:=Cs.zaM hx2 hy
    subst et
    have hs2:=zbk (o:=.tup [.int i,.ref t']) hs hp
    have hpp : upd H3 p (.tup [.int i,.ref t']) p = some (.tup [.int i,.ref t']):=upd_same
    generalize upd H3 p (.tup [.int i,.ref t']) = H4 at hs2 hpp ⊢
    have ht4:=hs2 _ _ ht'
    have hth:=O.cf.th r' (List.mem_of_getElem? hri)
    have a2 : atI (Cs.rowV r') 2 = some (.int r'.t):=rfl
    have hti : (c.rs.map fun r=>r.t)[i]? = some r'.t:=by rw [List.getElem?_map,hri]; rfl
    walk_at "rd"
    walk_at "tg"
    walk_at "tg"
    try refine And.intro rfl ?_
    walk_at "rd"
    refine ⟨t',_,_,_,rfl,rfl,SqT.of ht4,a2,?_⟩
    walk_at "rd"
    rw [decV,Mt.zin hth.1 o3 o4]
    cases hh : Mt.has r'.t x.2 with
    | false =>
      refine iteF ?_
      refine ⟨_,_,rfl,hs2,fun j c' hj hc'=>?_⟩
      by_cases z : j = i
      ·subst z
       rw [hti] at hc'
       cases hc'
       exact hh
      ·exact hbn j c' (by omega) hc'
    | true =>
      have hf:=Mt.zfG hti hh hbn
      rw [hf] at q
      refine iteT ?_
      have N4:=N2.same hs2
      have hil : i < c.rs.length:=by
       have:=(List.getElem?_eq_some_iff.mp hri).1
       exact this
      have hln : m.lanes.length = c.rs.length:=O.ln
      have hil2 : i < m.lanes.length:=by omega
      obtain ⟨lq,hlq,hl5⟩:=Cs.zed N4.li.lns (List.getElem?_eq_getElem hil2)
      obtain ⟨ys,hy1,hy2⟩:=hl5
      have hat : Unit -> atI (A.ls.map V.ref) (i : Int) = some (.ref lq):=fun _=>zaL (by rw [List.getElem?_map,hlq]; rfl)
      walk_at "rd"
      refine ⟨d,_,rfl,N4.get Mc.zeK,?_⟩
      refine ⟨_,rfl,?_⟩
      refine ⟨A.L,_,(i : Int),_,rfl,rfl,SqL.of N4.li.lan,hat (),?_⟩
      clear hat
      refine ⟨.inl ⟨rfl,_,SqL.of hy1⟩,?_⟩
      walk_at "rd"
      intro t2 ht2
      have hs5:=zae ht2 (.tup [.str x.1,.int x.2])
      have h52 : upd H4 t2 (.tup [.str x.1,.int x.2]) t2 = some (.tup [.str x.1,.int x.2]):=upd_same
      generalize upd H4 t2 (.tup [.str x.1,.int x.2]) = H5 at hs5 h52 ⊢
      have N5:=N4.same hs5
      have hlen : ys.length <= 100000:=by
       have h1:=Paired.length hy2
       have h2:=Mc.zlz (List.getElem?_eq_getElem hil2)
       have h3:=O.sz
       have h4:=Mc.zdx O
       unfold Mc.cnt at h3
       omega
      refine ⟨lq,ys,_,rfl,rfl,hs5 _ _ hy1,zbb hlen,?_⟩
      have ea : Mc.zcs m.lanes i x = m.lanes.set i (m.lanes[i] ++ [x]):=by
       unfold Mc.zcs
       rw [List.getElem?_eq_getElem hil2]
      have N6 : Mc.Now c (upd H5 lq (.lst (ys ++ [.ref t2]))) d A { m with bar:=r,lanes:=m.lanes.set i (m.lanes[i] ++ [x]) }:=N5.setLane hlq (hs5 _ _ hy1) (Paired.snoc (Lan.zbF hy2 hs5) ⟨t2,rfl,h52⟩)
      have q : ∀ A' H',A'.c = A.c -> Mc.Now c H' d A' { m with bar:=r,lanes:=Mc.zcs m.lanes i x } -> Mc.Step d A H A' H' -> Q .non H':=q
      rw [ea] at q
      walk_at "rd"
      exact q A _ rfl N6 ((st2.trans (Mc.Step.of_same (hs2.trans hs5))).trans (Mc.Step.lst (by unfold Mc.Adr.all; simp [List.mem_of_getElem? hlq]) (hs5 _ _ hy1)))
   ·rintro σ H3 ⟨v4,v5,rfl,hs,hbn⟩
    exfalso
    have hno : Mt.zce (c.rs.map fun r=>r.t) x.2 = none:=Mt.zfA (fun j c' hj=>hbn j c' (by rw [List.length_map] at hj; omega))
    rw [hk] at hno
    cases hno
theorem nd_b {A : Mc.Adr} {e : Addr} (n : A.all.Nodup) (h : e ∉ A.all) : ({ A with b:=e } : Mc.Adr).all.Nodup:=by
 unfold Mc.Adr.all at n h ⊢
 simp only [List.nodup_cons,List.mem_cons,not_or] at n h ⊢
 obtain ⟨⟨a1,a2,a3,a4,a5,a6⟩,⟨b1,b2,b3,b4,b5⟩,⟨c1,c2,c3,c4⟩,⟨d1,d2,d3⟩,⟨e1,e2⟩,f1,n⟩:=n
 obtain ⟨h1,h2,h3,h4,h5,h6,h7⟩:=h
 exact ⟨⟨a1,a2,a3,Ne.symm h1,a5,a6⟩,⟨b1,b2,Ne.symm h2,b4,b5⟩,⟨c1,Ne.symm h3,c3,c4⟩,⟨Ne.symm h4,d2,d3⟩,⟨h6,h7⟩,f1,n⟩
theorem zuy {A : Mc.Adr} {e : Addr} {H : Hp} (he : H e = none) : ∀ b ∈ ({ A with b:=e } : Mc.Adr).all,b ∈ A.all \/ H b = none:=by
 intro b hb
 unfold Mc.Adr.all at hb ⊢
 simp only [List.mem_cons] at hb ⊢
 rcases hb with rfl | rfl | rfl | rfl | rfl | rfl | hb
 ·exact .inl (.inl rfl)
 ·exact .inl (.inr (.inl rfl))
 ·exact .inl (.inr (.inr (.inl rfl)))
 ·exact .inl (.inr (.inr (.inr (.inl rfl))))
 ·exact .inr he
 ·exact .inl (.inr (.inr (.inr (.inr (.inr (.inl rfl))))))
 ·exact .inl (.inr (.inr (.inr (.inr (.inr (.inr hb))))))
def zhX : Sp:=fun vs H Q _=>∃ (d : Addr) (A : Mc.Adr) (c : Mc.Cf) (m : Mc.Ms),vs = [.ref d] /\ Mc.Now c H d A m /\ Mc.Ok c m /\ m.heat ≠ [] /\ ∀ A' H',A'.c = A.c -> Mc.Now c H' d A' (Mc.cool m) -> Mc.Step d A H A' H' -> Q .non H'
theorem ziK (T : Tx K mg a) : FnOk P w K mg base CX0 1 a.f_law_cast a.d_law_cast ["_law_now"] zhX:=by
 refine T.law_cast.fn.ok zii (fun vs H Q E h=>?_) (fun cdv A outer s H vs Q E hr h=>?_)
 ·obtain ⟨d,A,c,m,rfl,_⟩:=h
  rfl
 obtain ⟨d,A,c,m,rfl,N,O,hne,q⟩:=h
 have htg:=O.tg hne
 have hhe : ¬ m.heat.isEmpty = true:=fun z=>hne (List.isEmpty_iff.mp z)
 unfold Mc.cool at q
 rw [if_neg hhe] at q
 refine ⟨_,(zab (zbM (zaE hr) (pv 0) zaj (zaq zhy (zas (zaE hr) (pv 0) zaj (fun _ _=>rfl)) zag) rfl)
  (zaf (zbe (zar zcO (zas (zaE hr) (pv 0) zaj (fun _ _=>rfl)) zag (zao _)) (zab (zaH (zaY K rfl PySem.F.plainAttrs_list PySem.F.slot_list_append PySem.F.type_list_append zaN (zas (zaE hr) (pv 0) zaj (fun _ _=>rfl)) (zaa (zaY K rfl PySem.F.plainAttrs_str PySem.F.slot_str_join PySem.F.type_str_join (zeJ K rfl) zaj (zaa (zbf rfl (zaO K rfl (zas (zaE hr) (pv 0) zaj (fun _ _=>rfl))) (BlkOk.of (N':=["_law_now","_law_thing"]) (ms:=[]) (k:=1) (by rfl)) (fun _ _ _ _ _=>(zam (i:=1) (show List.Nodup (["_law_now","_law_thing"] : List Str) from by decide +kernel) rfl (Or.inl rfl))) (fun _ _ _ _ _=>zbH) (fun _ _ _ _ _=>(zgD (zar (keqD K rfl hr.units) (pv 1) zaj (zao _)) zaj (zaG (zjq K rfl) (pv 1) zag (fun _ _=>rfl))))) zad)) zad)))
  (zab (zbM (zaE hr) (pv 0) zaj (zaq zmI (zas (zaE hr) (pv 0) zaj (fun _ _=>rfl)) (zbf rfl (zaO K rfl (zas (zaE hr) (pv 0) zaj (fun _ _=>rfl))) (BlkOk.of (N':=["_law_now","_law_thing"]) (ms:=[]) (k:=1) (by rfl)) (fun _ _ _ _ _=>(zam (i:=1) (show List.Nodup (["_law_now","_law_thing"] : List Str) from by decide +kernel) rfl (Or.inl rfl))) (fun _ _ _ _ _=>(zir (zar (kneD K rfl hr.units) (pv 1) zaj (zao _)))) (fun _ _ _ _ _=>(pv 1)))) rfl)
  (zaf (zbM (zaE hr) (pv 0) zaj (zax zad) rfl)))) zaB))),?_⟩
 walk_at "rd"
 refine ⟨d,_,rfl,N.get Mc.zkq,?_⟩
 walk_at "rd"
 refine ⟨d,_,rfl,DPut.k (k:=Mc.ky "left") N.dic (Mc.zdN c A m),?_⟩
 rw [Mc.zlx]
 have N1 : Mc.Now c (upd H d (.dK (Mc.nowK c A { m with togo:=m.togo - 1 }))) d A { m with togo:=m.togo - 1 }:=N.put N.nd ⟨N.li.rows,N.li.lan,N.li.lns,N.li.lin,N.li.het,N.li.bar,N.li.txt⟩
 have st1 : Mc.Step d A H A (upd H d (.dK (Mc.nowK c A { m with togo:=m.togo - 1 }))):=N.stepD
 generalize upd H d (.dK (Mc.nowK c A { m with togo:=m.togo - 1 })) = H1 at N1 st1 ⊢
 walk_at "rd"
 refine ⟨d,_,rfl,N1.get Mc.zkq,?_⟩
 walk_at "rd"
 rw [decV]
 by_cases ht : m.togo - 1 <= 0
 ·rw [if_pos ht] at q
  rw [decide_eq_true (by show m.togo - 1 = 0; omega)]
  try refine iteT ?_
  have hsz:=O.sz
  have hkl:=Mc.zdx O
  unfold Mc.cnt at hsz
  obtain ⟨hv,hh1,hh2⟩:=N1.li.het
  have hh2 : Paired (Mc.zbS H1) hv m.heat:=hh2
  have hhl:=Paired.length hh2
  walk_at "rd"
  refine ⟨d,_,rfl,N1.get Mc.ziZ,?_⟩
  walk_at "rd"
  refine ⟨.inl ⟨rfl,_,SqL.of N1.li.txt⟩,?_⟩
  walk_at "rd"
  refine ⟨d,_,rfl,N1.get Mc.zcd,?_⟩
  refine ⟨A.h,rfl,⟨_,SqL.of hh1⟩,fun D hD=>?_⟩
  refine zaI (a:=A.h) (xs:=hv) (fun i ys σ H3=>∃ (v2 : Option V),ys = ((m.heat.take i).map Mc.zaX).map V.str /\ σ = [some (.ref d),v2] /\ Same H1 H3 /\ H3 D = some (.lst ys))
   ?_ ?_ ?_ ?_
  ·exact ⟨none,rfl,rfl,zae hD _,upd_same⟩
  ·rintro i ys σ H3 hi ⟨v2,_,_,hs,_⟩
   exact hs.seq (SqL.of hh1)
  ·rintro i y ys σ H3 hy hil ⟨v2,rfl,rfl,hs,hh3⟩
   obtain ⟨pt,hpt,hpa⟩:=Mc.zdK hh2 hy
   have hpa3:=Mc.zcS (Mc.Keep.of_same (S:=fun _=>True) hs) hpa
   have hmem:=List.mem_of_getElem? hpt
   have hlen : (((m.heat.take i).map Mc.zaX).map V.str).length <= 100000:=by
    rw [List.length_map,List.length_map,List.length_take]
    omega
   have etk : (((m.heat.take (i + 1)).map Mc.zaX).map V.str) = (((m.heat.take i).map Mc.zaX).map V.str) ++ [V.str (Mc.zaX pt)]:=by
    rw [List.take_add_one,hpt,List.map_append,List.map_append]
    rfl
   walk_at "rd"
   refine ⟨_,_,Mc.zeG hpa3 (fun x e=>O.hlay x (e ▸ hmem)),.str _ (by decide +kernel),by show min _ 0 <= 64; omega,?_⟩
   refine ⟨_,rfl,?_⟩
   cases pt with
   | none =>
     have e : (if false = true then !PyData.eqv (Mc.zbU none) (.str (Str.ofString " ")) else PyData.eqv (Mc.zbU none) (.str (Str.ofString " "))) = true:=by
      show PyData.eqv (.str " ") (.str " ") = true
      exact Mc.zgf
     rw [e]
     refine iteT ?_
     exact zcK hil hh3 hlen ⟨_,etk.symm,rfl,zap hs hD,upd_same⟩
   | some x =>
     have e : (if false = true then !PyData.eqv (Mc.zbU (some x)) (.str (Str.ofString " ")) else PyData.eqv (Mc.zbU (some x)) (.str (Str.ofString " "))) = false:=rfl
     rw [e]
     refine iteF ?_
     obtain ⟨t,rfl,htt⟩:=hpa3
     walk_at "rd"
     refine .inl ⟨t,_,_,_,rfl,rfl,SqT.of htt,rfl,?_⟩
     exact zcK hil hh3 hlen ⟨_,etk.symm,rfl,zap hs hD,upd_same⟩
  ·rintro ys σ H3 ⟨v2,rfl,rfl,hs3,hh3⟩
   rw [hhl,List.take_of_length_le (Nat.le_refl _)] at hh3
   have N3:=N1.same hs3
   walk_at "rd"
   refine ⟨_,D,_,rfl,rfl,SqL.of hh3,Mc.zfF O.hm (by omega),?_⟩
   have htl:=O.tx
   refine ⟨A.t,_,_,rfl,rfl,N3.li.txt,zbb (by rw [List.length_map]; show m.texts.length <= _; omega),?_⟩
   have et : (m.texts.map V.str) ++ [V.str (Txt.join (Str.ofString "") (m.heat.map Mc.zaX))] = (m.texts ++ [Mc.textOf m.heat]).map V.str:=by
    rw [List.map_append]
    rfl
   have N4 : Mc.Now c (upd H3 A.t (.lst ((m.texts.map V.str) ++ [V.str (Txt.join (Str.ofString "") (m.heat.map Mc.zaX))]))) d A { m with togo:=m.togo - 1,texts:=m.texts ++ [Mc.textOf m.heat] }:=by
    rw [et]
    exact N3.setTxt N3.li.txt
   have st4 : Mc.Step d A H A (upd H3 A.t (.lst ((m.texts.map V.str) ++ [V.str (Txt.join (Str.ofString "") (m.heat.map Mc.zaX))]))):=(st1.trans (Mc.Step.of_same hs3)).trans (Mc.Step.lst (by unfold Mc.Adr.all; simp) N3.li.txt)
   dsimp only at N4 st4 ⊢
   generalize upd H3 A.t (.lst ((m.texts.map V.str) ++ [V.str (Txt.join (Str.ofString "") (m.heat.map Mc.zaX))])) = H4 at N4 st4 ⊢
   obtain ⟨hw,hw1,hw2⟩:=N4.li.het
   have hw2 : Paired (Mc.zbS H4) hw m.heat:=hw2
   have hwl:=Paired.length hw2
   obtain ⟨bv,hb1,hb2⟩:=N4.li.bar
   have hbl:=Paired.length hb2
   have hbl : bv.length = m.bar.length:=hbl
   walk_at "rd"
   refine ⟨d,_,rfl,N4.get Mc.zfN,?_⟩
   walk_at "rd"
   refine ⟨d,_,rfl,N4.get Mc.zcd,?_⟩
   refine ⟨A.h,rfl,⟨_,SqL.of hw1⟩,fun D2 hD2=>?_⟩
   refine zaI (a:=A.h) (xs:=hw) (fun i ys σ H5=>∃ (v2 : Option V),Paired (Lan.zbn H5) ys (Mc.mats (m.heat.take i)) /\ σ = [some (.ref d),v2] /\ Same H4 H5 /\ H5 D2 = some (.lst ys))
    ?_ ?_ ?_ ?_
   ·exact ⟨none,.nil,rfl,zae hD2 _,upd_same⟩
   ·rintro i ys σ H5 hi ⟨v2,_,_,hs,_⟩
    exact hs.seq (SqL.of hw1)
   ·rintro i y ys σ H5 hy hil ⟨v2,hp5,rfl,hs,hh5⟩
    obtain ⟨pt,hpt,hpa⟩:=Mc.zdK hw2 hy
    have hpa5:=Mc.zcS (Mc.Keep.of_same (S:=fun _=>True) hs) hpa
    have hmem:=List.mem_of_getElem? hpt
    have hlen : ys.length <= 100000:=by
     have h1:=Paired.length hp5
     have h2:=Mc.zdQ (m.heat.take i)
     rw [List.length_take] at h2
     omega
    walk_at "rd"
    refine ⟨_,_,Mc.zeG hpa5 (fun x e=>O.hlay x (e ▸ hmem)),.str _ (by decide +kernel),by show min _ 0 <= 64; omega,?_⟩
    refine ⟨_,rfl,?_⟩
    cases pt with
    | none =>
      have e : (if true = true then !PyData.eqv (Mc.zbU none) (.str (Str.ofString " ")) else PyData.eqv (Mc.zbU none) (.str (Str.ofString " "))) = false:=by
       show (!PyData.eqv (.str " ") (.str " ")) = false
       rw [Mc.zgf]
       rfl
      rw [e]
      refine iteF ?_
      refine znf hil ⟨_,?_,rfl,hs,hh5⟩
      rw [Mc.zdY hpt,Option.toList_none,List.append_nil]
      exact hp5
    | some x =>
      have e : (if true = true then !PyData.eqv (Mc.zbU (some x)) (.str (Str.ofString " ")) else PyData.eqv (Mc.zbU (some x)) (.str (Str.ofString " "))) = true:=rfl
      rw [e]
      refine iteT ?_
      walk_at "rd"
      refine zcK hil hh5 hlen ⟨_,?_,rfl,zap hs hD2,upd_same⟩
      rw [Mc.zdY hpt]
      exact Paired.snoc (Lan.zcb hp5 hh5) (Mc.zch (Mc.Keep.lst hh5) hpa5)
   ·rintro ys σ H5 ⟨v2,hp5,rfl,hs5,hh5⟩
    rw [hwl,List.take_of_length_le (Nat.le_refl _)] at hp5
    have N5:=N4.same hs5
    have hyl:=Paired.length hp5
    have hml:=Mc.zdQ m.heat
    refine ⟨A.b,D2,bv,ys,rfl,rfl,hs5 _ _ hb1,hh5,zbG (by omega),fun pb hpb=>?_⟩
    have hs6:=zae hpb (.lst (bv ++ ys))
    have h6b : upd H5 pb (.lst (bv ++ ys)) pb = some (.lst (bv ++ ys)):=upd_same
    have hnb:=N5.new hpb
    have hb6 : Paired (Lan.zbn (upd H5 pb (.lst (bv ++ ys)))) (bv ++ ys) (m.bar ++ Mc.mats m.heat):=zhf (Lan.zbF hb2 (hs5.trans hs6)) (Lan.zbF hp5 hs6)
    have hfr:=st4.free (H':=H4) (b:=pb) (hs5.free hpb)
    generalize upd H5 pb (.lst (bv ++ ys)) = H6 at hs6 h6b hb6 ⊢
    have N6:=N5.same hs6
    walk_at "rd"
    refine ⟨d,_,rfl,DPut.k (k:=Mc.ky "bar") N6.dic (Mc.zdN _ _ _),?_⟩
    rw [Mc.zrt]
    have n7:=nd_b N6.nd hnb
    have N7 : Mc.Now c (upd H6 d (.dK (Mc.nowK c { A with b:=pb } { m with togo:=m.togo - 1,texts:=m.texts ++ [Mc.textOf m.heat] }))) d { A with b:=pb } { m with togo:=m.togo - 1,texts:=m.texts ++ [Mc.textOf m.heat],bar:=m.bar ++ Mc.mats m.heat } :=
     N6.put (A':={ A with b:=pb }) (m':={ m with togo:=m.togo - 1,texts:=m.texts ++ [Mc.textOf m.heat],bar:=m.bar ++ Mc.mats m.heat }) n7 ⟨N6.li.rows,N6.li.lan,N6.li.lns,N6.li.lin,N6.li.het,⟨_,h6b,hb6⟩,N6.li.txt⟩
    have st7 : Mc.Step d A H { A with b:=pb } (upd H6 d (.dK (Mc.nowK c { A with b:=pb } { m with togo:=m.togo - 1,texts:=m.texts ++ [Mc.textOf m.heat] }))):=((st4.trans (Mc.Step.of_same (hs5.trans hs6))).trans N6.stepD).to (zuy hfr)
    generalize upd H6 d (.dK (Mc.nowK c { A with b:=pb } { m with togo:=m.togo - 1,texts:=m.texts ++ [Mc.textOf m.heat] })) = H7 at N7 st7 ⊢
    walk_at "rd"
    intro e8 he8
    have hs8:=zae he8 (.lst [])
    have h88 : upd H7 e8 (.lst []) e8 = some (.lst []):=upd_same
    have hn8:=N7.new he8
    have hfr8:=st7.free he8
    generalize upd H7 e8 (.lst []) = H8 at hs8 h88 ⊢
    have N8:=N7.same hs8
    walk_at "rd"
    refine ⟨d,_,rfl,DPut.k (k:=Mc.ky "inside") N8.dic (Mc.zdN _ _ _),?_⟩
    rw [Mc.zhL]
    have N9:=N8.put (A':={ A with b:=pb,h:=e8 }) (m':={ m with togo:=m.togo - 1,texts:=m.texts ++ [Mc.textOf m.heat],bar:=m.bar ++ Mc.mats m.heat,heat:=[] }) (Mc.nd_h N8.nd hn8) ⟨N8.li.rows,N8.li.lan,N8.li.lns,N8.li.lin,⟨[],h88,.nil⟩,N8.li.bar,N8.li.txt⟩
    exact q { A with b:=pb,h:=e8 } _ rfl N9 (((st7.trans (Mc.Step.of_same hs8)).trans N8.stepD).to (Mc.zpg (A:={ A with b:=pb }) hfr8))
 ·rw [if_neg ht] at q
  rw [decide_eq_false (by show ¬ m.togo - 1 = 0; omega)]
  try refine iteF ?_
  exact q A H1 rfl N1 st1
theorem zgy {H : Hp} {d : Addr} {kvs : List (Key × V)} {o : HO} (h : H d = some (.dK kvs)) : Mc.Keep (fun b=>b ≠ d) H (upd H d o):=by
 intro b u hb hs
 rcases hs with hs | ⟨xs,e⟩
 ·rw [zai hs]; exact hb
 ·subst e
  rw [zai (zbi hb h fun z=>by cases z)]
  exact hb
theorem zlZ {H : Hp} {d : Addr} {B : Mc.Adr} {kvs : List (Key × V)} {o : HO} (h : H d = some (.dK kvs)) : Mc.Step d B H B (upd H d o):=by
 refine ⟨fun b u hb hs=>?_,fun b hb=>.inl hb,fun b u hb=>?_⟩
 ·rcases hs with ⟨hs,_⟩ | hs
  ·exact zgy h b u hb (.inl hs)
  ·exact zgy h b u hb (.inr hs)
 ·by_cases e : b = d
  ·rw [e]; exact ⟨_,upd_same⟩
  ·exact ⟨u,by rw [zai e]; exact hb⟩
theorem zpW {c : Mc.Cf} {H : Hp} {d : Addr} {A' : Mc.Adr} {m' : Mc.Ms} {kvs : List (Key × V)} (h : H d = some (.dK kvs)) (n : A'.all.Nodup) (l : Mc.Lists c H A' m') : Mc.Now c (upd H d (.dK (Mc.nowK c A' m'))) d A' m' :=
 ⟨upd_same,n,l.keep (zgy h) fun a ha=>by
   obtain ⟨xs,ex⟩:=l.is a ha
   exact zbi ex h fun z=>by cases z⟩
theorem zlc {c : Mc.Cf} {m : Mc.Ms} (h : Mc.key c m = some 47) : Mc.strike c m = Mc.send c m:=by
 unfold Mc.strike
 rw [h]
 rfl
theorem zlr {c : Mc.Cf} {m : Mc.Ms} (h : Mc.key c m = some 32) : Mc.strike c m = Mc.take m none:=by
 unfold Mc.strike
 rw [h]
 rfl
theorem zlW {c : Mc.Cf} {m : Mc.Ms} {k j : Nat} (h : Mc.key c m = some k) (h1 : k ≠ 47) (h2 : k ≠ 32) (hj : Cs.place c.rs (sg k) = some j) : Mc.strike c m = if Mc.zbI c m = true then { m with waits:=m.waits + 1 } else Mc.pick m j:=by
 unfold Mc.strike
 rw [h]
 show (if k = 47 then _ else if k = 32 then _ else _) = _
 rw [if_neg h1,if_neg h2,hj]
def zge : Sp:=fun vs H Q _=>∃ (d : Addr) (A : Mc.Adr) (c : Mc.Cf) (m : Mc.Ms) (k : Nat),vs = [.ref A.c,.ref d] /\ Mc.Now c H d A m /\ Mc.Ok c m /\ As c /\ Mc.key c m = some k /\ ∀ A' H',A'.c = A.c -> Mc.Now c H' d A' (Mc.strike c m) -> Mc.Step d A H A' H' -> Q .non H'
theorem zgw (T : Tx K mg a) : FnOk P w K mg base CX0 1 a.f_law_strike a.d_law_strike ["_law_case_here","_law_now"] zge:=by
 refine T.law_strike.fn.ok zgx (fun vs H Q E h=>?_) (fun cdv A outer s H vs Q E hr h=>?_)
 ·obtain ⟨d,A,c,m,k,rfl,_⟩:=h
  rfl
 obtain ⟨d,A,c,m,k,rfl,N,O,hAs,hk,q⟩:=h
 have hks:=O.cf.short
 have hsz : c.keys.length <= sizeLine:=zbG (by omega)
 have ea : atI c.keys.cps.toList (m.at_ : Int) = some k:=zaL hk
 have eS : Mc.keyS c m = sg k:=by unfold Mc.keyS; rw [hk]
 have eq1 : decide (V.str ({ cps:=#[k] } : Str) = V.str (Str.ofString "/")) = decide (k = 47):=Mc.sgD
 have eq2 : decide (V.str ({ cps:=#[k] } : Str) = V.str (Str.ofString " ")) = decide (k = 32):=Mc.sgD
 refine ⟨_,(zab (zaC (i:=2) zgx.nd rfl (Or.inl rfl) (zaG zdR (zas (zaE hr) (pv 1) zaj (fun _ _=>rfl)) (zas (zaE hr) (pv 1) zaj (fun _ _=>rfl)) (fun _ _=>rfl)))
  (zab (zhm (zbe (zar zcO (pv 2) zaj (zao _)) (zab (zbe (zar (kneD K rfl hr.units) (zas (zaE hr) (pv 1) zaj (fun _ _=>rfl)) (zax zad) (zao _)) (zaf zfV) zaB)
  (zab (zbM (zaE hr) (pv 1) zaj (zas (zaE hr) (pv 1) zaj (fun _ _=>rfl)) rfl)
  (zab (zbM (zaE hr) (pv 1) zaj (zax zad) rfl)
  (zaf (zbM (zaE hr) (pv 1) zaj (zas (zaE hr) (pv 1) zaj (fun _ _=>rfl)) rfl))))) (zaf (zbe (zar zcO (pv 2) zaj (zao _)) (zaf (zaH (zaY K rfl PySem.F.plainAttrs_list PySem.F.slot_list_append PySem.F.type_list_append zaN (zas (zaE hr) (pv 1) zaj (fun _ _=>rfl)) (zaa zaj zad)))) (zab (zaC (i:=3) zgx.nd rfl (Or.inl rfl) (zaG (zav K rfl) (zas (zaE hr) (pv 1) zaj (fun _ _=>rfl)) (zaY K rfl PySem.F.plainAttrs_list PySem.F.slot_list_index PySem.F.type_list_index zhS (zbf rfl (zaO K rfl (pv 0)) (BlkOk.of (N':=["_law_case_here","_law_now","_law_key","_law_lane","_law_channel"]) (ms:=[]) (k:=1) (by rfl)) (fun _ _ _ _ _=>(zam (i:=4) (show List.Nodup (["_law_case_here","_law_now","_law_key","_law_lane","_law_channel"] : List Str) from by decide +kernel) rfl (Or.inl rfl))) (fun _ _ _ _ _=>zbH) (fun _ _ _ _ _=>(zaG (zbA K rfl) (pv 4) zag (fun _ _=>rfl)))) (zaa (pv 2) zad)) (fun _ _=>rfl)))
  (zab (zbe (zar (keqD K rfl hr.units) (pv 3) (zax zad) (zao _)) (zab (zbM (zaE hr) (pv 1) zaj (zaq zaP (zas (zaE hr) (pv 1) zaj (fun _ _=>rfl)) zag) rfl)
  (zaf zfV)) zaB)
  (zaf (zaH (zaY K rfl PySem.F.plainAttrs_list PySem.F.slot_list_append PySem.F.type_list_append zaN (zas (zaE hr) (pv 1) zaj (fun _ _=>rfl)) (zaa (zaY K rfl PySem.F.plainAttrs_list PySem.F.slot_list_pop PySem.F.type_list_pop zeF (pv 3) (zaa zag zad)) zad))))))))))
  (zaf (zbM (zaE hr) (pv 1) zaj (zaq zaP (zas (zaE hr) (pv 1) zaj (fun _ _=>rfl)) zag) rfl)))),?_⟩
 walk_at "rd"
 refine ⟨d,_,rfl,N.get Mc.zhW,?_⟩
 walk_at "rd"
 refine ⟨d,_,rfl,N.get Mc.zec,?_⟩
 walk_at "rd"
 refine ⟨_,_,_,rfl,rfl,hsz,ea,?_⟩
 clear ea
 walk_at "rd"
 refine ⟨fun σ H'=>∃ (v3 : Option V) (A' : Mc.Adr) (m' : Mc.Ms),σ = [some (.ref A.c),some (.ref d),some (.str (sg k)),v3] /\ A'.c = A.c /\ Mc.Now c H' d A' m' /\ Mc.Step d A H A' H' /\ { m' with at_:=m'.at_ + 1 } = Mc.strike c m,?_,?_⟩
 rotate_left
 ·rintro σ' H' ⟨v3,A',m',rfl,ec,N',st',e⟩
  walk_at "rd"
  refine ⟨d,_,rfl,N'.get Mc.zec,?_⟩
  walk_at "rd"
  refine ⟨d,_,rfl,DPut.k (k:=Mc.ky "next") N'.dic (Mc.zdN c A' m'),?_⟩
  rw [Mc.znX,e]
  exact q A' _ ec (by rw [<- e]; exact N'.put N'.nd ⟨N'.li.rows,N'.li.lan,N'.li.lns,N'.li.lin,N'.li.het,N'.li.bar,N'.li.txt⟩) (st'.trans N'.stepD)
 walk_at "rd"
 rw [eq1]
 rcases zgY O hk with z | z | ⟨j,hj,z1,z2⟩
 ·subst z
  refine iteT ?_
  rw [zlc hk] at q ⊢
  unfold Mc.send at q ⊢
  walk_at "rd"
  refine ⟨d,_,rfl,N.get Mc.zcd,?_⟩
  walk_at "rd"
  refine fun e he=>?_
  have hs2:=zae he (.lst [])
  have N2:=N.same hs2
  refine ⟨_,_,N2.li.het.den O.hlay,Mc.zaW upd_same,Mc.zaS _,?_⟩
  rw [Mc.zaV Mc.zbU m.heat]
  generalize upd H e (.lst []) = H2 at hs2 N2 ⊢
  refine ⟨_,rfl,?_⟩
  cases h1 : m.heat.isEmpty with
  | false =>
    rw [h1,if_neg (by decide)] at q
    refine iteT ?_
    walk_at "rd"
    exact q A H2 rfl N2 (Mc.Step.of_same hs2)
  | true =>
    refine iteF ?_
    walk_at "rd"
    refine ⟨d,_,rfl,N2.get Mc.zeZ,?_⟩
    walk_at "rd"
    refine ⟨d,_,rfl,DPut.k (k:=Mc.ky "inside") N2.dic (Mc.zdN _ _ _),?_⟩
    rw [Mc.zhL]
    have st3 : Mc.Step d A H A (upd H2 d (.dK (Mc.nowK c { A with h:=A.l } m))):=(Mc.Step.of_same hs2).trans N2.stepD
    have d3 : upd H2 d (.dK (Mc.nowK c { A with h:=A.l } m)) d = _:=upd_same
    have l3:=N2.li.keep (zgy (o:=.dK (Mc.nowK c { A with h:=A.l } m)) N2.dic) N2.pne
    generalize upd H2 d (.dK (Mc.nowK c { A with h:=A.l } m)) = H3 at st3 d3 l3 ⊢
    walk_at "rd"
    intro e4 he4
    have hs4:=zae he4 (.lst [])
    have h44 : upd H3 e4 (.lst []) e4 = some (.lst []):=upd_same
    have hn4 : e4 ∉ A.all:=fun z=>by
     obtain ⟨xs,ex⟩:=l3.is e4 z
     rw [he4] at ex
     cases ex
    have hfr4:=st3.free he4
    generalize upd H3 e4 (.lst []) = H4 at hs4 h44 ⊢
    have d4:=hs4 _ _ d3
    have l4:=l3.keep (Mc.Keep.of_same (S:=fun _=>True) hs4) fun _ _=>trivial
    have st4:=st3.trans (Mc.Step.of_same hs4)
    walk_at "rd"
    refine ⟨d,_,rfl,DPut.k (k:=Mc.ky "line") d4 (Mc.zdN _ _ _),?_⟩
    rw [Mc.znc]
    have N5:=zpW (c:=c) (A':={ A with h:=A.l,l:=e4 }) (m':={ m with heat:=m.line,line:=[] }) d4 (Mc.nd_s N.nd hn4) ⟨l4.rows,l4.lan,l4.lns,⟨[],h44,.nil⟩,l4.lin,l4.bar,l4.txt⟩
    have st5:=(st4.trans (zlZ (o:=.dK (Mc.nowK c { A with h:=A.l,l:=e4 } { m with heat:=m.line,line:=[] })) d4)).to (Mc.zqD hfr4)
    have N5 : Mc.Now c (upd H4 d (.dK (Mc.nowK c { A with h:=A.l,l:=e4 } m))) d { A with h:=A.l,l:=e4 } { m with heat:=m.line,line:=[] }:=N5
    have st5 : Mc.Step d A H { A with h:=A.l,l:=e4 } (upd H4 d (.dK (Mc.nowK c { A with h:=A.l,l:=e4 } m))):=st5
    dsimp only at N5 st5 ⊢
    generalize upd H4 d (.dK (Mc.nowK c { A with h:=A.l,l:=e4 } m)) = H5 at N5 st5 ⊢
    walk_at "rd"
    refine ⟨d,_,rfl,N5.get Mc.zkf,?_⟩
    walk_at "rd"
    refine ⟨d,_,rfl,DPut.k (k:=Mc.ky "left") N5.dic (Mc.zdN _ _ _),?_⟩
    rw [Mc.zlx]
    rw [if_pos h1]
    refine ⟨none,{ A with h:=A.l,l:=e4 },{ m with heat:=m.line,line:=[],togo:=c.cast },rfl,rfl,N5.put N5.nd ⟨N5.li.rows,N5.li.lan,N5.li.lns,N5.li.lin,N5.li.het,N5.li.bar,N5.li.txt⟩,st5.trans N5.stepD,rfl⟩
 ·subst z
  refine iteF ?_
  rw [zlr hk]
  unfold Mc.take
  walk_at "rd"
  refine ⟨d,_,rfl,N.get Mc.zeZ,?_⟩
  obtain ⟨ys,hy1,hy2⟩:=N.li.lin
  refine ⟨.inl ⟨rfl,_,SqL.of hy1⟩,?_⟩
  walk_at "rd"
  have hlen : ys.length <= 100000:=by
   have h1:=Paired.length hy2
   have h3:=O.sz
   have h4:=Mc.zdx O
   unfold Mc.cnt at h3
   omega
  refine ⟨A.l,ys,_,rfl,rfl,hy1,zbb hlen,?_⟩
  exact ⟨none,A,{ m with line:=m.line ++ [none] },rfl,rfl,N.setLine hy1 (Paired.snoc hy2 rfl),Mc.Step.lst (by unfold Mc.Adr.all; simp) hy1,rfl⟩
 ·rw [decide_eq_false z1]
  refine iteF ?_
  walk_at "rd"
  rw [eq2,decide_eq_false z2]
  refine iteF ?_
  rw [zlW hk z1 z2 hj] at q ⊢
  obtain ⟨lq,l,g1,g2,g3,g4⟩:=N.lane O (Cs.zbJ hj)
  have g4 : Unit -> atI (A.ls.map V.ref) (j : Int) = some (.ref lq):=fun _=>g4
  have el : Mc.zbI c m = l.isEmpty:=(Mc.zdZ (by rw [eS]; exact hj)).trans (Mc.zee g2)
  rw [el] at q ⊢
  obtain ⟨xs,hx1,hx2⟩:=N.li.rows
  have hxl:=Cs.zaZ hx2
  have hfew:=O.cf.few
  walk_at "rd"
  refine ⟨d,_,rfl,N.get Mc.zeK,?_⟩
  walk_at "rd"
  refine ⟨⟨_,SqL.of hx1⟩,fun D hD=>?_⟩
  refine zaI (a:=A.c) (xs:=xs) (fun i ys σ H4=>∃ (v3 v4 : Option V),ys = ((c.rs.take i).map fun r=>r.s).map V.str /\ σ = [some (.ref A.c),some (.ref d),some (.str (sg k)),v3,v4] /\ Same H H4 /\ H4 D = some (.lst ys))
   ?_ ?_ ?_ ?_
  ·exact ⟨none,none,rfl,rfl,zae hD _,upd_same⟩
  ·rintro i ys σ H4 hi ⟨v3,v4,_,_,hs,_⟩
   exact hs.seq (SqL.of hx1)
  ·rintro i y ys σ H4 hy hil ⟨v3,v4,rfl,rfl,hs,hh⟩
   obtain ⟨r,hri,t,et,ht⟩:=Cs.zaM hx2 hy
   subst et
   have a0 : atI (Cs.rowV r) 0 = some (.str r.s):=rfl
   walk_at "rd"
   refine ⟨t,_,_,_,rfl,rfl,SqT.of (hs _ _ ht),a0,?_⟩
   refine zcK hil hh (by rw [List.length_map,List.length_map,List.length_take]; omega) ⟨_,_,?_,rfl,zap hs hD,upd_same⟩
   rw [List.take_add_one,hri,Option.toList_some,List.map_append,List.map_append]
   rfl
  ·rintro ys σ H4 ⟨v3,v4,rfl,rfl,hs4,hh4⟩
   rw [hxl,List.take_of_length_le (Nat.le_refl _)] at hh4
   have N4:=N.same hs4
   obtain ⟨p1,p2⟩:=zgr hj
   walk_at "rd"
   refine ⟨.inl ⟨rfl,_,SqL.of hh4⟩,?_⟩
   walk_at "rd"
   refine ⟨D,_,sg k,j,rfl,rfl,hh4,p1,p2,by have:=Cs.zbJ hj; omega,?_⟩
   refine ⟨A.L,_,(j : Int),_,rfl,rfl,SqL.of N4.li.lan,g4 (),?_⟩
   walk_at "rd"
   refine fun e he=>?_
   have hs5:=zae he (.lst [])
   have g5 : Mc.LnAt (upd H4 e (.lst [])) lq l:=Mc.LnAt.keep (Mc.Keep.of_same (S:=fun _=>True) (hs4.trans hs5)) trivial g3
   refine ⟨_,_,g5.den (O.llay g2),Mc.zaW upd_same,Mc.zaS _,?_⟩
   rw [Mc.zaV Mc.mxD l]
   have N5:=N4.same hs5
   have hs05:=hs4.trans hs5
   generalize upd H4 e (.lst []) = H5 at N5 hs05 g5 hs5 ⊢
   refine ⟨_,rfl,?_⟩
   cases l with
   | nil =>
     refine iteT ?_
     walk_at "rd"
     refine ⟨d,_,rfl,N5.get Mc.zjj,?_⟩
     walk_at "rd"
     refine ⟨d,_,rfl,DPut.k (k:=Mc.ky "waits") N5.dic (Mc.zdN _ _ _),?_⟩
     rw [Mc.zmj]
     exact q A _ rfl (N5.put N5.nd ⟨N5.li.rows,N5.li.lan,N5.li.lns,N5.li.lin,N5.li.het,N5.li.bar,N5.li.txt⟩) ((Mc.Step.of_same hs05).trans N5.stepD)
   | cons x r =>
     refine iteF ?_
     obtain ⟨ws,hw1,hw2⟩:=g5
     obtain ⟨v,vs,rfl,hv,hvs⟩ : ∃ v vs,ws = v :: vs /\ Lan.zbn H5 v x /\ Paired (Lan.zbn H5) vs r:=by
      cases hw2 with
      | cons h1 h2=>exact ⟨_,_,rfl,h1,h2⟩
     walk_at "rd"
     refine ⟨d,_,rfl,N5.get Mc.zeZ,?_⟩
     obtain ⟨ys,hy1,hy2⟩:=N5.li.lin
     refine ⟨.inl ⟨rfl,_,SqL.of hy1⟩,?_⟩
     walk_at "rd"
     refine ⟨.inl ⟨rfl,_,SqL.of hw1⟩,?_⟩
     walk_at "rd"
     refine ⟨lq,_,0,0,v,rfl,rfl,hw1,by decide,by decide,Mc.ix0 _ _,rfl,?_⟩
     have N6 : Mc.Now c (upd H5 lq (.lst vs)) d A { m with lanes:=m.lanes.set j r }:=N5.setLane g1 hw1 hvs
     have st6 : Mc.Step d A H A (upd H5 lq (.lst vs)):=(Mc.Step.of_same hs05).trans (Mc.Step.lst (by unfold Mc.Adr.all; simp [List.mem_of_getElem? g1]) hw1)
     have hv6:=Mc.zch (Mc.Keep.lst (o:=.lst vs) hw1) hv
     have eer : ((v :: vs).eraseIdx 0) = vs:=rfl
     rw [eer]
     generalize upd H5 lq (.lst vs) = H6 at N6 st6 hv6 ⊢
     obtain ⟨us,hu1,hu2⟩:=N6.li.lin
     have hu2 : Paired (Mc.zbS H6) us m.line:=hu2
     have hlen : us.length <= 100000:=by
      have h1:=Paired.length hu2
      have h3:=O.sz
      have h4:=Mc.zdx O
      unfold Mc.cnt at h3
      omega
     walk_at "rd"
     refine ⟨A.l,us,_,rfl,rfl,hu1,zbb hlen,?_⟩
     have ep : Mc.pick m j = Mc.take { m with lanes:=m.lanes.set j r } (some x):=by
      unfold Mc.pick
      rw [g2]
     refine ⟨some (.ref lq),A,{ m with lanes:=m.lanes.set j r,line:=m.line ++ [some x] },rfl,rfl,N6.setLine hu1 (Paired.snoc hu2 hv6),st6.trans (Mc.Step.lst (by unfold Mc.Adr.all; simp) hu1),?_⟩
     rw [ep]
     rfl
def ziC : Sp:=fun vs H Q _=>∃ (d : Addr) (A : Mc.Adr) (c : Mc.Cf) (m : Mc.Ms),vs = [.ref A.c,.ref d] /\ Mc.Now c H d A m /\ Mc.Ok c m /\ As c /\ (Mc.zdU c m = true -> ∀ H',Same H H' -> Q (.bl false) H') /\ (Mc.zdU c m = false -> ∀ A' H',A'.c = A.c -> Mc.Now c H' d A' (Mc.tick c m) -> Mc.Step d A H A' H' -> Q (.bl true) H')
theorem zie (T : Tx K mg a) : FnOk P w K mg base CX0 2 a.f_law_tick a.d_law_tick ["_law_case_here","_law_now"] ziC:=by
 have G_law_rests:=zem (P:=P) (w:=w) (base:=base) T
 have G_law_stuck:=zel (P:=P) (w:=w) (base:=base) T
 have G_law_fall:=ziN (P:=P) (w:=w) (base:=base) T
 have G_law_cast:=ziK (P:=P) (w:=w) (base:=base) T
 have G_law_strike:=zgw (P:=P) (w:=w) (base:=base) T
 refine T.law_tick.fn.ok zio (fun vs H Q E h=>?_) (fun cdv A outer s H vs Q E hr h=>?_)
 ·obtain ⟨d,A,c,m,rfl,_⟩:=h
  rfl
 obtain ⟨d,A,c,m,rfl,N,O,hAs,q1,q2⟩:=h
 have hst : Mc.zdU c m = (Mc.zbW c m || Mc.zer c m):=rfl
 refine ⟨_,(zab (zbe (PW.pt (zgs (zcq (zaU T.law_rests G_law_rests hr rfl (zaa (pv 1) zad))) (zeO (zcq (zaU T.law_stuck G_law_stuck hr rfl (zaa (pv 0) (zaa (pv 1) zad))))))) (zaf (zat zev)) zaB)
  (zab (zhm (zbe (zar (kneD K rfl hr.units) (zas (zaE hr) (pv 1) zaj (fun _ _=>rfl)) (zax zad) (zao _)) (zaf (zaH (zaU T.law_fall G_law_fall hr rfl (zaa (pv 0) (zaa (pv 1) zad))))) zaB))
  (zab (zhm (zbe (zar (kneD K rfl hr.units) (zas (zaE hr) (pv 1) zaj (fun _ _=>rfl)) (zax zad) (zao _)) (zaf (zaH (zaU T.law_cast G_law_cast hr rfl (zaa (pv 1) zad)))) zaB))
  (zab (zhm (zbe (zar zka (zas (zaE hr) (pv 1) zaj (fun _ _=>rfl)) (zbh zbO rfl T.b_len zcH (zaa (zas (zaE hr) (pv 1) zaj (fun _ _=>rfl)) zad)) (zao _)) (zaf (zaH (zaU T.law_strike G_law_strike hr rfl (zaa (pv 0) (zaa (pv 1) zad))))) zaB))
  (zab (zbM (zaE hr) (pv 1) zaj (zaq zaP (zas (zaE hr) (pv 1) zaj (fun _ _=>rfl)) zag) rfl)
  (zaf (zat zev))))))),?_⟩
 walk_at "rd"
 refine ⟨d,A,c,m,rfl,N,O,fun H1 hs1=>?_⟩
 have N1:=N.same hs1
 walk_at "rd"
 cases hre : Mc.zbW c m with
 | true =>
   rw [hre] at hst
   refine iteT ?_
   walk_at "rd"
   exact q1 hst H1 hs1
 | false =>
 rw [hre,Bool.false_or] at hst
 refine iteF ?_
 walk_at "rd"
 refine ⟨d,A,c,m,rfl,N1,O,hAs,fun H2 hs2=>?_⟩
 have N2:=N1.same hs2
 have st2:=Mc.Step.of_same (p:=d) (A:=A) (hs1.trans hs2)
 walk_at "rd"
 cases hsk : Mc.zer c m with
 | true =>
   rw [hsk] at hst
   refine iteT ?_
   walk_at "rd"
   exact q1 hst H2 (hs1.trans hs2)
 | false =>
 rw [hsk] at hst
 have q:=q2 hst
 clear q1 q2 hst hre hsk N N1 hs1 hs2
 refine iteF ?_
 walk_at "rd"
 refine ⟨fun σ H'=>∃ (A' : Mc.Adr),σ = [some (.ref A.c),some (.ref d)] /\ A'.c = A.c /\ Mc.Now c H' d A' (Mc.fall c m) /\ Mc.Step d A H A' H',?_,?_⟩
 ·walk_at "rd"
  refine ⟨d,_,rfl,N2.get Mc.zfN,?_⟩
  walk_at "rd"
  refine fun e he=>?_
  have hs3:=zae he (.lst [])
  have N3:=N2.same hs3
  have st3:=st2.trans (Mc.Step.of_same hs3)
  refine ⟨_,_,N3.li.bar.den O.blay,Mc.zaW upd_same,Mc.zaS _,?_⟩
  rw [Mc.zaV Mc.mxD m.bar]
  generalize upd H2 e (.lst []) = H3 at hs3 N3 st3 ⊢
  refine ⟨_,rfl,?_⟩
  cases hb : m.bar.isEmpty with
  | true =>
    refine iteF ?_
    have e : Mc.fall c m = m:=by
     unfold Mc.fall
     rw [List.isEmpty_iff.mp hb]
    rw [e]
    exact ⟨A,rfl,rfl,N3,st3⟩
  | false =>
    refine iteT ?_
    walk_at "rd"
    refine ⟨d,A,c,m,rfl,N3,O,hAs,(fun z=>by rw [z] at hb; cases hb),fun A' H4 ec N4 st4=>?_⟩
    exact ⟨A',rfl,ec,N4,st3.trans st4⟩
 rintro σ H3 ⟨A3,rfl,ec3,N3,st3⟩
 have O3:=O.fall
 clear N2 st2
 walk_at "rd"
 refine ⟨fun σ H'=>∃ (A' : Mc.Adr),σ = [some (.ref A.c),some (.ref d)] /\ A'.c = A.c /\ Mc.Now c H' d A' (Mc.cool (Mc.fall c m)) /\ Mc.Step d A H A' H',?_,?_⟩
 ·generalize Mc.fall c m = m3 at N3 O3 ⊢
  walk_at "rd"
  refine ⟨d,_,rfl,N3.get Mc.zcd,?_⟩
  walk_at "rd"
  refine fun e he=>?_
  have hs4:=zae he (.lst [])
  have N4:=N3.same hs4
  have st4:=st3.trans (Mc.Step.of_same hs4)
  refine ⟨_,_,N4.li.het.den O3.hlay,Mc.zaW upd_same,Mc.zaS _,?_⟩
  rw [Mc.zaV Mc.zbU m3.heat]
  generalize upd H3 e (.lst []) = H4 at hs4 N4 st4 ⊢
  refine ⟨_,rfl,?_⟩
  cases hb : m3.heat.isEmpty with
  | true =>
    refine iteF ?_
    have e : Mc.cool m3 = m3:=by
     unfold Mc.cool
     rw [if_pos hb]
    rw [e]
    exact ⟨A3,rfl,ec3,N4,st4⟩
  | false =>
    refine iteT ?_
    walk_at "rd"
    refine ⟨d,A3,c,m3,rfl,N4,O3,(fun z=>by rw [z] at hb; cases hb),fun A' H5 ec N5 st5=>?_⟩
    exact ⟨A',rfl,ec.trans ec3,N5,st4.trans st5⟩
 rintro σ H4 ⟨A4,rfl,ec4,N4,st4⟩
 have O4:=O3.cool
 clear N3 st3
 have q : ∀ A' H',A'.c = A.c -> Mc.Now c H' d A' { Mc.strike c (Mc.cool (Mc.fall c m)) with done:=(Mc.strike c (Mc.cool (Mc.fall c m))).done + 1 } -> Mc.Step d A H A' H' -> Q (.bl true) H':=q
 generalize Mc.cool (Mc.fall c m) = m4 at N4 O4 q ⊢
 have hks:=O.cf.short
 have hsz : c.keys.length <= sizeLine:=zbG (by omega)
 walk_at "rd"
 refine ⟨fun σ H'=>∃ (A' : Mc.Adr),σ = [some (.ref A.c),some (.ref d)] /\ A'.c = A.c /\ Mc.Now c H' d A' (Mc.strike c m4) /\ Mc.Step d A H A' H',?_,?_⟩
 ·walk_at "rd"
  refine ⟨d,_,rfl,N4.get Mc.zec,?_⟩
  walk_at "rd"
  refine ⟨d,_,rfl,N4.get Mc.zhW,?_⟩
  walk_at "rd"
  have hke:=ziM O4
  have hle:=O4.le
  have e0 : c.keys.cps.toList.length = c.keys.length:=Array.length_toList
  cases hk : Mc.key c m4 with
  | none =>
    rw [hk] at hke
    have hke : (m4.at_ : Int) = (c.keys.length : Int):=of_decide_eq_true hke.symm
    rw [decide_eq_false (by omega)]
    refine iteF ?_
    have e : Mc.strike c m4 = m4:=by
     unfold Mc.strike
     rw [hk]
    rw [e]
    exact ⟨A4,rfl,ec4,N4,st4⟩
  | some k =>
    rw [hk] at hke
    have hke : ¬ (m4.at_ : Int) = (c.keys.length : Int):=of_decide_eq_false hke.symm
    rw [decide_eq_true (by omega)]
    refine iteT ?_
    walk_at "rd"
    refine ⟨d,A4,c,m4,k,by rw [ec4]; rfl,N4,O4,hAs,hk,fun A' H5 ec N5 st5=>?_⟩
    exact ⟨A',rfl,ec.trans ec4,N5,st4.trans st5⟩
 rintro σ H5 ⟨A5,rfl,ec5,N5,st5⟩
 walk_at "rd"
 refine ⟨d,_,rfl,N5.get Mc.zkS,?_⟩
 walk_at "rd"
 refine ⟨d,_,rfl,DPut.k (k:=Mc.ky "done") N5.dic (Mc.zdN _ _ _),?_⟩
 rw [Mc.znz]
 exact q A5 _ ec5 (N5.put N5.nd ⟨N5.li.rows,N5.li.lan,N5.li.lns,N5.li.lin,N5.li.het,N5.li.bar,N5.li.txt⟩) (st5.trans N5.stepD)
def ziG (a : Ad) : Sp:=fun vs H Q _=>∃ (p d : Addr) (A B : Mc.Adr) (c : Mc.Cf) (m : Mc.Ms),vs = [.ref p,.ref B.c,.ref d] /\ MA a c H p A m /\ Mc.Now c H d B m /\ Mc.Ok c m /\ As c /\ ∀ H',Same H H' -> Q (.bl true) H'
theorem zhb (x : List (List Mc.Mx)) : min (PyData.list (x.map Mc.zfq)).depth (PyData.list (x.map Mc.zfq)).depth <= 64:=Mc.zix x _
theorem zdb {α : Type} (f : α -> PyData) (h : ∀ a,(f a).depth <= 1) (x : List α) : min (PyData.list (x.map f)).depth (PyData.list (x.map f)).depth <= 64:=by
 have h1 : (PyData.list (x.map f)).depth = PyData.depthAll (x.map f) + 1:=rfl
 have h2:=Mc.zcN f 1 h x
 omega
theorem ziV (T : Tx K mg a) : FnOk P w K mg base CX0 4 a.f_law_same a.d_law_same ["_law_machine","_law_case_here","_law_now"] (ziG a):=by
 have G_Machine_channels:=zdw (P:=P) (w:=w) (base:=base) T
 have G_Machine_gathered:=zdy (P:=P) (w:=w) (base:=base) T
 have G_Machine_in_caster:=zdo (P:=P) (w:=w) (base:=base) T
 have G_Machine_bar:=zfs (P:=P) (w:=w) (base:=base) T
 have G_Machine_slugs:=zex (P:=P) (w:=w) (base:=base) T
 have G_Machine_waited:=zef (P:=P) (w:=w) (base:=base) T
 have G_Machine_ticks:=zes (P:=P) (w:=w) (base:=base) T
 have G_Machine_resting:=zcm (P:=P) (w:=w) (base:=base) T
 have G_Machine_stuck:=zcF (P:=P) (w:=w) (base:=base) T
 have G_law_rests:=zem (P:=P) (w:=w) (base:=base) T
 have G_law_stuck:=zel (P:=P) (w:=w) (base:=base) T
 refine T.law_same.fn.ok ziv (fun vs H Q E h=>?_) (fun cdv A outer s H vs Q E hr h=>?_)
 ·obtain ⟨p,d,A,B,c,m,rfl,_⟩:=h
  rfl
 obtain ⟨p,d,A,B,c,m,rfl,M,N,O,hAs,q⟩:=h
 have I:=M.ins
 refine ⟨_,(zab (zbe (PW.pt (zgs (zar (kneD K rfl hr.units) (zbg (K:=K) rfl T.Machine.cl T.Machine_channels G_Machine_channels hr zdF (pv 0)) (zas (zaE hr) (pv 2) zaj (fun _ _=>rfl)) (zao _)) (zeO (zar (kneD K rfl hr.units) (zbg (K:=K) rfl T.Machine.cl T.Machine_gathered G_Machine_gathered hr zdI (pv 0)) (zas (zaE hr) (pv 2) zaj (fun _ _=>rfl)) (zao _))))) (zaf (zat zev)) zaB)
  (zab (zbe (PW.pt (zgs (zar (kneD K rfl hr.units) (zbg (K:=K) rfl T.Machine.cl T.Machine_in_caster G_Machine_in_caster hr zdr (pv 0)) (zas (zaE hr) (pv 2) zaj (fun _ _=>rfl)) (zao _)) (zgs (zar (kneD K rfl hr.units) (zbg (K:=K) rfl T.Machine.cl T.Machine_bar G_Machine_bar hr zfu (pv 0)) (zas (zaE hr) (pv 2) zaj (fun _ _=>rfl)) (zao _)) (zeO (zar (kneD K rfl hr.units) (zbg (K:=K) rfl T.Machine.cl T.Machine_slugs G_Machine_slugs hr zet (pv 0)) (zas (zaE hr) (pv 2) zaj (fun _ _=>rfl)) (zao _)))))) (zaf (zat zev)) zaB)
  (zab (zbe (zar (kneD K rfl hr.units) (zax (zaa (zbg (K:=K) rfl T.Machine.cl T.Machine_waited G_Machine_waited hr zea (pv 0)) (zaa (zbg (K:=K) rfl T.Machine.cl T.Machine_ticks G_Machine_ticks hr zeB (pv 0)) zad))) (zax (zaa (zas (zaE hr) (pv 2) zaj (fun _ _=>rfl)) (zaa (zas (zaE hr) (pv 2) zaj (fun _ _=>rfl)) zad))) (zao _)) (zaf (zat zev)) zaB)
  (zab (zcG PassesOwn.never rfl (zaO K rfl (zax (zaa (zbg (K:=K) rfl T.Machine.cl T.Machine_resting G_Machine_resting hr zby (pv 0)) (zaa (zbg (K:=K) rfl T.Machine.cl T.Machine_stuck G_Machine_stuck hr zbY (pv 0)) zad)))) (zam (i:=3) ziv.nd rfl (Or.inl rfl)) (zaf (zbe (zfC (zcq (zbh (zng K rfl) rfl T.b_isinstance zgn (zaa (pv 3) (zaa (znE (v:=.ty "bool") rfl T.b_bool zmR rfl) zad))))) (zaf (zat zev)) zaB)))
  (zaf (zat (zca (zaK zcO (zbg (K:=K) rfl T.Machine.cl T.Machine_resting G_Machine_resting hr zby (pv 0)) (zaU T.law_rests G_law_rests hr rfl (zaa (pv 2) zad)) (zao _)) (zdt (zaK zcO (zbg (K:=K) rfl T.Machine.cl T.Machine_stuck G_Machine_stuck hr zbY (pv 0)) (zaU T.law_stuck G_law_stuck hr rfl (zaa (pv 1) (zaa (pv 2) zad))) (zao _)))))))))),?_⟩
 walk_at "rd"
 refine ⟨p,A,c,m,rfl,M,O,fun d0 H1 hd0 hs1 hL0=>?_⟩
 have M1:=M.same hs1
 have N1:=N.same hs1
 have I1:=M1.ins
 clear I
 walk_at "rd"
 refine ⟨d,_,rfl,N1.get Mc.zeK,?_⟩
 walk_at "rd"
 obtain ⟨ls,g1,g2,_,_⟩:=hL0
 have D1 : Den K H1 (.ref d0) (.list (m.lanes.map Mc.zfq)):=.lst (SqL.of g1) (Mc.zgC g2 O.llays)
 refine ⟨_,_,D1,.lst (SqL.of N1.li.lan) (Mc.zgC N1.li.lns O.llays),zhb _,?_⟩
 rw [Mc.zcu D1]
 refine ⟨_,rfl,?_⟩
 refine iteF ?_
 walk_at "rd"
 refine ⟨p,A,c,m,rfl,M1,O,fun d1 H2 hd1 hs2 hL1=>?_⟩
 have M2:=M1.same hs2
 have N2:=N1.same hs2
 have I2:=M2.ins
 clear I1
 walk_at "rd"
 refine ⟨d,_,rfl,N2.get Mc.zeZ,?_⟩
 walk_at "rd"
 have D2 : Den K H2 (.ref d1) _:=hL1.den O.ilay
 refine ⟨_,_,D2,N2.li.lin.den O.ilay,zdb _ Mc.zfE _,?_⟩
 rw [Mc.zcu D2]
 refine ⟨_,rfl,?_⟩
 refine iteF ?_
 walk_at "rd"
 refine ⟨p,A,c,m,rfl,M2,O,fun d2 H3 hd2 hs3 hL2=>?_⟩
 have M3:=M2.same hs3
 have N3:=N2.same hs3
 have I3:=M3.ins
 clear I2
 walk_at "rd"
 refine ⟨d,_,rfl,N3.get Mc.zcd,?_⟩
 walk_at "rd"
 have D3 : Den K H3 (.ref d2) _:=hL2.den O.hlay
 refine ⟨_,_,D3,N3.li.het.den O.hlay,zdb _ Mc.zfE _,?_⟩
 rw [Mc.zcu D3]
 refine ⟨_,rfl,?_⟩
 refine iteF ?_
 walk_at "rd"
 refine ⟨p,A,c,m,rfl,M3,O,fun d3 H4 hd3 hs4 hL3=>?_⟩
 have M4:=M3.same hs4
 have N4:=N3.same hs4
 have I4:=M4.ins
 clear I3
 walk_at "rd"
 refine ⟨d,_,rfl,N4.get Mc.zfN,?_⟩
 walk_at "rd"
 have D4 : Den K H4 (.ref d3) _:=hL3.den O.blay
 refine ⟨_,_,D4,N4.li.bar.den O.blay,zdb _ Mc.zgF _,?_⟩
 rw [Mc.zcu D4]
 refine ⟨_,rfl,?_⟩
 refine iteF ?_
 walk_at "rd"
 refine ⟨p,A,c,m,rfl,M4,O,fun d4 H5 hd4 hs5 hL4=>?_⟩
 have M5:=M4.same hs5
 have N5:=N4.same hs5
 have I5:=M5.ins
 clear I4
 walk_at "rd"
 refine ⟨d,_,rfl,N5.get Mc.ziZ,?_⟩
 walk_at "rd"
 have D5 : Den K H5 (.ref d4) _:=.lst (SqL.of hL4) (Ln.zdg O.tl)
 refine ⟨_,_,D5,.lst (SqL.of N5.li.txt) (Ln.zdg O.tl),zdb _ (fun _=>Nat.zero_le _) _,?_⟩
 rw [Mc.zcu D5]
 refine ⟨_,rfl,?_⟩
 refine iteF ?_
 walk_at "rd"
 refine ⟨p,A,c,m,rfl,M5,O,fun H6 hs6=>?_⟩
 have M6:=M5.same hs6
 have I6:=M6.ins
 clear I5
 walk_at "rd"
 refine ⟨p,A,c,m,rfl,M6,O,fun H7 hs7=>?_⟩
 have M7:=M6.same hs7
 have N7:=N5.same (hs6.trans hs7)
 have I7:=M7.ins
 clear I6
 walk_at "rd"
 refine fun e8 he8=>?_
 have hs8:=zae he8 (.lst [.int m.waits,.int m.done])
 have h88 : upd H7 e8 (.lst [.int m.waits,.int m.done]) e8 = some (.lst [.int m.waits,.int m.done]):=upd_same
 show (fun x H1=>tLst _ _ H1 _) (V.ref e8) (upd H7 e8 (.lst [.int m.waits,.int m.done]))
 generalize upd H7 e8 (.lst [.int m.waits,.int m.done]) = H8 at hs8 h88 ⊢
 have M8:=M7.same hs8
 have N8:=N7.same hs8
 clear I7
 walk_at "rd"
 refine ⟨d,_,rfl,N8.get Mc.zjj,?_⟩
 walk_at "rd"
 refine ⟨d,_,rfl,N8.get Mc.zkS,?_⟩
 walk_at "rd"
 refine fun e9 he9=>?_
 have hs9:=zae he9 (.lst [.int m.waits,.int m.done])
 have h99 : upd H8 e9 (.lst [.int m.waits,.int m.done]) e9 = some (.lst [.int m.waits,.int m.done]):=upd_same
 generalize upd H8 e9 (.lst [.int m.waits,.int m.done]) = H9 at hs9 h99 ⊢
 have M9:=M8.same hs9
 have N9:=N8.same hs9
 have I9:=M9.ins
 have hs09 : Same H H9:=hs1.trans (hs2.trans (hs3.trans (hs4.trans (hs5.trans (hs6.trans (hs7.trans (hs8.trans hs9)))))))
 have D9 : Den K H9 (.ref e8) (.list [.int m.waits,.int m.done]):=.lst (SqL.of (hs9 _ _ h88)) (.cons (.int _) (.cons (.int _) .nil))
 refine ⟨_,_,D9,.lst (SqL.of h99) (.cons (.int _) (.cons (.int _) .nil)),by show min 1 1 <= 64; decide,?_⟩
 rw [Mc.zcu D9]
 refine ⟨_,rfl,?_⟩
 refine iteF ?_
 clear M M1 M2 M3 M4 M5 M6 M7 M8 N N1 N2 N3 N4 N5 N7 N8 hL1 hL2 hL3 hL4 D1 D2 D3 D4 D5 D9 hs1 hs2 hs3 hs4 hs5 hs6 hs7 hs8 hs9
 walk_at "rd"
 refine ⟨p,A,c,m,rfl,M9,O,fun H10 hs10=>?_⟩
 have M10:=M9.same hs10
 have I10:=M10.ins
 clear I9
 walk_at "rd"
 refine ⟨p,A,c,m,rfl,M10,O,fun H11 hs11=>?_⟩
 have M11:=M10.same hs11
 have N11:=N9.same (hs10.trans hs11)
 have I11:=M11.ins
 clear I10
 walk_at "rd"
 refine fun e12 he12=>?_
 have hs12:=zae he12 (.lst [.bl (Mc.zbW c m),.bl (Mc.zer c m)])
 have h12 : upd H11 e12 (.lst [.bl (Mc.zbW c m),.bl (Mc.zer c m)]) e12 = some (.lst [.bl (Mc.zbW c m),.bl (Mc.zer c m)]):=upd_same
 have M12:=M11.same hs12
 have N12:=N11.same hs12
 refine ⟨e12,rfl,⟨_,SqL.of h12⟩,?_⟩
 refine zjm (a:=e12) (xs:=[.bl (Mc.zbW c m),.bl (Mc.zer c m)]) (fun i σ H13=>∃ (v3 : Option V),σ = [some (.ref p),some (.ref B.c),some (.ref d),v3] /\ Same (upd H11 e12 (.lst [.bl (Mc.zbW c m),.bl (Mc.zer c m)])) H13)
  ⟨none,rfl,Same.refl _⟩ (fun i σ H13 _ ⟨_,_,hs⟩=>SqL.of (hs _ _ h12)) ?_ ?_
 ·rintro i y σ H13 hy ⟨v3,rfl,hs13⟩
  obtain ⟨b,rfl⟩ : ∃ b,y = .bl b:=by
   match i,hy with
   | 0,hy=>exact ⟨_,(Option.some.inj hy).symm⟩
   | 1,hy=>exact ⟨_,(Option.some.inj hy).symm⟩
  walk_at "rd"
  refine ⟨_,_,_,_,rfl,.bl _,zow,?_⟩
  walk_at "rd"
  try refine iteF ?_
  exact hs13
 ·rintro σ H13 ⟨v3,rfl,hs13⟩
  have M13:=M12.same hs13
  have N13:=N12.same hs13
  have I13:=M13.ins
  have hs013:=hs09.trans (hs10.trans (hs11.trans (hs12.trans hs13)))
  clear I11 M12 N12 M11 N11 M10 M9 N9
  walk_at "rd"
  refine ⟨p,A,c,m,rfl,M13,O,fun H14 hs14=>?_⟩
  have M14:=M13.same hs14
  have N14:=N13.same hs14
  walk_at "rd"
  refine ⟨d,B,c,m,rfl,N14,O,fun H15 hs15=>?_⟩
  have M15:=M14.same hs15
  have N15:=N14.same hs15
  have I15:=M15.ins
  clear I13
  walk_at "rd"
  rw [if_pos (decide_eq_true rfl)]
  walk_at "rd"
  refine ⟨p,A,c,m,rfl,M15,O,fun H16 hs16=>?_⟩
  have N16:=N15.same hs16
  walk_at "rd"
  refine ⟨d,B,c,m,rfl,N16,O,hAs,fun H17 hs17=>?_⟩
  walk_at "rd"
  rw [decide_eq_true rfl]
  exact q H17 (hs013.trans (hs14.trans (hs15.trans (hs16.trans hs17))))
def bg7 (c : Mc.Cf) (A : Mc.Adr) (l h : Addr) : List (Key × V):=[(Mc.ky "lanes",.ref A.L),(Mc.ky "row",.str c.keys),(Mc.ky "next",.int 0),(Mc.ky "line",.ref l),(Mc.ky "inside",.ref h),(Mc.ky "left",.int 0),(Mc.ky "casting",.int c.cast)]
def bg8 (c : Mc.Cf) (A : Mc.Adr) (l h b : Addr) : List (Key × V):=bg7 c A l h ++ [(Mc.ky "bar",.ref b)]
def bg9 (c : Mc.Cf) (A : Mc.Adr) (l h b t : Addr) : List (Key × V):=bg8 c A l h b ++ [(Mc.ky "slugs",.ref t)]
def bg10 (c : Mc.Cf) (A : Mc.Adr) (l h b t : Addr) : List (Key × V):=bg9 c A l h b t ++ [(Mc.ky "waits",.int 0)]
theorem zlR {c : Mc.Cf} {A : Mc.Adr} {l h : Addr} : zfO [] (bg7 c A l h) = bg7 c A l h:=by kernel_rfl
theorem zrk {c : Mc.Cf} {A : Mc.Adr} {l h b : Addr} : putK (bg7 c A l h) (Mc.ky "bar") (.ref b) = bg8 c A l h b:=by kernel_rfl
theorem zmg {c : Mc.Cf} {A : Mc.Adr} {l h b t : Addr} : putK (bg8 c A l h b) (Mc.ky "slugs") (.ref t) = bg9 c A l h b t:=by kernel_rfl
theorem zlG {c : Mc.Cf} {A : Mc.Adr} {l h b t : Addr} : putK (bg9 c A l h b t) (Mc.ky "waits") (.int 0) = bg10 c A l h b t:=by kernel_rfl
theorem znK {lt : List (List Mc.Mx)} {c : Mc.Cf} {A : Mc.Adr} {l h b t : Addr} : putK (bg10 c A l h b t) (Mc.ky "done") (.int 0) = Mc.nowK c { A with l:=l,h:=h,b:=b,t:=t } (startB lt):=by kernel_rfl
def zhQ : Sp:=fun vs H Q _=>∃ (A0 : Mc.Adr) (c : Mc.Cf) (lt : List (List Mc.Mx)),vs = [.ref A0.L,.str c.keys,.int c.cast] /\ ∀ d l h b t H',H d = none -> H l = none -> H h = none -> H b = none -> H t = none -> [l,h,b,t].Nodup -> Same H H' -> H' d = some (.dK (Mc.nowK c { A0 with l:=l,h:=h,b:=b,t:=t } (startB lt))) -> H' l = some (.lst []) -> H' h = some (.lst []) -> H' b = some (.lst []) -> H' t = some (.lst []) -> Q (.ref d) H'
theorem zhV (T : Tx K mg a) : FnOk P w K mg base CX0 1 a.f_law_begin a.d_law_begin ["_law_lanes_here","_law_keys_here","_law_casting"] zhQ:=by
 refine T.law_begin.fn.ok zhe (fun vs H Q E h=>?_) (fun cdv A outer s H vs Q E hr h=>?_)
 ·obtain ⟨A,c,lt,rfl,_⟩:=h
  rfl
 obtain ⟨A,c,lt,rfl,q⟩:=h
 refine ⟨_,(zab (zaC (i:=3) zhe.nd rfl (Or.inl rfl) (zns (zcz zaj (pv 0) (zcz zaj (pv 1) (zcz zaj zag (zcz zaj (zax zad) (zcz zaj (zax zad) (zcz zaj zag (zcz zaj (pv 2) znt))))))) rfl rfl (by decide) (by decide)))
  (zab (zbM (zaE hr) (pv 3) zaj (zax zad) rfl)
  (zab (zbM (zaE hr) (pv 3) zaj (zax zad) rfl)
  (zab (zbM (zaE hr) (pv 3) zaj zag rfl)
  (zab (zbM (zaE hr) (pv 3) zaj zag rfl)
  (zaf (zat (pv 3)))))))),?_⟩
 walk_at "rd"
 refine fun d hd=>?_
 have hs1:=zae hd (.dK [])
 have h1 : upd H d (.dK []) d = some (.dK []):=upd_same
 generalize upd H d (.dK []) = H1 at hs1 h1 ⊢
 simp only [zjy]
 walk_at "rd"
 refine fun l hl=>?_
 have hs2:=zae hl (.lst [])
 have h2 : upd H1 l (.lst []) l = some (.lst []):=upd_same
 dsimp only
 generalize upd H1 l (.lst []) = H2 at hs2 h2 ⊢
 walk_at "rd"
 refine fun h hh=>?_
 have hs3:=zae hh (.lst [])
 have h3 : upd H2 h (.lst []) h = some (.lst []):=upd_same
 dsimp only
 generalize upd H2 h (.lst []) = H3 at hs3 h3 ⊢
 have d3:=hs3 _ _ (hs2 _ _ h1)
 have l3:=hs3 _ _ h2
 have hs03:=hs1.trans (hs2.trans hs3)
 walk_at "rd"
 refine ⟨bg7 c A l h,rfl,Nat.le_of_ble_eq_true rfl,?_⟩
 rw [zlR]
 have d4 : upd H3 d (.dK (bg7 c A l h)) d = some (.dK (bg7 c A l h)):=upd_same
 have k4:=zgy (o:=.dK (bg7 c A l h)) d3
 have u4 : ∀ x,x ≠ d -> upd H3 d (.dK (bg7 c A l h)) x = H3 x:=fun x hx=>zai hx
 have hs4 : Same H (upd H3 d (.dK (bg7 c A l h))):=zap hs03 hd
 have nl : l ≠ d:=zbi l3 d3 fun z=>by cases z
 have nh : h ≠ d:=zbi h3 d3 fun z=>by cases z
 generalize upd H3 d (.dK (bg7 c A l h)) = H4 at d4 k4 u4 hs4 ⊢
 have l4:=k4 _ _ l3 (.inl nl)
 have h4:=k4 _ _ h3 (.inl nh)
 walk_at "rd"
 refine fun b hb=>?_
 have hs5:=zae hb (.lst [])
 have b5 : upd H4 b (.lst []) b = some (.lst []):=upd_same
 dsimp only
 generalize upd H4 b (.lst []) = H5 at hs5 b5 ⊢
 have d5:=hs5 _ _ d4
 walk_at "rd"
 refine ⟨d,_,rfl,DPut.k (k:=Mc.ky "bar") d5 (zbb (show 7 <= 100000 by decide)),?_⟩
 rw [zrk]
 have d6 : upd H5 d (.dK (bg8 c A l h b)) d = some (.dK (bg8 c A l h b)):=upd_same
 have k6:=zgy (o:=.dK (bg8 c A l h b)) d5
 have hs6 : Same H (upd H5 d (.dK (bg8 c A l h b))):=zap (hs4.trans hs5) hd
 have nb : b ≠ d:=zbi b5 d5 fun z=>by cases z
 generalize upd H5 d (.dK (bg8 c A l h b)) = H6 at d6 k6 hs6 ⊢
 have l6:=k6 _ _ (hs5 _ _ l4) (.inl nl)
 have h6:=k6 _ _ (hs5 _ _ h4) (.inl nh)
 have b6:=k6 _ _ b5 (.inl nb)
 walk_at "rd"
 refine fun t ht=>?_
 have hs7:=zae ht (.lst [])
 have t7 : upd H6 t (.lst []) t = some (.lst []):=upd_same
 dsimp only
 generalize upd H6 t (.lst []) = H7 at hs7 t7 ⊢
 have d7:=hs7 _ _ d6
 have nt : t ≠ d:=zbi t7 d7 fun z=>by cases z
 walk_at "rd"
 refine ⟨d,_,rfl,DPut.k (k:=Mc.ky "slugs") d7 (zbb (show 8 <= 100000 by decide)),?_⟩
 rw [zmg]
 have d8 : upd H7 d (.dK (bg9 c A l h b t)) d = some (.dK (bg9 c A l h b t)):=upd_same
 have k8:=zgy (o:=.dK (bg9 c A l h b t)) d7
 have hs8 : Same H (upd H7 d (.dK (bg9 c A l h b t))):=zap (hs6.trans hs7) hd
 generalize upd H7 d (.dK (bg9 c A l h b t)) = H8 at d8 k8 hs8 ⊢
 walk_at "rd"
 refine ⟨d,_,rfl,DPut.k (k:=Mc.ky "waits") d8 (zbb (show 9 <= 100000 by decide)),?_⟩
 rw [zlG]
 have d9 : upd H8 d (.dK (bg10 c A l h b t)) d = some (.dK (bg10 c A l h b t)):=upd_same
 have k9:=zgy (o:=.dK (bg10 c A l h b t)) d8
 have hs9 : Same H (upd H8 d (.dK (bg10 c A l h b t))):=zap hs8 hd
 generalize upd H8 d (.dK (bg10 c A l h b t)) = H9 at d9 k9 hs9 ⊢
 walk_at "rd"
 refine ⟨d,_,rfl,DPut.k (k:=Mc.ky "done") d9 (zbb (show 10 <= 100000 by decide)),?_⟩
 rw [znK (lt:=lt)]
 have k10:=zgy (o:=.dK (Mc.nowK c { A with l:=l,h:=h,b:=b,t:=t } (startB lt))) d9
 have hs10 : Same H (upd H9 d (.dK (Mc.nowK c { A with l:=l,h:=h,b:=b,t:=t } (startB lt)))):=zap hs9 hd
 have up : ∀ x,x ≠ d -> H7 x = some (.lst []) -> upd H9 d (.dK (Mc.nowK c { A with l:=l,h:=h,b:=b,t:=t } (startB lt))) x = some (.lst []):=fun x hx e=>k10 _ _ (k9 _ _ (k8 _ _ e (.inl hx)) (.inl hx)) (.inl hx)
 walk_at "rd"
 have nlh : l ≠ h:=fun e=>by rw [e,hh] at h2; cases h2
 have nlb : l ≠ b:=fun e=>by rw [e,hb] at l4; cases l4
 have nhb : h ≠ b:=fun e=>by rw [e,hb] at h4; cases h4
 have nlt : l ≠ t:=fun e=>by rw [e,ht] at l6; cases l6
 have nht : h ≠ t:=fun e=>by rw [e,ht] at h6; cases h6
 have nbt : b ≠ t:=fun e=>by rw [e,ht] at b6; cases b6
 refine q d l h b t _ hd (hs1.free hl) ((hs1.trans hs2).free hh) (hs4.free hb) (hs6.free ht) ?_ hs10 upd_same (up l nl (hs7 _ _ l6)) (up h nh (hs7 _ _ h6)) (up b nb (hs7 _ _ b6)) (up t nt t7)
 simp only [List.nodup_cons,List.mem_cons,List.not_mem_nil,or_false,not_or,List.nodup_nil,and_true,not_false_eq_true]
 exact ⟨⟨nlh,nlb,nlt⟩,⟨nhb,nht⟩,nbt⟩
def zgq : Sp:=fun vs H Q _=>∃ (pc : Addr) (xs : List V) (rs : List Cs.Row) (z : Int),vs = [.ref pc,.int z] /\ H pc = some (.lst xs) /\ Paired (Cs.zcf H) xs rs /\ Mc.Rows rs /\ 1 <= rs.length /\ ∀ pr xs' rs' H',Same H H' -> H' pr = some (.lst xs') -> Paired (Cs.zcf H') xs' rs' -> Mc.Rows rs' -> rs'.length = rs.length -> Q (.ref pr) H'
theorem zga (T : Tx K mg a) : FnOk P w K mg base CX0 1 a.f_law_turned a.d_law_turned ["_law_case_here","_law_cell"] zgq:=by
 refine T.law_turned.fn.ok zgM (fun vs H Q E h=>?_) (fun cdv A outer s H vs Q E hr h=>?_)
 ·obtain ⟨pc,xs,rs,z,rfl,_⟩:=h
  rfl
 obtain ⟨pc,xs,rs,z,rfl,hc,hpd,R,hl1,q⟩:=h
 have hxl:=Cs.zaZ hpd
 have hfew:=R.few
 refine ⟨_,(zab (zbe (zar zcO (zaq zbm (pv 1) zag) zag (zao _)) (zaf (zat (pv 0))) zaB)
  (zab (zaC (i:=2) zgM.nd rfl (Or.inr rfl) (zmO K rfl (zbf rfl (zaO K rfl (pv 0)) (BlkOk.of (N':=["_law_case_here","_law_cell","_law_teeth_here","_law_channel"]) (ms:=[]) (k:=1) (by rfl)) (fun _ _ _ _ _=>(zam (i:=3) (show List.Nodup (["_law_case_here","_law_cell","_law_teeth_here","_law_channel"] : List Str) from by decide +kernel) rfl (Or.inl rfl))) (fun _ _ _ _ _=>zbH) (fun _ _ _ _ _=>(zaG (zbA K rfl) (pv 3) zag (fun _ _=>rfl)))) (znR zle zag)))
  (zab (zhm (zbe (zar zcO (zaq zbm (zaq zcc (pv 1) zag) zag) zag (zao _)) (zaf (zaC (i:=2) zgM.nd rfl (Or.inr rfl) (zaq zmI (zgI (zgN K rfl) (pv 2) (zgL zag) zlo) (zgI (zgN K rfl) (pv 2) zlo (zgL zag))))) zaB))
  (zaf (zat (zbf rfl (zcR rfl T.b_range (zaa (zbh (zcD K rfl) rfl T.b_len zcH (zaa (pv 0) zad)) zad)) (BlkOk.of (N':=["_law_case_here","_law_cell","_law_teeth_here","_law_k"]) (ms:=[]) (k:=1) (by rfl)) (fun _ _ _ _ _=>(zam (i:=3) (show List.Nodup (["_law_case_here","_law_cell","_law_teeth_here","_law_k"] : List Str) from by decide +kernel) rfl (Or.inl rfl))) (fun _ _ _ _ _=>zbH) (fun _ _ _ _ _=>(zdW (zaa (zaG (zbA K rfl) (zaG (zav K rfl) (pv 0) (pv 3) (fun _ _=>rfl)) zag (fun _ _=>rfl)) (zaa (zaG (zbA K rfl) (zaG (zav K rfl) (pv 0) (pv 3) (fun _ _=>rfl)) zag (fun _ _=>rfl)) (zaa (zaG (zav K rfl) (pv 2) (pv 3) (fun _ _=>rfl)) (zaa (zaG (zbA K rfl) (zaG (zav K rfl) (pv 0) (pv 3) (fun _ _=>rfl)) zag (fun _ _=>rfl)) zad)))))))))))),?_⟩
 walk_at "rd"
 rw [decV]
 refine ite2 (fun c1=>?_) (fun c1=>?_)
 ·walk_at "rd"
  exact q pc xs rs H (Same.refl _) hc hpd R rfl
 walk_at "rd"
 refine ⟨⟨_,SqL.of hc⟩,fun D hD=>?_⟩
 refine zaI (a:=pc) (xs:=xs) (fun i ys σ H2=>∃ (v2 v3 : Option V),ys = ((rs.take i).map fun r=>r.t).map V.int /\ σ = [some (.ref pc),some (.int z),v2,v3] /\ Same H H2 /\ H2 D = some (.lst ys))
  ?_ ?_ ?_ ?_
 ·exact ⟨none,none,rfl,rfl,zae hD _,upd_same⟩
 ·rintro i ys σ H2 hi ⟨_,_,_,_,hs,_⟩
  exact hs.seq (SqL.of hc)
 ·rintro i y ys σ H2 hy hil ⟨v2,v3,rfl,rfl,hs,hh⟩
  obtain ⟨r,hri,t,et,ht⟩:=Cs.zaM hpd hy
  subst et
  have a2 : atI (Cs.rowV r) 2 = some (.int r.t):=rfl
  walk_at "rd"
  refine ⟨t,_,_,_,rfl,rfl,SqT.of (hs _ _ ht),a2,?_⟩
  refine zcK hil hh (by rw [List.length_map,List.length_map,List.length_take]; omega) ⟨_,_,?_,rfl,zap hs hD,upd_same⟩
  rw [List.take_add_one,hri,Option.toList_some,List.map_append,List.map_append]
  rfl
 rintro ys σ H2 ⟨v2,v3,rfl,rfl,hs2,hh2⟩
 rw [hxl,List.take_of_length_le (Nat.le_refl _)] at hh2
 walk_at "rd"
 refine ⟨D,_,rfl,rfl,SqL.of hh2,fun p3 hp3=>?_⟩
 rw [<- List.map_reverse]
 have ht0 : ∀ t ∈ (rs.map fun r=>r.t).reverse,0 <= t /\ t < 128:=fun t ht=>by
  obtain ⟨r,hr,rfl⟩:=List.mem_map.mp (List.mem_reverse.mp ht)
  exact R.th r hr
 have hl0 : (rs.map fun r=>r.t).reverse.length = rs.length:=by rw [List.length_reverse,List.length_map]
 generalize (rs.map fun r=>r.t).reverse = t0 at ht0 hl0 ⊢
 have hs3:=zbk (o:=.lst (t0.map V.int)) hs2 hp3
 have h33 : upd H2 p3 (.lst (t0.map V.int)) p3 = some (.lst (t0.map V.int)):=upd_same
 generalize upd H2 p3 (.lst (t0.map V.int)) = H3 at hs3 h33 ⊢
 walk_at "rd"
 refine ⟨fun σ H'=>∃ (p2 : Addr) (ts : List Int),σ = [some (.ref pc),some (.int z),some (.ref p2)] /\ Same H H' /\ H' p2 = some (.lst (ts.map V.int)) /\ ts.length = rs.length /\ ∀ t ∈ ts,0 <= t /\ t < 128,?_,?_⟩
 ·walk_at "rd"
  rw [decV]
  refine ite2 (fun c2=>?_) (fun c2=>?_)
  ·walk_at "rd"
   refine ⟨p3,_,rfl,SqL.of h33,fun p4 hp4=>?_⟩
   rw [show (some (1 : Int)) = some ((1 : Nat) : Int) from rfl,zlX t0 1 (by omega)]
   have hs4:=zae hp4 (.lst ((t0.drop 1).map V.int))
   have h44 : upd H3 p4 (.lst ((t0.drop 1).map V.int)) p4 = some (.lst ((t0.drop 1).map V.int)):=upd_same
   generalize upd H3 p4 (.lst ((t0.drop 1).map V.int)) = H4 at hs4 h44 ⊢
   walk_at "rd"
   refine ⟨p3,_,rfl,SqL.of (hs4 _ _ h33),fun p5 hp5=>?_⟩
   rw [show (some (1 : Int)) = some ((1 : Nat) : Int) from rfl,zmk t0 1]
   have hs5:=zae hp5 (.lst ((t0.take 1).map V.int))
   have h55 : upd H4 p5 (.lst ((t0.take 1).map V.int)) p5 = some (.lst ((t0.take 1).map V.int)):=upd_same
   generalize upd H4 p5 (.lst ((t0.take 1).map V.int)) = H5 at hs5 h55 ⊢
   refine ⟨p4,p5,_,_,rfl,rfl,hs5 _ _ h44,h55,zbG (by rw [List.length_map,List.length_map,List.length_drop,List.length_take]; omega),fun p6 hp6=>?_⟩
   rw [<- List.map_append]
   refine ⟨p6,t0.drop 1 ++ t0.take 1,rfl,hs3.trans (hs4.trans (hs5.trans (zae hp6 _))),upd_same,by rw [List.length_append,List.length_drop,List.length_take]; omega,fun t ht=>?_⟩
   rcases List.mem_append.mp ht with ht | ht
   ·exact ht0 t (List.mem_of_mem_drop ht)
   ·exact ht0 t (List.mem_of_mem_take ht)
  ·exact ⟨p3,t0,rfl,hs3,h33,hl0,ht0⟩
 rintro σ H4 ⟨p2,ts,rfl,hs4,h42,hl4,ht4⟩
 have hc4:=hs4 _ _ hc
 walk_at "rd"
 refine ⟨pc,xs,rfl,.inl (SqL.of hc4),?_⟩
 refine ⟨_,rfl,by omega,by omega,?_⟩
 intro D2 hD2
 refine zjL (n:=((xs.length : Nat) : Int).toNat) (fun i ys σ H5=>∃ (v3 : Option V) (rs2 : List Cs.Row),σ = [some (.ref pc),some (.int z),some (.ref p2),v3] /\ Same H4 H5 /\ H5 D2 = some (.lst ys) /\ Paired (Cs.zcf H5) ys rs2 /\ rs2.length = i /\ ∀ r' ∈ rs2,∃ r ∈ rs,r'.s = r.s /\ r'.n = r.n /\ 0 <= r'.t /\ r'.t < 128)
  ?_ ?_ ?_
 ·exact ⟨none,[],rfl,zae hD2 _,upd_same,.nil,rfl,fun r hr=>nomatch hr⟩
 ·rintro i ys σ H5 hi ⟨v3,rs2,rfl,hs5,hh5,hp5,hl5,hr5⟩
  have hil : i < rs.length:=by omega
  have hxi : xs[i]? = some (xs[i]'(by omega)):=List.getElem?_eq_getElem _
  obtain ⟨r,hri,t,et,ht⟩:=Cs.zaM hpd hxi
  rw [et] at hxi
  have ek : Unit -> atI xs (0 + (i : Int)) = some (.ref t):=fun _=>by rw [Int.zero_add]; exact zaL hxi
  have hti : ts[i]? = some (ts[i]'(by omega)):=List.getElem?_eq_getElem _
  have hb:=ht4 _ (List.mem_of_getElem? hti)
  generalize ts[i]'(by omega) = tt at hti hb
  have et2 : Unit -> atI (ts.map V.int) (0 + (i : Int)) = some (.int tt):=fun _=>by rw [Int.zero_add]; exact zaL (by rw [List.getElem?_map,hti]; rfl)
  have a0 : atI (Cs.rowV r) 0 = some (.str r.s):=rfl
  have a1 : atI (Cs.rowV r) 1 = some (.int r.w):=rfl
  have a3 : atI (Cs.rowV r) 3 = some (.int r.n):=rfl
  have ht5:=(hs4.trans hs5) _ _ ht
  have hc5:=hs5 _ _ hc4
  have h52:=hs5 _ _ h42
  walk_at "rd"
  refine ⟨pc,_,_,_,rfl,rfl,SqL.of hc5,ek (),?_⟩
  refine ⟨t,_,_,_,rfl,rfl,SqT.of ht5,a0,?_⟩
  walk_at "rd"
  refine ⟨pc,_,_,_,rfl,rfl,SqL.of hc5,ek (),?_⟩
  refine ⟨t,_,_,_,rfl,rfl,SqT.of ht5,a1,?_⟩
  walk_at "rd"
  refine ⟨p2,_,_,_,rfl,rfl,SqL.of h52,et2 (),?_⟩
  walk_at "rd"
  refine ⟨pc,_,_,_,rfl,rfl,SqL.of hc5,ek (),?_⟩
  refine ⟨t,_,_,_,rfl,rfl,SqT.of ht5,a3,?_⟩
  walk_at "rd"
  intro p6 hp6
  have hs6:=zae hp6 (.tup (Cs.rowV ⟨r.s,r.w,tt,r.n⟩))
  have h66 : upd H5 p6 (.tup (Cs.rowV ⟨r.s,r.w,tt,r.n⟩)) p6 = some (.tup (Cs.rowV ⟨r.s,r.w,tt,r.n⟩)):=upd_same
  have hyl:=Cs.zaZ hp5
  have hh6:=hs6 _ _ hh5
  refine zcK hi hh6 (by omega) ⟨_,rs2 ++ [⟨r.s,r.w,tt,r.n⟩],rfl,zap (hs5.trans hs6) hD2,upd_same,?_,by rw [List.length_append,hl5]; rfl,fun r' h'=>?_⟩
  ·exact Paired.snoc (Cs.zjr (Cs.zaT hp5 hs6) hh6 (fun _ z=>by cases z)) ⟨p6,rfl,by rw [zai (zbi h66 hh6 fun z=>by cases z)]; exact h66⟩
  ·rcases List.mem_append.mp h' with h' | h'
   ·exact hr5 r' h'
   ·rw [List.mem_singleton.mp h']
    exact ⟨r,List.mem_of_getElem? hri,rfl,rfl,hb⟩
 ·rintro ys σ H5 ⟨v3,rs2,rfl,hs5,hh5,hp5,hl5,hr5⟩
  refine q D2 ys rs2 H5 (hs4.trans hs5) hh5 hp5 ⟨by omega,fun r' h'=>?_,fun r' h'=>?_,fun r' h'=>?_⟩ (by omega)
  ·obtain ⟨r,hr,e1,e2,e3⟩:=hr5 r' h'
   rw [e1]
   exact R.sg r hr
  ·obtain ⟨r,hr,e1,e2,e3⟩:=hr5 r' h'
   exact e3
  ·obtain ⟨r,hr,e1,e2,e3⟩:=hr5 r' h'
   rw [e2]
   exact R.mn r hr
def zgv : Sp:=fun vs H Q _=>∃ (pc : Addr) (xs : List V) (rs : List Cs.Row) (z : Int),vs = [.ref pc,.int z] /\ H pc = some (.lst xs) /\ Paired (Cs.zcf H) xs rs /\ Mc.Rows rs /\ 1 <= rs.length /\ ∀ pf fv bs lt H',H pf = none -> Same H H' -> H' pf = some (.lst fv) -> Paired (Two H') fv bs -> bs.length <= 8 -> (∀ b ∈ bs,1 <= b.2 /\ b.2 < 128) -> Told40 rs bs (.inr lt) -> Q (.ref pf) H'
theorem zfZ (T : Tx K mg a) : FnOk P w K mg base CX0 2 a.f_law_broken a.d_law_broken ["_law_case_here","_law_cell"] zgv:=by
 have G_law_mixed:=zcT (P:=P) (w:=w) (base:=base) T
 refine T.law_broken.fn.ok zgJ (fun vs H Q E h=>?_) (fun cdv A outer s H vs Q E hr h=>?_)
 ·obtain ⟨pc,xs,rs,z,rfl,_⟩:=h
  rfl
 obtain ⟨pc,xs,rs,z,rfl,hc,hpd,R,hl1,q⟩:=h
 have hxl:=Cs.zaZ hpd
 have hfew:=R.few
 refine ⟨_,(zab (zaC (i:=2) zgJ.nd rfl (Or.inl rfl) (zax zad))
  (zab (zaC (i:=3) zgJ.nd rfl (Or.inl rfl) (zaq zjh (zax (zaa zag zad)) (zbh (zcD K rfl) rfl T.b_len zcH (zaa (pv 0) zad))))
  (zab (zaC (i:=4) zgJ.nd rfl (Or.inl rfl) (zaU T.law_mixed G_law_mixed hr rfl (zaa (pv 1) (zaa zag zad))))
  (zab (zcG PassesOwn.never rfl (zcR rfl T.b_range (zaa (zaq zbm (pv 4) zag) zad)) (zam (i:=5) zgJ.nd rfl (Or.inl rfl)) (zab (zaC (i:=4) zgJ.nd rfl (Or.inl rfl) (zaq zbm (zaq zen (zaq zaP (zaq zaP (pv 4) (pv 5)) zag) zag) zag))
  (zab (zaC (i:=6) zgJ.nd rfl (Or.inl rfl) (zaq zbm (zaq zcc (pv 4) zag) (zbh (zcD K rfl) rfl T.b_len zcH (zaa (pv 0) zad))))
  (zab (zaC (i:=7) zgJ.nd rfl (Or.inl rfl) (zaq zjb (zaG (zbA K rfl) (zaG (zav K rfl) (pv 0) (pv 6) (fun _ _=>rfl)) zag (fun _ _=>rfl)) (zaq zbm (zaq zcc (pv 4) zag) zag)))
  (zaf (zbe (PW.pt (zmE (zar znw (pv 7) zag (zao _)) (zko (zar zka (zaG (zav K rfl) (pv 3) (pv 6) (fun _ _=>rfl)) (zaG (zbA K rfl) (zaG (zav K rfl) (pv 0) (pv 6) (fun _ _=>rfl)) zag (fun _ _=>rfl)) (zao _))))) (zab (zeo (zaq zaP (zaG (zav K rfl) (pv 3) (pv 6) (fun _ _=>rfl)) zag) (zjk (pv 3) (pv 6) zeE))
  (zaf (zaH (zaY K rfl PySem.F.plainAttrs_list PySem.F.slot_list_append PySem.F.type_list_append zaN (pv 2) (zaa (zdW (zaa (pv 6) (zaa (pv 7) zad))) zad))))) zaB))))))
  (zaf (zat (pv 2))))))),?_⟩
 walk_at "rd"
 intro pf hpf
 have hs1:=zae hpf (.lst [])
 have h1f : upd H pf (.lst []) pf = some (.lst []):=upd_same
 generalize upd H pf (.lst []) = H1 at hs1 h1f ⊢
 walk_at "rd"
 intro p1 hp1
 have hs2:=zae hp1 (.lst [V.int 0])
 have h21 : upd H1 p1 (.lst [V.int 0]) p1 = some (.lst [V.int 0]):=upd_same
 generalize upd H1 p1 (.lst [V.int 0]) = H2 at hs2 h21 ⊢
 walk_at "rd"
 refine ⟨pc,_,rfl,.inl (SqL.of ((hs1.trans hs2) _ _ hc)),?_⟩
 refine ⟨p1,_,_,rfl,rfl,h21,by omega,by omega,zbG (by show 1 * _ <= _; omega),fun pu hpu=>?_⟩
 have efl : (List.replicate ((xs.length : Nat) : Int).toNat [V.int 0]).flatten = (List.replicate rs.length (0 : Int)).map V.int:=by
  rw [Int.toNat_natCast,hxl]
  generalize rs.length = n
  induction n with
  | zero=>rfl
  | succ n ih=>rw [List.replicate_succ,List.flatten_cons,ih,List.replicate_succ]; rfl
 rw [efl]
 have hs3:=zae hpu (.lst ((List.replicate rs.length (0 : Int)).map V.int))
 have h3u : upd H2 pu (.lst ((List.replicate rs.length (0 : Int)).map V.int)) pu = some (.lst ((List.replicate rs.length (0 : Int)).map V.int)):=upd_same
 generalize upd H2 pu (.lst ((List.replicate rs.length (0 : Int)).map V.int)) = H3 at hs3 h3u ⊢
 have hs03:=hs1.trans (hs2.trans hs3)
 have h3f:=(hs2.trans hs3) _ _ h1f
 have npu : H pu = none:=(hs1.trans hs2).free hpu
 have nfu : pf ≠ pu:=fun e=>by rw [<- e,hs2 _ _ h1f] at hpu; cases hpu
 walk_at "rd"
 refine ⟨_,_,rfl,by decide,by decide,fun f hf0 hf1=>?_⟩
 walk_at "rd"
 refine zdV (n:=(f % 9).toNat) (fun i σ H4=>∃ (nn : Int) (fv : List V) (bs : List (Int × Int)) (ls : List (List Mc.Mx)) (ah us : List Int) (v5 v6 v7 : Option V),σ = [some (.ref pc),some (.int z),some (.ref pf),some (.ref pu),some (.int nn),v5,v6,v7] /\ 0 <= nn /\ nn < 2147483647 /\ Same H H4 /\ H4 pf = some (.lst fv) /\ Paired (Two H4) fv bs /\ bs.length <= i /\ (∀ b ∈ bs,1 <= b.2 /\ b.2 < 128) /\ after rs bs bs.length = some (ls,ah) /\ H4 pu = some (.lst (us.map V.int)) /\ us.length = rs.length /\ ∀ (k : Nat) y,us[k]? = some y -> y = (ah.count (k : Int) : Int))
  ⟨f,[],[],zaQ rs,[],List.replicate rs.length 0,none,none,none,rfl,hf0,hf1,hs03,h3f,.nil,Nat.le_refl _,(fun b hb=>nomatch hb),zda rs [],h3u,List.length_replicate,?_⟩ ?_ ?_
 ·intro k y hy
  have:=List.eq_of_mem_replicate (List.mem_of_getElem? hy)
  rw [this]
  rfl
 ·rintro i σ H4 hi ⟨nn,fv,bs,ls,ah,us,v5,v6,v7,rfl,hn0,hn1,hs4,h4f,hfd,hbl,hbb,haf,h4u,hul,huc⟩
  have hc4:=hs4 _ _ hc
  have hm0:=Int.emod_nonneg ((nn + (0 + (i : Int)) + 1) * 69621) (show (2147483647 : Int) ≠ 0 by decide)
  have hm1:=Int.emod_lt_of_pos ((nn + (0 + (i : Int)) + 1) * 69621) (show (0 : Int) < 2147483647 by decide)
  have hk0:=Int.emod_nonneg (((nn + (0 + (i : Int)) + 1) * 69621 % 2147483647) / 9) (show (xs.length : Int) ≠ 0 by omega)
  have hk1:=Int.emod_lt_of_pos (((nn + (0 + (i : Int)) + 1) * 69621 % 2147483647) / 9) (show (0 : Int) < (xs.length : Int) by omega)
  obtain ⟨k,hk⟩:=Int.eq_ofNat_of_zero_le hk0
  have hkl : k < rs.length:=by omega
  have hrk : rs[k]? = some rs[k]:=List.getElem?_eq_getElem hkl
  generalize rs[k] = r at hrk
  have hxk : xs[k]? = some (xs[k]'(by omega)):=List.getElem?_eq_getElem _
  obtain ⟨r',hrk',t,et,ht⟩:=Cs.zaM hpd hxk
  rw [hrk] at hrk'
  cases hrk'
  rw [et] at hxk
  have EK : ∀ _ : Unit,atI xs (((nn + (0 + (i : Int)) + 1) * 69621 % 2147483647) / 9 % (xs.length : Int)) = some (.ref t):=fun _=>by rw [hk]; exact zaL hxk
  have huk : us[k]? = some (us[k]'(by omega)):=List.getElem?_eq_getElem _
  have huv:=huc k _ huk
  rw [huv] at huk
  have EU : ∀ _ : Unit,atI (us.map V.int) (((nn + (0 + (i : Int)) + 1) * 69621 % 2147483647) / 9 % (xs.length : Int)) = some (.int (ah.count (k : Int) : Int)):=fun _=>by rw [hk]; exact zaL (by rw [List.getElem?_map,huk]; rfl)
  have a2 : atI (Cs.rowV r) 2 = some (.int r.t):=rfl
  have a3 : atI (Cs.rowV r) 3 = some (.int r.n):=rfl
  have ht4:=hs4 _ _ ht
  have hth:=R.th r (List.mem_of_getElem? hrk)
  obtain ⟨w1,w2,w3⟩:=zmT hth (w:=((nn + (0 + (i : Int)) + 1) * 69621 % 2147483647) / 99 % 128) ⟨by omega,by omega⟩
  walk_at "rd"
  refine ⟨pc,_,rfl,.inl (SqL.of hc4),?_⟩
  refine ⟨_,_,rfl,rfl,by show (0 : Int) < (xs.length : Int); omega,?_⟩
  walk_at "rd"
  refine ⟨pc,_,_,_,rfl,rfl,SqL.of hc4,EK (),?_⟩
  refine ⟨t,_,_,_,rfl,rfl,SqT.of ht4,a2,?_⟩
  walk_at "rd"
  refine ite2 (fun c1=>?_) (fun c1=>?_)
  rotate_left
  ·try refine iteF ?_
   exact ⟨((nn + (0 + (i : Int)) + 1) * 69621 % 2147483647),fv,bs,ls,ah,us,_,_,_,rfl,hm0,hm1,hs4,h4f,hfd,by omega,hbb,haf,h4u,hul,huc⟩
  have c1 : 0 < (Builtin.bitAnd r.t (((nn + (0 + (i : Int)) + 1) * 69621 % 2147483647) / 99 % 128)):=of_decide_eq_true c1
  walk_at "rd"
  refine ⟨pu,_,_,_,rfl,rfl,SqL.of h4u,EU (),?_⟩
  walk_at "rd"
  refine ⟨pc,_,_,_,rfl,rfl,SqL.of hc4,EK (),?_⟩
  refine ⟨t,_,_,_,rfl,rfl,SqT.of ht4,a3,?_⟩
  walk_at "rd"
  refine ite2 (fun c2=>?_) (fun c2=>?_)
  rotate_left
  ·exact ⟨((nn + (0 + (i : Int)) + 1) * 69621 % 2147483647),fv,bs,ls,ah,us,_,_,_,rfl,hm0,hm1,hs4,h4f,hfd,by omega,hbb,haf,h4u,hul,huc⟩
  have c2 : (ah.count (k : Int) : Int) < r.n:=of_decide_eq_true c2
  have hcb : zaA rs ah (k : Int) (Builtin.bitAnd r.t (((nn + (0 + (i : Int)) + 1) * 69621 % 2147483647) / 99 % 128)) = true:=zsS hrk c2 (by omega) w1
  walk_at "rd"
  refine ⟨pu,_,_,_,rfl,rfl,SqL.of h4u,EU (),?_⟩
  walk_at "rd"
  refine ⟨pu,us.map V.int,_,k,rfl,rfl,h4u,by rw [hk]; exact zlH (by rw [List.length_map]; omega),?_⟩
  have hs5 : Same H (upd H4 pu (.lst ((us.map V.int).set k (.int ((ah.count (k : Int) : Int) + 1))))):=zap hs4 npu
  have h5u : upd H4 pu (.lst ((us.map V.int).set k (.int ((ah.count (k : Int) : Int) + 1)))) pu = some (.lst ((us.set k ((ah.count (k : Int) : Int) + 1)).map V.int)):=by rw [upd_same,List.map_set]
  have h5f : upd H4 pu (.lst ((us.map V.int).set k (.int ((ah.count (k : Int) : Int) + 1)))) pf = some (.lst fv):=by rw [zai nfu]; exact h4f
  have hf5 : Paired (Two (upd H4 pu (.lst ((us.map V.int).set k (.int ((ah.count (k : Int) : Int) + 1)))))) fv bs:=Paired.mapP hfd fun _ _ ⟨b,e1,e2⟩=>⟨b,e1,by rw [zai (zbi e2 h4u fun z=>by cases z)]; exact e2⟩
  dsimp only
  generalize upd H4 pu (.lst ((us.map V.int).set k (.int ((ah.count (k : Int) : Int) + 1)))) = H5 at hs5 h5u h5f hf5 ⊢
  have hfl:=Paired.length hf5
  have hbl8 : bs.length <= 8:=by omega
  walk_at "rd"
  refine ⟨.inl ⟨rfl,_,SqL.of h5f⟩,?_⟩
  walk_at "rd"
  intro tn htn
  have hs6:=zae htn (.tup [.int (((nn + (0 + (i : Int)) + 1) * 69621 % 2147483647) / 9 % (xs.length : Int)),.int (Builtin.bitAnd r.t (((nn + (0 + (i : Int)) + 1) * 69621 % 2147483647) / 99 % 128))])
  have h6n : upd H5 tn (.tup [.int (((nn + (0 + (i : Int)) + 1) * 69621 % 2147483647) / 9 % (xs.length : Int)),.int (Builtin.bitAnd r.t (((nn + (0 + (i : Int)) + 1) * 69621 % 2147483647) / 99 % 128))]) tn = some (.tup [.int (k : Int),.int (Builtin.bitAnd r.t (((nn + (0 + (i : Int)) + 1) * 69621 % 2147483647) / 99 % 128))]):=by rw [upd_same,hk]
  dsimp only
  generalize upd H5 tn (.tup [.int (((nn + (0 + (i : Int)) + 1) * 69621 % 2147483647) / 9 % (xs.length : Int)),.int (Builtin.bitAnd r.t (((nn + (0 + (i : Int)) + 1) * 69621 % 2147483647) / 99 % 128))]) = H6 at hs6 h6n ⊢
  have h6f:=hs6 _ _ h5f
  have h6u:=hs6 _ _ h5u
  have hf6:=zcj hf5 hs6
  refine ⟨pf,fv,_,rfl,rfl,h6f,zbb (by omega),?_⟩
  have ecnt : ∀ j : Nat,(ah ++ [(k : Int)]).count (j : Int) = ah.count (j : Int) + (if k = j then 1 else 0):=fun j=>by
   rw [List.count_append,List.count_singleton]
   congr 1
   by_cases e : k = j
   ·subst e
    rw [if_pos rfl,if_pos (beq_self_eq_true _)]
   ·rw [if_neg e,if_neg (fun z=>e (by have:=eq_of_beq z; omega))]
  refine ⟨((nn + (0 + (i : Int)) + 1) * 69621 % 2147483647),fv ++ [.ref tn],bs ++ [((k : Int),(Builtin.bitAnd r.t (((nn + (0 + (i : Int)) + 1) * 69621 % 2147483647) / 99 % 128)))],setLane rs ls ah ((k : Int),(Builtin.bitAnd r.t (((nn + (0 + (i : Int)) + 1) * 69621 % 2147483647) / 99 % 128))),ah ++ [(k : Int)],us.set k ((ah.count (k : Int) : Int) + 1),_,_,_,rfl,hm0,hm1,zap (hs5.trans hs6) hpf,upd_same,?_,by rw [List.length_append]; show bs.length + 1 <= i + 1; omega,fun b hb=>?_,zjY (b:=((k : Int),(Builtin.bitAnd r.t (((nn + (0 + (i : Int)) + 1) * 69621 % 2147483647) / 99 % 128)))) haf hcb,by rw [zai (Ne.symm nfu)]; exact h6u,by rw [List.length_set]; exact hul,?_⟩
  ·exact Paired.snoc (Paired.mapP hf6 fun _ _ ⟨b,e1,e2⟩=>⟨b,e1,by rw [zai (zbi e2 h6f fun z=>by cases z)]; exact e2⟩) ⟨tn,rfl,by rw [zai (zbi h6n h6f fun z=>by cases z)]; exact h6n⟩
  ·rcases List.mem_append.mp hb with hb | hb
   ·exact hbb b hb
   ·rw [List.mem_singleton.mp hb]
    exact ⟨by show 1 <= (Builtin.bitAnd r.t (((nn + (0 + (i : Int)) + 1) * 69621 % 2147483647) / 99 % 128)); omega,w3⟩
  ·intro j y hy
   rw [List.getElem?_set] at hy
   rw [ecnt j]
   split at hy
   ·rename_i e
    subst e
    split at hy
    ·have hy:=Option.some.inj hy
     rw [<- hy,if_pos rfl]
     rfl
    ·cases hy
   ·rename_i e
    rw [if_neg e]
    exact huc j y hy
 ·rintro σ H4 ⟨nn,fv,bs,ls,ah,us,v5,v6,v7,rfl,hn0,hn1,hs4,h4f,hfd,hbl,hbb,haf,h4u,hul,huc⟩
  walk_at "rd"
  exact q pf fv bs ls H4 hpf hs4 h4f hfd (by omega) hbb (.good haf)
def zhr (K : PySem.W.Frag) : Sp:=fun vs H Q _=>∃ (c b : Addr) (xs bv : List V) (rs : List Cs.Row) (bs : List (Int × Int)) (lt : List (List Mc.Mx)),vs = [.ref c,.ref b] /\ H c = some (.lst xs) /\ Paired (Cs.zcf H) xs rs /\ rs.length <= 100 /\ (∀ r ∈ rs,0 <= r.n /\ r.n <= 1000) /\ H b = some (.lst bv) /\ Paired (Two H) bv bs /\ bs.length <= 1000 /\ Told40 rs bs (.inr lt) /\
 (∀ (D : Addr) (zs : List V) H',H D = none -> Same H H' -> H' D = some (.lst zs) -> Paired (Lan.zbZ H D H') zs lt -> zs.Nodup -> Q (.ref D) H')
theorem zhB (T : Tx K mg a) : FnOk P w K mg base CX0 1 a.f_law_lanes a.d_law_lanes ["_law_case_here","_law_broken_here"] (zhr K):=by
 refine T.law_lanes.fn.ok zhG (fun vs H Q E h=>?_) (fun cdv A outer s H vs Q E hr h=>?_)
 ·obtain ⟨c,b,xs,bv,rs,bs,lt,rfl,_⟩:=h
  rfl
 obtain ⟨c,b,xs,bv,rs,bs,lt,rfl,hc,hpd,hrl,hrn,hb,hbd,hbl,htd,q⟩:=h
 have hxl:=Cs.zaZ hpd
 have hbvl:=Paired.length hbd
 refine ⟨_,(zab (zks (i:=2) zhG.nd rfl (Or.inl rfl) rfl (zaO K rfl (pv 0)) (BlkOk.of (N':=["_law_case_here","_law_broken_here","_law_lanes_here","_law_used","_law_channel","_law_lost","_law_sign","_law_width","_law_teeth_here","_law_many"]) (ms:=[]) (k:=4) (by rfl)) (fun _ _ _ _ _=>(zbv K rfl (n:=4) rfl (zan (zam (i:=6) (show List.Nodup (["_law_case_here","_law_broken_here","_law_lanes_here","_law_used","_law_channel","_law_lost","_law_sign","_law_width","_law_teeth_here","_law_many"] : List Str) from by decide +kernel) rfl (Or.inl rfl)) (zan (zam (i:=7) (show List.Nodup (["_law_case_here","_law_broken_here","_law_lanes_here","_law_used","_law_channel","_law_lost","_law_sign","_law_width","_law_teeth_here","_law_many"] : List Str) from by decide +kernel) rfl (Or.inl rfl)) (zan (zam (i:=8) (show List.Nodup (["_law_case_here","_law_broken_here","_law_lanes_here","_law_used","_law_channel","_law_lost","_law_sign","_law_width","_law_teeth_here","_law_many"] : List Str) from by decide +kernel) rfl (Or.inl rfl)) (zan (zam (i:=9) (show List.Nodup (["_law_case_here","_law_broken_here","_law_lanes_here","_law_used","_law_channel","_law_lost","_law_sign","_law_width","_law_teeth_here","_law_many"] : List Str) from by decide +kernel) rfl (Or.inl rfl)) zbs)))))) (fun _ _ _ _ _=>zbH) (fun _ _ _ _ _=>(zaq zjh (zax (zaa (zdW (zaa (pv 6) (zaa (pv 8) zad))) zad)) (pv 9))))
  (zab (zaC (i:=3) zhG.nd rfl (Or.inl rfl) (zaq zjh (zax (zaa zag zad)) (zbh (zcD K rfl) rfl T.b_len zcH (zaa (pv 0) zad))))
  (zab (zcG PassesOwn.never rfl (zaO K rfl (pv 1)) (zbv K rfl (n:=2) rfl (zan (zam (i:=4) zhG.nd rfl (Or.inl rfl)) (zan (zam (i:=5) zhG.nd rfl (Or.inl rfl)) zbs))) (zab (zeo (zdW (zaa (zaG (zbA K rfl) (zaG (zav K rfl) (pv 0) (pv 4) (fun _ _=>rfl)) zag (fun _ _=>rfl)) (zaa (zaq zhy (zaG (zbA K rfl) (zaG (zav K rfl) (pv 0) (pv 4) (fun _ _=>rfl)) zag (fun _ _=>rfl)) (pv 5)) zad))) (zjk (zaG (zav K rfl) (pv 2) (pv 4) (fun _ _=>rfl)) (zaG (zav K rfl) (pv 3) (pv 4) (fun _ _=>rfl)) zeE))
  (zaf (zeo (zaq zaP (zaG (zav K rfl) (pv 3) (pv 4) (fun _ _=>rfl)) zag) (zjk (pv 3) (pv 4) zeE)))))
  (zaf (zat (pv 2)))))),?_⟩
 walk_at "rd"
 refine ⟨⟨_,SqL.of hc⟩,fun D hD=>?_⟩
 refine zaI (a:=c) (xs:=xs) (fun j zs σ H2=>∃ (w8 w9 w11 w12 : Option V),σ = [some (.ref c),some (.ref b),none,none,none,none,w8,w9,w11,w12] /\ Same H H2 /\ H2 D = some (.lst zs) /\ Paired (Lan.zbZ H D H2) zs ((zaQ rs).take j) /\ zs.Nodup)
  ?_ ?_ ?_ ?_
 ·exact ⟨none,none,none,none,rfl,zae hD _,upd_same,.nil,List.nodup_nil⟩
 ·rintro j zs σ H2 hj ⟨_,_,_,_,_,hs,_⟩
  exact hs.seq (SqL.of hc)
 ·rintro j y zs σ H2 hy hjl ⟨w8,w9,w11,w12,rfl,hs2,hh2,hz2,hzn⟩
  obtain ⟨r,hrj,t,rfl,ht⟩:=Cs.zaM hpd hy
  have hrb:=hrn r (List.mem_of_getElem? hrj)
  have hzl:=Paired.length hz2
  rw [List.length_take] at hzl
  refine ⟨_,_,rfl,SqT.of (hs2 _ _ ht),rfl,?_⟩
  walk_at "tg"
  walk_at "tg"
  walk_at "tg"
  walk_at "tg"
  try refine And.intro rfl ?_
  walk_at "rd"
  intro pt hpt
  have hs3:=zae hpt (.tup [.str r.s,.int r.t])
  have h3t : upd H2 pt (.tup [.str r.s,.int r.t]) pt = some (.tup [.str r.s,.int r.t]):=upd_same
  generalize upd H2 pt (.tup [.str r.s,.int r.t]) = H3 at hs3 h3t ⊢
  walk_at "rd"
  intro p1 hp1
  have hs4:=zae hp1 (.lst [.ref pt])
  have h41 : upd H3 p1 (.lst [.ref pt]) p1 = some (.lst [.ref pt]):=upd_same
  generalize upd H3 p1 (.lst [.ref pt]) = H4 at hs4 h41 ⊢
  walk_at "rd"
  refine ⟨p1,_,_,rfl,rfl,h41,by omega,by omega,zbG (by show 1 * r.n.toNat <= _; omega),fun p2 hp2=>?_⟩
  have efl : (List.replicate r.n.toNat [V.ref pt]).flatten = List.replicate r.n.toNat (V.ref pt):=by
   generalize r.n.toNat = n
   induction n with
   | zero=>rfl
   | succ n ih=>rw [List.replicate_succ,List.flatten_cons,ih]; rfl
  rw [efl]
  have hs5:=zae hp2 (.lst (List.replicate r.n.toNat (V.ref pt)))
  have h52 : upd H4 p2 (.lst (List.replicate r.n.toNat (V.ref pt))) p2 = some (.lst (List.replicate r.n.toNat (V.ref pt))):=upd_same
  generalize upd H4 p2 (.lst (List.replicate r.n.toNat (V.ref pt))) = H5 at hs5 h52 ⊢
  have hs25:=hs3.trans (hs4.trans hs5)
  have hh5:=hs25 _ _ hh2
  have hpD : p2 ≠ D:=fun e=>by rw [e,(hs3.trans hs4) _ _ hh2] at hp2; cases hp2
  have hp20 : H2 p2 = none:=hs3.free (hs4.free hp2)
  refine zcK hjl hh5 (by omega) ⟨_,_,_,_,rfl,zap (hs2.trans hs25) hD,upd_same,?_,?_⟩
  ·have e0 : (zaQ rs)[j]? = some (List.replicate r.n.toNat (r.s,r.t)):=by
    unfold zaQ
    rw [List.getElem?_map,hrj]
    rfl
   rw [List.take_add_one,e0]
   refine Paired.snoc (Lan.ziW (Lan.zbx hz2 hs25) hh5) ⟨p2,_,rfl,hpD,hs2.free hp20,by rw [zai hpD]; exact h52,Lan.zcb (Lan.zgu ⟨pt,rfl,(hs4.trans hs5) _ _ h3t⟩ _) hh5⟩
  ·rw [List.nodup_append]
   refine ⟨hzn,by simp,fun x hx y hy=>?_⟩
   rw [List.mem_singleton.mp hy]
   exact fun e=>Lan.zdO hz2 hp20 (e ▸ hx)
 ·rintro zs σ H2 ⟨w8,w9,w11,w12,rfl,hs2,hh2,hz2,hzn⟩
  rw [hxl,List.take_of_length_le (by unfold zaQ; rw [List.length_map]; exact Nat.le_refl _)] at hz2
  walk_at "rd"
  intro p1 hp1
  have hs3a:=zae hp1 (.lst [V.int 0])
  have h31 : upd H2 p1 (.lst [V.int 0]) p1 = some (.lst [V.int 0]):=upd_same
  generalize upd H2 p1 (.lst [V.int 0]) = H3a at hs3a h31 ⊢
  refine ⟨_,rfl,?_⟩
  refine ⟨c,_,rfl,.inl (SqL.of ((hs2.trans hs3a) _ _ hc)),?_⟩
  refine ⟨p1,_,_,rfl,rfl,h31,by omega,by omega,zbG (by show 1 * _ <= _; omega),fun ph hph'=>?_⟩
  have efl : (List.replicate ((xs.length : Nat) : Int).toNat [V.int 0]).flatten = (List.replicate rs.length (0 : Int)).map V.int:=by
   rw [Int.toNat_natCast,hxl]
   generalize rs.length = n
   induction n with
   | zero=>rfl
   | succ n ih=>rw [List.replicate_succ,List.flatten_cons,ih,List.replicate_succ]; rfl
  rw [efl]
  have hph : H2 ph = none:=hs3a.free hph'
  have hs3:=hs3a.trans (zae hph' (.lst ((List.replicate rs.length (0 : Int)).map V.int)))
  have h3h : upd H3a ph (.lst ((List.replicate rs.length (0 : Int)).map V.int)) ph = some (.lst ((List.replicate rs.length (0 : Int)).map V.int)):=upd_same
  generalize upd H3a ph (.lst ((List.replicate rs.length (0 : Int)).map V.int)) = H3 at hs3 h3h ⊢
  have hphz : V.ref ph ∉ zs:=Lan.zdO hz2 hph
  have hphD : ph ≠ D:=fun e=>by rw [e,hh2] at hph; cases hph
  have hph0 : H ph = none:=hs2.free hph
  have hb3:=(hs2.trans hs3) _ _ hb
  refine ⟨_,rfl,?_⟩
  refine ⟨b,rfl,⟨_,SqL.of hb3⟩,?_⟩
  refine zjm (a:=b) (xs:=bv) (fun i σ H4=>∃ (ls : List (List Lan.Mx)) (ah us : List Int) (v4 v5 : Option V),σ = [some (.ref c),some (.ref b),some (.ref D),some (.ref ph),v4,v5] /\ Same H H4 /\ H4 D = some (.lst zs) /\ Paired (Lan.zbZ H D H4) zs ls /\ H4 ph = some (.lst (us.map V.int)) /\ after rs bs i = some (ls,ah) /\ us.length = rs.length /\ (∀ (k : Nat) z,us[k]? = some z -> z = (ah.count (k : Int) : Int)) /\ (∀ (k : Nat) m r,ls[k]? = some m -> rs[k]? = some r -> m.length = r.n.toNat))
   ⟨zaQ rs,[],List.replicate rs.length 0,none,none,rfl,hs2.trans hs3,hs3 _ _ hh2,Lan.zbx hz2 hs3,h3h,zda rs bs,List.length_replicate,?_,?_⟩ (fun i σ H4 _ ⟨_,_,_,_,_,_,hs,_⟩=>hs.seq (SqL.of hb)) ?_ ?_
  ·intro k z hz
   have:=List.eq_of_mem_replicate (List.mem_of_getElem? hz)
   rw [this]
   rfl
  ·intro k m r hm hr
   unfold zaQ at hm
   rw [List.getElem?_map,hr] at hm
   have hm : List.replicate r.n.toNat (r.s,r.t) = m:=Option.some.inj hm
   rw [<- hm,List.length_replicate]
  ·rintro i y σ H5 hy ⟨ls,ah,us,v4,v5,rfl,hs05,hD4,hz4,hp4,haf,hul,huc,hlen⟩
   obtain ⟨bb,hbi,tp,rfl,htp⟩:=Cs.zaM hbd hy
   have hcb : zaA rs ah bb.1 bb.2 = true:=by
    cases e : zaA rs ah bb.1 bb.2 with
    | true=>rfl
    | false=>exact absurd (Told40.uniq (.bad haf hbi e) htd) (by intro z; cases z)
   obtain ⟨k,r,hk1,hrk,hcnt⟩:=zkp hcb
   have hkl : k < rs.length:=(List.getElem?_eq_some_iff.mp hrk).1
   have hxk : xs[k]? = some (xs[k]'(by omega)):=List.getElem?_eq_getElem _
   obtain ⟨r',hrk',t,et,ht⟩:=Cs.zaM hpd hxk
   rw [hrk] at hrk'
   cases hrk'
   rw [et] at hxk
   have EK : ∀ _ : Unit,atI xs bb.1 = some (.ref t):=fun _=>by rw [hk1]; exact zaL hxk
   have huk : us[k]? = some (us[k]'(by omega)):=List.getElem?_eq_getElem _
   have huv:=huc k _ huk
   rw [huv] at huk
   have EU : ∀ _ : Unit,atI (us.map V.int) bb.1 = some (.int (ah.count (k : Int) : Int)):=fun _=>by rw [hk1]; exact zaL (by rw [List.getElem?_map,huk]; rfl)
   have hsA:=Same.refl H5
   have hzl:=Paired.length hz4
   obtain ⟨hzk,m,hmk⟩ : k < zs.length /\ ∃ m,ls[k]? = some m:=by
    have h1 : (zaQ rs).length = rs.length:=List.length_map _
    have h2:=Paired.length hz2
    exact ⟨by omega,ls[k]'(by omega),List.getElem?_eq_getElem _⟩
   have hzk' : zs[k]? = some zs[k]:=List.getElem?_eq_getElem hzk
   obtain ⟨m',hmk',p,ms0,ep,hpD,hp0,hp4',hpm⟩:=Cs.zaM hz4 hzk'
   rw [hmk] at hmk'
   cases hmk'
   rw [ep] at hzk'
   have EZ : ∀ _ : Unit,atI zs bb.1 = some (.ref p):=fun _=>by rw [hk1]; exact zaL hzk'
   have hml:=hlen k m r hmk hrk
   have hmsl:=Paired.length hpm
   have hpph : p ≠ ph:=fun e=>hphz (by rw [<- e]; exact List.mem_of_getElem? hzk')
   have hD6:=hsA _ _ hD4
   have hph6:=hsA _ _ hp4
   have hp6:=hsA _ _ hp4'
   have hz6:=Lan.zbx hz4 hsA
   have hpm6:=Lan.zbF hpm hsA
   have htp5:=hs05 _ _ htp
   walk_at "rd"
   walk_at "tg"
   walk_at "tg"
   try refine And.intro rfl ?_
   have a0 : atI (Cs.rowV r) 0 = some (.str r.s):=rfl
   have a2 : atI (Cs.rowV r) 2 = some (.int r.t):=rfl
   walk_at "rd"
   refine ⟨c,_,_,_,rfl,rfl,SqL.of (hs05 _ _ hc),EK (),?_⟩
   refine ⟨t,_,_,_,rfl,rfl,SqT.of (hs05 _ _ ht),a0,?_⟩
   walk_at "rd"
   refine ⟨c,_,_,_,rfl,rfl,SqL.of (hs05 _ _ hc),EK (),?_⟩
   refine ⟨t,_,_,_,rfl,rfl,SqT.of (hs05 _ _ ht),a2,?_⟩
   walk_at "rd"
   intro tn htn
   have hs67:=zae htn (HO.tup [V.str r.s,V.int (r.t - bb.2)])
   have h7n : upd H5 tn (HO.tup [V.str r.s,V.int (r.t - bb.2)]) tn = some (.tup [.str r.s,.int (r.t - bb.2)]):=upd_same
   dsimp only
   generalize upd H5 tn (HO.tup [V.str r.s,V.int (r.t - bb.2)]) = H7 at hs67 h7n ⊢
   have hs07:=hs05.trans hs67
   have hD7:=hs67 _ _ hD6
   have hph7:=hs67 _ _ hph6
   have hp7:=hs67 _ _ hp6
   have hz7:=Lan.zbx hz6 hs67
   have hpm7:=Lan.zbF hpm6 hs67
   have hcnt' : ah.count (k : Int) < ms0.length:=by rw [hk1] at hcnt; omega
   walk_at "rd"
   refine ⟨D,_,_,_,rfl,rfl,SqL.of hD7,EZ (),?_⟩
   walk_at "rd"
   refine ⟨ph,_,_,_,rfl,rfl,SqL.of hph7,EU (),?_⟩
   refine ⟨p,ms0,_,ah.count (k : Int),rfl,rfl,hp7,zlH hcnt',?_⟩
   have hm8 : Paired (Lan.zbn (upd H7 p (.lst (ms0.set (ah.count (k : Int)) (.ref tn))))) (ms0.set (ah.count (k : Int)) (.ref tn)) (m.set (ah.count (k : Int)) (r.s,r.t - bb.2)):=Lan.zll ⟨tn,rfl,by rw [zai (zbi h7n hp7 (fun q=>by cases q))]; exact h7n⟩ _ (Lan.zcb hpm7 hp7)
   have hz8:=Lan.lanes_set k hz7 hzn hzk' hp7 hm8 hpD hp0
   have hs08 : Same H (upd H7 p (.lst (ms0.set (ah.count (k : Int)) (.ref tn)))):=zap hs07 hp0
   have hD8 : upd H7 p (.lst (ms0.set (ah.count (k : Int)) (.ref tn))) D = some (.lst zs):=by rw [zai (Ne.symm hpD)]; exact hD7
   have hph8 : upd H7 p (.lst (ms0.set (ah.count (k : Int)) (.ref tn))) ph = some (.lst (us.map V.int)):=by rw [zai (Ne.symm hpph)]; exact hph7
   generalize upd H7 p (.lst (ms0.set (ah.count (k : Int)) (.ref tn))) = H8 at hz8 hs08 hD8 hph8 ⊢
   walk_at "rd"
   refine ⟨ph,_,_,_,rfl,rfl,SqL.of hph8,EU (),?_⟩
   walk_at "rd"
   refine ⟨ph,us.map V.int,_,k,rfl,rfl,hph8,by rw [hk1]; exact zlH (by rw [List.length_map]; omega),?_⟩
   have hsl : setLane rs ls ah bb = ls.set k (m.set (ah.count (k : Int)) (r.s,r.t - bb.2)):=by
    unfold setLane
    rw [hk1,Int.toNat_natCast,hrk,hmk]
   have ecnt : ∀ j : Nat,(ah ++ [(k : Int)]).count (j : Int) = ah.count (j : Int) + (if k = j then 1 else 0):=fun j=>by
    rw [List.count_append,List.count_singleton]
    congr 1
    by_cases e : k = j
    ·subst e
     rw [if_pos rfl,if_pos (beq_self_eq_true _)]
    ·rw [if_neg e,if_neg (fun z=>e (by have:=eq_of_beq z; omega))]
   refine ⟨ls.set k (m.set (ah.count (k : Int)) (r.s,r.t - bb.2)),ah ++ [(k : Int)],us.set k ((ah.count (k : Int) : Int) + 1),_,_,rfl,zap hs08 hph0,by rw [zai (Ne.symm hphD)]; exact hD8,Lan.lanes_set.lanes_else hz8 hphz hph8,by rw [upd_same,List.map_set],?_,by rw [List.length_set]; exact hul,?_,?_⟩
   ·rw [zcr hbi,haf]
    show (if zaA rs ah bb.1 bb.2 = true then some (setLane rs ls ah bb,ah ++ [bb.1]) else none) = _
    rw [if_pos hcb,hsl,hk1]
   ·intro j z hz
    rw [List.getElem?_set] at hz
    rw [ecnt j]
    split at hz
    ·rename_i e
     subst e
     split at hz
     ·have hz:=Option.some.inj hz
      rw [<- hz,if_pos rfl]
      rfl
     ·cases hz
    ·rename_i e
     rw [if_neg e]
     exact huc j z hz
   ·intro k' m' r' hm' hr'
    rw [List.getElem?_set] at hm'
    split at hm'
    ·rename_i e
     subst e
     split at hm'
     ·have hm':=Option.some.inj hm'
      rw [<- hm',List.length_set]
      exact hlen k m r' hmk hr'
     ·cases hm'
    ·exact hlen k' m' r' hm' hr'
  ·rintro σ H4 ⟨ls,ah,us,v4,v5,rfl,hs4,hD4,hz4,hp4,haf,hul,huc,hlen⟩
   rw [hbvl] at haf
   have e : ls = lt:=Sum.inr.inj (Told40.uniq (.good haf) htd)
   walk_at "rd"
   exact q D zs H4 hD hs4 hD4 (e ▸ hz4) hzn
theorem zlh : ∀ c ∈ Cs.signs,c < 128:=by decide +kernel
theorem zuW {c : Mc.Cf} (O : Mc.OkC c) (h : ∀ r ∈ c.rs,∃ z ∈ Cs.signs,r.s = sg z) : As c:=fun k hk=>by
 rcases O.known k hk with z | z | ⟨z,_,_⟩
 ·omega
 ·omega
 ·obtain ⟨j,hj⟩:=Option.isSome_iff_exists.mp z
  obtain ⟨p1,_⟩:=zgr hj
  rw [List.getElem?_map] at p1
  obtain ⟨r,hr,e⟩:=Option.map_eq_some_iff.mp p1
  obtain ⟨y,hy,e2⟩:=h r (List.mem_of_getElem? hr)
  have e3 : sg y = sg k:=e2.symm.trans e
  have e4 : y = k:=by simpa [sg] using e3
  rw [<- e4]
  exact zlh y hy
def twoD (b : Int × Int) : PyData:=.tuple [.int b.1,.int b.2]
theorem zgd {K : PySem.W.Frag} {H : Hp} : ∀ {xs : List V} {bs : List (Int × Int)},Paired (Two H) xs bs -> DenL K H xs (bs.map twoD)
 | _,_,.nil=>.nil
 | _,_,.cons ⟨a,e,z⟩ r=>by subst e; exact .cons (.tup (SqT.of z) (.cons (.int _) (.cons (.int _) .nil))) (zgd r)
theorem zjG (rs : List Cs.Row) (bs : List (Int × Int)) : min (PyData.list [Cs.zjM rs,.list (bs.map twoD)]).depth (PyData.list [Cs.zjM rs,.list (bs.map twoD)]).depth <= 64:=by
 have q1 : (Cs.zjM rs).depth = PyData.depthAll (rs.map Cs.rowD) + 1:=rfl
 have q2 : (PyData.list (bs.map twoD)).depth = PyData.depthAll (bs.map twoD) + 1:=rfl
 have q : (PyData.list [Cs.zjM rs,.list (bs.map twoD)]).depth = max (Cs.zjM rs).depth (max (PyData.list (bs.map twoD)).depth 0) + 1:=rfl
 have h1:=Cs.zfJ rs
 have h2:=Mc.zcN twoD 1 (fun _=>Nat.le_refl _) bs
 omega
theorem zdL {H : Hp} {g : Addr} {ys : List V} {o : HO} (h : H g = some (.lst ys)) : Mc.Step g ⟨g,g,g,g,g,g,[]⟩ H ⟨g,g,g,g,g,g,[]⟩ (upd H g o):=Mc.Step.lst (by unfold Mc.Adr.all; simp) h
theorem zck {g x : Addr} (h : x ∈ (⟨g,g,g,g,g,g,[]⟩ : Mc.Adr).all) : x = g:=by
 unfold Mc.Adr.all at h
 simpa using h
theorem znC {c : Mc.Cf} {H H' : Hp} {p q : Addr} {A A' B : Mc.Adr} {m : Mc.Ms} (h : Mc.Sep p A q B) (s : Mc.Step p A H A' H') (N : Mc.Now c H q B m) : Mc.Sep p A' q B:=by
 refine ⟨h.pq,h.pB,fun z=>?_,fun a ha hb=>?_⟩
 ·rcases s.nw q z with z | z
  ·exact h.qA z
  ·rw [N.dic] at z
   cases z
 ·rcases s.nw a ha with z | z
  ·exact h.AB a z hb
  ·obtain ⟨xs,e⟩:=N.li.is a hb
   rw [e] at z
   cases z
def sp_law (K : PySem.W.Frag) : Sp:=fun vs H Q _=>∃ (l : Addr) (ns : List Int),vs = [.ref l] /\ SqL K H l (ns.map V.int) /\ ns.length <= 63 /\ ∀ H',Q (.bl true) H'
theorem ok_law (T : Tx K mg a) : FnOk P w K mg base CX0 lawLevel a.f_law a.d_law ["_law_script"] (sp_law K):=by
 have G_law_case:=ziB (P:=P) (w:=w) (base:=base) T
 have G_law_cell_at:=zds (P:=P) (w:=w) (base:=base) T
 have G_law_lines:=zgT (P:=P) (w:=w) (base:=base) T
 have G_law_keys:=zid (P:=P) (w:=w) (base:=base) T
 have G_law_turned:=zga (P:=P) (w:=w) (base:=base) T
 have G_law_broken:=zfZ (P:=P) (w:=w) (base:=base) T
 have G_law_lanes:=zhB (P:=P) (w:=w) (base:=base) T
 have G_law_begin:=zhV (P:=P) (w:=w) (base:=base) T
 have G_law_same:=ziV (P:=P) (w:=w) (base:=base) T
 have G_law_tick:=zie (P:=P) (w:=w) (base:=base) T
 have G_Machine_init:=zfa (P:=P) (w:=w) (base:=base) T
 have G_Machine_tick:=zeP (P:=P) (w:=w) (base:=base) T
 refine T.law.fn.ok zpw (fun vs H Q E h=>?_) (fun cdv A outer s H vs Q E hr h=>?_)
 ·obtain ⟨l,ns,rfl,_⟩:=h
  rfl
 obtain ⟨l,ns,rfl,hS,hl,q⟩:=h
 refine ⟨_,(zab (zaC (i:=1) zpw.nd rfl (Or.inl rfl) (zaU T.law_turned G_law_turned hr rfl (zaa (zaU T.law_case G_law_case hr rfl (zaa (pv 0) (zaa zag zad))) (zaa (zaU T.law_cell_at G_law_cell_at hr rfl (zaa (pv 0) (zaa zag zad))) zad))))
  (zab (zaC (i:=2) zpw.nd rfl (Or.inl rfl) (zaU T.law_broken G_law_broken hr rfl (zaa (pv 1) (zaa (zaq zcc (zaU T.law_cell_at G_law_cell_at hr rfl (zaa (pv 0) (zaa zag zad))) zag) zad))))
  (zab (zaC (i:=3) zpw.nd rfl (Or.inl rfl) (zaU T.law_keys G_law_keys hr rfl (zaa (zaU T.law_lines G_law_lines hr rfl (zaa (zgI (zgN K rfl) (pv 0) (zgL zag) (zgL zag)) (zaa (pv 1) zad))) zad)))
  (zab (zaC (i:=4) zpw.nd rfl (Or.inl rfl) (zaq zaP zag (zaq zbm (zaU T.law_cell_at G_law_cell_at hr rfl (zaa (pv 0) (zaa zag zad))) zag)))
  (zab (zaC (i:=5) zpw.nd rfl (Or.inl rfl) (zax (zaa (zbR (zcg K rfl) rfl T.b_list zcU (zaa (pv 1) zad)) (zaa (zbR (zcg K rfl) rfl T.b_list zcU (zaa (pv 2) zad)) zad))))
  (zab (zaC (i:=6) zpw.nd rfl (Or.inl rfl) (zuJ T.Machine G_Machine_init hr rfl (zaa (zaG (zav K rfl) (pv 5) zag (fun _ _=>rfl)) (zaa (pv 3) (zaa (pv 4) (zaa (zaG (zav K rfl) (pv 5) zag (fun _ _=>rfl)) zad))))))
  (zab (zaC (i:=7) zpw.nd rfl (Or.inl rfl) (zaU T.law_begin G_law_begin hr rfl (zaa (zaU T.law_lanes G_law_lanes hr rfl (zaa (pv 1) (zaa (pv 2) zad))) (zaa (pv 3) (zaa (pv 4) zad)))))
  (zab (zbe (PW.pt (zgs (zfC (zcq (zaU T.law_same G_law_same hr rfl (zaa (pv 6) (zaa (pv 1) (zaa (pv 7) zad)))))) (zeO (zar (kneD K rfl hr.units) (pv 5) (zax (zaa (pv 1) (zaa (pv 2) zad))) (zao _))))) (zaf (zat zev)) zaB)
  (zab (zaH (zkX K rfl PySem.F.plainAttrs_list PySem.F.slot_list_clear PySem.F.type_list_clear zje (zaG (zav K rfl) (pv 5) zag (fun _ _=>rfl))))
  (zab (zaH (zkX K rfl PySem.F.plainAttrs_list PySem.F.slot_list_clear PySem.F.type_list_clear zje (zaG (zav K rfl) (pv 5) zag (fun _ _=>rfl))))
  (zab (zgG PassesOwn.never (zcq (zaU T.law_tick G_law_tick hr rfl (zaa (pv 1) (zaa (pv 7) zad)))) (zaf (zbe (PW.pt (zgs (zmJ (znF (zbg (K:=K) rfl T.Machine.cl T.Machine_tick G_Machine_tick hr zcQ (pv 6)))) (zeO (zfC (zcq (zaU T.law_same G_law_same hr rfl (zaa (pv 6) (zaa (pv 1) (zaa (pv 7) zad))))))))) (zaf (zat zev)) zaB)))
  (zaf (zat (zca (zlE (zqK (zbg (K:=K) rfl T.Machine.cl T.Machine_tick G_Machine_tick hr zcQ (pv 6)))) (zdt (zaU T.law_same G_law_same hr rfl (zaa (pv 6) (zaa (pv 1) (zaa (pv 7) zad))))))))))))))))))),?_⟩
 walk_at "rd"
 refine ⟨l,ns,6,rfl,hS,by decide,by decide,fun pc0 xs0 rs0 H1 hpc0 hs1 hpc hpd R0=>?_⟩
 have hl1:=R0.l1
 have hl2:=R0.l2
 have RR0 : Mc.Rows rs0:=⟨by omega,R0.sg,R0.th,fun r hr=>⟨(R0.mn r hr).1,by have:=(R0.mn r hr).2; omega⟩⟩
 walk_at "rd"
 refine ⟨l,1,ns,rfl,hs1.seq hS,?_⟩
 generalize ns.getD 1 0 = c1
 walk_at "rd"
 refine ⟨pc0,xs0,rs0,c1,rfl,hpc,hpd,RR0,hl1,fun pc xs rs H2 hs2 hpc2 hpd2 R hrl=>?_⟩
 have hs02:=hs1.trans hs2
 have hxl:=Cs.zaZ hpd2
 walk_at "rd"
 refine ⟨l,1,ns,rfl,hs02.seq hS,?_⟩
 walk_at "rd"
 refine ⟨pc,xs,rs,_,rfl,hpc2,hpd2,R,by omega,fun pb bv bs lt H3 hpb0 hs3 hpb hbd hbl hbb htd=>?_⟩
 have hs03:=hs02.trans hs3
 walk_at "rd"
 refine ⟨l,_,rfl,hs03.seq hS,fun ps hps=>?_⟩
 obtain ⟨ms,ecut,hml⟩:=Cs.znx ns (some 2) (some 42)
 rw [ecut]
 have hs4:=zae hps (.lst (ms.map V.int))
 have h4s : upd H3 ps (.lst (ms.map V.int)) ps = some (.lst (ms.map V.int)):=upd_same
 generalize upd H3 ps (.lst (ms.map V.int)) = H4 at hs4 h4s ⊢
 have hs24:=hs3.trans hs4
 have hfew:=R.few
 walk_at "rd"
 refine ⟨ps,pc,ms,xs,rs,rfl,SqL.of h4s,by omega,hs24 _ _ hpc2,Cs.zaT hpd2 hs24,(fun e=>by rw [e] at hrl; have : (0 : Nat) = rs0.length:=hrl; omega),by omega,R.sg,fun lr zs ls H5 hlr hs5 hlr5 hzl L=>?_⟩
 walk_at "rd"
 refine ⟨lr,lr,zs,ls,rfl,SqL.of hlr5,hzl,L.fit,fun H6 hs6=>?_⟩
 have hs36:=hs4.trans (hs5.trans hs6)
 have hs26:=hs3.trans hs36
 have hs06:=hs02.trans hs26
 have hok : Lns.zbp rs false (Lns.keyT ls).cps.toList = true:=Lns.ziS L.ok
 have hrn : ∀ r ∈ rs,0 <= r.n /\ r.n <= 1000:=fun r hr=>⟨(R.mn r hr).1,by have:=(R.mn r hr).2; omega⟩
 generalize hK0 : Lns.keyT ls = keys at hok ⊢
 have hpc6:=hs26 _ _ hpc2
 have hpd6:=Cs.zaT hpd2 hs26
 have hpb6:=hs36 _ _ hpb
 have hbd6:=zcj hbd hs36
 have OC : ∀ z : Int,1 <= z -> Mc.OkC ⟨rs,keys,z⟩:=fun z hz=>by rw [<- hK0]; exact R.okC L.short L.ok hz
 walk_at "rd"
 refine ⟨l,0,ns,rfl,hs06.seq hS,?_⟩
 generalize ns.getD 0 0 = ca
 have hz0 : 1 <= 1 + ca % 6:=by omega
 walk_at "rd"
 refine ⟨pc,xs,rfl,.inl (SqL.of hpc6),fun g1 hg1=>?_⟩
 have hs7:=zae hg1 (.lst xs)
 have h7g : upd H6 g1 (.lst xs) g1 = some (.lst xs):=upd_same
 generalize upd H6 g1 (.lst xs) = H7 at hs7 h7g ⊢
 walk_at "rd"
 refine ⟨pb,bv,rfl,.inl (SqL.of (hs7 _ _ hpb6)),fun g2 hg2=>?_⟩
 have hs8:=zae hg2 (.lst bv)
 have h8g : upd H7 g2 (.lst bv) g2 = some (.lst bv):=upd_same
 generalize upd H7 g2 (.lst bv) = H8 at hs8 h8g ⊢
 have n12 : g1 ≠ g2:=zay h7g hg2
 have h8g1:=hs8 _ _ h7g
 have h81:=hs8 _ _ h7g
 walk_at "rd"
 intro ph hph
 have hs9:=zae hph (.lst [.ref g1,.ref g2])
 have h9h : upd H8 ph (.lst [.ref g1,.ref g2]) ph = some (.lst [.ref g1,.ref g2]):=upd_same
 generalize upd H8 ph (.lst [.ref g1,.ref g2]) = H9 at hs9 h9h ⊢
 have hs69:=hs7.trans (hs8.trans hs9)
 have hpc9:=hs69 _ _ hpc6
 have hpd9:=Cs.zaT hpd6 hs69
 have hpb9:=hs69 _ _ hpb6
 have hbd9:=zcj hbd6 hs69
 have h91:=hs9 _ _ h81
 have h92:=hs9 _ _ h8g
 walk_at "rd"
 have at0 : atI [V.ref g1,V.ref g2] 0 = some (.ref g1):=rfl
 have at1 : atI [V.ref g1,V.ref g2] 1 = some (.ref g2):=rfl
 refine ⟨ph,_,_,_,rfl,rfl,SqL.of h9h,at0,?_⟩
 walk_at "rd"
 refine fun p0 dx0 hp0 hdx0 hne0=>?_
 have hsm : Same H9 (upd (upd H9 dx0 (HO.own p0)) p0 (HO.ins a.c_Machine dx0 [])):=fun b u hb=>by rw [zai (zay hb hp0),zai (zay hb hdx0)]; exact hb
 refine ⟨p0,g1,g2,dx0,⟨rs,keys,1 + ca % 6⟩,xs,bv,bs,lt,rfl,upd_same,hsm _ _ h91,Cs.zaT hpd9 hsm,OC _ hz0,hok,hrn,hsm _ _ h92,zcj hbd9 hsm,by omega,htd,fun A0 H10 M0 off0 fr0=>⟨rfl,?_⟩⟩
 have hs10:=Mc.zkv hp0 hdx0 off0
 have fr0' : ∀ b ∈ A0.all,H9 b = none:=fun b hb=>Mc.zmq hp0 hdx0 (fr0 b hb)
 have hpc10:=hs10 _ _ hpc9
 have hpd10:=Cs.zaT hpd9 hs10
 have hpb10:=hs10 _ _ hpb9
 have hbd10:=zcj hbd9 hs10
 have h10g1:=hs10 _ _ h91
 have h10g2:=hs10 _ _ h92
 have h10h:=hs10 _ _ h9h
 have ng1 : g1 ≠ pc:=fun e=>by rw [<- e,hg1] at hpc6; cases hpc6
 have ng2 : g2 ≠ pc:=fun e=>by have:=hs7 _ _ hpc6; rw [<- e,hg2] at this; cases this
 have ngA1 : g1 ∉ A0.all:=fun z=>by rw [fr0' g1 z] at h91; cases h91
 have ngA2 : g2 ∉ A0.all:=fun z=>by rw [fr0' g2 z] at h92; cases h92
 have O0 : Mc.Ok ⟨rs,keys,1 + ca % 6⟩ (startB lt):=by
  cases htd with
  | good haf=>exact LOk.ok R (zkN R hbb _ _ _ haf) rfl (OC _ hz0)
 have hAs : As ⟨rs,keys,1 + ca % 6⟩:=zuW (OC _ hz0) R.sg
 clear ecut h4s hlr hlr5 hzl off0 fr0 OC h7g h81 h8g
 have I0:=M0.ins
 walk_at "rd"
 refine ⟨pc,pb,xs,bv,rs,bs,lt,rfl,hpc10,hpd10,by omega,hrn,hpb10,hbd10,by omega,htd,fun D zs H11 hD hs11 hD11 hz hzn=>?_⟩
 obtain ⟨lns,rfl,hls,hnd,hfr⟩:=Mc.zfH hz hzn
 clear hz hzn
 walk_at "rd"
 refine ⟨⟨D,pc,pc,pc,pc,pc,lns⟩,⟨rs,keys,1 + ca % 6⟩,lt,rfl,fun d lA hA bA tA H12 hd hlA hhA hbA htA hn4 hs12 hd12 hl12 hh12 hb12 ht12=>?_⟩
 have hcf : ∃ c : Mc.Cf,c = ⟨rs,keys,1 + ca % 6⟩:=⟨_,rfl⟩
 obtain ⟨c,hc⟩:=hcf
 have hcr : c.rs = rs:=by rw [hc]
 rw [<- hc] at M0 O0 hAs hd12
 have hpc11:=hs11 _ _ hpc10
 have hlo : ∀ z ∈ lns,∃ o,H11 z = some o:=fun z hz=>by
  obtain ⟨k,hk,e⟩:=List.getElem_of_mem hz
  obtain ⟨_,_,ws,hw,_⟩:=Cs.zaM hls (List.getElem?_eq_getElem hk)
  rw [e] at hw
  exact ⟨_,hw⟩
 have nn : ∀ {x y : Addr} {o : HO},H11 x = some o -> H11 y = none -> x ≠ y:=fun h1 h2 e=>by rw [e,h2] at h1; cases h1
 have nD : D ≠ pc:=fun e=>by rw [<- e,hD] at hpc10; cases hpc10
 have npl : pc ∉ lns:=fun z=>by rw [hfr pc z] at hpc10; cases hpc10
 have nl : ∀ {y : Addr},H11 y = none -> y ∉ lns:=fun h z=>by
  obtain ⟨o,ho⟩:=hlo _ z
  rw [h] at ho
  cases ho
 obtain ⟨nd1,nd2⟩:=List.nodup_cons.mp hnd
 have N12 : Mc.Now c H12 d ⟨D,pc,lA,hA,bA,tA,lns⟩ (startB lt):=by
  refine ⟨hd12,?_,⟨⟨xs,hs12 _ _ hpc11,by rw [hcr]; exact Cs.zaT hpd10 (hs11.trans hs12)⟩,hs12 _ _ hD11,Mc.zbl (Mc.Keep.of_same (S:=fun _=>True) hs12) (fun _ _=>trivial) hls,⟨[],hl12,.nil⟩,⟨[],hh12,.nil⟩,⟨[],hb12,.nil⟩,ht12⟩⟩
  simp only [List.nodup_cons,List.mem_cons,List.not_mem_nil,or_false,not_or,List.nodup_nil,and_true,not_false_eq_true] at hn4
  obtain ⟨⟨a1,a2,a3⟩,⟨a4,a5⟩,a6⟩:=hn4
  unfold Mc.Adr.all
  simp only [List.nodup_cons,List.mem_cons,not_or]
  exact ⟨⟨nD,nn hD11 hlA,nn hD11 hhA,nn hD11 hbA,nn hD11 htA,nd1⟩,⟨nn hpc11 hlA,nn hpc11 hhA,nn hpc11 hbA,nn hpc11 htA,npl⟩,⟨a1,a2,a3,nl hlA⟩,⟨a4,a5,nl hhA⟩,⟨a6,nl hbA⟩,nl htA,nd2⟩
 have hBn : ∀ x ∈ (⟨D,pc,lA,hA,bA,tA,lns⟩ : Mc.Adr).all,x = pc \/ H10 x = none:=by
  intro x hx
  unfold Mc.Adr.all at hx
  simp only [List.mem_cons] at hx
  rcases hx with rfl | rfl | rfl | rfl | rfl | rfl | hx
  ·exact .inr hD
  ·exact .inl rfl
  ·exact .inr (hs11.free hlA)
  ·exact .inr (hs11.free hhA)
  ·exact .inr (hs11.free hbA)
  ·exact .inr (hs11.free htA)
  ·exact .inr (hfr x hx)
 obtain ⟨⟨o0,h0⟩,hA0⟩:=M0.has
 have S12 : Mc.Sep p0 A0 d ⟨D,pc,lA,hA,bA,tA,lns⟩:=by
  refine ⟨nn (hs11 _ _ h0) hd,fun z=>?_,fun z=>?_,fun b hb z=>?_⟩
  ·rcases hBn _ z with e | e
   ·exact Mc.zfU I0 hpc10 e.symm
   ·rw [h0] at e
    cases e
  ·obtain ⟨o,ho⟩:=hA0 d z
   rw [hs11.free hd] at ho
   cases ho
  ·rcases hBn _ z with e | e
   ·have:=fr0' b hb
    rw [e,hpc9] at this
    cases this
   ·obtain ⟨o,ho⟩:=hA0 b hb
    rw [e] at ho
    cases ho
 have M12:=M0.same (hs11.trans hs12)
 have O12 : Mc.Ok c (startB lt):=O0
 have gB : ∀ (g : Addr) (o : HO),g ≠ pc -> H10 g = some o -> g ∉ (⟨D,pc,lA,hA,bA,tA,lns⟩ : Mc.Adr).all:=fun g o h1 h2 z=>by
  rcases hBn g z with e | e
  ·exact h1 e
  ·rw [h2] at e
   cases e
 have hS12 : ∃ B : Mc.Adr,B.c = pc /\ Mc.Now c H12 d B (startB lt) /\ Mc.Sep p0 A0 d B /\ g1 ∉ B.all /\ g2 ∉ B.all:=⟨_,rfl,N12,S12,gB g1 _ ng1 h10g1,gB g2 _ ng2 h10g2⟩
 clear N12 S12 hBn gB
 obtain ⟨B12,hB12,N12,S12,nB1,nB2⟩:=hS12
 generalize startB lt = m12 at M12 N12 O12
 have I12:=M12.ins
 have hsT:=hs11.trans hs12
 walk_at "rd"
 refine ⟨p0,d,A0,B12,c,m12,by rw [hB12]; rfl,M12,N12,O12,hAs,fun H13 hs13=>?_⟩
 have M13:=M12.same hs13
 have N13:=N12.same hs13
 have hsT:=hsT.trans hs13
 clear I12 M12 N12 I0 hd12 hl12 hh12 hb12 ht12 hls hD11 hnd hfr hlo M0 O0
 walk_at "rd"
 intro pq hpq
 have hs14:=zae hpq (.lst [.ref pc,.ref pb])
 have h14q : upd H13 pq (.lst [.ref pc,.ref pb]) pq = some (.lst [.ref pc,.ref pb]):=upd_same
 generalize upd H13 pq (.lst [.ref pc,.ref pb]) = H14 at hs14 h14q ⊢
 have hsU:=hsT.trans hs14
 have M14:=M13.same hs14
 have N14:=N13.same hs14
 have hlay : ∀ r ∈ rs,PyData.canLay0 (.str r.s) = true:=fun r hr=>(R.okM hcr hr).1
 have D14 : Den K H14 (.ref ph) (.list [Cs.zjM rs,.list (bs.map twoD)]):=.lst (SqL.of (hsU _ _ h10h)) (.cons (.lst (SqL.of (hsU _ _ h10g1)) (Cs.zff (Cs.zaT hpd10 hsU) hlay)) (.cons (.lst (SqL.of (hsU _ _ h10g2)) (zgd (zcj hbd10 hsU))) .nil))
 refine ⟨_,_,D14,.lst (SqL.of h14q) (.cons (.lst (SqL.of (hsU _ _ hpc10)) (Cs.zff (Cs.zaT hpd10 hsU) hlay)) (.cons (.lst (SqL.of (hsU _ _ hpb10)) (zgd (zcj hbd10 hsU))) .nil)),zjG rs bs,?_⟩
 rw [Mc.zcu D14]
 refine ⟨_,rfl,?_⟩
 refine iteF ?_
 have h14h:=hsU _ _ h10h
 have h14g1:=hsU _ _ h10g1
 have h14g2:=hsU _ _ h10g2
 have nh1 : ph ≠ g1:=fun e=>by rw [e] at hph; rw [hph] at h8g1; cases h8g1
 have np1:=Mc.zfU M14.ins h14g1
 have np2:=Mc.zfU M14.ins h14g2
 have nd1' : d ≠ g1:=zbi N14.dic h14g1 fun z=>by cases z
 have nd2' : d ≠ g2:=zbi N14.dic h14g2 fun z=>by cases z
 have M15:=M14.apart (C':=a.c_Machine) (zdL (o:=.lst []) h14g1) np1.symm (fun z=>np1 (zck z).symm) fun x hx=>⟨fun e=>ngA1 (e ▸ hx),fun z=>ngA1 (zck z ▸ hx)⟩
 have N15:=N14.apart (zdL (o:=.lst []) h14g1) nd1' (fun z=>nd1' (zck z)) fun x hx=>⟨fun e=>nB1 (e ▸ hx),fun z=>nB1 (zck z ▸ hx)⟩
 have h15g2 : upd H14 g1 (.lst []) g2 = some (.lst bv):=by rw [zai n12.symm]; exact h14g2
 have h15h : upd H14 g1 (.lst []) ph = some (.lst [.ref g1,.ref g2]):=by rw [zai nh1]; exact h14h
 walk_at "rd"
 refine ⟨.inl ⟨rfl,_,SqL.of h14g1⟩,?_⟩
 refine ⟨g1,_,rfl,rfl,h14g1,?_⟩
 generalize upd H14 g1 (.lst []) = H15 at M15 N15 h15g2 h15h ⊢
 have M16:=M15.apart (C':=a.c_Machine) (zdL (o:=.lst []) h15g2) np2.symm (fun z=>np2 (zck z).symm) fun x hx=>⟨fun e=>ngA2 (e ▸ hx),fun z=>ngA2 (zck z ▸ hx)⟩
 have N16:=N15.apart (zdL (o:=.lst []) h15g2) nd2' (fun z=>nd2' (zck z)) fun x hx=>⟨fun e=>nB2 (e ▸ hx),fun z=>nB2 (zck z ▸ hx)⟩
 walk_at "rd"
 refine ⟨.inl ⟨rfl,_,SqL.of h15g2⟩,?_⟩
 refine ⟨g2,_,rfl,rfl,h15g2,?_⟩
 generalize upd H15 g2 (.lst []) = H16 at M16 N16 ⊢
 clear M13 N13 M14 N14 M15 N15
 walk_at "rd"
 refine ⟨fun n σ H1=>∃ (A1 B1 : Mc.Adr) (m1 : Mc.Ms),σ = [some (.ref l),some (.ref pc),some (.ref pb),some (.str keys),some (.int (1 + ca % 6)),some (.ref ph),some (.ref p0),some (.ref d)] /\ B1.c = pc /\ MA a c H1 p0 A1 m1 /\ Mc.Now c H1 d B1 m1 /\ Mc.Ok c m1 /\ Mc.Sep p0 A1 d B1 /\ n = Mc.work c m1,⟨_,A0,B12,m12,rfl,hB12,M16,N16,O12,S12,rfl⟩,?_⟩
 rintro n σ H1 ⟨A1,B1,m1,rfl,hB1,M1,N1,O1,S1,hn⟩
 have I1:=M1.ins
 walk_at "rd"
 refine ⟨d,B1,c,m1,by rw [hB1]; rfl,N1,O1,hAs,fun hst H2 hs2=>?_,fun hst B2 H2 ec2 N2 st2=>?_⟩
 ·have M2:=M1.same hs2
  have N2:=N1.same hs2
  have I2:=M2.ins
  clear I1
  refine ⟨_,rfl,?_⟩
  refine iteF ?_
  walk_at "rd"
  refine ⟨p0,A1,c,m1,rfl,M2,O1,fun _ H3 hs3=>?_,fun h=>by rw [hst] at h; cases h⟩
  have M3:=M2.same hs3
  have N3:=N2.same hs3
  walk_at "rd"
  refine ⟨p0,d,A1,B1,c,m1,by rw [hB1]; rfl,M3,N3,O1,hAs,fun H4 hs4=>?_⟩
  exact q H4
 ·have M2:=M1.other S1.symm st2
  have S2:=S1.symm.step st2 M1
  have I2:=M2.ins
  have hw:=Mc.zkF O1 hst
  have O2:=O1.tick
  clear I1
  refine ⟨_,rfl,?_⟩
  refine iteT ?_
  refine ⟨_,fun _ _ h=>h,?_⟩
  walk_at "rd"
  refine ⟨p0,A1,c,m1,rfl,M2,O1,fun h=>by rw [hst] at h; (cases h),fun _ A3 H3 M3 st3=>?_⟩
  have N3:=N2.apart st3 S2.pq S2.pB fun b hb=>⟨fun e=>S2.qA (e ▸ hb),S2.AB b hb⟩
  have S3:=znC S2.symm st3 N2
  walk_at "rd"
  try refine iteF ?_
  walk_at "rd"
  refine ⟨p0,d,A3,B2,c,_,by rw [ec2,hB1]; rfl,M3,N3,O2,hAs,fun H4 hs4=>?_⟩
  refine ⟨_,rfl,?_⟩
  refine iteF ?_
  exact ⟨_,by omega,A3,B2,_,rfl,ec2.trans hB1,M3.same hs4,N3.same hs4,O2,S3,rfl⟩
theorem ba1 {fd : FuncData} {ps : List Str} (h : ∀ a : Value,bindArgs fd ⟨[a],[]⟩ = pure (ps.zip [a])) : ∀ us : List Value,us.length = 1 -> bindArgs fd ⟨us,[]⟩ = pure (ps.zip us):=us1 (P:=fun us=>bindArgs fd ⟨us,[]⟩ = pure (ps.zip us)) h
theorem ba2 {fd : FuncData} {ps : List Str} (h : ∀ a b : Value,bindArgs fd ⟨[a,b],[]⟩ = pure (ps.zip [a,b])) : ∀ us : List Value,us.length = 2 -> bindArgs fd ⟨us,[]⟩ = pure (ps.zip us):=us2 (P:=fun us=>bindArgs fd ⟨us,[]⟩ = pure (ps.zip us)) h
theorem ba3 {fd : FuncData} {ps : List Str} (h : ∀ a b c : Value,bindArgs fd ⟨[a,b,c],[]⟩ = pure (ps.zip [a,b,c])) : ∀ us : List Value,us.length = 3 -> bindArgs fd ⟨us,[]⟩ = pure (ps.zip us):=us3 (P:=fun us=>bindArgs fd ⟨us,[]⟩ = pure (ps.zip us)) h
theorem ba4 {fd : FuncData} {ps : List Str} (h : ∀ a b c d : Value,bindArgs fd ⟨[a,b,c,d],[]⟩ = pure (ps.zip [a,b,c,d])) : ∀ us : List Value,us.length = 4 -> bindArgs fd ⟨us,[]⟩ = pure (ps.zip us):=us4 (P:=fun us=>bindArgs fd ⟨us,[]⟩ = pure (ps.zip us)) h
theorem ba5 {fd : FuncData} {ps : List Str} (h : ∀ a b c d e : Value,bindArgs fd ⟨[a,b,c,d,e],[]⟩ = pure (ps.zip [a,b,c,d,e])) : ∀ us : List Value,us.length = 5 -> bindArgs fd ⟨us,[]⟩ = pure (ps.zip us):=us5 (P:=fun us=>bindArgs fd ⟨us,[]⟩ = pure (ps.zip us)) h
theorem bd4 {s : Shared} {fd : FuncData} {ps : List Str} {ds : List Value} (h : ∀ a b c d : Value,BindsTo s fd ⟨[a,b,c,d],[]⟩ (ps.zip ([a,b,c,d] ++ ds))) : ∀ us : List Value,us.length = 4 -> BindsTo s fd ⟨us,[]⟩ (ps.zip (us ++ ds)):=us4 (P:=fun us=>BindsTo s fd ⟨us,[]⟩ (ps.zip (us ++ ds))) h
theorem bd5 {s : Shared} {fd : FuncData} {ps : List Str} {ds : List Value} (h : ∀ a b c d e : Value,BindsTo s fd ⟨[a,b,c,d,e],[]⟩ (ps.zip ([a,b,c,d,e] ++ ds))) : ∀ us : List Value,us.length = 5 -> BindsTo s fd ⟨us,[]⟩ (ps.zip (us ++ ds)):=us5 (P:=fun us=>BindsTo s fd ⟨us,[]⟩ (ps.zip (us ++ ds))) h
theorem txt_mk {K : PySem.W.Frag} {h : Heap} {mg : Str -> Option Value} (X : K.In h) (G : h.Ns mainGlobals mg)
 {f0 : Addr} {od0 an0 : Option Addr} {sl0 : Array (Option Value)} {oc0 kV0 dc0 pm0 cd0 ct0 : Value} {f1 : Addr} {od1 an1 : Option Addr} {sl1 : Array (Option Value)} {oc1 kV1 dc1 pm1 cd1 ct1 : Value} {f2 : Addr} {od2 an2 : Option Addr} {sl2 : Array (Option Value)} {oc2 kV2 dc2 pm2 cd2 ct2 : Value} {f3 : Addr} {od3 an3 : Option Addr} {sl3 : Array (Option Value)} {oc3 kV3 dc3 pm3 cd3 ct3 : Value} {f4 : Addr} {od4 an4 : Option Addr} {sl4 : Array (Option Value)} {oc4 kV4 dc4 pm4 cd4 ct4 : Value} {f5 : Addr} {od5 an5 : Option Addr} {sl5 : Array (Option Value)} {oc5 kV5 dc5 pm5 cd5 ct5 : Value} {f6 : Addr} {od6 an6 : Option Addr} {sl6 : Array (Option Value)} {oc6 kV6 dc6 pm6 cd6 ct6 : Value} {f7 : Addr} {od7 an7 : Option Addr} {sl7 : Array (Option Value)} {oc7 kV7 dc7 pm7 cd7 ct7 : Value} {f8 : Addr} {od8 an8 : Option Addr} {sl8 : Array (Option Value)} {oc8 kV8 dc8 pm8 cd8 ct8 : Value} {f9 : Addr} {od9 an9 : Option Addr} {sl9 : Array (Option Value)} {oc9 kV9 dc9 pm9 cd9 ct9 : Value} {f10 : Addr} {od10 an10 : Option Addr} {sl10 : Array (Option Value)} {oc10 kV10 dc10 pm10 cd10 ct10 : Value} {f11 : Addr} {od11 an11 : Option Addr} {sl11 : Array (Option Value)} {oc11 kV11 dc11 pm11 cd11 ct11 : Value} {f12 : Addr} {od12 an12 : Option Addr} {sl12 : Array (Option Value)} {oc12 kV12 dc12 pm12 cd12 ct12 : Value} {f13 : Addr} {od13 an13 : Option Addr} {sl13 : Array (Option Value)} {oc13 kV13 dc13 pm13 cd13 ct13 : Value} {f14 : Addr} {od14 an14 : Option Addr} {sl14 : Array (Option Value)} {oc14 kV14 dc14 pm14 cd14 ct14 : Value} {f15 : Addr} {od15 an15 : Option Addr} {sl15 : Array (Option Value)} {oc15 kV15 dc15 pm15 cd15 ct15 : Value} {f16 : Addr} {od16 an16 : Option Addr} {sl16 : Array (Option Value)} {oc16 kV16 dc16 pm16 cd16 ct16 : Value} {f17 : Addr} {od17 an17 : Option Addr} {sl17 : Array (Option Value)} {oc17 kV17 dc17 pm17 cd17 ct17 : Value} {f18 : Addr} {od18 an18 : Option Addr} {sl18 : Array (Option Value)} {oc18 kV18 dc18 pm18 cd18 ct18 : Value} {f19 : Addr} {od19 an19 : Option Addr} {sl19 : Array (Option Value)} {oc19 kV19 dc19 pm19 cd19 ct19 : Value} {f20 : Addr} {od20 an20 : Option Addr} {sl20 : Array (Option Value)} {oc20 kV20 dc20 pm20 cd20 ct20 : Value} {f21 : Addr} {od21 an21 : Option Addr} {sl21 : Array (Option Value)} {oc21 kV21 dc21 pm21 cd21 ct21 : Value} {f22 : Addr} {od22 an22 : Option Addr} {sl22 : Array (Option Value)} {oc22 kV22 dc22 pm22 cd22 ct22 : Value} {f23 : Addr} {od23 an23 : Option Addr} {sl23 : Array (Option Value)} {oc23 kV23 dc23 pm23 cd23 ct23 : Value} {f24 : Addr} {od24 an24 : Option Addr} {sl24 : Array (Option Value)} {oc24 kV24 dc24 pm24 cd24 ct24 : Value} {f25 : Addr} {od25 an25 : Option Addr} {sl25 : Array (Option Value)} {oc25 kV25 dc25 pm25 cd25 ct25 : Value} {f26 : Addr} {od26 an26 : Option Addr} {sl26 : Array (Option Value)} {oc26 kV26 dc26 pm26 cd26 ct26 : Value} {f27 : Addr} {od27 an27 : Option Addr} {sl27 : Array (Option Value)} {oc27 kV27 dc27 pm27 cd27 ct27 : Value} {f28 : Addr} {od28 an28 : Option Addr} {sl28 : Array (Option Value)} {oc28 kV28 dc28 pm28 cd28 ct28 : Value}
 (a0 : PySem.W.nsIn K mainGlobals "_wall" = some (some (.ref f0))) (l0 : K.lookup f0 = some ⟨oc0,od0,.func (PySem.W.fnOf "_wall" "_wall" (zal s_wall) (zak s_wall) (zac s_wall) .none kV0 dc0 pm0 an0 cd0 ct0),sl0⟩) (c0 : PySem.W.codeIn K cd0 "_wall" = true) (k0 : PySem.W.keepIn K (.ref f0) = true)
 (a1 : PySem.W.nsIn K mainGlobals "has_all" = some (some (.ref f1))) (l1 : K.lookup f1 = some ⟨oc1,od1,.func (PySem.W.fnOf "has_all" "has_all" (zal s_has_all) (zak s_has_all) (zac s_has_all) .none kV1 dc1 pm1 an1 cd1 ct1),sl1⟩) (c1 : PySem.W.codeIn K cd1 "has_all" = true) (k1 : PySem.W.keepIn K (.ref f1) = true)
 (a2 : PySem.W.nsIn K mainGlobals "falls_at" = some (some (.ref f2))) (l2 : K.lookup f2 = some ⟨oc2,od2,.func (PySem.W.fnOf "falls_at" "falls_at" (zal s_falls_at) (zak s_falls_at) (zac s_falls_at) .none kV2 dc2 pm2 an2 cd2 ct2),sl2⟩) (c2 : PySem.W.codeIn K cd2 "falls_at" = true) (k2 : PySem.W.keepIn K (.ref f2) = true)
 (a3 : PySem.W.nsIn K mainGlobals "channel_of" = some (some (.ref f3))) (l3 : K.lookup f3 = some ⟨oc3,od3,.func (PySem.W.fnOf "channel_of" "channel_of" (zal s_channel_of) (zak s_channel_of) (zac s_channel_of) .none kV3 dc3 pm3 an3 cd3 ct3),sl3⟩) (c3 : PySem.W.codeIn K cd3 "channel_of" = true) (k3 : PySem.W.keepIn K (.ref f3) = true)
 (a4 : PySem.W.nsIn K mainGlobals "codes_of" = some (some (.ref f4))) (l4 : K.lookup f4 = some ⟨oc4,od4,.func (PySem.W.fnOf "codes_of" "codes_of" (zal s_codes_of_) (zak s_codes_of_) (zac s_codes_of_) .none kV4 dc4 pm4 an4 cd4 ct4),sl4⟩) (c4 : PySem.W.codeIn K cd4 "codes_of" = true) (k4 : PySem.W.keepIn K (.ref f4) = true)
 (a5 : PySem.W.nsIn K mainGlobals "is_sign_key" = some (some (.ref f5))) (l5 : K.lookup f5 = some ⟨oc5,od5,.func (PySem.W.fnOf "is_sign_key" "is_sign_key" (zal s_is_sign_key) (zak s_is_sign_key) (zac s_is_sign_key) .none kV5 dc5 pm5 an5 cd5 ct5),sl5⟩) (c5 : PySem.W.codeIn K cd5 "is_sign_key" = true) (k5 : PySem.W.keepIn K (.ref f5) = true)
 (a6 : PySem.W.nsIn K mainGlobals "goes_on" = some (some (.ref f6))) (l6 : K.lookup f6 = some ⟨oc6,od6,.func (PySem.W.fnOf "goes_on" "goes_on" (zal s_goes_on) (zak s_goes_on) (zac s_goes_on) .none kV6 dc6 pm6 an6 cd6 ct6),sl6⟩) (c6 : PySem.W.codeIn K cd6 "goes_on" = true) (k6 : PySem.W.keepIn K (.ref f6) = true)
 (a7 : PySem.W.nsIn K mainGlobals "look_at_keys" = some (some (.ref f7))) (l7 : K.lookup f7 = some ⟨oc7,od7,.func (PySem.W.fnOf "look_at_keys" "look_at_keys" (zal s_look_at_keys) (zak s_look_at_keys) (zac s_look_at_keys) .none kV7 dc7 pm7 an7 cd7 ct7),sl7⟩) (c7 : PySem.W.codeIn K cd7 "look_at_keys" = true) (k7 : PySem.W.keepIn K (.ref f7) = true)
 (a8 : PySem.W.nsIn K mainGlobals "can_break" = some (some (.ref f8))) (l8 : K.lookup f8 = some ⟨oc8,od8,.func (PySem.W.fnOf "can_break" "can_break" (zal s_can_break) (zak s_can_break) (zac s_can_break) .none kV8 dc8 pm8 an8 cd8 ct8),sl8⟩) (c8 : PySem.W.codeIn K cd8 "can_break" = true) (k8 : PySem.W.keepIn K (.ref f8) = true)
 (a9 : PySem.W.nsIn K mainGlobals "channels_of" = some (some (.ref f9))) (l9 : K.lookup f9 = some ⟨oc9,od9,.func (PySem.W.fnOf "channels_of" "channels_of" (zal s_channels_of) (zak s_channels_of) (zac s_channels_of) .none kV9 dc9 pm9 an9 cd9 ct9),sl9⟩) (c9 : PySem.W.codeIn K cd9 "channels_of" = true) (k9 : PySem.W.keepIn K (.ref f9) = true)
 (a10 : PySem.W.nsIn K mainGlobals "_law_cell_at" = some (some (.ref f10))) (l10 : K.lookup f10 = some ⟨oc10,od10,.func (PySem.W.fnOf "_law_cell_at" "_law_cell_at" (zal s_law_cell_at) (zak s_law_cell_at) (zac s_law_cell_at) .none kV10 dc10 pm10 an10 cd10 ct10),sl10⟩) (c10 : PySem.W.codeIn K cd10 "_law_cell_at" = true) (k10 : PySem.W.keepIn K (.ref f10) = true)
 (a11 : PySem.W.nsIn K mainGlobals "_law_mixed" = some (some (.ref f11))) (l11 : K.lookup f11 = some ⟨oc11,od11,.func (PySem.W.fnOf "_law_mixed" "_law_mixed" (zal s_law_mixed) (zak s_law_mixed) (zac s_law_mixed) .none kV11 dc11 pm11 an11 cd11 ct11),sl11⟩) (c11 : PySem.W.codeIn K cd11 "_law_mixed" = true) (k11 : PySem.W.keepIn K (.ref f11) = true)
 (a12 : PySem.W.nsIn K mainGlobals "_law_bits" = some (some (.ref f12))) (l12 : K.lookup f12 = some ⟨oc12,od12,.func (PySem.W.fnOf "_law_bits" "_law_bits" (zal s_law_bits) (zak s_law_bits) (zac s_law_bits) .none kV12 dc12 pm12 an12 cd12 ct12),sl12⟩) (c12 : PySem.W.codeIn K cd12 "_law_bits" = true) (k12 : PySem.W.keepIn K (.ref f12) = true)
 (a13 : PySem.W.nsIn K mainGlobals "_law_teeth" = some (some (.ref f13))) (l13 : K.lookup f13 = some ⟨oc13,od13,.func (PySem.W.fnOf "_law_teeth" "_law_teeth" (zal s_law_teeth) (zak s_law_teeth) (zac s_law_teeth) .none kV13 dc13 pm13 an13 cd13 ct13),sl13⟩) (c13 : PySem.W.codeIn K cd13 "_law_teeth" = true) (k13 : PySem.W.keepIn K (.ref f13) = true)
 (a14 : PySem.W.nsIn K mainGlobals "_law_case" = some (some (.ref f14))) (l14 : K.lookup f14 = some ⟨oc14,od14,.func (PySem.W.fnOf "_law_case" "_law_case" (zal s_law_case) (zak s_law_case) (zac s_law_case) .none kV14 dc14 pm14 an14 cd14 ct14),sl14⟩) (c14 : PySem.W.codeIn K cd14 "_law_case" = true) (k14 : PySem.W.keepIn K (.ref f14) = true)
 (a15 : PySem.W.nsIn K mainGlobals "_law_lines" = some (some (.ref f15))) (l15 : K.lookup f15 = some ⟨oc15,od15,.func (PySem.W.fnOf "_law_lines" "_law_lines" (zal s_law_lines) (zak s_law_lines) (zac s_law_lines) .none kV15 dc15 pm15 an15 cd15 ct15),sl15⟩) (c15 : PySem.W.codeIn K cd15 "_law_lines" = true) (k15 : PySem.W.keepIn K (.ref f15) = true)
 (a16 : PySem.W.nsIn K mainGlobals "_law_keys" = some (some (.ref f16))) (l16 : K.lookup f16 = some ⟨oc16,od16,.func (PySem.W.fnOf "_law_keys" "_law_keys" (zal s_law_keys) (zak s_law_keys) (zac s_law_keys) .none kV16 dc16 pm16 an16 cd16 ct16),sl16⟩) (c16 : PySem.W.codeIn K cd16 "_law_keys" = true) (k16 : PySem.W.keepIn K (.ref f16) = true)
 (a17 : PySem.W.nsIn K mainGlobals "_law_begin" = some (some (.ref f17))) (l17 : K.lookup f17 = some ⟨oc17,od17,.func (PySem.W.fnOf "_law_begin" "_law_begin" (zal s_law_begin) (zak s_law_begin) (zac s_law_begin) .none kV17 dc17 pm17 an17 cd17 ct17),sl17⟩) (c17 : PySem.W.codeIn K cd17 "_law_begin" = true) (k17 : PySem.W.keepIn K (.ref f17) = true)
 (a18 : PySem.W.nsIn K mainGlobals "_law_rests" = some (some (.ref f18))) (l18 : K.lookup f18 = some ⟨oc18,od18,.func (PySem.W.fnOf "_law_rests" "_law_rests" (zal s_law_rests) (zak s_law_rests) (zac s_law_rests) .none kV18 dc18 pm18 an18 cd18 ct18),sl18⟩) (c18 : PySem.W.codeIn K cd18 "_law_rests" = true) (k18 : PySem.W.keepIn K (.ref f18) = true)
 (a19 : PySem.W.nsIn K mainGlobals "_law_stuck" = some (some (.ref f19))) (l19 : K.lookup f19 = some ⟨oc19,od19,.func (PySem.W.fnOf "_law_stuck" "_law_stuck" (zal s_law_stuck) (zak s_law_stuck) (zac s_law_stuck) .none kV19 dc19 pm19 an19 cd19 ct19),sl19⟩) (c19 : PySem.W.codeIn K cd19 "_law_stuck" = true) (k19 : PySem.W.keepIn K (.ref f19) = true)
 (a20 : PySem.W.nsIn K mainGlobals "_law_fall" = some (some (.ref f20))) (l20 : K.lookup f20 = some ⟨oc20,od20,.func (PySem.W.fnOf "_law_fall" "_law_fall" (zal s_law_fall) (zak s_law_fall) (zac s_law_fall) .none kV20 dc20 pm20 an20 cd20 ct20),sl20⟩) (c20 : PySem.W.codeIn K cd20 "_law_fall" = true) (k20 : PySem.W.keepIn K (.ref f20) = true)
 (a21 : PySem.W.nsIn K mainGlobals "_law_cast" = some (some (.ref f21))) (l21 : K.lookup f21 = some ⟨oc21,od21,.func (PySem.W.fnOf "_law_cast" "_law_cast" (zal s_law_cast) (zak s_law_cast) (zac s_law_cast) .none kV21 dc21 pm21 an21 cd21 ct21),sl21⟩) (c21 : PySem.W.codeIn K cd21 "_law_cast" = true) (k21 : PySem.W.keepIn K (.ref f21) = true)
 (a22 : PySem.W.nsIn K mainGlobals "_law_strike" = some (some (.ref f22))) (l22 : K.lookup f22 = some ⟨oc22,od22,.func (PySem.W.fnOf "_law_strike" "_law_strike" (zal s_law_strike) (zak s_law_strike) (zac s_law_strike) .none kV22 dc22 pm22 an22 cd22 ct22),sl22⟩) (c22 : PySem.W.codeIn K cd22 "_law_strike" = true) (k22 : PySem.W.keepIn K (.ref f22) = true)
 (a23 : PySem.W.nsIn K mainGlobals "_law_tick" = some (some (.ref f23))) (l23 : K.lookup f23 = some ⟨oc23,od23,.func (PySem.W.fnOf "_law_tick" "_law_tick" (zal s_law_tick) (zak s_law_tick) (zac s_law_tick) .none kV23 dc23 pm23 an23 cd23 ct23),sl23⟩) (c23 : PySem.W.codeIn K cd23 "_law_tick" = true) (k23 : PySem.W.keepIn K (.ref f23) = true)
 (a24 : PySem.W.nsIn K mainGlobals "_law_same" = some (some (.ref f24))) (l24 : K.lookup f24 = some ⟨oc24,od24,.func (PySem.W.fnOf "_law_same" "_law_same" (zal s_law_same) (zak s_law_same) (zac s_law_same) .none kV24 dc24 pm24 an24 cd24 ct24),sl24⟩) (c24 : PySem.W.codeIn K cd24 "_law_same" = true) (k24 : PySem.W.keepIn K (.ref f24) = true)
 (a25 : PySem.W.nsIn K mainGlobals "_law_turned" = some (some (.ref f25))) (l25 : K.lookup f25 = some ⟨oc25,od25,.func (PySem.W.fnOf "_law_turned" "_law_turned" (zal s_law_turned) (zak s_law_turned) (zac s_law_turned) .none kV25 dc25 pm25 an25 cd25 ct25),sl25⟩) (c25 : PySem.W.codeIn K cd25 "_law_turned" = true) (k25 : PySem.W.keepIn K (.ref f25) = true)
 (a26 : PySem.W.nsIn K mainGlobals "_law_broken" = some (some (.ref f26))) (l26 : K.lookup f26 = some ⟨oc26,od26,.func (PySem.W.fnOf "_law_broken" "_law_broken" (zal s_law_broken) (zak s_law_broken) (zac s_law_broken) .none kV26 dc26 pm26 an26 cd26 ct26),sl26⟩) (c26 : PySem.W.codeIn K cd26 "_law_broken" = true) (k26 : PySem.W.keepIn K (.ref f26) = true)
 (a27 : PySem.W.nsIn K mainGlobals "_law_lanes" = some (some (.ref f27))) (l27 : K.lookup f27 = some ⟨oc27,od27,.func (PySem.W.fnOf "_law_lanes" "_law_lanes" (zal s_law_lanes) (zak s_law_lanes) (zac s_law_lanes) .none kV27 dc27 pm27 an27 cd27 ct27),sl27⟩) (c27 : PySem.W.codeIn K cd27 "_law_lanes" = true) (k27 : PySem.W.keepIn K (.ref f27) = true)
 (a28 : PySem.W.nsIn K mainGlobals "law" = some (some (.ref f28))) (l28 : K.lookup f28 = some ⟨oc28,od28,.func (PySem.W.fnOf "law" "law" (zal s_law) (zak s_law) (zac s_law) .none kV28 dc28 pm28 an28 cd28 ct28),sl28⟩) (c28 : PySem.W.codeIn K cd28 "law" = true) (k28 : PySem.W.keepIn K (.ref f28) = true)
 {c_Machine : Addr} (ca_Machine : PySem.W.nsIn K mainGlobals "Machine" = some (some (.ref c_Machine)))
 (pg_Machine : PySem.W.plainGet K c_Machine Str.empty = true) (hd_Machine : PySem.W.hasDictIn K c_Machine = true) (po_Machine : PySem.W.plainOver K c_Machine = true) (sa_Machine : PySem.W.findIn K (.ref c_Machine) "__setattr__" = some (some (.builtin "object.__setattr__"))) (mk_Machine : PySem.W.makesIn K c_Machine = true) (kc_Machine : PySem.W.keepIn K (.ref c_Machine) = true)
 {f_Machine_init : Addr} (a_Machine_init : PySem.W.findIn K (.ref c_Machine) "__init__" = some (some (.ref f_Machine_init))) (i_Machine_init : PySem.W.isFn K (.ref f_Machine_init) = true)
 {od_Machine_init an_Machine_init : Option Addr} {sl_Machine_init : Array (Option Value)} {oc_Machine_init kV_Machine_init dc_Machine_init pm_Machine_init cd_Machine_init ct_Machine_init : Value}
 {T_Machine_init : Addr}
 (l_Machine_init : K.lookup f_Machine_init = some ⟨oc_Machine_init,od_Machine_init,.func (PySem.W.fnOf "__init__" "Machine.__init__" (zal s_Machine_init) (zak s_Machine_init) (zac s_Machine_init) (.ref T_Machine_init) kV_Machine_init dc_Machine_init pm_Machine_init an_Machine_init cd_Machine_init ct_Machine_init),sl_Machine_init⟩) (c_Machine_init : PySem.W.codeIn K cd_Machine_init "Machine.__init__" = true) (k_Machine_init : PySem.W.keepIn K (.ref f_Machine_init) = true)
 {to_Machine_init : Value} {td_Machine_init : Option Addr} {tn_Machine_init : Nat} {ts_Machine_init : Array (Option Value)} (t_Machine_init : K.lookup T_Machine_init = some ⟨to_Machine_init,td_Machine_init,.seq #[.none] tn_Machine_init,ts_Machine_init⟩)
 {f_Machine_next_key : Addr} (a_Machine_next_key : PySem.W.findIn K (.ref c_Machine) "next_key" = some (some (.ref f_Machine_next_key))) (i_Machine_next_key : PySem.W.isFn K (.ref f_Machine_next_key) = true)
 {od_Machine_next_key an_Machine_next_key : Option Addr} {sl_Machine_next_key : Array (Option Value)} {oc_Machine_next_key kV_Machine_next_key dc_Machine_next_key pm_Machine_next_key cd_Machine_next_key ct_Machine_next_key : Value}
 (l_Machine_next_key : K.lookup f_Machine_next_key = some ⟨oc_Machine_next_key,od_Machine_next_key,.func (PySem.W.fnOf "next_key" "Machine.next_key" (zal s_Machine_next_key) (zak s_Machine_next_key) (zac s_Machine_next_key) .none kV_Machine_next_key dc_Machine_next_key pm_Machine_next_key an_Machine_next_key cd_Machine_next_key ct_Machine_next_key),sl_Machine_next_key⟩) (c_Machine_next_key : PySem.W.codeIn K cd_Machine_next_key "Machine.next_key" = true) (k_Machine_next_key : PySem.W.keepIn K (.ref f_Machine_next_key) = true)
 {f_Machine_lacks_matrix : Addr} (a_Machine_lacks_matrix : PySem.W.findIn K (.ref c_Machine) "lacks_matrix" = some (some (.ref f_Machine_lacks_matrix))) (i_Machine_lacks_matrix : PySem.W.isFn K (.ref f_Machine_lacks_matrix) = true)
 {od_Machine_lacks_matrix an_Machine_lacks_matrix : Option Addr} {sl_Machine_lacks_matrix : Array (Option Value)} {oc_Machine_lacks_matrix kV_Machine_lacks_matrix dc_Machine_lacks_matrix pm_Machine_lacks_matrix cd_Machine_lacks_matrix ct_Machine_lacks_matrix : Value}
 (l_Machine_lacks_matrix : K.lookup f_Machine_lacks_matrix = some ⟨oc_Machine_lacks_matrix,od_Machine_lacks_matrix,.func (PySem.W.fnOf "lacks_matrix" "Machine.lacks_matrix" (zal s_Machine_lacks_matrix) (zak s_Machine_lacks_matrix) (zac s_Machine_lacks_matrix) .none kV_Machine_lacks_matrix dc_Machine_lacks_matrix pm_Machine_lacks_matrix an_Machine_lacks_matrix cd_Machine_lacks_matrix ct_Machine_lacks_matrix),sl_Machine_lacks_matrix⟩) (c_Machine_lacks_matrix : PySem.W.codeIn K cd_Machine_lacks_matrix "Machine.lacks_matrix" = true) (k_Machine_lacks_matrix : PySem.W.keepIn K (.ref f_Machine_lacks_matrix) = true)
 {f_Machine_stuck : Addr} (a_Machine_stuck : PySem.W.findIn K (.ref c_Machine) "stuck" = some (some (.ref f_Machine_stuck))) (i_Machine_stuck : PySem.W.isFn K (.ref f_Machine_stuck) = true)
 {od_Machine_stuck an_Machine_stuck : Option Addr} {sl_Machine_stuck : Array (Option Value)} {oc_Machine_stuck kV_Machine_stuck dc_Machine_stuck pm_Machine_stuck cd_Machine_stuck ct_Machine_stuck : Value}
 (l_Machine_stuck : K.lookup f_Machine_stuck = some ⟨oc_Machine_stuck,od_Machine_stuck,.func (PySem.W.fnOf "stuck" "Machine.stuck" (zal s_Machine_stuck) (zak s_Machine_stuck) (zac s_Machine_stuck) .none kV_Machine_stuck dc_Machine_stuck pm_Machine_stuck an_Machine_stuck cd_Machine_stuck ct_Machine_stuck),sl_Machine_stuck⟩) (c_Machine_stuck : PySem.W.codeIn K cd_Machine_stuck "Machine.stuck" = true) (k_Machine_stuck : PySem.W.keepIn K (.ref f_Machine_stuck) = true)
 {f_Machine_resting : Addr} (a_Machine_resting : PySem.W.findIn K (.ref c_Machine) "resting" = some (some (.ref f_Machine_resting))) (i_Machine_resting : PySem.W.isFn K (.ref f_Machine_resting) = true)
 {od_Machine_resting an_Machine_resting : Option Addr} {sl_Machine_resting : Array (Option Value)} {oc_Machine_resting kV_Machine_resting dc_Machine_resting pm_Machine_resting cd_Machine_resting ct_Machine_resting : Value}
 (l_Machine_resting : K.lookup f_Machine_resting = some ⟨oc_Machine_resting,od_Machine_resting,.func (PySem.W.fnOf "resting" "Machine.resting" (zal s_Machine_resting) (zak s_Machine_resting) (zac s_Machine_resting) .none kV_Machine_resting dc_Machine_resting pm_Machine_resting an_Machine_resting cd_Machine_resting ct_Machine_resting),sl_Machine_resting⟩) (c_Machine_resting : PySem.W.codeIn K cd_Machine_resting "Machine.resting" = true) (k_Machine_resting : PySem.W.keepIn K (.ref f_Machine_resting) = true)
 {f_Machine_move_bar : Addr} (a_Machine_move_bar : PySem.W.findIn K (.ref c_Machine) "move_bar" = some (some (.ref f_Machine_move_bar))) (i_Machine_move_bar : PySem.W.isFn K (.ref f_Machine_move_bar) = true)
 {od_Machine_move_bar an_Machine_move_bar : Option Addr} {sl_Machine_move_bar : Array (Option Value)} {oc_Machine_move_bar kV_Machine_move_bar dc_Machine_move_bar pm_Machine_move_bar cd_Machine_move_bar ct_Machine_move_bar : Value}
 (l_Machine_move_bar : K.lookup f_Machine_move_bar = some ⟨oc_Machine_move_bar,od_Machine_move_bar,.func (PySem.W.fnOf "move_bar" "Machine.move_bar" (zal s_Machine_move_bar) (zak s_Machine_move_bar) (zac s_Machine_move_bar) .none kV_Machine_move_bar dc_Machine_move_bar pm_Machine_move_bar an_Machine_move_bar cd_Machine_move_bar ct_Machine_move_bar),sl_Machine_move_bar⟩) (c_Machine_move_bar : PySem.W.codeIn K cd_Machine_move_bar "Machine.move_bar" = true) (k_Machine_move_bar : PySem.W.keepIn K (.ref f_Machine_move_bar) = true)
 {f_Machine_move_caster : Addr} (a_Machine_move_caster : PySem.W.findIn K (.ref c_Machine) "move_caster" = some (some (.ref f_Machine_move_caster))) (i_Machine_move_caster : PySem.W.isFn K (.ref f_Machine_move_caster) = true)
 {od_Machine_move_caster an_Machine_move_caster : Option Addr} {sl_Machine_move_caster : Array (Option Value)} {oc_Machine_move_caster kV_Machine_move_caster dc_Machine_move_caster pm_Machine_move_caster cd_Machine_move_caster ct_Machine_move_caster : Value}
 (l_Machine_move_caster : K.lookup f_Machine_move_caster = some ⟨oc_Machine_move_caster,od_Machine_move_caster,.func (PySem.W.fnOf "move_caster" "Machine.move_caster" (zal s_Machine_move_caster) (zak s_Machine_move_caster) (zac s_Machine_move_caster) .none kV_Machine_move_caster dc_Machine_move_caster pm_Machine_move_caster an_Machine_move_caster cd_Machine_move_caster ct_Machine_move_caster),sl_Machine_move_caster⟩) (c_Machine_move_caster : PySem.W.codeIn K cd_Machine_move_caster "Machine.move_caster" = true) (k_Machine_move_caster : PySem.W.keepIn K (.ref f_Machine_move_caster) = true)
 {f_Machine_move_line : Addr} (a_Machine_move_line : PySem.W.findIn K (.ref c_Machine) "move_line" = some (some (.ref f_Machine_move_line))) (i_Machine_move_line : PySem.W.isFn K (.ref f_Machine_move_line) = true)
 {od_Machine_move_line an_Machine_move_line : Option Addr} {sl_Machine_move_line : Array (Option Value)} {oc_Machine_move_line kV_Machine_move_line dc_Machine_move_line pm_Machine_move_line cd_Machine_move_line ct_Machine_move_line : Value}
 (l_Machine_move_line : K.lookup f_Machine_move_line = some ⟨oc_Machine_move_line,od_Machine_move_line,.func (PySem.W.fnOf "move_line" "Machine.move_line" (zal s_Machine_move_line) (zak s_Machine_move_line) (zac s_Machine_move_line) .none kV_Machine_move_line dc_Machine_move_line pm_Machine_move_line an_Machine_move_line cd_Machine_move_line ct_Machine_move_line),sl_Machine_move_line⟩) (c_Machine_move_line : PySem.W.codeIn K cd_Machine_move_line "Machine.move_line" = true) (k_Machine_move_line : PySem.W.keepIn K (.ref f_Machine_move_line) = true)
 {f_Machine_send_line : Addr} (a_Machine_send_line : PySem.W.findIn K (.ref c_Machine) "send_line" = some (some (.ref f_Machine_send_line))) (i_Machine_send_line : PySem.W.isFn K (.ref f_Machine_send_line) = true)
 {od_Machine_send_line an_Machine_send_line : Option Addr} {sl_Machine_send_line : Array (Option Value)} {oc_Machine_send_line kV_Machine_send_line dc_Machine_send_line pm_Machine_send_line cd_Machine_send_line ct_Machine_send_line : Value}
 (l_Machine_send_line : K.lookup f_Machine_send_line = some ⟨oc_Machine_send_line,od_Machine_send_line,.func (PySem.W.fnOf "send_line" "Machine.send_line" (zal s_Machine_send_line) (zak s_Machine_send_line) (zac s_Machine_send_line) .none kV_Machine_send_line dc_Machine_send_line pm_Machine_send_line an_Machine_send_line cd_Machine_send_line ct_Machine_send_line),sl_Machine_send_line⟩) (c_Machine_send_line : PySem.W.codeIn K cd_Machine_send_line "Machine.send_line" = true) (k_Machine_send_line : PySem.W.keepIn K (.ref f_Machine_send_line) = true)
 {f_Machine_take : Addr} (a_Machine_take : PySem.W.findIn K (.ref c_Machine) "take" = some (some (.ref f_Machine_take))) (i_Machine_take : PySem.W.isFn K (.ref f_Machine_take) = true)
 {od_Machine_take an_Machine_take : Option Addr} {sl_Machine_take : Array (Option Value)} {oc_Machine_take kV_Machine_take dc_Machine_take pm_Machine_take cd_Machine_take ct_Machine_take : Value}
 (l_Machine_take : K.lookup f_Machine_take = some ⟨oc_Machine_take,od_Machine_take,.func (PySem.W.fnOf "take" "Machine.take" (zal s_Machine_take) (zak s_Machine_take) (zac s_Machine_take) .none kV_Machine_take dc_Machine_take pm_Machine_take an_Machine_take cd_Machine_take ct_Machine_take),sl_Machine_take⟩) (c_Machine_take : PySem.W.codeIn K cd_Machine_take "Machine.take" = true) (k_Machine_take : PySem.W.keepIn K (.ref f_Machine_take) = true)
 {f_Machine_tick : Addr} (a_Machine_tick : PySem.W.findIn K (.ref c_Machine) "tick" = some (some (.ref f_Machine_tick))) (i_Machine_tick : PySem.W.isFn K (.ref f_Machine_tick) = true)
 {od_Machine_tick an_Machine_tick : Option Addr} {sl_Machine_tick : Array (Option Value)} {oc_Machine_tick kV_Machine_tick dc_Machine_tick pm_Machine_tick cd_Machine_tick ct_Machine_tick : Value}
 (l_Machine_tick : K.lookup f_Machine_tick = some ⟨oc_Machine_tick,od_Machine_tick,.func (PySem.W.fnOf "tick" "Machine.tick" (zal s_Machine_tick) (zak s_Machine_tick) (zac s_Machine_tick) .none kV_Machine_tick dc_Machine_tick pm_Machine_tick an_Machine_tick cd_Machine_tick ct_Machine_tick),sl_Machine_tick⟩) (c_Machine_tick : PySem.W.codeIn K cd_Machine_tick "Machine.tick" = true) (k_Machine_tick : PySem.W.keepIn K (.ref f_Machine_tick) = true)
 {f_Machine_ticks : Addr} (a_Machine_ticks : PySem.W.findIn K (.ref c_Machine) "ticks" = some (some (.ref f_Machine_ticks))) (i_Machine_ticks : PySem.W.isFn K (.ref f_Machine_ticks) = true)
 {od_Machine_ticks an_Machine_ticks : Option Addr} {sl_Machine_ticks : Array (Option Value)} {oc_Machine_ticks kV_Machine_ticks dc_Machine_ticks pm_Machine_ticks cd_Machine_ticks ct_Machine_ticks : Value}
 (l_Machine_ticks : K.lookup f_Machine_ticks = some ⟨oc_Machine_ticks,od_Machine_ticks,.func (PySem.W.fnOf "ticks" "Machine.ticks" (zal s_Machine_ticks) (zak s_Machine_ticks) (zac s_Machine_ticks) .none kV_Machine_ticks dc_Machine_ticks pm_Machine_ticks an_Machine_ticks cd_Machine_ticks ct_Machine_ticks),sl_Machine_ticks⟩) (c_Machine_ticks : PySem.W.codeIn K cd_Machine_ticks "Machine.ticks" = true) (k_Machine_ticks : PySem.W.keepIn K (.ref f_Machine_ticks) = true)
 {f_Machine_slugs : Addr} (a_Machine_slugs : PySem.W.findIn K (.ref c_Machine) "slugs" = some (some (.ref f_Machine_slugs))) (i_Machine_slugs : PySem.W.isFn K (.ref f_Machine_slugs) = true)
 {od_Machine_slugs an_Machine_slugs : Option Addr} {sl_Machine_slugs : Array (Option Value)} {oc_Machine_slugs kV_Machine_slugs dc_Machine_slugs pm_Machine_slugs cd_Machine_slugs ct_Machine_slugs : Value}
 (l_Machine_slugs : K.lookup f_Machine_slugs = some ⟨oc_Machine_slugs,od_Machine_slugs,.func (PySem.W.fnOf "slugs" "Machine.slugs" (zal s_Machine_slugs) (zak s_Machine_slugs) (zac s_Machine_slugs) .none kV_Machine_slugs dc_Machine_slugs pm_Machine_slugs an_Machine_slugs cd_Machine_slugs ct_Machine_slugs),sl_Machine_slugs⟩) (c_Machine_slugs : PySem.W.codeIn K cd_Machine_slugs "Machine.slugs" = true) (k_Machine_slugs : PySem.W.keepIn K (.ref f_Machine_slugs) = true)
 {f_Machine_waited : Addr} (a_Machine_waited : PySem.W.findIn K (.ref c_Machine) "waited" = some (some (.ref f_Machine_waited))) (i_Machine_waited : PySem.W.isFn K (.ref f_Machine_waited) = true)
 {od_Machine_waited an_Machine_waited : Option Addr} {sl_Machine_waited : Array (Option Value)} {oc_Machine_waited kV_Machine_waited dc_Machine_waited pm_Machine_waited cd_Machine_waited ct_Machine_waited : Value}
 (l_Machine_waited : K.lookup f_Machine_waited = some ⟨oc_Machine_waited,od_Machine_waited,.func (PySem.W.fnOf "waited" "Machine.waited" (zal s_Machine_waited) (zak s_Machine_waited) (zac s_Machine_waited) .none kV_Machine_waited dc_Machine_waited pm_Machine_waited an_Machine_waited cd_Machine_waited ct_Machine_waited),sl_Machine_waited⟩) (c_Machine_waited : PySem.W.codeIn K cd_Machine_waited "Machine.waited" = true) (k_Machine_waited : PySem.W.keepIn K (.ref f_Machine_waited) = true)
 {f_Machine_channels : Addr} (a_Machine_channels : PySem.W.findIn K (.ref c_Machine) "channels" = some (some (.ref f_Machine_channels))) (i_Machine_channels : PySem.W.isFn K (.ref f_Machine_channels) = true)
 {od_Machine_channels an_Machine_channels : Option Addr} {sl_Machine_channels : Array (Option Value)} {oc_Machine_channels kV_Machine_channels dc_Machine_channels pm_Machine_channels cd_Machine_channels ct_Machine_channels : Value}
 (l_Machine_channels : K.lookup f_Machine_channels = some ⟨oc_Machine_channels,od_Machine_channels,.func (PySem.W.fnOf "channels" "Machine.channels" (zal s_Machine_channels) (zak s_Machine_channels) (zac s_Machine_channels) .none kV_Machine_channels dc_Machine_channels pm_Machine_channels an_Machine_channels cd_Machine_channels ct_Machine_channels),sl_Machine_channels⟩) (c_Machine_channels : PySem.W.codeIn K cd_Machine_channels "Machine.channels" = true) (k_Machine_channels : PySem.W.keepIn K (.ref f_Machine_channels) = true)
 {f_Machine_gathered : Addr} (a_Machine_gathered : PySem.W.findIn K (.ref c_Machine) "gathered" = some (some (.ref f_Machine_gathered))) (i_Machine_gathered : PySem.W.isFn K (.ref f_Machine_gathered) = true)
 {od_Machine_gathered an_Machine_gathered : Option Addr} {sl_Machine_gathered : Array (Option Value)} {oc_Machine_gathered kV_Machine_gathered dc_Machine_gathered pm_Machine_gathered cd_Machine_gathered ct_Machine_gathered : Value}
 (l_Machine_gathered : K.lookup f_Machine_gathered = some ⟨oc_Machine_gathered,od_Machine_gathered,.func (PySem.W.fnOf "gathered" "Machine.gathered" (zal s_Machine_gathered) (zak s_Machine_gathered) (zac s_Machine_gathered) .none kV_Machine_gathered dc_Machine_gathered pm_Machine_gathered an_Machine_gathered cd_Machine_gathered ct_Machine_gathered),sl_Machine_gathered⟩) (c_Machine_gathered : PySem.W.codeIn K cd_Machine_gathered "Machine.gathered" = true) (k_Machine_gathered : PySem.W.keepIn K (.ref f_Machine_gathered) = true)
 {f_Machine_in_caster : Addr} (a_Machine_in_caster : PySem.W.findIn K (.ref c_Machine) "in_caster" = some (some (.ref f_Machine_in_caster))) (i_Machine_in_caster : PySem.W.isFn K (.ref f_Machine_in_caster) = true)
 {od_Machine_in_caster an_Machine_in_caster : Option Addr} {sl_Machine_in_caster : Array (Option Value)} {oc_Machine_in_caster kV_Machine_in_caster dc_Machine_in_caster pm_Machine_in_caster cd_Machine_in_caster ct_Machine_in_caster : Value}
 (l_Machine_in_caster : K.lookup f_Machine_in_caster = some ⟨oc_Machine_in_caster,od_Machine_in_caster,.func (PySem.W.fnOf "in_caster" "Machine.in_caster" (zal s_Machine_in_caster) (zak s_Machine_in_caster) (zac s_Machine_in_caster) .none kV_Machine_in_caster dc_Machine_in_caster pm_Machine_in_caster an_Machine_in_caster cd_Machine_in_caster ct_Machine_in_caster),sl_Machine_in_caster⟩) (c_Machine_in_caster : PySem.W.codeIn K cd_Machine_in_caster "Machine.in_caster" = true) (k_Machine_in_caster : PySem.W.keepIn K (.ref f_Machine_in_caster) = true)
 {f_Machine_bar : Addr} (a_Machine_bar : PySem.W.findIn K (.ref c_Machine) "bar" = some (some (.ref f_Machine_bar))) (i_Machine_bar : PySem.W.isFn K (.ref f_Machine_bar) = true)
 {od_Machine_bar an_Machine_bar : Option Addr} {sl_Machine_bar : Array (Option Value)} {oc_Machine_bar kV_Machine_bar dc_Machine_bar pm_Machine_bar cd_Machine_bar ct_Machine_bar : Value}
 (l_Machine_bar : K.lookup f_Machine_bar = some ⟨oc_Machine_bar,od_Machine_bar,.func (PySem.W.fnOf "bar" "Machine.bar" (zal s_Machine_bar) (zak s_Machine_bar) (zac s_Machine_bar) .none kV_Machine_bar dc_Machine_bar pm_Machine_bar an_Machine_bar cd_Machine_bar ct_Machine_bar),sl_Machine_bar⟩) (c_Machine_bar : PySem.W.codeIn K cd_Machine_bar "Machine.bar" = true) (k_Machine_bar : PySem.W.keepIn K (.ref f_Machine_bar) = true)
 (n_Machine_lying : PySem.W.findIn K (.ref c_Machine) "lying" = some none)
 (n_Machine_case : PySem.W.findIn K (.ref c_Machine) "case" = some none)
 (n_Machine_played : PySem.W.findIn K (.ref c_Machine) "played" = some none)
 (n_Machine_struck : PySem.W.findIn K (.ref c_Machine) "struck" = some none)
 (n_Machine_casting : PySem.W.findIn K (.ref c_Machine) "casting" = some none)
 (n_Machine_line : PySem.W.findIn K (.ref c_Machine) "line" = some none)
 (n_Machine_heated : PySem.W.findIn K (.ref c_Machine) "heated" = some none)
 (n_Machine_to_go : PySem.W.findIn K (.ref c_Machine) "to_go" = some none)
 (n_Machine_hanging : PySem.W.findIn K (.ref c_Machine) "hanging" = some none)
 (n_Machine_texts : PySem.W.findIn K (.ref c_Machine) "texts" = some none)
 (n_Machine_done : PySem.W.findIn K (.ref c_Machine) "done" = some none)
 (n_Machine_waits : PySem.W.findIn K (.ref c_Machine) "waits" = some none)
 {t_GAP_KEY : Tok} (y_GAP_KEY : PySem.W.nsIn K mainGlobals "GAP_KEY" = some (some (.str " " t_GAP_KEY)))
 {t_SEND_KEY : Tok} (y_SEND_KEY : PySem.W.nsIn K mainGlobals "SEND_KEY" = some (some (.str "/" t_SEND_KEY)))
 {t_WEDGE : Tok} (y_WEDGE : PySem.W.nsIn K mainGlobals "WEDGE" = some (some (.str " " t_WEDGE)))
 (z_ValueError : PySem.W.nsIn K mainGlobals "ValueError" = some none)
 (z_bool : PySem.W.nsIn K mainGlobals "bool" = some none)
 (z_enumerate : PySem.W.nsIn K mainGlobals "enumerate" = some none)
 (z_isinstance : PySem.W.nsIn K mainGlobals "isinstance" = some none)
 (z_len : PySem.W.nsIn K mainGlobals "len" = some none)
 (z_list : PySem.W.nsIn K mainGlobals "list" = some none)
 (z_range : PySem.W.nsIn K mainGlobals "range" = some none)
 (z_sorted : PySem.W.nsIn K mainGlobals "sorted" = some none)
 : ∃ a : Ad,Tx K mg a:=by
 have D0 : D K mg "_wall" s_wall ["k"] f0 _:=⟨zaz l0 c0 k0,ba1 (fun _=>rfl),PySem.W.mg_of X G a0⟩
 have D1 : D K mg "has_all" s_has_all ["teeth","others"] f1 _:=⟨zaz l1 c1 k1,ba2 (fun _ _=>rfl),PySem.W.mg_of X G a1⟩
 have D2 : D K mg "falls_at" s_falls_at ["codes","teeth"] f2 _:=⟨zaz l2 c2 k2,ba2 (fun _ _=>rfl),PySem.W.mg_of X G a2⟩
 have D3 : D K mg "channel_of" s_channel_of ["case","sign"] f3 _:=⟨zaz l3 c3 k3,ba2 (fun _ _=>rfl),PySem.W.mg_of X G a3⟩
 have D4 : D K mg "codes_of" s_codes_of_ ["case"] f4 _:=⟨zaz l4 c4 k4,ba1 (fun _=>rfl),PySem.W.mg_of X G a4⟩
 have D5 : D K mg "is_sign_key" s_is_sign_key ["key"] f5 _:=⟨zaz l5 c5 k5,ba1 (fun _=>rfl),PySem.W.mg_of X G a5⟩
 have D6 : D K mg "goes_on" s_goes_on ["case","keys","at"] f6 _:=⟨zaz l6 c6 k6,ba3 (fun _ _ _=>rfl),PySem.W.mg_of X G a6⟩
 have D7 : D K mg "look_at_keys" s_look_at_keys ["case","keys"] f7 _:=⟨zaz l7 c7 k7,ba2 (fun _ _=>rfl),PySem.W.mg_of X G a7⟩
 have D8 : D K mg "can_break" s_can_break ["case","ahead","channel","teeth"] f8 _:=⟨zaz l8 c8 k8,ba4 (fun _ _ _ _=>rfl),PySem.W.mg_of X G a8⟩
 have D9 : D K mg "channels_of" s_channels_of ["case","broken"] f9 _:=⟨zaz l9 c9 k9,ba2 (fun _ _=>rfl),PySem.W.mg_of X G a9⟩
 have D10 : D K mg "_law_cell_at" s_law_cell_at ["_law_script","_law_k"] f10 _:=⟨zaz l10 c10 k10,ba2 (fun _ _=>rfl),PySem.W.mg_of X G a10⟩
 have D11 : D K mg "_law_mixed" s_law_mixed ["_law_cell","_law_k"] f11 _:=⟨zaz l11 c11 k11,ba2 (fun _ _=>rfl),PySem.W.mg_of X G a11⟩
 have D12 : D K mg "_law_bits" s_law_bits ["_law_one"] f12 _:=⟨zaz l12 c12 k12,ba1 (fun _=>rfl),PySem.W.mg_of X G a12⟩
 have D13 : D K mg "_law_teeth" s_law_teeth ["_law_number","_law_many"] f13 _:=⟨zaz l13 c13 k13,ba2 (fun _ _=>rfl),PySem.W.mg_of X G a13⟩
 have D14 : D K mg "_law_case" s_law_case ["_law_script","_law_most"] f14 _:=⟨zaz l14 c14 k14,ba2 (fun _ _=>rfl),PySem.W.mg_of X G a14⟩
 have D15 : D K mg "_law_lines" s_law_lines ["_law_cells","_law_case_here"] f15 _:=⟨zaz l15 c15 k15,ba2 (fun _ _=>rfl),PySem.W.mg_of X G a15⟩
 have D16 : D K mg "_law_keys" s_law_keys ["_law_lines_here"] f16 _:=⟨zaz l16 c16 k16,ba1 (fun _=>rfl),PySem.W.mg_of X G a16⟩
 have D17 : D K mg "_law_begin" s_law_begin ["_law_lanes_here","_law_keys_here","_law_casting"] f17 _:=⟨zaz l17 c17 k17,ba3 (fun _ _ _=>rfl),PySem.W.mg_of X G a17⟩
 have D18 : D K mg "_law_rests" s_law_rests ["_law_now"] f18 _:=⟨zaz l18 c18 k18,ba1 (fun _=>rfl),PySem.W.mg_of X G a18⟩
 have D19 : D K mg "_law_stuck" s_law_stuck ["_law_case_here","_law_now"] f19 _:=⟨zaz l19 c19 k19,ba2 (fun _ _=>rfl),PySem.W.mg_of X G a19⟩
 have D20 : D K mg "_law_fall" s_law_fall ["_law_case_here","_law_now"] f20 _:=⟨zaz l20 c20 k20,ba2 (fun _ _=>rfl),PySem.W.mg_of X G a20⟩
 have D21 : D K mg "_law_cast" s_law_cast ["_law_now"] f21 _:=⟨zaz l21 c21 k21,ba1 (fun _=>rfl),PySem.W.mg_of X G a21⟩
 have D22 : D K mg "_law_strike" s_law_strike ["_law_case_here","_law_now"] f22 _:=⟨zaz l22 c22 k22,ba2 (fun _ _=>rfl),PySem.W.mg_of X G a22⟩
 have D23 : D K mg "_law_tick" s_law_tick ["_law_case_here","_law_now"] f23 _:=⟨zaz l23 c23 k23,ba2 (fun _ _=>rfl),PySem.W.mg_of X G a23⟩
 have D24 : D K mg "_law_same" s_law_same ["_law_machine","_law_case_here","_law_now"] f24 _:=⟨zaz l24 c24 k24,ba3 (fun _ _ _=>rfl),PySem.W.mg_of X G a24⟩
 have D25 : D K mg "_law_turned" s_law_turned ["_law_case_here","_law_cell"] f25 _:=⟨zaz l25 c25 k25,ba2 (fun _ _=>rfl),PySem.W.mg_of X G a25⟩
 have D26 : D K mg "_law_broken" s_law_broken ["_law_case_here","_law_cell"] f26 _:=⟨zaz l26 c26 k26,ba2 (fun _ _=>rfl),PySem.W.mg_of X G a26⟩
 have D27 : D K mg "_law_lanes" s_law_lanes ["_law_case_here","_law_broken_here"] f27 _:=⟨zaz l27 c27 k27,ba2 (fun _ _=>rfl),PySem.W.mg_of X G a27⟩
 have D28 : D K mg "law" s_law ["_law_script"] f28 _:=⟨zaz l28 c28 k28,ba1 (fun _=>rfl),PySem.W.mg_of X G a28⟩
 have M_Machine_init : DI K mg "Machine" "Machine.__init__" s_Machine_init ["self","case","keys","casting","broken"] c_Machine f_Machine_init _:=⟨PySem.W.mg_of X G ca_Machine,⟨pg_Machine,hd_Machine,po_Machine,sa_Machine⟩,⟨mk_Machine,a_Machine_init,i_Machine_init,kc_Machine⟩,⟨⟨_,_,_,_,_,_,_,_,_,_,rfl,l_Machine_init,c_Machine_init⟩,k_Machine_init⟩,fun s us XX hl=>bd5 (fun _ _ _ _ _=>BindsTo.of_defaults rfl (XX _ _ t_Machine_init) rfl rfl rfl) us (zln hl),fun s us XX hl=>bd4 (fun _ _ _ _=>BindsTo.of_defaults rfl (XX _ _ t_Machine_init) rfl rfl rfl) us (zln hl)⟩
 have M_Machine_next_key : DM K "next_key" "Machine.next_key" s_Machine_next_key ["self"] c_Machine f_Machine_next_key _:=⟨zaz l_Machine_next_key c_Machine_next_key k_Machine_next_key,ba1 (fun _=>rfl),⟨a_Machine_next_key,i_Machine_next_key,k_Machine_next_key⟩⟩
 have M_Machine_lacks_matrix : DM K "lacks_matrix" "Machine.lacks_matrix" s_Machine_lacks_matrix ["self"] c_Machine f_Machine_lacks_matrix _:=⟨zaz l_Machine_lacks_matrix c_Machine_lacks_matrix k_Machine_lacks_matrix,ba1 (fun _=>rfl),⟨a_Machine_lacks_matrix,i_Machine_lacks_matrix,k_Machine_lacks_matrix⟩⟩
 have M_Machine_stuck : DM K "stuck" "Machine.stuck" s_Machine_stuck ["self"] c_Machine f_Machine_stuck _:=⟨zaz l_Machine_stuck c_Machine_stuck k_Machine_stuck,ba1 (fun _=>rfl),⟨a_Machine_stuck,i_Machine_stuck,k_Machine_stuck⟩⟩
 have M_Machine_resting : DM K "resting" "Machine.resting" s_Machine_resting ["self"] c_Machine f_Machine_resting _:=⟨zaz l_Machine_resting c_Machine_resting k_Machine_resting,ba1 (fun _=>rfl),⟨a_Machine_resting,i_Machine_resting,k_Machine_resting⟩⟩
 have M_Machine_move_bar : DM K "move_bar" "Machine.move_bar" s_Machine_move_bar ["self"] c_Machine f_Machine_move_bar _:=⟨zaz l_Machine_move_bar c_Machine_move_bar k_Machine_move_bar,ba1 (fun _=>rfl),⟨a_Machine_move_bar,i_Machine_move_bar,k_Machine_move_bar⟩⟩
 have M_Machine_move_caster : DM K "move_caster" "Machine.move_caster" s_Machine_move_caster ["self"] c_Machine f_Machine_move_caster _:=⟨zaz l_Machine_move_caster c_Machine_move_caster k_Machine_move_caster,ba1 (fun _=>rfl),⟨a_Machine_move_caster,i_Machine_move_caster,k_Machine_move_caster⟩⟩
 have M_Machine_move_line : DM K "move_line" "Machine.move_line" s_Machine_move_line ["self"] c_Machine f_Machine_move_line _:=⟨zaz l_Machine_move_line c_Machine_move_line k_Machine_move_line,ba1 (fun _=>rfl),⟨a_Machine_move_line,i_Machine_move_line,k_Machine_move_line⟩⟩
 have M_Machine_send_line : DM K "send_line" "Machine.send_line" s_Machine_send_line ["self"] c_Machine f_Machine_send_line _:=⟨zaz l_Machine_send_line c_Machine_send_line k_Machine_send_line,ba1 (fun _=>rfl),⟨a_Machine_send_line,i_Machine_send_line,k_Machine_send_line⟩⟩
 have M_Machine_take : DM K "take" "Machine.take" s_Machine_take ["self","part"] c_Machine f_Machine_take _:=⟨zaz l_Machine_take c_Machine_take k_Machine_take,ba2 (fun _ _=>rfl),⟨a_Machine_take,i_Machine_take,k_Machine_take⟩⟩
 have M_Machine_tick : DM K "tick" "Machine.tick" s_Machine_tick ["self"] c_Machine f_Machine_tick _:=⟨zaz l_Machine_tick c_Machine_tick k_Machine_tick,ba1 (fun _=>rfl),⟨a_Machine_tick,i_Machine_tick,k_Machine_tick⟩⟩
 have M_Machine_ticks : DM K "ticks" "Machine.ticks" s_Machine_ticks ["self"] c_Machine f_Machine_ticks _:=⟨zaz l_Machine_ticks c_Machine_ticks k_Machine_ticks,ba1 (fun _=>rfl),⟨a_Machine_ticks,i_Machine_ticks,k_Machine_ticks⟩⟩
 have M_Machine_slugs : DM K "slugs" "Machine.slugs" s_Machine_slugs ["self"] c_Machine f_Machine_slugs _:=⟨zaz l_Machine_slugs c_Machine_slugs k_Machine_slugs,ba1 (fun _=>rfl),⟨a_Machine_slugs,i_Machine_slugs,k_Machine_slugs⟩⟩
 have M_Machine_waited : DM K "waited" "Machine.waited" s_Machine_waited ["self"] c_Machine f_Machine_waited _:=⟨zaz l_Machine_waited c_Machine_waited k_Machine_waited,ba1 (fun _=>rfl),⟨a_Machine_waited,i_Machine_waited,k_Machine_waited⟩⟩
 have M_Machine_channels : DM K "channels" "Machine.channels" s_Machine_channels ["self"] c_Machine f_Machine_channels _:=⟨zaz l_Machine_channels c_Machine_channels k_Machine_channels,ba1 (fun _=>rfl),⟨a_Machine_channels,i_Machine_channels,k_Machine_channels⟩⟩
 have M_Machine_gathered : DM K "gathered" "Machine.gathered" s_Machine_gathered ["self"] c_Machine f_Machine_gathered _:=⟨zaz l_Machine_gathered c_Machine_gathered k_Machine_gathered,ba1 (fun _=>rfl),⟨a_Machine_gathered,i_Machine_gathered,k_Machine_gathered⟩⟩
 have M_Machine_in_caster : DM K "in_caster" "Machine.in_caster" s_Machine_in_caster ["self"] c_Machine f_Machine_in_caster _:=⟨zaz l_Machine_in_caster c_Machine_in_caster k_Machine_in_caster,ba1 (fun _=>rfl),⟨a_Machine_in_caster,i_Machine_in_caster,k_Machine_in_caster⟩⟩
 have M_Machine_bar : DM K "bar" "Machine.bar" s_Machine_bar ["self"] c_Machine f_Machine_bar _:=⟨zaz l_Machine_bar c_Machine_bar k_Machine_bar,ba1 (fun _=>rfl),⟨a_Machine_bar,i_Machine_bar,k_Machine_bar⟩⟩
 exact ⟨⟨f0,_,f1,_,f2,_,f3,_,f4,_,f5,_,f6,_,f7,_,f8,_,f9,_,f10,_,f11,_,f12,_,f13,_,f14,_,f15,_,f16,_,f17,_,f18,_,f19,_,f20,_,f21,_,f22,_,f23,_,f24,_,f25,_,f26,_,f27,_,f28,_,c_Machine,f_Machine_init,_,f_Machine_next_key,_,f_Machine_lacks_matrix,_,f_Machine_stuck,_,f_Machine_resting,_,f_Machine_move_bar,_,f_Machine_move_caster,_,f_Machine_move_line,_,f_Machine_send_line,_,f_Machine_take,_,f_Machine_tick,_,f_Machine_ticks,_,f_Machine_slugs,_,f_Machine_waited,_,f_Machine_channels,_,f_Machine_gathered,_,f_Machine_in_caster,_,f_Machine_bar,_,t_GAP_KEY,t_SEND_KEY,t_WEDGE⟩,⟨D0,D1,D2,D3,D4,D5,D6,D7,D8,D9,D10,D11,D12,D13,D14,D15,D16,D17,D18,D19,D20,D21,D22,D23,D24,D25,D26,D27,D28,M_Machine_init,M_Machine_next_key,M_Machine_lacks_matrix,M_Machine_stuck,M_Machine_resting,M_Machine_move_bar,M_Machine_move_caster,M_Machine_move_line,M_Machine_send_line,M_Machine_take,M_Machine_tick,M_Machine_ticks,M_Machine_slugs,M_Machine_waited,M_Machine_channels,M_Machine_gathered,M_Machine_in_caster,M_Machine_bar,n_Machine_lying,n_Machine_case,n_Machine_played,n_Machine_struck,n_Machine_casting,n_Machine_line,n_Machine_heated,n_Machine_to_go,n_Machine_hanging,n_Machine_texts,n_Machine_done,n_Machine_waits,PySem.W.mg_of X G y_GAP_KEY,PySem.W.mg_of X G y_SEND_KEY,PySem.W.mg_of X G y_WEDGE,PySem.W.mg_none_of X G z_ValueError,PySem.W.mg_none_of X G z_bool,PySem.W.mg_none_of X G z_enumerate,PySem.W.mg_none_of X G z_isinstance,PySem.W.mg_none_of X G z_len,PySem.W.mg_none_of X G z_list,PySem.W.mg_none_of X G z_range,PySem.W.mg_none_of X G z_sorted⟩⟩
section
open PySem.W PyProof.Rows
open Hd (qr qi qs qt qb qe qF qG qT qN qf qg qC HD)
noncomputable def h_3 (P : Params) : Obj:=⟨(qt "dict"),.none,(.dict #[qe P "__name__" 165 (qs "law_linecaster_k42_broken_and_wrong_codes" 537),qe P "__doc__" 166 .none,qe P "__package__" 167 .none,qe P "__loader__" 168 (qb "__main__.__loader__#opaque"),qe P "__spec__" 169 .none,qe P "__annotations__" 170 (qr 6),qe P "__builtins__" 171 (qr 4),qe P "__file__" 173 (qs "/claim/cut.py" 172),qe P "__cached__" 174 .none,qe P "_wall" 193 (qr 21),qe P "CasterError" 213 (qr 31),qe P "NoCase" 238 (qr 51),qe P "NoKeys" 263 (qr 70),qe P "has_all" 273 (qr 79),qe P "falls_at" 283 (qr 86),qe P "channel_of" 295 (qr 93),qe P "codes_of" 301 (qr 98),qe P "GAP_KEY" 305 (qs " " 304),qe P "SEND_KEY" 307 (qs "/" 306),qe P "is_sign_key" 314 (qr 105),qe P "goes_on" 323 (qr 112),qe P "look_at_keys" 332 (qr 119),qe P "can_break" 348 (qr 126),qe P "channels_of" 354 (qr 131),qe P "WEDGE" 358 (qs " " 357),qe P "Machine" 536 (qr 278),qe P "_law_cell_at" 546 (qr 289),qe P "_law_mixed" 554 (qr 296),qe P "_law_bits" 562 (qr 303),qe P "_law_teeth" 568 (qr 308),qe P "_law_case" 583 (qr 315),qe P "_law_lines" 589 (qr 320),qe P "_law_keys" 595 (qr 325),qe P "_law_begin" 605 (qr 332),qe P "_law_rests" 612 (qr 339),qe P "_law_stuck" 618 (qr 344),qe P "_law_fall" 630 (qr 351),qe P "_law_cast" 636 (qr 356),qe P "_law_strike" 642 (qr 361),qe P "_law_tick" 650 (qr 368),qe P "_law_same" 660 (qr 375),qe P "_law_turned" 666 (qr 380),qe P "_law_broken" 680 (qr 387),qe P "_law_lanes" 686 (qr 392),qe P "law" 700 (qr 399)] 45),#[]⟩
noncomputable def h_11 : Obj:=qT []
noncomputable def h_12 : Obj:=qN [(qi 1),(qi 0),(qr 20),(qi 5),(qi 0),(qr 27),(qi 7),(qi 0),(qr 40),(qi 12),(qi 0),(qr 59),(qi 18),(qi 0),(qr 78),(qi 20),(qi 0),(qr 85),(qi 26),(qi 0),(qr 92),(qi 31),(qi 0),(qr 97),(qi 36),(qi 0),(qr 104),(qi 38),(qi 0),(qr 111),(qi 42),(qi 0),(qr 118),(qi 49),(qi 0),(qr 125),(qi 54),(qi 0),(qr 130),(qi 67),(qi 0),(qr 137),(qi 169),(qi 0),(qr 288),(qi 173),(qi 0),(qr 295),(qi 175),(qi 0),(qr 302),(qi 181),(qi 0),(qr 307),(qi 190),(qi 0),(qr 314),(qi 200),(qi 0),(qr 319),(qi 212),(qi 0),(qr 324),(qi 214),(qi 0),(qr 331),(qi 221),(qi 0),(qr 338),(qi 223),(qi 0),(qr 343),(qi 228),(qi 0),(qr 350),(qi 234),(qi 0),(qr 355),(qi 240),(qi 0),(qr 360),(qi 257),(qi 0),(qr 367),(qi 268),(qi 0),(qr 374),(qi 279),(qi 0),(qr 379),(qi 286),(qi 0),(qr 386),(qi 298),(qi 0),(qr 391),(qi 305),(qi 0),(qr 398)]
noncomputable def h_13 : Obj:=qC "<module>" "<module>" 182 1 0 0 0 0 11 false 12 .none .none .none .none 185 186
noncomputable def h_14 : Obj:=⟨(qt "frame"),.none,.plain,#[(.some (qr 13)),(.some (qr 3)),(.some (qr 3)),.none,(.some (qs "__main__" 164)),.none,(.some (qr 0))]⟩
noncomputable def h_15 : Obj:=qT []
noncomputable def h_16 : Obj:=qN []
noncomputable def h_17 : Obj:=qT [(qs "k" 190)]
noncomputable def h_18 : Obj:=qT []
noncomputable def h_19 : Obj:=qg "_wall" "_wall" (top 0)
noncomputable def h_20 : Obj:=qC "_wall" "_wall" 187 1 1 0 0 3 15 true 16 .none (qr 17) (qr 18) (qr 19) 191 192
noncomputable def h_21 : Obj:=qf "_wall" "_wall" (top 0) (qs "__main__" 164) (qr 20)
noncomputable def h_22 : Obj:=qT [(qt "ValueError")]
noncomputable def h_23 : Obj:=⟨(qt "builtin_function_or_method"),.none,(.fields #[(qb "type.__prepare__"),(qt "type")]),#[]⟩
noncomputable def h_24 (P : Params) : Obj:=⟨(qt "dict"),.none,(.dict #[qe P "__module__" 203 (qs "linecaster.errors" 194),qe P "__qualname__" 205 (qs "CasterError" 204),qe P "__firstlineno__" 207 (.int (5) 206),qe P "__static_attributes__" 208 (qr 29)] 4),#[]⟩
noncomputable def h_25 : Obj:=qT []
noncomputable def h_26 : Obj:=qN []
noncomputable def h_27 : Obj:=qC "CasterError" "CasterError" 198 5 0 0 0 0 25 false 26 .none .none .none .none 201 202
noncomputable def h_28 : Obj:=⟨(qt "frame"),.none,.plain,#[(.some (qr 27)),(.some (qr 3)),(.some (qr 24)),.none,(.some (qs "linecaster.errors" 194)),.none,(.some (qr 0))]⟩
noncomputable def h_29 : Obj:=qT []
noncomputable def h_30 (P : Params) : Obj:=⟨(qt "dict"),.none,(.dict #[qe P "__module__" 203 (qs "linecaster.errors" 194),qe P "__firstlineno__" 207 (.int (5) 206),qe P "__static_attributes__" 208 (qr 29),qe P "__weakref__" 210 (qr 32),qe P "__doc__" 211 .none] 3),#[]⟩
noncomputable def h_31 : Obj:=⟨(qt "type"),.none,(.cls ⟨(.ofString "CasterError"),[(qt "ValueError")],[(qr 31),(qt "ValueError"),(qt "Exception"),(qt "BaseException"),(qt "object")],30,(.ofString "CasterError"),true,[],[(qr 51),(qr 70)],false,.none,false⟩),#[(.some (qr 22)),.none,(.some (qs "CasterError" 196)),(.some (qs "CasterError" 204)),(.some (qb "ValueError.__new__")),(.some (.bool true))]⟩
noncomputable def h_32 : Obj:=⟨(qt "getset_descriptor"),.none,(.fields #[(qs "__weakref__" 209),(qr 31),(qb "ExceptionGroup.__weakref__"),.none]),#[]⟩
noncomputable def h_33 : Obj:=⟨(qt "super"),.none,(.fields #[(qr 31),(qr 31),(qr 31)]),#[]⟩
noncomputable def h_34 : Obj:=⟨(qt "builtin_function_or_method"),.none,(.fields #[(qb "object.__init_subclass__"),(qr 31)]),#[]⟩
noncomputable def h_35 : Obj:=qT [(qr 31)]
noncomputable def h_36 : Obj:=⟨(qt "builtin_function_or_method"),.none,(.fields #[(qb "type.__prepare__"),(qt "type")]),#[]⟩
noncomputable def h_37 (P : Params) : Obj:=⟨(qt "dict"),.none,(.dict #[qe P "__module__" 221 (qs "linecaster.errors" 194),qe P "__qualname__" 223 (qs "NoCase" 222),qe P "__firstlineno__" 225 (.int (7) 224),qe P "__init__" 233 (qr 48),qe P "__static_attributes__" 235 (qr 49)] 5),#[]⟩
noncomputable def h_38 : Obj:=qT []
noncomputable def h_39 : Obj:=qN [(qi 9),(qi 4),(qr 47)]
noncomputable def h_40 : Obj:=qC "NoCase" "NoCase" 216 7 0 0 0 0 38 false 39 .none .none .none .none 219 220
noncomputable def h_41 : Obj:=⟨(qt "frame"),.none,.plain,#[(.some (qr 40)),(.some (qr 3)),(.some (qr 37)),.none,(.some (qs "linecaster.errors" 194)),.none,(.some (qr 0))]⟩
noncomputable def h_42 : Obj:=qT []
noncomputable def h_43 : Obj:=qN []
noncomputable def h_44 : Obj:=qT [(qs "self" 229),(qs "at" 230)]
noncomputable def h_45 : Obj:=qT []
noncomputable def h_46 : Obj:=qg "__init__" "NoCase.__init__" (zah (top 3) 0)
noncomputable def h_47 : Obj:=qC "__init__" "NoCase.__init__" 226 9 2 0 0 3 42 true 43 .none (qr 44) (qr 45) (qr 46) 231 232
noncomputable def h_48 : Obj:=qf "__init__" "NoCase.__init__" (zah (top 3) 0) (qs "linecaster.errors" 194) (qr 47)
noncomputable def h_49 : Obj:=qT [(qs "at" 234)]
noncomputable def h_50 (P : Params) : Obj:=⟨(qt "dict"),.none,(.dict #[qe P "__module__" 221 (qs "linecaster.errors" 194),qe P "__firstlineno__" 225 (.int (7) 224),qe P "__init__" 233 (qr 48),qe P "__static_attributes__" 235 (qr 49),qe P "__doc__" 236 .none] 2),#[]⟩
noncomputable def h_51 : Obj:=⟨(qt "type"),.none,(.cls ⟨(.ofString "NoCase"),[(qr 31)],[(qr 51),(qr 31),(qt "ValueError"),(qt "Exception"),(qt "BaseException"),(qt "object")],50,(.ofString "NoCase"),true,[],[],false,.none,false⟩),#[(.some (qr 35)),.none,(.some (qs "NoCase" 214)),(.some (qs "NoCase" 222)),(.some (qb "ValueError.__new__")),(.some (.bool true))]⟩
noncomputable def h_52 : Obj:=⟨(qt "super"),.none,(.fields #[(qr 51),(qr 51),(qr 51)]),#[]⟩
noncomputable def h_53 : Obj:=⟨(qt "builtin_function_or_method"),.none,(.fields #[(qb "object.__init_subclass__"),(qr 51)]),#[]⟩
noncomputable def h_54 : Obj:=qT [(qr 31)]
noncomputable def h_55 : Obj:=⟨(qt "builtin_function_or_method"),.none,(.fields #[(qb "type.__prepare__"),(qt "type")]),#[]⟩
noncomputable def h_56 (P : Params) : Obj:=⟨(qt "dict"),.none,(.dict #[qe P "__module__" 246 (qs "linecaster.errors" 194),qe P "__qualname__" 248 (qs "NoKeys" 247),qe P "__firstlineno__" 250 (.int (12) 249),qe P "__init__" 258 (qr 67),qe P "__static_attributes__" 260 (qr 68)] 5),#[]⟩
noncomputable def h_57 : Obj:=qT []
noncomputable def h_58 : Obj:=qN [(qi 14),(qi 4),(qr 66)]
noncomputable def h_59 : Obj:=qC "NoKeys" "NoKeys" 241 12 0 0 0 0 57 false 58 .none .none .none .none 244 245
noncomputable def h_60 : Obj:=⟨(qt "frame"),.none,.plain,#[(.some (qr 59)),(.some (qr 3)),(.some (qr 56)),.none,(.some (qs "linecaster.errors" 194)),.none,(.some (qr 0))]⟩
noncomputable def h_61 : Obj:=qT []
noncomputable def h_62 : Obj:=qN []
noncomputable def h_63 : Obj:=qT [(qs "self" 254),(qs "at" 255)]
noncomputable def h_64 : Obj:=qT []
noncomputable def h_65 : Obj:=qg "__init__" "NoKeys.__init__" (zah (top 4) 0)
noncomputable def h_66 : Obj:=qC "__init__" "NoKeys.__init__" 251 14 2 0 0 3 61 true 62 .none (qr 63) (qr 64) (qr 65) 256 257
noncomputable def h_67 : Obj:=qf "__init__" "NoKeys.__init__" (zah (top 4) 0) (qs "linecaster.errors" 194) (qr 66)
noncomputable def h_68 : Obj:=qT [(qs "at" 259)]
noncomputable def h_69 (P : Params) : Obj:=⟨(qt "dict"),.none,(.dict #[qe P "__module__" 246 (qs "linecaster.errors" 194),qe P "__firstlineno__" 250 (.int (12) 249),qe P "__init__" 258 (qr 67),qe P "__static_attributes__" 260 (qr 68),qe P "__doc__" 261 .none] 2),#[]⟩
noncomputable def h_70 : Obj:=⟨(qt "type"),.none,(.cls ⟨(.ofString "NoKeys"),[(qr 31)],[(qr 70),(qr 31),(qt "ValueError"),(qt "Exception"),(qt "BaseException"),(qt "object")],69,(.ofString "NoKeys"),true,[],[],false,.none,false⟩),#[(.some (qr 54)),.none,(.some (qs "NoKeys" 239)),(.some (qs "NoKeys" 247)),(.some (qb "ValueError.__new__")),(.some (.bool true))]⟩
noncomputable def h_71 : Obj:=⟨(qt "super"),.none,(.fields #[(qr 70),(qr 70),(qr 70)]),#[]⟩
noncomputable def h_72 : Obj:=⟨(qt "builtin_function_or_method"),.none,(.fields #[(qb "object.__init_subclass__"),(qr 70)]),#[]⟩
noncomputable def h_73 : Obj:=qT []
noncomputable def h_74 : Obj:=qN []
noncomputable def h_75 : Obj:=qT [(qs "teeth" 269),(qs "others" 270)]
noncomputable def h_76 : Obj:=qT []
noncomputable def h_77 : Obj:=qg "has_all" "has_all" (top 6)
noncomputable def h_78 : Obj:=qC "has_all" "has_all" 266 18 2 0 0 3 73 true 74 .none (qr 75) (qr 76) (qr 77) 271 272
noncomputable def h_79 : Obj:=qf "has_all" "has_all" (top 6) (qs "linecaster.bars" 264) (qr 78)
noncomputable def h_80 : Obj:=qT []
noncomputable def h_81 : Obj:=qN []
noncomputable def h_82 : Obj:=qT [(qs "codes" 277),(qs "teeth" 278),(qs "channel" 279),(qs "code" 280)]
noncomputable def h_83 : Obj:=qT []
noncomputable def h_84 : Obj:=qg "falls_at" "falls_at" (top 7)
noncomputable def h_85 : Obj:=qC "falls_at" "falls_at" 274 20 2 0 0 3 80 true 81 .none (qr 82) (qr 83) (qr 84) 281 282
noncomputable def h_86 : Obj:=qf "falls_at" "falls_at" (top 7) (qs "linecaster.bars" 264) (qr 85)
noncomputable def h_87 : Obj:=qT []
noncomputable def h_88 : Obj:=qN []
noncomputable def h_89 : Obj:=qT [(qs "case" 289),(qs "sign" 290),(qs "number" 291),(qs "channel" 292)]
noncomputable def h_90 : Obj:=qT []
noncomputable def h_91 : Obj:=qg "channel_of" "channel_of" (top 9)
noncomputable def h_92 : Obj:=qC "channel_of" "channel_of" 286 26 2 0 0 3 87 true 88 .none (qr 89) (qr 90) (qr 91) 293 294
noncomputable def h_93 : Obj:=qf "channel_of" "channel_of" (top 9) (qs "linecaster.cases" 284) (qr 92)
noncomputable def h_94 : Obj:=qT []
noncomputable def h_95 : Obj:=qN []
noncomputable def h_96 : Obj:=qg "codes_of" "codes_of" (top 10)
noncomputable def h_97 : Obj:=qC "codes_of" "codes_of" 296 31 1 0 0 3 94 true 95 .none .none .none (qr 96) 299 300
noncomputable def h_98 : Obj:=qf "codes_of" "codes_of" (top 10) (qs "linecaster.cases" 284) (qr 97)
noncomputable def h_99 : Obj:=qT []
noncomputable def ztk : Obj:=qN []
noncomputable def zoC : Obj:=qT [(qs "key" 311)]
noncomputable def zsp : Obj:=qT []
noncomputable def zuC : Obj:=qg "is_sign_key" "is_sign_key" (top 14)
noncomputable def zqp : Obj:=qC "is_sign_key" "is_sign_key" 308 36 1 0 0 3 99 true 100 .none (qr 101) (qr 102) (qr 103) 312 313
noncomputable def zoE : Obj:=qf "is_sign_key" "is_sign_key" (top 14) (qs "linecaster.keys" 302) (qr 104)
noncomputable def zqx : Obj:=qT []
noncomputable def ztR : Obj:=qN []
noncomputable def zpM : Obj:=qT [(qs "case" 318),(qs "keys" 319),(qs "at" 320)]
noncomputable def zpN : Obj:=qT []
noncomputable def zvc : Obj:=qg "goes_on" "goes_on" (top 15)
noncomputable def zrJ : Obj:=qC "goes_on" "goes_on" 315 38 3 0 0 3 106 true 107 .none (qr 108) (qr 109) (qr 110) 321 322
noncomputable def zqk : Obj:=qf "goes_on" "goes_on" (top 15) (qs "linecaster.keys" 302) (qr 111)
noncomputable def zqE : Obj:=qT []
noncomputable def zve : Obj:=qN []
noncomputable def zqW : Obj:=qT [(qs "case" 327),(qs "keys" 328),(qs "at" 329)]
noncomputable def zrV : Obj:=qT []
noncomputable def ztn : Obj:=qg "look_at_keys" "look_at_keys" (top 16)
noncomputable def zph : Obj:=qC "look_at_keys" "look_at_keys" 324 42 2 0 0 3 113 true 114 .none (qr 115) (qr 116) (qr 117) 330 331
noncomputable def zrB : Obj:=qf "look_at_keys" "look_at_keys" (top 16) (qs "linecaster.keys" 302) (qr 118)
noncomputable def zqz : Obj:=qT []
noncomputable def ztG : Obj:=qN []
noncomputable def zox : Obj:=qT [(qs "case" 338),(qs "ahead" 339),(qs "channel" 340),(qs "teeth" 341),(qs "sign" 342),(qs "width" 343),(qs "own" 344),(qs "many" 345)]
noncomputable def zqJ : Obj:=qT []
noncomputable def zuQ : Obj:=qg "can_break" "can_break" (top 18)
noncomputable def zog : Obj:=qC "can_break" "can_break" 335 49 4 0 0 3 120 true 121 .none (qr 122) (qr 123) (qr 124) 346 347
noncomputable def zoF : Obj:=qf "can_break" "can_break" (top 18) (qs "linecaster.matrices" 333) (qr 125)
noncomputable def zoj : Obj:=qT []
noncomputable def zuz : Obj:=qN []
noncomputable def zui : Obj:=qg "channels_of" "channels_of" (top 19)
noncomputable def zoT : Obj:=qC "channels_of" "channels_of" 349 54 2 0 0 3 127 true 128 .none .none .none (qr 129) 352 353
noncomputable def zoW : Obj:=qf "channels_of" "channels_of" (top 19) (qs "linecaster.matrices" 333) (qr 130)
noncomputable def zup : Obj:=qT []
noncomputable def zsZ : Obj:=⟨(qt "builtin_function_or_method"),.none,(.fields #[(qb "type.__prepare__"),(qt "type")]),#[]⟩
noncomputable def ztP (P : Params) : Obj:=⟨(qt "dict"),.none,(.dict #[qe P "__module__" 366 (qs "linecaster.machine" 355),qe P "__qualname__" 368 (qs "Machine" 367),qe P "__firstlineno__" 370 (.int (67) 369),qe P "__init__" 381 (qr 146),qe P "next_key" 388 (qr 153),qe P "lacks_matrix" 396 (qr 160),qe P "stuck" 403 (qr 167),qe P "resting" 410 (qr 174),qe P "move_bar" 418 (qr 181),qe P "move_caster" 424 (qr 186),qe P "move_line" 432 (qr 193),qe P "send_line" 439 (qr 200),qe P "take" 447 (qr 207),qe P "tick" 454 (qr 214),qe P "run" 461 (qr 221),qe P "ticks" 468 (qr 228),qe P "slugs" 475 (qr 235),qe P "waited" 482 (qr 242),qe P "channels" 488 (qr 247),qe P "numbers_lying" 495 (qr 254),qe P "gathered" 502 (qr 261),qe P "in_caster" 509 (qr 268),qe P "bar" 516 (qr 275),qe P "__static_attributes__" 529 (qr 276)] 24),#[]⟩
noncomputable def ztp : Obj:=qT []
noncomputable def zvb : Obj:=qN [(qi 69),(qi 4),(qr 145),(qi 84),(qi 4),(qr 152),(qi 87),(qi 4),(qr 159),(qi 91),(qi 4),(qr 166),(qi 94),(qi 4),(qr 173),(qi 97),(qi 4),(qr 180),(qi 102),(qi 4),(qr 185),(qi 111),(qi 4),(qr 192),(qi 122),(qi 4),(qr 199),(qi 129),(qi 4),(qr 206),(qi 133),(qi 4),(qr 213),(qi 142),(qi 4),(qr 220),(qi 145),(qi 4),(qr 227),(qi 148),(qi 4),(qr 234),(qi 151),(qi 4),(qr 241),(qi 154),(qi 4),(qr 246),(qi 157),(qi 4),(qr 253),(qi 160),(qi 4),(qr 260),(qi 163),(qi 4),(qr 267),(qi 166),(qi 4),(qr 274)]
noncomputable def zuK : Obj:=qC "Machine" "Machine" 361 67 0 0 0 0 135 false 136 .none .none .none .none 364 365
noncomputable def zvk : Obj:=⟨(qt "frame"),.none,.plain,#[(.some (qr 137)),(.some (qr 3)),(.some (qr 134)),.none,(.some (qs "linecaster.machine" 355)),.none,(.some (qr 0))]⟩
noncomputable def zra : Obj:=qT [.none]
noncomputable def zsm : Obj:=qT []
noncomputable def zsX : Obj:=qN []
noncomputable def zrv : Obj:=qT [(qs "self" 374),(qs "case" 375),(qs "keys" 376),(qs "casting" 377),(qs "broken" 378)]
noncomputable def zsi : Obj:=qT []
noncomputable def ztH : Obj:=qg "__init__" "Machine.__init__" (zah (top 22) 0)
noncomputable def zoc : Obj:=qC "__init__" "Machine.__init__" 371 69 5 0 0 3 140 true 141 .none (qr 142) (qr 143) (qr 144) 379 380
noncomputable def zrX : Obj:=⟨(qt "function"),.none,(qF "__init__" "Machine.__init__" (zah (top 22) 0) (qr 139) .none .none (qs "linecaster.machine" 355) .none (qr 145) .none),#[]⟩
noncomputable def zpJ : Obj:=qT []
noncomputable def zta : Obj:=qN []
noncomputable def zsr : Obj:=qT [(qs "self" 385)]
noncomputable def zrA : Obj:=qT []
noncomputable def zvg : Obj:=qg "next_key" "Machine.next_key" (zah (top 22) 1)
noncomputable def zpx : Obj:=qC "next_key" "Machine.next_key" 382 84 1 0 0 3 147 true 148 .none (qr 149) (qr 150) (qr 151) 386 387
noncomputable def zrO : Obj:=qf "next_key" "Machine.next_key" (zah (top 22) 1) (qs "linecaster.machine" 355) (qr 152)
noncomputable def zqh : Obj:=qT []
noncomputable def zuT : Obj:=qN []
noncomputable def zsv : Obj:=qT [(qs "self" 392),(qs "channel" 393)]
noncomputable def zrI : Obj:=qT []
noncomputable def ztI : Obj:=qg "lacks_matrix" "Machine.lacks_matrix" (zah (top 22) 2)
noncomputable def zoK : Obj:=qC "lacks_matrix" "Machine.lacks_matrix" 389 87 1 0 0 3 154 true 155 .none (qr 156) (qr 157) (qr 158) 394 395
noncomputable def zsI : Obj:=qf "lacks_matrix" "Machine.lacks_matrix" (zah (top 22) 2) (qs "linecaster.machine" 355) (qr 159)
noncomputable def zrM : Obj:=qT []
noncomputable def zut : Obj:=qN []
noncomputable def zql : Obj:=qT [(qs "self" 400)]
noncomputable def zqi : Obj:=qT []
noncomputable def ztM : Obj:=qg "stuck" "Machine.stuck" (zah (top 22) 3)
noncomputable def zoO : Obj:=qC "stuck" "Machine.stuck" 397 91 1 0 0 3 161 true 162 .none (qr 163) (qr 164) (qr 165) 401 402
noncomputable def zqf : Obj:=qf "stuck" "Machine.stuck" (zah (top 22) 3) (qs "linecaster.machine" 355) (qr 166)
noncomputable def zoN : Obj:=qT []
noncomputable def ztZ : Obj:=qN []
noncomputable def zqu : Obj:=qT [(qs "self" 407)]
noncomputable def zpS : Obj:=qT []
noncomputable def zva : Obj:=qg "resting" "Machine.resting" (zah (top 22) 4)
noncomputable def zol : Obj:=qC "resting" "Machine.resting" 404 94 1 0 0 3 168 true 169 .none (qr 170) (qr 171) (qr 172) 408 409
noncomputable def zrg : Obj:=qf "resting" "Machine.resting" (zah (top 22) 4) (qs "linecaster.machine" 355) (qr 173)
noncomputable def zqv : Obj:=qT []
noncomputable def zud : Obj:=qN []
noncomputable def zrC : Obj:=qT [(qs "self" 414),(qs "matrix" 415)]
noncomputable def zsD : Obj:=qT []
noncomputable def zuF : Obj:=qg "move_bar" "Machine.move_bar" (zah (top 22) 5)
noncomputable def zqb : Obj:=qC "move_bar" "Machine.move_bar" 411 97 1 0 0 3 175 true 176 .none (qr 177) (qr 178) (qr 179) 416 417
noncomputable def zon : Obj:=qf "move_bar" "Machine.move_bar" (zah (top 22) 5) (qs "linecaster.machine" 355) (qr 180)
noncomputable def zsH : Obj:=qT []
noncomputable def zte : Obj:=qN []
noncomputable def ztX : Obj:=qg "move_caster" "Machine.move_caster" (zah (top 22) 6)
noncomputable def zqZ : Obj:=qC "move_caster" "Machine.move_caster" 419 102 1 0 0 3 182 true 183 .none .none .none (qr 184) 422 423
noncomputable def zqB : Obj:=qf "move_caster" "Machine.move_caster" (zah (top 22) 6) (qs "linecaster.machine" 355) (qr 185)
noncomputable def zqN : Obj:=qT []
noncomputable def zty : Obj:=qN []
noncomputable def zro : Obj:=qT [(qs "self" 428),(qs "key" 429)]
noncomputable def zqs : Obj:=qT []
noncomputable def zuw : Obj:=qg "move_line" "Machine.move_line" (zah (top 22) 7)
noncomputable def zpa : Obj:=qC "move_line" "Machine.move_line" 425 111 1 0 0 3 187 true 188 .none (qr 189) (qr 190) (qr 191) 430 431
noncomputable def zru : Obj:=qf "move_line" "Machine.move_line" (zah (top 22) 7) (qs "linecaster.machine" 355) (qr 192)
noncomputable def zoP : Obj:=qT []
noncomputable def zur : Obj:=qN []
noncomputable def zoY : Obj:=qT [(qs "self" 436)]
noncomputable def zoz : Obj:=qT []
noncomputable def zuU : Obj:=qg "send_line" "Machine.send_line" (zah (top 22) 8)
noncomputable def zrn : Obj:=qC "send_line" "Machine.send_line" 433 122 1 0 0 3 194 true 195 .none (qr 196) (qr 197) (qr 198) 437 438
noncomputable def zsc : Obj:=qf "send_line" "Machine.send_line" (zah (top 22) 8) (qs "linecaster.machine" 355) (qr 199)
noncomputable def zsg : Obj:=qT []
noncomputable def zuV : Obj:=qN []
noncomputable def zoA : Obj:=qT [(qs "self" 443),(qs "part" 444)]
noncomputable def zrU : Obj:=qT []
noncomputable def ztN : Obj:=qg "take" "Machine.take" (zah (top 22) 9)
noncomputable def zpE : Obj:=qC "take" "Machine.take" 440 129 2 0 0 3 201 true 202 .none (qr 203) (qr 204) (qr 205) 445 446
noncomputable def zsM : Obj:=qf "take" "Machine.take" (zah (top 22) 9) (qs "linecaster.machine" 355) (qr 206)
noncomputable def zse : Obj:=qT []
noncomputable def zua : Obj:=qN []
noncomputable def zpF : Obj:=qT [(qs "self" 451)]
noncomputable def zrm : Obj:=qT []
noncomputable def ztq : Obj:=qg "tick" "Machine.tick" (zah (top 22) 10)
noncomputable def zpb : Obj:=qC "tick" "Machine.tick" 448 133 1 0 0 3 208 true 209 .none (qr 210) (qr 211) (qr 212) 452 453
noncomputable def zpP : Obj:=qf "tick" "Machine.tick" (zah (top 22) 10) (qs "linecaster.machine" 355) (qr 213)
noncomputable def zrj : Obj:=qT []
noncomputable def zuH : Obj:=qN []
noncomputable def zqM : Obj:=qT [(qs "self" 458)]
noncomputable def zqr : Obj:=qT []
noncomputable def zug : Obj:=qg "run" "Machine.run" (zah (top 22) 11)
noncomputable def zpD : Obj:=qC "run" "Machine.run" 455 142 1 0 0 3 215 true 216 .none (qr 217) (qr 218) (qr 219) 459 460
noncomputable def zrd : Obj:=qf "run" "Machine.run" (zah (top 22) 11) (qs "linecaster.machine" 355) (qr 220)
noncomputable def zoX : Obj:=qT []
noncomputable def ztW : Obj:=qN []
noncomputable def zpe : Obj:=qT [(qs "self" 465)]
noncomputable def zrP : Obj:=qT []
noncomputable def zuk : Obj:=qg "ticks" "Machine.ticks" (zah (top 22) 12)
noncomputable def zpH : Obj:=qC "ticks" "Machine.ticks" 462 145 1 0 0 3 222 true 223 .none (qr 224) (qr 225) (qr 226) 466 467
noncomputable def zsy : Obj:=qf "ticks" "Machine.ticks" (zah (top 22) 12) (qs "linecaster.machine" 355) (qr 227)
noncomputable def zoM : Obj:=qT []
noncomputable def zvf : Obj:=qN []
noncomputable def zoB : Obj:=qT [(qs "self" 472)]
noncomputable def zqo : Obj:=qT []
noncomputable def ztg : Obj:=qg "slugs" "Machine.slugs" (zah (top 22) 13)
noncomputable def zrS : Obj:=qC "slugs" "Machine.slugs" 469 148 1 0 0 3 229 true 230 .none (qr 231) (qr 232) (qr 233) 473 474
noncomputable def zoi : Obj:=qf "slugs" "Machine.slugs" (zah (top 22) 13) (qs "linecaster.machine" 355) (qr 234)
noncomputable def zrZ : Obj:=qT []
noncomputable def ztV : Obj:=qN []
noncomputable def zoJ : Obj:=qT [(qs "self" 479)]
noncomputable def zsu : Obj:=qT []
noncomputable def ztQ : Obj:=qg "waited" "Machine.waited" (zah (top 22) 14)
noncomputable def zqg : Obj:=qC "waited" "Machine.waited" 476 151 1 0 0 3 236 true 237 .none (qr 238) (qr 239) (qr 240) 480 481
noncomputable def zpC : Obj:=qf "waited" "Machine.waited" (zah (top 22) 14) (qs "linecaster.machine" 355) (qr 241)
noncomputable def zoL : Obj:=qT []
noncomputable def zvd : Obj:=qN []
noncomputable def ztO : Obj:=qg "channels" "Machine.channels" (zah (top 22) 15)
noncomputable def zpV : Obj:=qC "channels" "Machine.channels" 483 154 1 0 0 3 243 true 244 .none .none .none (qr 245) 486 487
noncomputable def zsl : Obj:=qf "channels" "Machine.channels" (zah (top 22) 15) (qs "linecaster.machine" 355) (qr 246)
noncomputable def zpU : Obj:=qT []
noncomputable def ztK : Obj:=qN []
noncomputable def zok : Obj:=qT [(qs "self" 492)]
noncomputable def zoe : Obj:=qT []
noncomputable def zus : Obj:=qg "numbers_lying" "Machine.numbers_lying" (zah (top 22) 16)
noncomputable def zpB : Obj:=qC "numbers_lying" "Machine.numbers_lying" 489 157 1 0 0 3 248 true 249 .none (qr 250) (qr 251) (qr 252) 493 494
noncomputable def zsO : Obj:=qf "numbers_lying" "Machine.numbers_lying" (zah (top 22) 16) (qs "linecaster.machine" 355) (qr 253)
noncomputable def zpo : Obj:=qT []
noncomputable def zuI : Obj:=qN []
noncomputable def zrF : Obj:=qT [(qs "self" 499)]
noncomputable def zqc : Obj:=qT []
noncomputable def zvh : Obj:=qg "gathered" "Machine.gathered" (zah (top 22) 17)
noncomputable def zrx : Obj:=qC "gathered" "Machine.gathered" 496 160 1 0 0 3 255 true 256 .none (qr 257) (qr 258) (qr 259) 500 501
noncomputable def zst : Obj:=qf "gathered" "Machine.gathered" (zah (top 22) 17) (qs "linecaster.machine" 355) (qr 260)
noncomputable def zsf : Obj:=qT []
noncomputable def ztx : Obj:=qN []
noncomputable def zsC : Obj:=qT [(qs "self" 506)]
noncomputable def zpT : Obj:=qT []
noncomputable def zto : Obj:=qg "in_caster" "Machine.in_caster" (zah (top 22) 18)
noncomputable def zoU : Obj:=qC "in_caster" "Machine.in_caster" 503 163 1 0 0 3 262 true 263 .none (qr 264) (qr 265) (qr 266) 507 508
noncomputable def zop : Obj:=qf "in_caster" "Machine.in_caster" (zah (top 22) 18) (qs "linecaster.machine" 355) (qr 267)
noncomputable def zoD : Obj:=qT []
noncomputable def ztt : Obj:=qN []
noncomputable def zqe : Obj:=qT [(qs "self" 513)]
noncomputable def zsT : Obj:=qT []
noncomputable def zsY : Obj:=qg "bar" "Machine.bar" (zah (top 22) 19)
noncomputable def zoh : Obj:=qC "bar" "Machine.bar" 510 166 1 0 0 3 269 true 270 .none (qr 271) (qr 272) (qr 273) 514 515
noncomputable def zqq : Obj:=qf "bar" "Machine.bar" (zah (top 22) 19) (qs "linecaster.machine" 355) (qr 274)
noncomputable def zpp : Obj:=qT [(qs "case" 517),(qs "casting" 518),(qs "done" 519),(qs "hanging" 520),(qs "heated" 521),(qs "line" 522),(qs "lying" 523),(qs "played" 524),(qs "struck" 525),(qs "texts" 526),(qs "to_go" 527),(qs "waits" 528)]
noncomputable def zsL (P : Params) : Obj:=⟨(qt "dict"),.none,(.dict #[qe P "__module__" 366 (qs "linecaster.machine" 355),qe P "__firstlineno__" 370 (.int (67) 369),qe P "__init__" 381 (qr 146),qe P "next_key" 388 (qr 153),qe P "lacks_matrix" 396 (qr 160),qe P "stuck" 403 (qr 167),qe P "resting" 410 (qr 174),qe P "move_bar" 418 (qr 181),qe P "move_caster" 424 (qr 186),qe P "move_line" 432 (qr 193),qe P "send_line" 439 (qr 200),qe P "take" 447 (qr 207),qe P "tick" 454 (qr 214),qe P "run" 461 (qr 221),qe P "ticks" 468 (qr 228),qe P "slugs" 475 (qr 235),qe P "waited" 482 (qr 242),qe P "channels" 488 (qr 247),qe P "numbers_lying" 495 (qr 254),qe P "gathered" 502 (qr 261),qe P "in_caster" 509 (qr 268),qe P "bar" 516 (qr 275),qe P "__static_attributes__" 529 (qr 276),qe P "__dict__" 531 (qr 279),qe P "__weakref__" 533 (qr 280),qe P "__doc__" 534 .none] 4),#[]⟩
noncomputable def zpv : Obj:=⟨(qt "type"),.none,(.cls ⟨(.ofString "Machine"),[(qt "object")],[(qr 278),(qt "object")],277,(.ofString "Machine"),true,[],[],false,.none,false⟩),#[.none,.none,(.some (qs "Machine" 359)),(.some (qs "Machine" 367)),(.some (qb "object.__new__")),(.some (.bool true))]⟩
noncomputable def zoS : Obj:=⟨(qt "getset_descriptor"),.none,(.fields #[(qs "__dict__" 530),(qr 278),(qb "function.__dict__"),(qb "function.__dict__#set")]),#[]⟩
noncomputable def zsj : Obj:=⟨(qt "getset_descriptor"),.none,(.fields #[(qs "__weakref__" 532),(qr 278),(qb "ExceptionGroup.__weakref__"),.none]),#[]⟩
noncomputable def zuP : Obj:=⟨(qt "super"),.none,(.fields #[(qr 278),(qr 278),(qr 278)]),#[]⟩
noncomputable def ztd : Obj:=⟨(qt "builtin_function_or_method"),.none,(.fields #[(qb "object.__init_subclass__"),(qr 278)]),#[]⟩
noncomputable def znZ : Obj:=qT []
noncomputable def ztY : Obj:=qN []
noncomputable def zov : Obj:=qT [(qs "_law_script" 542),(qs "_law_k" 543)]
noncomputable def zpA : Obj:=qT []
noncomputable def zuZ : Obj:=qg "_law_cell_at" "_law_cell_at" (top 24)
noncomputable def zrK : Obj:=qC "_law_cell_at" "_law_cell_at" 539 169 2 0 0 3 283 true 284 .none (qr 285) (qr 286) (qr 287) 544 545
noncomputable def zpY : Obj:=qf "_law_cell_at" "_law_cell_at" (top 24) (qs "law_linecaster_k42_broken_and_wrong_codes" 537) (qr 288)
noncomputable def zor : Obj:=qT []
noncomputable def zuf : Obj:=qN []
noncomputable def zos : Obj:=qT [(qs "_law_cell" 550),(qs "_law_k" 551)]
noncomputable def zrN : Obj:=qT []
noncomputable def ztS : Obj:=qg "_law_mixed" "_law_mixed" (top 25)
noncomputable def zqU : Obj:=qC "_law_mixed" "_law_mixed" 547 173 2 0 0 3 290 true 291 .none (qr 292) (qr 293) (qr 294) 552 553
noncomputable def zom : Obj:=qf "_law_mixed" "_law_mixed" (top 25) (qs "law_linecaster_k42_broken_and_wrong_codes" 537) (qr 295)
noncomputable def zpd : Obj:=qT []
noncomputable def zuh : Obj:=qN []
noncomputable def zqn : Obj:=qT [(qs "_law_one" 558),(qs "_law_many" 559)]
noncomputable def zsh : Obj:=qT []
noncomputable def zum : Obj:=qg "_law_bits" "_law_bits" (top 26)
noncomputable def zre : Obj:=qC "_law_bits" "_law_bits" 555 175 1 0 0 3 297 true 298 .none (qr 299) (qr 300) (qr 301) 560 561
noncomputable def zrD : Obj:=qf "_law_bits" "_law_bits" (top 26) (qs "law_linecaster_k42_broken_and_wrong_codes" 537) (qr 302)
noncomputable def zou : Obj:=qT []
noncomputable def ztF : Obj:=qN []
noncomputable def zuR : Obj:=qg "_law_teeth" "_law_teeth" (top 27)
noncomputable def zqP : Obj:=qC "_law_teeth" "_law_teeth" 563 181 2 0 0 3 304 true 305 .none .none .none (qr 306) 566 567
noncomputable def zpq : Obj:=qf "_law_teeth" "_law_teeth" (top 27) (qs "law_linecaster_k42_broken_and_wrong_codes" 537) (qr 307)
noncomputable def zpR : Obj:=qT []
noncomputable def zuG : Obj:=qN []
noncomputable def zqa : Obj:=qT [(qs "_law_script" 572),(qs "_law_most" 573),(qs "_law_signs" 574),(qs "_law_number" 575),(qs "_law_teeth_here" 576),(qs "_law_case_here" 577),(qs "_law_k" 578),(qs "_law_one" 579),(qs "_law_sign" 580)]
noncomputable def zsK : Obj:=qT []
noncomputable def zuS : Obj:=qg "_law_case" "_law_case" (top 28)
noncomputable def zrH : Obj:=qC "_law_case" "_law_case" 569 190 2 0 0 3 309 true 310 .none (qr 311) (qr 312) (qr 313) 581 582
noncomputable def zsb : Obj:=qf "_law_case" "_law_case" (top 28) (qs "law_linecaster_k42_broken_and_wrong_codes" 537) (qr 314)
noncomputable def zrw : Obj:=qT []
noncomputable def ztb : Obj:=qN []
noncomputable def zub : Obj:=qg "_law_lines" "_law_lines" (top 29)
noncomputable def zoG : Obj:=qC "_law_lines" "_law_lines" 584 200 2 0 0 3 316 true 317 .none .none .none (qr 318) 587 588
noncomputable def zpt : Obj:=qf "_law_lines" "_law_lines" (top 29) (qs "law_linecaster_k42_broken_and_wrong_codes" 537) (qr 319)
noncomputable def zso : Obj:=qT []
noncomputable def ztf : Obj:=qN []
noncomputable def zun : Obj:=qg "_law_keys" "_law_keys" (top 30)
noncomputable def zqm : Obj:=qC "_law_keys" "_law_keys" 590 212 1 0 0 3 321 true 322 .none .none .none (qr 323) 593 594
noncomputable def zsQ : Obj:=qf "_law_keys" "_law_keys" (top 30) (qs "law_linecaster_k42_broken_and_wrong_codes" 537) (qr 324)
noncomputable def zoI : Obj:=qT []
noncomputable def zuA : Obj:=qN []
noncomputable def zqC : Obj:=qT [(qs "_law_lanes_here" 599),(qs "_law_keys_here" 600),(qs "_law_casting" 601),(qs "_law_now" 602)]
noncomputable def zob : Obj:=qT []
noncomputable def ztv : Obj:=qg "_law_begin" "_law_begin" (top 31)
noncomputable def zrE : Obj:=qC "_law_begin" "_law_begin" 596 214 3 0 0 3 326 true 327 .none (qr 328) (qr 329) (qr 330) 603 604
noncomputable def zoR : Obj:=qf "_law_begin" "_law_begin" (top 31) (qs "law_linecaster_k42_broken_and_wrong_codes" 537) (qr 331)
noncomputable def zsF : Obj:=qT []
noncomputable def ztc : Obj:=qN []
noncomputable def zqQ : Obj:=qT [(qs "_law_now" 609)]
noncomputable def zrb : Obj:=qT []
noncomputable def zuO : Obj:=qg "_law_rests" "_law_rests" (top 32)
noncomputable def zoq : Obj:=qC "_law_rests" "_law_rests" 606 221 1 0 0 3 333 true 334 .none (qr 335) (qr 336) (qr 337) 610 611
noncomputable def zpk : Obj:=qf "_law_rests" "_law_rests" (top 32) (qs "law_linecaster_k42_broken_and_wrong_codes" 537) (qr 338)
noncomputable def zsJ : Obj:=qT []
noncomputable def ztl : Obj:=qN []
noncomputable def zth : Obj:=qg "_law_stuck" "_law_stuck" (top 33)
noncomputable def zpj : Obj:=qC "_law_stuck" "_law_stuck" 613 223 2 0 0 3 340 true 341 .none .none .none (qr 342) 616 617
noncomputable def zoy : Obj:=qf "_law_stuck" "_law_stuck" (top 33) (qs "law_linecaster_k42_broken_and_wrong_codes" 537) (qr 343)
noncomputable def zoV : Obj:=qT []
noncomputable def zuD : Obj:=qN []
noncomputable def zpL : Obj:=qT [(qs "_law_case_here" 622),(qs "_law_now" 623),(qs "_law_sign" 624),(qs "_law_teeth_here" 625),(qs "_law_k" 626),(qs "_law_channel" 627)]
noncomputable def zpc : Obj:=qT []
noncomputable def zuX : Obj:=qg "_law_fall" "_law_fall" (top 34)
noncomputable def zrl : Obj:=qC "_law_fall" "_law_fall" 619 228 2 0 0 3 345 true 346 .none (qr 347) (qr 348) (qr 349) 628 629
noncomputable def zqF : Obj:=qf "_law_fall" "_law_fall" (top 34) (qs "law_linecaster_k42_broken_and_wrong_codes" 537) (qr 350)
noncomputable def zqL : Obj:=qT []
noncomputable def ztr : Obj:=qN []
noncomputable def zuB : Obj:=qg "_law_cast" "_law_cast" (top 35)
noncomputable def zpO : Obj:=qC "_law_cast" "_law_cast" 631 234 1 0 0 3 352 true 353 .none .none .none (qr 354) 634 635
noncomputable def zqt : Obj:=qf "_law_cast" "_law_cast" (top 35) (qs "law_linecaster_k42_broken_and_wrong_codes" 537) (qr 355)
noncomputable def zod : Obj:=qT []
noncomputable def zuM : Obj:=qN []
noncomputable def zts : Obj:=qg "_law_strike" "_law_strike" (top 36)
noncomputable def zpi : Obj:=qC "_law_strike" "_law_strike" 637 240 2 0 0 3 357 true 358 .none .none .none (qr 359) 640 641
noncomputable def zps : Obj:=qf "_law_strike" "_law_strike" (top 36) (qs "law_linecaster_k42_broken_and_wrong_codes" 537) (qr 360)
noncomputable def zss : Obj:=qT []
noncomputable def zuY : Obj:=qN []
noncomputable def zqV : Obj:=qT [(qs "_law_case_here" 646),(qs "_law_now" 647)]
noncomputable def zrL : Obj:=qT []
noncomputable def zvj : Obj:=qg "_law_tick" "_law_tick" (top 37)
noncomputable def zsG : Obj:=qC "_law_tick" "_law_tick" 643 257 2 0 0 3 362 true 363 .none (qr 364) (qr 365) (qr 366) 648 649
noncomputable def zsE : Obj:=qf "_law_tick" "_law_tick" (top 37) (qs "law_linecaster_k42_broken_and_wrong_codes" 537) (qr 367)
noncomputable def zrr : Obj:=qT []
noncomputable def ztz : Obj:=qN []
noncomputable def zqR : Obj:=qT [(qs "_law_machine" 654),(qs "_law_case_here" 655),(qs "_law_now" 656),(qs "_law_truth" 657)]
noncomputable def zsw : Obj:=qT []
noncomputable def ztL : Obj:=qg "_law_same" "_law_same" (top 38)
noncomputable def zrY : Obj:=qC "_law_same" "_law_same" 651 268 3 0 0 3 369 true 370 .none (qr 371) (qr 372) (qr 373) 658 659
noncomputable def zqI : Obj:=qf "_law_same" "_law_same" (top 38) (qs "law_linecaster_k42_broken_and_wrong_codes" 537) (qr 374)
noncomputable def zpy : Obj:=qT []
noncomputable def ztJ : Obj:=qN []
noncomputable def zux : Obj:=qg "_law_turned" "_law_turned" (top 39)
noncomputable def zpK : Obj:=qC "_law_turned" "_law_turned" 661 279 2 0 0 3 376 true 377 .none .none .none (qr 378) 664 665
noncomputable def zqd : Obj:=qf "_law_turned" "_law_turned" (top 39) (qs "law_linecaster_k42_broken_and_wrong_codes" 537) (qr 379)
noncomputable def zsR : Obj:=qT []
noncomputable def ztA : Obj:=qN []
noncomputable def zot : Obj:=qT [(qs "_law_case_here" 670),(qs "_law_cell" 671),(qs "_law_found" 672),(qs "_law_used" 673),(qs "_law_number" 674),(qs "_law_k" 675),(qs "_law_channel" 676),(qs "_law_lost" 677)]
noncomputable def zqY : Obj:=qT []
noncomputable def zuo : Obj:=qg "_law_broken" "_law_broken" (top 40)
noncomputable def zoa : Obj:=qC "_law_broken" "_law_broken" 667 286 2 0 0 3 381 true 382 .none (qr 383) (qr 384) (qr 385) 678 679
noncomputable def zpz : Obj:=qf "_law_broken" "_law_broken" (top 40) (qs "law_linecaster_k42_broken_and_wrong_codes" 537) (qr 386)
noncomputable def zqS : Obj:=qT []
noncomputable def ztT : Obj:=qN []
noncomputable def zsU : Obj:=qg "_law_lanes" "_law_lanes" (top 41)
noncomputable def zpX : Obj:=qC "_law_lanes" "_law_lanes" 681 298 2 0 0 3 388 true 389 .none .none .none (qr 390) 684 685
noncomputable def zrp : Obj:=qf "_law_lanes" "_law_lanes" (top 41) (qs "law_linecaster_k42_broken_and_wrong_codes" 537) (qr 391)
noncomputable def zpG : Obj:=qT []
noncomputable def ztE : Obj:=qN []
noncomputable def zrQ : Obj:=qT [(qs "_law_script" 690),(qs "_law_case_here" 691),(qs "_law_broken_here" 692),(qs "_law_keys_here" 693),(qs "_law_casting" 694),(qs "_law_handed" 695),(qs "_law_machine" 696),(qs "_law_now" 697)]
noncomputable def zrR : Obj:=qT []
noncomputable def zuL : Obj:=qg "law" "law" (top 42)
noncomputable def zpf : Obj:=qC "law" "law" 687 305 1 0 0 3 393 true 394 .none (qr 395) (qr 396) (qr 397) 698 699
noncomputable def zrc : Obj:=qf "law" "law" (top 42) (qs "law_linecaster_k42_broken_and_wrong_codes" 537) (qr 398)
noncomputable def a_11 (P : Params) : Obj:=h_11
noncomputable def a_12 (P : Params) : Obj:=qN []
noncomputable def a_13 (P : Params) : Obj:=h_13
noncomputable def a_14 (P : Params) : Obj:=h_14
noncomputable def hO (P : Params) : List Obj:=[boot_o_0 P,boot_o_1 P,boot_o_2 P,h_3 P,boot_o_4 P,boot_o_5 P,boot_o_6 P,boot_o_7 P,boot_o_8 P,boot_o_9 P,boot_o_10 P,h_11,h_12,h_13,h_14,h_15,h_16,h_17,h_18,h_19,h_20,h_21,h_22,h_23,h_24 P,h_25,h_26,h_27,h_28,h_29,h_30 P,h_31,h_32,h_33,h_34,h_35,h_36,h_37 P,h_38,h_39,h_40,h_41,h_42,h_43,h_44,h_45,h_46,h_47,h_48,h_49,h_50 P,h_51,h_52,h_53,h_54,h_55,h_56 P,h_57,h_58,h_59,h_60,h_61,h_62,h_63,h_64,h_65,h_66,h_67,h_68,h_69 P,h_70,h_71,h_72,h_73,h_74,h_75,h_76,h_77,h_78,h_79,h_80,h_81,h_82,h_83,h_84,h_85,h_86,h_87,h_88,h_89,h_90,h_91,h_92,h_93,h_94,h_95,h_96,h_97,h_98,h_99,ztk,zoC,zsp,zuC,zqp,zoE,zqx,ztR,zpM,zpN,zvc,zrJ,zqk,zqE,zve,zqW,zrV,ztn,zph,zrB,zqz,ztG,zox,zqJ,zuQ,zog,zoF,zoj,zuz,zui,zoT,zoW,zup,zsZ,ztP P,ztp,zvb,zuK,zvk,zra,zsm,zsX,zrv,zsi,ztH,zoc,zrX,zpJ,zta,zsr,zrA,zvg,zpx,zrO,zqh,zuT,zsv,zrI,ztI,zoK,zsI,zrM,zut,zql,zqi,ztM,zoO,zqf,zoN,ztZ,zqu,zpS,zva,zol,zrg,zqv,zud,zrC,zsD,zuF,zqb,zon,zsH,zte,ztX,zqZ,zqB,zqN,zty,zro,zqs,zuw,zpa,zru,zoP,zur,zoY,zoz,zuU,zrn,zsc,zsg,zuV,zoA,zrU,ztN,zpE,zsM,zse,zua,zpF,zrm,ztq,zpb,zpP,zrj,zuH,zqM,zqr,zug,zpD,zrd,zoX,ztW,zpe,zrP,zuk,zpH,zsy,zoM,zvf,zoB,zqo,ztg,zrS,zoi,zrZ,ztV,zoJ,zsu,ztQ,zqg,zpC,zoL,zvd,ztO,zpV,zsl,zpU,ztK,zok,zoe,zus,zpB,zsO,zpo,zuI,zrF,zqc,zvh,zrx,zst,zsf,ztx,zsC,zpT,zto,zoU,zop,zoD,ztt,zqe,zsT,zsY,zoh,zqq,zpp,zsL P,zpv,zoS,zsj,zuP,ztd,znZ,ztY,zov,zpA,zuZ,zrK,zpY,zor,zuf,zos,zrN,ztS,zqU,zom,zpd,zuh,zqn,zsh,zum,zre,zrD,zou,ztF,zuR,zqP,zpq,zpR,zuG,zqa,zsK,zuS,zrH,zsb,zrw,ztb,zub,zoG,zpt,zso,ztf,zun,zqm,zsQ,zoI,zuA,zqC,zob,ztv,zrE,zoR,zsF,ztc,zqQ,zrb,zuO,zoq,zpk,zsJ,ztl,zth,zpj,zoy,zoV,zuD,zpL,zpc,zuX,zrl,zqF,zqL,ztr,zuB,zpO,zqt,zod,zuM,zts,zpi,zps,zss,zuY,zqV,zrL,zvj,zsG,zsE,zrr,ztz,zqR,zsw,ztL,zrY,zqI,zpy,ztJ,zux,zpK,zqd,zsR,ztA,zot,zqY,zuo,zoa,zpz,zqS,ztT,zsU,zpX,zrp,zpG,ztE,zrQ,zrR,zuL,zpf,zrc]
noncomputable def hA (P : Params) : List Obj:=[boot_o_0 P,boot_o_1 P,boot_o_2 P,boot_o_3 P,boot_o_4 P,boot_o_5 P,boot_o_6 P,boot_o_7 P,boot_o_8 P,boot_o_9 P,boot_o_10 P,a_11 P,a_12 P,a_13 P,a_14 P]
noncomputable def hK (P : Params) : Frag:=(nat_lit 2,boot_o_2 P) :: (nat_lit 3,h_3 P) :: (nat_lit 15,h_15) :: (nat_lit 17,h_17) :: (nat_lit 18,h_18) :: (nat_lit 20,h_20) :: (nat_lit 21,h_21) :: (nat_lit 22,h_22) :: (nat_lit 29,h_29) :: (nat_lit 30,h_30 P) :: (nat_lit 31,h_31) :: (nat_lit 32,h_32) :: (nat_lit 35,h_35) :: (nat_lit 42,h_42) :: (nat_lit 44,h_44) :: (nat_lit 45,h_45) :: (nat_lit 47,h_47) :: (nat_lit 48,h_48) :: (nat_lit 49,h_49) :: (nat_lit 50,h_50 P) :: (nat_lit 51,h_51) :: (nat_lit 54,h_54) :: (nat_lit 61,h_61) :: (nat_lit 63,h_63) :: (nat_lit 64,h_64) :: (nat_lit 66,h_66) :: (nat_lit 67,h_67) :: (nat_lit 68,h_68) :: (nat_lit 69,h_69 P) :: (nat_lit 70,h_70) :: (nat_lit 73,h_73) :: (nat_lit 75,h_75) :: (nat_lit 76,h_76) :: (nat_lit 78,h_78) :: (nat_lit 79,h_79) :: (nat_lit 80,h_80) :: (nat_lit 82,h_82) :: (nat_lit 83,h_83) :: (nat_lit 85,h_85) :: (nat_lit 86,h_86) :: (nat_lit 87,h_87) :: (nat_lit 89,h_89) :: (nat_lit 90,h_90) :: (nat_lit 92,h_92) :: (nat_lit 93,h_93) :: (nat_lit 94,h_94) :: (nat_lit 97,h_97) :: (nat_lit 98,h_98) :: (nat_lit 99,h_99) :: (nat_lit 101,zoC) :: (nat_lit 102,zsp) :: (nat_lit 104,zqp) :: (nat_lit 105,zoE) :: (nat_lit 106,zqx) :: (nat_lit 108,zpM) :: (nat_lit 109,zpN) :: (nat_lit 111,zrJ) :: (nat_lit 112,zqk) :: (nat_lit 113,zqE) :: (nat_lit 115,zqW) :: (nat_lit 116,zrV) :: (nat_lit 118,zph) :: (nat_lit 119,zrB) :: (nat_lit 120,zqz) :: (nat_lit 122,zox) :: (nat_lit 123,zqJ) :: (nat_lit 125,zog) :: (nat_lit 126,zoF) :: (nat_lit 127,zoj) :: (nat_lit 130,zoT) :: (nat_lit 131,zoW) :: (nat_lit 139,zra) :: (nat_lit 140,zsm) :: (nat_lit 142,zrv) :: (nat_lit 143,zsi) :: (nat_lit 145,zoc) :: (nat_lit 146,zrX) :: (nat_lit 147,zpJ) :: (nat_lit 149,zsr) :: (nat_lit 150,zrA) :: (nat_lit 152,zpx) :: (nat_lit 153,zrO) :: (nat_lit 154,zqh) :: (nat_lit 156,zsv) :: (nat_lit 157,zrI) :: (nat_lit 159,zoK) :: (nat_lit 160,zsI) :: (nat_lit 161,zrM) :: (nat_lit 163,zql) :: (nat_lit 164,zqi) :: (nat_lit 166,zoO) :: (nat_lit 167,zqf) :: (nat_lit 168,zoN) :: (nat_lit 170,zqu) :: (nat_lit 171,zpS) :: (nat_lit 173,zol) :: (nat_lit 174,zrg) :: (nat_lit 175,zqv) :: (nat_lit 177,zrC) :: (nat_lit 178,zsD) :: (nat_lit 180,zqb) :: (nat_lit 181,zon) :: (nat_lit 182,zsH) :: (nat_lit 185,zqZ) :: (nat_lit 186,zqB) :: (nat_lit 187,zqN) :: (nat_lit 189,zro) :: (nat_lit 190,zqs) :: (nat_lit 192,zpa) :: (nat_lit 193,zru) :: (nat_lit 194,zoP) :: (nat_lit 196,zoY) :: (nat_lit 197,zoz) :: (nat_lit 199,zrn) :: (nat_lit 200,zsc) :: (nat_lit 201,zsg) :: (nat_lit 203,zoA) :: (nat_lit 204,zrU) :: (nat_lit 206,zpE) :: (nat_lit 207,zsM) :: (nat_lit 208,zse) :: (nat_lit 210,zpF) :: (nat_lit 211,zrm) :: (nat_lit 213,zpb) :: (nat_lit 214,zpP) :: (nat_lit 215,zrj) :: (nat_lit 217,zqM) :: (nat_lit 218,zqr) :: (nat_lit 220,zpD) :: (nat_lit 221,zrd) :: (nat_lit 222,zoX) :: (nat_lit 224,zpe) :: (nat_lit 225,zrP) :: (nat_lit 227,zpH) :: (nat_lit 228,zsy) :: (nat_lit 229,zoM) :: (nat_lit 231,zoB) :: (nat_lit 232,zqo) :: (nat_lit 234,zrS) :: (nat_lit 235,zoi) :: (nat_lit 236,zrZ) :: (nat_lit 238,zoJ) :: (nat_lit 239,zsu) :: (nat_lit 241,zqg) :: (nat_lit 242,zpC) :: (nat_lit 243,zoL) :: (nat_lit 246,zpV) :: (nat_lit 247,zsl) :: (nat_lit 248,zpU) :: (nat_lit 250,zok) :: (nat_lit 251,zoe) :: (nat_lit 253,zpB) :: (nat_lit 254,zsO) :: (nat_lit 255,zpo) :: (nat_lit 257,zrF) :: (nat_lit 258,zqc) :: (nat_lit 260,zrx) :: (nat_lit 261,zst) :: (nat_lit 262,zsf) :: (nat_lit 264,zsC) :: (nat_lit 265,zpT) :: (nat_lit 267,zoU) :: (nat_lit 268,zop) :: (nat_lit 269,zoD) :: (nat_lit 271,zqe) :: (nat_lit 272,zsT) :: (nat_lit 274,zoh) :: (nat_lit 275,zqq) :: (nat_lit 276,zpp) :: (nat_lit 277,zsL P) :: (nat_lit 278,zpv) :: (nat_lit 279,zoS) :: (nat_lit 280,zsj) :: (nat_lit 283,znZ) :: (nat_lit 285,zov) :: (nat_lit 286,zpA) :: (nat_lit 288,zrK) :: (nat_lit 289,zpY) :: (nat_lit 290,zor) :: (nat_lit 292,zos) :: (nat_lit 293,zrN) :: (nat_lit 295,zqU) :: (nat_lit 296,zom) :: (nat_lit 297,zpd) :: (nat_lit 299,zqn) :: (nat_lit 300,zsh) :: (nat_lit 302,zre) :: (nat_lit 303,zrD) :: (nat_lit 304,zou) :: (nat_lit 307,zqP) :: (nat_lit 308,zpq) :: (nat_lit 309,zpR) :: (nat_lit 311,zqa) :: (nat_lit 312,zsK) :: (nat_lit 314,zrH) :: (nat_lit 315,zsb) :: (nat_lit 316,zrw) :: (nat_lit 319,zoG) :: (nat_lit 320,zpt) :: (nat_lit 321,zso) :: (nat_lit 324,zqm) :: (nat_lit 325,zsQ) :: (nat_lit 326,zoI) :: (nat_lit 328,zqC) :: (nat_lit 329,zob) :: (nat_lit 331,zrE) :: (nat_lit 332,zoR) :: (nat_lit 333,zsF) :: (nat_lit 335,zqQ) :: (nat_lit 336,zrb) :: (nat_lit 338,zoq) :: (nat_lit 339,zpk) :: (nat_lit 340,zsJ) :: (nat_lit 343,zpj) :: (nat_lit 344,zoy) :: (nat_lit 345,zoV) :: (nat_lit 347,zpL) :: (nat_lit 348,zpc) :: (nat_lit 350,zrl) :: (nat_lit 351,zqF) :: (nat_lit 352,zqL) :: (nat_lit 355,zpO) :: (nat_lit 356,zqt) :: (nat_lit 357,zod) :: (nat_lit 360,zpi) :: (nat_lit 361,zps) :: (nat_lit 362,zss) :: (nat_lit 364,zqV) :: (nat_lit 365,zrL) :: (nat_lit 367,zsG) :: (nat_lit 368,zsE) :: (nat_lit 369,zrr) :: (nat_lit 371,zqR) :: (nat_lit 372,zsw) :: (nat_lit 374,zrY) :: (nat_lit 375,zqI) :: (nat_lit 376,zpy) :: (nat_lit 379,zpK) :: (nat_lit 380,zqd) :: (nat_lit 381,zsR) :: (nat_lit 383,zot) :: (nat_lit 384,zqY) :: (nat_lit 386,zoa) :: (nat_lit 387,zpz) :: (nat_lit 388,zqS) :: (nat_lit 391,zpX) :: (nat_lit 392,zrp) :: (nat_lit 393,zpG) :: (nat_lit 395,zrQ) :: (nat_lit 396,zrR) :: (nat_lit 398,zpf) :: (nat_lit 399,zrc) :: []
abbrev has : List Addr:=[2,3,15,17,18,20,21,22,29,30,31,32,35,42,44,45,47,48,49,50,51,54,61,63,64,66,67,68,69,70,73,75,76,78,79,80,82,83,85,86,87,89,90,92,93,94,97,98,99,101,102,104,105,106,108,109,111,112,113,115,116,118,119,120,122,123,125,126,127,130,131,139,140,142,143,145,146,147,149,150,152,153,154,156,157,159,160,161,163,164,166,167,168,170,171,173,174,175,177,178,180,181,182,185,186,187,189,190,192,193,194,196,197,199,200,201,203,204,206,207,208,210,211,213,214,215,217,218,220,221,222,224,225,227,228,229,231,232,234,235,236,238,239,241,242,243,246,247,248,250,251,253,254,255,257,258,260,261,262,264,265,267,268,269,271,272,274,275,276,277,278,279,280,283,285,286,288,289,290,292,293,295,296,297,299,300,302,303,304,307,308,309,311,312,314,315,316,319,320,321,324,325,326,328,329,331,332,333,335,336,338,339,340,343,344,345,347,348,350,351,352,355,356,357,360,361,362,364,365,367,368,369,371,372,374,375,376,379,380,381,383,384,386,387,388,391,392,393,395,396,398,399]
abbrev zgP : Life:=⟨[],[],[],0,[],[],false,#[],[],0,false,false,false,0,[2000,10,10],false,0,true,[],[],0,false⟩
abbrev hD : HD:=⟨5038,12,0,2456,1,⟨0,0,0,0⟩,187,⟨0,0,0,0⟩,187,⟨0,0,0,0⟩,701,400,15,⟨0,0,0,0⟩,⟨0,0,0,0⟩,⟨0,0,0,0⟩,⟨305,0,320,93⟩,(qr 13),14,(.some (qr 6))⟩
abbrev hview : Program:={ PySem.Challenge.pw_linecaster_k42_broken_and_wrong_codes with main:={ PySem.Challenge.pw_linecaster_k42_broken_and_wrong_codes.main with body:=[top 0,top 2,top 3,top 4,top 6,top 7,top 9,top 10,top 12,top 13,top 14,top 15,top 16,top 18,top 19,top 21,top 22,top 24,top 25,top 26,top 27,top 28,top 29,top 30,top 31,top 32,top 33,top 34,top 35,top 36,top 37,top 38,top 39,top 40,top 41,top 42] } }
theorem hpre : Hd.Pre PySem.Challenge.pw_linecaster_k42_broken_and_wrong_codes hD zgP hA:=fun w os=>by kernel_rfl
theorem hblk : Hd.Blk PySem.Challenge.pw_linecaster_k42_broken_and_wrong_codes hD zgP hA:=fun w os=>by kernel_rfl
theorem hgo : Hd.Go PySem.Challenge.pw_linecaster_k42_broken_and_wrong_codes hD zgP hA hO:=fun w os=>by kernel_rfl
theorem hfin : Hd.Fin PySem.Challenge.pw_linecaster_k42_broken_and_wrong_codes hD zgP hO:=fun w os=>by kernel_rfl
theorem hl1 : Hd.Lk1 PySem.Challenge.pw_linecaster_k42_broken_and_wrong_codes hD zgP hO:=fun w os=>by kernel_rfl
theorem hl3 : Hd.Lk3 hD zgP hO hK has:=fun w os=>by kernel_rfl
theorem hKe : ∀ P,has = (hK P).map (·.1):=fun P=>by kernel_rfl
theorem hl2 : Hd.Lk2 PySem.Challenge.pw_linecaster_k42_broken_and_wrong_codes hview hD zgP hO (Hd.XtH PySem.Challenge.rw_linecaster_k42_broken_and_wrong_codes hview):=fun w os=>by kernel_rfl
theorem hsaid : Hd.zry PySem.Challenge.rw_linecaster_k42_broken_and_wrong_codes = true:=by kernel_rfl
theorem hleft : LeftO PySem.Challenge.pw_linecaster_k42_broken_and_wrong_codes hview [] (Hd.XtH PySem.Challenge.rw_linecaster_k42_broken_and_wrong_codes hview) (Hook.obs (kHook hK has hKe)) (Hook.val (kHook hK has hKe)) hD.N:=Hd.znS (D:=hD) (L:=zgP) (A:=hA) (O:=hO) (by kernel_rfl) (fun s=>by kernel_rfl) (by kernel_rfl) (by kernel_rfl) (by kernel_rfl) hpre hblk hgo hfin hl1 hl2 hl3
end
end
end Lw
open PySem PySem.W PyProof.Rows
set_option maxRecDepth 100000 in
set_option maxHeartbeats 0 in
theorem PySem.Challenge.cw_linecaster_k42_broken_and_wrong_codes_holds : PySem.Challenge.rw_linecaster_k42_broken_and_wrong_codes.Holds := by
 w_on
 refine Hd.holds (st:=Lw.s_law) (x:="law") (l:=PySem.Challenge.rw_linecaster_k42_broken_and_wrong_codes) (q:=Lw.hview) (K:=Lw.hK) (as:=Lw.has) (e:=Lw.hKe) (N:=Lw.hD.N) Lw.hsaid Lw.hleft (by kernel_rfl) (by kernel_rfl) (by kernel_rfl) (by kernel_rfl) (by decide +kernel) ⟨rfl,rfl,rfl,rfl,rfl,by decide +kernel⟩ ?hw ?hc
 (case hw=>w_witness2)
 k_fill
 refine L2.walk_ofK (l:=PySem.Challenge.rw_linecaster_k42_broken_and_wrong_codes) (n:=63) (k:=Lw.lawLevel) (x:="_law_script") (CX:=L2.CX0) (sp:=Lw.sp_law) rfl (by decide) rfl ⟨rfl,by decide,by decide⟩ (fun w h Y=>PySem.W.kIn_of Y) ?F ?S ?C
 case F =>
  intro w mg fa h KX G hmg
  have T : ∃ a : Lw.Ad,Lw.Tx (L2.KOf KX) mg a:=by
   dsimp only [L2.KOf]
   refine' Lw.txt_mk KX G ?a0 ?l0 ?c0 ?k0 ?a1 ?l1 ?c1 ?k1 ?a2 ?l2 ?c2 ?k2 ?a3 ?l3 ?c3 ?k3 ?a4 ?l4 ?c4 ?k4 ?a5 ?l5 ?c5 ?k5 ?a6 ?l6 ?c6 ?k6 ?a7 ?l7 ?c7 ?k7 ?a8 ?l8 ?c8 ?k8 ?a9 ?l9 ?c9 ?k9 ?a10 ?l10 ?c10 ?k10 ?a11 ?l11 ?c11 ?k11 ?a12 ?l12 ?c12 ?k12 ?a13 ?l13 ?c13 ?k13 ?a14 ?l14 ?c14 ?k14 ?a15 ?l15 ?c15 ?k15 ?a16 ?l16 ?c16 ?k16 ?a17 ?l17 ?c17 ?k17 ?a18 ?l18 ?c18 ?k18 ?a19 ?l19 ?c19 ?k19 ?a20 ?l20 ?c20 ?k20 ?a21 ?l21 ?c21 ?k21 ?a22 ?l22 ?c22 ?k22 ?a23 ?l23 ?c23 ?k23 ?a24 ?l24 ?c24 ?k24 ?a25 ?l25 ?c25 ?k25 ?a26 ?l26 ?c26 ?k26 ?a27 ?l27 ?c27 ?k27 ?a28 ?l28 ?c28 ?k28 ?ca_Machine ?pg_Machine ?hd_Machine ?po_Machine ?sa_Machine ?mk_Machine ?kc_Machine ?a_Machine_init ?i_Machine_init ?l_Machine_init ?c_Machine_init ?k_Machine_init ?t_Machine_init ?a_Machine_next_key ?i_Machine_next_key ?l_Machine_next_key ?c_Machine_next_key ?k_Machine_next_key ?a_Machine_lacks_matrix ?i_Machine_lacks_matrix ?l_Machine_lacks_matrix ?c_Machine_lacks_matrix ?k_Machine_lacks_matrix ?a_Machine_stuck ?i_Machine_stuck ?l_Machine_stuck ?c_Machine_stuck ?k_Machine_stuck ?a_Machine_resting ?i_Machine_resting ?l_Machine_resting ?c_Machine_resting ?k_Machine_resting ?a_Machine_move_bar ?i_Machine_move_bar ?l_Machine_move_bar ?c_Machine_move_bar ?k_Machine_move_bar ?a_Machine_move_caster ?i_Machine_move_caster ?l_Machine_move_caster ?c_Machine_move_caster ?k_Machine_move_caster ?a_Machine_move_line ?i_Machine_move_line ?l_Machine_move_line ?c_Machine_move_line ?k_Machine_move_line ?a_Machine_send_line ?i_Machine_send_line ?l_Machine_send_line ?c_Machine_send_line ?k_Machine_send_line ?a_Machine_take ?i_Machine_take ?l_Machine_take ?c_Machine_take ?k_Machine_take ?a_Machine_tick ?i_Machine_tick ?l_Machine_tick ?c_Machine_tick ?k_Machine_tick ?a_Machine_ticks ?i_Machine_ticks ?l_Machine_ticks ?c_Machine_ticks ?k_Machine_ticks ?a_Machine_slugs ?i_Machine_slugs ?l_Machine_slugs ?c_Machine_slugs ?k_Machine_slugs ?a_Machine_waited ?i_Machine_waited ?l_Machine_waited ?c_Machine_waited ?k_Machine_waited ?a_Machine_channels ?i_Machine_channels ?l_Machine_channels ?c_Machine_channels ?k_Machine_channels ?a_Machine_gathered ?i_Machine_gathered ?l_Machine_gathered ?c_Machine_gathered ?k_Machine_gathered ?a_Machine_in_caster ?i_Machine_in_caster ?l_Machine_in_caster ?c_Machine_in_caster ?k_Machine_in_caster ?a_Machine_bar ?i_Machine_bar ?l_Machine_bar ?c_Machine_bar ?k_Machine_bar ?n_Machine_lying ?n_Machine_case ?n_Machine_played ?n_Machine_struck ?n_Machine_casting ?n_Machine_line ?n_Machine_heated ?n_Machine_to_go ?n_Machine_hanging ?n_Machine_texts ?n_Machine_done ?n_Machine_waits ?y_GAP_KEY ?y_SEND_KEY ?y_WEDGE ?z_ValueError ?z_bool ?z_enumerate ?z_isinstance ?z_len ?z_list ?z_range ?z_sorted
   (case a0=>k_is)
   (case l0=>k_is)
   (case c0=>k_is)
   (case k0=>k_is)
   (case a1=>k_is)
   (case l1=>k_is)
   (case c1=>k_is)
   (case k1=>k_is)
   (case a2=>k_is)
   (case l2=>k_is)
   (case c2=>k_is)
   (case k2=>k_is)
   (case a3=>k_is)
   (case l3=>k_is)
   (case c3=>k_is)
   (case k3=>k_is)
   (case a4=>k_is)
   (case l4=>k_is)
   (case c4=>k_is)
   (case k4=>k_is)
   (case a5=>k_is)
   (case l5=>k_is)
   (case c5=>k_is)
   (case k5=>k_is)
   (case a6=>k_is)
   (case l6=>k_is)
   (case c6=>k_is)
   (case k6=>k_is)
   (case a7=>k_is)
   (case l7=>k_is)
   (case c7=>k_is)
   (case k7=>k_is)
   (case a8=>k_is)
   (case l8=>k_is)
   (case c8=>k_is)
   (case k8=>k_is)
   (case a9=>k_is)
   (case l9=>k_is)
   (case c9=>k_is)
   (case k9=>k_is)
   (case a10=>k_is)
   (case l10=>k_is)
   (case c10=>k_is)
   (case k10=>k_is)
   (case a11=>k_is)
   (case l11=>k_is)
   (case c11=>k_is)
   (case k11=>k_is)
   (case a12=>k_is)
   (case l12=>k_is)
   (case c12=>k_is)
   (case k12=>k_is)
   (case a13=>k_is)
   (case l13=>k_is)
   (case c13=>k_is)
   (case k13=>k_is)
   (case a14=>k_is)
   (case l14=>k_is)
   (case c14=>k_is)
   (case k14=>k_is)
   (case a15=>k_is)
   (case l15=>k_is)
   (case c15=>k_is)
   (case k15=>k_is)
   (case a16=>k_is)
   (case l16=>k_is)
   (case c16=>k_is)
   (case k16=>k_is)
   (case a17=>k_is)
   (case l17=>k_is)
   (case c17=>k_is)
   (case k17=>k_is)
   (case a18=>k_is)
   (case l18=>k_is)
   (case c18=>k_is)
   (case k18=>k_is)
   (case a19=>k_is)
   (case l19=>k_is)
   (case c19=>k_is)
   (case k19=>k_is)
   (case a20=>k_is)
   (case l20=>k_is)
   (case c20=>k_is)
   (case k20=>k_is)
   (case a21=>k_is)
   (case l21=>k_is)
   (case c21=>k_is)
   (case k21=>k_is)
   (case a22=>k_is)
   (case l22=>k_is)
   (case c22=>k_is)
   (case k22=>k_is)
   (case a23=>k_is)
   (case l23=>k_is)
   (case c23=>k_is)
   (case k23=>k_is)
   (case a24=>k_is)
   (case l24=>k_is)
   (case c24=>k_is)
   (case k24=>k_is)
   (case a25=>k_is)
   (case l25=>k_is)
   (case c25=>k_is)
   (case k25=>k_is)
   (case a26=>k_is)
   (case l26=>k_is)
   (case c26=>k_is)
   (case k26=>k_is)
   (case a27=>k_is)
   (case l27=>k_is)
   (case c27=>k_is)
   (case k27=>k_is)
   (case a28=>k_is)
   (case l28=>k_is)
   (case c28=>k_is)
   (case k28=>k_is)
   (case ca_Machine=>k_is)
   (case pg_Machine=>k_is)
   (case hd_Machine=>k_is)
   (case po_Machine=>k_is)
   (case sa_Machine=>k_is)
   (case mk_Machine=>k_is)
   (case kc_Machine=>k_is)
   (case a_Machine_init=>k_is)
   (case i_Machine_init=>k_is)
   (case l_Machine_init=>k_is)
   (case c_Machine_init=>k_is)
   (case k_Machine_init=>k_is)
   (case t_Machine_init=>k_is)
   (case a_Machine_next_key=>k_is)
   (case i_Machine_next_key=>k_is)
   (case l_Machine_next_key=>k_is)
   (case c_Machine_next_key=>k_is)
   (case k_Machine_next_key=>k_is)
   (case a_Machine_lacks_matrix=>k_is)
   (case i_Machine_lacks_matrix=>k_is)
   (case l_Machine_lacks_matrix=>k_is)
   (case c_Machine_lacks_matrix=>k_is)
   (case k_Machine_lacks_matrix=>k_is)
   (case a_Machine_stuck=>k_is)
   (case i_Machine_stuck=>k_is)
   (case l_Machine_stuck=>k_is)
   (case c_Machine_stuck=>k_is)
   (case k_Machine_stuck=>k_is)
   (case a_Machine_resting=>k_is)
   (case i_Machine_resting=>k_is)
   (case l_Machine_resting=>k_is)
   (case c_Machine_resting=>k_is)
   (case k_Machine_resting=>k_is)
   (case a_Machine_move_bar=>k_is)
   (case i_Machine_move_bar=>k_is)
   (case l_Machine_move_bar=>k_is)
   (case c_Machine_move_bar=>k_is)
   (case k_Machine_move_bar=>k_is)
   (case a_Machine_move_caster=>k_is)
   (case i_Machine_move_caster=>k_is)
   (case l_Machine_move_caster=>k_is)
   (case c_Machine_move_caster=>k_is)
   (case k_Machine_move_caster=>k_is)
   (case a_Machine_move_line=>k_is)
   (case i_Machine_move_line=>k_is)
   (case l_Machine_move_line=>k_is)
   (case c_Machine_move_line=>k_is)
   (case k_Machine_move_line=>k_is)
   (case a_Machine_send_line=>k_is)
   (case i_Machine_send_line=>k_is)
   (case l_Machine_send_line=>k_is)
   (case c_Machine_send_line=>k_is)
   (case k_Machine_send_line=>k_is)
   (case a_Machine_take=>k_is)
   (case i_Machine_take=>k_is)
   (case l_Machine_take=>k_is)
   (case c_Machine_take=>k_is)
   (case k_Machine_take=>k_is)
   (case a_Machine_tick=>k_is)
   (case i_Machine_tick=>k_is)
   (case l_Machine_tick=>k_is)
   (case c_Machine_tick=>k_is)
   (case k_Machine_tick=>k_is)
   (case a_Machine_ticks=>k_is)
   (case i_Machine_ticks=>k_is)
   (case l_Machine_ticks=>k_is)
   (case c_Machine_ticks=>k_is)
   (case k_Machine_ticks=>k_is)
   (case a_Machine_slugs=>k_is)
   (case i_Machine_slugs=>k_is)
   (case l_Machine_slugs=>k_is)
   (case c_Machine_slugs=>k_is)
   (case k_Machine_slugs=>k_is)
   (case a_Machine_waited=>k_is)
   (case i_Machine_waited=>k_is)
   (case l_Machine_waited=>k_is)
   (case c_Machine_waited=>k_is)
   (case k_Machine_waited=>k_is)
   (case a_Machine_channels=>k_is)
   (case i_Machine_channels=>k_is)
   (case l_Machine_channels=>k_is)
   (case c_Machine_channels=>k_is)
   (case k_Machine_channels=>k_is)
   (case a_Machine_gathered=>k_is)
   (case i_Machine_gathered=>k_is)
   (case l_Machine_gathered=>k_is)
   (case c_Machine_gathered=>k_is)
   (case k_Machine_gathered=>k_is)
   (case a_Machine_in_caster=>k_is)
   (case i_Machine_in_caster=>k_is)
   (case l_Machine_in_caster=>k_is)
   (case c_Machine_in_caster=>k_is)
   (case k_Machine_in_caster=>k_is)
   (case a_Machine_bar=>k_is)
   (case i_Machine_bar=>k_is)
   (case l_Machine_bar=>k_is)
   (case c_Machine_bar=>k_is)
   (case k_Machine_bar=>k_is)
   (case n_Machine_lying=>k_is)
   (case n_Machine_case=>k_is)
   (case n_Machine_played=>k_is)
   (case n_Machine_struck=>k_is)
   (case n_Machine_casting=>k_is)
   (case n_Machine_line=>k_is)
   (case n_Machine_heated=>k_is)
   (case n_Machine_to_go=>k_is)
   (case n_Machine_hanging=>k_is)
   (case n_Machine_texts=>k_is)
   (case n_Machine_done=>k_is)
   (case n_Machine_waits=>k_is)
   (case y_GAP_KEY=>k_is)
   (case y_SEND_KEY=>k_is)
   (case y_WEDGE=>k_is)
   (case z_ValueError=>k_is)
   (case z_bool=>k_is)
   (case z_enumerate=>k_is)
   (case z_isinstance=>k_is)
   (case z_len=>k_is)
   (case z_list=>k_is)
   (case z_range=>k_is)
   (case z_sorted=>k_is)
  obtain ⟨a,T⟩:=T
  have e0:=hmg.symm.trans T.law.mg
  cases e0
  exact ⟨_,fun s u=>.of_eq (T.law.ba [u] rfl),fun base kb nb=>Lw.ok_law T⟩
 case S=>exact fun K H a ns hl hO hS=>⟨a,ns,rfl,hS,hl,fun _=>rfl⟩
 case C=>exact fun _ _ _ _ z=>z
